/- How both chips count a call, and how their pages read. -/
import Derived.Test.YtodmdkhdbfbfgaaChipTell
namespace Go.Proofs.Ytodmdkhdbfbfgaa
open Go.RowKit Pk
set_option linter.unusedVariables false

/-- What becomes of a call: 0 it is done, 1 it fails, 2 the power goes, 3 there is none; and the two counts behind it. -/
def callF (life fail : Int) : Int × Int × Int :=
  if life = 0 then (3, life, fail)
  else if life = 1 then (2, 0, fail)
  else if fail < 0 then (0, if 0 < life then life - 1 else life, fail)
  else if fail = 0 then (1, if 0 < life then life - 1 else life, -1)
  else (0, if 0 < life then life - 1 else life, fail - 1)

theorem callF_rng (life fail : Int) (h1 : -1 ≤ life) (h2 : life ≤ 1073741825) (h3 : -1 ≤ fail) (h4 : fail ≤ 1073741824) :
    0 ≤ (callF life fail).1 ∧ (callF life fail).1 ≤ 3 ∧ -1 ≤ (callF life fail).2.1 ∧ (callF life fail).2.1 ≤ 1073741825 ∧ -1 ≤ (callF life fail).2.2 ∧ (callF life fail).2.2 ≤ 1073741824 := by
  unfold callF
  repeat' split
  all_goals simp
  all_goals omega

set_option maxHeartbeats 1600000 in
theorem count_any (w : World) (lo hi cb : Nat) (L : Loc) (m : M) (hw : WF m) (h : CP w lo hi cb L m) : Calls Try.prog 52 #[.pointer (some ⟨cb, 0, none⟩)] w fun e w' => e = .returned (.int .i64 (callF m.life m.fail).1) ∧ CP w' lo hi cb L { m with life := (callF m.life m.fail).2.1, fail := (callF m.life m.fail).2.2 } ∧ Only lo hi w w' := by
  have hl1 := hw.life1
  have hl2 := hw.life2
  have hf1 := hw.fail1
  have hf2 := hw.fail2
  have c4 := MemX.c4 h
  have cf := MemX.c6 h
  have z4 := MemX.fz h 4
  have zf := MemX.fz h 6
  have hcb := MemX.hcb h
  by_cases h0 : m.life = 0
  · have e : callF m.life m.fail = (3, m.life, m.fail) := by unfold callF; rw [if_pos h0]
    rw [e]
    have hb : (m.life == 0) = true := by simpa using h0
    have H := hidI h
    clear h e h0
    go_enter Try.func52, Try.ntmps52
    go_wp2
    go_ret
    exact ⟨rfl, H.out, Only.refl _ _ _⟩
  · have hb : (m.life == 0) = false := by simpa using h0
    by_cases h1 : m.life = 1
    · have e : callF m.life m.fail = (2, 0, m.fail) := by unfold callF; rw [if_neg h0, if_pos h1]
      rw [e]
      have H : Hid (CP (w.setCell ⟨cb, 4, none⟩ (.int .i64 0)) lo hi cb L { m with life := 0, fail := m.fail }) := (MemX.field h 4 0 _ _ _ _ rfl).re _ rfl rfl rfl rfl rfl
      have hs : m.life - 1 = 0 := by omega
      have hp : 0 < m.life := by omega
      clear h e h0 h1
      generalize m.life = l at *
      generalize m.fail = f at *
      go_enter Try.func52, Try.ntmps52
      go_wp2
      go_ret
      exact ⟨rfl, H.out, (Only.refl _ _ _).set hcb 4 _⟩
    · by_cases hp : 0 < m.life
      · have hb1 : (m.life - 1 == 0) = false := by simp; omega
        have hm : MemX (w.setCell ⟨cb, 4, none⟩ (.int .i64 (m.life - 1))) lo hi cb 76 L m id (m.life - 1) m.cut m.fail m.part := MemX.field h 4 (m.life - 1) _ _ _ _ rfl
        have cf' := MemX.c6 hm
        have zf' := MemX.fz hm 6
        by_cases hf : m.fail < 0
        · have e : callF m.life m.fail = (0, m.life - 1, m.fail) := by unfold callF; rw [if_neg h0, if_neg h1, if_pos hf, if_pos hp]
          rw [e]
          have H : Hid (CP (w.setCell ⟨cb, 4, none⟩ (.int .i64 (m.life - 1))) lo hi cb L { m with life := m.life - 1, fail := m.fail }) := hm.re _ rfl rfl rfl rfl rfl
          clear h e h0 h1 hm
          generalize m.life = l at *
          generalize m.fail = f at *
          go_enter Try.func52, Try.ntmps52
          go_wp2
          go_ret
          exact ⟨rfl, H.out, (Only.refl _ _ _).set hcb 4 _⟩
        · by_cases hfz : m.fail = 0
          · have e : callF m.life m.fail = (1, m.life - 1, -1) := by unfold callF; rw [if_neg h0, if_neg h1, if_neg hf, if_pos hfz, if_pos hp]
            rw [e]
            have H : Hid (CP ((w.setCell ⟨cb, 4, none⟩ (.int .i64 (m.life - 1))).setCell ⟨cb, 6, none⟩ (.int .i64 (-1))) lo hi cb L { m with life := m.life - 1, fail := -1 }) := (MemX.field hm 6 (-1) _ _ _ _ rfl).re _ rfl rfl rfl rfl rfl
            have hs : m.fail - 1 = -1 := by omega
            have cfx : ((w.setCell ⟨cb, 4, none⟩ (.int .i64 (m.life - 1))).setCell ⟨cb, 6, none⟩ (.int .i64 (-1))).cell? ⟨cb, 6, none⟩ = some (.int .i64 (-1)) := MemX.c6 H.out
            clear h e h0 h1 hm
            generalize m.life = l at *
            generalize m.fail = f at *
            go_enter Try.func52, Try.ntmps52
            go_wp2
            go_ret
            exact ⟨rfl, H.out, ((Only.refl _ _ _).set hcb 4 _).set hcb 6 _⟩
          · have e : callF m.life m.fail = (0, m.life - 1, m.fail - 1) := by unfold callF; rw [if_neg h0, if_neg h1, if_neg hf, if_neg hfz, if_pos hp]
            rw [e]
            have H : Hid (CP ((w.setCell ⟨cb, 4, none⟩ (.int .i64 (m.life - 1))).setCell ⟨cb, 6, none⟩ (.int .i64 (m.fail - 1))) lo hi cb L { m with life := m.life - 1, fail := m.fail - 1 }) := (MemX.field hm 6 (m.fail - 1) _ _ _ _ rfl).re _ rfl rfl rfl rfl rfl
            have cfx : ((w.setCell ⟨cb, 4, none⟩ (.int .i64 (m.life - 1))).setCell ⟨cb, 6, none⟩ (.int .i64 (m.fail - 1))).cell? ⟨cb, 6, none⟩ = some (.int .i64 (m.fail - 1)) := MemX.c6 H.out
            have hfp : 0 < m.fail := by omega
            clear h e h0 h1 hm
            generalize m.life = l at *
            generalize m.fail = f at *
            go_enter Try.func52, Try.ntmps52
            go_wp2
            go_ret
            exact ⟨rfl, H.out, ((Only.refl _ _ _).set hcb 4 _).set hcb 6 _⟩
      · by_cases hf : m.fail < 0
        · have e : callF m.life m.fail = (0, m.life, m.fail) := by unfold callF; rw [if_neg h0, if_neg h1, if_pos hf, if_neg hp]
          rw [e]
          have H : Hid (CP w lo hi cb L { m with life := m.life, fail := m.fail }) := h
          clear h e h0 h1
          go_enter Try.func52, Try.ntmps52
          go_wp2
          go_ret
          exact ⟨rfl, H.out, Only.refl _ _ _⟩
        · by_cases hfz : m.fail = 0
          · have e : callF m.life m.fail = (1, m.life, -1) := by unfold callF; rw [if_neg h0, if_neg h1, if_neg hf, if_pos hfz, if_neg hp]
            rw [e]
            have H : Hid (CP (w.setCell ⟨cb, 6, none⟩ (.int .i64 (-1))) lo hi cb L { m with life := m.life, fail := -1 }) := (MemX.field h 6 (-1) _ _ _ _ rfl).re _ rfl rfl rfl rfl rfl
            have hs : m.fail - 1 = -1 := by omega
            have cfx : (w.setCell ⟨cb, 6, none⟩ (.int .i64 (-1))).cell? ⟨cb, 6, none⟩ = some (.int .i64 (-1)) := MemX.c6 H.out
            clear h e h0 h1
            generalize m.life = l at *
            generalize m.fail = f at *
            go_enter Try.func52, Try.ntmps52
            go_wp2
            go_ret
            exact ⟨rfl, H.out, (Only.refl _ _ _).set hcb 6 _⟩
          · have e : callF m.life m.fail = (0, m.life, m.fail - 1) := by unfold callF; rw [if_neg h0, if_neg h1, if_neg hf, if_neg hfz, if_neg hp]
            rw [e]
            have H : Hid (CP (w.setCell ⟨cb, 6, none⟩ (.int .i64 (m.fail - 1))) lo hi cb L { m with life := m.life, fail := m.fail - 1 }) := (MemX.field h 6 (m.fail - 1) _ _ _ _ rfl).re _ rfl rfl rfl rfl rfl
            have cfx : (w.setCell ⟨cb, 6, none⟩ (.int .i64 (m.fail - 1))).cell? ⟨cb, 6, none⟩ = some (.int .i64 (m.fail - 1)) := MemX.c6 H.out
            have hfp : 0 < m.fail := by omega
            clear h e h0 h1
            generalize m.life = l at *
            generalize m.fail = f at *
            go_enter Try.func52, Try.ntmps52
            go_wp2
            go_ret
            exact ⟨rfl, H.out, (Only.refl _ _ _).set hcb 6 _⟩

set_option maxHeartbeats 1600000 in
theorem countR_any (w : World) (lo hi cb : Nat) (L : Loc) (m : M) (hw : WF m) (h : CR w lo hi cb L m) : Calls Try.prog 54 #[.pointer (some ⟨cb, 0, none⟩)] w fun e w' => e = .returned (.int .i64 (callF m.life m.fail).1) ∧ CR w' lo hi cb L { m with life := (callF m.life m.fail).2.1, fail := (callF m.life m.fail).2.2 } ∧ Only lo hi w w' := by
  have hl1 := hw.life1
  have hl2 := hw.life2
  have hf1 := hw.fail1
  have hf2 := hw.fail2
  have c4 := MemX.c4 h
  have cf := MemX.c5 h
  have z4 := MemX.fz h 4
  have zf := MemX.fz h 5
  have hcb := MemX.hcb h
  by_cases h0 : m.life = 0
  · have e : callF m.life m.fail = (3, m.life, m.fail) := by unfold callF; rw [if_pos h0]
    rw [e]
    have hb : (m.life == 0) = true := by simpa using h0
    have H := hidI h
    clear h e h0
    go_enter Try.func54, Try.ntmps54
    go_wp2
    go_ret
    exact ⟨rfl, H.out, Only.refl _ _ _⟩
  · have hb : (m.life == 0) = false := by simpa using h0
    by_cases h1 : m.life = 1
    · have e : callF m.life m.fail = (2, 0, m.fail) := by unfold callF; rw [if_neg h0, if_pos h1]
      rw [e]
      have H : Hid (CR (w.setCell ⟨cb, 4, none⟩ (.int .i64 0)) lo hi cb L { m with life := 0, fail := m.fail }) := (MemX.field h 4 0 _ _ _ _ rfl).re _ rfl rfl rfl rfl rfl
      have hs : m.life - 1 = 0 := by omega
      have hp : 0 < m.life := by omega
      clear h e h0 h1
      generalize m.life = l at *
      generalize m.fail = f at *
      go_enter Try.func54, Try.ntmps54
      go_wp2
      go_ret
      exact ⟨rfl, H.out, (Only.refl _ _ _).set hcb 4 _⟩
    · by_cases hp : 0 < m.life
      · have hb1 : (m.life - 1 == 0) = false := by simp; omega
        have hm : MemX (w.setCell ⟨cb, 4, none⟩ (.int .i64 (m.life - 1))) lo hi cb 78 L m pad (m.life - 1) m.fail m.cut m.part := MemX.field h 4 (m.life - 1) _ _ _ _ rfl
        have cf' := MemX.c5 hm
        have zf' := MemX.fz hm 5
        by_cases hf : m.fail < 0
        · have e : callF m.life m.fail = (0, m.life - 1, m.fail) := by unfold callF; rw [if_neg h0, if_neg h1, if_pos hf, if_pos hp]
          rw [e]
          have H : Hid (CR (w.setCell ⟨cb, 4, none⟩ (.int .i64 (m.life - 1))) lo hi cb L { m with life := m.life - 1, fail := m.fail }) := hm.re _ rfl rfl rfl rfl rfl
          clear h e h0 h1 hm
          generalize m.life = l at *
          generalize m.fail = f at *
          go_enter Try.func54, Try.ntmps54
          go_wp2
          go_ret
          exact ⟨rfl, H.out, (Only.refl _ _ _).set hcb 4 _⟩
        · by_cases hfz : m.fail = 0
          · have e : callF m.life m.fail = (1, m.life - 1, -1) := by unfold callF; rw [if_neg h0, if_neg h1, if_neg hf, if_pos hfz, if_pos hp]
            rw [e]
            have H : Hid (CR ((w.setCell ⟨cb, 4, none⟩ (.int .i64 (m.life - 1))).setCell ⟨cb, 5, none⟩ (.int .i64 (-1))) lo hi cb L { m with life := m.life - 1, fail := -1 }) := (MemX.field hm 5 (-1) _ _ _ _ rfl).re _ rfl rfl rfl rfl rfl
            have hs : m.fail - 1 = -1 := by omega
            have cfx : ((w.setCell ⟨cb, 4, none⟩ (.int .i64 (m.life - 1))).setCell ⟨cb, 5, none⟩ (.int .i64 (-1))).cell? ⟨cb, 5, none⟩ = some (.int .i64 (-1)) := MemX.c5 H.out
            clear h e h0 h1 hm
            generalize m.life = l at *
            generalize m.fail = f at *
            go_enter Try.func54, Try.ntmps54
            go_wp2
            go_ret
            exact ⟨rfl, H.out, ((Only.refl _ _ _).set hcb 4 _).set hcb 5 _⟩
          · have e : callF m.life m.fail = (0, m.life - 1, m.fail - 1) := by unfold callF; rw [if_neg h0, if_neg h1, if_neg hf, if_neg hfz, if_pos hp]
            rw [e]
            have H : Hid (CR ((w.setCell ⟨cb, 4, none⟩ (.int .i64 (m.life - 1))).setCell ⟨cb, 5, none⟩ (.int .i64 (m.fail - 1))) lo hi cb L { m with life := m.life - 1, fail := m.fail - 1 }) := (MemX.field hm 5 (m.fail - 1) _ _ _ _ rfl).re _ rfl rfl rfl rfl rfl
            have cfx : ((w.setCell ⟨cb, 4, none⟩ (.int .i64 (m.life - 1))).setCell ⟨cb, 5, none⟩ (.int .i64 (m.fail - 1))).cell? ⟨cb, 5, none⟩ = some (.int .i64 (m.fail - 1)) := MemX.c5 H.out
            have hfp : 0 < m.fail := by omega
            clear h e h0 h1 hm
            generalize m.life = l at *
            generalize m.fail = f at *
            go_enter Try.func54, Try.ntmps54
            go_wp2
            go_ret
            exact ⟨rfl, H.out, ((Only.refl _ _ _).set hcb 4 _).set hcb 5 _⟩
      · by_cases hf : m.fail < 0
        · have e : callF m.life m.fail = (0, m.life, m.fail) := by unfold callF; rw [if_neg h0, if_neg h1, if_pos hf, if_neg hp]
          rw [e]
          have H : Hid (CR w lo hi cb L { m with life := m.life, fail := m.fail }) := h
          clear h e h0 h1
          go_enter Try.func54, Try.ntmps54
          go_wp2
          go_ret
          exact ⟨rfl, H.out, Only.refl _ _ _⟩
        · by_cases hfz : m.fail = 0
          · have e : callF m.life m.fail = (1, m.life, -1) := by unfold callF; rw [if_neg h0, if_neg h1, if_neg hf, if_pos hfz, if_neg hp]
            rw [e]
            have H : Hid (CR (w.setCell ⟨cb, 5, none⟩ (.int .i64 (-1))) lo hi cb L { m with life := m.life, fail := -1 }) := (MemX.field h 5 (-1) _ _ _ _ rfl).re _ rfl rfl rfl rfl rfl
            have hs : m.fail - 1 = -1 := by omega
            have cfx : (w.setCell ⟨cb, 5, none⟩ (.int .i64 (-1))).cell? ⟨cb, 5, none⟩ = some (.int .i64 (-1)) := MemX.c5 H.out
            clear h e h0 h1
            generalize m.life = l at *
            generalize m.fail = f at *
            go_enter Try.func54, Try.ntmps54
            go_wp2
            go_ret
            exact ⟨rfl, H.out, (Only.refl _ _ _).set hcb 5 _⟩
          · have e : callF m.life m.fail = (0, m.life, m.fail - 1) := by unfold callF; rw [if_neg h0, if_neg h1, if_neg hf, if_neg hfz, if_neg hp]
            rw [e]
            have H : Hid (CR (w.setCell ⟨cb, 5, none⟩ (.int .i64 (m.fail - 1))) lo hi cb L { m with life := m.life, fail := m.fail - 1 }) := (MemX.field h 5 (m.fail - 1) _ _ _ _ rfl).re _ rfl rfl rfl rfl rfl
            have cfx : (w.setCell ⟨cb, 5, none⟩ (.int .i64 (m.fail - 1))).cell? ⟨cb, 5, none⟩ = some (.int .i64 (m.fail - 1)) := MemX.c5 H.out
            have hfp : 0 < m.fail := by omega
            clear h e h0 h1
            generalize m.life = l at *
            generalize m.fail = f at *
            go_enter Try.func54, Try.ntmps54
            go_wp2
            go_ret
            exact ⟨rfl, H.out, (Only.refl _ _ _).set hcb 5 _⟩
end Go.Proofs.Ytodmdkhdbfbfgaa
