/- What both chips tell: blocks, pages, power, bad blocks, pages as they read; and how a call is counted. -/
import Derived.Test.YtodmdkhdbfbfgaaChipSmall
namespace Go.Proofs.Ytodmdkhdbfbfgaa
open Go.RowKit Pk
set_option linter.unusedVariables false

/-- Is there such a block? -/
def hasB (m : M) (b : Int) : Bool := decide (0 ≤ b) && decide (b < (m.nb : Int))
/-- Is it bad, or is there none? -/
def badB (m : M) (b : Int) : Bool := !(hasB m b) || m.bd b.toNat

theorem hasB_yes {m : M} {b : Int} (h : hasB m b = true) : 0 ≤ b ∧ b < (m.nb : Int) := by simpa [hasB] using h
theorem hasB_no {m : M} {b : Int} (h : hasB m b = false) : b < 0 ∨ (m.nb : Int) ≤ b := by
  rcases Int.lt_or_le b 0 with h1 | h1
  · exact .inl h1
  · right
    by_cases h2 : b < (m.nb : Int)
    · simp [hasB, h1, h2] at h
    · omega

set_option maxHeartbeats 400000 in
theorem blocks_any (w : World) (lo hi cb : Nat) (L : Loc) (m : M) (h : CP w lo hi cb L m) : Calls Try.prog 59 #[.pointer (some ⟨cb, 0, none⟩)] w fun e w' => e = .returned (.int .i64 (m.nb : Nat)) ∧ w' = w := by
  have h1 := MemX.c1 h
  clear h
  go_enter Try.func59, Try.ntmps59
  go_wp2
  go_ret
  exact ⟨rfl, rfl⟩

set_option maxHeartbeats 400000 in
theorem pages_any (w : World) (lo hi cb : Nat) (L : Loc) (m : M) (h : CP w lo hi cb L m) : Calls Try.prog 61 #[.pointer (some ⟨cb, 0, none⟩)] w fun e w' => e = .returned (.int .i64 (m.np : Nat)) ∧ w' = w := by
  have h1 := MemX.c0 h
  clear h
  go_enter Try.func61, Try.ntmps61
  go_wp2
  go_ret
  exact ⟨rfl, rfl⟩

set_option maxHeartbeats 400000 in
theorem dead_any (w : World) (lo hi cb : Nat) (L : Loc) (m : M) (h : CP w lo hi cb L m) : Calls Try.prog 63 #[.pointer (some ⟨cb, 0, none⟩)] w fun e w' => e = .returned (.bool (m.life == 0)) ∧ w' = w := by
  have h1 := MemX.c4 h
  clear h
  go_enter Try.func63, Try.ntmps63
  go_wp2
  go_ret
  exact ⟨rfl, rfl⟩

set_option maxHeartbeats 400000 in
theorem power_any (w : World) (lo hi cb : Nat) (L : Loc) (m : M) (h : CP w lo hi cb L m) (hw : WF m) : Calls Try.prog 25 #[.pointer (some ⟨cb, 0, none⟩)] w fun e w' => e = .returned (.tuple #[]) ∧ CP w' lo hi cb L { m with life := -1 } ∧ Only lo hi w w' := by
  have h1 := MemX.c4 h
  have hf := MemX.fz h 4
  have h2 : CP (w.setCell ⟨cb, 4, none⟩ (.int .i64 (-1))) lo hi cb L { m with life := -1 } := (MemX.field h 4 (-1) _ _ _ _ rfl).re _ rfl rfl rfl rfl rfl
  have ho : Only lo hi w (w.setCell ⟨cb, 4, none⟩ (.int .i64 (-1))) := (Only.refl _ _ _).set (MemX.hcb h) 4 _
  clear h
  go_enter Try.func25, Try.ntmps25
  go_wp2
  go_end0
  exact ⟨rfl, h2, ho⟩

set_option maxHeartbeats 800000 in
theorem die_any (w : World) (lo hi cb : Nat) (L : Loc) (m : M) (a c : Int) (h1 : -9223372036854775808 ≤ c) (h2 : c ≤ 9223372036854775807) (h : CP w lo hi cb L m) : Calls Try.prog 23 #[.pointer (some ⟨cb, 0, none⟩), .int .i64 a, .int .i64 c] w fun e w' => e = .returned (.tuple #[]) ∧ CP w' lo hi cb L { m with life := bnd a 0 1073741824 + 1, cut := prt c } ∧ Only lo hi w w' := by
  have hb := bnd_le a 0 1073741824 (by omega)
  have Hbd := hidI (bound_any a 0 1073741824 (by omega))
  have Hpt := hidI (part_any c h1 h2)
  obtain ⟨B, hB⟩ : ∃ B, B = bnd a 0 1073741824 := ⟨_, rfl⟩
  rw [← hB] at hb Hbd ⊢
  clear hB
  generalize prt c = pc at *
  have h4 := MemX.c4 h
  have hf4 := MemX.fz h 4
  have hm1 : MemX (w.setCell ⟨cb, 4, none⟩ (.int .i64 (B + 1))) lo hi cb 76 L m id (B + 1) m.cut m.fail m.part := MemX.field h 4 (B + 1) _ _ _ _ rfl
  have h5 := MemX.c5 hm1
  have hf5 := MemX.fz hm1 5
  have hm2 : CP ((w.setCell ⟨cb, 4, none⟩ (.int .i64 (B + 1))).setCell ⟨cb, 5, none⟩ (.int .i64 pc)) lo hi cb L { m with life := B + 1, cut := pc } := (MemX.field hm1 5 pc _ _ _ _ rfl).re _ rfl rfl rfl rfl rfl
  have ho : Only lo hi w ((w.setCell ⟨cb, 4, none⟩ (.int .i64 (B + 1))).setCell ⟨cb, 5, none⟩ (.int .i64 pc)) := ((Only.refl _ _ _).set (MemX.hcb h) 4 _).set (MemX.hcb h) 5 _
  clear h hm1
  go_enter Try.func23, Try.ntmps23
  go_wp2_with fail
  refine (Hbd.out _).mono ?_
  rintro e w1 ⟨rfl, rfl⟩
  go_wp2_with fail
  refine (Hpt.out _).mono ?_
  rintro e w2 ⟨rfl, rfl⟩
  go_wp2
  go_end0
  exact ⟨rfl, hm2, ho⟩

set_option maxHeartbeats 800000 in
theorem fail_any (w : World) (lo hi cb : Nat) (L : Loc) (m : M) (a c : Int) (h1 : -9223372036854775808 ≤ c) (h2 : c ≤ 9223372036854775807) (h : CP w lo hi cb L m) : Calls Try.prog 27 #[.pointer (some ⟨cb, 0, none⟩), .int .i64 a, .int .i64 c] w fun e w' => e = .returned (.tuple #[]) ∧ CP w' lo hi cb L { m with fail := bnd a 0 1073741824, part := prt c } ∧ Only lo hi w w' := by
  have hb := bnd_le a 0 1073741824 (by omega)
  have Hbd := hidI (bound_any a 0 1073741824 (by omega))
  have Hpt := hidI (part_any c h1 h2)
  obtain ⟨B, hB⟩ : ∃ B, B = bnd a 0 1073741824 := ⟨_, rfl⟩
  rw [← hB] at hb Hbd ⊢
  clear hB
  generalize prt c = pc at *
  have h4 := MemX.c6 h
  have hf4 := MemX.fz h 6
  have hm1 : MemX (w.setCell ⟨cb, 6, none⟩ (.int .i64 B)) lo hi cb 76 L m id m.life m.cut B m.part := MemX.field h 6 B _ _ _ _ rfl
  have h5 := MemX.c7 hm1
  have hf5 := MemX.fz hm1 7
  have hm2 : CP ((w.setCell ⟨cb, 6, none⟩ (.int .i64 B)).setCell ⟨cb, 7, none⟩ (.int .i64 pc)) lo hi cb L { m with fail := B, part := pc } := (MemX.field hm1 7 pc _ _ _ _ rfl).re _ rfl rfl rfl rfl rfl
  have ho : Only lo hi w ((w.setCell ⟨cb, 6, none⟩ (.int .i64 B)).setCell ⟨cb, 7, none⟩ (.int .i64 pc)) := ((Only.refl _ _ _).set (MemX.hcb h) 6 _).set (MemX.hcb h) 7 _
  clear h hm1
  go_enter Try.func27, Try.ntmps27
  go_wp2_with fail
  refine (Hbd.out _).mono ?_
  rintro e w1 ⟨rfl, rfl⟩
  go_wp2_with fail
  refine (Hpt.out _).mono ?_
  rintro e w2 ⟨rfl, rfl⟩
  go_wp2
  go_end0
  exact ⟨rfl, hm2, ho⟩

set_option maxHeartbeats 400000 in
theorem blocksR_any (w : World) (lo hi cb : Nat) (L : Loc) (m : M) (h : CR w lo hi cb L m) : Calls Try.prog 60 #[.pointer (some ⟨cb, 0, none⟩)] w fun e w' => e = .returned (.int .i64 (m.nb : Nat)) ∧ w' = w := by
  have h1 := MemX.c1 h
  clear h
  go_enter Try.func60, Try.ntmps60
  go_wp2
  go_ret
  exact ⟨rfl, rfl⟩

set_option maxHeartbeats 400000 in
theorem pagesR_any (w : World) (lo hi cb : Nat) (L : Loc) (m : M) (h : CR w lo hi cb L m) : Calls Try.prog 62 #[.pointer (some ⟨cb, 0, none⟩)] w fun e w' => e = .returned (.int .i64 (m.np : Nat)) ∧ w' = w := by
  have h1 := MemX.c0 h
  clear h
  go_enter Try.func62, Try.ntmps62
  go_wp2
  go_ret
  exact ⟨rfl, rfl⟩

set_option maxHeartbeats 400000 in
theorem deadR_any (w : World) (lo hi cb : Nat) (L : Loc) (m : M) (h : CR w lo hi cb L m) : Calls Try.prog 64 #[.pointer (some ⟨cb, 0, none⟩)] w fun e w' => e = .returned (.bool (m.life == 0)) ∧ w' = w := by
  have h1 := MemX.c4 h
  clear h
  go_enter Try.func64, Try.ntmps64
  go_wp2
  go_ret
  exact ⟨rfl, rfl⟩

set_option maxHeartbeats 400000 in
theorem powerR_any (w : World) (lo hi cb : Nat) (L : Loc) (m : M) (h : CR w lo hi cb L m) (hw : WF m) : Calls Try.prog 26 #[.pointer (some ⟨cb, 0, none⟩)] w fun e w' => e = .returned (.tuple #[]) ∧ CR w' lo hi cb L { m with life := -1 } ∧ Only lo hi w w' := by
  have h1 := MemX.c4 h
  have hf := MemX.fz h 4
  have h2 : CR (w.setCell ⟨cb, 4, none⟩ (.int .i64 (-1))) lo hi cb L { m with life := -1 } := (MemX.field h 4 (-1) _ _ _ _ rfl).re _ rfl rfl rfl rfl rfl
  have ho : Only lo hi w (w.setCell ⟨cb, 4, none⟩ (.int .i64 (-1))) := (Only.refl _ _ _).set (MemX.hcb h) 4 _
  clear h
  go_enter Try.func26, Try.ntmps26
  go_wp2
  go_end0
  exact ⟨rfl, h2, ho⟩

set_option maxHeartbeats 800000 in
theorem dieR_any (w : World) (lo hi cb : Nat) (L : Loc) (m : M) (a c : Int) (h1 : -9223372036854775808 ≤ c) (h2 : c ≤ 9223372036854775807) (h : CR w lo hi cb L m) : Calls Try.prog 24 #[.pointer (some ⟨cb, 0, none⟩), .int .i64 a, .int .i64 c] w fun e w' => e = .returned (.tuple #[]) ∧ CR w' lo hi cb L { m with life := bnd a 0 1073741824 + 1, cut := prt c } ∧ Only lo hi w w' := by
  have hb := bnd_le a 0 1073741824 (by omega)
  have Hbd := hidI (between_any a 0 1073741824 (by omega))
  have Hpt := hidI (partR_any c h1 h2)
  obtain ⟨B, hB⟩ : ∃ B, B = bnd a 0 1073741824 := ⟨_, rfl⟩
  rw [← hB] at hb Hbd ⊢
  clear hB
  generalize prt c = pc at *
  have h4 := MemX.c4 h
  have hf4 := MemX.fz h 4
  have hm1 : MemX (w.setCell ⟨cb, 4, none⟩ (.int .i64 (B + 1))) lo hi cb 78 L m pad (B + 1) m.fail m.cut m.part := MemX.field h 4 (B + 1) _ _ _ _ rfl
  have h5 := MemX.c6 hm1
  have hf5 := MemX.fz hm1 6
  have hm2 : CR ((w.setCell ⟨cb, 4, none⟩ (.int .i64 (B + 1))).setCell ⟨cb, 6, none⟩ (.int .i64 pc)) lo hi cb L { m with life := B + 1, cut := pc } := (MemX.field hm1 6 pc _ _ _ _ rfl).re _ rfl rfl rfl rfl rfl
  have ho : Only lo hi w ((w.setCell ⟨cb, 4, none⟩ (.int .i64 (B + 1))).setCell ⟨cb, 6, none⟩ (.int .i64 pc)) := ((Only.refl _ _ _).set (MemX.hcb h) 4 _).set (MemX.hcb h) 6 _
  clear h hm1
  go_enter Try.func24, Try.ntmps24
  go_wp2_with fail
  refine (Hbd.out _).mono ?_
  rintro e w1 ⟨rfl, rfl⟩
  go_wp2_with fail
  refine (Hpt.out _).mono ?_
  rintro e w2 ⟨rfl, rfl⟩
  go_wp2
  go_end0
  exact ⟨rfl, hm2, ho⟩

set_option maxHeartbeats 800000 in
theorem failR_any (w : World) (lo hi cb : Nat) (L : Loc) (m : M) (a c : Int) (h1 : -9223372036854775808 ≤ c) (h2 : c ≤ 9223372036854775807) (h : CR w lo hi cb L m) : Calls Try.prog 28 #[.pointer (some ⟨cb, 0, none⟩), .int .i64 a, .int .i64 c] w fun e w' => e = .returned (.tuple #[]) ∧ CR w' lo hi cb L { m with fail := bnd a 0 1073741824, part := prt c } ∧ Only lo hi w w' := by
  have hb := bnd_le a 0 1073741824 (by omega)
  have Hbd := hidI (between_any a 0 1073741824 (by omega))
  have Hpt := hidI (partR_any c h1 h2)
  obtain ⟨B, hB⟩ : ∃ B, B = bnd a 0 1073741824 := ⟨_, rfl⟩
  rw [← hB] at hb Hbd ⊢
  clear hB
  generalize prt c = pc at *
  have h4 := MemX.c5 h
  have hf4 := MemX.fz h 5
  have hm1 : MemX (w.setCell ⟨cb, 5, none⟩ (.int .i64 B)) lo hi cb 78 L m pad m.life B m.cut m.part := MemX.field h 5 B _ _ _ _ rfl
  have h5 := MemX.c7 hm1
  have hf5 := MemX.fz hm1 7
  have hm2 : CR ((w.setCell ⟨cb, 5, none⟩ (.int .i64 B)).setCell ⟨cb, 7, none⟩ (.int .i64 pc)) lo hi cb L { m with fail := B, part := pc } := (MemX.field hm1 7 pc _ _ _ _ rfl).re _ rfl rfl rfl rfl rfl
  have ho : Only lo hi w ((w.setCell ⟨cb, 5, none⟩ (.int .i64 B)).setCell ⟨cb, 7, none⟩ (.int .i64 pc)) := ((Only.refl _ _ _).set (MemX.hcb h) 5 _).set (MemX.hcb h) 7 _
  clear h hm1
  go_enter Try.func28, Try.ntmps28
  go_wp2_with fail
  refine (Hbd.out _).mono ?_
  rintro e w1 ⟨rfl, rfl⟩
  go_wp2_with fail
  refine (Hpt.out _).mono ?_
  rintro e w2 ⟨rfl, rfl⟩
  go_wp2
  go_end0
  exact ⟨rfl, hm2, ho⟩

set_option maxHeartbeats 800000 in
theorem has_any (w : World) (lo hi cb : Nat) (L : Loc) (m : M) (b : Int) (h : CP w lo hi cb L m) : Calls Try.prog 58 #[.pointer (some ⟨cb, 0, none⟩), .int .i64 b] w fun e w' => e = .returned (.bool (hasB m b)) ∧ w' = w := by
  have h1 := MemX.c1 h
  clear h
  by_cases hb : 0 ≤ b
  · have hd : decide (0 ≤ b) = true := by simpa using hb
    by_cases hb2 : b < (m.nb : Int)
    · have Hh : Hid (true = hasB m b) := by simp [hasB, hb, hb2, Hid]
      go_enter Try.func58, Try.ntmps58
      go_wp2
      go_ret
      exact ⟨ret_bool Hh.out, rfl⟩
    · have Hh : Hid (false = hasB m b) := by simp [hasB, hb2, Hid]
      go_enter Try.func58, Try.ntmps58
      go_wp2
      go_ret
      exact ⟨ret_bool Hh.out, rfl⟩
  · have hd : decide (0 ≤ b) = false := by simpa using hb
    have Hh : Hid (false = hasB m b) := by simp [hasB, hb, Hid]
    go_enter Try.func58, Try.ntmps58
    go_wp2
    go_ret
    exact ⟨ret_bool Hh.out, rfl⟩

set_option maxHeartbeats 800000 in
theorem bad_any (w : World) (lo hi cb : Nat) (L : Loc) (m : M) (b : Int) (h : CP w lo hi cb L m) : Calls Try.prog 51 #[.pointer (some ⟨cb, 0, none⟩), .int .i64 b] w fun e w' => e = .returned (.bool (badB m b)) ∧ w' = w := by
  have Hhas := hidI (has_any w lo hi cb L m b h)
  have h3 := MemX.c3 h
  have hbd := h.bad
  clear h
  cases hh : hasB m b with
  | true =>
    obtain ⟨n, rfl⟩ := Int.eq_ofNat_of_zero_le (hasB_yes hh).1
    have hn : n < m.nb := by have := (hasB_yes hh).2; omega
    have hc := hbd.cell hn
    have Hr : Hid (m.bd n = badB m (n : Nat)) := by simp [badB, hh, Hid]
    rw [hh] at Hhas
    clear hh hbd
    generalize m.bd n = x at *
    go_enter Try.func51, Try.ntmps51
    go_wp2_with fail
    refine Hhas.out.mono ?_
    rintro e w1 ⟨rfl, rfl⟩
    go_wp2
    go_ret
    exact ⟨ret_bool Hr.out, rfl⟩
  | false =>
    have Hr : Hid (true = badB m b) := by simp [badB, hh, Hid]
    rw [hh] at Hhas
    clear hh hbd
    go_enter Try.func51, Try.ntmps51
    go_wp2_with fail
    refine Hhas.out.mono ?_
    rintro e w1 ⟨rfl, rfl⟩
    go_wp2
    go_ret
    exact ⟨ret_bool Hr.out, rfl⟩

set_option maxHeartbeats 800000 in
theorem badR_any (w : World) (lo hi cb : Nat) (L : Loc) (m : M) (b : Int) (h : CR w lo hi cb L m) : Calls Try.prog 53 #[.pointer (some ⟨cb, 0, none⟩), .int .i64 b] w fun e w' => e = .returned (.bool (badB m b)) ∧ w' = w := by
  have h1 := MemX.c1 h
  have h3 := MemX.c3 h
  have hbd := h.bad
  clear h
  by_cases h0 : b < 0
  · have hd : decide (b < 0) = true := by simpa using h0
    have Hr : Hid (true = badB m b) := by simp [badB, hasB, Hid]; left; omega
    go_enter Try.func53, Try.ntmps53
    go_wp2
    go_ret
    exact ⟨ret_bool Hr.out, rfl⟩
  · have hd : decide (b < 0) = false := by simpa using h0
    by_cases hn : (m.nb : Int) ≤ b
    · have hd2 : decide ((m.nb : Int) ≤ b) = true := by simpa using hn
      have Hr : Hid (true = badB m b) := by simp [badB, hasB, Hid]; left; omega
      go_enter Try.func53, Try.ntmps53
      go_wp2
      go_ret
      exact ⟨ret_bool Hr.out, rfl⟩
    · have hd2 : decide ((m.nb : Int) ≤ b) = false := by simpa using hn
      obtain ⟨n, rfl⟩ := Int.eq_ofNat_of_zero_le (by omega : 0 ≤ b)
      have hn' : n < m.nb := by omega
      have hc := hbd.cell hn'
      have Hr : Hid (m.bd n = badB m (n : Nat)) := by simp [badB, hasB, hn', Hid]
      clear hbd
      generalize m.bd n = x at *
      go_enter Try.func53, Try.ntmps53
      go_wp2
      go_ret
      exact ⟨ret_bool Hr.out, rfl⟩
end Go.Proofs.Ytodmdkhdbfbfgaa
