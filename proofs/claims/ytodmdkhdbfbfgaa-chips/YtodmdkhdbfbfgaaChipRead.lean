/- How the pages of both chips read. -/
import Derived.Test.YtodmdkhdbfbfgaaChipCount
namespace Go.Proofs.Ytodmdkhdbfbfgaa
open Go.RowKit Pk
set_option linter.unusedVariables false

/-- What a page reads as. -/
def readF (m : M) (b p : Int) : Option (List UInt8) :=
  if m.life ≠ 0 ∧ hasB m b = true ∧ 0 ≤ p ∧ p < (m.np : Int) then some (pad (m.pg b.toNat p.toNat)) else none

def ansR : Option (List UInt8) → Ending
  | none => .returned (.tuple #[.string ⟨#[]⟩, .bool false])
  | some l => .returned (.tuple #[.string (txt l), .bool true])

set_option maxRecDepth 100000 in
set_option maxHeartbeats 1600000 in
theorem read_any (w : World) (lo hi cb : Nat) (L : Loc) (m : M) (b p : Int) (hw : WF m) (h : CP w lo hi cb L m) : Calls Try.prog 65 #[.pointer (some ⟨cb, 0, none⟩), .int .i64 b, .int .i64 p] w fun e w' => e = ansR (readF m b p) ∧ Below w.heap.size w w' := by
  have Hhas := hidI (has_any w lo hi cb L m b h)
  have c0 := MemX.c0 h
  have c1 := MemX.c1 h
  have c4 := MemX.c4 h
  by_cases h0 : m.life = 0
  · have e : readF m b p = none := by unfold readF; rw [if_neg (fun h => h.1 h0)]
    rw [e]
    have hb : (m.life == 0) = true := by simpa using h0
    clear h e h0
    go_enter Try.func65, Try.ntmps65
    go_wp2
    go_ret2
    exact ⟨rfl, Below.refl _ _⟩
  · have hb : (m.life == 0) = false := by simpa using h0
    cases hh : hasB m b with
    | false =>
      have e : readF m b p = none := by unfold readF; rw [if_neg (fun h => by rw [hh] at h; exact absurd h.2.1 (by decide))]
      rw [e]
      rw [hh] at Hhas
      clear h e h0 hh
      go_enter Try.func65, Try.ntmps65
      go_wp2_with fail
      refine Hhas.out.mono ?_
      rintro e w1 ⟨rfl, rfl⟩
      go_wp2
      go_ret2
      exact ⟨rfl, Below.refl _ _⟩
    | true =>
      rw [hh] at Hhas
      by_cases hp : p < 0
      · have e : readF m b p = none := by unfold readF; rw [if_neg (fun h => by omega)]
        rw [e]
        have hd : decide (p < 0) = true := by simpa using hp
        clear h e h0 hh
        go_enter Try.func65, Try.ntmps65
        go_wp2_with fail
        refine Hhas.out.mono ?_
        rintro e w1 ⟨rfl, rfl⟩
        go_wp2
        go_ret2
        exact ⟨rfl, Below.refl _ _⟩
      · have hd : decide (p < 0) = false := by simpa using hp
        by_cases hp2 : (m.np : Int) ≤ p
        · have e : readF m b p = none := by unfold readF; rw [if_neg (fun h => by omega)]
          rw [e]
          have hd2 : decide ((m.np : Int) ≤ p) = true := by simpa using hp2
          clear h e h0 hh
          go_enter Try.func65, Try.ntmps65
          go_wp2_with fail
          refine Hhas.out.mono ?_
          rintro e w1 ⟨rfl, rfl⟩
          go_wp2
          go_ret2
          exact ⟨rfl, Below.refl _ _⟩
        · have hd2 : decide ((m.np : Int) ≤ p) = false := by simpa using hp2
          have e : readF m b p = some (pad (m.pg b.toNat p.toNat)) := by unfold readF; rw [if_pos ⟨h0, hh, by omega, by omega⟩]
          rw [e]
          obtain ⟨i, rfl⟩ := Int.eq_ofNat_of_zero_le (hasB_yes hh).1
          obtain ⟨q, rfl⟩ := Int.eq_ofNat_of_zero_le (by omega : 0 ≤ p)
          have hi : i < m.nb := by have := (hasB_yes hh).2; omega
          have hq : q < m.np := by omega
          have cd := h.data.cell hi
          have cp := (h.page i hi).cell hq
          have hpl := hw.pg i q hi hq
          have Hfl := hidI (filled_any (m.pg i q) hpl)
          clear h e h0 hh
          simp only [id, Int.toNat_natCast] at cp ⊢
          generalize hX : txt (m.pg i q) = X at *
          go_enter Try.func65, Try.ntmps65
          go_wp2_with fail
          refine Hhas.out.mono ?_
          rintro e w1 ⟨rfl, rfl⟩
          go_wp2_with fail
          refine (Hfl.out _).mono ?_
          rintro e w2 ⟨rfl, hb2⟩
          go_wp2
          go_ret2
          exact ⟨rfl, hb2⟩

set_option maxRecDepth 100000 in
set_option maxHeartbeats 1600000 in
theorem readR_any (w : World) (lo hi cb : Nat) (L : Loc) (m : M) (b p : Int) (hw : WF m) (h : CR w lo hi cb L m) : Calls Try.prog 66 #[.pointer (some ⟨cb, 0, none⟩), .int .i64 b, .int .i64 p] w fun e w' => e = ansR (readF m b p) ∧ w' = w := by
  have c0 := MemX.c0 h
  have c1 := MemX.c1 h
  have c4 := MemX.c4 h
  by_cases h0 : m.life = 0
  · have e : readF m b p = none := by unfold readF; rw [if_neg (fun h => h.1 h0)]
    rw [e]
    have hb : (m.life == 0) = true := by simpa using h0
    clear h e h0
    go_enter Try.func66, Try.ntmps66
    go_wp2
    go_ret2
    exact ⟨rfl, rfl⟩
  · have hb : (m.life == 0) = false := by simpa using h0
    by_cases hb0 : b < 0
    · have hdb : decide (b < 0) = true := by simpa using hb0
      have e : readF m b p = none := by unfold readF; rw [if_neg (fun h => by have := (hasB_yes h.2.1).1; omega)]
      rw [e]
      clear h e h0
      go_enter Try.func66, Try.ntmps66
      go_wp2
      go_ret2
      exact ⟨rfl, rfl⟩
    · have hdb : decide (b < 0) = false := by simpa using hb0
      by_cases hbn : (m.nb : Int) ≤ b
      · have hdn : decide ((m.nb : Int) ≤ b) = true := by simpa using hbn
        have e : readF m b p = none := by unfold readF; rw [if_neg (fun h => by have := (hasB_yes h.2.1).2; omega)]
        rw [e]
        clear h e h0
        go_enter Try.func66, Try.ntmps66
        go_wp2
        go_ret2
        exact ⟨rfl, rfl⟩
      · have hdn : decide ((m.nb : Int) ≤ b) = false := by simpa using hbn
        by_cases hp : p < 0
        · have e : readF m b p = none := by unfold readF; rw [if_neg (fun h => by omega)]
          rw [e]
          have hd : decide (p < 0) = true := by simpa using hp
          clear h e h0
          go_enter Try.func66, Try.ntmps66
          go_wp2
          go_ret2
          exact ⟨rfl, rfl⟩
        · have hd : decide (p < 0) = false := by simpa using hp
          by_cases hp2 : (m.np : Int) ≤ p
          · have e : readF m b p = none := by unfold readF; rw [if_neg (fun h => by omega)]
            rw [e]
            have hd2 : decide ((m.np : Int) ≤ p) = true := by simpa using hp2
            clear h e h0
            go_enter Try.func66, Try.ntmps66
            go_wp2
            go_ret2
            exact ⟨rfl, rfl⟩
          · have hd2 : decide ((m.np : Int) ≤ p) = false := by simpa using hp2
            have hh : hasB m b = true := by simp [hasB]; omega
            have e : readF m b p = some (pad (m.pg b.toNat p.toNat)) := by unfold readF; rw [if_pos ⟨h0, hh, by omega, by omega⟩]
            rw [e]
            obtain ⟨i, rfl⟩ := Int.eq_ofNat_of_zero_le (hasB_yes hh).1
            obtain ⟨q, rfl⟩ := Int.eq_ofNat_of_zero_le (by omega : 0 ≤ p)
            have hi : i < m.nb := by have := (hasB_yes hh).2; omega
            have hq : q < m.np := by omega
            have cd := h.data.cell hi
            have cp := (h.page i hi).cell hq
            clear h e h0 hh
            simp only [Int.toNat_natCast] at cp ⊢
            generalize pad (m.pg i q) = X at *
            go_enter Try.func66, Try.ntmps66
            go_wp2
            go_ret2
            exact ⟨rfl, rfl⟩
end Go.Proofs.Ytodmdkhdbfbfgaa
