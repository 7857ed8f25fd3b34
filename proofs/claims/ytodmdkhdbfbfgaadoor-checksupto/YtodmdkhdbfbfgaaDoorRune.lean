/- What the library's IndexRune, IndexAny and ContainsAny return at the two signs of which no name may have one. -/
import Derived.Test.YtodmdkhdbfbfgaaDoorBase
import Derived.Test.YtodmdkhdbfbfgaaDoorShelf
import Derived.Laws.RangeAny
import Derived.Laws.Runes
import Derived.WalkMore
import Derived.WalkSmall
import Derived.Deep.RegionHeld3
namespace Go.Proofs.YtodmdkhdbfbfgaaDoor
open Go.RowKit Go.Nt
set_option linter.unusedVariables false

def two : ByteArray := ⟨#[47, 0]⟩

theorem two_size : two.size = 2 := rfl
theorem two_none : Lib.indexByte (two.extract 2 2).data.toList 0 = -1 := by decide

theorem below_iter (w : World) (s : ByteArray) (k : Nat) : Below w.heap.size w (w.iter s k) := by
  exact (Below.refl _ w).alloc (Nat.le_refl _) _
theorem valid_of {r : Int} (h : Lib.validRune r = true) : Utf8.valid r = true := by
  unfold Lib.validRune at h
  unfold Utf8.valid
  simp at h ⊢
  omega

set_option maxRecDepth 100000 in
set_option maxHeartbeats 2000000 in
theorem rune_high (r : Int) (w : World) (h0 : 128 ≤ r) (h1 : r ≤ 2147483647) :
    Calls Tryd.prog 69 #[.string two, .int .i32 r] w fun e w' => e = .returned (.int .i64 (-1)) ∧ Below w.heap.size w w' := by
  by_cases he : r = 65533
  · subst he
    go_enter Tryd.func69, Tryd.ntmps69
    go_wp2
    go_loopg [5, 6] 2 (fun g _ _ wx => ∃ i : Nat, i + g = 2 ∧ wx = w.iter two i)
    case atStart => exact ⟨0, by omega, rfl⟩
    case round =>
      obtain ⟨i, hig, rfl⟩ := hrel
      cases gk with
      | zero =>
        obtain rfl : i = 2 := by omega
        have hnx := fun ty => run_next_end (P := Tryd.prog) w two 2 ty (by decide)
        go_wp2
        go_ret
        exact ⟨rfl, below_iter w two 2⟩
      | succ g =>
        have hi : i < two.size := by rw [two_size]; omega
        have hb : (two[i]'hi).toNat < 128 ∧ (((two[i]'hi).toNat : Int) == 65533) = false := by
          have : i = 0 ∨ i = 1 := by omega
          rcases this with rfl | rfl
          · exact ⟨by show (47 : UInt8).toNat < 128; decide, by show (((47 : UInt8).toNat : Int) == 65533) = false; decide⟩
          · exact ⟨by show (0 : UInt8).toNat < 128; decide, by show (((0 : UInt8).toNat : Int) == 65533) = false; decide⟩
        have hnx := fun ty => run_next_ascii (P := Tryd.prog) w two i ty hi hb.1
        have hb2 := hb.2
        clear hb
        go_wp2
        go_roundg g
        case measure => omega
        case rel => exact ⟨i + 1, by omega, rfl⟩
  · by_cases hv : Lib.validRune r = true
    · go_enter Tryd.func69, Tryd.ntmps69
      go_wp2_with (go_at_call 79; refine (Tryd.utf8_ValidRune _ _).mono ?_; rintro e w' ⟨rfl, hw⟩; have hw' := hw.symm; subst hw'; rw [hv])
      obtain ⟨f1, f2, f3⟩ := encode_facts r (valid_of hv) h0
      have hcv := fun w => run_convert_int_string (P := Tryd.prog) w 21 9 .i32 r (by rw [Tryd.underlying21]; rfl) Tryd.underlying9
      generalize Utf8.encode r = E at *
      have f4 : E.size - 1 < E.size := by omega
      have f5 := f3 f4
      by_cases h2 : E.size = 2
      · have g1 : 1 < E.size := by omega
        have g2 : 128 ≤ (E[1]'g1).toNat := by have h := f5; simp only [h2] at h; exact h
        have hi1 : ((E.size : Int) - 1) = 1 := by omega
        have hb0 : (two[1]'(by decide)).toNat = 0 := rfl
        have g3 : (((two[1]'(by decide)).toNat : Int) != ((E[1]'g1).toNat : Int)) = true := bne_iff_ne.2 (by rw [hb0]; omega)
        have g4 : (1 : Nat) < two.size := by decide
        have g5 : ((1 : Int) < (two.size : Int)) := by decide
        have g6 : decide ((1 : Int) < (two.size : Int)) = true := by decide
        clear f5 f4 f3 f1 f2
        go_wp2
        go_step3
        go_wp2
        go_loopw [9, 10] (fun i f wr => i = .int .i64 1 ∧ wr = w) (fun i _ _ => 0)
        case atStart => exact ⟨rfl, rfl⟩
        case round =>
          obtain ⟨rfl, rfl⟩ := hrel
          go_wp2
          go_step3
          go_wp2
          go_quiet (fail)
          go_wp2
          have hx : two.extract 2 2 = txt [] := by rw [Lib.extract_eq]; rfl
          have HIB : Hid (∀ c w, Calls Tryd.prog 78 #[.string (two.extract 2 two.size), .int .u8 c] w fun e w' => e = .returned (.int .i64 (-1)) ∧ w' = w) := fun c w => by
            have := Tryd.strings_IndexByte (two.extract 2 two.size) c w
            have e2 : (two.extract 2 two.size).data.toList = [] := by rw [Lib.extract_eq]; rfl
            rw [e2] at this
            exact this
          go_region_with (go_at_call 78; refine (HIB.out _ _).mono ?_; rintro e w' ⟨rfl, hw⟩; have hw' := hw.symm; subst hw')
          all_goals
            go_wp2
            simp (config := { zetaDelta := true }) only [Exit.inBlock, Exit.then, Exit.noGoto_ret]
            go_ret
            exact ⟨rfl, below_drewN (Below.refl _ _) _⟩
      · have h3 : decide (((E.size : Int) - 1) < (two.size : Int)) = false := by rw [two_size]; simp; omega
        go_wp2
        go_step3
        go_wp2
        go_loopw [9, 10] (fun i f wr => i = .int .i64 ((E.size : Int) - 1) ∧ wr = w) (fun i _ _ => 0)
        case atStart => exact ⟨rfl, rfl⟩
        case round =>
          obtain ⟨rfl, rfl⟩ := hrel
          go_wp2
          rw [Exit.noGoto_ret]
          go_ret
          exact ⟨rfl, Below.refl _ _⟩
    · have hv' : Lib.validRune r = false := by simpa using hv
      go_enter Tryd.func69, Tryd.ntmps69
      go_wp2_with (go_at_call 79; refine (Tryd.utf8_ValidRune _ _).mono ?_; rintro e w' ⟨rfl, hw⟩; have hw' := hw.symm; subst hw'; rw [hv'])
      go_ret
      exact ⟨rfl, Below.refl _ _⟩
end Go.Proofs.YtodmdkhdbfbfgaaDoor
