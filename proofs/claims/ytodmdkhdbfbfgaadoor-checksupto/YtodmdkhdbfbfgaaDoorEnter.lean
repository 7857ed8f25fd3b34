/- What enter returns: the first error among the directories in which a path is. -/
import Derived.Test.YtodmdkhdbfbfgaaDoorMap
namespace Go.Proofs.YtodmdkhdbfbfgaaDoor
open Go.RowKit Go.Nt
set_option linter.unusedVariables false

def enterAt (l : List It) (p : Bs) : Nat → Nat → Int
  | 0, _ => 0
  | n + 1, k => if p.getD k 0 = 47 then
      match at? l (p.take k) with
      | none => 4
      | some x => if x.dir then enterAt l p n (k + 1) else 6
    else enterAt l p n (k + 1)

/-- ErrNone or ErrKind of what a path is in; or 0. -/
def enterE (l : List It) (p : Bs) : Int := enterAt l p p.length 0

theorem enterAt_zero (l : List It) (p : Bs) (hn : (l.map (·.path)).Nodup) : ∀ n k, enterAt l p n k = 0 ↔ ∀ i, k ≤ i → i < k + n → p.getD i 0 = 47 → dirAt l (p.take i) = true
  | 0, k => by simp [enterAt]; intro i h1 h2; omega
  | n + 1, k => by
    unfold enterAt
    by_cases h : p.getD k 0 = 47
    · rw [if_pos h]
      have hd := at_dir hn (p.take k)
      cases ha : at? l (p.take k) with
      | none =>
        rw [ha] at hd
        simp only
        constructor
        · intro h'; cases h'
        · intro h'
          have := h' k (Nat.le_refl _) (by omega) h
          rw [hd] at this
          cases this
      | some x =>
        rw [ha] at hd
        simp only
        simp only at hd
        by_cases hx : x.dir = true
        · rw [if_pos hx, enterAt_zero l p hn n (k + 1)]
          constructor
          · intro h' i h1 h2 h3
            by_cases e : i = k
            · subst e; rw [hd, hx]
            · exact h' i (by omega) (by omega) h3
          · exact fun h' i h1 h2 h3 => h' i (by omega) (by omega) h3
        · rw [if_neg hx]
          constructor
          · intro h'; cases h'
          · intro h'
            have := h' k (Nat.le_refl _) (by omega) h
            rw [hd] at this
            exact absurd this hx
    · rw [if_neg h, enterAt_zero l p hn n (k + 1)]
      constructor
      · intro h' i h1 h2 h3
        by_cases e : i = k
        · subst e; exact absurd h3 h
        · exact h' i (by omega) (by omega) h3
      · exact fun h' i h1 h2 h3 => h' i (by omega) (by omega) h3

theorem enterE_zero (l : List It) (p : Bs) (hn : (l.map (·.path)).Nodup) : entered l p = decide (enterE l p = 0) := by
  unfold entered enterE
  rw [Bool.eq_iff_iff, decide_eq_true_iff, enterAt_zero l p hn, List.all_eq_true]
  constructor
  · intro h i _ h2 h3
    have := h i (List.mem_range.2 (by omega))
    rw [h3] at this
    simpa using this
  · intro h i hi
    have hi' := List.mem_range.1 hi
    by_cases e : p.getD i 0 = 47
    · have := h i (Nat.zero_le _) (by omega) e
      simp [this]
    · have e' : decide (p.getD i 0 ≠ 47) = true := by simpa using e
      rw [e']; rfl

set_option maxRecDepth 100000 in
set_option maxHeartbeats 1000000 in
theorem enter_any (b : Nat) (l : List It) (p : Bs) (w : World) (hT : TreeAt w b l) (hp : p.length ≤ 1048576) :
    Calls Tryd.prog 19 #[.map (some b), .string (txt p)] w fun e w' => Below w.heap.size w w' ∧ e = .returned (.int .i64 (enterE l p)) := by
  obtain ⟨X, hX⟩ : ∃ X, X = txt p := ⟨_, rfl⟩
  have Sx : X.size = p.length := by rw [hX, txt_size]
  have gx : Hid (∀ k (h : k < X.size), X[k]'h = p.getD k 0) := fun k h => by subst hX; exact txt_getD p k h
  have ex : Hid (∀ b, X.extract 0 b = txt (p.take b)) := fun b => by subst hX; rw [txt_extract]; simp
  rw [← hX]
  have Hx := hidI Sx
  have HT := hidI hT
  have hX9 : X.size ≤ 1048576 := by omega
  clear hX Sx hp hT
  go_enter Tryd.func19, Tryd.ntmps19
  go_wp2
  go_loopw [10] (fun i wr => ∃ k : Nat, k ≤ X.size ∧ i = .int .i64 k ∧ Hid (Below w.heap.size w wr) ∧ Hid (enterE l p = enterAt l p (X.size - k) k)) (fun i _ => X.size - (intOf i).toNat)
  case atStart => exact ⟨0, Nat.zero_le _, rfl, hidI (Below.refl _ _), by have := Hx.out; exact hidI (by rw [this]; rfl)⟩
  case round =>
    obtain ⟨k, hk, rfl, Hb, He⟩ := hrel
    by_cases hlt : k < X.size
    · have hg := gx.out k hlt
      have hs : X.size - k = (X.size - (k + 1)) + 1 := by omega
      have He' := He.out
      rw [hs] at He'
      by_cases h47 : X[k]'hlt = 47
      · have h47' : (((X[k]'hlt).toNat : Int) != 47) = false := by rw [h47]; rfl
        have hT' := HT.out.below Hb.out HT.out.lt
        have hkl : (p.take k).length ≤ maxLen := by rw [List.length_take]; unfold maxLen; have := Hx.out; omega
        have hu : enterAt l p (X.size - (k + 1) + 1) k = match at? l (p.take k) with | none => 4 | some x => if x.dir then enterAt l p (X.size - (k + 1)) (k + 1) else 6 := by
          show (if p.getD k 0 = 47 then _ else _) = _
          rw [if_pos (by rw [← hg]; exact h47)]
        rw [hu] at He'
        have hsz := Hb.out.size
        cases ha : at? l (p.take k) with
        | none =>
          rw [ha] at He'
          have hl := (hT'.look_none hkl ha).1
          rw [← ex.out] at hl
          have HE := hidI He'
          unfold ndv at hl
          clear He' hu hg h47 hs ha hT'
          go_wp2
          go_ret
          exact ⟨Hb.out.alloc hsz _, ret_int HE.out.symm⟩
        | some x =>
          rw [ha] at He'
          have hl := (hT'.look_some hkl ha).1
          rw [← ex.out] at hl
          unfold ndv nd at hl
          obtain ⟨xd, hxd⟩ : ∃ o, o = x.dir := ⟨_, rfl⟩
          simp only at He' hl
          rw [← hxd] at He' hl
          clear hu hg h47 hs ha hT' hxd
          cases xd with
          | true =>
            have HE : Hid (enterE l p = enterAt l p (X.size - (k + 1)) (k + 1)) := hidI (by simpa using He')
            clear He'
            go_wp2
            go_roundw
            case rel => exact ⟨k + 1, by omega, by go_num, hidI (Hb.out.alloc hsz _), HE⟩
            case measure => simp [intOf]; omega
          | false =>
            have HE : Hid (enterE l p = 6) := hidI (by simpa using He')
            clear He'
            go_wp2
            go_ret
            exact ⟨Hb.out.alloc hsz _, ret_int HE.out.symm⟩
      · have h47' : (((X[k]'hlt).toNat : Int) != 47) = true := bne_iff_ne.2 fun h => h47 (UInt8.toNat_inj.1 (by have : (47 : UInt8).toNat = 47 := rfl; omega))
        have HE : Hid (enterE l p = enterAt l p (X.size - (k + 1)) (k + 1)) := by
          refine He'.trans ?_
          show (if p.getD k 0 = 47 then _ else _) = _
          rw [if_neg (by rw [← hg]; exact h47)]
        clear He' hg h47 hs
        go_wp2
        go_roundw
        case rel => exact ⟨k + 1, by omega, by go_num, Hb, HE⟩
        case measure => simp [intOf]; omega
    · have HE : Hid (enterE l p = 0) := by
        have := He.out
        rw [show X.size - k = 0 by omega] at this
        exact this
      go_wp2
      go_ret
      exact ⟨Hb.out, ret_int HE.out.symm⟩
end Go.Proofs.YtodmdkhdbfbfgaaDoor
