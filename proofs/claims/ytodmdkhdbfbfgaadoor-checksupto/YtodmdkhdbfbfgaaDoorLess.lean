/- What Less of the document's own answer returns: the order of paths. -/
import Derived.Test.YtodmdkhdbfbfgaaDoorBase
namespace Go.Proofs.YtodmdkhdbfbfgaaDoor
open Go.RowKit Go.Nt
set_option linter.unusedVariables false
theorem drew3 (w : World) (p q r : Nat) : ∃ n, ((w.drewN p).drewN q).drewN r = w.drewN n := ⟨p + q + r, by simp⟩
theorem less_step {a b : Bs} {k : Nat} (h1 : k < a.length) (h2 : k < b.length) (e : a.getD k 0 = b.getD k 0) : less (a.drop k) (b.drop k) = less (a.drop (k + 1)) (b.drop (k + 1)) := by
  rw [List.drop_eq_getElem_cons h1, List.drop_eq_getElem_cons h2]
  have : a[k] = b[k] := by simpa [List.getD, h1, h2] using e
  simp [less, this]
theorem less_apart {a b : Bs} {k : Nat} (h1 : k < a.length) (h2 : k < b.length) (e : a.getD k 0 ≠ b.getD k 0) : less (a.drop k) (b.drop k) = decide (key (a.getD k 0) < key (b.getD k 0)) := by
  rw [List.drop_eq_getElem_cons h1, List.drop_eq_getElem_cons h2]
  have h3 : a.getD k 0 = a[k] := by simp [List.getD, h1]
  have h4 : b.getD k 0 = b[k] := by simp [List.getD, h2]
  rw [h3, h4] at e ⊢
  simp [less, e]
theorem less_end1 {a b : Bs} {k : Nat} (h1 : k = a.length) (h2 : k ≤ b.length) : less (a.drop k) (b.drop k) = decide (a.length < b.length) := by
  subst h1
  rw [List.drop_length]
  rcases Nat.lt_or_ge a.length b.length with h | h
  · rw [List.drop_eq_getElem_cons h]; simp [less, h]
  · rw [List.drop_eq_nil_of_le h]; simp [less]; omega
theorem less_end2 {a b : Bs} {k : Nat} (h1 : k < a.length) (h2 : k = b.length) : less (a.drop k) (b.drop k) = decide (a.length < b.length) := by
  subst h2
  rw [List.drop_length, List.drop_eq_getElem_cons h1]
  simp [less]; omega

set_option maxRecDepth 100000 in
set_option maxHeartbeats 1000000 in
theorem less_any (a b : Bs) (w : World) (ha : a.length ≤ 4611686018427387904) (hb : b.length ≤ 4611686018427387904) :
    Calls Tryd.prog 23 #[.string (txt a), .string (txt b)] w fun e w' => e = .returned (.bool (less a b)) ∧ ∃ q, w' = w.drewN q := by
  obtain ⟨A, hA⟩ : ∃ A, A = txt a := ⟨_, rfl⟩
  obtain ⟨B, hB⟩ : ∃ B, B = txt b := ⟨_, rfl⟩
  have Sa : A.size = a.length := by rw [hA, txt_size]
  have Sb : B.size = b.length := by rw [hB, txt_size]
  have ga : Hid (∀ k (h : k < A.size), A[k]'h = a.getD k 0) := fun k h => by subst hA; exact txt_getD a k h
  have gb : Hid (∀ k (h : k < B.size), B[k]'h = b.getD k 0) := fun k h => by subst hB; exact txt_getD b k h
  rw [← hA, ← hB]
  have La : A.size ≤ 4611686018427387904 := by omega
  have Lb : B.size ≤ 4611686018427387904 := by omega
  have HSa := hidI Sa
  have HSb := hidI Sb
  clear hA hB Sa Sb ha hb
  go_enter Tryd.func23, Tryd.ntmps23
  go_wp2
  go_loopw [5] (fun i wr => ∃ k : Nat, k ≤ A.size ∧ k ≤ B.size ∧ i = .int .i64 k ∧ (∃ q, wr = w.drewN q) ∧ Hid (less a b = less (a.drop k) (b.drop k))) (fun i _ => A.size - (intOf i).toNat)
  case atStart => exact ⟨0, Nat.zero_le _, Nat.zero_le _, rfl, ⟨0, rfl⟩, (rfl : less a b = less (a.drop 0) (b.drop 0))⟩
  case round =>
    obtain ⟨k, hk, hk2, rfl, ⟨q, rfl⟩, Hl⟩ := hrel
    by_cases h1 : k < A.size
    · have h1' : decide ((k : Int) < (A.size : Int)) = true := by simpa using h1
      by_cases h2 : k < B.size
      · have h2' : decide ((k : Int) < (B.size : Int)) = true := by simpa using h2
        have hga := ga.out k h1
        have hgb := gb.out k h2
        by_cases e : A[k]'h1 = B[k]'h2
        · have Hn : Hid (less a b = less (a.drop (k + 1)) (b.drop (k + 1))) := Hl.out.trans (less_step (by have := HSa.out; omega) (by have := HSb.out; omega) (by rw [← hga, ← hgb]; exact e))
          have e' : ((A[k]'h1).toNat : Int) = ((B[k]'h2).toNat : Int) := by rw [e]
          clear hga hgb e
          go_wp2
          go_quiet (fail)
          go_wp2
          go_roundw
          case rel => exact ⟨k + 1, by omega, by omega, by go_num, ⟨_, rfl⟩, Hn⟩
          case measure => simp [intOf]; omega
        · have Hn : Hid (less a b = decide (key (A[k]'h1) < key (B[k]'h2))) := Hl.out.trans (by rw [less_apart (by have := HSa.out; omega) (by have := HSb.out; omega) (by rw [← hga, ← hgb]; exact e), ← hga, ← hgb])
          have e' : ((A[k]'h1).toNat : Int) ≠ ((B[k]'h2).toNat : Int) := fun h => e (UInt8.toNat_inj.1 (by omega))
          clear hga hgb
          go_wp2
          go_quiet (fail)
          go_wp2
          by_cases x47 : A[k]'h1 = 47
          · have x' : (((A[k]'h1).toNat : Int) == 47) = true := by rw [x47]; rfl
            have Hr : Hid (less a b = true) := Hn.out.trans (by
              have : B[k]'h2 ≠ 47 := fun h => e (x47.trans h.symm)
              simp [key, x47, this])
            clear Hn e
            go_quiet (fail)
            go_wp2
            go_ret
            exact ⟨ret_bool Hr.out.symm, drew3 _ _ _ _⟩
          · have x' : (((A[k]'h1).toNat : Int) == 47) = false := beq_eq_false_iff_ne.2 fun h => x47 (UInt8.toNat_inj.1 (by have : (47 : UInt8).toNat = 47 := rfl; omega))
            by_cases y47 : B[k]'h2 = 47
            · have y' : (((B[k]'h2).toNat : Int) != 47) = false := by rw [y47]; rfl
              have Hr : Hid (less a b = false) := Hn.out.trans (by simp [key, x47, y47])
              clear Hn e
              go_quiet (fail)
              go_wp2
              go_ret
              exact ⟨ret_bool Hr.out.symm, drew3 _ _ _ _⟩
            · have y' : (((B[k]'h2).toNat : Int) != 47) = true := bne_iff_ne.2 fun h => y47 (UInt8.toNat_inj.1 (by have : (47 : UInt8).toNat = 47 := rfl; omega))
              have Hr : Hid (less a b = decide ((A[k]'h1).toNat < (B[k]'h2).toNat)) := Hn.out.trans (by
                simp only [key, if_neg x47, if_neg y47]
                congr 1
                apply propext
                omega)
              clear Hn e
              go_quiet (fail)
              go_wp2
              go_ret
              exact ⟨ret_bool Hr.out.symm, drew3 _ _ _ _⟩
      · have h2' : decide ((k : Int) < (B.size : Int)) = false := by simpa using h2
        have Hn : Hid (less a b = decide (A.size < B.size)) := Hl.out.trans (by have h3 := HSa.out; have h4 := HSb.out; rw [less_end2 (by omega) (by omega)]; simp [h3, h4])
        go_wp2
        go_ret
        exact ⟨ret_bool Hn.out.symm, q, rfl⟩
    · have h1' : decide ((k : Int) < (A.size : Int)) = false := by simpa using h1
      have Hn : Hid (less a b = decide (A.size < B.size)) := Hl.out.trans (by have h3 := HSa.out; have h4 := HSb.out; rw [less_end1 (by omega) (by omega)]; simp [h3, h4])
      go_wp2
      go_ret
      exact ⟨ret_bool Hn.out.symm, q, rfl⟩
end Go.Proofs.YtodmdkhdbfbfgaaDoor
