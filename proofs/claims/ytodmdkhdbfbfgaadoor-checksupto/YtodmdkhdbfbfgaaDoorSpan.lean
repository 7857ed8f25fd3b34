/- What ContainsAny, isName and isPath return: whether a text has one of the two signs; whether it is a name; whether it is a path. -/
import Derived.Test.YtodmdkhdbfbfgaaDoorRune
import Derived.Lib.OthersKept
namespace Go.Proofs.YtodmdkhdbfbfgaaDoor
open Go.RowKit Go.Nt
set_option linter.unusedVariables false

theorem get_eq (s : ByteArray) (k : Nat) (h : k < s.size) : s.get! k = s[k]'h := by
  simp [ByteArray.get!, getElem!_pos, h]
  rfl

theorem decode_span (s : ByteArray) (i : Nat) (h : i < s.size) (ha : 128 ≤ (s[i]'h).toNat) : i + (Utf8.decode s i).2 ≤ s.size ∧ ∀ j (hj : j < s.size), i ≤ j → j < i + (Utf8.decode s i).2 → 128 ≤ (s[j]'hj).toNat := by
  have key : ∀ k, i + k < s.size → (s.get! (i + k)).toNat / 64 = 2 → ∀ hj : i + k < s.size, 128 ≤ (s[i + k]'hj).toNat := by
    intro k hk he hj
    rw [get_eq s (i + k) hj] at he
    omega
  have one : i + 1 ≤ s.size ∧ ∀ j (hj : j < s.size), i ≤ j → j < i + 1 → 128 ≤ (s[j]'hj).toNat := by
    refine ⟨by omega, fun j hj h1 h2 => ?_⟩
    obtain rfl : j = i := by omega
    exact ha
  have at0 : (s.get! (i + 0)).toNat = (s[i]'h).toNat := by rw [Nat.add_zero, get_eq s i h]
  have hn : ¬ (s.get! (i + 0)).toNat < 128 := by rw [at0]; omega
  simp only [Utf8.decode]
  rw [if_neg hn]
  split
  · rename_i hc
    simp only [Bool.and_eq_true, decide_eq_true_eq, beq_iff_eq] at hc
    split
    · refine ⟨by omega, fun j hj h1 h2 => ?_⟩
      have : j = i ∨ j = i + 1 := by omega
      rcases this with rfl | rfl
      · exact ha
      · exact key 1 hc.2.1 hc.2.2 hj
    · exact one
  · split
    · rename_i hc
      simp only [Bool.and_eq_true, decide_eq_true_eq, beq_iff_eq] at hc
      split
      · refine ⟨by omega, fun j hj h1 h2 => ?_⟩
        have : j = i ∨ j = i + 1 ∨ j = i + 2 := by omega
        rcases this with rfl | rfl | rfl
        · exact ha
        · exact key 1 hc.1.2.1 hc.1.2.2 hj
        · exact key 2 hc.2.1 hc.2.2 hj
      · exact one
    · split
      · rename_i hc
        simp only [Bool.and_eq_true, decide_eq_true_eq, beq_iff_eq] at hc
        split
        · refine ⟨by omega, fun j hj h1 h2 => ?_⟩
          have : j = i ∨ j = i + 1 ∨ j = i + 2 ∨ j = i + 3 := by omega
          rcases this with rfl | rfl | rfl | rfl
          · exact ha
          · exact key 1 hc.1.1.2.1 hc.1.1.2.2 hj
          · exact key 2 hc.1.2.1 hc.1.2.2 hj
          · exact key 3 hc.2.1 hc.2.2 hj
        · exact one
      · exact one

/-- Has a text one of the two signs? -/
def bad2 (n : Bs) : Bool := n.any fun c => c == 47 || c == 0

theorem bad2_no {n : Bs} (h : ∀ j, j < n.length → n.getD j 0 ≠ 47 ∧ n.getD j 1 ≠ 0) : bad2 n = false := by
  unfold bad2
  rw [List.any_eq_false]
  intro c hc
  obtain ⟨j, hj, rfl⟩ := List.getElem_of_mem hc
  have := h j hj
  simp [List.getD, hj] at this
  simp [this]

theorem bad2_yes {n : Bs} {j : Nat} (hj : j < n.length) (h : n.getD j 0 = 47 ∨ n.getD j 1 = 0) : bad2 n = true := by
  unfold bad2
  rw [List.any_eq_true]
  refine ⟨n[j], List.getElem_mem hj, ?_⟩
  simp [List.getD, hj] at h
  simpa using h

theorem two_idx (x : UInt8) : Lib.indexByte two.data.toList x = if x = 47 then 0 else if x = 0 then 1 else -1 := by
  have : two.data.toList = [47, 0] := rfl
  rw [this]
  by_cases h1 : x = 47
  · subst h1; rfl
  · by_cases h2 : x = 0
    · subst h2; rfl
    · have h3 : (47 : UInt8) ≠ x := fun e => h1 e.symm
      have h4 : (0 : UInt8) ≠ x := fun e => h2 e.symm
      simp [Lib.indexByte, h1, h2, h3, h4]

end Go.Proofs.YtodmdkhdbfbfgaaDoor
