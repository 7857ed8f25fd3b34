/- What isPath and isItem return: whether a text is a path, whether an item may be in a tree. -/
import Derived.Test.YtodmdkhdbfbfgaaDoorName
import Derived.Test.YtodmdkhdbfbfgaaDoorNames
namespace Go.Proofs.YtodmdkhdbfbfgaaDoor
open Go.RowKit Go.Nt
set_option linter.unusedVariables false

theorem split_none {p : Bs} (h : (47 : UInt8) ∉ p) : split p = [p] := by
  induction p with
  | nil => rfl
  | cons c l ih =>
    have hc : c ≠ 47 := fun e => h (by simp [e])
    rw [split_other hc (ih fun hh => h (by simp [hh]))]

theorem split_app {c r : Bs} (h : (47 : UInt8) ∉ c) : split (c ++ 47 :: r) = c :: split r := by
  induction c with
  | nil => rw [List.nil_append, split_slash]
  | cons x l ih =>
    have hx : x ≠ 47 := fun e => h (by simp [e])
    rw [List.cons_append, split_other hx (ih fun hh => h (by simp [hh]))]

theorem idx47 (p : Bs) : ((47 : UInt8) ∉ p ∧ Lib.index p [47] = -1) ∨ ∃ c r, p = c ++ 47 :: r ∧ (47 : UInt8) ∉ c ∧ Lib.index p [47] = (c.length : Int) := by
  rw [Lib.index_one]
  induction p with
  | nil => exact .inl ⟨by simp, rfl⟩
  | cons x l ih =>
    by_cases hx : x = 47
    · subst hx
      exact .inr ⟨[], l, rfl, by simp, by simp [Lib.indexByte]⟩
    · have hx' : (47 : UInt8) ≠ x := fun e => hx e.symm
      rcases ih with ⟨h1, h2⟩ | ⟨c, r, rfl, h1, h2⟩
      · exact .inl ⟨by simp [h1, hx'], by simp [Lib.indexByte, hx, h2]⟩
      · refine .inr ⟨x :: c, r, rfl, by simp [h1, hx'], ?_⟩
        have h3 : Lib.indexByte (c ++ 47 :: r) 47 ≠ -1 := by rw [h2]; omega
        simp [Lib.indexByte, hx, h2]

/-- The library's pieces are the names, if there are not too many. -/
theorem pieces : ∀ (k : Nat) (p : Bs), ((split p).length ≤ k + 1 → Lib.splitK [47] 0 k p = split p) ∧ (k + 1 < (split p).length → (Lib.splitK [47] 0 k p).length = k + 1)
  | 0, p => by
    refine ⟨fun h => ?_, fun _ => rfl⟩
    rcases idx47 p with ⟨h1, _⟩ | ⟨c, r, rfl, h1, _⟩
    · rw [split_none h1]; rfl
    · rw [split_app h1] at h
      have := split_ne r
      cases hs : split r with
      | nil => exact absurd hs this
      | cons a b => rw [hs] at h; simp at h
  | k + 1, p => by
    unfold Lib.splitK
    rcases idx47 p with ⟨h1, h2⟩ | ⟨c, r, rfl, h1, h2⟩
    · rw [h2, split_none h1]
      simp
    · rw [h2, split_app h1]
      have e1 : ((c.length : Int) == -1) = false := beq_eq_false_iff_ne.2 (by omega)
      rw [e1]
      obtain ⟨ih1, ih2⟩ := pieces k r
      simp only [Bool.false_eq_true, if_false, Int.toNat_natCast, Nat.add_zero, List.length_cons, List.length_nil]
      have e2 : (c ++ 47 :: r).take c.length = c := by simp
      have e3 : (c ++ 47 :: r).drop (c.length + (0 + 1)) = r := by
        rw [show c.length + (0 + 1) = c.length + 1 by omega, ← List.drop_drop]; simp
      rw [e2, e3]
      exact ⟨fun h => by rw [ih1 (by omega)], fun h => by rw [ih2 (by omega)]⟩

theorem split_length (p : Bs) : (split p).length ≤ p.length + 1 := by
  induction p with
  | nil => simp [split]
  | cons c l ih =>
    by_cases hc : c = 47
    · subst hc; rw [split_slash]; simp; omega
    · obtain ⟨n, ns, e⟩ := split_cons l
      rw [split_other hc e]
      rw [e] at ih
      simp at ih ⊢
      omega

theorem split_no47 (p : Bs) : ∀ n ∈ split p, (47 : UInt8) ∉ n := by
  induction p with
  | nil => intro n hn; simp [split] at hn; subst hn; simp
  | cons c l ih =>
    intro n hn
    by_cases hc : c = 47
    · subst hc
      rw [split_slash] at hn
      rcases List.mem_cons.1 hn with rfl | h
      · simp
      · exact ih n h
    · obtain ⟨m, ms, e⟩ := split_cons l
      rw [split_other hc e] at hn
      rw [e] at ih
      have hc' : (47 : UInt8) ≠ c := fun h => hc h.symm
      rcases List.mem_cons.1 hn with rfl | h
      · have := ih m (by simp)
        simp [hc', this]
      · exact ih n (by simp [h])

theorem split_le (p : Bs) : ∀ n ∈ split p, n.length ≤ p.length := by
  induction p with
  | nil => intro n hn; simp [split] at hn; subst hn; simp
  | cons c l ih =>
    intro n hn
    by_cases hc : c = 47
    · subst hc
      rw [split_slash] at hn
      rcases List.mem_cons.1 hn with rfl | h
      · simp
      · have := ih n h; simp; omega
    · obtain ⟨m, ms, e⟩ := split_cons l
      rw [split_other hc e] at hn
      rw [e] at ih
      rcases List.mem_cons.1 hn with rfl | h
      · have := ih m (by simp); simp; omega
      · have := ih n (by simp [h]); simp; omega

/-- The texts that SplitN at seven gives. -/
theorem seven (p : Bs) (K : Nat) (hK : K = min 7 (p.length + 1) - 1) :
    ((split p).length ≤ 7 ∧ Lib.splitB (txt [47]) 0 K (txt p) = (split p).map txt) ∨ (7 < (split p).length ∧ (Lib.splitB (txt [47]) 0 K (txt p)).length = 7) := by
  have hd : (Lib.splitB (txt [47]) 0 K (txt p)).map (·.data.toList) = Lib.splitK [47] 0 K p := Lib.splitB_data (txt [47]) 0 K (txt p)
  have hl := split_length p
  obtain ⟨h1, h2⟩ := pieces K p
  by_cases h : (split p).length ≤ 7
  · refine .inl ⟨h, ?_⟩
    rw [h1 (by omega)] at hd
    rw [← hd, List.map_map]
    have : (txt ∘ fun x : ByteArray => x.data.toList) = id := by funext x; exact (txt_of x).symm
    rw [this, List.map_id]
  · refine .inr ⟨by omega, ?_⟩
    have := congrArg List.length hd
    rw [List.length_map, h2 (by omega)] at this
    omega
end Go.Proofs.YtodmdkhdbfbfgaaDoor
