/- What Check of the document's own answer returns: the tree in its order, or that the items are none. -/
import Derived.Test.YtodmdkhdbfbfgaaDoorOrder
import Derived.Test.YtodmdkhdbfbfgaaDoorAdd
namespace Go.Proofs.YtodmdkhdbfbfgaaDoor
open Go.RowKit Go.Nt
set_option linter.unusedVariables false

/-- What the walk has seen of the first k items. -/
structure ChkAt (l : List It) (k : Nat) : Prop where
  ok : ∀ x ∈ l.take k, okItem x = true
  nd : ((l.take k).map (·.path)).Nodup
  pa : ∀ x ∈ l.take k, par x.path = [] ∨ dirAt l (par x.path) = true

theorem ChkAt.next {l : List It} {k : Nat} {x : It} (h : ChkAt l k) (hx : l[k]? = some x) (h1 : okItem x = true) (h2 : ∀ y ∈ l.take k, y.path ≠ x.path) (h3 : par x.path = [] ∨ dirAt l (par x.path) = true) : ChkAt l (k + 1) := by
  have e : l.take (k + 1) = l.take k ++ [x] := by rw [List.take_add_one, hx]; rfl
  refine ⟨fun y hy => ?_, nodup_snoc hx h.nd h2, fun y hy => ?_⟩
  · rw [e, List.mem_append] at hy
    rcases hy with hy | hy
    · exact h.ok y hy
    · simp at hy; subst hy; exact h1
  · rw [e, List.mem_append] at hy
    rcases hy with hy | hy
    · exact h.pa y hy
    · simp at hy; subst hy; exact h3

theorem ChkAt.all {l : List It} (h : ChkAt l l.length) (hl : l.length ≤ 60) : isTree l = true := by
  obtain ⟨h1, h2, h3⟩ := h
  rw [List.take_length] at h1 h2 h3
  unfold isTree
  simp only [Bool.and_eq_true, decide_eq_true_eq, List.all_eq_true, Bool.or_eq_true]
  exact ⟨⟨⟨hl, h1⟩, h2⟩, h3⟩

/-- The first error of an item. -/
theorem item_cases (x : It) (D : ByteArray) (hD : D = txt x.data) (xd : Bool) (hxd : xd = x.dir) (hp : okPath x.path = true) :
    (okItem x = false ∧ (4000 < D.size ∨ (D.size ≤ 4000 ∧ ((xd = true ∧ ¬ D.toList = []) ∨ ((xd = false ∨ (xd = true ∧ D.toList = [])) ∧ (x.mode < 0 ∨ (0 ≤ x.mode ∧ (4095 < x.mode ∨ (x.mode ≤ 4095 ∧ (x.time < 0 ∨ (0 ≤ x.time ∧ 2147483647 < x.time))))))))))) ∨
    (okItem x = true ∧ D.size ≤ 4000 ∧ (xd = false ∨ (xd = true ∧ D.toList = [])) ∧ 0 ≤ x.mode ∧ x.mode ≤ 4095 ∧ 0 ≤ x.time ∧ x.time ≤ 2147483647) := by
  subst hxd
  subst hD
  rw [txt_toList, txt_size]
  unfold okItem
  rw [hp]
  by_cases h1 : x.data.length ≤ 4000
  · by_cases h2 : x.dir = true
    · by_cases h3 : x.data = []
      · by_cases h4 : 0 ≤ x.mode
        · by_cases h5 : x.mode ≤ 4095
          · by_cases h6 : 0 ≤ x.time
            · by_cases h7 : x.time ≤ 2147483647
              · exact .inr ⟨by simp [h2, h3, h4, h5, h6, h7], h1, .inr ⟨h2, by simp [h3]⟩, h4, h5, h6, h7⟩
              · exact .inl ⟨by simp [h7], .inr ⟨h1, .inr ⟨.inr ⟨h2, by simp [h3]⟩, .inr ⟨h4, .inr ⟨h5, .inr ⟨h6, by omega⟩⟩⟩⟩⟩⟩
            · exact .inl ⟨by simp [h6], .inr ⟨h1, .inr ⟨.inr ⟨h2, by simp [h3]⟩, .inr ⟨h4, .inr ⟨h5, .inl (by omega)⟩⟩⟩⟩⟩
          · exact .inl ⟨by simp [h5], .inr ⟨h1, .inr ⟨.inr ⟨h2, by simp [h3]⟩, .inr ⟨h4, .inl (by omega)⟩⟩⟩⟩
        · exact .inl ⟨by simp [h4], .inr ⟨h1, .inr ⟨.inr ⟨h2, by simp [h3]⟩, .inl (by omega)⟩⟩⟩
      · exact .inl ⟨by simp [h2, h3], .inr ⟨h1, .inl ⟨h2, by simp [h3]⟩⟩⟩
    · have h2' : x.dir = false := by simpa using h2
      by_cases h4 : 0 ≤ x.mode
      · by_cases h5 : x.mode ≤ 4095
        · by_cases h6 : 0 ≤ x.time
          · by_cases h7 : x.time ≤ 2147483647
            · exact .inr ⟨by simp [h1, h2', h4, h5, h6, h7], h1, .inl h2', h4, h5, h6, h7⟩
            · exact .inl ⟨by simp [h7], .inr ⟨h1, .inr ⟨.inl h2', .inr ⟨h4, .inr ⟨h5, .inr ⟨h6, by omega⟩⟩⟩⟩⟩⟩
          · exact .inl ⟨by simp [h6], .inr ⟨h1, .inr ⟨.inl h2', .inr ⟨h4, .inr ⟨h5, .inl (by omega)⟩⟩⟩⟩⟩
        · exact .inl ⟨by simp [h5], .inr ⟨h1, .inr ⟨.inl h2', .inr ⟨h4, .inl (by omega)⟩⟩⟩⟩
      · exact .inl ⟨by simp [h4], .inr ⟨h1, .inr ⟨.inl h2', .inl (by omega)⟩⟩⟩
  · exact .inl ⟨by simp [h1], .inl (by omega)⟩

theorem dirAt_find {l : List It} {p : Bs} {k : Nat} {x : It} (hx : l[k]? = some x) (e : x.path = p) (hn : (l.map (·.path)).Nodup) : dirAt l p = x.dir := by
  cases hd : x.dir with
  | true =>
    unfold dirAt
    rw [List.any_eq_true]
    exact ⟨x, List.mem_of_getElem? hx, by simp [e, hd]⟩
  | false =>
    cases h : dirAt l p with
    | false => rfl
    | true =>
      unfold dirAt at h
      obtain ⟨y, hy, hyp⟩ := List.any_eq_true.1 h
      simp at hyp
      obtain ⟨j, hj, rfl⟩ := List.getElem_of_mem hy
      obtain ⟨hk, rfl⟩ := List.getElem?_eq_some_iff.1 hx
      by_cases hjk : j = k
      · subst hjk; rw [hd] at hyp; cases hyp.2
      · exfalso
        rcases Nat.lt_or_gt_of_ne hjk with h' | h'
        · exact twice_at (List.getElem?_eq_getElem hk) (List.getElem?_eq_getElem hj) h' (hyp.1.trans e.symm) hn
        · exact twice_at (List.getElem?_eq_getElem hj) (List.getElem?_eq_getElem hk) h' (e.trans hyp.1.symm) hn

end Go.Proofs.YtodmdkhdbfbfgaaDoor
