/- Rows of items in memory: five cells each; a list that a call owns, read as items; what an append of items needs. -/
import Derived.Test.YtodmdkhdbfbfgaaDoorSame
import Derived.Laws.AppendOwnNone
namespace Go.Proofs.YtodmdkhdbfbfgaaDoor
open Go.RowKit Go.Nt
set_option linter.unusedVariables false

theorem Tryd.info24 : (Tryd.prog.info? 24).map (fun i => (i.zero, i.size, i.bytes)) = some (some (.agg #[.string ByteArray.empty, .bool false, .string ByteArray.empty, .int .i64 0, .int .i64 0]), 5, 56) := by kernel_rfl

/-- An item's five cells, as a list. -/
def itl (x : It) : List Value := [.string (txt x.path), .bool x.dir, .string (txt x.data), .int .i64 x.mode, .int .i64 x.time]
/-- A list of items, as its cells. -/
def its (l : List It) : List Value := l.flatMap itl

theorem its_nil : its [] = [] := rfl
theorem its_cons (x : It) (l : List It) : its (x :: l) = itl x ++ its l := rfl
theorem its_append (l m : List It) : its (l ++ m) = its l ++ its m := by simp [its]
theorem its_one (x : It) : its [x] = itl x := by simp [its]
theorem its_length (l : List It) : (its l).length = l.length * 5 := by
  induction l with
  | nil => rfl
  | cons x l ih => rw [its_cons, List.length_append, ih]; simp [itl]; omega

theorem its_get : ∀ {l : List It} {k : Nat} {x : It}, l[k]? = some x → ∀ j, j < 5 → (its l)[k * 5 + j]? = (itl x)[j]?
  | [], k, x, h, _, _ => by simp at h
  | y :: l, 0, x, h, j, hj => by
    simp at h
    subst h
    rw [its_cons, Nat.zero_mul, Nat.zero_add, List.getElem?_append_left (by simp [itl]; omega)]
  | y :: l, k + 1, x, h, j, hj => by
    have h' : l[k]? = some x := by simpa using h
    rw [its_cons, List.getElem?_append_right (by simp [itl]; omega)]
    have : (k + 1) * 5 + j - (itl y).length = k * 5 + j := by simp [itl]; omega
    rw [this]
    exact its_get h' j hj

theorem its_one_cell {l : List It} : ∀ u ∈ its l, u.oneCell' = true := by
  intro u hu
  obtain ⟨x, _, hx⟩ := List.mem_flatMap.1 hu
  simp only [itl, List.mem_cons, List.not_mem_nil, or_false] at hx
  rcases hx with rfl | rfl | rfl | rfl | rfl <;> rfl

theorem addr_add (b o j : Nat) : (⟨b, o, none⟩ : Addr).add j = ⟨b, o + j, none⟩ := by unfold Addr.add; split <;> simp_all

/-- Cells that are items. -/
theorem ItAt.of_cells {w : World} {b o : Nat} {x : It} (h : ∀ j u, (itl x)[j]? = some u → w.cell? ⟨b, o + j, none⟩ = some u) : ItAt w b o x :=
  ⟨h 0 _ rfl, h 1 _ rfl, h 2 _ rfl, h 3 _ rfl, h 4 _ rfl⟩

theorem ItAt.cell {w : World} {b o : Nat} {x : It} (h : ItAt w b o x) {j : Nat} {u : Value} (hu : (itl x)[j]? = some u) : w.cell? ⟨b, o + j, none⟩ = some u := by
  obtain ⟨h0, h1, h2, h3, h4⟩ := h
  match j, hu with
  | 0, hu => simp [itl] at hu; subst hu; exact h0
  | 1, hu => simp [itl] at hu; subst hu; exact h1
  | 2, hu => simp [itl] at hu; subst hu; exact h2
  | 3, hu => simp [itl] at hu; subst hu; exact h3
  | 4, hu => simp [itl] at hu; subst hu; exact h4
  | j + 5, hu => simp [itl] at hu

/-- The cells of items that are read. -/
theorem its_cells {w : World} {b o : Nat} {l : List It} (h : ∀ k (x : It), l[k]? = some x → ItAt w b (o + k * 5) x) : ∀ j u, (its l)[j]? = some u → w.cell? ((⟨b, o, none⟩ : Addr).add j) = some u := by
  intro j u hu
  have hj : j < l.length * 5 := by
    have := (List.getElem?_eq_some_iff.1 hu).1
    rw [its_length] at this
    exact this
  have hk : j / 5 < l.length := by omega
  have hx := List.getElem?_eq_getElem hk
  have e : j = j / 5 * 5 + j % 5 := by omega
  rw [e, its_get hx (j % 5) (by omega)] at hu
  rw [addr_add]
  have := (h (j / 5) _ hx).cell hu
  rw [show o + j / 5 * 5 + j % 5 = o + j by omega] at this
  exact this

/-- A list that a call owns, read as items. -/
theorem own_items {w : World} {B : Nat} {v : Value} {l : List It} (h : w.ownsRow B 24 5 v l.length (its l)) : (v = .slice none 0 0 ∧ l = []) ∨ ∃ g cap, v = .slice (some ⟨g, 0, none⟩) l.length cap ∧ B ≤ g ∧ g < w.heap.size ∧ l.length ≤ cap ∧ cap ≤ maxLen ∧ ∀ k (x : It), l[k]? = some x → ItAt w g (0 + k * 5) x := by
  rcases h.2 with ⟨rfl, h0⟩ | ⟨g, cap, cur, rfl, hb, hh, h1, h2, h3, h4⟩
  · exact .inl ⟨rfl, List.eq_nil_of_length_eq_zero h0⟩
  · refine .inr ⟨g, cap, rfl, hb, lt_of_heap hh, h1, h2, fun k x hx => ItAt.of_cells fun j u hu => ?_⟩
    have hk : k < l.length := (List.getElem?_eq_some_iff.1 hx).1
    have hj : j < 5 := by have := (List.getElem?_eq_some_iff.1 hu).1; simpa [itl] using this
    have := its_get hx j hj
    rw [hu, ← h4, List.getElem?_take_of_lt (by omega)] at this
    rw [cell_of_row w g _ cur 24 (0, 0) hh, Nat.zero_add]
    simpa using this

theorem own_in {w : World} {B : Nat} {v : Value} {l : List It} (h : w.ownsRow B 24 5 v l.length (its l)) : ∃ a c, v = .slice a l.length c ∧ ItsIn w a l := by
  rcases own_items h with ⟨rfl, rfl⟩ | ⟨g, cap, rfl, _, _, _, _, hc⟩
  · exact ⟨none, 0, rfl, fun hn => absurd rfl hn⟩
  · exact ⟨_, cap, rfl, fun _ => ⟨g, 0, rfl, hc⟩⟩

/-- Items with one more, in its place. -/
def ins (l : List It) (x : It) : List It := l.takeWhile (fun y => less y.path x.path) ++ x :: l.dropWhile (fun y => less y.path x.path)

theorem ins_at {l : List It} {x : It} {k : Nat} (hk : k ≤ l.length) (h1 : ∀ j y, j < k → l[j]? = some y → less y.path x.path = true) (h2 : ∀ y, l[k]? = some y → less y.path x.path = false) : ins l x = l.take k ++ x :: l.drop k := by
  induction l generalizing k with
  | nil => simp at hk; subst hk; rfl
  | cons y l ih =>
    cases k with
    | zero =>
      have := h2 y rfl
      simp [ins, this]
    | succ k =>
      have h0 := h1 0 y (by omega) rfl
      have := ih (k := k) (by simpa using hk) (fun j z hj hz => h1 (j + 1) z (by omega) (by simpa using hz)) (fun z hz => h2 z (by simpa using hz))
      unfold ins at this ⊢
      simp only [List.takeWhile_cons, List.dropWhile_cons, h0, if_true, List.cons_append, this, List.take_succ_cons, List.drop_succ_cons]

theorem ins_length (l : List It) (x : It) : (ins l x).length = l.length + 1 := by
  unfold ins
  have := congrArg List.length (List.takeWhile_append_dropWhile (p := fun y : It => less y.path x.path) (l := l))
  simp only [List.length_append, List.length_cons] at this ⊢
  omega

end Go.Proofs.YtodmdkhdbfbfgaaDoor
