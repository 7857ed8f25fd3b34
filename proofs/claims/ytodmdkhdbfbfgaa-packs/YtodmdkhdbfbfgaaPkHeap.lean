/- A queue's entries as a list: plain facts on heaps. -/
import Derived.Test.YtodmdkhdbfbfgaaPkWrite
import Derived.Test.YtodmdkhdbfbfgaaBase
namespace Go.Proofs.Ytodmdkhdbfbfgaa.Pk
open Go
set_option linter.unusedVariables false
set_option linter.unusedSimpArgs false

/-- An entry of the queue. -/
structure Ent where
  wt : Nat
  tn : Nat
  b : Nat
  n : Nat
  c : Nat

/-- Its value: a slice of ints. -/
def Ent.v (e : Ent) : Value := .slice (some ⟨e.b, 0, none⟩) e.n e.c

def noEnt : Ent := ⟨0, 0, 0, 0, 0⟩
def Ent.cs (e : Ent) : List Value := [.int .i64 (e.wt : Nat), .int .i64 (e.tn : Nat), e.v]
def entCells : List Ent → List Value
  | [] => []
  | e :: es => .int .i64 (e.wt : Nat) :: .int .i64 (e.tn : Nat) :: e.v :: entCells es

theorem entCells_length (es : List Ent) : (entCells es).length = es.length * 3 := by
  induction es with
  | nil => rfl
  | cons e es ih => simp [entCells, ih]; omega
theorem entCells_append (a b : List Ent) : entCells (a ++ b) = entCells a ++ entCells b := by
  induction a with
  | nil => rfl
  | cons e a ih => simp [entCells, ih]
theorem entCells_get (es : List Ent) (i : Nat) (h : i < es.length) :
    (entCells es)[3 * i]? = some (.int .i64 ((es.getD i noEnt).wt : Nat)) ∧ (entCells es)[3 * i + 1]? = some (.int .i64 ((es.getD i noEnt).tn : Nat)) ∧ (entCells es)[3 * i + 2]? = some (es.getD i noEnt).v := by
  induction es generalizing i with
  | nil => simp at h
  | cons e es ih =>
    cases i with
    | zero => simp [entCells]
    | succ i =>
      have := ih i (by simpa using h)
      rw [show 3 * (i + 1) = 3 * i + 1 + 1 + 1 by omega, show 3 * i + 1 + 1 + 1 + 1 = (3 * i + 1) + 1 + 1 + 1 by omega, show 3 * i + 1 + 1 + 1 + 2 = (3 * i + 2) + 1 + 1 + 1 by omega]
      simpa [entCells] using this
theorem entCells_set (es : List Ent) (i : Nat) (e : Ent) :
    (((entCells es).set (3 * i) (.int .i64 (e.wt : Nat))).set (3 * i + 1) (.int .i64 (e.tn : Nat))).set (3 * i + 2) e.v = entCells (es.set i e) := by
  induction es generalizing i with
  | nil => simp [entCells]
  | cons x es ih =>
    cases i with
    | zero => simp [entCells]
    | succ i =>
      have := ih i
      rw [show 3 * (i + 1) = 3 * i + 1 + 1 + 1 by omega, show 3 * i + 1 + 1 + 1 + 1 = (3 * i + 1) + 1 + 1 + 1 by omega, show 3 * i + 1 + 1 + 1 + 2 = (3 * i + 2) + 1 + 1 + 1 by omega]
      simpa [entCells] using this
theorem entCells_take (es : List Ent) (k : Nat) : (entCells es).take (k * 3) = entCells (es.take k) := by
  induction es generalizing k with
  | nil => simp [entCells]
  | cons x es ih =>
    cases k with
    | zero => simp [entCells]
    | succ k => rw [Nat.add_mul, show k * 3 + 1 * 3 = k * 3 + 1 + 1 + 1 by omega]; simp [entCells, ih]

/-- The weight at a place. -/
def wa (es : List Ent) (i : Nat) : Nat := (es.getD i noEnt).wt

def swp (es : List Ent) (i j : Nat) : List Ent := (es.set i (es.getD j noEnt)).set j (es.getD i noEnt)

theorem swp_length (es : List Ent) (i j : Nat) : (swp es i j).length = es.length := by simp [swp]
theorem swp_perm (es : List Ent) (i j : Nat) (hi : i < es.length) (hj : j < es.length) : List.Perm (swp es i j) es := by
  have := List.set_set_perm hi hj
  unfold swp
  rw [List.getD_eq_getElem?_getD, List.getElem?_eq_getElem hj, List.getD_eq_getElem?_getD, List.getElem?_eq_getElem hi]
  exact this
theorem wa_swp (es : List Ent) (i j k : Nat) (hi : i < es.length) (hj : j < es.length) : wa (swp es i j) k = if k = j then wa es i else if k = i then wa es j else wa es k := by
  unfold wa swp
  rw [List.getD_eq_getElem?_getD, List.getElem?_set]
  by_cases h : j = k
  · subst h; simp [hi, hj]
  · rw [if_neg h, if_neg (fun e => h e.symm), List.getElem?_set]
    by_cases h2 : i = k
    · subst h2; simp [hi, hj]
    · rw [if_neg h2, if_neg (fun e => h2 e.symm), List.getD_eq_getElem?_getD]

def Heap (es : List Ent) : Prop := ∀ i, 0 < i → i < es.length → wa es ((i - 1) / 2) ≤ wa es i
/-- A heap but for the entry at a, which may be lighter than the one above. -/
structure RI (es : List Ent) (a : Nat) : Prop where
  all : ∀ i, 0 < i → i < es.length → i ≠ a → wa es ((i - 1) / 2) ≤ wa es i
  skip : ∀ i, 0 < i → i < es.length → (i - 1) / 2 = a → 0 < a → wa es ((a - 1) / 2) ≤ wa es i
/-- A heap but for the entry at a, which may be heavier than those below. -/
structure SI (es : List Ent) (a : Nat) : Prop where
  all : ∀ i, 0 < i → i < es.length → (i - 1) / 2 ≠ a → wa es ((i - 1) / 2) ≤ wa es i
  skip : ∀ i, 0 < i → i < es.length → (i - 1) / 2 = a → 0 < a → wa es ((a - 1) / 2) ≤ wa es i

theorem rise_step {es : List Ent} {a : Nat} (h : RI es a) (h0 : 0 < a) (ha : a < es.length) (hw : wa es a ≤ wa es ((a - 1) / 2)) : RI (swp es a ((a - 1) / 2)) ((a - 1) / 2) := by
  have hb : (a - 1) / 2 < es.length := by omega
  obtain ⟨b, hbe⟩ : ∃ b, b = (a - 1) / 2 := ⟨_, rfl⟩
  rw [← hbe] at hw hb ⊢
  constructor
  · intro i h1 h2 h3
    rw [swp_length] at h2
    rw [wa_swp es a b _ ha hb, wa_swp es a b _ ha hb]
    rw [if_neg h3]
    by_cases e : i = a
    · subst e
      rw [if_pos hbe.symm, if_pos rfl]; exact hw
    · rw [if_neg e]
      have hi := h.all i h1 h2 e
      by_cases e1 : (i - 1) / 2 = b
      · rw [if_pos e1]; rw [e1] at hi; omega
      · rw [if_neg e1]
        by_cases e2 : (i - 1) / 2 = a
        · rw [if_pos e2]
          have := h.skip i h1 h2 e2 h0
          rw [← hbe] at this; exact this
        · rw [if_neg e2]; exact hi
  · intro i h1 h2 h3 h4
    rw [swp_length] at h2
    rw [wa_swp es a b _ ha hb, wa_swp es a b _ ha hb]
    have hbb := h.all b h4 hb (by omega)
    rw [if_neg (by omega), if_neg (by omega : ¬ (b - 1) / 2 = a)]
    by_cases e : i = b
    · omega
    · rw [if_neg e]
      by_cases e2 : i = a
      · rw [if_pos e2]; exact hbb
      · rw [if_neg e2]
        have hi := h.all i h1 h2 e2
        rw [h3] at hi
        omega

theorem rise_done {es : List Ent} {a : Nat} (h : RI es a) (hw : a = 0 ∨ wa es ((a - 1) / 2) ≤ wa es a) : Heap es := by
  intro i h1 h2
  by_cases e : i = a
  · subst e
    rcases hw with hw | hw
    · omega
    · exact hw
  · exact h.all i h1 h2 e

theorem sink_step {es : List Ent} {a b : Nat} (h : SI es a) (hab : (b - 1) / 2 = a) (h0 : 0 < b) (hb : b < es.length) (hw : wa es b ≤ wa es a) (hc : ∀ i, 0 < i → i < es.length → (i - 1) / 2 = a → wa es b ≤ wa es i) : SI (swp es a b) b := by
  have ha : a < es.length := by omega
  constructor
  · intro i h1 h2 h3
    rw [swp_length] at h2
    rw [wa_swp es a b _ ha hb, wa_swp es a b _ ha hb]
    rw [if_neg h3]
    by_cases e : i = b
    · subst e
      rw [if_pos hab, if_pos rfl]; exact hw
    · rw [if_neg e]
      by_cases e1 : (i - 1) / 2 = a
      · rw [if_pos e1, if_neg (by omega)]
        exact hc i h1 h2 e1
      · rw [if_neg e1]
        have hi := h.all i h1 h2 e1
        by_cases e2 : i = a
        · rw [if_pos e2, e2]
          have := h.skip b h0 hb hab (by omega)
          exact this
        · rw [if_neg e2]; exact hi
  · intro i h1 h2 h3 h4
    rw [swp_length] at h2
    rw [wa_swp es a b _ ha hb, wa_swp es a b _ ha hb]
    rw [if_neg (by omega), if_pos hab, if_neg (by omega), if_neg (by omega)]
    have := h.all i h1 h2 (by omega)
    rw [h3] at this
    exact this

theorem sink_done {es : List Ent} {a : Nat} (h : SI es a) (hc : ∀ i, 0 < i → i < es.length → (i - 1) / 2 = a → wa es a ≤ wa es i) : Heap es := by
  intro i h1 h2
  by_cases e : (i - 1) / 2 = a
  · rw [e]; exact hc i h1 h2 e
  · exact h.all i h1 h2 e

theorem heap_root {es : List Ent} (h : Heap es) : ∀ i, i < es.length → wa es 0 ≤ wa es i := by
  intro i
  induction i using Nat.strongRecOn with
  | _ i ih =>
    intro hi
    by_cases e : i = 0
    · subst e; exact Nat.le_refl _
    · exact Nat.le_trans (ih ((i - 1) / 2) (by omega) (by omega)) (h i (by omega) hi)

theorem wa_snoc (es : List Ent) (e : Ent) (i : Nat) (h : i < es.length) : wa (es ++ [e]) i = wa es i := by
  unfold wa
  rw [List.getD_eq_getElem?_getD, List.getElem?_append_left h, List.getD_eq_getElem?_getD]

theorem heap_snoc {es : List Ent} (h : Heap es) (e : Ent) : RI (es ++ [e]) es.length := by
  constructor
  · intro i h1 h2 h3
    have h2' : i < es.length := by simp at h2; omega
    rw [wa_snoc es e i h2', wa_snoc es e _ (by omega)]
    exact h i h1 h2'
  · intro i h1 h2 h3 h4
    simp at h2; omega

/-- The first goes, the last takes its place. -/
def popped (es : List Ent) : List Ent := (es.set 0 (es.getD (es.length - 1) noEnt)).take (es.length - 1)

theorem popped_length (es : List Ent) : (popped es).length = es.length - 1 := by simp [popped]
theorem wa_popped (es : List Ent) (i : Nat) (h : 0 < i) (hi : i < es.length - 1) : wa (popped es) i = wa es i := by
  unfold wa popped
  rw [List.getD_eq_getElem?_getD, List.getElem?_take_of_lt hi, List.getElem?_set_ne (by omega), List.getD_eq_getElem?_getD]
theorem popped_si {es : List Ent} (h : Heap es) : SI (popped es) 0 := by
  constructor
  · intro i h1 h2 h3
    rw [popped_length] at h2
    rw [wa_popped es i h1 h2, wa_popped es _ (by omega) (by omega)]
    exact h i h1 (by omega)
  · intro i h1 h2 h3 h4; omega
theorem popped_perm (e : Ent) (r : List Ent) : List.Perm (popped (e :: r)) r := by
  cases h : r.reverse with
  | nil =>
    have : r = [] := by simpa using h
    subst this; exact List.Perm.refl _
  | cons x l =>
    have hr : r = l.reverse ++ [x] := by
      have := congrArg List.reverse h
      simpa using this
    subst hr
    have : popped (e :: (l.reverse ++ [x])) = x :: l.reverse := by
      unfold popped
      have hx : (e :: (l.reverse ++ [x])).getD ((e :: (l.reverse ++ [x])).length - 1) noEnt = x := by
        rw [List.getD_eq_getElem?_getD]
        simp [List.getElem?_cons]
      rw [hx]
      simp [List.take_append]
    rw [this]
    exact (List.perm_append_singleton x _).symm
end Go.Proofs.Ytodmdkhdbfbfgaa.Pk
