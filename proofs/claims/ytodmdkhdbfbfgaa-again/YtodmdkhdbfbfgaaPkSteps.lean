/- Steps that make bytes: plain facts. -/
import Derived.Test.YtodmdkhdbfbfgaaPkAdd
import Derived.Test.YtodmdkhdbfbfgaaPkGroups
namespace Go.Proofs.Ytodmdkhdbfbfgaa
open Go.RowKit Pk
set_option linter.unusedVariables false
set_option linter.unusedSimpArgs false

theorem Try.info101 : (Try.prog.info? 101).map (fun i => (i.zero, i.size, i.bytes)) = some (some (.agg #[.int .i64 0, .int .i64 0]), 2, 16) := by kernel_rfl

/-- Steps as cells. -/
def stepCells : List (Nat × Nat) → List Value
  | [] => []
  | s :: l => .int .i64 (s.1 : Nat) :: .int .i64 (s.2 : Nat) :: stepCells l
theorem stepCells_append (a b : List (Nat × Nat)) : stepCells (a ++ b) = stepCells a ++ stepCells b := by
  induction a with
  | nil => rfl
  | cons x a ih => simp [stepCells, ih]
theorem stepCells_get (l : List (Nat × Nat)) (i : Nat) (h : i < l.length) : (stepCells l)[2 * i]? = some (.int .i64 ((l.getD i (0, 0)).1 : Nat)) ∧ (stepCells l)[2 * i + 1]? = some (.int .i64 ((l.getD i (0, 0)).2 : Nat)) := by
  induction l generalizing i with
  | nil => simp at h
  | cons x l ih =>
    cases i with
    | zero => simp [stepCells]
    | succ i =>
      have := ih i (by simpa using h)
      rw [show 2 * (i + 1) = 2 * i + 1 + 1 by omega, show 2 * i + 1 + 1 + 1 = (2 * i + 1) + 1 + 1 by omega]
      simpa [stepCells] using this

/-- Where the k-th step begins. -/
def posS (l : List (Nat × Nat)) (k : Nat) : Nat := sumL slen (l.take k)
theorem posS_snoc (l : List (Nat × Nat)) (s : Nat × Nat) (k : Nat) (h : k ≤ l.length) : posS (l ++ [s]) k = posS l k := by
  unfold posS; rw [List.take_append_of_le_length h]
theorem posS_end (l : List (Nat × Nat)) (s : Nat × Nat) : posS (l ++ [s]) (l.length + 1) = posS l l.length + slen s := by
  unfold posS
  rw [List.take_of_length_le (by simp), List.take_of_length_le (Nat.le_refl _), sumL_append]
  simp [sumL]
theorem posS_succ (l : List (Nat × Nat)) (k : Nat) (h : k < l.length) : posS l (k + 1) = posS l k + slen (l.getD k (0, 0)) := by
  unfold posS
  rw [List.take_add_one, List.getElem?_eq_getElem h, sumL_append, List.getD_eq_getElem?_getD, List.getElem?_eq_getElem h]
  simp [sumL]

/-- The steps make d up to a. -/
structure OkS (d : List UInt8) (l : List (Nat × Nat)) (a : Nat) : Prop where
  ok : ∀ k, k < l.length → okStep d (posS l k) (l.getD k (0, 0))
  fin : posS l l.length = a
theorem OkS.snoc {d : List UInt8} {l : List (Nat × Nat)} {a : Nat} (h : OkS d l a) (s : Nat × Nat) (hs : okStep d a s) : OkS d (l ++ [s]) (a + slen s) := by
  refine ⟨fun k hk => ?_, ?_⟩
  · simp at hk
    rw [posS_snoc l s k (by omega)]
    by_cases e : k = l.length
    · subst e
      rw [h.fin, List.getD_eq_getElem?_getD, List.getElem?_append_right (Nat.le_refl _)]
      simpa using hs
    · rw [List.getD_eq_getElem?_getD, List.getElem?_append_left (by omega), ← List.getD_eq_getElem?_getD]
      exact h.ok k (by omega)
  · rw [List.length_append, List.length_singleton, posS_end, h.fin]

def litS (l : List (Nat × Nat)) : Nat := sumL (fun s => if s.1 < 256 then 1 else 0) l
def cpS (l : List (Nat × Nat)) : Nat := sumL (fun s => if s.1 < 256 then 0 else 1) l
theorem litS_snoc (l : List (Nat × Nat)) (s : Nat × Nat) : litS (l ++ [s]) = litS l + if s.1 < 256 then 1 else 0 := by unfold litS; rw [sumL_append]; simp [sumL]
theorem cpS_snoc (l : List (Nat × Nat)) (s : Nat × Nat) : cpS (l ++ [s]) = cpS l + if s.1 < 256 then 0 else 1 := by unfold cpS; rw [sumL_append]; simp [sumL]

/-- The steps of bytes that are all the same. -/
inductive AS (n c a : Nat) (l : List (Nat × Nat)) : Prop
  | start : a = 0 → l = [] → AS n c a l
  | run : 1 ≤ a → litS l = 1 → 34 * cpS l + 1 = a → (∀ s ∈ l, s.1 = c ∨ s.1 = 287) → AS n c a l
  | rest (x : Nat) : n < a + 3 → litS l + (n - a) ≤ 3 → 34 * cpS l ≤ a + 33 → (∀ s ∈ l, s.1 = c ∨ s.1 = 287 ∨ s.1 = x) → AS n c a l

theorem AS.lit {n c a : Nat} {l : List (Nat × Nat)} (h : AS n c a l) (hc : c < 256) (ha : a < n) (h3 : n < a + 3 ∨ a = 0) : AS n c (a + 1) (l ++ [(c, 0)]) := by
  have e1 := litS_snoc l (c, 0)
  have e2 := cpS_snoc l (c, 0)
  rw [if_pos hc] at e1 e2
  cases h with
  | start h1 h2 =>
    subst h1; subst h2
    refine .run (by omega) (by rw [e1]; rfl) (by rw [e2]; rfl) (fun s hs => ?_)
    simp at hs; subst hs; exact .inl rfl
  | run h1 h2 h4 h5 =>
    refine .rest c (by omega) (by omega) (by omega) (fun s hs => ?_)
    rcases List.mem_append.1 hs with hs | hs
    · rcases h5 s hs with h | h
      · exact .inl h
      · exact .inr (.inl h)
    · simp at hs; subst hs; exact .inl rfl
  | rest x h1 h2 h4 h5 =>
    refine .rest x (by omega) (by omega) (by omega) (fun s hs => ?_)
    rcases List.mem_append.1 hs with hs | hs
    · exact h5 s hs
    · simp at hs; subst hs; exact .inl rfl
theorem AS.cp {n c a len bk : Nat} {l : List (Nat × Nat)} (h : AS n c a l) (h3 : a + 3 ≤ n) (ha : 1 ≤ a) (hl : len = min 34 (n - a)) : AS n c (a + len) (l ++ [(len + 253, bk)]) := by
  have e1 := litS_snoc l (len + 253, bk)
  have e2 := cpS_snoc l (len + 253, bk)
  rw [if_neg (by simp; omega)] at e1 e2
  cases h with
  | start h1 h2 => omega
  | run h1 h2 h4 h5 =>
    by_cases e : len = 34
    · refine .run (by omega) (by omega) (by omega) (fun s hs => ?_)
      rcases List.mem_append.1 hs with hs | hs
      · exact h5 s hs
      · simp at hs; subst hs; right; simp; omega
    · refine .rest (len + 253) (by omega) (by omega) (by omega) (fun s hs => ?_)
      rcases List.mem_append.1 hs with hs | hs
      · rcases h5 s hs with h | h
        · exact .inl h
        · exact .inr (.inl h)
      · simp at hs; subst hs; right; right; rfl
  | rest x h1 h2 h4 h5 => omega

theorem Keeps.ownN {t : TypeId} {w w' : World} (h : Keeps t w w') {base n size : Nat} {v : Value} {xs : List Value} (o : w.ownsRow base t size v n xs) : w'.ownsRow base t size v n xs := by
  refine ⟨o.1, ?_⟩
  rcases o.2 with h1 | ⟨g, cap, cur, h1, h2, h3, h4⟩
  · exact .inl h1
  · exact .inr ⟨g, cap, cur, h1, h2, h.block h3, h4⟩
end Go.Proofs.Ytodmdkhdbfbfgaa
