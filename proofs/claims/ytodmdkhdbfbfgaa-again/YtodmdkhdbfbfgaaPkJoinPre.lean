/- Facts for the walk of join: groups in memory. -/
import Derived.Test.YtodmdkhdbfbfgaaPkSlices
import Derived.Test.YtodmdkhdbfbfgaaPkGroups
namespace Go.Proofs.Ytodmdkhdbfbfgaa
open Go.RowKit Pk
set_option linter.unusedVariables false
set_option linter.unusedSimpArgs false

/-- The symbols below k that have a weight. -/
def symsTo (wv : Nat → Nat) (k : Nat) : List Nat := (List.range k).filter fun i => decide (0 < wv i)
def sumW (wv : Nat → Nat) : Nat → Nat
  | 0 => 0
  | k + 1 => sumW wv k + wv k

theorem symsTo_yes (wv : Nat → Nat) (k : Nat) (h : 0 < wv k) : symsTo wv (k + 1) = symsTo wv k ++ [k] := by
  unfold symsTo; rw [List.range_succ, List.filter_append]; simp [h]
theorem symsTo_no (wv : Nat → Nat) (k : Nat) (h : wv k = 0) : symsTo wv (k + 1) = symsTo wv k := by
  unfold symsTo; rw [List.range_succ, List.filter_append]; simp [h]
theorem symsTo_nodup (wv : Nat → Nat) (k : Nat) : (symsTo wv k).Nodup := List.Pairwise.filter _ List.nodup_range
theorem symsTo_length (wv : Nat → Nat) (k : Nat) : (symsTo wv k).length ≤ k := by
  have := List.length_filter_le (fun i => decide (0 < wv i)) (List.range k)
  simpa [symsTo] using this
theorem mem_symsTo (wv : Nat → Nat) (k i : Nat) : i ∈ symsTo wv k ↔ i < k ∧ 0 < wv i := by
  unfold symsTo; simp

/-- The groups of the entries lie in memory. -/
def GM (w : World) (B : Nat) (es : List Ent) (G : Nat → List Nat) : Prop := ∀ e ∈ es, w.ownsRow B 3 1 (.slice (some ⟨e.b, 0, none⟩) e.n e.c) e.n (intsV (G e.b))

theorem GM.fr {w w' : World} {B K : Nat} {es : List Ent} {G : Nat → List Nat} (h : GM w B es G) (hf : Keeps 3 w w') : GM w' B es G := fun e he => hf.own (h e he)
theorem GM.perm {w : World} {B : Nat} {es es' : List Ent} {G : Nat → List Nat} (h : GM w B es G) (p : List.Perm es' es) : GM w B es' G := fun e he => h e (p.mem_iff.1 he)
theorem GM.lt {w : World} {B : Nat} {es : List Ent} {G : Nat → List Nat} (h : GM w B es G) {e : Ent} (he : e ∈ es) : e.b < w.heap.size := ((h e he).lt e.b rfl).2
theorem GM.cons {w : World} {B : Nat} {es : List Ent} {G : Nat → List Nat} (h : GM w B es G) {c : Ent} {l : List Nat} (hc : w.ownsRow B 3 1 (.slice (some ⟨c.b, 0, none⟩) c.n c.c) c.n (intsV l)) (hne : ∀ e ∈ es, e.b ≠ c.b) : GM w B (c :: es) (fun b => if b = c.b then l else G b) := by
  intro e he
  rcases List.mem_cons.1 he with rfl | k
  · simp only [if_pos]; exact hc
  · simp only [if_neg (hne e k)]; exact h e k

/-- How long the queue's row is, by memory alone. -/
def qlen (w : World) (qb : Nat) : Nat := match w.cell? ⟨qb, 0, none⟩ with | some (.slice _ n _) => n | _ => 0
theorem QM.qlen {w : World} {B qb : Nat} {es : List Ent} {pu : Nat} (h : QM w B qb es pu) : qlen w qb = es.length := by
  obtain ⟨a, c, hx⟩ := h.len rfl
  unfold Ytodmdkhdbfbfgaa.qlen
  rw [hx]

/-- The queue and its groups behind a part of the symbols. -/
structure JS (K : Nat) (w : World) (B qb : Nat) (es : List Ent) (pu : Nat) (G : Nat → List Nat) (D ln : Nat → Nat) (S : List Nat) (W : Nat) : Prop where
  q : QM w B qb es pu
  h : Pk.Heap es
  g : GM w B es G
  j : JI K es G D ln S W

theorem own_one (w : World) (B k : Nat) (hB : B ≤ w.heap.size) : (w.alloc (.cells #[.int .i64 (k : Nat)] 3)).ownsRow B 3 1 (.slice (some ⟨w.heap.size, 0, none⟩) 1 1) 1 (intsV [k]) :=
  ⟨rfl, .inr ⟨_, 1, _, rfl, hB, heap_alloc_new _ _, Nat.le_refl _, by unfold maxLen; omega, rfl, rfl⟩⟩

theorem own_base {w : World} {B n : Nat} {e : TypeId} {size : Nat} {v : Value} {xs : List Value} (h : w.ownsRow B e size v n xs) : w.ownsRow 0 e size v n xs := by
  refine ⟨h.1, ?_⟩
  rcases h.2 with h1 | ⟨g, cap, cur, h1, h2, h3⟩
  · exact .inl h1
  · exact .inr ⟨g, cap, cur, h1, Nat.zero_le _, h3⟩
theorem own_high {w w' : World} {B n : Nat} {e : TypeId} {size : Nat} {v : Value} {xs : List Value} (h : w.ownsRow B e size v n xs) (hb : ∀ k, B ≤ k → w'.heap[k]? = w.heap[k]?) : w'.ownsRow B e size v n xs := by
  refine ⟨h.1, ?_⟩
  rcases h.2 with h1 | ⟨g, cap, cur, h1, h2, h3, h4⟩
  · exact .inl h1
  · exact .inr ⟨g, cap, cur, h1, h2, (hb g h2).trans h3, h4⟩
theorem QM.high {w w' : World} {B qb : Nat} {es : List Ent} {pu : Nat} (h : QM w B qb es pu) (hb : ∀ k, B ≤ k → w'.heap[k]? = w.heap[k]?) : QM w' B qb es pu := by
  obtain ⟨v, h1, h2⟩ := h.st
  exact ⟨h.hB, v, (hb qb h.hB).trans h1, own_high h2 hb⟩
theorem GM.high {w w' : World} {B : Nat} {es : List Ent} {G : Nat → List Nat} (h : GM w B es G) (hb : ∀ k, B ≤ k → w'.heap[k]? = w.heap[k]?) : GM w' B es G := fun e he => own_high (h e he) hb
theorem own_get {w : World} {B b n c k : Nat} {l : List Nat} (h : w.ownsRow B 3 1 (.slice (some ⟨b, 0, none⟩) n c) n (intsV l)) (hk : k < n) : w.cell? ⟨b, k, none⟩ = some (.int .i64 (l.getD k 0 : Nat)) := by
  have hl : l.length = n := by have := h.1; unfold intsV at this; simpa using this
  rw [h.cellAt k (by omega)]
  unfold intsV
  rw [List.getElem?_map, List.getD_eq_getElem?_getD, List.getElem?_eq_getElem (by omega)]
  rfl
theorem own_length {w : World} {B b n c : Nat} {l : List Nat} (h : w.ownsRow B 3 1 (.slice (some ⟨b, 0, none⟩) n c) n (intsV l)) : l.length = n := by
  have := h.1; unfold intsV at this; simpa using this
theorem QM.notnew {w : World} {B qb : Nat} {es : List Ent} {pu : Nat} (h : QM w B qb es pu) (k : Nat) (hk : w.heap.size ≤ k) : ∀ n cap, w.cell? ⟨qb, 0, none⟩ ≠ some (.slice (some ⟨k, 0, none⟩) n cap) := by
  intro n cap hc
  obtain ⟨v, h1, h2⟩ := h.st
  have hx : w.cell? ⟨qb, 0, none⟩ = some v := by rw [cell_of_row w qb 0 _ 120 (0, 0) h1]; rfl
  rw [hx] at hc
  simp at hc
  subst hc
  have := (h2.lt k rfl).2
  omega
theorem heap_min {es : List Ent} (h : Pk.Heap es) {x : Ent} (hx : x ∈ es) : wa es 0 ≤ x.wt := by
  obtain ⟨i, hi, rfl⟩ := List.mem_iff_getElem.1 hx
  have := heap_root h i hi
  unfold wa at this ⊢
  rw [List.getD_eq_getElem?_getD (l := es) (i := i), List.getElem?_eq_getElem hi] at this
  exact this
theorem low_keep (w : World) (lb o : Nat) (v : Value) : ∀ k, lb + 1 ≤ k → (w.setCell ⟨lb, o, none⟩ v).heap[k]? = w.heap[k]? := fun k hk => Below.heap_setCell w ⟨lb, o, none⟩ v k (by simp; omega)
theorem mem_take_succ (l : List Nat) (k j : Nat) (hk : k < l.length) : j ∈ l.take (k + 1) ↔ j ∈ l.take k ∨ j = l.getD k 0 := by
  rw [List.take_add_one, List.mem_append, List.getD_eq_getElem?_getD, List.getElem?_eq_getElem hk]
  simp
theorem getD_mem (l : List Nat) (k : Nat) (hk : k < l.length) : l.getD k 0 ∈ l := by
  rw [List.getD_eq_getElem?_getD, List.getElem?_eq_getElem hk]
  exact List.getElem_mem hk
theorem getD_not_take (l : List Nat) (k : Nat) (hn : l.Nodup) (hk : k < l.length) : l.getD k 0 ∉ l.take k := by
  intro h
  have : l = l.take k ++ l.drop k := (List.take_append_drop k l).symm
  rw [this] at hn
  refine (List.nodup_append.1 hn).2.2 _ h (l.getD k 0) ?_ rfl
  have hv : l.getD k 0 = l[k] := by rw [List.getD_eq_getElem?_getD, List.getElem?_eq_getElem hk]; rfl
  rw [hv, List.drop_eq_getElem_cons hk]
  exact List.mem_cons_self

/-- The end: one group is left. -/
theorem JI.last {K : Nat} {e1 : Ent} {G : Nat → List Nat} {D ln : Nat → Nat} {S : List Nat} {W : Nat} (h : JI K [e1] G D ln S W) (wv : Nat → Nat) (hm : ∀ i, i ∈ S ↔ i < 288 ∧ 0 < wv i) (ln' : Nat → Nat) (h1 : ∀ i, i ∈ G e1.b → ln' i = max (ln i) 1) (h2 : ∀ i, i ∉ G e1.b → ln' i = ln i) :
    (∀ i, i < 288 → (0 < ln' i ↔ 0 < wv i)) ∧ (∀ i, 288 ≤ i → ln' i = 0) ∧ (∀ i, ln' i ≤ 1 ∨ (Fb (ln' i) ≤ W ∧ ln' i + 1 ≤ S.length)) ∧ sumL (fun i => 2 ^ (K - ln' i)) S ≤ 2 ^ K := by
  have hp := h.sym
  simp only [List.map_cons, List.map_nil, List.flatten_cons, List.flatten_nil, List.append_nil] at hp
  have m1 : e1 ∈ [e1] := by simp
  have hw : e1.wt = W := by have := h.sum; simpa [sumL] using this
  refine ⟨fun i hi => ?_, fun i hi => ?_, fun i => ?_, ?_⟩
  · by_cases hg : i ∈ G e1.b
    · rw [h1 i hg]
      have := (hm i).1 (hp.mem_iff.1 hg)
      omega
    · rw [h2 i hg]
      have hs : i ∉ S := fun hs => hg (hp.mem_iff.2 hs)
      rw [h.zero i hs]
      have : ¬ 0 < wv i := fun hv => hs ((hm i).2 ⟨hi, hv⟩)
      omega
  · have hs : i ∉ S := fun hs => by have := ((hm i).1 hs).1; omega
    rw [h2 i fun hg => hs (hp.mem_iff.1 hg), h.zero i hs]
  · by_cases hg : i ∈ G e1.b
    · rw [h1 i hg]
      by_cases hl : ln i ≤ 1
      · left; omega
      · right
        rw [Nat.max_eq_left (by omega)]
        have a := h.len e1 m1 i hg
        rw [hp.length_eq] at a
        exact ⟨Nat.le_trans (Fb_mono (h.dep e1 m1 i hg)) (by rw [← hw]; exact h.fib e1 m1), a⟩
    · rw [h2 i hg, h.zero i fun hs => hg (hp.mem_iff.2 hs)]
      left; omega
  · rw [← sumL_perm _ hp, ← h.kr e1 m1]
    refine sumL_le fun i hi => ?_
    rw [h1 i hi]
    exact Nat.pow_le_pow_right (by omega) (by omega)

end Go.Proofs.Ytodmdkhdbfbfgaa
