/- Lists of items that their owner has written into, and behind, read as he left them: what ownItems leaves. -/
import Derived.Test.YtodmdkhdbfbfgaaDoorKeep
import Derived.Laws.OwnMore
namespace Go.Proofs.YtodmdkhdbfbfgaaDoor
open Go.RowKit Go.Nt
set_option linter.unusedVariables false

theorem Tryd.info22 : (Tryd.prog.info? 22).map (fun i => (i.zero, i.size, i.bytes)) = some (some (.slice none 0 0), 1, 24) := by kernel_rfl

/-- A mark. -/
def mkIt (m : Int) : It := ⟨[], false, [], m, 0⟩
def mks (n : Nat) (m : Int) : List It := List.replicate n (mkIt m)
theorem mks_length (n : Nat) (m : Int) : (mks n m).length = n := by simp [mks]
theorem mks_succ (n : Nat) (m : Int) : mks (n + 1) m = mks n m ++ [mkIt m] := by simp [mks, List.replicate_succ']
theorem mks_take {n N : Nat} (h : n ≤ N) (m : Int) : (its (mks N m)).take (n * 5) = its (mks n m) := by
  have e : mks N m = mks n m ++ mks (N - n) m := by
    unfold mks
    rw [List.replicate_append_replicate]
    congr 1
    omega
  rw [e, its_append, List.take_append_of_le_length (by rw [its_length, mks_length]; exact Nat.le_refl _), List.take_of_length_le (by rw [its_length, mks_length]; exact Nat.le_refl _)]

/-- An array of items of which the first n are the mark. -/
def MarkRow (w : World) (B : Nat) (m : Int) (a : Option Addr) (n : Nat) : Prop :=
  0 < n → ∃ g cur, a = some ⟨g, 0, none⟩ ∧ B ≤ g ∧ w.heap[g]? = some (.cells cur 24 (0, 0)) ∧ cur.toList.take (n * 5) = its (mks n m)

theorem MarkRow.below {w w' : World} {B : Nat} {m : Int} {a : Option Addr} {n : Nat} (h : MarkRow w B m a n) (hb : Below w.heap.size w w') : MarkRow w' B m a n := by
  intro hn
  obtain ⟨g, cur, rfl, hg, hh, hc⟩ := h hn
  exact ⟨g, cur, rfl, hg, (hb.block g (lt_of_heap hh)).trans hh, hc⟩

theorem MarkRow.grown {w w' : World} {B : Nat} {m : Int} {a : Option Addr} {n : Nat} {row : Option Nat} (h : MarkRow w B m a n) (hg : w.grownBy w' row) (hne : ∀ g cur, row = some g → w.heap[g]? ≠ some (.cells cur 24 (0, 0))) : MarkRow w' B m a n := by
  intro hn
  obtain ⟨g, cur, rfl, hB, hh, hc⟩ := h hn
  refine ⟨g, cur, rfl, hB, (hg.block g (lt_of_heap hh) (fun e => hne g cur e.symm hh)).trans hh, hc⟩

theorem MarkRow.cell {w : World} {B : Nat} {m : Int} {a : Option Addr} {n : Nat} (h : MarkRow w B m a n) (hn : 0 < n) : ∃ g, a = some ⟨g, 0, none⟩ ∧ ∀ j, j < n → ItAt w g (j * 5) (mkIt m) := by
  obtain ⟨g, cur, rfl, hB, hh, hc⟩ := h hn
  refine ⟨g, rfl, fun j hj => ItAt.of_cells fun q u hu => ?_⟩
  have hq : q < 5 := by have := (List.getElem?_eq_some_iff.1 hu).1; simpa [itl] using this
  have hx : (mks n m)[j]? = some (mkIt m) := by simp [mks, hj]
  have := its_get hx q hq
  rw [hu, ← hc, List.getElem?_take_of_lt (by omega)] at this
  rw [cell_of_row w g _ cur 24 (0, 0) hh]
  simpa using this

theorem own_block {w : World} {base : Nat} {e : TypeId} {size : Nat} {v : Value} {n : Nat} {xs : List Value} {g : Nat} (h : w.ownsRow base e size v n xs) (hg : v.ownBlock = some g) :
    ∃ cur cap, v = .slice (some ⟨g, 0, none⟩) n cap ∧ base ≤ g ∧ w.heap[g]? = some (.cells cur e (0, 0)) ∧ cur.toList.take (n * size) = xs := by
  rcases h.2 with ⟨rfl, _⟩ | ⟨g', cap, cur, rfl, hb, hh, h1, h2, h3, h4⟩
  · simp [Value.ownBlock] at hg
  · simp [Value.ownBlock] at hg
    subst hg
    exact ⟨cur, cap, rfl, hb, hh, h4⟩

/-- A list that owns n marks, as an array of marks. -/
theorem own_marks {w : World} {base : Nat} {v : Value} {n : Nat} {m : Int} (h : w.ownsRow base 24 5 v n (its (mks n m))) : ∃ a c, v = .slice a n c ∧ MarkRow w base m a n := by
  rcases h.2 with ⟨rfl, rfl⟩ | ⟨g, cap, cur, rfl, hb, hh, h1, h2, h3, h4⟩
  · exact ⟨none, 0, rfl, fun h => absurd h (by omega)⟩
  · exact ⟨_, cap, rfl, fun _ => ⟨g, cur, rfl, hb, hh, h4⟩⟩

theorem marks_kept {w w' : World} {B : Nat} {m : Int} {a : Option Addr} {n N : Nat} {v v' : Value} (h : MarkRow w B m a n) (hg : w.grownBy w' v.ownBlock) (hN : n ≤ N)
    (hown : w'.ownsRow B 24 5 v' N (its (mks N m))) (hk : ∀ g, v.ownBlock = some g → w'.heap[g]? = w.heap[g]? ∨ v'.ownBlock = some g) : MarkRow w' B m a n := by
  intro hn
  obtain ⟨g, cur, rfl, hB, hh, hc⟩ := h hn
  by_cases e : v.ownBlock = some g
  · rcases hk g e with h1 | h1
    · exact ⟨g, cur, rfl, hB, h1.trans hh, hc⟩
    · obtain ⟨cur', cap', rfl, _, h2, h3⟩ := own_block hown h1
      refine ⟨g, cur', rfl, hB, h2, ?_⟩
      rw [← mks_take hN, ← h3, List.take_take, Nat.min_eq_left (by omega)]
  · exact ⟨g, cur, rfl, hB, (hg.block g (lt_of_heap hh) (fun e' => e e'.symm)).trans hh, hc⟩

/-- The lists that an owner has left: of n marks, and of one, two, three more. -/
def Marks (w : World) (B : Nat) (v : Value) (n : Nat) (m : Int) : Prop :=
  ∃ (O co : Nat) (A : Nat → Option Addr) (C : Nat → Nat), v = .slice (some ⟨O, 0, none⟩) 4 co ∧ B ≤ O ∧ ∀ p, p < 4 → w.cell? ⟨O, p, none⟩ = some (.slice (A p) (n + p) (C p)) ∧ MarkRow w B m (A p) (n + p)

theorem Marks.below {w w' : World} {B : Nat} {v : Value} {n : Nat} {m : Int} (h : Marks w B v n m) (hb : Below w.heap.size w w') : Marks w' B v n m := by
  obtain ⟨O, co, A, C, rfl, hO, hp⟩ := h
  refine ⟨O, co, A, C, rfl, hO, fun p hlt => ⟨?_, (hp p hlt).2.below hb⟩⟩
  rw [hb.cell (p := ⟨O, p, none⟩) (World.block_lt_of_cell? w _ (hp p hlt).1)]
  exact (hp p hlt).1

theorem kept_list {w w' : World} {base : Nat} {e : TypeId} {size size' : Nat} {v u : Value} {n m : Nat} {xs ys : List Value} {e' : TypeId} (h : w.ownsRow base e size v n xs) (hu : w.ownsRow base e' size' u m ys) (hne : e ≠ e') (hg : w.grownBy w' u.ownBlock) :
    w'.ownsRow base e size v n xs := by
  refine h.kept hg ?_
  cases hv : v.ownBlock with
  | none => exact .inl rfl
  | some g =>
    refine .inr fun he => ?_
    obtain ⟨c1, _, _, _, h1, _⟩ := own_block h hv
    obtain ⟨c2, _, _, _, h2, _⟩ := own_block hu he.symm
    rw [h1] at h2
    simp at h2
    exact hne h2.2

theorem block_type {w : World} {base : Nat} {u : Value} {m : Nat} {ys : List Value} (hu : w.ownsRow base 22 1 u m ys) : ∀ g cur, u.ownBlock = some g → w.heap[g]? ≠ some (.cells cur 24 (0, 0)) := by
  intro g cur hg hh
  obtain ⟨c2, _, _, _, h2, _⟩ := own_block hu hg
  rw [hh] at h2
  simp at h2

/-- Behind out = append(out, g). -/
theorem own_step1 {B N p n : Nat} {w wr w2 : World} {ag : Option Addr} {cg : Nat} {vo : Value} {m : Int} {L : List Value} {A : Nat → Option Addr} {O : Obj}
    (hvg : wr.ownsRow B 24 5 (.slice ag N cg) N (its (mks N m))) (hvo : wr.ownsRow B 22 1 vo p L) (hM : ∀ q, q < p → MarkRow wr B m (A q) (n + q)) (hb : Below B w wr) (hB : B ≤ w.heap.size)
    (hg : (wr.alloc O).grownBy w2 vo.ownBlock) :
    w2.ownsRow B 24 5 (.slice ag N cg) N (its (mks N m)) ∧ (∀ q, q < p → MarkRow w2 B m (A q) (n + q)) ∧ Below B w w2 := by
  have hs := hb.size
  have hbl : Below wr.heap.size wr (wr.alloc O) := (Below.refl _ _).alloc (Nat.le_refl _) _
  refine ⟨kept_list (hvg.alloc O) (hvo.alloc O) (by decide) hg, fun q hq => ((hM q hq).below hbl).grown hg (block_type (hvo.alloc O)), ?_⟩
  exact (hb.alloc (by omega) O).grown hg (by simp; omega) (fun k hk => ((hvo.alloc O).lt k hk).1)

/-- Behind g = append(g, mark). -/
theorem own_step2 {B N p n : Nat} {w w2 w3 : World} {v v' vo : Value} {m : Int} {L : List Value} {A : Nat → Option Addr} {O : Obj}
    (hv : w2.ownsRow B 24 5 v N (its (mks N m))) (hv' : w3.ownsRow B 24 5 v' (N + 1) (its (mks (N + 1) m))) (hvo : w2.ownsRow B 22 1 vo p L) (hM : ∀ q, q < p → MarkRow w2 B m (A q) (n + q)) (hN : n + p ≤ N + 1) (hb : Below B w w2) (hB : B ≤ w.heap.size)
    (hg : (w2.alloc O).grownBy w3 v.ownBlock) (hk : ∀ g, v.ownBlock = some g → w3.heap[g]? = (w2.alloc O).heap[g]? ∨ v'.ownBlock = some g) :
    w3.ownsRow B 22 1 vo p L ∧ (∀ q, q < p → MarkRow w3 B m (A q) (n + q)) ∧ Below B w w3 := by
  have hs := hb.size
  have hbl : Below w2.heap.size w2 (w2.alloc O) := (Below.refl _ _).alloc (Nat.le_refl _) _
  refine ⟨kept_list (hvo.alloc O) (hv.alloc O) (by decide) hg, fun q hq => ?_, ?_⟩
  · exact marks_kept ((hM q hq).below hbl) hg (by omega) hv' hk
  · exact (hb.alloc (by omega) O).grown hg (by simp; omega) (fun k hk => ((hv.alloc O).lt k hk).1)

theorem range_snocV (k : Nat) (f : Nat → Value) (r : Value) : (List.range k).map f ++ [r] = (List.range (k + 1)).map (fun j => if j < k then f j else r) := by
  rw [List.range_succ, List.map_append]
  congr 1
  · apply List.map_congr_left
    intro j hj
    rw [if_pos (by simpa using hj)]
  · simp

theorem lists_snoc (p n : Nat) (A : Nat → Option Addr) (C : Nat → Nat) (ag : Option Addr) (cg : Nat) :
    ((List.range p).map fun q => Value.slice (A q) (n + q) (C q)) ++ [.slice ag (n + p) cg] = (List.range (p + 1)).map fun q => Value.slice (if q < p then A q else ag) (n + q) (if q < p then C q else cg) := by
  rw [range_snocV]
  apply List.map_congr_left
  intro q hq
  have : q < p + 1 := by simpa using hq
  by_cases e : q < p
  · rw [if_pos e, if_pos e, if_pos e]
  · rw [if_neg e, if_neg e, if_neg e, show q = p by omega]

/-- Five cells of a row that are written anew. -/
theorem its_set : ∀ (l : List It) (k : Nat) (x : It), k < l.length → (((((its l).set (k * 5) (.string (txt x.path))).set (k * 5 + 1) (.bool x.dir)).set (k * 5 + 2) (.string (txt x.data))).set (k * 5 + 3) (.int .i64 x.mode)).set (k * 5 + 4) (.int .i64 x.time) = its (l.set k x)
  | [], _, _, h => by simp at h
  | y :: l, 0, x, _ => by simp [its_cons, itl]
  | y :: l, k + 1, x, h => by
    have ih := its_set l k x (by simpa using h)
    have e : (itl y).length = 5 := rfl
    simp only [List.set_cons_succ, its_cons]
    rw [← ih]
    rw [List.set_append_right _ _ (by rw [e]; omega), List.set_append_right _ _ (by rw [e]; omega), List.set_append_right _ _ (by rw [e]; omega), List.set_append_right _ _ (by rw [e]; omega), List.set_append_right _ _ (by rw [e]; omega)]
    rw [e, show (k + 1) * 5 - 5 = k * 5 by omega, show (k + 1) * 5 + 1 - 5 = k * 5 + 1 by omega, show (k + 1) * 5 + 2 - 5 = k * 5 + 2 by omega, show (k + 1) * 5 + 3 - 5 = k * 5 + 3 by omega, show (k + 1) * 5 + 4 - 5 = k * 5 + 4 by omega]

/-- A list into whose front marks were written. -/
theorem mks_set (l : List It) (k : Nat) (m : Int) (h : k < l.length) : (mks k m ++ l.drop k).set k (mkIt m) = mks (k + 1) m ++ l.drop (k + 1) := by
  rw [List.set_append_right _ _ (by rw [mks_length]; exact Nat.le_refl _), mks_length, Nat.sub_self, List.drop_eq_getElem_cons h, List.set_cons_zero, mks_succ, List.append_assoc]
  rfl

end Go.Proofs.YtodmdkhdbfbfgaaDoor
