/- A chip that is being built: its lists grow, each in a block of its own; what is written elsewhere keeps them. -/
import Derived.Test.YtodmdkhdbfbfgaaChipSmall
import Derived.Deep.AppendLies
namespace Go.Proofs.Ytodmdkhdbfbfgaa
open Go.RowKit Pk
set_option linter.unusedVariables false
set_option linter.unusedSimpArgs false

/-- A function, turned at one place. -/
def put {α : Type} (f : Nat → α) (p : Nat) (x : α) : Nat → α := fun j => if j = p then x else f j

/-- Blocks of the type t are as they were. -/
def Keeps (t : TypeId) (w w' : World) : Prop := ∀ (k : Nat) (c : Array Value) (fz : Nat × Nat), w.heap[k]? = some (.cells c t fz) → w'.heap[k]? = w.heap[k]?

namespace Keeps
variable {t : TypeId} {a b c w w' : World}
theorem refl (t : TypeId) (w : World) : Keeps t w w := fun _ _ _ _ => rfl
theorem trans (h : Keeps t a b) (k : Keeps t b c) : Keeps t a c := fun i x f e => (k i x f ((h i x f e).trans e)).trans (h i x f e)
theorem drew (h : Keeps t a b) : Keeps t a b.drew := h
theorem drewN (h : Keeps t a b) (q : Nat) : Keeps t a (b.drewN q) := h
theorem alloc (h : Keeps t a b) (o : Obj) : Keeps t a (b.alloc o) := h.trans fun k _ _ e => Below.heap_alloc b o k (lt_of_heap e)
theorem below (h : Keeps t a b) (hb : Below b.heap.size b c) : Keeps t a c := h.trans fun k _ _ e => hb.block k (lt_of_heap e)
theorem set (h : Keeps t a b) {g o : Nat} {v : Value} {x : Array Value} {T : TypeId} {f : Nat × Nat} (hg : b.heap[g]? = some (.cells x T f)) (hT : T ≠ t) : Keeps t a (b.setCell ⟨g, o, none⟩ v) :=
  h.trans fun k _ _ e => Below.heap_setCell b ⟨g, o, none⟩ v k (ne_of_types e hg (fun h => hT h.symm))
theorem grown (h : Keeps t a b) {base n : Nat} {e : TypeId} {v : Value} {xs : List Value} (hown : b.ownsRow base e 1 v n xs) (he : e ≠ t) (hg : b.grownBy c v.ownBlock) : Keeps t a c := by
  refine h.trans fun k x f hk => hg.block k (lt_of_heap hk) ?_
  rcases hown.2 with ⟨rfl, _⟩ | ⟨g, cap, cur, rfl, _, hh, _⟩
  · simp [Value.ownBlock]
  · intro e2
    simp [Value.ownBlock] at e2
    subst e2
    rw [hk] at hh
    simp at hh
    exact he hh.2.1.symm
theorem block (h : Keeps t w w') {k : Nat} {x : Array Value} {f : Nat × Nat} (e : w.heap[k]? = some (.cells x t f)) : w'.heap[k]? = some (.cells x t f) := (h k x f e).trans e
theorem rw (h : Keeps t w w') {g n : Nat} {f : Nat → Value} (r : Rw w g t n f) : Rw w' g t n f := by
  obtain ⟨c, hb, hc⟩ := r
  exact ⟨c, h.block hb, hc⟩
theorem own (h : Keeps t w w') {base n : Nat} {v : Value} {xs : List Value} (o : w.ownsRow base t 1 v n xs) : w'.ownsRow base t 1 v n xs := by
  refine ⟨o.1, ?_⟩
  rcases o.2 with h1 | ⟨g, cap, cur, h1, h2, h3, h4⟩
  · exact .inl h1
  · exact .inr ⟨g, cap, cur, h1, h2, h.block h3, h4⟩
end Keeps

theorem own_slice {w : World} {base n : Nat} {e : TypeId} {v : Value} {xs : List Value} (h : w.ownsRow base e 1 v n xs) : ∃ a c, v = .slice a n c := by
  rcases h.2 with ⟨rfl, rfl⟩ | ⟨g, cap, cur, rfl, _⟩
  · exact ⟨_, _, rfl⟩
  · exact ⟨_, _, rfl⟩

theorem Rw.news {w : World} {b n : Nat} {t : TypeId} {f : Nat → Value} (h : Rw w b t n f) : ∀ j u, ((List.range n).map f)[j]? = some u → w.cell? ((⟨b, 0, none⟩ : Addr).add j) = some u := by
  intro j u hu
  have hj : j < n := by
    rcases Nat.lt_or_ge j n with h | h
    · exact h
    · rw [List.getElem?_eq_none (by simpa using h)] at hu; cases hu
  have hadd : (⟨b, 0, none⟩ : Addr).add j = ⟨b, j, none⟩ := by unfold Addr.add; split <;> simp_all
  rw [hadd, h.cell hj, ← hu]
  simp [hj]

theorem grow_snoc (n : Nat) (f : Nat → Value) (x : Value) : (List.range n).map f ++ [x] = (List.range (n + 1)).map (put f n x) := by
  rw [List.range_succ, List.map_append]
  congr 1
  · apply List.map_congr_left
    intro i hi
    have : i < n := by simpa using hi
    show f i = put f n x i
    unfold put
    rw [if_neg (by omega)]
  · simp [put]

/-- The pages of k blocks: the list of them, and each of them. -/
structure Data (w : World) (base : Nat) (v : Value) (k np : Nat) (rw cr : Nat → Nat) (pg : Nat → Nat → List UInt8) : Prop where
  own : w.ownsRow base 23 1 v k ((List.range k).map fun i => .slice (some ⟨rw i, 0, none⟩) np (cr i))
  row : ∀ i, i < k → base ≤ rw i ∧ Rw w (rw i) 9 np (fun p => .string (txt (pg i p)))
  inj : ∀ i j, i < k → j < k → rw i = rw j → i = j

namespace Data
variable {w w' : World} {base : Nat} {v v' : Value} {k np : Nat} {rw cr : Nat → Nat} {pg : Nat → Nat → List UInt8}
theorem nil (w : World) (base np : Nat) (rw cr : Nat → Nat) (pg : Nat → Nat → List UInt8) : Data w base (.slice none 0 0) 0 np rw cr pg :=
  ⟨World.ownsRow_nil _ _ _ _, fun i h => by omega, fun i j h => by omega⟩
theorem keep (h : Data w base v k np rw cr pg) (k9 : Keeps 9 w w') (k23 : Keeps 23 w w') : Data w' base v k np rw cr pg :=
  ⟨k23.own h.own, fun i hi => ⟨(h.row i hi).1, k9.rw (h.row i hi).2⟩, h.inj⟩
theorem push (h : Data w base v k np rw cr pg) (k9 : Keeps 9 w w') {r c : Nat} {f : Nat → List UInt8} (hr : base ≤ r) (hnew : w.heap.size ≤ r) (hrw : Rw w' r 9 np (fun p => .string (txt (f p))))
    (ho : w'.ownsRow base 23 1 v' (k + 1) ((List.range k).map (fun i => .slice (some ⟨rw i, 0, none⟩) np (cr i)) ++ [.slice (some ⟨r, 0, none⟩) np c])) : Data w' base v' (k + 1) np (put rw k r) (put cr k c) (put pg k f) := by
  have hlt : ∀ i, i < k → rw i < w.heap.size := fun i hi => (h.row i hi).2.lt
  refine ⟨?_, fun i hi => ?_, fun i j hi hj e => ?_⟩
  · rw [grow_snoc] at ho
    have : (List.range (k + 1)).map (put (fun i => Value.slice (some ⟨rw i, 0, none⟩) np (cr i)) k (.slice (some ⟨r, 0, none⟩) np c)) = (List.range (k + 1)).map (fun i => Value.slice (some ⟨put rw k r i, 0, none⟩) np (put cr k c i)) := by
      apply List.map_congr_left
      intro i _
      unfold put
      by_cases e : i = k
      · rw [if_pos e, if_pos e, if_pos e]
      · rw [if_neg e, if_neg e, if_neg e]
    rw [this] at ho
    exact ho
  · by_cases e : i = k
    · unfold put
      rw [if_pos e, if_pos e]
      exact ⟨hr, hrw⟩
    · unfold put
      rw [if_neg e, if_neg e]
      have := h.row i (by omega)
      exact ⟨this.1, k9.rw this.2⟩
  · unfold put at e
    by_cases e1 : i = k
    · by_cases e2 : j = k
      · omega
      · rw [if_pos e1, if_neg e2] at e
        have := hlt j (by omega)
        omega
    · by_cases e2 : j = k
      · rw [if_neg e1, if_pos e2] at e
        have := hlt i (by omega)
        omega
      · rw [if_neg e1, if_neg e2] at e
        exact h.inj i j (by omega) (by omega) e
end Data

/-- Built: a chip. -/
theorem MemX.built {w : World} {base g : Nat} {T : TypeId} {m : M} {enc : List UInt8 → List UInt8} {dv nv bv : Value} {rw cr : Nat → Nat} {pg : Nat → Nat → List UInt8} {g4 g5 g6 g7 : Int} (hn : 0 < m.nb)
    (hT : T ≠ 23 ∧ T ≠ 3 ∧ T ≠ 4 ∧ T ≠ 9) (hg : base ≤ g)
    (hst : w.heap[g]? = some (.cells #[.int .i64 (m.np : Nat), dv, nv, bv, .int .i64 g4, .int .i64 g5, .int .i64 g6, .int .i64 g7] T (0, 0)))
    (hd : Data w base dv m.nb m.np rw cr pg) (hp : ∀ i p, i < m.nb → p < m.np → pg i p = enc (m.pg i p))
    (hnx : w.ownsRow base 3 1 nv m.nb ((List.range m.nb).map fun i => .int .i64 (m.nx i : Nat)))
    (hbd : w.ownsRow base 4 1 bv m.nb ((List.range m.nb).map fun i => .bool (m.bd i))) :
    ∃ L, MemX w base w.heap.size g T L m enc g4 g5 g6 g7 := by
  obtain ⟨db, cd, rfl, hdb, hdr⟩ := own_rw hd.own hn
  obtain ⟨nk, cn, rfl, hnk, hnr⟩ := own_rw hnx hn
  obtain ⟨bk, ck, rfl, hbk, hbr⟩ := own_rw hbd hn
  refine ⟨⟨db, nk, bk, rw, cd, cn, ck, cr⟩, ⟨hg, lt_of_heap hst⟩, ⟨hdb, hdr.lt⟩, ⟨hnk, hnr.lt⟩, ⟨hbk, hbr.lt⟩, fun i hi => ⟨(hd.row i hi).1, (hd.row i hi).2.lt⟩, hd.inj, hT, hst, hdr, hnr, hbr, fun i hi => ?_⟩
  exact (hd.row i hi).2.congr fun p hpp => by rw [hp i p hi hpp]
end Go.Proofs.Ytodmdkhdbfbfgaa
