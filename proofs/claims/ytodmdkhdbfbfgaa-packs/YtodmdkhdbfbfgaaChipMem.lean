/- A chip as plain data, and how the program's chip and the document's own lie in memory; what a store does to them. -/
import Derived.Test.YtodmdkhdbfbfgaaOut
import Derived.Test.YtodmdkhdbfbfgaaRefBits
import Derived.Test.YtodmdkhdbfbfgaaRefSym
namespace Go.Proofs.Ytodmdkhdbfbfgaa
open Go.RowKit Pk
set_option linter.unusedVariables false

/-- A chip. -/
structure M where
  nb : Nat
  np : Nat
  pg : Nat → Nat → List UInt8
  nx : Nat → Nat
  bd : Nat → Bool
  life : Int
  cut : Int
  fail : Int
  part : Int

structure WF (m : M) : Prop where
  nb1 : 4 ≤ m.nb
  nb2 : m.nb ≤ 32
  np1 : 4 ≤ m.np
  np2 : m.np ≤ 16
  nx : ∀ i, i < m.nb → m.nx i ≤ m.np
  pg : ∀ i p, i < m.nb → p < m.np → (m.pg i p).length ≤ 64
  life1 : -1 ≤ m.life
  life2 : m.life ≤ 1073741825
  fail1 : -1 ≤ m.fail
  fail2 : m.fail ≤ 1073741824
  cut1 : 0 ≤ m.cut
  cut2 : m.cut ≤ 63
  part1 : 0 ≤ m.part
  part2 : m.part ≤ 63

/-- A row of at least n cells. -/
def Rw (w : World) (b : Nat) (t : TypeId) (n : Nat) (f : Nat → Value) : Prop := ∃ cur, w.heap[b]? = some (.cells cur t (0, 0)) ∧ ∀ i, i < n → cur[i]? = some (f i)

namespace Rw
variable {w w' : World} {b : Nat} {t : TypeId} {n : Nat} {f g : Nat → Value}
theorem cell (h : Rw w b t n f) {i : Nat} (hi : i < n) : w.cell? ⟨b, i, none⟩ = some (f i) := by
  obtain ⟨c, hb, hc⟩ := h
  rw [cell_of_row w b i c t (0, 0) hb, hc i hi]
theorem frozen (h : Rw w b t n f) (i : Nat) : w.frozen? ⟨b, i, none⟩ = false := by
  obtain ⟨c, hb, _⟩ := h
  exact frozen_of_row w b i c t hb
theorem lt (h : Rw w b t n f) : b < w.heap.size := by obtain ⟨c, hb, _⟩ := h; exact lt_of_heap hb
theorem congr (h : Rw w b t n f) (e : ∀ i, i < n → f i = g i) : Rw w b t n g := by
  obtain ⟨c, hb, hc⟩ := h
  exact ⟨c, hb, fun i hi => by rw [hc i hi, e i hi]⟩
theorem of_block (h : Rw w b t n f) (e : w'.heap[b]? = w.heap[b]?) : Rw w' b t n f := by
  obtain ⟨c, hb, hc⟩ := h
  exact ⟨c, e.trans hb, hc⟩
theorem set (h : Rw w b t n f) (i : Nat) (v : Value) : Rw (w.setCell ⟨b, i, none⟩ v) b t n (fun j => if j = i then v else f j) := by
  obtain ⟨c, hb, hc⟩ := h
  refine ⟨_, heap_setCell_same w b i c t v hb, fun j hj => ?_⟩
  rw [Array.getElem?_setIfInBounds]
  have hl : j < c.size := by
    rcases Nat.lt_or_ge j c.size with h | h
    · exact h
    · have := hc j hj; rw [Array.getElem?_eq_none h] at this; cases this
  by_cases e : i = j
  · subst e; rw [if_pos rfl, if_pos hl]; simp
  · rw [if_neg e, hc j hj]
    show some (f j) = some (if j = i then v else f j)
    rw [if_neg (fun h => e h.symm)]
end Rw

theorem rowIs_rw {w : World} {b : Nat} {t : TypeId} {n : Nat} {f : Nat → Value} (h : w.rowIs b t n f) : Rw w b t n f := by
  obtain ⟨c, h1, _, h3⟩ := h; exact ⟨c, h1, h3⟩

/-- A list that the call has built, as a row. -/
theorem own_rw {w : World} {base : Nat} {e : TypeId} {v : Value} {n : Nat} {f : Nat → Value} (h : w.ownsRow base e 1 v n ((List.range n).map f)) (hn : 0 < n) : ∃ g c, v = .slice (some ⟨g, 0, none⟩) n c ∧ base ≤ g ∧ Rw w g e n f := by
  rcases h.2 with ⟨_, h0⟩ | ⟨g, cap, cur, rfl, hb, hh, h1, h2, h3, h4⟩
  · omega
  · refine ⟨g, cap, rfl, hb, cur, hh, fun i hi => ?_⟩
    have := congrArg (fun l : List Value => l[i]?) h4
    simpa [hi] using this

/-- Only the blocks from lo to hi, and new ones, have turned. -/
structure Only (lo hi : Nat) (w w' : World) : Prop where
  os : w'.os = w.os
  tape : w'.tape = w.tape
  output : w'.output = w.output
  size : w.heap.size ≤ w'.heap.size
  block : ∀ k, k < w.heap.size → ¬ (lo ≤ k ∧ k < hi) → w'.heap[k]? = w.heap[k]?

namespace Only
variable {lo hi : Nat} {a b c : World}
theorem refl (lo hi : Nat) (w : World) : Only lo hi w w := ⟨rfl, rfl, rfl, Nat.le_refl _, fun _ _ _ => rfl⟩
theorem trans (h : Only lo hi a b) (k : Only lo hi b c) : Only lo hi a c :=
  ⟨k.os.trans h.os, k.tape.trans h.tape, k.output.trans h.output, Nat.le_trans h.size k.size, fun i hi' hn => (k.block i (Nat.lt_of_lt_of_le hi' h.size) hn).trans (h.block i hi' hn)⟩
theorem of_below (h : Below a.heap.size a b) : Only lo hi a b := ⟨h.os, h.tape, h.output, h.size, fun k hk _ => h.block k hk⟩
theorem drewN (h : Only lo hi a b) (q : Nat) : Only lo hi a (b.drewN q) := h.trans ⟨rfl, rfl, rfl, Nat.le_refl _, fun _ _ _ => rfl⟩
theorem drew (h : Only lo hi a b) : Only lo hi a b.drew := h.trans ⟨rfl, rfl, rfl, Nat.le_refl _, fun _ _ _ => rfl⟩
theorem set (h : Only lo hi a b) {g : Nat} (hg : lo ≤ g ∧ g < hi) (o : Nat) (v : Value) : Only lo hi a (b.setCell ⟨g, o, none⟩ v) :=
  h.trans ⟨rfl, rfl, rfl, by simp, fun k _ hn => Below.heap_setCell b ⟨g, o, none⟩ v k (fun e => hn (by rw [e]; exact hg))⟩
theorem alloc (h : Only lo hi a b) (o : Obj) : Only lo hi a (b.alloc o) :=
  h.trans ⟨rfl, rfl, rfl, by simp, fun k hk _ => Below.heap_alloc b o k hk⟩
theorem below (h : Only lo hi a b) {B : Nat} (hB : B ≤ lo) (hs : B ≤ a.heap.size) : Below B a b :=
  ⟨h.os, h.tape, h.output, h.size, fun k hk => h.block k (by omega) (by omega)⟩
theorem mono (h : Only lo hi a b) {lo' hi' : Nat} (h1 : lo' ≤ lo) (h2 : hi ≤ hi') : Only lo' hi' a b := ⟨h.os, h.tape, h.output, h.size, fun k hk hn => h.block k hk (by omega)⟩
end Only

/-- Where a chip's lists lie. -/
structure Loc where
  db : Nat
  nk : Nat
  bk : Nat
  rw : Nat → Nat
  cd : Nat
  cn : Nat
  ck : Nat
  cr : Nat → Nat

/-- A chip in memory: its struct, whose last four fields are g4 to g7, and its lists; all of its blocks are from lo to hi. -/
structure MemX (w : World) (lo hi cb : Nat) (T : TypeId) (L : Loc) (m : M) (enc : List UInt8 → List UInt8) (g4 g5 g6 g7 : Int) : Prop where
  hcb : lo ≤ cb ∧ cb < hi
  hdb : lo ≤ L.db ∧ L.db < hi
  hnk : lo ≤ L.nk ∧ L.nk < hi
  hbk : lo ≤ L.bk ∧ L.bk < hi
  hrw : ∀ i, i < m.nb → lo ≤ L.rw i ∧ L.rw i < hi
  inj : ∀ i j, i < m.nb → j < m.nb → L.rw i = L.rw j → i = j
  hT : T ≠ 23 ∧ T ≠ 3 ∧ T ≠ 4 ∧ T ≠ 9
  st : w.heap[cb]? = some (.cells #[.int .i64 (m.np : Nat), .slice (some ⟨L.db, 0, none⟩) m.nb L.cd, .slice (some ⟨L.nk, 0, none⟩) m.nb L.cn, .slice (some ⟨L.bk, 0, none⟩) m.nb L.ck, .int .i64 g4, .int .i64 g5, .int .i64 g6, .int .i64 g7] T (0, 0))
  data : Rw w L.db 23 m.nb (fun i => .slice (some ⟨L.rw i, 0, none⟩) m.np (L.cr i))
  next : Rw w L.nk 3 m.nb (fun i => .int .i64 (m.nx i : Nat))
  bad : Rw w L.bk 4 m.nb (fun i => .bool (m.bd i))
  page : ∀ i, i < m.nb → Rw w (L.rw i) 9 m.np (fun p => .string (txt (enc (m.pg i p))))

theorem ne_of_types {w : World} {i j : Nat} {c c' : Array Value} {t t' : TypeId} {f f' : Nat × Nat} (h : w.heap[i]? = some (.cells c t f)) (h' : w.heap[j]? = some (.cells c' t' f')) (hne : t ≠ t') : i ≠ j := by
  intro e; subst e; rw [h] at h'; simp at h'; exact hne h'.2.1

theorem Rw.other {w : World} {b : Nat} {t : TypeId} {n : Nat} {f : Nat → Value} (h : Rw w b t n f) {g o : Nat} (hne : b ≠ g) (v : Value) : Rw (w.setCell ⟨g, o, none⟩ v) b t n f :=
  h.of_block (Below.heap_setCell w ⟨g, o, none⟩ v b hne)

namespace MemX
variable {w w' : World} {lo hi cb : Nat} {T : TypeId} {L : Loc} {m : M} {enc : List UInt8 → List UInt8} {g4 g5 g6 g7 : Int}

theorem of_blocks (h : MemX w lo hi cb T L m enc g4 g5 g6 g7) (e : ∀ k, lo ≤ k → k < hi → w'.heap[k]? = w.heap[k]?) : MemX w' lo hi cb T L m enc g4 g5 g6 g7 :=
  ⟨h.hcb, h.hdb, h.hnk, h.hbk, h.hrw, h.inj, h.hT, (e cb h.hcb.1 h.hcb.2).trans h.st, h.data.of_block (e _ h.hdb.1 h.hdb.2), h.next.of_block (e _ h.hnk.1 h.hnk.2), h.bad.of_block (e _ h.hbk.1 h.hbk.2),
    fun i hi' => (h.page i hi').of_block (e _ (h.hrw i hi').1 (h.hrw i hi').2)⟩

theorem only (h : MemX w lo hi cb T L m enc g4 g5 g6 g7) {lo' hi' : Nat} (hs : hi ≤ w.heap.size) (hd : hi ≤ lo' ∨ hi' ≤ lo) (ho : Only lo' hi' w w') : MemX w' lo hi cb T L m enc g4 g5 g6 g7 :=
  h.of_blocks fun k h1 h2 => ho.block k (by omega) (by omega)

theorem below (h : MemX w lo hi cb T L m enc g4 g5 g6 g7) {B : Nat} (hB : hi ≤ B) (hb : Below B w w') : MemX w' lo hi cb T L m enc g4 g5 g6 g7 :=
  h.of_blocks fun k h1 h2 => hb.block k (by omega)

theorem drewN (h : MemX w lo hi cb T L m enc g4 g5 g6 g7) (q : Nat) : MemX (w.drewN q) lo hi cb T L m enc g4 g5 g6 g7 := h.of_blocks fun k _ _ => rfl
theorem drew (h : MemX w lo hi cb T L m enc g4 g5 g6 g7) : MemX w.drew lo hi cb T L m enc g4 g5 g6 g7 := h.of_blocks fun k _ _ => rfl

theorem c0 (h : MemX w lo hi cb T L m enc g4 g5 g6 g7) : w.cell? ⟨cb, 0, none⟩ = some (.int .i64 (m.np : Nat)) := by rw [cell_of_row w cb 0 _ T (0, 0) h.st]; rfl
theorem c1 (h : MemX w lo hi cb T L m enc g4 g5 g6 g7) : w.cell? ⟨cb, 1, none⟩ = some (.slice (some ⟨L.db, 0, none⟩) m.nb L.cd) := by rw [cell_of_row w cb 1 _ T (0, 0) h.st]; rfl
theorem c2 (h : MemX w lo hi cb T L m enc g4 g5 g6 g7) : w.cell? ⟨cb, 2, none⟩ = some (.slice (some ⟨L.nk, 0, none⟩) m.nb L.cn) := by rw [cell_of_row w cb 2 _ T (0, 0) h.st]; rfl
theorem c3 (h : MemX w lo hi cb T L m enc g4 g5 g6 g7) : w.cell? ⟨cb, 3, none⟩ = some (.slice (some ⟨L.bk, 0, none⟩) m.nb L.ck) := by rw [cell_of_row w cb 3 _ T (0, 0) h.st]; rfl
theorem c4 (h : MemX w lo hi cb T L m enc g4 g5 g6 g7) : w.cell? ⟨cb, 4, none⟩ = some (.int .i64 g4) := by rw [cell_of_row w cb 4 _ T (0, 0) h.st]; rfl
theorem c5 (h : MemX w lo hi cb T L m enc g4 g5 g6 g7) : w.cell? ⟨cb, 5, none⟩ = some (.int .i64 g5) := by rw [cell_of_row w cb 5 _ T (0, 0) h.st]; rfl
theorem c6 (h : MemX w lo hi cb T L m enc g4 g5 g6 g7) : w.cell? ⟨cb, 6, none⟩ = some (.int .i64 g6) := by rw [cell_of_row w cb 6 _ T (0, 0) h.st]; rfl
theorem c7 (h : MemX w lo hi cb T L m enc g4 g5 g6 g7) : w.cell? ⟨cb, 7, none⟩ = some (.int .i64 g7) := by rw [cell_of_row w cb 7 _ T (0, 0) h.st]; rfl
theorem fz (h : MemX w lo hi cb T L m enc g4 g5 g6 g7) (k : Nat) : w.frozen? ⟨cb, k, none⟩ = false := frozen_of_row w cb k _ T h.st

/-- A store into the struct, at one of the last four fields. -/
theorem field (h : MemX w lo hi cb T L m enc g4 g5 g6 g7) (k : Nat) (v : Int) (h4 g5' g6' g7' : Int)
    (he : (#[.int .i64 (m.np : Nat), .slice (some ⟨L.db, 0, none⟩) m.nb L.cd, .slice (some ⟨L.nk, 0, none⟩) m.nb L.cn, .slice (some ⟨L.bk, 0, none⟩) m.nb L.ck, .int .i64 g4, .int .i64 g5, .int .i64 g6, .int .i64 g7] : Array Value).setIfInBounds k (.int .i64 v) = #[.int .i64 (m.np : Nat), .slice (some ⟨L.db, 0, none⟩) m.nb L.cd, .slice (some ⟨L.nk, 0, none⟩) m.nb L.cn, .slice (some ⟨L.bk, 0, none⟩) m.nb L.ck, .int .i64 h4, .int .i64 g5', .int .i64 g6', .int .i64 g7']) :
    MemX (w.setCell ⟨cb, k, none⟩ (.int .i64 v)) lo hi cb T L m enc h4 g5' g6' g7' := by
  have hst := heap_setCell_same w cb k _ T (.int .i64 v) h.st
  rw [he] at hst
  obtain ⟨cd, hcd, _⟩ := h.data
  obtain ⟨cn, hcn, _⟩ := h.next
  obtain ⟨ck, hck, _⟩ := h.bad
  refine ⟨h.hcb, h.hdb, h.hnk, h.hbk, h.hrw, h.inj, h.hT, hst, h.data.other (ne_of_types hcd h.st (fun e => h.hT.1 e.symm)) _, h.next.other (ne_of_types hcn h.st (fun e => h.hT.2.1 e.symm)) _, h.bad.other (ne_of_types hck h.st (fun e => h.hT.2.2.1 e.symm)) _, fun i hi' => ?_⟩
  obtain ⟨cp, hcp, _⟩ := h.page i hi'
  exact (h.page i hi').other (ne_of_types hcp h.st (fun e => h.hT.2.2.2 e.symm)) _

/-- Of m only the pages, the next ones and the bad blocks lie in the lists. -/
theorem re (h : MemX w lo hi cb T L m enc g4 g5 g6 g7) (m' : M) (e1 : m'.nb = m.nb) (e2 : m'.np = m.np) (e3 : m'.pg = m.pg) (e4 : m'.nx = m.nx) (e5 : m'.bd = m.bd) : MemX w lo hi cb T L m' enc g4 g5 g6 g7 := by
  obtain ⟨nb, np, pg, nx, bd, _, _, _, _⟩ := m
  obtain ⟨nb', np', pg', nx', bd', _, _, _, _⟩ := m'
  simp only at e1 e2 e3 e4 e5
  subst e1 e2 e3 e4 e5
  exact ⟨h.hcb, h.hdb, h.hnk, h.hbk, h.hrw, h.inj, h.hT, h.st, h.data, h.next, h.bad, h.page⟩

/-- A store into a page. -/
theorem setPage (h : MemX w lo hi cb T L m enc g4 g5 g6 g7) (i p : Nat) (hi' : i < m.nb) (hp : p < m.np) (s : List UInt8) :
    MemX (w.setCell ⟨L.rw i, p, none⟩ (.string (txt (enc s)))) lo hi cb T L { m with pg := fun a b => if a = i ∧ b = p then s else m.pg a b } enc g4 g5 g6 g7 := by
  obtain ⟨cp, hcp, _⟩ := h.page i hi'
  obtain ⟨cd, hcd, _⟩ := h.data
  obtain ⟨cn, hcn, _⟩ := h.next
  obtain ⟨ck, hck, _⟩ := h.bad
  refine ⟨h.hcb, h.hdb, h.hnk, h.hbk, h.hrw, h.inj, h.hT, (Below.heap_setCell w _ _ cb (ne_of_types h.st hcp h.hT.2.2.2)).trans h.st, h.data.other (ne_of_types hcd hcp (by decide)) _, h.next.other (ne_of_types hcn hcp (by decide)) _, h.bad.other (ne_of_types hck hcp (by decide)) _, fun j hj => ?_⟩
  by_cases e : j = i
  · subst e
    refine ((h.page j hi').set p _).congr fun q hq => ?_
    show _ = Value.string (txt (enc (if j = j ∧ q = p then s else m.pg j q)))
    by_cases e2 : q = p
    · rw [if_pos e2, if_pos ⟨rfl, e2⟩]
    · rw [if_neg e2, if_neg (fun h => e2 h.2)]
  · refine ((h.page j hj).other (fun he => e (h.inj j i hj hi' he)) _).congr fun q hq => ?_
    show _ = Value.string (txt (enc (if j = i ∧ q = p then s else m.pg j q)))
    rw [if_neg (fun h => e h.1)]

/-- A store into the pages that come next. -/
theorem setNx (h : MemX w lo hi cb T L m enc g4 g5 g6 g7) (i v : Nat) :
    MemX (w.setCell ⟨L.nk, i, none⟩ (.int .i64 (v : Nat))) lo hi cb T L { m with nx := fun a => if a = i then v else m.nx a } enc g4 g5 g6 g7 := by
  obtain ⟨cd, hcd, _⟩ := h.data
  obtain ⟨cn, hcn, _⟩ := h.next
  obtain ⟨ck, hck, _⟩ := h.bad
  refine ⟨h.hcb, h.hdb, h.hnk, h.hbk, h.hrw, h.inj, h.hT, (Below.heap_setCell w _ _ cb (ne_of_types h.st hcn h.hT.2.1)).trans h.st, h.data.other (ne_of_types hcd hcn (by decide)) _, (h.next.set i _).congr fun j _ => ?_, h.bad.other (ne_of_types hck hcn (by decide)) _, fun j hj => ?_⟩
  · show _ = Value.int .i64 ((if j = i then v else m.nx j : Nat) : Int)
    by_cases e : j = i
    · rw [if_pos e, if_pos e]
    · rw [if_neg e, if_neg e]
  · obtain ⟨cp, hcp, _⟩ := h.page j hj
    exact (h.page j hj).other (ne_of_types hcp hcn (by decide)) _

/-- A store into the bad blocks. -/
theorem setBd (h : MemX w lo hi cb T L m enc g4 g5 g6 g7) (i : Nat) (v : Bool) :
    MemX (w.setCell ⟨L.bk, i, none⟩ (.bool v)) lo hi cb T L { m with bd := fun a => if a = i then v else m.bd a } enc g4 g5 g6 g7 := by
  obtain ⟨cd, hcd, _⟩ := h.data
  obtain ⟨cn, hcn, _⟩ := h.next
  obtain ⟨ck, hck, _⟩ := h.bad
  refine ⟨h.hcb, h.hdb, h.hnk, h.hbk, h.hrw, h.inj, h.hT, (Below.heap_setCell w _ _ cb (ne_of_types h.st hck h.hT.2.2.1)).trans h.st, h.data.other (ne_of_types hcd hck (by decide)) _, h.next.other (ne_of_types hcn hck (by decide)) _, (h.bad.set i _).congr fun j _ => ?_, fun j hj => ?_⟩
  · show _ = Value.bool (if j = i then v else m.bd j)
    by_cases e : j = i
    · rw [if_pos e, if_pos e]
    · rw [if_neg e, if_neg e]
  · obtain ⟨cp, hcp, _⟩ := h.page j hj
    exact (h.page j hj).other (ne_of_types hcp hck (by decide)) _
end MemX

/-- Bytes, and 0xff behind them, 64 in all. -/
def pad (l : List UInt8) : List UInt8 := l ++ List.replicate (64 - l.length) 255

/-- The program's chip; the document's own. -/
def CP (w : World) (lo hi cb : Nat) (L : Loc) (m : M) : Prop := MemX w lo hi cb 76 L m id m.life m.cut m.fail m.part
def CR (w : World) (lo hi cb : Nat) (L : Loc) (m : M) : Prop := MemX w lo hi cb 78 L m pad m.life m.fail m.cut m.part

end Go.Proofs.Ytodmdkhdbfbfgaa
