/- Where the law on chips stands: the chip and its twin, and the older ones behind them. -/
import Derived.Test.YtodmdkhdbfbfgaaChipOps
import Derived.Test.YtodmdkhdbfbfgaaChipAlike
import Derived.Test.YtodmdkhdbfbfgaaChipNewR
namespace Go.Proofs.Ytodmdkhdbfbfgaa
open Go.RowKit Pk
set_option linter.unusedVariables false
set_option linter.unusedSimpArgs false

theorem MemX.keeps {w w' : World} {lo hi cb : Nat} {T : TypeId} {L : Loc} {m : M} {enc : List UInt8 → List UInt8} {g4 g5 g6 g7 : Int} (h : MemX w lo hi cb T L m enc g4 g5 g6 g7) (kT : Keeps T w w') (k23 : Keeps 23 w w') (k3 : Keeps 3 w w') (k4 : Keeps 4 w w') (k9 : Keeps 9 w w') : MemX w' lo hi cb T L m enc g4 g5 g6 g7 :=
  ⟨h.hcb, h.hdb, h.hnk, h.hbk, h.hrw, h.inj, h.hT, kT.block h.st, k23.rw h.data, k3.rw h.next, k4.rw h.bad, fun i hi => k9.rw (h.page i hi)⟩

/-- A chip and its twin, each from its own lo to its own hi. -/
structure Pair (w : World) (B cb xb lo hi lo' hi' : Nat) (m : M) : Prop where
  wf : WF m
  b1 : B ≤ lo
  b2 : B ≤ lo'
  s1 : hi ≤ w.heap.size
  s2 : hi' ≤ w.heap.size
  dis : hi ≤ lo' ∨ hi' ≤ lo
  cp : ∃ L, CP w lo hi cb L m
  cr : ∃ L, CR w lo' hi' xb L m

namespace Pair
variable {w w' : World} {B cb xb lo hi lo' hi' : Nat} {m : M}
theorem keep (h : Pair w B cb xb lo hi lo' hi' m) (hs : w.heap.size ≤ w'.heap.size) (k : ∀ t, t ≠ 36 → t ≠ 38 → Keeps t w w') : Pair w' B cb xb lo hi lo' hi' m := by
  obtain ⟨L, hc⟩ := h.cp
  obtain ⟨L', hx⟩ := h.cr
  exact ⟨h.wf, h.b1, h.b2, Nat.le_trans h.s1 hs, Nat.le_trans h.s2 hs, h.dis, ⟨L, MemX.keeps hc (k 76 (by decide) (by decide)) (k 23 (by decide) (by decide)) (k 3 (by decide) (by decide)) (k 4 (by decide) (by decide)) (k 9 (by decide) (by decide))⟩,
    ⟨L', MemX.keeps hx (k 78 (by decide) (by decide)) (k 23 (by decide) (by decide)) (k 3 (by decide) (by decide)) (k 4 (by decide) (by decide)) (k 9 (by decide) (by decide))⟩⟩
theorem below (h : Pair w B cb xb lo hi lo' hi' m) (hb : Below w.heap.size w w') : Pair w' B cb xb lo hi lo' hi' m :=
  h.keep hb.size fun t _ _ => (Keeps.refl t w).below hb
theorem only (h : Pair w B cb xb lo hi lo' hi' m) {a b : Nat} (ho : Only a b w w') (d1 : hi ≤ a ∨ b ≤ lo) (d2 : hi' ≤ a ∨ b ≤ lo') : Pair w' B cb xb lo hi lo' hi' m := by
  obtain ⟨L, hc⟩ := h.cp
  obtain ⟨L', hx⟩ := h.cr
  exact ⟨h.wf, h.b1, h.b2, Nat.le_trans h.s1 ho.size, Nat.le_trans h.s2 ho.size, h.dis, ⟨L, MemX.only hc h.s1 d1 ho⟩, ⟨L', MemX.only hx h.s2 d2 ho⟩⟩
end Pair

/-- The state: the chip and its twin, two lists of j older ones. -/
structure St (w0 w : World) (B cb xb : Nat) (ov wv : Value) (j lo hi lo' hi' : Nat) (m : M) (pc px : Nat → Nat) : Prop where
  bel : Below B w0 w
  pair : Pair w B cb xb lo hi lo' hi' m
  old : w.ownsRow B 36 1 ov j ((List.range j).map fun q => .pointer (some ⟨pc q, 0, none⟩))
  was : w.ownsRow B 38 1 wv j ((List.range j).map fun q => .pointer (some ⟨px q, 0, none⟩))
  oap : ∀ g, ov.ownBlock = some g → (g < lo ∨ hi ≤ g) ∧ (g < lo' ∨ hi' ≤ g)
  wap : ∀ g, wv.ownBlock = some g → (g < lo ∨ hi ≤ g) ∧ (g < lo' ∨ hi' ≤ g)
  olds : ∀ q, q < j → ∃ l h l' h' n, Pair w B (pc q) (px q) l h l' h' n ∧ (h ≤ lo ∨ hi ≤ l) ∧ (h ≤ lo' ∨ hi' ≤ l) ∧ (h' ≤ lo ∨ hi ≤ l') ∧ (h' ≤ lo' ∨ hi' ≤ l')

theorem own_only {w w' : World} {B n : Nat} {e : TypeId} {v : Value} {xs : List Value} {lo hi : Nat} (h : w.ownsRow B e 1 v n xs) (ho : Only lo hi w w') (hap : ∀ g, v.ownBlock = some g → g < lo ∨ hi ≤ g) : w'.ownsRow B e 1 v n xs := by
  refine ⟨h.1, ?_⟩
  rcases h.2 with h1 | ⟨g, cap, cur, rfl, h2, h3, h4⟩
  · exact .inl h1
  · refine .inr ⟨g, cap, cur, rfl, h2, ?_, h4⟩
    rw [ho.block g (lt_of_heap h3) (by have := hap g rfl; omega)]
    exact h3

namespace St
variable {w0 w w1 w2 : World} {B cb xb : Nat} {ov wv : Value} {j lo hi lo' hi' : Nat} {m m1 : M} {pc px : Nat → Nat}
theorem below (h : St w0 w B cb xb ov wv j lo hi lo' hi' m pc px) (hb : Below w.heap.size w w1) : St w0 w1 B cb xb ov wv j lo hi lo' hi' m pc px :=
  ⟨h.bel.trans (hb.mono (by
      have := h.pair.s1
      obtain ⟨L, hc⟩ := h.pair.cp
      have := hc.hcb
      have := h.pair.b1
      omega)), h.pair.below hb, ((Keeps.refl 36 w).below hb).own h.old, ((Keeps.refl 38 w).below hb).own h.was, h.oap, h.wap, fun q hq => by
    obtain ⟨l, a, l', a', n, hp, h1⟩ := h.olds q hq
    exact ⟨l, a, l', a', n, hp.below hb, h1⟩⟩

/-- Behind the chip's own call: the twin is as it was. -/
theorem mid (h : St w0 w B cb xb ov wv j lo hi lo' hi' m pc px) {L' : Loc} (hx : CR w lo' hi' xb L' m) (ho : Only lo hi w w1) : CR w1 lo' hi' xb L' m :=
  MemX.only hx h.pair.s2 (h.pair.dis.symm) ho

/-- Behind the chip's call and its twin's. -/
theorem step (h : St w0 w B cb xb ov wv j lo hi lo' hi' m pc px) {L L' : Loc} (hc : CP w1 lo hi cb L m1) (ho : Only lo hi w w1) (hx : CR w2 lo' hi' xb L' m1) (ho' : Only lo' hi' w1 w2) (hw : WF m1) : St w0 w2 B cb xb ov wv j lo hi lo' hi' m1 pc px := by
  have s1 := h.pair.s1
  have s2 := h.pair.s2
  have hB : B ≤ w.heap.size := by
    have := hx.hcb
    have := h.pair.b2
    omega
  have hsz := ho.size
  refine ⟨(h.bel.trans (ho.below h.pair.b1 hB)).trans (ho'.below h.pair.b2 (by omega)), ⟨hw, h.pair.b1, h.pair.b2, by have := ho'.size; omega, by have := ho'.size; omega, h.pair.dis, ⟨L, MemX.only hc (by omega) h.pair.dis ho'⟩, ⟨L', hx⟩⟩,
    own_only (own_only h.old ho (fun g hg => (h.oap g hg).1)) ho' (fun g hg => (h.oap g hg).2), own_only (own_only h.was ho (fun g hg => (h.wap g hg).1)) ho' (fun g hg => (h.wap g hg).2), h.oap, h.wap, fun q hq => ?_⟩
  obtain ⟨l, a, l', a', n, hp, h1, h2, h3, h4⟩ := h.olds q hq
  exact ⟨l, a, l', a', n, (hp.only ho h1 h3).only ho' h2 h4, h1, h2, h3, h4⟩

/-- Behind both copies. -/
theorem copy (h : St w0 w B cb xb ov wv j lo hi lo' hi' m pc px) {w3 w4 : World} {ov' wv' : Value} {L3 L4 : Loc} (K : ∀ t, t ≠ 36 → t ≠ 38 → Keeps t w w2) (hs : w.heap.size ≤ w2.heap.size) (hb : Below B w0 w2)
    (ho : w2.ownsRow B 36 1 ov' (j + 1) ((List.range j).map (fun q => .pointer (some ⟨pc q, 0, none⟩)) ++ [.pointer (some ⟨cb, 0, none⟩)]))
    (hw : w2.ownsRow B 38 1 wv' (j + 1) ((List.range j).map (fun q => .pointer (some ⟨px q, 0, none⟩)) ++ [.pointer (some ⟨xb, 0, none⟩)]))
    (b3 : Below w2.heap.size w2 w3) (c3 : CP w3 w2.heap.size w3.heap.size w2.heap.size L3 m) (b4 : Below w3.heap.size w3 w4) (c4 : CR w4 w3.heap.size w4.heap.size w3.heap.size L4 m) :
    St w0 w4 B w2.heap.size w3.heap.size ov' wv' (j + 1) w2.heap.size w3.heap.size w3.heap.size w4.heap.size m (put pc j cb) (put px j xb) := by
  have hB : B ≤ w.heap.size := by
    obtain ⟨L, hc⟩ := h.pair.cp
    have := hc.hcb
    have := h.pair.b1
    have := h.pair.s1
    omega
  have z3 := b3.size
  have z4 := b4.size
  have bb : Below w2.heap.size w2 w4 := b3.trans (b4.mono z3)
  have hlt : ∀ {v : Value} {e : TypeId} {xs : List Value}, w2.ownsRow B e 1 v (j + 1) xs → ∀ g, v.ownBlock = some g → (g < w2.heap.size ∨ w3.heap.size ≤ g) ∧ (g < w3.heap.size ∨ w4.heap.size ≤ g) := fun ho g hg => by
    have := (ho.lt g hg).2
    omega
  have l1 : (List.range j).map (fun q => Value.pointer (some ⟨pc q, 0, none⟩)) ++ [.pointer (some ⟨cb, 0, none⟩)] = (List.range (j + 1)).map fun q => Value.pointer (some ⟨put pc j cb q, 0, none⟩) := by
    rw [grow_snoc]
    apply List.map_congr_left
    intro i _
    unfold put
    by_cases e : i = j
    · rw [if_pos e, if_pos e]
    · rw [if_neg e, if_neg e]
  have l2 : (List.range j).map (fun q => Value.pointer (some ⟨px q, 0, none⟩)) ++ [.pointer (some ⟨xb, 0, none⟩)] = (List.range (j + 1)).map fun q => Value.pointer (some ⟨put px j xb q, 0, none⟩) := by
    rw [grow_snoc]
    apply List.map_congr_left
    intro i _
    unfold put
    by_cases e : i = j
    · rw [if_pos e, if_pos e]
    · rw [if_neg e, if_neg e]
  refine ⟨hb.trans (bb.mono (by omega)), ⟨h.pair.wf, by omega, by omega, z4, Nat.le_refl _, .inl (Nat.le_refl _), ⟨L3, MemX.below c3 (Nat.le_refl _) b4⟩, ⟨L4, c4⟩⟩, ?_, ?_, hlt ho, hlt hw, fun q hq => ?_⟩
  · have := ((Keeps.refl 36 w2).below bb).own ho
    rw [l1] at this
    exact this
  · have := ((Keeps.refl 38 w2).below bb).own hw
    rw [l2] at this
    exact this
  · by_cases e : q = j
    · subst e
      have hp := (h.pair.keep hs K).below bb
      have e1 : put pc q cb q = cb := if_pos rfl
      have e2 : put px q xb q = xb := if_pos rfl
      rw [e1, e2]
      have s1 := h.pair.s1
      have s2 := h.pair.s2
      exact ⟨lo, hi, lo', hi', m, hp, by omega, by omega, by omega, by omega⟩
    · obtain ⟨l, a, l', a', n, hp, _⟩ := h.olds q (by omega)
      have e1 : put pc j cb q = pc q := if_neg e
      have e2 : put px j xb q = px q := if_neg e
      rw [e1, e2]
      have s1 := hp.s1
      have s2 := hp.s2
      exact ⟨l, a, l', a', n, (hp.keep hs K).below bb, by omega, by omega, by omega, by omega⟩
end St

/-- What was laid anew ahead of a chip's call is there still. -/
theorem only_new {w w1 : World} {lo hi : Nat} {cs : Array Value} {t : TypeId} (ho : Only lo hi (w.alloc (.cells cs t)) w1) (hs : hi ≤ w.heap.size) : w1.heap[w.heap.size]? = some (.cells cs t (0, 0)) := by
  rw [ho.block w.heap.size (by simp) (by omega)]
  exact heap_alloc_new w _

/-- The steps of a script, as a call reads them. -/
def StepsIn (w : World) (a : Option Addr) (n : Nat) (K A C : Nat → Int) (D : Nat → List UInt8) : Prop :=
  0 < n → ∃ b off, a = some ⟨b, off, none⟩ ∧ ∀ i, i < n → w.cell? ⟨b, off + i * 4, none⟩ = some (.int .i64 (K i)) ∧ w.cell? ⟨b, off + i * 4 + 1, none⟩ = some (.int .i64 (A i)) ∧ w.cell? ⟨b, off + i * 4 + 2, none⟩ = some (.int .i64 (C i)) ∧ w.cell? ⟨b, off + i * 4 + 3, none⟩ = some (.string (txt (D i)))

theorem StepsIn.below {w w' : World} {a : Option Addr} {n : Nat} {K A C : Nat → Int} {D : Nat → List UInt8} (h : StepsIn w a n K A C D) (hb : Below w.heap.size w w') : StepsIn w' a n K A C D := by
  intro hn
  obtain ⟨b, off, rfl, hc⟩ := h hn
  refine ⟨b, off, rfl, fun i hi => ?_⟩
  obtain ⟨h1, h2, h3, h4⟩ := hc i hi
  refine ⟨?_, ?_, ?_, ?_⟩
  · rw [hb.cell (p := ⟨b, off + i * 4, none⟩) (World.block_lt_of_cell? w _ h1)]; exact h1
  · rw [hb.cell (p := ⟨b, off + i * 4 + 1, none⟩) (World.block_lt_of_cell? w _ h2)]; exact h2
  · rw [hb.cell (p := ⟨b, off + i * 4 + 2, none⟩) (World.block_lt_of_cell? w _ h3)]; exact h3
  · rw [hb.cell (p := ⟨b, off + i * 4 + 3, none⟩) (World.block_lt_of_cell? w _ h4)]; exact h4
end Go.Proofs.Ytodmdkhdbfbfgaa
