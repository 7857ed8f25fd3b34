/- Lemmas and contracts for kept. -/
import Derived.WalkSmall
import Derived.Lib.AppendZerosOnto
import Derived.Lib.Walk
import Derived.Lib.SliceRun
import Derived.Test.YtodmdkhdbfbfgaaGreatDoorM26
set_option maxRecDepth 100000
set_option maxHeartbeats 8000000
namespace Go.Proofs.YtodmdkhdbfbfgaaGreatDoor.S1
open Go.RowKit Pk
set_option linter.unusedVariables false
set_option linter.unusedSimpArgs false
theorem Tryz.info123 : (Tryz.prog.info? 344).map (fun i => (i.zero, i.size, i.bytes)) = some (some (.agg #[.int .i64 0, .int .i64 0, .slice none 0 0]), 3, 40) := by kernel_rfl
theorem cell_three_new (w : World) (a b c : Value) (t : TypeId) : ∀ j u, [a, b, c][j]? = some u → (w.alloc (.cells #[a, b, c] t)).cell? ((⟨w.heap.size, 0, none⟩ : Addr).add j) = some u :=
 World.news_of_block (cs := #[a, b, c]) (heap_alloc_new _ _)
theorem Keeps.grown3 {t : TypeId} {a b c : World} (h : Keeps t a b) {base n : Nat} {e : TypeId} {v : Value} {xs : List Value} (hown : b.ownsRow base e 3 v n xs) (he : e ≠ t) (hg : b.grownBy c v.ownBlock) : Keeps t a c := by
 refine h.trans fun k x f hk => hg.block k (lt_of_heap hk) ?_
 rcases hown.2 with ⟨rfl, _⟩ | ⟨g, cap, cur, rfl, _, hh, _⟩
 ·simp [Value.ownBlock]
 ·intro e2
  simp [Value.ownBlock] at e2
  subst e2
  rw [hk] at hh
  simp at hh
  exact he hh.2.1.symm
theorem Fr.app {w w2 : World} {B n : Nat} {v : Value} {xs : List Value} {o : Obj} (hB : B ≤ w.heap.size) (ho : w.ownsRow B 344 3 v n xs) (hg : (w.alloc o).drew.grownBy w2 v.ownBlock) : Fr B w w2 :=
 ⟨(((Below.refl B w).alloc hB o).drew).grown hg (by simp; omega) (fun q hq => (ho.lt q hq).1), ((Keeps.refl 3 w).alloc o).drew.grown3 (ho.alloc o).drew (by decide) hg⟩
theorem put_q (w : World) (B qb : Nat) (es : List Ent) (pu wt gb gn gc : Nat) (hB : B ≤ w.heap.size) (hes : es.length ≤ 900) (hpu : pu ≤ 1000000) (hhp : Pk.Heap es) (h : QM w B qb es pu) :
 Calls Tryz.prog 310 #[.pointer (some ⟨qb, 0, none⟩), .int .i64 (wt : Nat), .slice (some ⟨gb, 0, none⟩) gn gc] w fun e w' => e = .returned (.tuple #[]) ∧ ∃ es', List.Perm es' (⟨wt, pu, gb, gn, gc⟩ :: es) ∧ Pk.Heap es' ∧ QM w' B qb es' (pu + 1) ∧ Fr B w w' := by
 obtain ⟨i0, hi, hz0, hz1, hz2⟩ := info_parts Tryz.info123
 have Hhp := hidI hhp
 obtain ⟨v, hst, hown⟩ := h.st
 have hqB := h.hB
 obtain ⟨n, hn⟩ : ∃ n, n = es.length := ⟨_, rfl⟩
 rw [← hn] at hown hes
 have hva : ∃ a c, v = .slice a n c := by
  rcases hown.2 with ⟨rfl, h0⟩ | ⟨g, cap, cur, rfl, _⟩
  ·rw [h0]; exact ⟨_, _, rfl⟩
  ·exact ⟨_, _, rfl⟩
 obtain ⟨a, cap, rfl⟩ := hva
 have Hn := hidI hn
 have x0 : w.cell? ⟨qb, 0, none⟩ = some (.slice a n cap) := by rw [cell_of_row w qb 0 _ 341 (0, 0) hst]; rfl
 have x1 : w.cell? ⟨qb, 1, none⟩ = some (.int .i64 (pu : Nat)) := by rw [cell_of_row w qb 1 _ 341 (0, 0) hst]; rfl
 have x0a : ∀ o, (w.alloc o).cell? ⟨qb, 0, none⟩ = some (.slice a n cap) := fun o => by rw [← x0]; exact World.cell?_of_block (Below.heap_alloc w o qb (lt_of_heap hst))
 have x1a : ∀ o, (w.alloc o).cell? ⟨qb, 1, none⟩ = some (.int .i64 (pu : Nat)) := fun o => by rw [← x1]; exact World.cell?_of_block (Below.heap_alloc w o qb (lt_of_heap hst))
 have Hst := hidI hst
 have Hown := hidI hown
 clear hhp h hst hown hn
 go_enter Tryz.func310, Tryz.ntmps310
 go_wp2
 go_region_law
  (refine step_append_lies _ (by rfl) _ _ _ (by rfl) B 344 i0 _ 3 40 Tryz.underlying339 hi hz0 hz1 hz2 rfl (by omega) (.slice a n cap) n _ (by rfl) (Hown.out.drew.alloc _) ⟨w.heap.size, 0, none⟩ 1 1 [.int .i64 (wt : Nat), .int .i64 (pu : Nat), .slice (some ⟨gb, 0, none⟩) gn gc] (by rfl) rfl (cell_three_new w.drew _ _ _ _) (by intro u hu; simp at hu; rcases hu with rfl | rfl | rfl <;> rfl) (by omega) (by unfold maxLen; omega) (by omega) (by simp; omega) (w.heap.size + 1) (by simp) ?_; intro g2 cap2 w2 hown2 hgrow hat hlt2; have hst2 := (((Keeps.refl 341 w).drew.alloc _).grown3 (Hown.out.drew.alloc _) (by decide) hgrow).block Hst.out; have y0 : w2.cell? ⟨qb, 0, none⟩ = some (.slice a n cap) := (by rw [cell_of_row w2 qb 0 _ 341 (0, 0) hst2]; rfl); have yf := frozen_of_row w2 qb 0 _ 341 hst2; have Hst2 := hidI hst2; have Hown2 := hidI hown2; have Hgrow := hidI hgrow; clear hst2 hown2 hgrow hat)
 ·have hst3 := heap_setCell_same w2 qb 0 _ 341 (.slice (some ⟨g2, 0, none⟩) (n + 1) cap2) Hst2.out
  have u1 : (w2.setCell ⟨qb, 0, none⟩ (.slice (some ⟨g2, 0, none⟩) (n + 1) cap2)).cell? ⟨qb, 1, none⟩ = some (.int .i64 (pu : Nat)) := by rw [cell_of_row _ qb 1 _ 341 (0, 0) hst3]; rfl
  have uf := frozen_of_row _ qb 1 _ 341 hst3
  have hst4 := heap_setCell_same _ qb 1 _ 341 (.int .i64 ((pu + 1 : Nat) : Int)) hst3
  have u0 : ((w2.setCell ⟨qb, 0, none⟩ (.slice (some ⟨g2, 0, none⟩) (n + 1) cap2)).setCell ⟨qb, 1, none⟩ (.int .i64 ((pu + 1 : Nat) : Int))).cell? ⟨qb, 0, none⟩ = some (.slice (some ⟨g2, 0, none⟩) (n + 1) cap2) := by rw [cell_of_row _ qb 0 _ 341 (0, 0) hst4]; rfl
  have hqr : qb ≠ g2 := by
   intro e; subst e
   obtain ⟨_, _, hk⟩ := Lib.ownsRow_kind Hown2.out qb rfl
   rw [Hst2.out] at hk; simp at hk
  have hgv : (Value.slice (some ⟨g2, 0, none⟩) (n + 1) cap2).ownBlock ≠ some qb := by simp [Value.ownBlock]; exact fun e => hqr e.symm
  have hown4 := ownsRow_setCell_other (a := ⟨qb, 1, none⟩) (ownsRow_setCell_other (a := ⟨qb, 0, none⟩) Hown2.out hgv (.slice (some ⟨g2, 0, none⟩) (n + 1) cap2)) hgv (.int .i64 ((pu + 1 : Nat) : Int))
  have hfr := Fr.app hB Hown.out Hgrow.out
  have hfr4 : Fr B w ((w2.setCell ⟨qb, 0, none⟩ (.slice (some ⟨g2, 0, none⟩) (n + 1) cap2)).setCell ⟨qb, 1, none⟩ (.int .i64 ((pu + 1 : Nat) : Int))) := ⟨(hfr.bel.setCell (p := ⟨qb, 0, none⟩) hqB _).setCell (p := ⟨qb, 1, none⟩) hqB _, (hfr.ints.set Hst2.out (by decide)).set hst3 (by decide)⟩
  have hec : entCells es ++ [.int .i64 (wt : Nat), .int .i64 (pu : Nat), .slice (some ⟨gb, 0, none⟩) gn gc] = entCells (es ++ [⟨wt, pu, gb, gn, gc⟩]) := by rw [entCells_append]; rfl
  rw [hec] at hown4
  have hq4 := QM.make hqB hst4 (by rw [List.length_append, ← Hn.out]; rfl) hown4
  have Hcall := hidI (rise_any _ B qb (es ++ [⟨wt, pu, gb, gn, gc⟩]) (pu + 1) n (hfr4.size hB) (by rw [List.length_append, ← Hn.out]; simp; omega) (by rw [List.length_append, ← Hn.out]; simp) (by rw [Hn.out]; exact heap_snoc Hhp.out _) hq4)
  have Hfr4 := hidI hfr4
  clear hst3 hst4 hown4 hfr hfr4 hec hq4 hgv Hst2 Hown2 Hgrow Hst Hown x0 x1 x0a x1a
  rw [show ((pu + 1 : Nat) : Int) = (pu : Int) + 1 by omega] at u0 Hcall Hfr4
  go_wp2_with fail
  refine Hcall.out.mono ?_
  rintro e w5 ⟨rfl, es', hp, hh, hq, hf⟩
  go_wp2
  go_end0
  exact ⟨rfl, es', hp.trans (List.perm_append_singleton _ _), hh, hq, Hfr4.out.trans hf⟩
 ·have hst3 := heap_setCell_same w2 qb 0 _ 341 (.slice (some ⟨g2, 0, none⟩) (n + 1) cap2) Hst2.out
  have u1 : (w2.setCell ⟨qb, 0, none⟩ (.slice (some ⟨g2, 0, none⟩) (n + 1) cap2)).cell? ⟨qb, 1, none⟩ = some (.int .i64 (pu : Nat)) := by rw [cell_of_row _ qb 1 _ 341 (0, 0) hst3]; rfl
  have uf := frozen_of_row _ qb 1 _ 341 hst3
  have hst4 := heap_setCell_same _ qb 1 _ 341 (.int .i64 ((pu + 1 : Nat) : Int)) hst3
  have u0 : ((w2.setCell ⟨qb, 0, none⟩ (.slice (some ⟨g2, 0, none⟩) (n + 1) cap2)).setCell ⟨qb, 1, none⟩ (.int .i64 ((pu + 1 : Nat) : Int))).cell? ⟨qb, 0, none⟩ = some (.slice (some ⟨g2, 0, none⟩) (n + 1) cap2) := by rw [cell_of_row _ qb 0 _ 341 (0, 0) hst4]; rfl
  have hqr : qb ≠ g2 := by
   intro e; subst e
   obtain ⟨_, _, hk⟩ := Lib.ownsRow_kind Hown2.out qb rfl
   rw [Hst2.out] at hk; simp at hk
  have hgv : (Value.slice (some ⟨g2, 0, none⟩) (n + 1) cap2).ownBlock ≠ some qb := by simp [Value.ownBlock]; exact fun e => hqr e.symm
  have hown4 := ownsRow_setCell_other (a := ⟨qb, 1, none⟩) (ownsRow_setCell_other (a := ⟨qb, 0, none⟩) Hown2.out hgv (.slice (some ⟨g2, 0, none⟩) (n + 1) cap2)) hgv (.int .i64 ((pu + 1 : Nat) : Int))
  have hfr := Fr.app hB Hown.out Hgrow.out
  have hfr4 : Fr B w ((w2.setCell ⟨qb, 0, none⟩ (.slice (some ⟨g2, 0, none⟩) (n + 1) cap2)).setCell ⟨qb, 1, none⟩ (.int .i64 ((pu + 1 : Nat) : Int))) := ⟨(hfr.bel.setCell (p := ⟨qb, 0, none⟩) hqB _).setCell (p := ⟨qb, 1, none⟩) hqB _, (hfr.ints.set Hst2.out (by decide)).set hst3 (by decide)⟩
  have hec : entCells es ++ [.int .i64 (wt : Nat), .int .i64 (pu : Nat), .slice (some ⟨gb, 0, none⟩) gn gc] = entCells (es ++ [⟨wt, pu, gb, gn, gc⟩]) := by rw [entCells_append]; rfl
  rw [hec] at hown4
  have hq4 := QM.make hqB hst4 (by rw [List.length_append, ← Hn.out]; rfl) hown4
  have Hcall := hidI (rise_any _ B qb (es ++ [⟨wt, pu, gb, gn, gc⟩]) (pu + 1) n (hfr4.size hB) (by rw [List.length_append, ← Hn.out]; simp; omega) (by rw [List.length_append, ← Hn.out]; simp) (by rw [Hn.out]; exact heap_snoc Hhp.out _) hq4)
  have Hfr4 := hidI hfr4
  clear hst3 hst4 hown4 hfr hfr4 hec hq4 hgv Hst2 Hown2 Hgrow Hst Hown x0 x1 x0a x1a
  rw [show ((pu + 1 : Nat) : Int) = (pu : Int) + 1 by omega] at u0 Hcall Hfr4
  go_wp2_with fail
  refine Hcall.out.mono ?_
  rintro e w5 ⟨rfl, es', hp, hh, hq, hf⟩
  go_wp2
  go_end0
  exact ⟨rfl, es', hp.trans (List.perm_append_singleton _ _), hh, hq, Hfr4.out.trans hf⟩
 ·have hst3 := heap_setCell_same w2 qb 0 _ 341 (.slice (some ⟨g2, 0, none⟩) (n + 1) cap2) Hst2.out
  have u1 : (w2.setCell ⟨qb, 0, none⟩ (.slice (some ⟨g2, 0, none⟩) (n + 1) cap2)).cell? ⟨qb, 1, none⟩ = some (.int .i64 (pu : Nat)) := by rw [cell_of_row _ qb 1 _ 341 (0, 0) hst3]; rfl
  have uf := frozen_of_row _ qb 1 _ 341 hst3
  have hst4 := heap_setCell_same _ qb 1 _ 341 (.int .i64 ((pu + 1 : Nat) : Int)) hst3
  have u0 : ((w2.setCell ⟨qb, 0, none⟩ (.slice (some ⟨g2, 0, none⟩) (n + 1) cap2)).setCell ⟨qb, 1, none⟩ (.int .i64 ((pu + 1 : Nat) : Int))).cell? ⟨qb, 0, none⟩ = some (.slice (some ⟨g2, 0, none⟩) (n + 1) cap2) := by rw [cell_of_row _ qb 0 _ 341 (0, 0) hst4]; rfl
  have hqr : qb ≠ g2 := by
   intro e; subst e
   obtain ⟨_, _, hk⟩ := Lib.ownsRow_kind Hown2.out qb rfl
   rw [Hst2.out] at hk; simp at hk
  have hgv : (Value.slice (some ⟨g2, 0, none⟩) (n + 1) cap2).ownBlock ≠ some qb := by simp [Value.ownBlock]; exact fun e => hqr e.symm
  have hown4 := ownsRow_setCell_other (a := ⟨qb, 1, none⟩) (ownsRow_setCell_other (a := ⟨qb, 0, none⟩) Hown2.out hgv (.slice (some ⟨g2, 0, none⟩) (n + 1) cap2)) hgv (.int .i64 ((pu + 1 : Nat) : Int))
  have hfr := Fr.app hB Hown.out Hgrow.out
  have hfr4 : Fr B w ((w2.setCell ⟨qb, 0, none⟩ (.slice (some ⟨g2, 0, none⟩) (n + 1) cap2)).setCell ⟨qb, 1, none⟩ (.int .i64 ((pu + 1 : Nat) : Int))) := ⟨(hfr.bel.setCell (p := ⟨qb, 0, none⟩) hqB _).setCell (p := ⟨qb, 1, none⟩) hqB _, (hfr.ints.set Hst2.out (by decide)).set hst3 (by decide)⟩
  have hec : entCells es ++ [.int .i64 (wt : Nat), .int .i64 (pu : Nat), .slice (some ⟨gb, 0, none⟩) gn gc] = entCells (es ++ [⟨wt, pu, gb, gn, gc⟩]) := by rw [entCells_append]; rfl
  rw [hec] at hown4
  have hq4 := QM.make hqB hst4 (by rw [List.length_append, ← Hn.out]; rfl) hown4
  have Hcall := hidI (rise_any _ B qb (es ++ [⟨wt, pu, gb, gn, gc⟩]) (pu + 1) n (hfr4.size hB) (by rw [List.length_append, ← Hn.out]; simp; omega) (by rw [List.length_append, ← Hn.out]; simp) (by rw [Hn.out]; exact heap_snoc Hhp.out _) hq4)
  have Hfr4 := hidI hfr4
  clear hst3 hst4 hown4 hfr hfr4 hec hq4 hgv Hst2 Hown2 Hgrow Hst Hown x0 x1 x0a x1a
  rw [show ((pu + 1 : Nat) : Int) = (pu : Int) + 1 by omega] at u0 Hcall Hfr4
  go_wp2_with fail
  refine Hcall.out.mono ?_
  rintro e w5 ⟨rfl, es', hp, hh, hq, hf⟩
  go_wp2
  go_end0
  exact ⟨rfl, es', hp.trans (List.perm_append_singleton _ _), hh, hq, Hfr4.out.trans hf⟩
end Go.Proofs.YtodmdkhdbfbfgaaGreatDoor.S1
namespace Go.Proofs.YtodmdkhdbfbfgaaGreatDoor.S1
open Go.RowKit Pk
set_option linter.unusedVariables false
set_option linter.unusedSimpArgs false
def FarQ (qb : Nat) (w w' : World) : Prop := ∀ k, k < w.heap.size → k ≠ qb → (∀ n cap, w.cell? ⟨qb, 0, none⟩ ≠ some (.slice (some ⟨k, 0, none⟩) n cap)) → w'.heap[k]? = w.heap[k]?
theorem take_none (w : World) (B qb : Nat) (pu : Nat) (hB : B ≤ w.heap.size) (h : QM w B qb [] pu) :
 Calls Tryz.prog 311 #[.pointer (some ⟨qb, 0, none⟩)] w fun e w' => e = .returned (.tuple #[.agg #[.int .i64 0, .int .i64 0, .slice none 0 0], .bool false]) ∧ QM w' B qb [] pu ∧ Fr B w w' ∧ FarQ qb w w' := by
 obtain ⟨a, cap, x0⟩ := h.len (n := 0) rfl
 have hlq : qb < w.heap.size := World.block_lt_of_cell? w _ x0
 have hne : w.heap.size ≠ qb := by omega
 have Hq := hidI h
 clear h
 go_enter Tryz.func311, Tryz.ntmps311
 go_wp2
 have hres : Tryz.f311.results = #[.cell 2 344, .tmp 3] := by kernel_rfl
 refine bodyPost_ret (v := .tuple #[.agg #[.int .i64 0, .int .i64 0, .slice none 0 0], .bool false]) ?_ rfl ?_
 ·simp [results, hres, go_sem]
 ·refine ⟨rfl, Hq.out.of fun k hk => Below.heap_alloc _ _ k hk, (Fr.refl B w).alloc hB _, fun k hk _ _ => Below.heap_alloc _ _ k hk⟩
theorem QM.away {w : World} {B qb : Nat} {es : List Ent} {pu r n cap R o : Nat} {x : Value} (h : QM w B qb es pu) (hst : w.heap[qb]? = some (.cells #[.slice (some ⟨r, 0, none⟩) n cap, x] 341 (0, 0))) (h1 : R ≠ qb) (h2 : R ≠ r) (v : Value) :
 QM (w.setCell ⟨R, o, none⟩ v) B qb es pu ∧ (w.setCell ⟨R, o, none⟩ v).heap[qb]? = some (.cells #[.slice (some ⟨r, 0, none⟩) n cap, x] 341 (0, 0)) := by
 have hb := Below.heap_setCell w ⟨R, o, none⟩ v qb (fun e => h1 e.symm)
 obtain ⟨v6, h3, h4⟩ := h.st
 have hv : v6 = .slice (some ⟨r, 0, none⟩) n cap := by
  rw [hst] at h3
  simp at h3
  exact h3.1.symm
 refine ⟨⟨h.hB, v6, hb.trans h3, ownsRow_setCell_other (a := ⟨R, o, none⟩) h4 ?_ v⟩, hb.trans hst⟩
 rw [hv]
 simp [Value.ownBlock]
 exact fun e => h2 e.symm
theorem Fr.setNew {B R o : Nat} {a b : World} (h : Fr B a b) (h1 : B ≤ R) (h2 : a.heap.size ≤ R) (v : Value) : Fr B a (b.setCell ⟨R, o, none⟩ v) :=
 ⟨h.bel.setCell (p := ⟨R, o, none⟩) h1 v, fun k x f e => (Below.heap_setCell b ⟨R, o, none⟩ v k (by have := lt_of_heap e; simp; omega)).trans (h.ints k x f e)⟩
theorem popped_own {W : World} {B r cap n : Nat} {es : List Ent} {en : Ent} (hn : n + 1 = es.length) (hen : en = es.getD n noEnt) (h : W.ownsRow B 344 3 (.slice (some ⟨r, 0, none⟩) (n + 1) cap) (n + 1) (entCells (es.set 0 en))) :
 W.ownsRow B 344 3 (.slice (some ⟨r, 0, none⟩) n cap) n (entCells (popped es)) := by
 have hp : popped es = (es.set 0 en).take n := by
  unfold popped
  rw [← hn, Nat.add_sub_cancel, hen]
 have hx : entCells (es.set 0 en) = entCells (popped es) ++ (entCells (es.set 0 en)).drop (n * 3) := by
  rw [hp, ← entCells_take, List.take_append_drop]
 rw [hx] at h
 refine ownsRow_pop ?_ h
 rw [entCells_length, popped_length, ← hn]; rfl
theorem take_some (w : World) (B qb : Nat) (es : List Ent) (e0 : Ent) (pu n : Nat) (hB : B ≤ w.heap.size) (hn : n + 1 = es.length) (hn9 : n ≤ 900) (he0 : e0 = es.getD 0 noEnt) (hh : Pk.Heap es) (h : QM w B qb es pu) :
 Calls Tryz.prog 311 #[.pointer (some ⟨qb, 0, none⟩)] w fun e w' => e = .returned (.tuple #[.agg #[.int .i64 (e0.wt : Nat), .int .i64 (e0.tn : Nat), .slice (some ⟨e0.b, 0, none⟩) e0.n e0.c], .bool true]) ∧ ∃ es', List.Perm es' (popped es) ∧ Pk.Heap es' ∧ QM w' B qb es' pu ∧ Fr B w w' ∧ FarQ qb w w' := by
 obtain ⟨r, cap, hr, hcap, hqr, hst, hown, x0, hcells, hfz⟩ := h.look hn (by omega)
 obtain ⟨en, hen⟩ : ∃ e, e = es.getD n noEnt := ⟨_, rfl⟩
 obtain ⟨y1, y2, y3⟩ := hcells 0 (by omega) e0 he0
 obtain ⟨z1, z2, z3⟩ := hcells n (by omega) en hen
 simp only [Nat.zero_mul, Nat.zero_add] at y1 y2 y3
 have f1 := hfz 0
 have f2 := hfz 1
 have f3 := hfz 2
 have hqB := h.hB
 have hlq := lt_of_heap hst
 have hlr := (hown.lt r rfl).2
 have hne1 : w.heap.size ≠ qb := by omega
 have hne2 : w.heap.size ≠ r := by omega
 have hne3 : w.heap.size + 1 ≠ qb := by omega
 have hne4 : w.heap.size + 1 ≠ r := by omega
 have Hhh := hidI hh
 have Hen := hidI hen
 have He0 := hidI he0
 have Hst := hidI hst
 have Hown := hidI hown
 have Hq := hidI h
 have Hn := hidI hn
 clear hcells hfz hst hown hen he0 hh h hn
 go_enter Tryz.func311, Tryz.ntmps311
 go_wp2
 have hst2 : ((w.alloc (.cells #[.int .i64 0, .int .i64 0, .slice none 0 0] 344)).alloc (.cells #[.int .i64 (e0.wt : Nat), .int .i64 (e0.tn : Nat), .slice (some ⟨e0.b, 0, none⟩) e0.n e0.c] 344)).heap[qb]? = _ := (alloc2_keep w _ _ qb hlq).trans Hst.out
 have hown2 : ((w.alloc (.cells #[.int .i64 0, .int .i64 0, .slice none 0 0] 344)).alloc (.cells #[.int .i64 (e0.wt : Nat), .int .i64 (e0.tn : Nat), .slice (some ⟨e0.b, 0, none⟩) e0.n e0.c] 344)).ownsRow B 344 3 _ _ _ := (Hown.out.alloc _).alloc _
 have Hf2 := hidI (((Fr.refl B w).alloc hB (.cells #[.int .i64 0, .int .i64 0, .slice none 0 0] 344)).alloc (by simp; omega) (.cells #[.int .i64 (e0.wt : Nat), .int .i64 (e0.tn : Nat), .slice (some ⟨e0.b, 0, none⟩) e0.n e0.c] 344))
 have HR : Hid (((w.alloc (.cells #[.int .i64 0, .int .i64 0, .slice none 0 0] 344)).alloc (.cells #[.int .i64 (e0.wt : Nat), .int .i64 (e0.tn : Nat), .slice (some ⟨e0.b, 0, none⟩) e0.n e0.c] 344)).heap[w.heap.size]? = some (.cells #[.int .i64 0, .int .i64 0, .slice none 0 0] 344 (0, 0))) := (Below.heap_alloc _ _ _ (by simp)).trans (heap_alloc_new _ _)
 have HN : Hid (((w.alloc (.cells #[.int .i64 0, .int .i64 0, .slice none 0 0] 344)).alloc (.cells #[.int .i64 (e0.wt : Nat), .int .i64 (e0.tn : Nat), .slice (some ⟨e0.b, 0, none⟩) e0.n e0.c] 344)).heap[w.heap.size + 1]? = some (.cells #[.int .i64 (e0.wt : Nat), .int .i64 (e0.tn : Nat), .slice (some ⟨e0.b, 0, none⟩) e0.n e0.c] 344 (0, 0))) := by
  have := heap_alloc_new (w.alloc (.cells #[.int .i64 0, .int .i64 0, .slice none 0 0] 344)) (.cells #[.int .i64 (e0.wt : Nat), .int .i64 (e0.tn : Nat), .slice (some ⟨e0.b, 0, none⟩) e0.n e0.c] 344)
  simp only [World.size_alloc] at this
  exact this
 have Hx := hidI x0
 have Hk0 : Hid (∀ k, k < w.heap.size → ((w.alloc (.cells #[.int .i64 0, .int .i64 0, .slice none 0 0] 344)).alloc (.cells #[.int .i64 (e0.wt : Nat), .int .i64 (e0.tn : Nat), .slice (some ⟨e0.b, 0, none⟩) e0.n e0.c] 344)).heap[k]? = w.heap[k]?) := alloc2_keep w _ _
 clear x0 y1 y2 y3 z1 z2 z3 f1 f2 f3 Hst Hown Hq
 generalize ((w.alloc (.cells #[.int .i64 0, .int .i64 0, .slice none 0 0] 344)).alloc (.cells #[.int .i64 (e0.wt : Nat), .int .i64 (e0.tn : Nat), .slice (some ⟨e0.b, 0, none⟩) e0.n e0.c] 344)) = W at *
 have hq2 : QM W B qb es pu := QM.make hqB hst2 Hn.out.symm hown2
 obtain ⟨g1, g2, g3⟩ := entCells_get es n (by have := Hn.out; omega)
 rw [← Hen.out] at g1 g2 g3
 have x0 : W.cell? ⟨qb, 0, none⟩ = some (.slice (some ⟨r, 0, none⟩) (n + 1) cap) := by rw [cell_of_row W qb 0 _ 341 (0, 0) hst2]; rfl
 have z1 : W.cell? ⟨r, n * 3, none⟩ = some (.int .i64 (en.wt : Nat)) := by rw [hown2.cellAt (n * 3) (by omega), Nat.mul_comm]; exact g1
 have z2 : W.cell? ⟨r, n * 3 + 1, none⟩ = some (.int .i64 (en.tn : Nat)) := by rw [hown2.cellAt (n * 3 + 1) (by omega), Nat.mul_comm]; exact g2
 have z3 : W.cell? ⟨r, n * 3 + 2, none⟩ = some (.slice (some ⟨en.b, 0, none⟩) en.n en.c) := by rw [hown2.cellAt (n * 3 + 2) (by omega), Nat.mul_comm]; exact g3
 obtain ⟨k1, k2, k3⟩ := entCells_get es 0 (by have := Hn.out; omega)
 rw [← He0.out] at k1 k2 k3
 have y1 : W.cell? ⟨r, 0, none⟩ = some (.int .i64 (e0.wt : Nat)) := by rw [hown2.cellAt 0 (by omega)]; exact k1
 have y2 : W.cell? ⟨r, 1, none⟩ = some (.int .i64 (e0.tn : Nat)) := by rw [hown2.cellAt 1 (by omega)]; exact k2
 have y3 : W.cell? ⟨r, 2, none⟩ = some (.slice (some ⟨e0.b, 0, none⟩) e0.n e0.c) := by rw [hown2.cellAt 2 (by omega)]; exact k3
 have f1 := hown2.frozenAt 0
 have f2 := hown2.frozenAt 1
 have f3 := hown2.frozenAt 2
 have hs1 := setEnt_own hown2 0 en
 have hfr1 : Fr B w (setEnt W r 0 en) := setEnt_fr (v := .slice none 0 0) Hf2.out hown2 0 en
 have hpo := popped_own Hn.out Hen.out hs1
 have hst3 : (setEnt W r 0 en).heap[qb]? = _ := (setEnt_block W r 0 en qb hqr).trans hst2
 have HR3 : Hid ((setEnt W r 0 en).heap[w.heap.size]? = _) := (setEnt_block W r 0 en _ hne2).trans HR.out
 have HN3 : Hid ((setEnt W r 0 en).heap[w.heap.size + 1]? = _) := (setEnt_block W r 0 en _ hne4).trans HN.out
 have HW : Hid (setEnt W r 0 en = ((W.setCell ⟨r, 0, none⟩ (.int .i64 (en.wt : Nat))).setCell ⟨r, 1, none⟩ (.int .i64 (en.tn : Nat))).setCell ⟨r, 2, none⟩ (.slice (some ⟨en.b, 0, none⟩) en.n en.c)) := rfl
 have Hpo := hidI hpo
 have Hst3 := hidI hst3
 have Hfr1 := hidI hfr1
 have hnn : ¬ n + 1 < n := by omega
 clear hst2 hown2 hq2 g1 g2 g3 k1 k2 k3 hs1 hpo hst3 hfr1 Hf2 HR HN
 go_region
 rw [← HW.out]
 clear HW x0 y1 y2 y3 z1 z2 z3 f1 f2 f3
 have Hk1 : Hid (∀ k, k < w.heap.size → k ≠ r → (setEnt W r 0 en).drew.heap[k]? = w.heap[k]?) := fun k hk hr => (setEnt_block W r 0 en k hr).trans (Hk0.out k hk)
 have Hst4 : Hid ((setEnt W r 0 en).drew.heap[qb]? = _) := Hst3
 have HR4 : Hid ((setEnt W r 0 en).drew.heap[w.heap.size]? = _) := HR3
 have HN4 : Hid ((setEnt W r 0 en).drew.heap[w.heap.size + 1]? = _) := HN3
 have Hpo4 := hidI Hpo.out.drew
 have Hfr4 := hidI Hfr1.out.drew
 clear Hst3 HR3 HN3 Hpo Hfr1
 generalize (setEnt W r 0 en).drew = W4 at *
 have hst4 := Hst4.out
 have x0 : W4.cell? ⟨qb, 0, none⟩ = some (.slice (some ⟨r, 0, none⟩) (n + 1) cap) := by rw [cell_of_row W4 qb 0 _ 341 (0, 0) hst4]; rfl
 have xf := frozen_of_row W4 qb 0 _ 341 hst4
 have hst5 := heap_setCell_same W4 qb 0 _ 341 (.slice (some ⟨r, 0, none⟩) n cap) hst4
 have hgv : (Value.slice (some ⟨r, 0, none⟩) n cap).ownBlock ≠ some qb := by simp [Value.ownBlock]; exact fun e => hqr e.symm
 have hown5 := ownsRow_setCell_other (a := ⟨qb, 0, none⟩) Hpo4.out hgv (.slice (some ⟨r, 0, none⟩) n cap)
 have hfr5 : Fr B w (W4.setCell ⟨qb, 0, none⟩ (.slice (some ⟨r, 0, none⟩) n cap)) := ⟨Hfr4.out.bel.setCell (p := ⟨qb, 0, none⟩) hqB _, Hfr4.out.ints.set hst4 (by decide)⟩
 have hpl : (popped es).length = n := by rw [popped_length, ← Hn.out]; rfl
 have hq5 := QM.make hqB hst5 hpl hown5
 have Hcall := hidI (sink_any _ B qb (popped es) pu (hfr5.size hB) (by rw [hpl]; omega) (popped_si Hhh.out) hq5)
 have HR5 : Hid ((W4.setCell ⟨qb, 0, none⟩ (.slice (some ⟨r, 0, none⟩) n cap)).heap[w.heap.size]? = _) := (Below.heap_setCell _ _ _ _ hne1).trans HR4.out
 have HN5 : Hid ((W4.setCell ⟨qb, 0, none⟩ (.slice (some ⟨r, 0, none⟩) n cap)).heap[w.heap.size + 1]? = _) := (Below.heap_setCell _ _ _ _ hne3).trans HN4.out
 have x5 : (W4.setCell ⟨qb, 0, none⟩ (.slice (some ⟨r, 0, none⟩) n cap)).cell? ⟨qb, 0, none⟩ = some (.slice (some ⟨r, 0, none⟩) n cap) := by rw [cell_of_row _ qb 0 _ 341 (0, 0) hst5]; rfl
 have Hx5 := hidI x5
 have Hk2 : Hid (∀ k, k < w.heap.size → k ≠ qb → k ≠ r → (W4.setCell ⟨qb, 0, none⟩ (.slice (some ⟨r, 0, none⟩) n cap)).heap[k]? = w.heap[k]?) := fun k hk hq hr => (Below.heap_setCell W4 ⟨qb, 0, none⟩ _ k hq).trans (Hk1.out k hk hr)
 have Hst5 := hidI hst5
 have Hfr5 := hidI hfr5
 have hcn : n ≤ cap := by omega
 clear hst4 hst5 hown5 hfr5 hq5 hpl hgv HR4 HN4 Hpo4 Hfr4 Hst4 x5 hcap
 go_wp2_with fail
 refine Hcall.out.mono ?_
 rintro e w6 ⟨rfl, es', hp, hh, hq6, hf6⟩
 have hfar : ∀ k o, k ≠ qb → k ≠ r → (W4.setCell ⟨qb, 0, none⟩ (.slice (some ⟨r, 0, none⟩) n cap)).heap[k]? = some o → w6.heap[k]? = some o := fun k o hk1 hk2 ho => (hf6.far k (lt_of_heap ho) hk1 (fun a b hc => by rw [Hx5.out] at hc; cases hc; exact hk2 rfl)).trans ho
 have hR6 := hfar _ _ hne1 hne2 HR5.out
 have hN6 := hfar _ _ hne3 hne4 HN5.out
 have n1 : w6.cell? ⟨w.heap.size + 1, 0, none⟩ = some (.int .i64 (e0.wt : Nat)) := by rw [cell_of_row w6 _ 0 _ 344 (0, 0) hN6]; rfl
 have n2 : w6.cell? ⟨w.heap.size + 1, 1, none⟩ = some (.int .i64 (e0.tn : Nat)) := by rw [cell_of_row w6 _ 1 _ 344 (0, 0) hN6]; rfl
 have n3 : w6.cell? ⟨w.heap.size + 1, 2, none⟩ = some (.slice (some ⟨e0.b, 0, none⟩) e0.n e0.c) := by rw [cell_of_row w6 _ 2 _ 344 (0, 0) hN6]; rfl
 have r1 : w6.cell? ⟨w.heap.size, 0, none⟩ = some (.int .i64 0) := by rw [cell_of_row w6 _ 0 _ 344 (0, 0) hR6]; rfl
 have r2 : w6.cell? ⟨w.heap.size, 1, none⟩ = some (.int .i64 0) := by rw [cell_of_row w6 _ 1 _ 344 (0, 0) hR6]; rfl
 have r3 : w6.cell? ⟨w.heap.size, 2, none⟩ = some (.slice none 0 0) := by rw [cell_of_row w6 _ 2 _ 344 (0, 0) hR6]; rfl
 have rf1 := frozen_of_row w6 _ 0 _ 344 hR6
 have rf2 := frozen_of_row w6 _ 1 _ 344 hR6
 have rf3 := frozen_of_row w6 _ 2 _ 344 hR6
 have Hk6 : Hid (∀ k, k < w.heap.size → k ≠ qb → k ≠ r → w6.heap[k]? = w.heap[k]?) := fun k hk hq hr => (hf6.far k (Nat.lt_of_lt_of_le hk Hfr5.out.bel.size) hq (fun a b hc => by rw [Hx5.out] at hc; cases hc; exact hr rfl)).trans (Hk2.out k hk hq hr)
 have Hq6 := hidI hq6
 have Hst6 := hidI (hf6.own.trans Hst5.out)
 have Hf6 := hidI (Hfr5.out.trans hf6.fr)
 have Hp := hidI hp
 have Hh := hidI hh
 clear hfar hq6 hf6 hp hh hR6 hN6 x0 xf
 have HsR : Hid (w.heap.size ≤ w.heap.size) := Nat.le_refl _
 generalize hRe : w.heap.size = R at hB hlq hlr hne1 hne2 hne3 hne4 n1 n2 n3 r1 r2 r3 rf1 rf2 rf3 ⊢
 have HRe := hidI hRe
 clear hRe
 go_wp2
 have hres : Tryz.f311.results = #[.cell 2 344, .tmp 3] := by kernel_rfl
 refine bodyPost_ret (v := .tuple #[.agg #[.int .i64 (e0.wt : Nat), .int .i64 (e0.tn : Nat), .slice (some ⟨e0.b, 0, none⟩) e0.n e0.c], .bool true]) ?_ rfl ?_
 ·simp [results, hres, go_sem, r1, r2, r3]
 ·have a1 := Hq6.out.away (R := R) (o := 0) Hst6.out hne1 hne2 (.int .i64 (e0.wt : Nat))
  have a2 := a1.1.away (R := R) (o := 1) a1.2 hne1 hne2 (.int .i64 (e0.tn : Nat))
  have a3 := a2.1.away (R := R) (o := 2) a2.2 hne1 hne2 (.slice (some ⟨e0.b, 0, none⟩) e0.n e0.c)
  refine ⟨rfl, es', Hp.out, Hh.out, a3.1, ((Hf6.out.setNew hB (by have := HRe.out; omega) _).setNew hB (by have := HRe.out; omega) _).setNew hB (by have := HRe.out; omega) _, fun k hk hq hx => ?_⟩
  have hkR : k ≠ R := by have := HRe.out; omega
  rw [Below.heap_setCell _ _ _ k hkR, Below.heap_setCell _ _ _ k hkR, Below.heap_setCell _ _ _ k hkR]
  exact Hk6.out k hk hq (fun e => by subst e; exact hx _ _ Hx.out)
end Go.Proofs.YtodmdkhdbfbfgaaGreatDoor.S1
namespace Go.Proofs.YtodmdkhdbfbfgaaGreatDoor.S1
open Go.RowKit Pk
set_option linter.unusedVariables false
set_option linter.unusedSimpArgs false
theorem Tryz.info3' : (Tryz.prog.info? 3).map (fun i => (i.zero, i.size, i.bytes)) = some (some (.int .i64 0), 1, 8) := by kernel_rfl
theorem max_any (w : World) (b n c : Nat) (z : Nat → Int) (h0 : 0 < n) (hn : n ≤ 1000) (hz : ∀ i, i < n → w.cell? ⟨b, i, none⟩ = some (.int .i64 (z i))) :
 Calls Tryz.prog 281 #[.slice (some ⟨b, 0, none⟩) n c] w fun e w' => w' = w ∧ ∃ m : Int, e = .returned (.int .i64 m) ∧ (∀ i, i < n → z i ≤ m) ∧ ∃ i, i < n ∧ z i = m := by
 have x0 := hz 0 h0
 have hn1 : ¬ (n : Int) < 1 := by omega
 have Hz := hidI hz
 clear hz
 go_enter Tryz.func281, Tryz.ntmps281
 go_wp2
 clear x0
 go_loopw [4, 3] (fun i m wr => wr = w ∧ ∃ k : Nat, ∃ x : Int, i = .int .i64 (k : Nat) ∧ m = .int .i64 x ∧ 1 ≤ k ∧ k ≤ n ∧ Hid ((∀ j, j < k → z j ≤ x) ∧ ∃ j, j < k ∧ z j = x)) (fun i _ _ => n - (intOf i).toNat)
 case atStart => exact ⟨rfl, 1, z 0, rfl, rfl, by omega, by omega, ⟨fun j hj => by rw [show j = 0 by omega]; exact Int.le_refl _, 0, by omega, rfl⟩⟩
 case round =>
  obtain ⟨rfl, k, x, rfl, rfl, hk1, hk2, Hx⟩ := hrel
  by_cases hlt : k < n
  ·have x1 := Hz.out k hlt
   by_cases hm : x ≤ z k
   ·have Hx2 : Hid ((∀ j, j < k + 1 → z j ≤ z k) ∧ ∃ j, j < k + 1 ∧ z j = z k) := ⟨fun j hj => by
     by_cases e : j = k
     ·subst e; exact Int.le_refl _
     ·exact Int.le_trans (Hx.out.1 j (by omega)) hm, k, by omega, rfl⟩
    generalize z k = y at *
    have hmax : max x y = y := by omega
    go_wp2
    go_roundw
    case rel => exact ⟨by trivial, k + 1, y, by go_num, rfl, by omega, by omega, Hx2⟩
    case measure => simp [intOf]; omega
   ·have Hx2 : Hid ((∀ j, j < k + 1 → z j ≤ x) ∧ ∃ j, j < k + 1 ∧ z j = x) := ⟨fun j hj => by
     by_cases e : j = k
     ·subst e; omega
     ·exact Hx.out.1 j (by omega), by
     obtain ⟨j, hj, e⟩ := Hx.out.2
     exact ⟨j, by omega, e⟩⟩
    generalize z k = y at *
    have hmax : max x y = x := by omega
    go_wp2
    go_roundw
    case rel => exact ⟨by trivial, k + 1, x, by go_num, rfl, by omega, by omega, Hx2⟩
    case measure => simp [intOf]; omega
  ·have hkn : k = n := by omega
   subst hkn
   go_wp2
   go_ret
   exact ⟨rfl, x, rfl, Hx.out.1, Hx.out.2⟩
def intsV (l : List Nat) : List Value := l.map fun x => .int .i64 (x : Nat)
theorem grow_nil (w : World) (n : Nat) (h0 : 0 < n) (hn : n ≤ 1000) :
 Calls Tryz.prog 332 #[.slice none 0 0, .int .i64 (n : Nat)] w fun e w' => ∃ G, e = .returned (.slice (some ⟨w.heap.size, 0, none⟩) 0 G) ∧ w'.ownsRow w.heap.size 3 1 (.slice (some ⟨w.heap.size, 0, none⟩) 0 G) 0 [] ∧ Below w.heap.size w w' := by
 obtain ⟨i0, hi, hz0, hz1, hz2⟩ := info_parts Tryz.info3'
 have hold : (Builtin.firstCells i0.size 0 (.slice none 0 0)).run Tryz.prog w.drew = .ok ([] : List Value).toArray w.drew := run_firstCells_none w.drew i0.size 0 0 0
 have hr := fun ty => Lib.run_append_grow_zeros w 22 3 ty 3 i0 (.int .i64 0) .i64 .i64 Tryz.underlying22 Tryz.underlying3 hi hz0 none 0 0 [] hold n (by omega) (by omega) (by omega) (by omega)
  (by rw [hz2]; omega) (by rw [hz2, Nat.zero_add]; exact growslice_fits h0 (by omega))
 rw [Nat.zero_add] at hr
 obtain ⟨G, hG⟩ : ∃ G, G = grownCap w n 0 3 := ⟨_, rfl⟩
 have hGn : n ≤ G := by rw [hG]; exact grownCap_ge w _ _ _
 have hGm : G ≤ maxLen := by rw [hG]; exact grownCap_le_maxLen w n 0 3 (by unfold maxLen; omega)
 have hG63 : G ≤ 9223372036854775807 := by unfold maxLen at hGm; omega
 rw [← hG] at hr
 obtain ⟨C, hC⟩ : ∃ C : Array Value, C = ([] : List Value).toArray ++ Builtin.zeroCells (Value.int IntKind.i64 0).cells n ++ Builtin.zeroCells (Value.int IntKind.i64 0).cells (G - n) := ⟨_, rfl⟩
 rw [← hC] at hr
 have hCs : C.size = G := by
  rw [hC, Array.size_append, Array.size_append, size_zeroCells, size_zeroCells]
  have : (Value.int IntKind.i64 0).cells.size = 1 := rfl
  rw [this]; simp; omega
 have Hown : Hid ((w.drew.alloc (.cells C 3)).ownsRow w.heap.size 3 1 (.slice (some ⟨w.heap.size, 0, none⟩) 0 G) 0 []) := ⟨rfl, .inr ⟨_, G, C, rfl, Nat.le_refl _, heap_alloc_new _ _, by omega, hGm, by omega, by simp⟩⟩
 have Hb : Hid (Below w.heap.size w (w.drew.alloc (.cells C 3))) := (Below.refl _ w).drew.alloc (Nat.le_refl _) _
 clear hC hCs hG hold
 go_enter Tryz.func332, Tryz.ntmps332
 go_wp2_with (at_builtin; refine Lib.wpList_append_run _ rfl _ _ _ _ rfl _ _ rfl rfl _ _ (hr _) ?_)
 go_ret
 exact ⟨G, rfl, Hown.out, Hb.out⟩
theorem own_news {w : World} {B b n c : Nat} {l : List Nat} (h : w.ownsRow B 3 1 (.slice (some ⟨b, 0, none⟩) n c) n (intsV l)) : ∀ j u, (intsV l)[j]? = some u → w.cell? ((⟨b, 0, none⟩ : Addr).add j) = some u := by
 intro j u hu
 have hj : j < n := by
  rcases Nat.lt_or_ge j n with h2 | h2
  ·exact h2
  ·rw [List.getElem?_eq_none (by rw [h.1]; omega)] at hu; cases hu
 have hadd : (⟨b, 0, none⟩ : Addr).add j = ⟨b, j, none⟩ := by unfold Addr.add; split <;> simp_all
 rw [hadd, h.cellAt j (by omega), hu]
theorem intsV_one (l : List Nat) : ∀ u ∈ intsV l, u.oneCell' = true := by
 intro u hu
 unfold intsV at hu
 simp at hu
 obtain ⟨x, _, rfl⟩ := hu
 rfl
theorem own_under {w w' : World} {B K n : Nat} {e : TypeId} {size : Nat} {v : Value} {xs : List Value} (h : w.ownsRow B e size v n xs) (hb : Below K w w') (hK : w.heap.size ≤ K) : w'.ownsRow B e size v n xs := by
 refine ⟨h.1, ?_⟩
 rcases h.2 with h1 | ⟨g, cap, cur, h1, h2, h3, h4⟩
 ·exact .inl h1
 ·exact .inr ⟨g, cap, cur, h1, h2, (hb.block g (Nat.lt_of_lt_of_le (lt_of_heap h3) hK)).trans h3, h4⟩
theorem clone_ints (w : World) (b n c : Nat) (l : List Nat) (h0 : 0 < n) (hn : n ≤ 1000) (h : w.ownsRow 0 3 1 (.slice (some ⟨b, 0, none⟩) n c) n (intsV l)) :
 Calls Tryz.prog 279 #[.slice (some ⟨b, 0, none⟩) n c] w fun e w' => ∃ g cap, e = .returned (.slice (some ⟨g, 0, none⟩) n cap) ∧ w'.ownsRow w.heap.size 3 1 (.slice (some ⟨g, 0, none⟩) n cap) n (intsV l) ∧ Below w.heap.size w w' := by
 obtain ⟨i0, hi, hz0, hz1, hz2⟩ := info_parts Tryz.info3'
 have Hown := hidI h
 clear h
 have q22 : ∀ (w : World) (a : Option Addr) (n c n' c' : Nat), (binOp .eql 22 (.slice a n c) (.slice none n' c')).run Tryz.prog w = .ok (.bool a.isNone) w := fun w a n c n' c' => Lib.run_eql_slice_nil w _ _ a n c n' c' Tryz.underlying22
 go_enter Tryz.func279, Tryz.ntmps279
 go_wp2_with (at_builtin; refine wpList_append_lies _ rfl _ _ 22 rfl w.heap.size 3 i0 (.int .i64 0) 1 8 Tryz.underlying22 hi hz0 hz1 hz2 rfl (by decide) _ 0 [] rfl (World.ownsRow_made w #[] 0 (Nat.le_refl _) (Nat.zero_le _) rfl) ⟨b, 0, none⟩ n c (intsV l) rfl ?qc1 ?qc2 ?qc3 ?qc7 ?qc4 ?qc5 ?qc6 (w.heap.size + 1) ?qc8 ?_)
 case qc1 => exact Hown.out.1
 case qc2 => exact own_news (Hown.out.alloc _)
 case qc3 => exact intsV_one l
 case qc4 => unfold maxLen; omega
 case qc5 => omega
 case qc6 => simp
 case qc7 => omega
 case qc8 => simp
 intro g cap w1 hown hgrow hat hlt
 have Hown1 := hidI hown
 have Hb := hidI (((Below.refl _ w).alloc (Nat.le_refl _) _).grown hgrow (by simp) (by intro k hk; simp [Value.ownBlock] at hk; omega))
 clear hown hgrow hat
 try rw [Nat.zero_add]
 go_wp2
 go_ret
 exact ⟨g, cap, rfl, Hown1.out, Hb.out⟩
theorem concat_two (w : World) (sb ab an ac bb bn bc : Nat) (A B : List Nat) (ha0 : 0 < an) (hb0 : 0 < bn) (hn : an + bn ≤ 1000) (hs : w.heap[sb]? = some (.cells #[.slice (some ⟨ab, 0, none⟩) an ac, .slice (some ⟨bb, 0, none⟩) bn bc] 22 (0, 0)))
 (ha : w.ownsRow 0 3 1 (.slice (some ⟨ab, 0, none⟩) an ac) an (intsV A)) (hb : w.ownsRow 0 3 1 (.slice (some ⟨bb, 0, none⟩) bn bc) bn (intsV B)) :
 Calls Tryz.prog 312 #[.slice (some ⟨sb, 0, none⟩) 2 2] w fun e w' => ∃ g cap, e = .returned (.slice (some ⟨g, 0, none⟩) (an + bn) cap) ∧ w'.ownsRow w.heap.size 3 1 (.slice (some ⟨g, 0, none⟩) (an + bn) cap) (an + bn) (intsV (A ++ B)) ∧ Below w.heap.size w w' := by
 obtain ⟨i0, hi, hz0, hz1, hz2⟩ := info_parts Tryz.info3'
 have x0 : w.cell? ⟨sb, 0, none⟩ = some (.slice (some ⟨ab, 0, none⟩) an ac) := by rw [cell_of_row w sb 0 _ 22 (0, 0) hs]; rfl
 have x1 : w.cell? ⟨sb, 1, none⟩ = some (.slice (some ⟨bb, 0, none⟩) bn bc) := by rw [cell_of_row w sb 1 _ 22 (0, 0) hs]; rfl
 have Hs := hidI hs
 have Ha := hidI ha
 have Hb := hidI hb
 clear hs ha hb
 go_enter Tryz.func312, Tryz.ntmps312
 go_wp2
 go_loopw [11, 3] (fun i s wr => w = wr ∧ ((i = .int .i64 0 ∧ s = .int .i64 0) ∨ (i = .int .i64 1 ∧ s = .int .i64 (an : Nat)) ∨ (i = .int .i64 2 ∧ s = .int .i64 ((an : Int) + (bn : Int))))) (fun i _ _ => 2 - (intOf i).toNat)
 case atStart => exact ⟨rfl, .inl ⟨rfl, rfl⟩⟩
 case round =>
  obtain ⟨rfl, ⟨rfl, rfl⟩ | ⟨rfl, rfl⟩ | ⟨rfl, rfl⟩⟩ := hrel
  ·have h1 : ¬ (an : Int) < 0 := by omega
   go_wp2
   go_roundw
   case rel => exact ⟨by trivial, .inr (.inl ⟨rfl, rfl⟩)⟩
   case measure => simp [intOf]
  ·have h1 : ¬ (an : Int) + (bn : Int) < 0 := by omega
   go_wp2
   go_roundw
   case rel => exact ⟨by trivial, .inr (.inr ⟨rfl, rfl⟩)⟩
   case measure => simp [intOf]
  ·have hgr := hidI (grow_nil w (an + bn) (by omega) (by omega))
   rw [show ((an + bn : Nat) : Int) = (an : Int) + (bn : Int) by omega] at hgr
   go_wp2_with fail
   refine hgr.out.mono ?_
   rintro e w1 ⟨G, rfl, hown1, hbel1⟩
   have Hown1 := hidI hown1
   have Hbel1 := hidI hbel1
   clear hown1 hbel1 hgr
   go_wp2
   go_loopw [27, 6] (fun i v wq => Hid (Below w.heap.size w wq) ∧ ((i = .int .i64 0 ∧ ∃ g c, v = .slice (some ⟨g, 0, none⟩) 0 c ∧ Hid (wq.ownsRow w.heap.size 3 1 (.slice (some ⟨g, 0, none⟩) 0 c) 0 [])) ∨ (i = .int .i64 1 ∧ ∃ g c, v = .slice (some ⟨g, 0, none⟩) an c ∧ Hid (wq.ownsRow w.heap.size 3 1 (.slice (some ⟨g, 0, none⟩) an c) an (intsV A))) ∨ (i = .int .i64 2 ∧ ∃ g c, v = .slice (some ⟨g, 0, none⟩) (an + bn) c ∧ Hid (wq.ownsRow w.heap.size 3 1 (.slice (some ⟨g, 0, none⟩) (an + bn) c) (an + bn) (intsV (A ++ B)))))) (fun i _ _ => 2 - (intOf i).toNat)
   case atStart => exact ⟨Hbel1, .inl ⟨rfl, _, G, rfl, Hown1⟩⟩
   case round =>
    obtain ⟨Hbq, ⟨rfl, g, cc, rfl, Hq⟩ | ⟨rfl, g, cc, rfl, Hq⟩ | ⟨rfl, g, cc, rfl, Hq⟩⟩ := hrel
    ·have hsb := (Hbq.out.block sb (lt_of_heap Hs.out)).trans Hs.out
     have y0 : wr.cell? ⟨sb, 0, none⟩ = some (.slice (some ⟨ab, 0, none⟩) an ac) := by rw [cell_of_row wr sb 0 _ 22 (0, 0) hsb]; rfl
     have Ha1 := hidI (own_under Ha.out Hbq.out (Nat.le_refl _))
     have hszq := Hbq.out.size
     clear hsb x0 x1
     go_wp2_with (at_builtin; refine wpList_append_lies _ rfl _ _ 22 rfl w.heap.size 3 i0 (.int .i64 0) 1 8 Tryz.underlying22 hi hz0 hz1 hz2 rfl (by decide) _ 0 [] rfl Hq.out ⟨ab, 0, none⟩ an ac (intsV A) rfl Ha1.out.1 (own_news Ha1.out) (intsV_one A) (by omega) (by unfold maxLen; omega) (by omega) (by omega) wr.heap.size rfl ?_)
     intro g2 cap2 w2 hown hgrow hat hlt
     have Hown2 : Hid (w2.ownsRow w.heap.size 3 1 (.slice (some ⟨g2, 0, none⟩) an cap2) an (intsV A)) := by
      show w2.ownsRow _ _ _ _ _ _
      simpa using hown
     have Hb2 := hidI (Hbq.out.grown hgrow (by omega) (fun q hq => (Hq.out.lt q hq).1))
     clear hown hgrow hat y0 hlt
     try rw [Nat.zero_add]
     go_wp2
     go_roundw
     case rel => exact ⟨Hb2, .inr (.inl ⟨rfl, g2, cap2, by simp, Hown2⟩)⟩
     case measure => simp [intOf]
    ·have hsb := (Hbq.out.block sb (lt_of_heap Hs.out)).trans Hs.out
     have y0 : wr.cell? ⟨sb, 1, none⟩ = some (.slice (some ⟨bb, 0, none⟩) bn bc) := by rw [cell_of_row wr sb 1 _ 22 (0, 0) hsb]; rfl
     have Hb1 := hidI (own_under Hb.out Hbq.out (Nat.le_refl _))
     have hszq := Hbq.out.size
     clear hsb x0 x1
     go_wp2_with (at_builtin; refine wpList_append_lies _ rfl _ _ 22 rfl w.heap.size 3 i0 (.int .i64 0) 1 8 Tryz.underlying22 hi hz0 hz1 hz2 rfl (by decide) _ an (intsV A) rfl Hq.out ⟨bb, 0, none⟩ bn bc (intsV B) rfl Hb1.out.1 (own_news Hb1.out) (intsV_one B) (by omega) (by unfold maxLen; omega) (by omega) (by omega) wr.heap.size rfl ?_)
     intro g2 cap2 w2 hown hgrow hat hlt
     have Hown2 : Hid (w2.ownsRow w.heap.size 3 1 (.slice (some ⟨g2, 0, none⟩) (an + bn) cap2) (an + bn) (intsV (A ++ B))) := by
      show w2.ownsRow _ _ _ _ _ _
      unfold intsV at hown ⊢
      rw [List.map_append]; exact hown
     have Hb2 := hidI (Hbq.out.grown hgrow (by omega) (fun q hq => (Hq.out.lt q hq).1))
     clear hown hgrow hat y0 hlt
     go_wp2
     go_roundw
     case rel => exact ⟨Hb2, .inr (.inr ⟨rfl, g2, cap2, rfl, Hown2⟩)⟩
     case measure => simp [intOf]
    ·go_wp2
     go_ret
     exact ⟨g, cc, rfl, Hq.out, Hbq.out⟩
end Go.Proofs.YtodmdkhdbfbfgaaGreatDoor.S1
