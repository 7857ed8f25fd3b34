/- What the queue of package pack does: put, take. -/
import Derived.Test.YtodmdkhdbfbfgaaPkSink
namespace Go.Proofs.Ytodmdkhdbfbfgaa
open Go.RowKit Pk
set_option linter.unusedVariables false
set_option linter.unusedSimpArgs false

theorem Try.info123 : (Try.prog.info? 123).map (fun i => (i.zero, i.size, i.bytes)) = some (some (.agg #[.int .i64 0, .int .i64 0, .slice none 0 0]), 3, 40) := by kernel_rfl

theorem cell_three_new (w : World) (a b c : Value) (t : TypeId) : ∀ j u, [a, b, c][j]? = some u → (w.alloc (.cells #[a, b, c] t)).cell? ((⟨w.heap.size, 0, none⟩ : Addr).add j) = some u :=
  World.news_of_block (cs := #[a, b, c]) (heap_alloc_new _ _)

theorem Keeps.grown3 {t : TypeId} {a b c : World} (h : Keeps t a b) {base n : Nat} {e : TypeId} {v : Value} {xs : List Value} (hown : b.ownsRow base e 3 v n xs) (he : e ≠ t) (hg : b.grownBy c v.ownBlock) : Keeps t a c := by
  refine h.trans fun k x f hk => hg.block k (lt_of_heap hk) ?_
  rcases hown.2 with ⟨rfl, _⟩ | ⟨g, cap, cur, rfl, _, hh, _⟩
  · simp [Value.ownBlock]
  · intro e2
    simp [Value.ownBlock] at e2
    subst e2
    rw [hk] at hh
    simp at hh
    exact he hh.2.1.symm

/-- Behind the append of an entry that was laid down first. -/
theorem Fr.app {w w2 : World} {B n : Nat} {v : Value} {xs : List Value} {o : Obj} (hB : B ≤ w.heap.size) (ho : w.ownsRow B 123 3 v n xs) (hg : (w.alloc o).drew.grownBy w2 v.ownBlock) : Fr B w w2 :=
  ⟨(((Below.refl B w).alloc hB o).drew).grown hg (by simp; omega) (fun q hq => (ho.lt q hq).1), ((Keeps.refl 3 w).alloc o).drew.grown3 (ho.alloc o).drew (by decide) hg⟩

set_option maxRecDepth 100000 in
set_option maxHeartbeats 4000000 in
theorem put_q (w : World) (B qb : Nat) (es : List Ent) (pu wt gb gn gc : Nat) (hB : B ≤ w.heap.size) (hes : es.length ≤ 900) (hpu : pu ≤ 1000000) (hhp : Pk.Heap es) (h : QM w B qb es pu) :
    Calls Try.prog 90 #[.pointer (some ⟨qb, 0, none⟩), .int .i64 (wt : Nat), .slice (some ⟨gb, 0, none⟩) gn gc] w fun e w' => e = .returned (.tuple #[]) ∧ ∃ es', List.Perm es' (⟨wt, pu, gb, gn, gc⟩ :: es) ∧ Pk.Heap es' ∧ QM w' B qb es' (pu + 1) ∧ Fr B w w' := by
  obtain ⟨i0, hi, hz0, hz1, hz2⟩ := info_parts Try.info123
  have Hhp := hidI hhp
  obtain ⟨v, hst, hown⟩ := h.st
  have hqB := h.hB
  obtain ⟨n, hn⟩ : ∃ n, n = es.length := ⟨_, rfl⟩
  rw [← hn] at hown hes
  have hva : ∃ a c, v = .slice a n c := by
    rcases hown.2 with ⟨rfl, h0⟩ | ⟨g, cap, cur, rfl, _⟩
    · rw [h0]; exact ⟨_, _, rfl⟩
    · exact ⟨_, _, rfl⟩
  obtain ⟨a, cap, rfl⟩ := hva
  have Hn := hidI hn
  have x0 : w.cell? ⟨qb, 0, none⟩ = some (.slice a n cap) := by rw [cell_of_row w qb 0 _ 120 (0, 0) hst]; rfl
  have x1 : w.cell? ⟨qb, 1, none⟩ = some (.int .i64 (pu : Nat)) := by rw [cell_of_row w qb 1 _ 120 (0, 0) hst]; rfl
  have x0a : ∀ o, (w.alloc o).cell? ⟨qb, 0, none⟩ = some (.slice a n cap) := fun o => by rw [← x0]; exact World.cell?_of_block (Below.heap_alloc w o qb (lt_of_heap hst))
  have x1a : ∀ o, (w.alloc o).cell? ⟨qb, 1, none⟩ = some (.int .i64 (pu : Nat)) := fun o => by rw [← x1]; exact World.cell?_of_block (Below.heap_alloc w o qb (lt_of_heap hst))
  have Hst := hidI hst
  have Hown := hidI hown
  clear hhp h hst hown hn
  go_enter Try.func90, Try.ntmps90
  go_wp2
  go_region_law
    (refine step_append_lies _ (by rfl) _ _ _ (by rfl) B 123 i0 _ 3 40 Try.underlying118 hi hz0 hz1 hz2 rfl (by omega) (.slice a n cap) n _ (by rfl) (Hown.out.drew.alloc _) ⟨w.heap.size, 0, none⟩ 1 1 [.int .i64 (wt : Nat), .int .i64 (pu : Nat), .slice (some ⟨gb, 0, none⟩) gn gc] (by rfl) rfl (cell_three_new w.drew _ _ _ _) (by intro u hu; simp at hu; rcases hu with rfl | rfl | rfl <;> rfl) (by omega) (by unfold maxLen; omega) (by omega) (by simp; omega) (w.heap.size + 1) (by simp) ?_; intro g2 cap2 w2 hown2 hgrow hat hlt2; have hst2 := (((Keeps.refl 120 w).drew.alloc _).grown3 (Hown.out.drew.alloc _) (by decide) hgrow).block Hst.out; have y0 : w2.cell? ⟨qb, 0, none⟩ = some (.slice a n cap) := (by rw [cell_of_row w2 qb 0 _ 120 (0, 0) hst2]; rfl); have yf := frozen_of_row w2 qb 0 _ 120 hst2; have Hst2 := hidI hst2; have Hown2 := hidI hown2; have Hgrow := hidI hgrow; clear hst2 hown2 hgrow hat)
  · have hst3 := heap_setCell_same w2 qb 0 _ 120 (.slice (some ⟨g2, 0, none⟩) (n + 1) cap2) Hst2.out
    have u1 : (w2.setCell ⟨qb, 0, none⟩ (.slice (some ⟨g2, 0, none⟩) (n + 1) cap2)).cell? ⟨qb, 1, none⟩ = some (.int .i64 (pu : Nat)) := by rw [cell_of_row _ qb 1 _ 120 (0, 0) hst3]; rfl
    have uf := frozen_of_row _ qb 1 _ 120 hst3
    have hst4 := heap_setCell_same _ qb 1 _ 120 (.int .i64 ((pu + 1 : Nat) : Int)) hst3
    have u0 : ((w2.setCell ⟨qb, 0, none⟩ (.slice (some ⟨g2, 0, none⟩) (n + 1) cap2)).setCell ⟨qb, 1, none⟩ (.int .i64 ((pu + 1 : Nat) : Int))).cell? ⟨qb, 0, none⟩ = some (.slice (some ⟨g2, 0, none⟩) (n + 1) cap2) := by rw [cell_of_row _ qb 0 _ 120 (0, 0) hst4]; rfl
    have hqr : qb ≠ g2 := by
      intro e; subst e
      obtain ⟨_, _, hk⟩ := Lib.ownsRow_kind Hown2.out qb rfl
      rw [Hst2.out] at hk; simp at hk
    have hgv : (Value.slice (some ⟨g2, 0, none⟩) (n + 1) cap2).ownBlock ≠ some qb := by simp [Value.ownBlock]; exact fun e => hqr e.symm
    have hown4 := ownsRow_setCell_other (a := ⟨qb, 1, none⟩) (ownsRow_setCell_other (a := ⟨qb, 0, none⟩) Hown2.out hgv (.slice (some ⟨g2, 0, none⟩) (n + 1) cap2)) hgv (.int .i64 ((pu + 1 : Nat) : Int))
    have hfr := Fr.app hB Hown.out Hgrow.out
    have hfr4 : Fr B w ((w2.setCell ⟨qb, 0, none⟩ (.slice (some ⟨g2, 0, none⟩) (n + 1) cap2)).setCell ⟨qb, 1, none⟩ (.int .i64 ((pu + 1 : Nat) : Int))) := ⟨(hfr.bel.setCell (p := ⟨qb, 0, none⟩) hqB _).setCell (p := ⟨qb, 1, none⟩) hqB _, (hfr.ints.set Hst2.out (by decide)).set hst3 (by decide)⟩
    have hec : entCells es ++ [.int .i64 (wt : Nat), .int .i64 (pu : Nat), .slice (some ⟨gb, 0, none⟩) gn gc] = entCells (es ++ [⟨wt, pu, gb, gn, gc⟩]) := by rw [entCells_append]; rfl
    rw [hec] at hown4
    have hq4 := QM.make hqB hst4 (by rw [List.length_append, ← Hn.out]; rfl) hown4
    have Hcall := hidI (rise_any _ B qb (es ++ [⟨wt, pu, gb, gn, gc⟩]) (pu + 1) n (hfr4.size hB) (by rw [List.length_append, ← Hn.out]; simp; omega) (by rw [List.length_append, ← Hn.out]; simp) (by rw [Hn.out]; exact heap_snoc Hhp.out _) hq4)
    have Hfr4 := hidI hfr4
    clear hst3 hst4 hown4 hfr hfr4 hec hq4 hgv Hst2 Hown2 Hgrow Hst Hown x0 x1 x0a x1a
    rw [show ((pu + 1 : Nat) : Int) = (pu : Int) + 1 by omega] at u0 Hcall Hfr4
    go_wp2_with fail
    refine Hcall.out.mono ?_
    rintro e w5 ⟨rfl, es', hp, hh, hq, hf⟩
    go_wp2
    go_end0
    exact ⟨rfl, es', hp.trans (List.perm_append_singleton _ _), hh, hq, Hfr4.out.trans hf⟩
  · have hst3 := heap_setCell_same w2 qb 0 _ 120 (.slice (some ⟨g2, 0, none⟩) (n + 1) cap2) Hst2.out
    have u1 : (w2.setCell ⟨qb, 0, none⟩ (.slice (some ⟨g2, 0, none⟩) (n + 1) cap2)).cell? ⟨qb, 1, none⟩ = some (.int .i64 (pu : Nat)) := by rw [cell_of_row _ qb 1 _ 120 (0, 0) hst3]; rfl
    have uf := frozen_of_row _ qb 1 _ 120 hst3
    have hst4 := heap_setCell_same _ qb 1 _ 120 (.int .i64 ((pu + 1 : Nat) : Int)) hst3
    have u0 : ((w2.setCell ⟨qb, 0, none⟩ (.slice (some ⟨g2, 0, none⟩) (n + 1) cap2)).setCell ⟨qb, 1, none⟩ (.int .i64 ((pu + 1 : Nat) : Int))).cell? ⟨qb, 0, none⟩ = some (.slice (some ⟨g2, 0, none⟩) (n + 1) cap2) := by rw [cell_of_row _ qb 0 _ 120 (0, 0) hst4]; rfl
    have hqr : qb ≠ g2 := by
      intro e; subst e
      obtain ⟨_, _, hk⟩ := Lib.ownsRow_kind Hown2.out qb rfl
      rw [Hst2.out] at hk; simp at hk
    have hgv : (Value.slice (some ⟨g2, 0, none⟩) (n + 1) cap2).ownBlock ≠ some qb := by simp [Value.ownBlock]; exact fun e => hqr e.symm
    have hown4 := ownsRow_setCell_other (a := ⟨qb, 1, none⟩) (ownsRow_setCell_other (a := ⟨qb, 0, none⟩) Hown2.out hgv (.slice (some ⟨g2, 0, none⟩) (n + 1) cap2)) hgv (.int .i64 ((pu + 1 : Nat) : Int))
    have hfr := Fr.app hB Hown.out Hgrow.out
    have hfr4 : Fr B w ((w2.setCell ⟨qb, 0, none⟩ (.slice (some ⟨g2, 0, none⟩) (n + 1) cap2)).setCell ⟨qb, 1, none⟩ (.int .i64 ((pu + 1 : Nat) : Int))) := ⟨(hfr.bel.setCell (p := ⟨qb, 0, none⟩) hqB _).setCell (p := ⟨qb, 1, none⟩) hqB _, (hfr.ints.set Hst2.out (by decide)).set hst3 (by decide)⟩
    have hec : entCells es ++ [.int .i64 (wt : Nat), .int .i64 (pu : Nat), .slice (some ⟨gb, 0, none⟩) gn gc] = entCells (es ++ [⟨wt, pu, gb, gn, gc⟩]) := by rw [entCells_append]; rfl
    rw [hec] at hown4
    have hq4 := QM.make hqB hst4 (by rw [List.length_append, ← Hn.out]; rfl) hown4
    have Hcall := hidI (rise_any _ B qb (es ++ [⟨wt, pu, gb, gn, gc⟩]) (pu + 1) n (hfr4.size hB) (by rw [List.length_append, ← Hn.out]; simp; omega) (by rw [List.length_append, ← Hn.out]; simp) (by rw [Hn.out]; exact heap_snoc Hhp.out _) hq4)
    have Hfr4 := hidI hfr4
    clear hst3 hst4 hown4 hfr hfr4 hec hq4 hgv Hst2 Hown2 Hgrow Hst Hown x0 x1 x0a x1a
    rw [show ((pu + 1 : Nat) : Int) = (pu : Int) + 1 by omega] at u0 Hcall Hfr4
    go_wp2_with fail
    refine Hcall.out.mono ?_
    rintro e w5 ⟨rfl, es', hp, hh, hq, hf⟩
    go_wp2
    go_end0
    exact ⟨rfl, es', hp.trans (List.perm_append_singleton _ _), hh, hq, Hfr4.out.trans hf⟩
  · have hst3 := heap_setCell_same w2 qb 0 _ 120 (.slice (some ⟨g2, 0, none⟩) (n + 1) cap2) Hst2.out
    have u1 : (w2.setCell ⟨qb, 0, none⟩ (.slice (some ⟨g2, 0, none⟩) (n + 1) cap2)).cell? ⟨qb, 1, none⟩ = some (.int .i64 (pu : Nat)) := by rw [cell_of_row _ qb 1 _ 120 (0, 0) hst3]; rfl
    have uf := frozen_of_row _ qb 1 _ 120 hst3
    have hst4 := heap_setCell_same _ qb 1 _ 120 (.int .i64 ((pu + 1 : Nat) : Int)) hst3
    have u0 : ((w2.setCell ⟨qb, 0, none⟩ (.slice (some ⟨g2, 0, none⟩) (n + 1) cap2)).setCell ⟨qb, 1, none⟩ (.int .i64 ((pu + 1 : Nat) : Int))).cell? ⟨qb, 0, none⟩ = some (.slice (some ⟨g2, 0, none⟩) (n + 1) cap2) := by rw [cell_of_row _ qb 0 _ 120 (0, 0) hst4]; rfl
    have hqr : qb ≠ g2 := by
      intro e; subst e
      obtain ⟨_, _, hk⟩ := Lib.ownsRow_kind Hown2.out qb rfl
      rw [Hst2.out] at hk; simp at hk
    have hgv : (Value.slice (some ⟨g2, 0, none⟩) (n + 1) cap2).ownBlock ≠ some qb := by simp [Value.ownBlock]; exact fun e => hqr e.symm
    have hown4 := ownsRow_setCell_other (a := ⟨qb, 1, none⟩) (ownsRow_setCell_other (a := ⟨qb, 0, none⟩) Hown2.out hgv (.slice (some ⟨g2, 0, none⟩) (n + 1) cap2)) hgv (.int .i64 ((pu + 1 : Nat) : Int))
    have hfr := Fr.app hB Hown.out Hgrow.out
    have hfr4 : Fr B w ((w2.setCell ⟨qb, 0, none⟩ (.slice (some ⟨g2, 0, none⟩) (n + 1) cap2)).setCell ⟨qb, 1, none⟩ (.int .i64 ((pu + 1 : Nat) : Int))) := ⟨(hfr.bel.setCell (p := ⟨qb, 0, none⟩) hqB _).setCell (p := ⟨qb, 1, none⟩) hqB _, (hfr.ints.set Hst2.out (by decide)).set hst3 (by decide)⟩
    have hec : entCells es ++ [.int .i64 (wt : Nat), .int .i64 (pu : Nat), .slice (some ⟨gb, 0, none⟩) gn gc] = entCells (es ++ [⟨wt, pu, gb, gn, gc⟩]) := by rw [entCells_append]; rfl
    rw [hec] at hown4
    have hq4 := QM.make hqB hst4 (by rw [List.length_append, ← Hn.out]; rfl) hown4
    have Hcall := hidI (rise_any _ B qb (es ++ [⟨wt, pu, gb, gn, gc⟩]) (pu + 1) n (hfr4.size hB) (by rw [List.length_append, ← Hn.out]; simp; omega) (by rw [List.length_append, ← Hn.out]; simp) (by rw [Hn.out]; exact heap_snoc Hhp.out _) hq4)
    have Hfr4 := hidI hfr4
    clear hst3 hst4 hown4 hfr hfr4 hec hq4 hgv Hst2 Hown2 Hgrow Hst Hown x0 x1 x0a x1a
    rw [show ((pu + 1 : Nat) : Int) = (pu : Int) + 1 by omega] at u0 Hcall Hfr4
    go_wp2_with fail
    refine Hcall.out.mono ?_
    rintro e w5 ⟨rfl, es', hp, hh, hq, hf⟩
    go_wp2
    go_end0
    exact ⟨rfl, es', hp.trans (List.perm_append_singleton _ _), hh, hq, Hfr4.out.trans hf⟩
end Go.Proofs.Ytodmdkhdbfbfgaa
