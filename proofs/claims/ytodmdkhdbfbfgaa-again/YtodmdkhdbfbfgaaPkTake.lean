/- What the queue of package pack does: take. -/
import Derived.Test.YtodmdkhdbfbfgaaPkPutQ
import Derived.WalkSmall
namespace Go.Proofs.Ytodmdkhdbfbfgaa
open Go.RowKit Pk
set_option linter.unusedVariables false
set_option linter.unusedSimpArgs false

/-- All blocks but the queue's own two are as they were. -/
def FarQ (qb : Nat) (w w' : World) : Prop := ∀ k, k < w.heap.size → k ≠ qb → (∀ n cap, w.cell? ⟨qb, 0, none⟩ ≠ some (.slice (some ⟨k, 0, none⟩) n cap)) → w'.heap[k]? = w.heap[k]?

set_option maxRecDepth 100000 in
set_option maxHeartbeats 4000000 in
theorem take_none (w : World) (B qb : Nat) (pu : Nat) (hB : B ≤ w.heap.size) (h : QM w B qb [] pu) :
    Calls Try.prog 91 #[.pointer (some ⟨qb, 0, none⟩)] w fun e w' => e = .returned (.tuple #[.agg #[.int .i64 0, .int .i64 0, .slice none 0 0], .bool false]) ∧ QM w' B qb [] pu ∧ Fr B w w' ∧ FarQ qb w w' := by
  obtain ⟨a, cap, x0⟩ := h.len (n := 0) rfl
  have hlq : qb < w.heap.size := World.block_lt_of_cell? w _ x0
  have hne : w.heap.size ≠ qb := by omega
  have Hq := hidI h
  clear h
  go_enter Try.func91, Try.ntmps91
  go_wp2
  have hres : Try.f91.results = #[.cell 2 123, .tmp 3] := by kernel_rfl
  refine bodyPost_ret (v := .tuple #[.agg #[.int .i64 0, .int .i64 0, .slice none 0 0], .bool false]) ?_ rfl ?_
  · simp [results, hres, go_sem]
  · refine ⟨rfl, Hq.out.of fun k hk => Below.heap_alloc _ _ k hk, (Fr.refl B w).alloc hB _, fun k hk _ _ => Below.heap_alloc _ _ k hk⟩

theorem QM.away {w : World} {B qb : Nat} {es : List Ent} {pu r n cap R o : Nat} {x : Value} (h : QM w B qb es pu) (hst : w.heap[qb]? = some (.cells #[.slice (some ⟨r, 0, none⟩) n cap, x] 120 (0, 0))) (h1 : R ≠ qb) (h2 : R ≠ r) (v : Value) :
    QM (w.setCell ⟨R, o, none⟩ v) B qb es pu ∧ (w.setCell ⟨R, o, none⟩ v).heap[qb]? = some (.cells #[.slice (some ⟨r, 0, none⟩) n cap, x] 120 (0, 0)) := by
  have hb := Below.heap_setCell w ⟨R, o, none⟩ v qb (fun e => h1 e.symm)
  obtain ⟨v6, h3, h4⟩ := h.st
  have hv : v6 = .slice (some ⟨r, 0, none⟩) n cap := by
    rw [hst] at h3
    simp at h3
    exact h3.1.symm
  refine ⟨⟨h.hB, v6, hb.trans h3, ownsRow_setCell_other (a := ⟨R, o, none⟩) h4 ?_ v⟩, hb.trans hst⟩
  rw [hv]
  simp [Value.ownBlock]
  exact fun e => h2 e.symm
theorem Fr.setNew {B R o : Nat} {a b : World} (h : Fr B a b) (h1 : B ≤ R) (h2 : a.heap.size ≤ R) (v : Value) : Fr B a (b.setCell ⟨R, o, none⟩ v) :=
  ⟨h.bel.setCell (p := ⟨R, o, none⟩) h1 v, fun k x f e => (Below.heap_setCell b ⟨R, o, none⟩ v k (by have := lt_of_heap e; simp; omega)).trans (h.ints k x f e)⟩

theorem popped_own {W : World} {B r cap n : Nat} {es : List Ent} {en : Ent} (hn : n + 1 = es.length) (hen : en = es.getD n noEnt) (h : W.ownsRow B 123 3 (.slice (some ⟨r, 0, none⟩) (n + 1) cap) (n + 1) (entCells (es.set 0 en))) :
    W.ownsRow B 123 3 (.slice (some ⟨r, 0, none⟩) n cap) n (entCells (popped es)) := by
  have hp : popped es = (es.set 0 en).take n := by
    unfold popped
    rw [← hn, Nat.add_sub_cancel, hen]
  have hx : entCells (es.set 0 en) = entCells (popped es) ++ (entCells (es.set 0 en)).drop (n * 3) := by
    rw [hp, ← entCells_take, List.take_append_drop]
  rw [hx] at h
  refine ownsRow_pop ?_ h
  rw [entCells_length, popped_length, ← hn]; rfl

set_option maxRecDepth 100000 in
set_option maxHeartbeats 4000000 in
theorem take_some (w : World) (B qb : Nat) (es : List Ent) (e0 : Ent) (pu n : Nat) (hB : B ≤ w.heap.size) (hn : n + 1 = es.length) (hn9 : n ≤ 900) (he0 : e0 = es.getD 0 noEnt) (hh : Pk.Heap es) (h : QM w B qb es pu) :
    Calls Try.prog 91 #[.pointer (some ⟨qb, 0, none⟩)] w fun e w' => e = .returned (.tuple #[.agg #[.int .i64 (e0.wt : Nat), .int .i64 (e0.tn : Nat), .slice (some ⟨e0.b, 0, none⟩) e0.n e0.c], .bool true]) ∧ ∃ es', List.Perm es' (popped es) ∧ Pk.Heap es' ∧ QM w' B qb es' pu ∧ Fr B w w' ∧ FarQ qb w w' := by
  obtain ⟨r, cap, hr, hcap, hqr, hst, hown, x0, hcells, hfz⟩ := h.look hn (by omega)
  obtain ⟨en, hen⟩ : ∃ e, e = es.getD n noEnt := ⟨_, rfl⟩
  obtain ⟨y1, y2, y3⟩ := hcells 0 (by omega) e0 he0
  obtain ⟨z1, z2, z3⟩ := hcells n (by omega) en hen
  simp only [Nat.zero_mul, Nat.zero_add] at y1 y2 y3
  have f1 := hfz 0
  have f2 := hfz 1
  have f3 := hfz 2
  have hqB := h.hB
  have hlq := lt_of_heap hst
  have hlr := (hown.lt r rfl).2
  have hne1 : w.heap.size ≠ qb := by omega
  have hne2 : w.heap.size ≠ r := by omega
  have hne3 : w.heap.size + 1 ≠ qb := by omega
  have hne4 : w.heap.size + 1 ≠ r := by omega
  have Hhh := hidI hh
  have Hen := hidI hen
  have He0 := hidI he0
  have Hst := hidI hst
  have Hown := hidI hown
  have Hq := hidI h
  have Hn := hidI hn
  clear hcells hfz hst hown hen he0 hh h hn
  go_enter Try.func91, Try.ntmps91
  go_wp2
  have hst2 : ((w.alloc (.cells #[.int .i64 0, .int .i64 0, .slice none 0 0] 123)).alloc (.cells #[.int .i64 (e0.wt : Nat), .int .i64 (e0.tn : Nat), .slice (some ⟨e0.b, 0, none⟩) e0.n e0.c] 123)).heap[qb]? = _ := (alloc2_keep w _ _ qb hlq).trans Hst.out
  have hown2 : ((w.alloc (.cells #[.int .i64 0, .int .i64 0, .slice none 0 0] 123)).alloc (.cells #[.int .i64 (e0.wt : Nat), .int .i64 (e0.tn : Nat), .slice (some ⟨e0.b, 0, none⟩) e0.n e0.c] 123)).ownsRow B 123 3 _ _ _ := (Hown.out.alloc _).alloc _
  have Hf2 := hidI (((Fr.refl B w).alloc hB (.cells #[.int .i64 0, .int .i64 0, .slice none 0 0] 123)).alloc (by simp; omega) (.cells #[.int .i64 (e0.wt : Nat), .int .i64 (e0.tn : Nat), .slice (some ⟨e0.b, 0, none⟩) e0.n e0.c] 123))
  have HR : Hid (((w.alloc (.cells #[.int .i64 0, .int .i64 0, .slice none 0 0] 123)).alloc (.cells #[.int .i64 (e0.wt : Nat), .int .i64 (e0.tn : Nat), .slice (some ⟨e0.b, 0, none⟩) e0.n e0.c] 123)).heap[w.heap.size]? = some (.cells #[.int .i64 0, .int .i64 0, .slice none 0 0] 123 (0, 0))) := (Below.heap_alloc _ _ _ (by simp)).trans (heap_alloc_new _ _)
  have HN : Hid (((w.alloc (.cells #[.int .i64 0, .int .i64 0, .slice none 0 0] 123)).alloc (.cells #[.int .i64 (e0.wt : Nat), .int .i64 (e0.tn : Nat), .slice (some ⟨e0.b, 0, none⟩) e0.n e0.c] 123)).heap[w.heap.size + 1]? = some (.cells #[.int .i64 (e0.wt : Nat), .int .i64 (e0.tn : Nat), .slice (some ⟨e0.b, 0, none⟩) e0.n e0.c] 123 (0, 0))) := by
    have := heap_alloc_new (w.alloc (.cells #[.int .i64 0, .int .i64 0, .slice none 0 0] 123)) (.cells #[.int .i64 (e0.wt : Nat), .int .i64 (e0.tn : Nat), .slice (some ⟨e0.b, 0, none⟩) e0.n e0.c] 123)
    simp only [World.size_alloc] at this
    exact this
  have Hx := hidI x0
  have Hk0 : Hid (∀ k, k < w.heap.size → ((w.alloc (.cells #[.int .i64 0, .int .i64 0, .slice none 0 0] 123)).alloc (.cells #[.int .i64 (e0.wt : Nat), .int .i64 (e0.tn : Nat), .slice (some ⟨e0.b, 0, none⟩) e0.n e0.c] 123)).heap[k]? = w.heap[k]?) := alloc2_keep w _ _
  clear x0 y1 y2 y3 z1 z2 z3 f1 f2 f3 Hst Hown Hq
  generalize ((w.alloc (.cells #[.int .i64 0, .int .i64 0, .slice none 0 0] 123)).alloc (.cells #[.int .i64 (e0.wt : Nat), .int .i64 (e0.tn : Nat), .slice (some ⟨e0.b, 0, none⟩) e0.n e0.c] 123)) = W at *
  have hq2 : QM W B qb es pu := QM.make hqB hst2 Hn.out.symm hown2
  obtain ⟨g1, g2, g3⟩ := entCells_get es n (by have := Hn.out; omega)
  rw [← Hen.out] at g1 g2 g3
  have x0 : W.cell? ⟨qb, 0, none⟩ = some (.slice (some ⟨r, 0, none⟩) (n + 1) cap) := by rw [cell_of_row W qb 0 _ 120 (0, 0) hst2]; rfl
  have z1 : W.cell? ⟨r, n * 3, none⟩ = some (.int .i64 (en.wt : Nat)) := by rw [hown2.cellAt (n * 3) (by omega), Nat.mul_comm]; exact g1
  have z2 : W.cell? ⟨r, n * 3 + 1, none⟩ = some (.int .i64 (en.tn : Nat)) := by rw [hown2.cellAt (n * 3 + 1) (by omega), Nat.mul_comm]; exact g2
  have z3 : W.cell? ⟨r, n * 3 + 2, none⟩ = some (.slice (some ⟨en.b, 0, none⟩) en.n en.c) := by rw [hown2.cellAt (n * 3 + 2) (by omega), Nat.mul_comm]; exact g3
  obtain ⟨k1, k2, k3⟩ := entCells_get es 0 (by have := Hn.out; omega)
  rw [← He0.out] at k1 k2 k3
  have y1 : W.cell? ⟨r, 0, none⟩ = some (.int .i64 (e0.wt : Nat)) := by rw [hown2.cellAt 0 (by omega)]; exact k1
  have y2 : W.cell? ⟨r, 1, none⟩ = some (.int .i64 (e0.tn : Nat)) := by rw [hown2.cellAt 1 (by omega)]; exact k2
  have y3 : W.cell? ⟨r, 2, none⟩ = some (.slice (some ⟨e0.b, 0, none⟩) e0.n e0.c) := by rw [hown2.cellAt 2 (by omega)]; exact k3
  have f1 := hown2.frozenAt 0
  have f2 := hown2.frozenAt 1
  have f3 := hown2.frozenAt 2
  have hs1 := setEnt_own hown2 0 en
  have hfr1 : Fr B w (setEnt W r 0 en) := setEnt_fr (v := .slice none 0 0) Hf2.out hown2 0 en
  have hpo := popped_own Hn.out Hen.out hs1
  have hst3 : (setEnt W r 0 en).heap[qb]? = _ := (setEnt_block W r 0 en qb hqr).trans hst2
  have HR3 : Hid ((setEnt W r 0 en).heap[w.heap.size]? = _) := (setEnt_block W r 0 en _ hne2).trans HR.out
  have HN3 : Hid ((setEnt W r 0 en).heap[w.heap.size + 1]? = _) := (setEnt_block W r 0 en _ hne4).trans HN.out
  have HW : Hid (setEnt W r 0 en = ((W.setCell ⟨r, 0, none⟩ (.int .i64 (en.wt : Nat))).setCell ⟨r, 1, none⟩ (.int .i64 (en.tn : Nat))).setCell ⟨r, 2, none⟩ (.slice (some ⟨en.b, 0, none⟩) en.n en.c)) := rfl
  have Hpo := hidI hpo
  have Hst3 := hidI hst3
  have Hfr1 := hidI hfr1
  have hnn : ¬ n + 1 < n := by omega
  clear hst2 hown2 hq2 g1 g2 g3 k1 k2 k3 hs1 hpo hst3 hfr1 Hf2 HR HN
  go_region
  rw [← HW.out]
  clear HW x0 y1 y2 y3 z1 z2 z3 f1 f2 f3
  have Hk1 : Hid (∀ k, k < w.heap.size → k ≠ r → (setEnt W r 0 en).drew.heap[k]? = w.heap[k]?) := fun k hk hr => (setEnt_block W r 0 en k hr).trans (Hk0.out k hk)
  have Hst4 : Hid ((setEnt W r 0 en).drew.heap[qb]? = _) := Hst3
  have HR4 : Hid ((setEnt W r 0 en).drew.heap[w.heap.size]? = _) := HR3
  have HN4 : Hid ((setEnt W r 0 en).drew.heap[w.heap.size + 1]? = _) := HN3
  have Hpo4 := hidI Hpo.out.drew
  have Hfr4 := hidI Hfr1.out.drew
  clear Hst3 HR3 HN3 Hpo Hfr1
  generalize (setEnt W r 0 en).drew = W4 at *
  have hst4 := Hst4.out
  have x0 : W4.cell? ⟨qb, 0, none⟩ = some (.slice (some ⟨r, 0, none⟩) (n + 1) cap) := by rw [cell_of_row W4 qb 0 _ 120 (0, 0) hst4]; rfl
  have xf := frozen_of_row W4 qb 0 _ 120 hst4
  have hst5 := heap_setCell_same W4 qb 0 _ 120 (.slice (some ⟨r, 0, none⟩) n cap) hst4
  have hgv : (Value.slice (some ⟨r, 0, none⟩) n cap).ownBlock ≠ some qb := by simp [Value.ownBlock]; exact fun e => hqr e.symm
  have hown5 := ownsRow_setCell_other (a := ⟨qb, 0, none⟩) Hpo4.out hgv (.slice (some ⟨r, 0, none⟩) n cap)
  have hfr5 : Fr B w (W4.setCell ⟨qb, 0, none⟩ (.slice (some ⟨r, 0, none⟩) n cap)) := ⟨Hfr4.out.bel.setCell (p := ⟨qb, 0, none⟩) hqB _, Hfr4.out.ints.set hst4 (by decide)⟩
  have hpl : (popped es).length = n := by rw [popped_length, ← Hn.out]; rfl
  have hq5 := QM.make hqB hst5 hpl hown5
  have Hcall := hidI (sink_any _ B qb (popped es) pu (hfr5.size hB) (by rw [hpl]; omega) (popped_si Hhh.out) hq5)
  have HR5 : Hid ((W4.setCell ⟨qb, 0, none⟩ (.slice (some ⟨r, 0, none⟩) n cap)).heap[w.heap.size]? = _) := (Below.heap_setCell _ _ _ _ hne1).trans HR4.out
  have HN5 : Hid ((W4.setCell ⟨qb, 0, none⟩ (.slice (some ⟨r, 0, none⟩) n cap)).heap[w.heap.size + 1]? = _) := (Below.heap_setCell _ _ _ _ hne3).trans HN4.out
  have x5 : (W4.setCell ⟨qb, 0, none⟩ (.slice (some ⟨r, 0, none⟩) n cap)).cell? ⟨qb, 0, none⟩ = some (.slice (some ⟨r, 0, none⟩) n cap) := by rw [cell_of_row _ qb 0 _ 120 (0, 0) hst5]; rfl
  have Hx5 := hidI x5
  have Hk2 : Hid (∀ k, k < w.heap.size → k ≠ qb → k ≠ r → (W4.setCell ⟨qb, 0, none⟩ (.slice (some ⟨r, 0, none⟩) n cap)).heap[k]? = w.heap[k]?) := fun k hk hq hr => (Below.heap_setCell W4 ⟨qb, 0, none⟩ _ k hq).trans (Hk1.out k hk hr)
  have Hst5 := hidI hst5
  have Hfr5 := hidI hfr5
  have hcn : n ≤ cap := by omega
  clear hst4 hst5 hown5 hfr5 hq5 hpl hgv HR4 HN4 Hpo4 Hfr4 Hst4 x5 hcap
  go_wp2_with fail
  refine Hcall.out.mono ?_
  rintro e w6 ⟨rfl, es', hp, hh, hq6, hf6⟩
  have hfar : ∀ k o, k ≠ qb → k ≠ r → (W4.setCell ⟨qb, 0, none⟩ (.slice (some ⟨r, 0, none⟩) n cap)).heap[k]? = some o → w6.heap[k]? = some o := fun k o hk1 hk2 ho => (hf6.far k (lt_of_heap ho) hk1 (fun a b hc => by rw [Hx5.out] at hc; cases hc; exact hk2 rfl)).trans ho
  have hR6 := hfar _ _ hne1 hne2 HR5.out
  have hN6 := hfar _ _ hne3 hne4 HN5.out
  have n1 : w6.cell? ⟨w.heap.size + 1, 0, none⟩ = some (.int .i64 (e0.wt : Nat)) := by rw [cell_of_row w6 _ 0 _ 123 (0, 0) hN6]; rfl
  have n2 : w6.cell? ⟨w.heap.size + 1, 1, none⟩ = some (.int .i64 (e0.tn : Nat)) := by rw [cell_of_row w6 _ 1 _ 123 (0, 0) hN6]; rfl
  have n3 : w6.cell? ⟨w.heap.size + 1, 2, none⟩ = some (.slice (some ⟨e0.b, 0, none⟩) e0.n e0.c) := by rw [cell_of_row w6 _ 2 _ 123 (0, 0) hN6]; rfl
  have r1 : w6.cell? ⟨w.heap.size, 0, none⟩ = some (.int .i64 0) := by rw [cell_of_row w6 _ 0 _ 123 (0, 0) hR6]; rfl
  have r2 : w6.cell? ⟨w.heap.size, 1, none⟩ = some (.int .i64 0) := by rw [cell_of_row w6 _ 1 _ 123 (0, 0) hR6]; rfl
  have r3 : w6.cell? ⟨w.heap.size, 2, none⟩ = some (.slice none 0 0) := by rw [cell_of_row w6 _ 2 _ 123 (0, 0) hR6]; rfl
  have rf1 := frozen_of_row w6 _ 0 _ 123 hR6
  have rf2 := frozen_of_row w6 _ 1 _ 123 hR6
  have rf3 := frozen_of_row w6 _ 2 _ 123 hR6
  have Hk6 : Hid (∀ k, k < w.heap.size → k ≠ qb → k ≠ r → w6.heap[k]? = w.heap[k]?) := fun k hk hq hr => (hf6.far k (Nat.lt_of_lt_of_le hk Hfr5.out.bel.size) hq (fun a b hc => by rw [Hx5.out] at hc; cases hc; exact hr rfl)).trans (Hk2.out k hk hq hr)
  have Hq6 := hidI hq6
  have Hst6 := hidI (hf6.own.trans Hst5.out)
  have Hf6 := hidI (Hfr5.out.trans hf6.fr)
  have Hp := hidI hp
  have Hh := hidI hh
  clear hfar hq6 hf6 hp hh hR6 hN6 x0 xf
  have HsR : Hid (w.heap.size ≤ w.heap.size) := Nat.le_refl _
  generalize hRe : w.heap.size = R at hB hlq hlr hne1 hne2 hne3 hne4 n1 n2 n3 r1 r2 r3 rf1 rf2 rf3 ⊢
  have HRe := hidI hRe
  clear hRe
  go_wp2
  have hres : Try.f91.results = #[.cell 2 123, .tmp 3] := by kernel_rfl
  refine bodyPost_ret (v := .tuple #[.agg #[.int .i64 (e0.wt : Nat), .int .i64 (e0.tn : Nat), .slice (some ⟨e0.b, 0, none⟩) e0.n e0.c], .bool true]) ?_ rfl ?_
  · simp [results, hres, go_sem, r1, r2, r3]
  · have a1 := Hq6.out.away (R := R) (o := 0) Hst6.out hne1 hne2 (.int .i64 (e0.wt : Nat))
    have a2 := a1.1.away (R := R) (o := 1) a1.2 hne1 hne2 (.int .i64 (e0.tn : Nat))
    have a3 := a2.1.away (R := R) (o := 2) a2.2 hne1 hne2 (.slice (some ⟨e0.b, 0, none⟩) e0.n e0.c)
    refine ⟨rfl, es', Hp.out, Hh.out, a3.1, ((Hf6.out.setNew hB (by have := HRe.out; omega) _).setNew hB (by have := HRe.out; omega) _).setNew hB (by have := HRe.out; omega) _, fun k hk hq hx => ?_⟩
    have hkR : k ≠ R := by have := HRe.out; omega
    rw [Below.heap_setCell _ _ _ k hkR, Below.heap_setCell _ _ _ k hkR, Below.heap_setCell _ _ _ k hkR]
    exact Hk6.out k hk hq (fun e => by subst e; exact hx _ _ Hx.out)
end Go.Proofs.Ytodmdkhdbfbfgaa
