/- Lemmas. -/
import Derived.WalkSmall
import Derived.Lib.AppendZerosOnto
import Derived.Lib.Walk
import Derived.Lib.SliceRun
import Derived.LoopN
import Derived.Shelf.SlIterI.Nil
import Derived.Shelf.SortM.Plain
import Derived.Shelf.SortM.SortNone
import Derived.Ground.GgzProg
import Derived.Ground.SlgmProg
import Derived.Maps.GroupsBeside
import Derived.Test.YtodmdkhdbfbfgaaGreatDoorM07
set_option linter.unusedVariables false
set_option linter.unusedSimpArgs false
set_option maxRecDepth 100000
set_option maxHeartbeats 8000000
namespace Go.Proofs.YtodmdkhdbfbfgaaGreatDoor.S1
open Go.RowKit Pk
def FarQ (qb:Nat) (w w':World):Prop:=∀ k,k<w.heap.size→k≠qb→(∀ n cap,w.cell? ⟨qb,0,none⟩≠some (.slice (some ⟨k,0,none⟩) n cap))→w'.heap[k]? = w.heap[k]?
theorem qj1 (w:World) (B qb:Nat) (pu:Nat) (hB:B≤w.heap.size) (h:QM w B qb [] pu) :
 Calls Tryz.prog 311 #[.pointer (some ⟨qb,0,none⟩)] w fun e w'=>e=.returned (.tuple #[.agg #[.int .i64 0,.int .i64 0,.slice none 0 0],.bool false])∧QM w' B qb [] pu∧Fr B w w'∧FarQ qb w w':=by
 obtain ⟨a,cap,x0⟩:=h.len (n:=0) rfl;have hlq:qb<w.heap.size:=World.block_lt_of_cell? w _ x0;have hne:w.heap.size≠qb:=by omega
 have Hq:=hidI h;clear h;go_enter Tryz.func311,Tryz.ntmps311
 go_wp2;have hres:Tryz.f311.results=#[.cell 2 344,.tmp 3]:=by kernel_rfl
 refine bodyPost_ret (v:=.tuple #[.agg #[.int .i64 0,.int .i64 0,.slice none 0 0],.bool false]) ?_ rfl ?_
 ·simp [results,hres,go_sem]
 refine ⟨rfl,Hq.out.of fun k hk=>Below.heap_alloc _ _ k hk,(Fr.refl B w).alloc hB _,fun k hk _ _=>Below.heap_alloc _ _ k hk⟩
theorem QM.away {w:World} {B qb:Nat} {es:List Ent} {pu r n cap R o:Nat} {x:Value} (h:QM w B qb es pu) (hst:w.heap[qb]? = some (.cells #[.slice (some ⟨r,0,none⟩) n cap,x] 341 (0,0))) (h1:R≠qb) (h2:R≠r) (v:Value) :
 QM (w.setCell ⟨R,o,none⟩ v) B qb es pu∧(w.setCell ⟨R,o,none⟩ v).heap[qb]? = some (.cells #[.slice (some ⟨r,0,none⟩) n cap,x] 341 (0,0)):=by
 have hb:=Below.heap_setCell w ⟨R,o,none⟩ v qb (fun e=>h1 e.symm);obtain ⟨v6,h3,h4⟩:=h.st;have hv:v6=.slice (some ⟨r,0,none⟩) n cap:=by
  rw [hst] at h3;simp at h3;exact h3.1.symm
 refine ⟨⟨h.hB,v6,hb.trans h3,ownsRow_setCell_other (a:=⟨R,o,none⟩) h4 ?_ v⟩,hb.trans hst⟩;rw [hv];simp [Value.ownBlock];exact fun e=>h2 e.symm
theorem Fr.setNew {B R o:Nat} {a b:World} (h:Fr B a b) (h1:B≤R) (h2:a.heap.size≤R) (v:Value):Fr B a (b.setCell ⟨R,o,none⟩ v):=
 ⟨h.bel.setCell (p:=⟨R,o,none⟩) h1 v,fun k x f e=>(Below.heap_setCell b ⟨R,o,none⟩ v k (by have:=lt_of_heap e;simp;omega)).trans (h.ints k x f e)⟩
theorem qhZ {W:World} {B r cap n:Nat} {es:List Ent} {en:Ent} (hn:n+1=es.length) (hen:en=es.getD n noEnt) (h:W.ownsRow B 344 3 (.slice (some ⟨r,0,none⟩) (n+1) cap) (n+1) (qac (es.set 0 en))) :
 W.ownsRow B 344 3 (.slice (some ⟨r,0,none⟩) n cap) n (qac (popped es)):=by
 have hp:popped es=(es.set 0 en).take n:=by
  unfold popped;rw [←hn,Nat.add_sub_cancel,hen]
 have hx:qac (es.set 0 en)=qac (popped es)++(qac (es.set 0 en)).drop (n*3):=by
  rw [hp,←qeG,List.take_append_drop]
 rw [hx] at h;refine ownsRow_pop ?_ h;rw [qdw,qbg,←hn];rfl
theorem qfG (w:World) (B qb:Nat) (es:List Ent) (e0:Ent) (pu n:Nat) (hB:B≤w.heap.size) (hn:n+1=es.length) (hn9:n≤900) (he0:e0=es.getD 0 noEnt) (hh:Pk.Heap es) (h:QM w B qb es pu) :
 Calls Tryz.prog 311 #[.pointer (some ⟨qb,0,none⟩)] w fun e w'=>e=.returned (.tuple #[.agg #[.int .i64 (e0.wt:Nat),.int .i64 (e0.tn:Nat),.slice (some ⟨e0.b,0,none⟩) e0.n e0.c],.bool true])∧∃ es',List.Perm es' (popped es)∧Pk.Heap es'∧QM w' B qb es' pu∧Fr B w w'∧FarQ qb w w':=by
 obtain ⟨r,cap,hr,hcap,hqr,hst,hown,x0,hcells,hfz⟩:=h.look hn (by omega);obtain ⟨en,hen⟩:∃ e,e=es.getD n noEnt:=⟨_,rfl⟩;obtain ⟨y1,y2,y3⟩:=hcells 0 (by omega) e0 he0;obtain ⟨z1,z2,z3⟩:=hcells n (by omega) en hen;simp only [Nat.zero_mul,Nat.zero_add] at y1 y2 y3;have f1:=hfz 0;have f2:=hfz 1;have f3:=hfz 2;have hqB:=h.hB;have hlq:=lt_of_heap hst;have hlr:=(hown.lt r rfl).2;have hne1:w.heap.size≠qb:=by omega
 have hne2:w.heap.size≠r:=by omega
 have hne3:w.heap.size+1≠qb:=by omega
 have hne4:w.heap.size+1≠r:=by omega
 have Hhh:=hidI hh;have Hen:=hidI hen;have He0:=hidI he0;have Hst:=hidI hst;have Hown:=hidI hown;have Hq:=hidI h;have Hn:=hidI hn;clear hcells hfz hst hown hen he0 hh h hn;go_enter Tryz.func311,Tryz.ntmps311
 go_wp2;have hst2:((w.alloc (.cells #[.int .i64 0,.int .i64 0,.slice none 0 0] 344)).alloc (.cells #[.int .i64 (e0.wt:Nat),.int .i64 (e0.tn:Nat),.slice (some ⟨e0.b,0,none⟩) e0.n e0.c] 344)).heap[qb]? = _:=(qaN w _ _ qb hlq).trans Hst.out;have hown2:((w.alloc (.cells #[.int .i64 0,.int .i64 0,.slice none 0 0] 344)).alloc (.cells #[.int .i64 (e0.wt:Nat),.int .i64 (e0.tn:Nat),.slice (some ⟨e0.b,0,none⟩) e0.n e0.c] 344)).ownsRow B 344 3 _ _ _:=(Hown.out.alloc _).alloc _;have Hf2:=hidI (((Fr.refl B w).alloc hB (.cells #[.int .i64 0,.int .i64 0,.slice none 0 0] 344)).alloc (by simp;omega) (.cells #[.int .i64 (e0.wt:Nat),.int .i64 (e0.tn:Nat),.slice (some ⟨e0.b,0,none⟩) e0.n e0.c] 344))
 have HR:Hid (((w.alloc (.cells #[.int .i64 0,.int .i64 0,.slice none 0 0] 344)).alloc (.cells #[.int .i64 (e0.wt:Nat),.int .i64 (e0.tn:Nat),.slice (some ⟨e0.b,0,none⟩) e0.n e0.c] 344)).heap[w.heap.size]? = some (.cells #[.int .i64 0,.int .i64 0,.slice none 0 0] 344 (0,0))):=(Below.heap_alloc _ _ _ (by simp)).trans (heap_alloc_new _ _);have HN:Hid (((w.alloc (.cells #[.int .i64 0,.int .i64 0,.slice none 0 0] 344)).alloc (.cells #[.int .i64 (e0.wt:Nat),.int .i64 (e0.tn:Nat),.slice (some ⟨e0.b,0,none⟩) e0.n e0.c] 344)).heap[w.heap.size+1]? = some (.cells #[.int .i64 (e0.wt:Nat),.int .i64 (e0.tn:Nat),.slice (some ⟨e0.b,0,none⟩) e0.n e0.c] 344 (0,0))):=by
  have:=heap_alloc_new (w.alloc (.cells #[.int .i64 0,.int .i64 0,.slice none 0 0] 344)) (.cells #[.int .i64 (e0.wt:Nat),.int .i64 (e0.tn:Nat),.slice (some ⟨e0.b,0,none⟩) e0.n e0.c] 344)
  simp only [World.size_alloc] at this;exact this
 have Hx:=hidI x0;have Hk0:Hid (∀ k,k<w.heap.size→((w.alloc (.cells #[.int .i64 0,.int .i64 0,.slice none 0 0] 344)).alloc (.cells #[.int .i64 (e0.wt:Nat),.int .i64 (e0.tn:Nat),.slice (some ⟨e0.b,0,none⟩) e0.n e0.c] 344)).heap[k]? = w.heap[k]?):=qaN w _ _;clear x0 y1 y2 y3 z1 z2 z3 f1 f2 f3 Hst Hown Hq
 generalize ((w.alloc (.cells #[.int .i64 0,.int .i64 0,.slice none 0 0] 344)).alloc (.cells #[.int .i64 (e0.wt:Nat),.int .i64 (e0.tn:Nat),.slice (some ⟨e0.b,0,none⟩) e0.n e0.c] 344))=W at *
 have hq2:QM W B qb es pu:=QM.make hqB hst2 Hn.out.symm hown2;obtain ⟨g1,g2,g3⟩:=qaA es n (by have:=Hn.out;omega);rw [←Hen.out] at g1 g2 g3;have x0:W.cell? ⟨qb,0,none⟩=some (.slice (some ⟨r,0,none⟩) (n+1) cap):=by rw [cell_of_row W qb 0 _ 341 (0,0) hst2];rfl
 have z1:W.cell? ⟨r,n*3,none⟩=some (.int .i64 (en.wt:Nat)):=by rw [hown2.cellAt (n*3) (by omega),Nat.mul_comm];exact g1
 have z2:W.cell? ⟨r,n*3+1,none⟩=some (.int .i64 (en.tn:Nat)):=by rw [hown2.cellAt (n*3+1) (by omega),Nat.mul_comm];exact g2
 have z3:W.cell? ⟨r,n*3+2,none⟩=some (.slice (some ⟨en.b,0,none⟩) en.n en.c):=by rw [hown2.cellAt (n*3+2) (by omega),Nat.mul_comm];exact g3
 obtain ⟨k1,k2,k3⟩:=qaA es 0 (by have:=Hn.out;omega);rw [←He0.out] at k1 k2 k3;have y1:W.cell? ⟨r,0,none⟩=some (.int .i64 (e0.wt:Nat)):=by rw [hown2.cellAt 0 (by omega)];exact k1
 have y2:W.cell? ⟨r,1,none⟩=some (.int .i64 (e0.tn:Nat)):=by rw [hown2.cellAt 1 (by omega)];exact k2
 have y3:W.cell? ⟨r,2,none⟩=some (.slice (some ⟨e0.b,0,none⟩) e0.n e0.c):=by rw [hown2.cellAt 2 (by omega)];exact k3
 have f1:=hown2.frozenAt 0;have f2:=hown2.frozenAt 1;have f3:=hown2.frozenAt 2;have hs1:=qbb hown2 0 en;have hfr1:Fr B w (setEnt W r 0 en):=qbo (v:=.slice none 0 0) Hf2.out hown2 0 en;have hpo:=qhZ Hn.out Hen.out hs1;have hst3:(setEnt W r 0 en).heap[qb]? = _:=(qai W r 0 en qb hqr).trans hst2;have HR3:Hid ((setEnt W r 0 en).heap[w.heap.size]? = _):=(qai W r 0 en _ hne2).trans HR.out;have HN3:Hid ((setEnt W r 0 en).heap[w.heap.size+1]? = _):=(qai W r 0 en _ hne4).trans HN.out;have HW:Hid (setEnt W r 0 en=((W.setCell ⟨r,0,none⟩ (.int .i64 (en.wt:Nat))).setCell ⟨r,1,none⟩ (.int .i64 (en.tn:Nat))).setCell ⟨r,2,none⟩ (.slice (some ⟨en.b,0,none⟩) en.n en.c)):=rfl;have Hpo:=hidI hpo;have Hst3:=hidI hst3;have Hfr1:=hidI hfr1;have hnn:¬n+1<n:=by omega
 clear hst2 hown2 hq2 g1 g2 g3 k1 k2 k3 hs1 hpo hst3 hfr1 Hf2 HR HN;go_region;rw [←HW.out];clear HW x0 y1 y2 y3 z1 z2 z3 f1 f2 f3;have Hk1:Hid (∀ k,k<w.heap.size→k≠r→(setEnt W r 0 en).drew.heap[k]? = w.heap[k]?):=fun k hk hr=>(qai W r 0 en k hr).trans (Hk0.out k hk)
 have Hst4:Hid ((setEnt W r 0 en).drew.heap[qb]? = _):=Hst3;have HR4:Hid ((setEnt W r 0 en).drew.heap[w.heap.size]? = _):=HR3;have HN4:Hid ((setEnt W r 0 en).drew.heap[w.heap.size+1]? = _):=HN3;have Hpo4:=hidI Hpo.out.drew;have Hfr4:=hidI Hfr1.out.drew;clear Hst3 HR3 HN3 Hpo Hfr1
 generalize (setEnt W r 0 en).drew=W4 at *
 have hst4:=Hst4.out;have x0:W4.cell? ⟨qb,0,none⟩=some (.slice (some ⟨r,0,none⟩) (n+1) cap):=by rw [cell_of_row W4 qb 0 _ 341 (0,0) hst4];rfl
 have xf:=frozen_of_row W4 qb 0 _ 341 hst4;have hst5:=heap_setCell_same W4 qb 0 _ 341 (.slice (some ⟨r,0,none⟩) n cap) hst4;have hgv:(Value.slice (some ⟨r,0,none⟩) n cap).ownBlock≠some qb:=by simp [Value.ownBlock];exact fun e=>hqr e.symm
 have hown5:=ownsRow_setCell_other (a:=⟨qb,0,none⟩) Hpo4.out hgv (.slice (some ⟨r,0,none⟩) n cap);have hfr5:Fr B w (W4.setCell ⟨qb,0,none⟩ (.slice (some ⟨r,0,none⟩) n cap)):=⟨Hfr4.out.bel.setCell (p:=⟨qb,0,none⟩) hqB _,Hfr4.out.ints.set hst4 (by decide)⟩;have hpl:(popped es).length=n:=by rw [qbg,←Hn.out];rfl
 have hq5:=QM.make hqB hst5 hpl hown5;have Hcall:=hidI (qkV _ B qb (popped es) pu (hfr5.size hB) (by rw [hpl];omega) (qkA Hhh.out) hq5);have HR5:Hid ((W4.setCell ⟨qb,0,none⟩ (.slice (some ⟨r,0,none⟩) n cap)).heap[w.heap.size]? = _):=(Below.heap_setCell _ _ _ _ hne1).trans HR4.out;have HN5:Hid ((W4.setCell ⟨qb,0,none⟩ (.slice (some ⟨r,0,none⟩) n cap)).heap[w.heap.size+1]? = _):=(Below.heap_setCell _ _ _ _ hne3).trans HN4.out;have x5:(W4.setCell ⟨qb,0,none⟩ (.slice (some ⟨r,0,none⟩) n cap)).cell? ⟨qb,0,none⟩=some (.slice (some ⟨r,0,none⟩) n cap):=by rw [cell_of_row _ qb 0 _ 341 (0,0) hst5];rfl
 have Hx5:=hidI x5;have Hk2:Hid (∀ k,k<w.heap.size→k≠qb→k≠r→(W4.setCell ⟨qb,0,none⟩ (.slice (some ⟨r,0,none⟩) n cap)).heap[k]? = w.heap[k]?):=fun k hk hq hr=>(Below.heap_setCell W4 ⟨qb,0,none⟩ _ k hq).trans (Hk1.out k hk hr)
 have Hst5:=hidI hst5;have Hfr5:=hidI hfr5;have hcn:n≤cap:=by omega
 clear hst4 hst5 hown5 hfr5 hq5 hpl hgv HR4 HN4 Hpo4 Hfr4 Hst4 x5 hcap;go_wp2_with fail;refine Hcall.out.mono ?_;rintro e w6 ⟨rfl,es',hp,hh,hq6,hf6⟩;have hfar:∀ k o,k≠qb→k≠r→(W4.setCell ⟨qb,0,none⟩ (.slice (some ⟨r,0,none⟩) n cap)).heap[k]? = some o→w6.heap[k]? = some o:=fun k o hk1 hk2 ho=>(hf6.far k (lt_of_heap ho) hk1 (fun a b hc=>by rw [Hx5.out] at hc;cases hc;exact hk2 rfl)).trans ho
 have hR6:=hfar _ _ hne1 hne2 HR5.out;have hN6:=hfar _ _ hne3 hne4 HN5.out;have n1:w6.cell? ⟨w.heap.size+1,0,none⟩=some (.int .i64 (e0.wt:Nat)):=by rw [cell_of_row w6 _ 0 _ 344 (0,0) hN6];rfl
 have n2:w6.cell? ⟨w.heap.size+1,1,none⟩=some (.int .i64 (e0.tn:Nat)):=by rw [cell_of_row w6 _ 1 _ 344 (0,0) hN6];rfl
 have n3:w6.cell? ⟨w.heap.size+1,2,none⟩=some (.slice (some ⟨e0.b,0,none⟩) e0.n e0.c):=by rw [cell_of_row w6 _ 2 _ 344 (0,0) hN6];rfl
 have r1:w6.cell? ⟨w.heap.size,0,none⟩=some (.int .i64 0):=by rw [cell_of_row w6 _ 0 _ 344 (0,0) hR6];rfl
 have r2:w6.cell? ⟨w.heap.size,1,none⟩=some (.int .i64 0):=by rw [cell_of_row w6 _ 1 _ 344 (0,0) hR6];rfl
 have r3:w6.cell? ⟨w.heap.size,2,none⟩=some (.slice none 0 0):=by rw [cell_of_row w6 _ 2 _ 344 (0,0) hR6];rfl
 have rf1:=frozen_of_row w6 _ 0 _ 344 hR6;have rf2:=frozen_of_row w6 _ 1 _ 344 hR6;have rf3:=frozen_of_row w6 _ 2 _ 344 hR6;have Hk6:Hid (∀ k,k<w.heap.size→k≠qb→k≠r→w6.heap[k]? = w.heap[k]?):=fun k hk hq hr=>(hf6.far k (Nat.lt_of_lt_of_le hk Hfr5.out.bel.size) hq (fun a b hc=>by rw [Hx5.out] at hc;cases hc;exact hr rfl)).trans (Hk2.out k hk hq hr)
 have Hq6:=hidI hq6;have Hst6:=hidI (hf6.own.trans Hst5.out);have Hf6:=hidI (Hfr5.out.trans hf6.fr);have Hp:=hidI hp;have Hh:=hidI hh;clear hfar hq6 hf6 hp hh hR6 hN6 x0 xf;have HsR:Hid (w.heap.size≤w.heap.size):=Nat.le_refl _
 generalize hRe:w.heap.size=R at hB hlq hlr hne1 hne2 hne3 hne4 n1 n2 n3 r1 r2 r3 rf1 rf2 rf3 ⊢
 have HRe:=hidI hRe;clear hRe;go_wp2;have hres:Tryz.f311.results=#[.cell 2 344,.tmp 3]:=by kernel_rfl
 refine bodyPost_ret (v:=.tuple #[.agg #[.int .i64 (e0.wt:Nat),.int .i64 (e0.tn:Nat),.slice (some ⟨e0.b,0,none⟩) e0.n e0.c],.bool true]) ?_ rfl ?_
 ·simp [results,hres,go_sem,r1,r2,r3]
 have a1:=Hq6.out.away (R:=R) (o:=0) Hst6.out hne1 hne2 (.int .i64 (e0.wt:Nat));have a2:=a1.1.away (R:=R) (o:=1) a1.2 hne1 hne2 (.int .i64 (e0.tn:Nat));have a3:=a2.1.away (R:=R) (o:=2) a2.2 hne1 hne2 (.slice (some ⟨e0.b,0,none⟩) e0.n e0.c);refine ⟨rfl,es',Hp.out,Hh.out,a3.1,((Hf6.out.setNew hB (by have:=HRe.out;omega) _).setNew hB (by have:=HRe.out;omega) _).setNew hB (by have:=HRe.out;omega) _,fun k hk hq hx => ?_⟩;have hkR:k≠R:=by have:=HRe.out;omega
 rw [Below.heap_setCell _ _ _ k hkR,Below.heap_setCell _ _ _ k hkR,Below.heap_setCell _ _ _ k hkR];exact Hk6.out k hk hq (fun e=>by subst e;exact hx _ _ Hx.out)
theorem Tryz.info3':(Tryz.prog.info? 3).map (fun i=>(i.zero,i.size,i.bytes))=some (some (.int .i64 0),1,8):=by kernel_rfl
theorem qmx (w:World) (b n c:Nat) (z:Nat→Int) (h0:0<n) (hn:n≤1000) (hz:∀ i,i<n→w.cell? ⟨b,i,none⟩=some (.int .i64 (z i))) :
 Calls Tryz.prog 281 #[.slice (some ⟨b,0,none⟩) n c] w fun e w'=>w'=w∧∃ m:Int,e=.returned (.int .i64 m)∧(∀ i,i<n→z i≤m)∧∃ i,i<n∧z i=m:=by
 have x0:=hz 0 h0;have hn1:¬(n:Int)<1:=by omega
 have Hz:=hidI hz;clear hz;go_enter Tryz.func281,Tryz.ntmps281
 go_wp2;clear x0
 go_loopw [4,3] (fun i m wr=>wr=w∧∃ k:Nat,∃ x:Int,i=.int .i64 (k:Nat)∧m=.int .i64 x∧1≤k∧k≤n∧Hid ((∀ j,j<k→z j≤x)∧∃ j,j<k∧z j=x)) (fun i _ _=>n - (intOf i).toNat)
 case atStart=>exact ⟨rfl,1,z 0,rfl,rfl,by omega,by omega,⟨fun j hj=>by rw [show j=0 by omega];exact Int.le_refl _,0,by omega,rfl⟩⟩
 case round =>
  obtain ⟨rfl,k,x,rfl,rfl,hk1,hk2,Hx⟩:=hrel;by_cases hlt:k<n
  ·have x1:=Hz.out k hlt;by_cases hm:x≤z k
   ·have Hx2:Hid ((∀ j,j<k+1→z j≤z k)∧∃ j,j<k+1∧z j=z k):=⟨fun j hj=>by
     by_cases e:j=k
     ·subst e;exact Int.le_refl _
     exact Int.le_trans (Hx.out.1 j (by omega)) hm,k,by omega,rfl⟩
    generalize z k=y at *
    have hmax:max x y=y:=by omega
    go_wp2;go_roundw
    case rel=>exact ⟨by trivial,k+1,y,by go_num,rfl,by omega,by omega,Hx2⟩
    case measure=>simp [intOf];omega
   have Hx2:Hid ((∀ j,j<k+1→z j≤x)∧∃ j,j<k+1∧z j=x):=⟨fun j hj=>by
    by_cases e:j=k
    ·subst e;omega
    ·exact Hx.out.1 j (by omega),by
    obtain ⟨j,hj,e⟩:=Hx.out.2;exact ⟨j,by omega,e⟩⟩
   generalize z k=y at *
   have hmax:max x y=x:=by omega
   go_wp2;go_roundw
   case rel=>exact ⟨by trivial,k+1,x,by go_num,rfl,by omega,by omega,Hx2⟩
   case measure=>simp [intOf];omega
  have hkn:k=n:=by omega
  subst hkn;go_wp2;go_ret
  exact ⟨rfl,x,rfl,Hx.out.1,Hx.out.2⟩
def intsV (l:List Nat):List Value:=l.map fun x=>.int .i64 (x:Nat)
theorem qlb (w:World) (n:Nat) (h0:0<n) (hn:n≤1000) :
 Calls Tryz.prog 332 #[.slice none 0 0,.int .i64 (n:Nat)] w fun e w'=>∃ G,e=.returned (.slice (some ⟨w.heap.size,0,none⟩) 0 G)∧w'.ownsRow w.heap.size 3 1 (.slice (some ⟨w.heap.size,0,none⟩) 0 G) 0 []∧Below w.heap.size w w':=by
 obtain ⟨i0,hi,hz0,hz1,hz2⟩:=info_parts Tryz.info3';have hold:(Builtin.firstCells i0.size 0 (.slice none 0 0)).run Tryz.prog w.drew=.ok ([]:List Value).toArray w.drew:=run_firstCells_none w.drew i0.size 0 0 0;have hr:=fun ty=>Lib.run_append_grow_zeros w 22 3 ty 3 i0 (.int .i64 0) .i64 .i64 Tryz.underlying22 Tryz.underlying3 hi hz0 none 0 0 [] hold n (by omega) (by omega) (by omega) (by omega)
  (by rw [hz2];omega) (by rw [hz2,Nat.zero_add];exact growslice_fits h0 (by omega))
 rw [Nat.zero_add] at hr;obtain ⟨G,hG⟩:∃ G,G=grownCap w n 0 3:=⟨_,rfl⟩;have hGn:n≤G:=by rw [hG];exact grownCap_ge w _ _ _
 have hGm:G≤maxLen:=by rw [hG];exact grownCap_le_maxLen w n 0 3 (by unfold maxLen;omega)
 have hG63:G≤9223372036854775807:=by unfold maxLen at hGm;omega
 rw [←hG] at hr;obtain ⟨C,hC⟩:∃ C:Array Value,C=([]:List Value).toArray++Builtin.zeroCells (Value.int IntKind.i64 0).cells n++Builtin.zeroCells (Value.int IntKind.i64 0).cells (G - n):=⟨_,rfl⟩;rw [←hC] at hr;have hCs:C.size=G:=by
  rw [hC,Array.size_append,Array.size_append,size_zeroCells,size_zeroCells]
  have:(Value.int IntKind.i64 0).cells.size=1:=rfl
  rw [this];simp;omega
 have Hown:Hid ((w.drew.alloc (.cells C 3)).ownsRow w.heap.size 3 1 (.slice (some ⟨w.heap.size,0,none⟩) 0 G) 0 []):=⟨rfl,.inr ⟨_,G,C,rfl,Nat.le_refl _,heap_alloc_new _ _,by omega,hGm,by omega,by simp⟩⟩;have Hb:Hid (Below w.heap.size w (w.drew.alloc (.cells C 3))):=(Below.refl _ w).drew.alloc (Nat.le_refl _) _;clear hC hCs hG hold;go_enter Tryz.func332,Tryz.ntmps332
 go_wp2_with (at_builtin;refine Lib.wpList_append_run _ rfl _ _ _ _ rfl _ _ rfl rfl _ _ (hr _) ?_);go_ret
 exact ⟨G,rfl,Hown.out,Hb.out⟩
theorem qeJ {w:World} {B b n c:Nat} {l:List Nat} (h:w.ownsRow B 3 1 (.slice (some ⟨b,0,none⟩) n c) n (intsV l)):∀ j u,(intsV l)[j]? = some u→w.cell? ((⟨b,0,none⟩:Addr).add j)=some u:=by
 intro j u hu;have hj:j<n:=by
  rcases Nat.lt_or_ge j n with h2 | h2
  ·exact h2
  rw [List.getElem?_eq_none (by rw [h.1];omega)] at hu;cases hu
 have hadd:(⟨b,0,none⟩:Addr).add j=⟨b,j,none⟩:=by unfold Addr.add;split<;>simp_all
 rw [hadd,h.cellAt j (by omega),hu]
theorem qcP (l:List Nat):∀ u∈intsV l,u.oneCell'=true:=by
 intro u hu;unfold intsV at hu;simp at hu;obtain ⟨x,_,rfl⟩:=hu;rfl
theorem qcQ {w w':World} {B K n:Nat} {e:TypeId} {size:Nat} {v:Value} {xs:List Value} (h:w.ownsRow B e size v n xs) (hb:Below K w w') (hK:w.heap.size≤K):w'.ownsRow B e size v n xs:=by
 refine ⟨h.1,?_⟩;rcases h.2 with h1 | ⟨g,cap,cur,h1,h2,h3,h4⟩
 ·exact .inl h1
 exact .inr ⟨g,cap,cur,h1,h2,(hb.block g (Nat.lt_of_lt_of_le (lt_of_heap h3) hK)).trans h3,h4⟩
theorem clone_ints (w:World) (b n c:Nat) (l:List Nat) (h0:0<n) (hn:n≤1000) (h:w.ownsRow 0 3 1 (.slice (some ⟨b,0,none⟩) n c) n (intsV l)) :
 Calls Tryz.prog 279 #[.slice (some ⟨b,0,none⟩) n c] w fun e w'=>∃ g cap,e=.returned (.slice (some ⟨g,0,none⟩) n cap)∧w'.ownsRow w.heap.size 3 1 (.slice (some ⟨g,0,none⟩) n cap) n (intsV l)∧Below w.heap.size w w':=by
 obtain ⟨i0,hi,hz0,hz1,hz2⟩:=info_parts Tryz.info3';have Hown:=hidI h;clear h;have q22:∀ (w:World) (a:Option Addr) (n c n' c':Nat),(binOp .eql 22 (.slice a n c) (.slice none n' c')).run Tryz.prog w=.ok (.bool a.isNone) w:=fun w a n c n' c'=>Lib.run_eql_slice_nil w _ _ a n c n' c' Tryz.underlying22
 go_enter Tryz.func279,Tryz.ntmps279
 go_wp2_with (at_builtin;refine wpList_append_lies _ rfl _ _ 22 rfl w.heap.size 3 i0 (.int .i64 0) 1 8 Tryz.underlying22 hi hz0 hz1 hz2 rfl (by decide) _ 0 [] rfl (World.ownsRow_made w #[] 0 (Nat.le_refl _) (Nat.zero_le _) rfl) ⟨b,0,none⟩ n c (intsV l) rfl ?qc1 ?qc2 ?qc3 ?qc7 ?qc4 ?qc5 ?qc6 (w.heap.size+1) ?qc8 ?_)
 case qc1=>exact Hown.out.1
 case qc2=>exact qeJ (Hown.out.alloc _)
 case qc3=>exact qcP l
 case qc4=>unfold maxLen;omega
 case qc5=>omega
 case qc6=>simp
 case qc7=>omega
 case qc8=>simp
 intro g cap w1 hown hgrow hat hlt;have Hown1:=hidI hown;have Hb:=hidI (((Below.refl _ w).alloc (Nat.le_refl _) _).grown hgrow (by simp) (by intro k hk;simp [Value.ownBlock] at hk;omega));clear hown hgrow hat
 try rw [Nat.zero_add]
 go_wp2;go_ret
 exact ⟨g,cap,rfl,Hown1.out,Hb.out⟩
theorem qhG (w:World) (sb ab an ac bb bn bc:Nat) (A B:List Nat) (ha0:0<an) (hb0:0<bn) (hn:an+bn≤1000) (hs:w.heap[sb]? = some (.cells #[.slice (some ⟨ab,0,none⟩) an ac,.slice (some ⟨bb,0,none⟩) bn bc] 22 (0,0)))
 (ha:w.ownsRow 0 3 1 (.slice (some ⟨ab,0,none⟩) an ac) an (intsV A)) (hb:w.ownsRow 0 3 1 (.slice (some ⟨bb,0,none⟩) bn bc) bn (intsV B)) :
 Calls Tryz.prog 312 #[.slice (some ⟨sb,0,none⟩) 2 2] w fun e w'=>∃ g cap,e=.returned (.slice (some ⟨g,0,none⟩) (an+bn) cap)∧w'.ownsRow w.heap.size 3 1 (.slice (some ⟨g,0,none⟩) (an+bn) cap) (an+bn) (intsV (A++B))∧Below w.heap.size w w':=by
 obtain ⟨i0,hi,hz0,hz1,hz2⟩:=info_parts Tryz.info3';have x0:w.cell? ⟨sb,0,none⟩=some (.slice (some ⟨ab,0,none⟩) an ac):=by rw [cell_of_row w sb 0 _ 22 (0,0) hs];rfl
 have x1:w.cell? ⟨sb,1,none⟩=some (.slice (some ⟨bb,0,none⟩) bn bc):=by rw [cell_of_row w sb 1 _ 22 (0,0) hs];rfl
 have Hs:=hidI hs;have Ha:=hidI ha;have Hb:=hidI hb;clear hs ha hb;go_enter Tryz.func312,Tryz.ntmps312
 go_wp2
 go_loopw [11,3] (fun i s wr=>w=wr∧((i=.int .i64 0∧s=.int .i64 0)∨(i=.int .i64 1∧s=.int .i64 (an:Nat))∨(i=.int .i64 2∧s=.int .i64 ((an:Int)+(bn:Int))))) (fun i _ _=>2 - (intOf i).toNat)
 case atStart=>exact ⟨rfl,.inl ⟨rfl,rfl⟩⟩
 case round =>
  obtain ⟨rfl,⟨rfl,rfl⟩ | ⟨rfl,rfl⟩ | ⟨rfl,rfl⟩⟩:=hrel
  ·have h1:¬(an:Int)<0:=by omega
   go_wp2;go_roundw
   case rel=>exact ⟨by trivial,.inr (.inl ⟨rfl,rfl⟩)⟩
   case measure=>simp [intOf]
  ·have h1:¬(an:Int)+(bn:Int)<0:=by omega
   go_wp2;go_roundw
   case rel=>exact ⟨by trivial,.inr (.inr ⟨rfl,rfl⟩)⟩
   case measure=>simp [intOf]
  have hgr:=hidI (qlb w (an+bn) (by omega) (by omega));rw [show ((an+bn:Nat):Int)=(an:Int)+(bn:Int) by omega] at hgr;go_wp2_with fail;refine hgr.out.mono ?_;rintro e w1 ⟨G,rfl,hown1,hbel1⟩;have Hown1:=hidI hown1;have Hbel1:=hidI hbel1;clear hown1 hbel1 hgr;go_wp2
  go_loopw [27,6] (fun i v wq=>Hid (Below w.heap.size w wq)∧((i=.int .i64 0∧∃ g c,v=.slice (some ⟨g,0,none⟩) 0 c∧Hid (wq.ownsRow w.heap.size 3 1 (.slice (some ⟨g,0,none⟩) 0 c) 0 []))∨(i=.int .i64 1∧∃ g c,v=.slice (some ⟨g,0,none⟩) an c∧Hid (wq.ownsRow w.heap.size 3 1 (.slice (some ⟨g,0,none⟩) an c) an (intsV A)))∨(i=.int .i64 2∧∃ g c,v=.slice (some ⟨g,0,none⟩) (an+bn) c∧Hid (wq.ownsRow w.heap.size 3 1 (.slice (some ⟨g,0,none⟩) (an+bn) c) (an+bn) (intsV (A++B)))))) (fun i _ _=>2 - (intOf i).toNat)
  case atStart=>exact ⟨Hbel1,.inl ⟨rfl,_,G,rfl,Hown1⟩⟩
  obtain ⟨Hbq,⟨rfl,g,cc,rfl,Hq⟩ | ⟨rfl,g,cc,rfl,Hq⟩ | ⟨rfl,g,cc,rfl,Hq⟩⟩:=hrel
  ·have hsb:=(Hbq.out.block sb (lt_of_heap Hs.out)).trans Hs.out;have y0:wr.cell? ⟨sb,0,none⟩=some (.slice (some ⟨ab,0,none⟩) an ac):=by rw [cell_of_row wr sb 0 _ 22 (0,0) hsb];rfl
   have Ha1:=hidI (qcQ Ha.out Hbq.out (Nat.le_refl _));have hszq:=Hbq.out.size;clear hsb x0 x1;go_wp2_with (at_builtin;refine wpList_append_lies _ rfl _ _ 22 rfl w.heap.size 3 i0 (.int .i64 0) 1 8 Tryz.underlying22 hi hz0 hz1 hz2 rfl (by decide) _ 0 [] rfl Hq.out ⟨ab,0,none⟩ an ac (intsV A) rfl Ha1.out.1 (qeJ Ha1.out) (qcP A) (by omega) (by unfold maxLen;omega) (by omega) (by omega) wr.heap.size rfl ?_);intro g2 cap2 w2 hown hgrow hat hlt;have Hown2:Hid (w2.ownsRow w.heap.size 3 1 (.slice (some ⟨g2,0,none⟩) an cap2) an (intsV A)):=by
    show w2.ownsRow _ _ _ _ _ _;simpa using hown
   have Hb2:=hidI (Hbq.out.grown hgrow (by omega) (fun q hq=>(Hq.out.lt q hq).1));clear hown hgrow hat y0 hlt
   try rw [Nat.zero_add]
   go_wp2;go_roundw
   case rel=>exact ⟨Hb2,.inr (.inl ⟨rfl,g2,cap2,by simp,Hown2⟩)⟩
   case measure=>simp [intOf]
  ·have hsb:=(Hbq.out.block sb (lt_of_heap Hs.out)).trans Hs.out;have y0:wr.cell? ⟨sb,1,none⟩=some (.slice (some ⟨bb,0,none⟩) bn bc):=by rw [cell_of_row wr sb 1 _ 22 (0,0) hsb];rfl
   have Hb1:=hidI (qcQ Hb.out Hbq.out (Nat.le_refl _));have hszq:=Hbq.out.size;clear hsb x0 x1;go_wp2_with (at_builtin;refine wpList_append_lies _ rfl _ _ 22 rfl w.heap.size 3 i0 (.int .i64 0) 1 8 Tryz.underlying22 hi hz0 hz1 hz2 rfl (by decide) _ an (intsV A) rfl Hq.out ⟨bb,0,none⟩ bn bc (intsV B) rfl Hb1.out.1 (qeJ Hb1.out) (qcP B) (by omega) (by unfold maxLen;omega) (by omega) (by omega) wr.heap.size rfl ?_);intro g2 cap2 w2 hown hgrow hat hlt;have Hown2:Hid (w2.ownsRow w.heap.size 3 1 (.slice (some ⟨g2,0,none⟩) (an+bn) cap2) (an+bn) (intsV (A++B))):=by
    show w2.ownsRow _ _ _ _ _ _;unfold intsV at hown ⊢;rw [List.map_append];exact hown
   have Hb2:=hidI (Hbq.out.grown hgrow (by omega) (fun q hq=>(Hq.out.lt q hq).1));clear hown hgrow hat y0 hlt;go_wp2;go_roundw
   case rel=>exact ⟨Hb2,.inr (.inr ⟨rfl,g2,cap2,rfl,Hown2⟩)⟩
   case measure=>simp [intOf]
  go_wp2;go_ret
  exact ⟨g,cc,rfl,Hq.out,Hbq.out⟩
end Go.Proofs.YtodmdkhdbfbfgaaGreatDoor.S1
namespace Go.Proofs.YtodmdkhdbfbfgaaGreatDoor.S1
open Go.RowKit Pk Go.Shelf
theorem qiY (w:World) (n:Nat) (h0:0<n) (hn:n≤100000) :
 Calls Tryz.prog 257 #[.slice none 0 0,.int .i64 (n:Nat)] w fun e w'=>∃ G,e=.returned (.slice (some ⟨w.heap.size,0,none⟩) 0 G)∧w'.ownsRow w.heap.size 88 1 (.slice (some ⟨w.heap.size,0,none⟩) 0 G) 0 []∧Below w.heap.size w w':=by
 obtain ⟨i0,hi,hz0,hz1,hz2⟩:=info_parts Tryz.info88;have hold:(Builtin.firstCells i0.size 0 (.slice none 0 0)).run Tryz.prog w.drew=.ok ([]:List Value).toArray w.drew:=run_firstCells_none w.drew i0.size 0 0 0;have hr:=fun ty=>Lib.run_append_grow_zeros w 201 3 ty 88 i0 (.int .u32 0) .i64 .i64 Tryz.underlying201 Tryz.underlying3 hi hz0 none 0 0 [] hold n (by omega) (by omega) (by omega) (by omega)
  (by rw [hz2];omega) (by rw [hz2,Nat.zero_add];exact growslice_fits h0 (by omega))
 rw [Nat.zero_add] at hr;obtain ⟨G,hG⟩:∃ G,G=grownCap w n 0 88:=⟨_,rfl⟩;have hGn:n≤G:=by rw [hG];exact grownCap_ge w _ _ _
 have hGm:G≤maxLen:=by rw [hG];exact grownCap_le_maxLen w n 0 88 (by unfold maxLen;omega)
 have hG63:G≤9223372036854775807:=by unfold maxLen at hGm;omega
 rw [←hG] at hr;obtain ⟨C,hC⟩:∃ C:Array Value,C=([]:List Value).toArray++Builtin.zeroCells (Value.int IntKind.u32 0).cells n++Builtin.zeroCells (Value.int IntKind.u32 0).cells (G - n):=⟨_,rfl⟩;rw [←hC] at hr;have hCs:C.size=G:=by
  rw [hC,Array.size_append,Array.size_append,size_zeroCells,size_zeroCells]
  have:(Value.int IntKind.u32 0).cells.size=1:=rfl
  rw [this];simp;omega
 have Hown:Hid ((w.drew.alloc (.cells C 88)).ownsRow w.heap.size 88 1 (.slice (some ⟨w.heap.size,0,none⟩) 0 G) 0 []):=⟨rfl,.inr ⟨_,G,C,rfl,Nat.le_refl _,heap_alloc_new _ _,by omega,hGm,by omega,by simp⟩⟩;have Hb:Hid (Below w.heap.size w (w.drew.alloc (.cells C 88))):=(Below.refl _ w).drew.alloc (Nat.le_refl _) _;clear hC hCs hG hold;go_enter Tryz.func257,Tryz.ntmps257
 go_wp2_with (at_builtin;refine Lib.wpList_append_run _ rfl _ _ _ _ rfl _ _ rfl rfl _ _ (hr _) ?_);go_ret
 exact ⟨G,rfl,Hown.out,Hb.out⟩
theorem qmM (w:World) (rb g k a cap1 cap2:Nat) (ys:List Nat) (hlen:ys.length=k+a) (h0:0<ys.length) (hbig:ys.length≤100000) (hr:w.heap[rb]? = some (.cells #[.slice (some ⟨g,k,none⟩) a cap1,.slice (some ⟨g,0,none⟩) k cap2] 201 (0,0)))
 (hx:∀ j,(h:j<ys.length)→w.cell? ⟨g,j,none⟩=some (encU ys[j])) (hg:g<w.heap.size) :
 Calls Tryz.prog 205 #[.slice (some ⟨rb,0,none⟩) 2 2] w fun e w'=>∃ v,e=.returned v∧w'.ownsRow w.heap.size 88 1 v ys.length ((ys.drop k++ys.take k).map encU)∧Below w.heap.size w w':=by
 obtain ⟨i0,hi,hz0,hz1,hz2⟩:=info_parts Tryz.info88;have c0:w.cell? ⟨rb,0,none⟩=some (.slice (some ⟨g,k,none⟩) a cap1):=by rw [cell_of_row w rb 0 _ 201 (0,0) hr];rfl
 have c1:w.cell? ⟨rb,1,none⟩=some (.slice (some ⟨g,0,none⟩) k cap2):=by rw [cell_of_row w rb 1 _ 201 (0,0) hr];rfl
 have hrl:=lt_of_heap hr;obtain ⟨m,hm⟩:∃ m,m=ys.length:=⟨_,rfl⟩;have em:((a:Nat):Int)+(k:Nat)=(m:Nat):=by omega
 have hm0:0<m:=by omega
 have hmb:m≤100000:=by omega
 have hma:a≤m:=by omega
 have hmk:k≤m:=by omega
 have Hx:=hidI hx;have Hm:=hidI hm;have Hlen:=hidI hlen;clear hr hx hm hlen;go_enter Tryz.func205,Tryz.ntmps205
 go_wp2;refine wp_loop_rounds 3 ?_;rw [rounds_succ];go_wp2;rw [rounds_succ];go_wp2;rw [rounds_succ];go_wp2_with fail;refine (qiY w m hm0 hmb).mono ?_;rintro e w1 ⟨G,rfl,hown,hb⟩;have d0:w1.cell? ⟨rb,0,none⟩=some (.slice (some ⟨g,k,none⟩) a cap1):=by rw [hb.cell (p:=⟨rb,0,none⟩) hrl];exact c0
 have d1:w1.cell? ⟨rb,1,none⟩=some (.slice (some ⟨g,0,none⟩) k cap2):=by rw [hb.cell (p:=⟨rb,1,none⟩) hrl];exact c1
 have Dx:Hid (∀ j,(h:j<ys.length)→w1.cell? ⟨g,j,none⟩=some (encU ys[j])):=hidI (fun j h=>by rw [hb.cell (p:=⟨g,j,none⟩) hg];exact Hx.out j h);have Hown:=hidI hown;have Hb:=hidI hb;clear hown hb c0 c1;go_wp2;refine wp_loop_rounds 3 ?_;rw [rounds_succ];go_wp2_with (at_builtin;refine wpList_append_own _ rfl _ _ 201 rfl w.heap.size 88 i0 (.int .u32 0) 1 4 Tryz.underlying201 hi hz0 hz1 hz2 rfl (by decide) _ _ _ rfl Hown.out ⟨g,k,none⟩ a cap1 ((ys.drop k).map encU) rfl ?q0 ?q1 ?q2 ?q3 ?q4 ?q5 ?_)
 case q0=>have:=Hlen.out;simp;omega
 case q1 =>
  intro j u hj;have hl:=Hlen.out;have hjl:k+j<ys.length:=by
   have:=(List.getElem?_eq_some_iff.1 hj).1
   simp at this;omega
  have:=Dx.out (k+j) hjl
  rw [List.getElem?_map,List.getElem?_drop,List.getElem?_eq_getElem hjl] at hj;simp at hj;rw [←hj,show (⟨g,k,none⟩:Addr).add j=⟨g,k+j,none⟩ by simp [Addr.add]];exact this
 case q2 =>
  intro u hu;obtain ⟨x,_,rfl⟩:=List.mem_map.1 hu;rfl
 case q3=>simp [maxLen];omega
 case q4=>(try simp);omega
 case q5=>exact Hb.out.size
 intro v2 w2 hown2 hg2 hnil2;have hb2:Below w.heap.size w w2:=Hb.out.grown hg2 Hb.out.size (fun k e=>by have:=(Hown.out.lt k e).1;omega);have f1:w2.cell? ⟨rb,1,none⟩=some (.slice (some ⟨g,0,none⟩) k cap2):=by
  rw [←d1];exact World.cell?_of_block (hg2.block rb (by have:=Hb.out.size;omega) (fun e=>by have:=(Hown.out.lt rb e.symm).1;omega))
 have Fx:Hid (∀ j,(h:j<ys.length)→w2.cell? ⟨g,j,none⟩=some (encU ys[j])):=hidI (fun j h=>by rw [hb2.cell (p:=⟨g,j,none⟩) hg];exact Hx.out j h)
 try simp only [Nat.zero_add,List.nil_append] at hown2
 have Hown2:=hidI hown2;have Hb2:=hidI hb2;clear Hown Hb hown2 hb2 hg2 d0 d1 Dx;go_wp2;rw [rounds_succ];go_wp2_with (at_builtin;refine wpList_append_own _ rfl _ _ 201 rfl w.heap.size 88 i0 (.int .u32 0) 1 4 Tryz.underlying201 hi hz0 hz1 hz2 rfl (by decide) _ _ _ rfl Hown2.out ⟨g,0,none⟩ k cap2 ((ys.take k).map encU) rfl ?q0 ?q1 ?q2 ?q3 ?q4 ?q5 ?_)
 case q0=>have:=Hlen.out;simp;omega
 case q1 =>
  intro j u hj;have hl:=Hlen.out;have hjl:j<k∧j<ys.length:=by
   have:=(List.getElem?_eq_some_iff.1 hj).1
   simp at this;omega
  have:=Fx.out j hjl.2
  rw [List.getElem?_map,List.getElem?_take_of_lt hjl.1,List.getElem?_eq_getElem hjl.2] at hj;simp at hj;rw [←hj,show (⟨g,0,none⟩:Addr).add j=⟨g,j,none⟩ by simp [Addr.add];exact fun h=>h.symm];exact this
 case q2 =>
  intro u hu;obtain ⟨x,_,rfl⟩:=List.mem_map.1 hu;rfl
 case q3=>simp [maxLen];omega
 case q4=>(try simp);omega
 case q5=>exact Hb2.out.size
 intro v3 w3 hown3 hg3 hnil3;have Hb3:Hid (Below w.heap.size w w3):=hidI (Hb2.out.grown hg3 Hb2.out.size (fun k e=>by have:=(Hown2.out.lt k e).1;omega));have Hown3:=hidI hown3;clear hown3 hg3;go_wp2;rw [rounds_succ];go_wp2;go_ret
 refine ⟨v3,rfl,?_,Hb3.out⟩
 have:=Hown3.out
 rw [List.map_append,List.map_drop,List.map_take,Hlen.out,Nat.add_comm];exact this
def gapN (n a:Nat):Nat:=(n+4294967296 - a)%4294967296
theorem qiJ {n a:Nat} (hn:n≤4294967295) (ha:a≤4294967295):IntKind.u32.wrap ((n:Int) - (a:Int))=((gapN n a:Nat):Int):=by
 unfold gapN;rw [IntKind.wrap_u32];omega
theorem qmP (n a:Nat):gapN n a≤4294967295:=by unfold gapN;omega
def scanG:List Nat→Nat→Nat→Nat→Nat→Nat
 | [],_,f,_,_=>f
 | n :: l,i,f,wd,a=>if wd<gapN n a then scanG l (i+1) i (gapN n a) n else scanG l (i+1) f wd n
def firstG (ys:List Nat):Nat:=scanG ys 0 0 0 (ys.getLastD 0)
def RndP (w:World) (xs:List Nat) (e:Ending) (w':World):Prop:=∃ (v:Value) (ys:List Nat),e=.returned v∧ys.Perm xs∧Asc ys∧w'.ownsRow w.heap.size 88 1 v ys.length ((ys.drop (firstG ys)++ys.take (firstG ys)).map encU)∧Below w.heap.size w w'
theorem roundU (w:World) (g cap:Nat) (cur:Array Value) (xs:List Nat) (hg:w.heap[g]? = some (.cells cur 88 (0,0))) (hx:cur.toList.take xs.length=xs.map encU) (hx0:xs≠[]) (hbig:xs.length≤100000) (hxr:∀ x∈xs,x≤4294967295) :
 Calls Tryz.prog 141 #[.slice (some ⟨g,0,none⟩) xs.length cap] w fun e w'=>RndP w xs e w':=by
 have hgl:=lt_of_heap hg;obtain ⟨W0,hW0⟩:∃ W0,W0=w.alloc (.cells #[.slice (some ⟨g,0,none⟩) xs.length cap] 201):=⟨_,rfl⟩;have hs0:W0.heap.size=w.heap.size+1:=by rw [hW0];simp
 have hb0:Below w.heap.size w W0:=by rw [hW0];exact (Below.refl _ w).alloc (Nat.le_refl _) _
 have hc0:W0.cell? ⟨w.heap.size,0,none⟩=some (.slice (some ⟨g,0,none⟩) xs.length cap):=by rw [hW0];simp
 have hg0:W0.heap[g]? = some (.cells cur 88 (0,0)):=(hb0.block g hgl).trans hg;have hv:SeqRow Fence.wide 1 Tryz.prog 256 #[.pointer (some ⟨w.heap.size,0,none⟩)] (fun x=>#[encU x]) xs W0.heap.size (fun k=>k<W0.heap.size) W0:=qin 1 (by omega) W0 w.heap.size g cap xs W0.heap.size _ (by omega) (by omega) (show g<W0.heap.size by omega) hbig hc0 cur hg0 hx;have B:=hidI ((callsIn_wide (n:=4)).1 (qh1 4 (by omega) 256 _ (enters_of Tryz.func256 (by kernel_rfl) rfl) xs hx0 hbig W0 W0.heap.size _ (Nat.le_refl _) (fun k hk=>hk) hv));have A:=hidI ((callsIn_wide (n:=4)).1 (qhu 4 (some ⟨g,0,none⟩) xs.length cap w));have HW0:=hidI hW0;have HB0:=hidI hb0;have Hs0:=hidI hs0;obtain ⟨xn,hxn⟩:∃ xn,xn=xs.length:=⟨_,rfl⟩;rw [←hxn] at A HW0 ⊢;have Hxn:Hid (xn=xs.length∧0<xn):=hidI ⟨hxn,by rw [hxn];exact List.length_pos_iff.2 hx0⟩;clear hv hc0 hg0 hg hW0 hb0 hs0 hxn
 go_enter Tryz.func141,Tryz.ntmps141
 go_wp2_with fail;refine A.out.mono ?_;rintro e w1 ⟨rfl,hw1⟩;rw [←HW0.out] at hw1;subst hw1;go_wp2_with fail;refine B.out.mono ?_;rintro e w2 ⟨v,ys,rfl,hperm,hasc,hrow,hb2⟩;have hlen:=hperm.length_eq;rcases hrow.2 with ⟨_,h0⟩ | ⟨g',cap',cur',rfl,hbase',hgb',hr1,hr2,hr3,hr4⟩
 ·have:=Hxn.out;omega
 obtain ⟨n,hn⟩:∃ n,n=ys.length:=⟨_,rfl⟩;have hn0:0<n:=by have:=Hxn.out;omega
 have hnb:n≤100000:=by omega
 have hncap:n≤cap':=by omega
 obtain ⟨n1,hn1⟩:∃ n1,n1=n - 1:=⟨_,rfl⟩;have en1:((n:Nat):Int) - 1=(n1:Nat):=by omega
 have hn1l:n1<n:=by omega
 obtain ⟨Y,hY⟩:∃ Y:Nat→Nat,∀ j,Y j=ys[j]! := ⟨fun j=>ys[j]!,fun _=>rfl⟩;have HC2:Hid (∀ j,(h:j<ys.length)→w2.cell? ⟨g',j,none⟩=some (encU ys[j])):=hidI (fun j h=>by
  rw [cell_of_row w2 g' j _ 88 (0,0) hgb',←Array.getElem?_toList]
  have:(cur'.toList.take (ys.length*1))[j]? = (ys.map encU)[j]? := by rw [hr4]
  rw [List.getElem?_take_of_lt (by omega)] at this;rw [this];simp [h])
 have hcy:∀ j,j<n→w2.cell? ⟨g',j,none⟩=some (.int .u32 (Y j:Nat)):=fun j h=>by rw [HC2.out j (by omega),hY,getElem!_pos ys j (by omega)];rfl
 have hYr:∀ j,j<n→Y j≤4294967295:=fun j h=>by rw [hY,getElem!_pos ys j (by omega)];exact hxr _ (hperm.mem_iff.1 (List.getElem_mem _))
 have hgl2:=lt_of_heap hgb';have HB2:Hid (Below w.heap.size w w2):=hidI (HB0.out.trans (hb2.mono (by have:=Hs0.out;omega)));have hcm:cap'≤9223372036854775807:=by unfold maxLen at hr2;omega
 have HP:=hidI hperm;have HS:=hidI hasc;have Hn:=hidI hn;have HY:=hidI hY;have Hlast:Hid (Y n1=ys.getLastD 0):=hidI (by
  have e:ys.length - 1=n1:=by omega
  have h:n1<ys.length:=by omega
  rw [hY,getElem!_pos ys n1 h,List.getLastD_eq_getLast?,List.getLast?_eq_getElem?,e,List.getElem?_eq_getElem h];rfl)
 rw [←hn];clear hrow hb2 hr4 hr3 hr2 hgb' hbase' A B hperm hasc hn hn1 hY hlen hr1;go_wp2_with fail
 go_loopg [4,5,6,21] n (fun k s4 s5 s6 s21 wr=>∃ (i f wd ah:Nat),s4=.int .i64 (f:Nat)∧s5=.int .u32 (wd:Nat)∧s6=.int .u32 (ah:Nat)∧s21=.int .i64 (i:Nat)∧i≤n∧f<n∧wd≤4294967295∧ah≤4294967295∧n - i≤k∧wr=w2∧Hid (scanG (ys.drop i) i f wd ah=firstG ys))
 case atStart=>exact ⟨0,0,0,Y n1,rfl,rfl,rfl,rfl,by omega,hn0,by omega,hYr n1 hn1l,by omega,rfl,hidI (by rw [Hlast.out];rfl)⟩
 case round =>
  obtain ⟨i,f,wd,ah,rfl,rfl,rfl,rfl,hi,hf,hwd,hah,hk,hwr,HF⟩:=hrel;have hwr':=hwr.symm;subst hwr';by_cases hlt:i<n
  ·have hlt':((i:Nat):Int)<(n:Nat):=by omega
   have hyi:=hYr i hlt;have hgap:=qiJ hyi hah;have HD:Hid (ys.drop i=Y i :: ys.drop (i+1)):=hidI (by
    have:=Hn.out
    rw [List.drop_eq_getElem_cons (by omega:i<ys.length),HY.out,getElem!_pos ys i (by omega)])
   by_cases hgt:wd<gapN (Y i) ah
   ·have hgt':((wd:Nat):Int)<(gapN (Y i) ah:Nat):=by omega
    go_wp2_with fail;go_roundg (n - (i+1))
    case measure=>omega
    case rel=>exact ⟨i+1,i,gapN (Y i) ah,Y i,rfl,rfl,rfl,by go_num,by omega,hlt,qmP _ _,hyi,by omega,rfl,hidI (by rw [←HF.out,HD.out];simp only [scanG];rw [if_pos hgt])⟩
   have hgt':¬((wd:Nat):Int)<(gapN (Y i) ah:Nat):=by omega
   go_wp2_with fail;go_roundg (n - (i+1))
   case measure=>omega
   case rel=>exact ⟨i+1,f,wd,Y i,rfl,rfl,rfl,by go_num,by omega,hf,hwd,hyi,by omega,rfl,hidI (by rw [←HF.out,HD.out];simp only [scanG];rw [if_neg hgt])⟩
  have hlt':¬((i:Nat):Int)<(n:Nat):=by omega
  have HF':Hid (f=firstG ys):=hidI (by have:=HF.out;rw [List.drop_eq_nil_of_le (by have:=Hn.out;omega)] at this;exact this);clear HF;have HF:=HF';clear HF';have hfn:f≤n:=by omega
  have hcf:¬cap'=f:=by omega
  have hfc:f≤cap':=by omega
  clear hcy hYr;go_wp2_with fail;refine wp_region_held_drew (S:=fun V=>True) (by kernel_rfl) trivial (fun hHeld => ?_);refine tk 0 ⟨some 36,.move (.tmp 3),_,_,_,none⟩ (.slice (some ⟨g',0,none⟩) n cap') rfl (fun w h=>by go_simp) hHeld ?_;simp only [zP,List.set];refine tk 1 ⟨some 37,.move (.tmp 4),_,_,_,none⟩ (.int .i64 (f:Nat)) rfl (fun w h=>by go_simp) hHeld ?_;simp only [zP,List.set];refine tk 2 ⟨some 38,.slice 201 (.tmp 36) (some (.tmp 37)) none none,_,_,_,none⟩ (.slice (some ⟨g',f,none⟩) (n - f) (cap' - f)) rfl (fun w h=>by go_simp) hHeld ?_;simp only [zP,List.set]
  refine tk 3 ⟨some 39,.move (.tmp 3),_,_,_,none⟩ (.slice (some ⟨g',0,none⟩) n cap') rfl (fun w h=>by go_simp) hHeld ?_;simp only [zP,List.set];refine tk 4 ⟨some 40,.move (.tmp 4),_,_,_,none⟩ (.int .i64 (f:Nat)) rfl (fun w h=>by go_simp) hHeld ?_;simp only [zP,List.set];refine tk 5 ⟨some 41,.slice 201 (.tmp 39) none (some (.tmp 40)) none,_,_,_,none⟩ (.slice (some ⟨g',0,none⟩) f cap') rfl (fun w h=>by go_simp) hHeld ?_;simp only [zP,List.set];refine rd 6 rfl (fun K hK => ?_);go_simp;obtain ⟨W3,hW3⟩:∃ W3,W3=(w2.alloc (.cells #[.slice (some ⟨g',f,none⟩) (n - f) (cap' - f),.slice (some ⟨g',0,none⟩) f cap'] 201)).drew:=⟨_,rfl⟩
  obtain ⟨rb,hrb⟩:∃ rb,rb=w2.heap.size:=⟨_,rfl⟩;have hr3:W3.heap[rb]? = some (.cells #[.slice (some ⟨g',f,none⟩) (n - f) (cap' - f),.slice (some ⟨g',0,none⟩) f cap'] 201 (0,0)):=by rw [hW3,hrb];exact heap_alloc_new _ _
  have hB3:Below w2.heap.size w2 W3:=by rw [hW3];exact ((Below.refl _ w2).alloc (Nat.le_refl _) _).drew
  have hx3:∀ j,(h:j<ys.length)→W3.cell? ⟨g',j,none⟩=some (encU ys[j]):=fun j h=>by rw [hB3.cell (p:=⟨g',j,none⟩) hgl2];exact HC2.out j h
  have C:=hidI (qmM W3 rb g' f (n - f) (cap' - f) cap' ys (by have:=Hn.out;omega) (by have:=Hn.out;omega) (by have:=Hn.out;omega) hr3 hx3 (Nat.lt_of_lt_of_le hgl2 hB3.size));have HB3:=hidI (HB2.out.trans (hB3.mono HB2.out.size));refine hK.out _ _ trivial (fun hHeld => ?_);rw [←hW3];simp only [←hrb];clear hK K hW3 hrb hr3 hB3 hx3;refine rd 7 rfl (fun K hK => ?_);go_simp;refine C.out.mono ?_;rintro e w4 ⟨v4,rfl,hrow4,hb4⟩;have HB4:=hidI (HB3.out.trans (hb4.mono HB3.out.size));have HR4:=hidI (ownsRow_base_a hrow4 HB3.out.size);rcases hrow4.2 with ⟨_,h0⟩ | ⟨g4,cap4,cur4,rfl,_⟩
  ·have:=Hn.out;omega
  clear hrow4 hb4;refine hK.out _ _ trivial (fun hHeld => ?_);clear hK K;refine tk 8 ⟨some 2,.assign (.tmp 43),_,_,_,none⟩ (.slice (some ⟨g4,0,none⟩) ys.length cap4) rfl (fun w h=>by go_simp) hHeld ?_;simp only [zP,List.set];refine wpAnyH_done (by kernel_rfl) ?_ _;clear hHeld;go_wp2_with fail;go_ret
  refine ⟨_,ys,rfl,HP.out,HS.out,?_,HB4.out⟩;rw [←HF.out];exact HR4.out
end Go.Proofs.YtodmdkhdbfbfgaaGreatDoor.S1
namespace Go.Proofs
open Go.RowKit Go.Maps Go.Sort Go.Shelf
shelf_lay_g SlLaysZI.n7 Ggz 7 at Tryz 140 as Tryz.keysA
shelf_lay_g SlLaysZI.n6 Ggz 6 at Tryz 139 as Tryz.sortedA
shelf_lay_g SlLaysM.n5 Slgm 5 at Tryz 201 as Tryz.sortA
theorem Tryz.sortsA (m:Nat):AnyZI.SortsIn Tryz.prog Tryz.sortedA_ren Fence.wide m:=
 ⟨fun blk off cap ss W hH hblk hsz=>callsIn_wide.2 (AnyM.slices_Sort_int Tryz.sortA blk off cap ss W hH hblk hsz),
  fun p cap W=>callsIn_wide.2 (AnyM.slices_Sort_int_none Tryz.sortA p cap W)⟩
namespace YtodmdkhdbfbfgaaGreatDoor.S1
theorem qeN (mb:Option Nat) (w:World):Calls Tryz.prog 140 #[.map mb] w fun e w'=>e=.returned (.func (.func 202) #[] #[.pointer (some ⟨w.heap.size,0,none⟩)])∧w'=w.alloc (.cells #[.map mb] 200):=
 (callsIn_wide (n:=5)).1 (AnyZI.keys_in Tryz.keysA Fence.wide 5 trivial rfl mb w)
theorem qgc {H:Type} {R:Value→Option (DataW H × List MemPlace)} (w:World) (Bm g n:Nat) (D:DataW H) (hBm:Bm<w.heap.size) (hm:w.cell? ⟨Bm,0,none⟩=some (.map (some g))) (hown:w.ownsMap Tryz.prog 3 R g n D) (hn:Maps.size D≤100000) :
 Calls Tryz.prog 139 #[.func (.func 202) #[] #[.pointer (some ⟨Bm,0,none⟩)]] w fun e w'=>∃ (v:Value) (ss:List Int),e=.returned v∧ss.Perm (intKeys D)∧w'.ownsRow w.heap.size 3 1 v ss.length ((ss.mergeSort (fun x y=>decide (x≤y))).map encZ)∧(v=.slice none 0 0↔ss=[])∧Below w.heap.size w w':=by
 have hseq:SeqGives Fence.wide 2 Tryz.prog 202 #[.pointer (some ⟨Bm,0,none⟩)] encZ (fun ss=>ss.Perm (intKeys D)) (Maps.size D) w:=
  AnyZI.keys_gives (ρ:=Tryz.keysA_ren) { Tryz.keysA with } Fence.wide _ trivial rfl (by omega) Bm g n D _ hBm hm hown
 have cS:=AnyZI.sorted_in Tryz.sortedA Fence.wide 5 trivial trivial trivial trivial rfl (by omega) (Tryz.sortsA _) (enters_of Tryz.func201 (by kernel_rfl) rfl) 202 #[.pointer (some ⟨Bm,0,none⟩)] trivial (enters_of Tryz.func202 (by kernel_rfl) rfl) _ _ (by unfold maxLen;omega) (by omega) _ hseq;change CallsIn _ _ Tryz.prog 139 _ _ _ at cS;exact (callsIn_wide (n:=5)).1 cS
end YtodmdkhdbfbfgaaGreatDoor.S1
end Go.Proofs
namespace Go.Proofs.YtodmdkhdbfbfgaaGreatDoor.S1
open Go.RowKit Pk Go.Maps Go.Sort Go.ChangeShapes
def nd:List Nat→DataW Value
 | []=>.nil
 | x :: xs=>.slice (lits .u32 ((x :: xs).map (fun x:Nat=>(x:Int)))) []
def NAt (w:World) (z g n:Nat) (N:Nat→List Nat):Prop:=∃ D:DataW Value,w.ownsGroups Tryz.prog 3 z 88 .u32 g n D∧(∀ b:Nat,b≤1000000→D.atKey (.int .i64 (b:Int)) .nil=nd (N b)∧(Maps.has D (.int .i64 (b:Int))=true↔N b≠[]))∧(∀ kl,Maps.has D kl=true→∃ b:Nat,b≤1000000∧kl=.int .i64 (b:Int))
theorem qdU {w:World} {z g n:Nat} {D:DataW Value} (h:w.ownsGroups Tryz.prog 3 z 88 .u32 g n D):w.ownsMap Tryz.prog 3 (rowElem (H:=Value) w z 88 .u32) g n D:=by
 obtain ⟨es,clock,h1,h2,h3,h4,_⟩:=h;exact ⟨es,clock,h1,h2,h3,h4⟩
theorem qlw {zs:List Int} {xs:List Nat} (h:(lits .u32 zs:List (DataW Value))=lits .u32 (xs.map (fun x:Nat=>(x:Int)))):zs=xs.map (fun x:Nat=>(x:Int)):=by
 unfold lits at h;exact (List.map_inj_right (fun a b e=>by cases e;rfl)).1 h
theorem qfC (xs:List Nat):(xs.map (fun x:Nat=>(x:Int))).map (Value.int .u32)=xs.map encU:=by simp [encU,Function.comp_def]
theorem qgq {w:World} {z:Nat} {v:Value} {xs:List Nat} (h:w.ownsRow z 88 1 v xs.length (xs.map encU)) (hx:xs≠[]):rowDatum (H:=Value) .u32 v (xs.map (fun x:Nat=>(x:Int)))=nd xs:=by
 cases xs with
 | nil=>exact absurd rfl hx
 | cons x xs =>
   rcases h.2 with ⟨_,h0⟩ | ⟨g,cap,cur,rfl,_⟩
   ·simp at h0
   rfl
theorem wf_u32 {x:Nat} (h:x≤4294967295):(Lit.int .u32 (x:Nat)).wf=true:=by simp [Lit.wf,IntKind.min,IntKind.max,IntKind.signed,IntKind.bits];omega
def NBack (w:World) (z g n b:Nat) (N:Nat→List Nat) (v:Value):Prop:=∀ (w1:World) (v':Value) (xs':List Nat),w.grownBy w1 v.ownBlock→w1.ownsRow z 88 1 v' xs'.length (xs'.map encU)→xs'≠[]→(∀ x∈xs',x≤4294967295)→xs'.length≤n+1→(v'.ownBlock=v.ownBlock∨∃ g',v'.ownBlock=some g'∧w.heap.size≤g') →
 ∃ w2,(Instr.mapUpdate 200 (.map (some g)) (.int .i64 (b:Int)) v').run Tryz.prog w1=.ok () w2∧NAt w2 z g (n+1) (fun c=>if c=b then xs' else N c)∧w1.grownBy w2 (some g)
theorem NAt.look {w:World} {z g n:Nat} {N:Nat→List Nat} (h:NAt w z g n N) {b:Nat} (hb:b≤1000000) (hn:n≤1000000) :
 ∃ v,(Instr.lookup 200 (.map (some g)) (.int .i64 (b:Int)) false).run Tryz.prog w=.ok v w∧w.ownsRow z 88 1 v (N b).length ((N b).map encU)∧(N b).length≤n∧NBack w z g n b N v:=by
 obtain ⟨D,ho,hD,hk⟩:=h;obtain ⟨v,zs,hrun,hat,hoi,hzl,hback⟩:=ho.at law3 Tryz.underlying200 (qna w) (by unfold maxLen;omega) (key3 hb);have hzs:zs=(N b).map (fun x:Nat=>(x:Int)):=by
  rw [(hD b hb).1] at hat;cases hN:N b with
  | nil =>
    rw [hN] at hat;rcases hoi.1.2 with ⟨rfl,h0⟩ | ⟨g',cap,cur,rfl,_⟩
    ·exact List.length_eq_zero_iff.1 h0
    simp [nd,rowDatum] at hat
  | cons x xs =>
    rw [hN] at hat;rcases hoi.1.2 with ⟨rfl,h0⟩ | ⟨g',cap,cur,rfl,_⟩
    ·simp [nd,rowDatum] at hat
    have hat':(DataW.slice (lits .u32 ((x :: xs).map (fun x:Nat=>(x:Int)))) []:DataW Value)=.slice (lits .u32 zs) []:=hat;exact qlw (DataW.slice.inj hat').1.symm
 have hlen:zs.length=(N b).length:=by rw [hzs];simp
 have hrow:w.ownsRow z 88 1 v (N b).length ((N b).map encU):=by
  have:=hoi.1
  rw [hlen,hzs,qfC] at this;exact this
 refine ⟨v,hrun,hrow,by omega,fun w1 v' xs' hg hown hx hr hl hloc => ?_⟩;obtain ⟨w2,h1,h2,h3⟩:=hback w1 v' (xs'.map (fun x:Nat=>(x:Int))) hg ⟨by rw [List.length_map,qfC];exact hown,fun z hz=>by obtain ⟨x,hx',rfl⟩:=List.mem_map.1 hz;exact wf_u32 (hr x hx')⟩ (by simpa using hl) hloc;refine ⟨w2,h1,⟨_,h2,fun c hc => ?_,fun kl hkl => ?_⟩,h3⟩
 ·have hM:=(qdU ho).isMap;dsimp only;by_cases e:c=b
  ·subst e;rw [Maps.atKey_put_same hM (k:=.int .i64 (c:Int)) trivial,Maps.has_put_same hM (k:=.int .i64 (c:Int)) trivial,if_pos rfl];exact ⟨qgq hown hx,by simp [hx]⟩
  rw [Maps.atKey_put_other (int_ne e),Maps.has_put_other (int_ne e),if_neg e];exact hD c hc
 by_cases e:kl=.int .i64 (b:Int)
 ·exact ⟨b,hb,e⟩
 rw [Maps.has_put_other e] at hkl;exact hk kl hkl
theorem NAt.made (w:World):NAt (w.alloc (.map #[] 0)) (w.heap.size+1) w.heap.size 0 (fun _=>[]):=⟨.map [],World.ownsGroups_made w _ _ _ _,fun b hb=>⟨rfl,by simp [Maps.has]⟩,fun kl h=>by simp [Maps.has] at h⟩
theorem below_grown {w w':World} {B:Nat} (h:Below B w w') (hB:w.heap.size≤B):w.grownBy w' none:=⟨h.os,h.tape,h.output,h.size,fun k hk _=>h.block k (by omega)⟩
theorem NAt.below {w w':World} {z g n B:Nat} {N:Nat→List Nat} (h:NAt w z g n N) (hb:Below B w w') (hB:w.heap.size≤B):NAt w' z g n N:=by
 obtain ⟨D,ho,hD,hk⟩:=h;refine ⟨D,ho.kept (below_grown hb hB) (by simp) (fun es clock _ x _ => ?_),hD,hk⟩;cases x.val.ownBlock<;>simp
def KeyP (w:World) (n:Nat) (N:Nat→List Nat) (e:Ending) (w':World):Prop:=∃ (v:Value) (ks:List Nat),e=.returned v∧Asc ks∧ks.Nodup∧(∀ b,b∈ks↔N b≠[])∧ks.length≤n∧w'.ownsRow w.heap.size 3 1 v ks.length (ks.map (fun k:Nat=>Value.int .i64 (k:Int)))∧Below w.heap.size w w'
theorem NAt.keys {w:World} {z g n Bm:Nat} {N:Nat→List Nat} (h:NAt w z g n N) (hN:∀ b,N b≠[]→b≤1000000) (hn:n≤100000) (hBm:Bm<w.heap.size) (hm:w.cell? ⟨Bm,0,none⟩=some (.map (some g))) :
 Calls Tryz.prog 139 #[.func (.func 202) #[] #[.pointer (some ⟨Bm,0,none⟩)]] w fun e w'=>KeyP w n N e w':=by
 obtain ⟨D,ho,hD,hk⟩:=h;have hM:=qdU ho;refine (qgc w Bm g n D hBm hm hM (Nat.le_trans hM.size_le hn)).mono ?_;rintro e w' ⟨v,ss,rfl,hperm,hrow,-,hb⟩;obtain ⟨es,hDe,hpw,_⟩:=hM.entries law3;obtain ⟨es',hD',hko⟩:=hM.keysOf;obtain rfl:es=es':=by rw [hDe] at hD';simpa using hD'
 have hhas:∀ x:Int,Maps.has D (.int .i64 x)=true↔x∈intKeys D:=fun x=>by
  rw [hDe,Maps.has_eq,List.any_eq_true];show _↔x∈es.map fun p=>Go.intOf p.1
  rw [List.mem_map]
  constructor
  ·rintro ⟨p,hp,hs⟩;obtain ⟨v,hv⟩:=hko p hp;obtain ⟨y,_,hy,_⟩:=Maps.keyOf_i64 Tryz.underlying3 hv;rw [hy] at hs;exact ⟨p,hp,by rw [hy];simpa [Lit.sameKey,Go.intOf] using hs⟩
  rintro ⟨p,hp,rfl⟩;obtain ⟨v,hv⟩:=hko p hp;obtain ⟨y,_,hy,_⟩:=Maps.keyOf_i64 Tryz.underlying3 hv;exact ⟨p,hp,by rw [hy];simp [Lit.sameKey,Go.intOf]⟩
 have hnd:(intKeys D).Nodup:=by
  rw [hDe];show (es.map fun p=>Go.intOf p.1).Nodup;refine List.pairwise_map.2 (hpw.imp_of_mem fun {p q} hp hq hne e=>hne ?_);obtain ⟨v,hv⟩:=hko p hp;obtain ⟨u,hu⟩:=hko q hq;obtain ⟨x,_,hx,_⟩:=Maps.keyOf_i64 Tryz.underlying3 hv;obtain ⟨y,_,hy,_⟩:=Maps.keyOf_i64 Tryz.underlying3 hu;rw [hx,hy] at e ⊢;exact congrArg _ e
 have hnat:∀ x∈intKeys D,∃ b:Nat,b≤1000000∧x=(b:Int):=fun x hx=>by
  obtain ⟨b,hb,e⟩:=hk _ ((hhas x).2 hx);exact ⟨b,hb,by cases e;rfl⟩
 obtain ⟨S,hS⟩:∃ S,S=ss.mergeSort (fun x y=>decide (x≤y)):=⟨_,rfl⟩;have hSp:S.Perm (intKeys D):=by rw [hS];exact (List.mergeSort_perm _ _).trans hperm
 have hSs:S.Pairwise (fun a b=>a≤b):=by
  have:=List.pairwise_mergeSort (le:=fun x y:Int=>decide (x≤y)) (fun a b c h1 h2=>by simp only [decide_eq_true_eq] at *;omega) (fun a b=>by simp;omega) ss
  rw [←hS] at this;exact this.imp (fun h=>by simpa using h)
 have hSn:∀ x∈S,∃ b:Nat,b≤1000000∧x=(b:Int):=fun x hx=>hnat x (hSp.mem_iff.1 hx)
 have hSc:S=(S.map Int.toNat).map (fun k:Nat=>(k:Int)):=by
  rw [List.map_map]
  conv=>lhs;rw [←List.map_id S]
  refine List.map_congr_left (fun x hx => ?_);obtain ⟨b,_,rfl⟩:=hSn x hx;simp
 refine ⟨v,S.map Int.toNat,rfl,?_,?_,fun b => ?_,?_,?_,hb⟩
 ·refine List.pairwise_map.2 (hSs.imp_of_mem fun {x y} hx hy h => ?_);obtain ⟨b,_,rfl⟩:=hSn x hx;obtain ⟨c,_,rfl⟩:=hSn y hy;simpa using h
 ·refine List.pairwise_map.2 ((hSp.symm.nodup hnd).imp_of_mem fun {x y} hx hy h e=>h ?_);obtain ⟨b,_,rfl⟩:=hSn x hx;obtain ⟨c,_,rfl⟩:=hSn y hy
  have:b=c:=by simpa using e
  rw [this]
 ·constructor
  ·intro hb';obtain ⟨x,hx,rfl⟩:=List.mem_map.1 hb';obtain ⟨c,hc,rfl⟩:=hSn x hx;exact (hD c hc).2.1 ((hhas _).2 (hSp.mem_iff.1 hx))
  intro hb'
  have:=(hhas _).1 ((hD b (hN b hb')).2.2 hb')
  exact List.mem_map.2 ⟨(b:Int),hSp.mem_iff.2 this,by simp⟩
 ·have h1:=hM.size_le;have h2:=hSp.length_eq;rw [hDe] at h1 h2;have h3:(intKeys (DataW.map es)).length=es.length:=by show (es.map _).length=_;simp
  rw [List.length_map,h2,h3];exact h1
 have hl:ss.length=(S.map Int.toNat).length:=by rw [List.length_map,hS];exact (List.length_mergeSort _).symm
 rw [←hS,hl] at hrow
 have:S.map encZ=(S.map Int.toNat).map (fun k:Nat=>Value.int .i64 (k:Int)):=by
  conv=>lhs;rw [hSc]
  rw [List.map_map];rfl
 rw [this] at hrow;exact hrow
end Go.Proofs.YtodmdkhdbfbfgaaGreatDoor.S1
