/- Lemmas. -/
import Derived.Test.YtodmdkhdbfbfgabGreatDoorM29
set_option linter.unusedVariables false
set_option linter.unusedSimpArgs false
set_option maxRecDepth 100000
set_option maxHeartbeats 8000000
namespace Go.Proofs.YtodmdkhdbfbfgabGreatDoor.S1
open Go.RowKit Pk
theorem QM.look {w:World} {B qb:Nat} {xs:List Ent} {pu n:Nat} (h:QM w B qb xs pu) (hn:n=xs.length) (h0:0<n):∃ r cap,B≤r∧n≤cap∧qb≠r∧w.heap[qb]? = some (.cells #[.slice (some ⟨r,0,none⟩) n cap,.int .i64 (pu:Nat)] 291 (0,0)) ∧
 w.ownsRow B 294 3 (.slice (some ⟨r,0,none⟩) n cap) n (qad xs)∧w.cell? ⟨qb,0,none⟩=some (.slice (some ⟨r,0,none⟩) n cap) ∧
 (∀ i,i<n→∀ e,e=xs.getD i noEnt→w.cell? ⟨r,i*3,none⟩=some (.int .i64 (e.wt:Nat))∧w.cell? ⟨r,i*3+1,none⟩=some (.int .i64 (e.tn:Nat))∧w.cell? ⟨r,i*3+2,none⟩=some (.slice (some ⟨e.b,0,none⟩) e.n e.c))∧(∀ j,w.frozen? ⟨r,j,none⟩=false):=by
 subst hn;obtain ⟨v,hst,hown⟩:=h.st;obtain ⟨r,cap,rfl,hr,hcap⟩:=qdu hown h0;refine ⟨r,cap,hr,hcap,?_,hst,hown,?_,?_,fun j=>hown.frozenAt j⟩
 ·intro e;subst e;obtain ⟨_,_,hk⟩:=Lib.ownsRow_kind hown qb rfl;rw [hst] at hk;simp at hk
 ·rw [cell_of_row w qb 0 _ 291 (0,0) hst];rfl
 intro i hi e he;subst he;obtain ⟨g1,g2,g3⟩:=qaB xs i hi;rw [hown.cellAt (i*3) (by omega),hown.cellAt (i*3+1) (by omega),hown.cellAt (i*3+2) (by omega),Nat.mul_comm i 3];exact ⟨g1,g2,g3⟩
theorem QM.len {w:World} {B qb:Nat} {xs:List Ent} {pu n:Nat} (h:QM w B qb xs pu) (hn:n=xs.length):∃ a cap,w.cell? ⟨qb,0,none⟩=some (.slice a n cap):=by
 subst hn;obtain ⟨v,hst,hown⟩:=h.st
 have:∃ a c,v=.slice a xs.length c:=by
  rcases hown.2 with ⟨rfl,h0⟩ | ⟨g,cap,cur,rfl,_⟩
  ·rw [h0];exact ⟨_,_,rfl⟩
  exact ⟨_,_,rfl⟩
 obtain ⟨a,c,rfl⟩:=this;exact ⟨a,c,by rw [cell_of_row w qb 0 _ 291 (0,0) hst];rfl⟩
theorem qme {a W:World} {B qb r cap n pu i j:Nat} {xs:List Ent} {ei ej:Ent} (hB:B≤qb) (hn:n=xs.length) (hf:Fr B a W) (hqr:qb≠r) (hst:W.heap[qb]? = some (.cells #[.slice (some ⟨r,0,none⟩) n cap,.int .i64 (pu:Nat)] 291 (0,0))) (hown:W.ownsRow B 294 3 (.slice (some ⟨r,0,none⟩) n cap) n (qad xs))
 (hi:ei=xs.getD i noEnt) (hj:ej=xs.getD j noEnt):QM (setEnt (setEnt W r i ej) r j ei) B qb (swp xs i j) pu∧Fr B a (setEnt (setEnt W r i ej) r j ei):=by
 have hs1:=qbm hown i ej;have hs2:=qbm hs1 j ei;have hfr:Fr B a (setEnt (setEnt W r i ej) r j ei):=qbw (v:=.slice none 0 0) (qbw (v:=.slice none 0 0) hf hown i ej) hs1 j ei;have hsw:(xs.set i ej).set j ei=swp xs i j:=by unfold swp;rw [hi,hj]
 have hbl:(setEnt (setEnt W r i ej) r j ei).heap[qb]? = W.heap[qb]? := (qaj _ _ _ _ _ hqr).trans (qaj _ _ _ _ _ hqr);rw [hsw] at hs2;exact ⟨QM.make hB (hbl.trans hst) (by rw [qaG,hn]) hs2,hfr⟩
structure Fr2 (qb B:Nat) (w w':World):Prop where
 fr:Fr B w w'
 own:w'.heap[qb]? = w.heap[qb]?
 far:∀ k,k<w.heap.size→k≠qb→(∀ n cap,w.cell? ⟨qb,0,none⟩≠some (.slice (some ⟨k,0,none⟩) n cap))→w'.heap[k]? = w.heap[k]?
theorem Fr2.refl (qb B:Nat) (w:World):Fr2 qb B w w:=⟨Fr.refl _ _,rfl,fun _ _ _ _=>rfl⟩
theorem Fr2.size {qb B:Nat} {a b:World} (h:Fr2 qb B a b) (hB:B≤a.heap.size):B≤b.heap.size:=h.fr.size hB
theorem Fr2.drew {qb B:Nat} {a b:World} (h:Fr2 qb B a b):Fr2 qb B a b.drew:=⟨h.fr.drew,h.own,h.far⟩
theorem Fr2.alloc2 {qb B:Nat} {a b:World} (h:Fr2 qb B a b) (hB:B≤b.heap.size) (hq:qb<b.heap.size) (o1 o2:Obj):Fr2 qb B a ((b.alloc o1).alloc o2).drew:=
 ⟨((h.fr.alloc hB o1).alloc (by simp;omega) o2).drew,(qaT b o1 o2 qb hq).trans h.own,fun k h1 h2 h3=>(qaT b o1 o2 k (Nat.lt_of_lt_of_le h1 h.fr.bel.size)).trans (h.far k h1 h2 h3)⟩
theorem Fr2.swap {a W:World} {B qb r cap n pu i j:Nat} {ei ej:Ent} (h:Fr2 qb B a W) (hf:Fr B a (setEnt (setEnt W r i ej) r j ei)) (hqr:qb≠r) (hst:W.heap[qb]? = some (.cells #[.slice (some ⟨r,0,none⟩) n cap,.int .i64 (pu:Nat)] 291 (0,0))):Fr2 qb B a (setEnt (setEnt W r i ej) r j ei):=by
 refine ⟨hf,((qaj _ _ _ _ _ hqr).trans (qaj _ _ _ _ _ hqr)).trans h.own,fun k h1 h2 h3 => ?_⟩;have hk:k≠r:=by
  intro e;subst e;refine h3 n cap ?_
  have:W.cell? ⟨qb,0,none⟩=some (.slice (some ⟨k,0,none⟩) n cap):=by rw [cell_of_row W qb 0 _ 291 (0,0) hst];rfl
  rw [←this];exact (World.cell?_of_block h.own).symm
 exact ((qaj _ _ _ _ _ hk).trans (qaj _ _ _ _ _ hk)).trans (h.far k h1 h2 h3)
theorem QM.lt {w:World} {B qb:Nat} {es:List Ent} {pu:Nat} (h:QM w B qb es pu):qb<w.heap.size:=by
 obtain ⟨v,h1,h2⟩:=h.st;exact lt_of_heap h1
theorem qlH (w:World) (B qb:Nat) (es:List Ent) (pu:Nat) (hB:B≤w.heap.size) (hes:es.length≤1000) (hsi:SI es 0) (h:QM w B qb es pu) :
 Calls Tryz.prog 247 #[.pointer (some ⟨qb,0,none⟩)] w fun e w'=>e=.returned (.tuple #[])∧∃ es',List.Perm es' es∧Pk.Heap es'∧QM w' B qb es' pu∧Fr2 qb B w w':=by
 have Hsi:=hidI hsi;have Hq:=hidI h;clear hsi h;go_enter Tryz.func247,Tryz.ntmps247
 go_wp2
 go_loopw [2] (fun i wr=>∃ b:Nat,∃ xs,i=.int .i64 (b:Nat)∧b≤xs.length∧xs.length=es.length∧Hid (SI xs b)∧Hid (List.Perm xs es)∧Hid (QM wr B qb xs pu)∧Hid (Fr2 qb B w wr)) (fun i _=>1000 - (intOf i).toNat)
 case atStart=>exact ⟨0,es,rfl,by omega,rfl,Hsi,List.Perm.refl _,Hq,Fr2.refl _ _ _⟩
 case round =>
  clear Hsi Hq;obtain ⟨b,xs,rfl,hb,hlen,Hsi,Hp,Hq,Hf⟩:=hrel;obtain ⟨n,hn⟩:∃ n,n=xs.length:=⟨_,rfl⟩;have Hlen:=hidI hlen;have hn1000:n≤1000:=by omega
  rw [←hn] at hb;have Hn:=hidI hn;clear hlen hn;go_wp2
  go_loopw [4,3] (fun i j wr'=>∃ c d:Nat,i=.int .i64 (c:Nat)∧j=.int .i64 (d:Nat)∧2*b+1≤c∧c≤2*b+3∧(d=b∨(2*b+1≤d∧d<c∧d<n))∧Hid (wa xs d≤wa xs b∧∀ k,2*b+1≤k→k<c→k<n→wa xs d≤wa xs k)∧Hid (QM wr' B qb xs pu)∧Hid (Fr2 qb B w wr')) (fun i _ _=>3000 - (intOf i).toNat)
  case atStart=>exact ⟨2*b+1,b,by go_num,rfl,by omega,by omega,.inl rfl,⟨Nat.le_refl _,by omega⟩,Hq,Hf⟩
  case round =>
   clear Hq Hf;obtain ⟨c,d,rfl,rfl,hc1,hc2,hd,Hw,Hq,Hf⟩:=hrel;have hqB:=Hq.out.hB;by_cases hg:c≤2*b+2∧c<n
   ·obtain ⟨hg1,hg2⟩:=hg;obtain ⟨r,cap,hr,hcap,hqr,hst,hown,x0,hcells,hfz⟩:=Hq.out.look Hn.out (by omega);have hdn:d<n:=by omega
    obtain ⟨ec,hec⟩:∃ e,e=xs.getD c noEnt:=⟨_,rfl⟩;obtain ⟨ed,hed⟩:∃ e,e=xs.getD d noEnt:=⟨_,rfl⟩;obtain ⟨y1,y2,y3⟩:=hcells c hg2 ec hec;obtain ⟨z1,z2,z3⟩:=hcells d hdn ed hed;have Hec:=hidI hec;have Hed:=hidI hed;have gd1:decide ((c:Int)≤2*(b:Int)+2)=true:=by simp;omega
    have gd2:decide ((c:Int)<(n:Int))=true:=by simp;omega
    clear hcells hfz hst hown hec hed hcap;go_wp2;go_region_held3 (fun w'=>w'.cell? ⟨qb,0,none⟩=some (.slice (some ⟨r,0,none⟩) n cap)∧w'.cell? ⟨r,c*3,none⟩=some (.int .i64 (ec.wt:Nat))∧w'.cell? ⟨r,c*3+1,none⟩=some (.int .i64 (ec.tn:Nat))∧w'.cell? ⟨r,c*3+2,none⟩=some (.slice (some ⟨ec.b,0,none⟩) ec.n ec.c)∧w'.cell? ⟨r,d*3,none⟩=some (.int .i64 (ed.wt:Nat))∧w'.cell? ⟨r,d*3+1,none⟩=some (.int .i64 (ed.tn:Nat))∧w'.cell? ⟨r,d*3+2,none⟩=some (.slice (some ⟨ed.b,0,none⟩) ed.n ed.c)) (go_keep) (first | (go_at_call 250;refine (qfo _ ec.wt ec.tn ed.wt ed.tn (.slice (some ⟨ec.b,0,none⟩) ec.n ec.c) (.slice (some ⟨ed.b,0,none⟩) ed.n ed.c)).mono ?_;rintro e w' ⟨rr,rfl,ha1,ha2,o1,o2,rfl⟩));have Hq2:=hidI (Hq.out.of (qaT wr o1 o2));have Hf2:=hidI (Hf.out.alloc2 (Hf.out.size hB) Hq.out.lt o1 o2);rename_i hHeld;clear hHeld x0 y1 y2 y3 z1 z2 z3 Hq Hf
    generalize ((wr.alloc o1).alloc o2).drew=W at *
    cases rr with
    | false =>
      have hle:=ha2 (by trivial);have Hw2:Hid (wa xs d≤wa xs b∧∀ k,2*b+1≤k→k<c+1→k<n→wa xs d≤wa xs k):=⟨Hw.out.1,fun k k1 k2 k3=>by
       by_cases e:k=c
       ·subst e;unfold wa;rw [←Hec.out,←Hed.out];exact hle
       exact Hw.out.2 k k1 (by omega) k3⟩
      clear ha1 ha2 hle Hw;go_wp2;go_roundw
      case rel=>exact ⟨c+1,d,by go_num,rfl,by omega,by omega,by omega,Hw2,Hq2,Hf2⟩
      case measure=>simp [intOf];omega
    | true =>
      have hle:=ha1 (by trivial);have Hw2:Hid (wa xs c≤wa xs b∧∀ k,2*b+1≤k→k<c+1→k<n→wa xs c≤wa xs k):=by
       have hcd:wa xs c≤wa xs d:=by unfold wa;rw [←Hec.out,←Hed.out];exact hle
       exact ⟨Nat.le_trans hcd Hw.out.1,fun k k1 k2 k3=>by
        by_cases e:k=c
        ·subst e;exact Nat.le_refl _
        exact Nat.le_trans hcd (Hw.out.2 k k1 (by omega) k3)⟩
      clear ha1 ha2 hle Hw;go_wp2;go_roundw
      case rel=>exact ⟨c+1,c,by go_num,rfl,by omega,by omega,by omega,Hw2,Hq2,Hf2⟩
      case measure=>simp [intOf];omega
   obtain ⟨a0,cap0,hx⟩:=Hq.out.len Hn.out;by_cases hg1:c≤2*b+2
   focus
    have gd1:decide ((c:Int)≤2*(b:Int)+2)=true:=by simp;omega
    have gd2:decide ((c:Int)<(n:Int))=false:=by simp;omega
    have hcn:n≤c:=by omega
   rotate_left
   focus
    have gd1:decide ((c:Int)≤2*(b:Int)+2)=false:=by simp;omega
    have hc3:c=2*b+3:=by omega
    have Hc3:=hidI hc3;clear hc3
   rotate_left
   all_goals
    by_cases hbd:d=b
    ·subst hbd;have hdd:((d:Int)==(d:Int))=true:=by simp
     go_wp2
     ·((try simp only [Exit.inBlock,Exit.then]);refine bodyPost_ret (results_none rfl _ _ _) rfl ?_)
      refine ⟨rfl,xs,Hp.out,qk6 Hsi.out ?_,Hq.out,Hf.out⟩;intro i h1 h2 h3;exact Hw.out.2 i (by omega) (by have:=Hn.out;omega) (by have:=Hn.out;omega)
    have hdd:((d:Int)==(b:Int))=false:=by simp;omega
    ·skip
     have hdn:d<n:=by omega
     have hbn:b<n:=by omega
     obtain ⟨r,cap,hr,hcap,hqr,hst,hown,x0,hcells,hfz⟩:=Hq.out.look Hn.out (by omega);obtain ⟨eb,heb⟩:∃ e,e=xs.getD b noEnt:=⟨_,rfl⟩;obtain ⟨ed,hed⟩:∃ e,e=xs.getD d noEnt:=⟨_,rfl⟩;obtain ⟨y1,y2,y3⟩:=hcells b hbn eb heb;obtain ⟨z1,z2,z3⟩:=hcells d hdn ed hed;have f1:=hfz (b*3);have f2:=hfz (b*3+1);have f3:=hfz (b*3+2);have f4:=hfz (d*3);have f5:=hfz (d*3+1);have f6:=hfz (d*3+2);have hsm:=qme hqB Hn.out Hf.out.fr hqr hst hown heb hed;have Hq3:=hidI hsm.1.drew;have Hf3:=hidI (Hf.out.swap hsm.2 hqr hst).drew;have Hsi3:Hid (SI (swp xs b d) d):=qk2 Hsi.out (by omega) (by omega) (by have:=Hn.out;omega) Hw.out.1 fun i h1 h2 h3=>Hw.out.2 i (by omega) (by have:=Hn.out;omega) (by have:=Hn.out;omega)
     have Hp3:Hid (List.Perm (swp xs b d) es):=(qhn xs b d (by have:=Hn.out;omega) (by have:=Hn.out;omega)).trans Hp.out;have Hl3:Hid ((swp xs b d).length=es.length):=by
      show _=_;rw [qaG,Hlen.out]
     have hds:d≤(swp xs b d).length:=by rw [qaG];have:=Hn.out;omega
     have HW:Hid (setEnt (setEnt wr r b ed) r d eb=((((((wr.setCell ⟨r,b*3,none⟩ (.int .i64 (ed.wt:Nat))).setCell ⟨r,b*3+1,none⟩ (.int .i64 (ed.tn:Nat))).setCell ⟨r,b*3+2,none⟩ (.slice (some ⟨ed.b,0,none⟩) ed.n ed.c)).setCell ⟨r,d*3,none⟩ (.int .i64 (eb.wt:Nat))).setCell ⟨r,d*3+1,none⟩ (.int .i64 (eb.tn:Nat))).setCell ⟨r,d*3+2,none⟩ (.slice (some ⟨eb.b,0,none⟩) eb.n eb.c))):=rfl;clear hst hown hcells hfz heb hed hsm hcap hx;go_wp2;go_region;rw [←HW.out];clear HW x0 y1 y2 y3 z1 z2 z3 f1 f2 f3 f4 f5 f6 Hq Hf Hp Hsi
     generalize (setEnt (setEnt wr r b ed) r d eb).drew=W3 at *
     go_wp2;go_roundw
     case rel=>exact ⟨d,swp xs b d,rfl,hds,Hl3.out,Hsi3,Hp3,Hq3,Hf3⟩
     case measure=>simp [intOf];omega
theorem Tryz.info123:(Tryz.prog.info? 294).map (fun i=>(i.zero,i.size,i.bytes))=some (some (.agg #[.int .i64 0,.int .i64 0,.slice none 0 0]),3,40):=by kernel_rfl
theorem qdU (w:World) (a b c:Value) (t:TypeId):∀ j u,[a,b,c][j]? = some u→(w.alloc (.cells #[a,b,c] t)).cell? ((⟨w.heap.size,0,none⟩:Addr).add j)=some u:=
 World.news_of_block (cs:=#[a,b,c]) (heap_alloc_new _ _)
theorem Keeps.grown3 {t:TypeId} {a b c:World} (h:Keeps t a b) {base n:Nat} {e:TypeId} {v:Value} {xs:List Value} (hown:b.ownsRow base e 3 v n xs) (he:e≠t) (hg:b.grownBy c v.ownBlock):Keeps t a c:=by
 refine h.trans fun k x f hk=>hg.block k (lt_of_heap hk) ?_
 rcases hown.2 with ⟨rfl,_⟩ | ⟨g,cap,cur,rfl,_,hh,_⟩
 ·simp [Value.ownBlock]
 intro e2;simp [Value.ownBlock] at e2;subst e2;rw [hk] at hh;simp at hh;exact he hh.2.1.symm
theorem Fr.app {w w2:World} {B n:Nat} {v:Value} {xs:List Value} {o:Obj} (hB:B≤w.heap.size) (ho:w.ownsRow B 294 3 v n xs) (hg:(w.alloc o).drew.grownBy w2 v.ownBlock):Fr B w w2:=
 ⟨(((Below.refl B w).alloc hB o).drew).grown hg (by simp;omega) (fun q hq=>(ho.lt q hq).1),((Keeps.refl 3 w).alloc o).drew.grown3 (ho.alloc o).drew (by decide) hg⟩
theorem qoC (w:World) (B qb:Nat) (es:List Ent) (pu wt gb gn gc:Nat) (hB:B≤w.heap.size) (hes:es.length≤900) (hpu:pu≤1000000) (hhp:Pk.Heap es) (h:QM w B qb es pu) :
 Calls Tryz.prog 234 #[.pointer (some ⟨qb,0,none⟩),.int .i64 (wt:Nat),.slice (some ⟨gb,0,none⟩) gn gc] w fun e w'=>e=.returned (.tuple #[])∧∃ es',List.Perm es' (⟨wt,pu,gb,gn,gc⟩ :: es)∧Pk.Heap es'∧QM w' B qb es' (pu+1)∧Fr B w w':=by
 obtain ⟨i0,hi,hz0,hz1,hz2⟩:=info_parts Tryz.info123;have Hhp:=hidI hhp;obtain ⟨v,hst,hown⟩:=h.st;have hqB:=h.hB;obtain ⟨n,hn⟩:∃ n,n=es.length:=⟨_,rfl⟩;rw [←hn] at hown hes;have hva:∃ a c,v=.slice a n c:=by
  rcases hown.2 with ⟨rfl,h0⟩ | ⟨g,cap,cur,rfl,_⟩
  ·rw [h0];exact ⟨_,_,rfl⟩
  exact ⟨_,_,rfl⟩
 obtain ⟨a,cap,rfl⟩:=hva;have Hn:=hidI hn;have x0:w.cell? ⟨qb,0,none⟩=some (.slice a n cap):=by rw [cell_of_row w qb 0 _ 291 (0,0) hst];rfl
 have x1:w.cell? ⟨qb,1,none⟩=some (.int .i64 (pu:Nat)):=by rw [cell_of_row w qb 1 _ 291 (0,0) hst];rfl
 have x0a:∀ o,(w.alloc o).cell? ⟨qb,0,none⟩=some (.slice a n cap):=fun o=>by rw [←x0];exact World.cell?_of_block (Below.heap_alloc w o qb (lt_of_heap hst))
 have x1a:∀ o,(w.alloc o).cell? ⟨qb,1,none⟩=some (.int .i64 (pu:Nat)):=fun o=>by rw [←x1];exact World.cell?_of_block (Below.heap_alloc w o qb (lt_of_heap hst))
 have Hst:=hidI hst;have Hown:=hidI hown;clear hhp h hst hown hn;go_enter Tryz.func234,Tryz.ntmps234
 go_wp2;go_region_law
  (refine step_append_lies _ (by rfl) _ _ _ (by rfl) B 294 i0 _ 3 40 Tryz.underlying289 hi hz0 hz1 hz2 rfl (by omega) (.slice a n cap) n _ (by rfl) (Hown.out.drew.alloc _) ⟨w.heap.size,0,none⟩ 1 1 [.int .i64 (wt:Nat),.int .i64 (pu:Nat),.slice (some ⟨gb,0,none⟩) gn gc] (by rfl) rfl (qdU w.drew _ _ _ _) (by intro u hu;simp at hu;rcases hu with rfl | rfl | rfl<;>rfl) (by omega) (by unfold maxLen;omega) (by omega) (by simp;omega) (w.heap.size+1) (by simp) ?_;intro g2 cap2 w2 hown2 hgrow hat hlt2;have hst2:=(((Keeps.refl 291 w).drew.alloc _).grown3 (Hown.out.drew.alloc _) (by decide) hgrow).block Hst.out;have y0:w2.cell? ⟨qb,0,none⟩=some (.slice a n cap):=(by rw [cell_of_row w2 qb 0 _ 291 (0,0) hst2];rfl);have yf:=frozen_of_row w2 qb 0 _ 291 hst2;have Hst2:=hidI hst2;have Hown2:=hidI hown2;have Hgrow:=hidI hgrow;clear hst2 hown2 hgrow hat)
 rotate_left
 rotate_left
 rotate_left
 all_goals
  have hst3:=heap_setCell_same w2 qb 0 _ 291 (.slice (some ⟨g2,0,none⟩) (n+1) cap2) Hst2.out;have u1:(w2.setCell ⟨qb,0,none⟩ (.slice (some ⟨g2,0,none⟩) (n+1) cap2)).cell? ⟨qb,1,none⟩=some (.int .i64 (pu:Nat)):=by rw [cell_of_row _ qb 1 _ 291 (0,0) hst3];rfl
  have uf:=frozen_of_row _ qb 1 _ 291 hst3;have hst4:=heap_setCell_same _ qb 1 _ 291 (.int .i64 ((pu+1:Nat):Int)) hst3;have u0:((w2.setCell ⟨qb,0,none⟩ (.slice (some ⟨g2,0,none⟩) (n+1) cap2)).setCell ⟨qb,1,none⟩ (.int .i64 ((pu+1:Nat):Int))).cell? ⟨qb,0,none⟩=some (.slice (some ⟨g2,0,none⟩) (n+1) cap2):=by rw [cell_of_row _ qb 0 _ 291 (0,0) hst4];rfl
  have hqr:qb≠g2:=by
   intro e;subst e;obtain ⟨_,_,hk⟩:=Lib.ownsRow_kind Hown2.out qb rfl;rw [Hst2.out] at hk;simp at hk
  have hgv:(Value.slice (some ⟨g2,0,none⟩) (n+1) cap2).ownBlock≠some qb:=by simp [Value.ownBlock];exact fun e=>hqr e.symm
  have hown4:=ownsRow_setCell_other (a:=⟨qb,1,none⟩) (ownsRow_setCell_other (a:=⟨qb,0,none⟩) Hown2.out hgv (.slice (some ⟨g2,0,none⟩) (n+1) cap2)) hgv (.int .i64 ((pu+1:Nat):Int));have hfr:=Fr.app hB Hown.out Hgrow.out;have hfr4:Fr B w ((w2.setCell ⟨qb,0,none⟩ (.slice (some ⟨g2,0,none⟩) (n+1) cap2)).setCell ⟨qb,1,none⟩ (.int .i64 ((pu+1:Nat):Int))):=⟨(hfr.bel.setCell (p:=⟨qb,0,none⟩) hqB _).setCell (p:=⟨qb,1,none⟩) hqB _,(hfr.ints.set Hst2.out (by decide)).set hst3 (by decide)⟩;have hec:qad es++[.int .i64 (wt:Nat),.int .i64 (pu:Nat),.slice (some ⟨gb,0,none⟩) gn gc]=qad (es++[⟨wt,pu,gb,gn,gc⟩]):=by rw [qdq];rfl
  rw [hec] at hown4;have hq4:=QM.make hqB hst4 (by rw [List.length_append,←Hn.out];rfl) hown4;have Hcall:=hidI (qm2 _ B qb (es++[⟨wt,pu,gb,gn,gc⟩]) (pu+1) n (hfr4.size hB) (by rw [List.length_append,←Hn.out];simp;omega) (by rw [List.length_append,←Hn.out];simp) (by rw [Hn.out];exact qlg Hhp.out _) hq4);have Hfr4:=hidI hfr4;clear hst3 hst4 hown4 hfr hfr4 hec hq4 hgv Hst2 Hown2 Hgrow Hst Hown x0 x1 x0a x1a;rw [show ((pu+1:Nat):Int)=(pu:Int)+1 by omega] at u0 Hcall Hfr4;go_wp2_with fail;refine Hcall.out.mono ?_;rintro e w5 ⟨rfl,es',hp,hh,hq,hf⟩;go_wp2;go_end0
  exact ⟨rfl,es',hp.trans (List.perm_append_singleton _ _),hh,hq,Hfr4.out.trans hf⟩
def FarQ (qb:Nat) (w w':World):Prop:=∀ k,k<w.heap.size→k≠qb→(∀ n cap,w.cell? ⟨qb,0,none⟩≠some (.slice (some ⟨k,0,none⟩) n cap))→w'.heap[k]? = w.heap[k]?
theorem qkW (w:World) (B qb:Nat) (pu:Nat) (hB:B≤w.heap.size) (h:QM w B qb [] pu) :
 Calls Tryz.prog 235 #[.pointer (some ⟨qb,0,none⟩)] w fun e w'=>e=.returned (.tuple #[.agg #[.int .i64 0,.int .i64 0,.slice none 0 0],.bool false])∧QM w' B qb [] pu∧Fr B w w'∧FarQ qb w w':=by
 obtain ⟨a,cap,x0⟩:=h.len (n:=0) rfl;have hlq:qb<w.heap.size:=World.block_lt_of_cell? w _ x0;have hne:w.heap.size≠qb:=by omega
 have Hq:=hidI h;clear h;go_enter Tryz.func235,Tryz.ntmps235
 go_wp2;have hres:Tryz.f235.results=#[.cell 2 294,.tmp 3]:=by kernel_rfl
 refine bodyPost_ret (v:=.tuple #[.agg #[.int .i64 0,.int .i64 0,.slice none 0 0],.bool false]) ?_ rfl ?_
 ·simp [results,hres,go_sem]
 refine ⟨rfl,Hq.out.of fun k hk=>Below.heap_alloc _ _ k hk,(Fr.refl B w).alloc hB _,fun k hk _ _=>Below.heap_alloc _ _ k hk⟩
theorem QM.away {w:World} {B qb:Nat} {es:List Ent} {pu r n cap R o:Nat} {x:Value} (h:QM w B qb es pu) (hst:w.heap[qb]? = some (.cells #[.slice (some ⟨r,0,none⟩) n cap,x] 291 (0,0))) (h1:R≠qb) (h2:R≠r) (v:Value) :
 QM (w.setCell ⟨R,o,none⟩ v) B qb es pu∧(w.setCell ⟨R,o,none⟩ v).heap[qb]? = some (.cells #[.slice (some ⟨r,0,none⟩) n cap,x] 291 (0,0)):=by
 have hb:=Below.heap_setCell w ⟨R,o,none⟩ v qb (fun e=>h1 e.symm);obtain ⟨v6,h3,h4⟩:=h.st;have hv:v6=.slice (some ⟨r,0,none⟩) n cap:=by
  rw [hst] at h3;simp at h3;exact h3.1.symm
 refine ⟨⟨h.hB,v6,hb.trans h3,ownsRow_setCell_other (a:=⟨R,o,none⟩) h4 ?_ v⟩,hb.trans hst⟩;rw [hv];simp [Value.ownBlock];exact fun e=>h2 e.symm
theorem Fr.setNew {B R o:Nat} {a b:World} (h:Fr B a b) (h1:B≤R) (h2:a.heap.size≤R) (v:Value):Fr B a (b.setCell ⟨R,o,none⟩ v):=
 ⟨h.bel.setCell (p:=⟨R,o,none⟩) h1 v,fun k x f e=>(Below.heap_setCell b ⟨R,o,none⟩ v k (by have:=lt_of_heap e;simp;omega)).trans (h.ints k x f e)⟩
theorem qi9 {W:World} {B r cap n:Nat} {es:List Ent} {en:Ent} (hn:n+1=es.length) (hen:en=es.getD n noEnt) (h:W.ownsRow B 294 3 (.slice (some ⟨r,0,none⟩) (n+1) cap) (n+1) (qad (es.set 0 en))) :
 W.ownsRow B 294 3 (.slice (some ⟨r,0,none⟩) n cap) n (qad (popped es)):=by
 have hp:popped es=(es.set 0 en).take n:=by
  unfold popped;rw [←hn,Nat.add_sub_cancel,hen]
 have hx:qad (es.set 0 en)=qad (popped es)++(qad (es.set 0 en)).drop (n*3):=by
  rw [hp,←qfb,List.take_append_drop]
 rw [hx] at h;refine ownsRow_pop ?_ h;rw [qdK,qbq,←hn];rfl
theorem qgm (w:World) (B qb:Nat) (es:List Ent) (e0:Ent) (pu n:Nat) (hB:B≤w.heap.size) (hn:n+1=es.length) (hn9:n≤900) (he0:e0=es.getD 0 noEnt) (hh:Pk.Heap es) (h:QM w B qb es pu) :
 Calls Tryz.prog 235 #[.pointer (some ⟨qb,0,none⟩)] w fun e w'=>e=.returned (.tuple #[.agg #[.int .i64 (e0.wt:Nat),.int .i64 (e0.tn:Nat),.slice (some ⟨e0.b,0,none⟩) e0.n e0.c],.bool true])∧∃ es',List.Perm es' (popped es)∧Pk.Heap es'∧QM w' B qb es' pu∧Fr B w w'∧FarQ qb w w':=by
 obtain ⟨r,cap,hr,hcap,hqr,hst,hown,x0,hcells,hfz⟩:=h.look hn (by omega);obtain ⟨en,hen⟩:∃ e,e=es.getD n noEnt:=⟨_,rfl⟩;obtain ⟨y1,y2,y3⟩:=hcells 0 (by omega) e0 he0;obtain ⟨z1,z2,z3⟩:=hcells n (by omega) en hen;simp only [Nat.zero_mul,Nat.zero_add] at y1 y2 y3;have f1:=hfz 0;have f2:=hfz 1;have f3:=hfz 2;have hqB:=h.hB;have hlq:=lt_of_heap hst;have hlr:=(hown.lt r rfl).2;have hne1:w.heap.size≠qb:=by omega
 have hne2:w.heap.size≠r:=by omega
 have hne3:w.heap.size+1≠qb:=by omega
 have hne4:w.heap.size+1≠r:=by omega
 have Hhh:=hidI hh;have Hen:=hidI hen;have He0:=hidI he0;have Hst:=hidI hst;have Hown:=hidI hown;have Hq:=hidI h;have Hn:=hidI hn;clear hcells hfz hst hown hen he0 hh h hn;go_enter Tryz.func235,Tryz.ntmps235
 go_wp2;have hst2:((w.alloc (.cells #[.int .i64 0,.int .i64 0,.slice none 0 0] 294)).alloc (.cells #[.int .i64 (e0.wt:Nat),.int .i64 (e0.tn:Nat),.slice (some ⟨e0.b,0,none⟩) e0.n e0.c] 294)).heap[qb]? = _:=(qaT w _ _ qb hlq).trans Hst.out;have hown2:((w.alloc (.cells #[.int .i64 0,.int .i64 0,.slice none 0 0] 294)).alloc (.cells #[.int .i64 (e0.wt:Nat),.int .i64 (e0.tn:Nat),.slice (some ⟨e0.b,0,none⟩) e0.n e0.c] 294)).ownsRow B 294 3 _ _ _:=(Hown.out.alloc _).alloc _;have Hf2:=hidI (((Fr.refl B w).alloc hB (.cells #[.int .i64 0,.int .i64 0,.slice none 0 0] 294)).alloc (by simp;omega) (.cells #[.int .i64 (e0.wt:Nat),.int .i64 (e0.tn:Nat),.slice (some ⟨e0.b,0,none⟩) e0.n e0.c] 294))
 have HR:Hid (((w.alloc (.cells #[.int .i64 0,.int .i64 0,.slice none 0 0] 294)).alloc (.cells #[.int .i64 (e0.wt:Nat),.int .i64 (e0.tn:Nat),.slice (some ⟨e0.b,0,none⟩) e0.n e0.c] 294)).heap[w.heap.size]? = some (.cells #[.int .i64 0,.int .i64 0,.slice none 0 0] 294 (0,0))):=(Below.heap_alloc _ _ _ (by simp)).trans (heap_alloc_new _ _);have HN:Hid (((w.alloc (.cells #[.int .i64 0,.int .i64 0,.slice none 0 0] 294)).alloc (.cells #[.int .i64 (e0.wt:Nat),.int .i64 (e0.tn:Nat),.slice (some ⟨e0.b,0,none⟩) e0.n e0.c] 294)).heap[w.heap.size+1]? = some (.cells #[.int .i64 (e0.wt:Nat),.int .i64 (e0.tn:Nat),.slice (some ⟨e0.b,0,none⟩) e0.n e0.c] 294 (0,0))):=by
  have:=heap_alloc_new (w.alloc (.cells #[.int .i64 0,.int .i64 0,.slice none 0 0] 294)) (.cells #[.int .i64 (e0.wt:Nat),.int .i64 (e0.tn:Nat),.slice (some ⟨e0.b,0,none⟩) e0.n e0.c] 294)
  simp only [World.size_alloc] at this;exact this
 have Hx:=hidI x0;have Hk0:Hid (∀ k,k<w.heap.size→((w.alloc (.cells #[.int .i64 0,.int .i64 0,.slice none 0 0] 294)).alloc (.cells #[.int .i64 (e0.wt:Nat),.int .i64 (e0.tn:Nat),.slice (some ⟨e0.b,0,none⟩) e0.n e0.c] 294)).heap[k]? = w.heap[k]?):=qaT w _ _;clear x0 y1 y2 y3 z1 z2 z3 f1 f2 f3 Hst Hown Hq
 generalize ((w.alloc (.cells #[.int .i64 0,.int .i64 0,.slice none 0 0] 294)).alloc (.cells #[.int .i64 (e0.wt:Nat),.int .i64 (e0.tn:Nat),.slice (some ⟨e0.b,0,none⟩) e0.n e0.c] 294))=W at *
 have hq2:QM W B qb es pu:=QM.make hqB hst2 Hn.out.symm hown2;obtain ⟨g1,g2,g3⟩:=qaB es n (by have:=Hn.out;omega);rw [←Hen.out] at g1 g2 g3;have x0:W.cell? ⟨qb,0,none⟩=some (.slice (some ⟨r,0,none⟩) (n+1) cap):=by rw [cell_of_row W qb 0 _ 291 (0,0) hst2];rfl
 have z1:W.cell? ⟨r,n*3,none⟩=some (.int .i64 (en.wt:Nat)):=by rw [hown2.cellAt (n*3) (by omega),Nat.mul_comm];exact g1
 have z2:W.cell? ⟨r,n*3+1,none⟩=some (.int .i64 (en.tn:Nat)):=by rw [hown2.cellAt (n*3+1) (by omega),Nat.mul_comm];exact g2
 have z3:W.cell? ⟨r,n*3+2,none⟩=some (.slice (some ⟨en.b,0,none⟩) en.n en.c):=by rw [hown2.cellAt (n*3+2) (by omega),Nat.mul_comm];exact g3
 obtain ⟨k1,k2,k3⟩:=qaB es 0 (by have:=Hn.out;omega);rw [←He0.out] at k1 k2 k3;have y1:W.cell? ⟨r,0,none⟩=some (.int .i64 (e0.wt:Nat)):=by rw [hown2.cellAt 0 (by omega)];exact k1
 have y2:W.cell? ⟨r,1,none⟩=some (.int .i64 (e0.tn:Nat)):=by rw [hown2.cellAt 1 (by omega)];exact k2
 have y3:W.cell? ⟨r,2,none⟩=some (.slice (some ⟨e0.b,0,none⟩) e0.n e0.c):=by rw [hown2.cellAt 2 (by omega)];exact k3
 have f1:=hown2.frozenAt 0;have f2:=hown2.frozenAt 1;have f3:=hown2.frozenAt 2;have hs1:=qbm hown2 0 en;have hfr1:Fr B w (setEnt W r 0 en):=qbw (v:=.slice none 0 0) Hf2.out hown2 0 en;have hpo:=qi9 Hn.out Hen.out hs1;have hst3:(setEnt W r 0 en).heap[qb]? = _:=(qaj W r 0 en qb hqr).trans hst2;have HR3:Hid ((setEnt W r 0 en).heap[w.heap.size]? = _):=(qaj W r 0 en _ hne2).trans HR.out;have HN3:Hid ((setEnt W r 0 en).heap[w.heap.size+1]? = _):=(qaj W r 0 en _ hne4).trans HN.out;have HW:Hid (setEnt W r 0 en=((W.setCell ⟨r,0,none⟩ (.int .i64 (en.wt:Nat))).setCell ⟨r,1,none⟩ (.int .i64 (en.tn:Nat))).setCell ⟨r,2,none⟩ (.slice (some ⟨en.b,0,none⟩) en.n en.c)):=rfl;have Hpo:=hidI hpo;have Hst3:=hidI hst3;have Hfr1:=hidI hfr1;have hnn:¬n+1<n:=by omega
 clear hst2 hown2 hq2 g1 g2 g3 k1 k2 k3 hs1 hpo hst3 hfr1 Hf2 HR HN;go_region;rw [←HW.out];clear HW x0 y1 y2 y3 z1 z2 z3 f1 f2 f3;have Hk1:Hid (∀ k,k<w.heap.size→k≠r→(setEnt W r 0 en).drew.heap[k]? = w.heap[k]?):=fun k hk hr=>(qaj W r 0 en k hr).trans (Hk0.out k hk)
 have Hst4:Hid ((setEnt W r 0 en).drew.heap[qb]? = _):=Hst3;have HR4:Hid ((setEnt W r 0 en).drew.heap[w.heap.size]? = _):=HR3;have HN4:Hid ((setEnt W r 0 en).drew.heap[w.heap.size+1]? = _):=HN3;have Hpo4:=hidI Hpo.out.drew;have Hfr4:=hidI Hfr1.out.drew;clear Hst3 HR3 HN3 Hpo Hfr1
 generalize (setEnt W r 0 en).drew=W4 at *
 have hst4:=Hst4.out;have x0:W4.cell? ⟨qb,0,none⟩=some (.slice (some ⟨r,0,none⟩) (n+1) cap):=by rw [cell_of_row W4 qb 0 _ 291 (0,0) hst4];rfl
 have xf:=frozen_of_row W4 qb 0 _ 291 hst4;have hst5:=heap_setCell_same W4 qb 0 _ 291 (.slice (some ⟨r,0,none⟩) n cap) hst4;have hgv:(Value.slice (some ⟨r,0,none⟩) n cap).ownBlock≠some qb:=by simp [Value.ownBlock];exact fun e=>hqr e.symm
 have hown5:=ownsRow_setCell_other (a:=⟨qb,0,none⟩) Hpo4.out hgv (.slice (some ⟨r,0,none⟩) n cap);have hfr5:Fr B w (W4.setCell ⟨qb,0,none⟩ (.slice (some ⟨r,0,none⟩) n cap)):=⟨Hfr4.out.bel.setCell (p:=⟨qb,0,none⟩) hqB _,Hfr4.out.ints.set hst4 (by decide)⟩;have hpl:(popped es).length=n:=by rw [qbq,←Hn.out];rfl
 have hq5:=QM.make hqB hst5 hpl hown5;have Hcall:=hidI (qlH _ B qb (popped es) pu (hfr5.size hB) (by rw [hpl];omega) (qkb Hhh.out) hq5);have HR5:Hid ((W4.setCell ⟨qb,0,none⟩ (.slice (some ⟨r,0,none⟩) n cap)).heap[w.heap.size]? = _):=(Below.heap_setCell _ _ _ _ hne1).trans HR4.out;have HN5:Hid ((W4.setCell ⟨qb,0,none⟩ (.slice (some ⟨r,0,none⟩) n cap)).heap[w.heap.size+1]? = _):=(Below.heap_setCell _ _ _ _ hne3).trans HN4.out;have x5:(W4.setCell ⟨qb,0,none⟩ (.slice (some ⟨r,0,none⟩) n cap)).cell? ⟨qb,0,none⟩=some (.slice (some ⟨r,0,none⟩) n cap):=by rw [cell_of_row _ qb 0 _ 291 (0,0) hst5];rfl
 have Hx5:=hidI x5;have Hk2:Hid (∀ k,k<w.heap.size→k≠qb→k≠r→(W4.setCell ⟨qb,0,none⟩ (.slice (some ⟨r,0,none⟩) n cap)).heap[k]? = w.heap[k]?):=fun k hk hq hr=>(Below.heap_setCell W4 ⟨qb,0,none⟩ _ k hq).trans (Hk1.out k hk hr)
 have Hst5:=hidI hst5;have Hfr5:=hidI hfr5;have hcn:n≤cap:=by omega
 clear hst4 hst5 hown5 hfr5 hq5 hpl hgv HR4 HN4 Hpo4 Hfr4 Hst4 x5 hcap;go_wp2_with fail;refine Hcall.out.mono ?_;rintro e w6 ⟨rfl,es',hp,hh,hq6,hf6⟩;have hfar:∀ k o,k≠qb→k≠r→(W4.setCell ⟨qb,0,none⟩ (.slice (some ⟨r,0,none⟩) n cap)).heap[k]? = some o→w6.heap[k]? = some o:=fun k o hk1 hk2 ho=>(hf6.far k (lt_of_heap ho) hk1 (fun a b hc=>by rw [Hx5.out] at hc;cases hc;exact hk2 rfl)).trans ho
 have hR6:=hfar _ _ hne1 hne2 HR5.out;have hN6:=hfar _ _ hne3 hne4 HN5.out;have n1:w6.cell? ⟨w.heap.size+1,0,none⟩=some (.int .i64 (e0.wt:Nat)):=by rw [cell_of_row w6 _ 0 _ 294 (0,0) hN6];rfl
 have n2:w6.cell? ⟨w.heap.size+1,1,none⟩=some (.int .i64 (e0.tn:Nat)):=by rw [cell_of_row w6 _ 1 _ 294 (0,0) hN6];rfl
 have n3:w6.cell? ⟨w.heap.size+1,2,none⟩=some (.slice (some ⟨e0.b,0,none⟩) e0.n e0.c):=by rw [cell_of_row w6 _ 2 _ 294 (0,0) hN6];rfl
 have r1:w6.cell? ⟨w.heap.size,0,none⟩=some (.int .i64 0):=by rw [cell_of_row w6 _ 0 _ 294 (0,0) hR6];rfl
 have r2:w6.cell? ⟨w.heap.size,1,none⟩=some (.int .i64 0):=by rw [cell_of_row w6 _ 1 _ 294 (0,0) hR6];rfl
 have r3:w6.cell? ⟨w.heap.size,2,none⟩=some (.slice none 0 0):=by rw [cell_of_row w6 _ 2 _ 294 (0,0) hR6];rfl
 have rf1:=frozen_of_row w6 _ 0 _ 294 hR6;have rf2:=frozen_of_row w6 _ 1 _ 294 hR6;have rf3:=frozen_of_row w6 _ 2 _ 294 hR6;have Hk6:Hid (∀ k,k<w.heap.size→k≠qb→k≠r→w6.heap[k]? = w.heap[k]?):=fun k hk hq hr=>(hf6.far k (Nat.lt_of_lt_of_le hk Hfr5.out.bel.size) hq (fun a b hc=>by rw [Hx5.out] at hc;cases hc;exact hr rfl)).trans (Hk2.out k hk hq hr)
 have Hq6:=hidI hq6;have Hst6:=hidI (hf6.own.trans Hst5.out);have Hf6:=hidI (Hfr5.out.trans hf6.fr);have Hp:=hidI hp;have Hh:=hidI hh;clear hfar hq6 hf6 hp hh hR6 hN6 x0 xf;have HsR:Hid (w.heap.size≤w.heap.size):=Nat.le_refl _
 generalize hRe:w.heap.size=R at hB hlq hlr hne1 hne2 hne3 hne4 n1 n2 n3 r1 r2 r3 rf1 rf2 rf3 ⊢
 have HRe:=hidI hRe;clear hRe;go_wp2;have hres:Tryz.f235.results=#[.cell 2 294,.tmp 3]:=by kernel_rfl
 refine bodyPost_ret (v:=.tuple #[.agg #[.int .i64 (e0.wt:Nat),.int .i64 (e0.tn:Nat),.slice (some ⟨e0.b,0,none⟩) e0.n e0.c],.bool true]) ?_ rfl ?_
 ·simp [results,hres,go_sem,r1,r2,r3]
 have a1:=Hq6.out.away (R:=R) (o:=0) Hst6.out hne1 hne2 (.int .i64 (e0.wt:Nat));have a2:=a1.1.away (R:=R) (o:=1) a1.2 hne1 hne2 (.int .i64 (e0.tn:Nat));have a3:=a2.1.away (R:=R) (o:=2) a2.2 hne1 hne2 (.slice (some ⟨e0.b,0,none⟩) e0.n e0.c);refine ⟨rfl,es',Hp.out,Hh.out,a3.1,((Hf6.out.setNew hB (by have:=HRe.out;omega) _).setNew hB (by have:=HRe.out;omega) _).setNew hB (by have:=HRe.out;omega) _,fun k hk hq hx => ?_⟩;have hkR:k≠R:=by have:=HRe.out;omega
 rw [Below.heap_setCell _ _ _ k hkR,Below.heap_setCell _ _ _ k hkR,Below.heap_setCell _ _ _ k hkR];exact Hk6.out k hk hq (fun e=>by subst e;exact hx _ _ Hx.out)
end Go.Proofs.YtodmdkhdbfbfgabGreatDoor.S1
