/- Lemmas. -/
import Derived.Lib.Walk
import Derived.Shelf.SlIterI.Nil
import Derived.Shelf.SortM.Plain
import Derived.Shelf.SortM.SortNone
import Derived.Ground.GgzProg
import Derived.Ground.SlgmProg
import Derived.Ground.Names2Prog
import Derived.Ground.SlgnProg
import Derived.Ground.SlsfProg
import Derived.Shelf.Strings.BuilderK
import Derived.Test.YtodmdkhdbfbfgaaGreatDoorM16
set_option linter.unusedVariables false
set_option linter.unusedSimpArgs false
set_option maxRecDepth 100000
set_option maxHeartbeats 8000000
namespace Go.Proofs.YtodmdkhdbfbfgaaGreatDoor.S1
open Go.RowKit Pk
variable {w a W b:World} {B qb pu n r i j:Nat} {xs:List Ent} {ei ej:Ent}
theorem QM.look (h:QM w B qb xs pu) (hn:n=xs.length) (h0:0<n):∃ r cap,B≤r∧n≤cap∧qb≠r∧w.heap[qb]? = some (.cells #[.slice (some ⟨r,0,none⟩) n cap,.int .i64 (pu:Nat)] 341 (0,0)) ∧
 w.ownsRow B 344 3 (.slice (some ⟨r,0,none⟩) n cap) n (qad xs)∧w.cell? ⟨qb,0,none⟩=some (.slice (some ⟨r,0,none⟩) n cap) ∧
 (∀ i,i<n→∀ e,e=xs.getD i noEnt→w.cell? ⟨r,i*3,none⟩=some (.int .i64 (e.wt:Nat))∧w.cell? ⟨r,i*3+1,none⟩=some (.int .i64 (e.tn:Nat))∧w.cell? ⟨r,i*3+2,none⟩=some (.slice (some ⟨e.b,0,none⟩) e.n e.c))∧(∀ j,w.frozen? ⟨r,j,none⟩=false):=by
 subst hn;obtain ⟨v,hst,hown⟩:=h.st;obtain ⟨r,cap,rfl,hr,hcap⟩:=qdn hown h0;refine ⟨r,cap,hr,hcap,?_,hst,hown,?_,?_,fun j=>hown.frozenAt j⟩
 ·intro e;subst e;obtain ⟨_,_,hk⟩:=Lib.ownsRow_kind hown qb rfl;rw [hst] at hk;simp at hk
 ·rw [cell_of_row w qb 0 _ 341 (0,0) hst];rfl
 intro i hi e he;subst he;obtain ⟨g1,g2,g3⟩:=qaD xs i hi;rw [hown.cellAt (i*3) (by omega),hown.cellAt (i*3+1) (by omega),hown.cellAt (i*3+2) (by omega),Nat.mul_comm i 3];exact ⟨g1,g2,g3⟩
theorem QM.len (h:QM w B qb xs pu) (hn:n=xs.length):∃ a cap,w.cell? ⟨qb,0,none⟩=some (.slice a n cap):=by
 subst hn;obtain ⟨v,hst,hown⟩:=h.st
 have:∃ a c,v=.slice a xs.length c:=by
  rcases hown.2 with ⟨rfl,h0⟩ | ⟨g,cap,cur,rfl,_⟩
  ·rw [h0];exact ⟨_,_,rfl⟩
  exact ⟨_,_,rfl⟩
 obtain ⟨a,c,rfl⟩:=this;exact ⟨a,c,by rw [cell_of_row w qb 0 _ 341 (0,0) hst];rfl⟩
theorem ql2 {cap:Nat} (hB:B≤qb) (hn:n=xs.length) (hf:Fr B a W) (hqr:qb≠r) (hst:W.heap[qb]? = some (.cells #[.slice (some ⟨r,0,none⟩) n cap,.int .i64 (pu:Nat)] 341 (0,0))) (hown:W.ownsRow B 344 3 (.slice (some ⟨r,0,none⟩) n cap) n (qad xs))
 (hi:ei=xs.getD i noEnt) (hj:ej=xs.getD j noEnt):QM (setEnt (setEnt W r i ej) r j ei) B qb (swp xs i j) pu∧Fr B a (setEnt (setEnt W r i ej) r j ei):=by
 have hs1:=qbd hown i ej;have hs2:=qbd hs1 j ei;have hfr:Fr B a (setEnt (setEnt W r i ej) r j ei):=qby (v:=.slice none 0 0) (qby (v:=.slice none 0 0) hf hown i ej) hs1 j ei;have hsw:(xs.set i ej).set j ei=swp xs i j:=by unfold swp;rw [hi,hj]
 have hbl:(setEnt (setEnt W r i ej) r j ei).heap[qb]? = W.heap[qb]? := (qaj _ _ _ _ _ hqr).trans (qaj _ _ _ _ _ hqr);rw [hsw] at hs2;exact ⟨QM.make hB (hbl.trans hst) (by rw [qaG,hn]) hs2,hfr⟩
structure Fr2 (qb B:Nat) (w w':World):Prop where
 fr:Fr B w w'
 own:w'.heap[qb]? = w.heap[qb]?
 far:∀ k,k<w.heap.size→k≠qb→(∀ n cap,w.cell? ⟨qb,0,none⟩≠some (.slice (some ⟨k,0,none⟩) n cap))→w'.heap[k]? = w.heap[k]?
theorem Fr2.refl (qb B:Nat) (w:World):Fr2 qb B w w:=⟨Fr.refl _ _,rfl,fun _ _ _ _=>rfl⟩
theorem Fr2.size (h:Fr2 qb B a b) (hB:B≤a.heap.size):B≤b.heap.size:=h.fr.size hB
theorem Fr2.drew (h:Fr2 qb B a b):Fr2 qb B a b.drew:=⟨h.fr.drew,h.own,h.far⟩
theorem Fr2.alloc2 (h:Fr2 qb B a b) (hB:B≤b.heap.size) (hq:qb<b.heap.size) (o1 o2:Obj):Fr2 qb B a ((b.alloc o1).alloc o2).drew:=
 ⟨((h.fr.alloc hB o1).alloc (by simp;omega) o2).drew,(qaQ b o1 o2 qb hq).trans h.own,fun k h1 h2 h3=>(qaQ b o1 o2 k (Nat.lt_of_lt_of_le h1 h.fr.bel.size)).trans (h.far k h1 h2 h3)⟩
theorem Fr2.swap {cap:Nat} (h:Fr2 qb B a W) (hf:Fr B a (setEnt (setEnt W r i ej) r j ei)) (hqr:qb≠r) (hst:W.heap[qb]? = some (.cells #[.slice (some ⟨r,0,none⟩) n cap,.int .i64 (pu:Nat)] 341 (0,0))):Fr2 qb B a (setEnt (setEnt W r i ej) r j ei):=by
 refine ⟨hf,((qaj _ _ _ _ _ hqr).trans (qaj _ _ _ _ _ hqr)).trans h.own,fun k h1 h2 h3 => ?_⟩;have hk:k≠r:=by
  intro e;subst e;refine h3 n cap ?_
  have:W.cell? ⟨qb,0,none⟩=some (.slice (some ⟨k,0,none⟩) n cap):=by rw [cell_of_row W qb 0 _ 341 (0,0) hst];rfl
  rw [←this];exact (World.cell?_of_block h.own).symm
 exact ((qaj _ _ _ _ _ hk).trans (qaj _ _ _ _ _ hk)).trans (h.far k h1 h2 h3)
theorem QM.lt {es:List Ent} (h:QM w B qb es pu):qb<w.heap.size:=by
 obtain ⟨v,h1,h2⟩:=h.st;exact lt_of_heap h1
theorem qlG (w:World) (B qb:Nat) (es:List Ent) (pu:Nat) (hB:B≤w.heap.size) (hes:es.length≤1000) (hsi:SI es 0) (h:QM w B qb es pu) :
 Calls Tryz.prog 331 #[.pointer (some ⟨qb,0,none⟩)] w fun e w'=>e=.returned (.tuple #[])∧∃ es',List.Perm es' es∧Pk.Heap es'∧QM w' B qb es' pu∧Fr2 qb B w w':=by
 have Hsi:=hidI hsi;have Hq:=hidI h;clear hsi h;go_enter Tryz.func331,Tryz.ntmps331
 go_wp2
 go_loopw [2] (fun i wr=>∃ b:Nat,∃ xs,i=.int .i64 (b:Nat)∧b≤xs.length∧xs.length=es.length∧Hid (SI xs b)∧Hid (List.Perm xs es)∧Hid (QM wr B qb xs pu)∧Hid (Fr2 qb B w wr)) (fun i _=>1000 - (intOf i).toNat)
 case atStart=>exact ⟨0,es,rfl,by omega,rfl,Hsi,List.Perm.refl _,Hq,Fr2.refl _ _ _⟩
 case round =>
  clear Hsi Hq;obtain ⟨b,xs,rfl,hb,hlen,Hsi,Hp,Hq,Hf⟩:=hrel;obtain ⟨n,hn⟩:∃ n,n=xs.length:=⟨_,rfl⟩;have Hlen:=hidI hlen;have hn1000:n≤1000:=by omega
  rw [←hn] at hb;have Hn:=hidI hn;clear hlen hn;go_wp2
  go_loopw [4,3] (fun i j wr'=>∃ c d:Nat,i=.int .i64 (c:Nat)∧j=.int .i64 (d:Nat)∧2*b+1≤c∧c≤2*b+3∧(d=b∨(2*b+1≤d∧d<c∧d<n))∧Hid (wa xs d≤wa xs b∧∀ k,2*b+1≤k→k<c→k<n→wa xs d≤wa xs k)∧Hid (QM wr' B qb xs pu)∧Hid (Fr2 qb B w wr')) (fun i _ _=>3000 - (intOf i).toNat)
  case atStart=>exact ⟨2*b+1,b,by go_num,rfl,by omega,by omega,.inl rfl,⟨Nat.le_refl _,by omega⟩,Hq,Hf⟩
  case round =>
   clear Hq Hf;obtain ⟨c,d,rfl,rfl,hc1,hc2,hd,Hw,Hq,Hf⟩:=hrel;have hqB:=Hq.out.hB;by_cases hg:c≤2*b+2∧c<n
   ·obtain ⟨hg1,hg2⟩:=hg;obtain ⟨r,cap,hr,hcap,hqr,hst,hown,x0,hcells,hfz⟩:=Hq.out.look Hn.out (by omega);have hdn:d<n:=by omega
    obtain ⟨ec,hec⟩:∃ e,e=xs.getD c noEnt:=⟨_,rfl⟩;obtain ⟨ed,hed⟩:∃ e,e=xs.getD d noEnt:=⟨_,rfl⟩;obtain ⟨y1,y2,y3⟩:=hcells c hg2 ec hec;obtain ⟨z1,z2,z3⟩:=hcells d hdn ed hed;have Hec:=hidI hec;have Hed:=hidI hed;have gd1:decide ((c:Int)≤2*(b:Int)+2)=true:=by simp;omega
    have gd2:decide ((c:Int)<(n:Int))=true:=by simp;omega
    clear hcells hfz hst hown hec hed hcap;go_wp2;go_region_held3 (fun w'=>w'.cell? ⟨qb,0,none⟩=some (.slice (some ⟨r,0,none⟩) n cap)∧w'.cell? ⟨r,c*3,none⟩=some (.int .i64 (ec.wt:Nat))∧w'.cell? ⟨r,c*3+1,none⟩=some (.int .i64 (ec.tn:Nat))∧w'.cell? ⟨r,c*3+2,none⟩=some (.slice (some ⟨ec.b,0,none⟩) ec.n ec.c)∧w'.cell? ⟨r,d*3,none⟩=some (.int .i64 (ed.wt:Nat))∧w'.cell? ⟨r,d*3+1,none⟩=some (.int .i64 (ed.tn:Nat))∧w'.cell? ⟨r,d*3+2,none⟩=some (.slice (some ⟨ed.b,0,none⟩) ed.n ed.c)) (go_keep) (first | (go_at_call 338;refine (qf5 _ ec.wt ec.tn ed.wt ed.tn (.slice (some ⟨ec.b,0,none⟩) ec.n ec.c) (.slice (some ⟨ed.b,0,none⟩) ed.n ed.c)).mono ?_;rintro e w' ⟨rr,rfl,ha1,ha2,o1,o2,rfl⟩));have Hq2:=hidI (Hq.out.of (qaQ wr o1 o2));have Hf2:=hidI (Hf.out.alloc2 (Hf.out.size hB) Hq.out.lt o1 o2);rename_i hHeld;clear hHeld x0 y1 y2 y3 z1 z2 z3 Hq Hf
    generalize ((wr.alloc o1).alloc o2).drew=W at *
    cases rr with
    | false =>
      have hle:=ha2 (by trivial);have Hw2:Hid (wa xs d≤wa xs b∧∀ k,2*b+1≤k→k<c+1→k<n→wa xs d≤wa xs k):=⟨Hw.out.1,fun k k1 k2 k3=>by
       by_cases e:k=c
       ·subst e;unfold wa;rw [←Hec.out,←Hed.out];exact hle
       exact Hw.out.2 k k1 (by omega) k3⟩
      clear ha1 ha2 hle Hw;go_wp2;go_roundw
      case rel=>exact ⟨c+1,d,by go_num,rfl,by omega,by omega,by omega,Hw2,Hq2,Hf2⟩
      case measure=>simp [intOf];omega
    | true =>
      have hle:=ha1 (by trivial);have Hw2:Hid (wa xs c≤wa xs b∧∀ k,2*b+1≤k→k<c+1→k<n→wa xs c≤wa xs k):=by
       have hcd:wa xs c≤wa xs d:=by unfold wa;rw [←Hec.out,←Hed.out];exact hle
       exact ⟨Nat.le_trans hcd Hw.out.1,fun k k1 k2 k3=>by
        by_cases e:k=c
        ·subst e;exact Nat.le_refl _
        exact Nat.le_trans hcd (Hw.out.2 k k1 (by omega) k3)⟩
      clear ha1 ha2 hle Hw;go_wp2;go_roundw
      case rel=>exact ⟨c+1,c,by go_num,rfl,by omega,by omega,by omega,Hw2,Hq2,Hf2⟩
      case measure=>simp [intOf];omega
   obtain ⟨a0,cap0,hx⟩:=Hq.out.len Hn.out;by_cases hg1:c≤2*b+2
   focus
    have gd1:decide ((c:Int)≤2*(b:Int)+2)=true:=by simp;omega
    have gd2:decide ((c:Int)<(n:Int))=false:=by simp;omega
    have hcn:n≤c:=by omega
   rotate_left
   focus
    have gd1:decide ((c:Int)≤2*(b:Int)+2)=false:=by simp;omega
    have hc3:c=2*b+3:=by omega
    have Hc3:=hidI hc3;clear hc3
   rotate_left
   all_goals
    by_cases hbd:d=b
    ·subst hbd;have hdd:((d:Int)==(d:Int))=true:=by simp
     go_wp2
     ·((try simp only [Exit.inBlock,Exit.then]);refine bodyPost_ret (results_none rfl _ _ _) rfl ?_)
      refine ⟨rfl,xs,Hp.out,qjy Hsi.out ?_,Hq.out,Hf.out⟩;intro i h1 h2 h3;exact Hw.out.2 i (by omega) (by have:=Hn.out;omega) (by have:=Hn.out;omega)
    have hdd:((d:Int)==(b:Int))=false:=by simp;omega
    ·skip
     have hdn:d<n:=by omega
     have hbn:b<n:=by omega
     obtain ⟨r,cap,hr,hcap,hqr,hst,hown,x0,hcells,hfz⟩:=Hq.out.look Hn.out (by omega);obtain ⟨eb,heb⟩:∃ e,e=xs.getD b noEnt:=⟨_,rfl⟩;obtain ⟨ed,hed⟩:∃ e,e=xs.getD d noEnt:=⟨_,rfl⟩;obtain ⟨y1,y2,y3⟩:=hcells b hbn eb heb;obtain ⟨z1,z2,z3⟩:=hcells d hdn ed hed;have f1:=hfz (b*3);have f2:=hfz (b*3+1);have f3:=hfz (b*3+2);have f4:=hfz (d*3);have f5:=hfz (d*3+1);have f6:=hfz (d*3+2);have hsm:=ql2 hqB Hn.out Hf.out.fr hqr hst hown heb hed;have Hq3:=hidI hsm.1.drew;have Hf3:=hidI (Hf.out.swap hsm.2 hqr hst).drew;have Hsi3:Hid (SI (swp xs b d) d):=qlj Hsi.out (by omega) (by omega) (by have:=Hn.out;omega) Hw.out.1 fun i h1 h2 h3=>Hw.out.2 i (by omega) (by have:=Hn.out;omega) (by have:=Hn.out;omega)
     have Hp3:Hid (List.Perm (swp xs b d) es):=(qhe xs b d (by have:=Hn.out;omega) (by have:=Hn.out;omega)).trans Hp.out;have Hl3:Hid ((swp xs b d).length=es.length):=by
      show _=_;rw [qaG,Hlen.out]
     have hds:d≤(swp xs b d).length:=by rw [qaG];have:=Hn.out;omega
     have HW:Hid (setEnt (setEnt wr r b ed) r d eb=((((((wr.setCell ⟨r,b*3,none⟩ (.int .i64 (ed.wt:Nat))).setCell ⟨r,b*3+1,none⟩ (.int .i64 (ed.tn:Nat))).setCell ⟨r,b*3+2,none⟩ (.slice (some ⟨ed.b,0,none⟩) ed.n ed.c)).setCell ⟨r,d*3,none⟩ (.int .i64 (eb.wt:Nat))).setCell ⟨r,d*3+1,none⟩ (.int .i64 (eb.tn:Nat))).setCell ⟨r,d*3+2,none⟩ (.slice (some ⟨eb.b,0,none⟩) eb.n eb.c))):=rfl;clear hst hown hcells hfz heb hed hsm hcap hx;go_wp2;go_region;rw [←HW.out];clear HW x0 y1 y2 y3 z1 z2 z3 f1 f2 f3 f4 f5 f6 Hq Hf Hp Hsi
     generalize (setEnt (setEnt wr r b ed) r d eb).drew=W3 at *
     go_wp2;go_roundw
     case rel=>exact ⟨d,swp xs b d,rfl,hds,Hl3.out,Hsi3,Hp3,Hq3,Hf3⟩
     case measure=>simp [intOf];omega
theorem Tryz.info123:(Tryz.prog.info? 344).map (fun i=>(i.zero,i.size,i.bytes))=some (some (.agg #[.int .i64 0,.int .i64 0,.slice none 0 0]),3,40):=by kernel_rfl
theorem qdW (w:World) (a b c:Value) (t:TypeId):∀ j u,[a,b,c][j]? = some u→(w.alloc (.cells #[a,b,c] t)).cell? ((⟨w.heap.size,0,none⟩:Addr).add j)=some u:=
 World.news_of_block (cs:=#[a,b,c]) (heap_alloc_new _ _)
theorem Keeps.grown3 {t:TypeId} {a b c:World} (h:Keeps t a b) {base n:Nat} {e:TypeId} {v:Value} {xs:List Value} (hown:b.ownsRow base e 3 v n xs) (he:e≠t) (hg:b.grownBy c v.ownBlock):Keeps t a c:=by
 refine h.trans fun k x f hk=>hg.block k (lt_of_heap hk) ?_
 rcases hown.2 with ⟨rfl,_⟩ | ⟨g,cap,cur,rfl,_,hh,_⟩
 ·simp [Value.ownBlock]
 intro e2;simp [Value.ownBlock] at e2;subst e2;rw [hk] at hh;simp at hh;exact he hh.2.1.symm
theorem Fr.app {w w2:World} {B n:Nat} {v:Value} {xs:List Value} {o:Obj} (hB:B≤w.heap.size) (ho:w.ownsRow B 344 3 v n xs) (hg:(w.alloc o).drew.grownBy w2 v.ownBlock):Fr B w w2:=
 ⟨(((Below.refl B w).alloc hB o).drew).grown hg (by simp;omega) (fun q hq=>(ho.lt q hq).1),((Keeps.refl 3 w).alloc o).drew.grown3 (ho.alloc o).drew (by decide) hg⟩
theorem qos (w:World) (B qb:Nat) (es:List Ent) (pu wt gb gn gc:Nat) (hB:B≤w.heap.size) (hes:es.length≤900) (hpu:pu≤1000000) (hhp:Pk.Heap es) (h:QM w B qb es pu) :
 Calls Tryz.prog 310 #[.pointer (some ⟨qb,0,none⟩),.int .i64 (wt:Nat),.slice (some ⟨gb,0,none⟩) gn gc] w fun e w'=>e=.returned (.tuple #[])∧∃ es',List.Perm es' (⟨wt,pu,gb,gn,gc⟩ :: es)∧Pk.Heap es'∧QM w' B qb es' (pu+1)∧Fr B w w':=by
 obtain ⟨i0,hi,hz0,hz1,hz2⟩:=info_parts Tryz.info123;have Hhp:=hidI hhp;obtain ⟨v,hst,hown⟩:=h.st;have hqB:=h.hB;obtain ⟨n,hn⟩:∃ n,n=es.length:=⟨_,rfl⟩;rw [←hn] at hown hes;have hva:∃ a c,v=.slice a n c:=by
  rcases hown.2 with ⟨rfl,h0⟩ | ⟨g,cap,cur,rfl,_⟩
  ·rw [h0];exact ⟨_,_,rfl⟩
  exact ⟨_,_,rfl⟩
 obtain ⟨a,cap,rfl⟩:=hva;have Hn:=hidI hn;have x0:w.cell? ⟨qb,0,none⟩=some (.slice a n cap):=by rw [cell_of_row w qb 0 _ 341 (0,0) hst];rfl
 have x1:w.cell? ⟨qb,1,none⟩=some (.int .i64 (pu:Nat)):=by rw [cell_of_row w qb 1 _ 341 (0,0) hst];rfl
 have x0a:∀ o,(w.alloc o).cell? ⟨qb,0,none⟩=some (.slice a n cap):=fun o=>by rw [←x0];exact World.cell?_of_block (Below.heap_alloc w o qb (lt_of_heap hst))
 have x1a:∀ o,(w.alloc o).cell? ⟨qb,1,none⟩=some (.int .i64 (pu:Nat)):=fun o=>by rw [←x1];exact World.cell?_of_block (Below.heap_alloc w o qb (lt_of_heap hst))
 have Hst:=hidI hst;have Hown:=hidI hown;clear hhp h hst hown hn;go_enter Tryz.func310,Tryz.ntmps310
 go_wp2;go_region_law
  (refine step_append_lies _ (by rfl) _ _ _ (by rfl) B 344 i0 _ 3 40 Tryz.underlying339 hi hz0 hz1 hz2 rfl (by omega) (.slice a n cap) n _ (by rfl) (Hown.out.drew.alloc _) ⟨w.heap.size,0,none⟩ 1 1 [.int .i64 (wt:Nat),.int .i64 (pu:Nat),.slice (some ⟨gb,0,none⟩) gn gc] (by rfl) rfl (qdW w.drew _ _ _ _) (by intro u hu;simp at hu;rcases hu with rfl | rfl | rfl<;>rfl) (by omega) (by unfold maxLen;omega) (by omega) (by simp;omega) (w.heap.size+1) (by simp) ?_;intro g2 cap2 w2 hown2 hgrow hat hlt2;have hst2:=(((Keeps.refl 341 w).drew.alloc _).grown3 (Hown.out.drew.alloc _) (by decide) hgrow).block Hst.out;have y0:w2.cell? ⟨qb,0,none⟩=some (.slice a n cap):=(by rw [cell_of_row w2 qb 0 _ 341 (0,0) hst2];rfl);have yf:=frozen_of_row w2 qb 0 _ 341 hst2;have Hst2:=hidI hst2;have Hown2:=hidI hown2;have Hgrow:=hidI hgrow;clear hst2 hown2 hgrow hat)
 rotate_left
 rotate_left
 rotate_left
 all_goals
  have hst3:=heap_setCell_same w2 qb 0 _ 341 (.slice (some ⟨g2,0,none⟩) (n+1) cap2) Hst2.out;have u1:(w2.setCell ⟨qb,0,none⟩ (.slice (some ⟨g2,0,none⟩) (n+1) cap2)).cell? ⟨qb,1,none⟩=some (.int .i64 (pu:Nat)):=by rw [cell_of_row _ qb 1 _ 341 (0,0) hst3];rfl
  have uf:=frozen_of_row _ qb 1 _ 341 hst3;have hst4:=heap_setCell_same _ qb 1 _ 341 (.int .i64 ((pu+1:Nat):Int)) hst3;have u0:((w2.setCell ⟨qb,0,none⟩ (.slice (some ⟨g2,0,none⟩) (n+1) cap2)).setCell ⟨qb,1,none⟩ (.int .i64 ((pu+1:Nat):Int))).cell? ⟨qb,0,none⟩=some (.slice (some ⟨g2,0,none⟩) (n+1) cap2):=by rw [cell_of_row _ qb 0 _ 341 (0,0) hst4];rfl
  have hqr:qb≠g2:=by
   intro e;subst e;obtain ⟨_,_,hk⟩:=Lib.ownsRow_kind Hown2.out qb rfl;rw [Hst2.out] at hk;simp at hk
  have hgv:(Value.slice (some ⟨g2,0,none⟩) (n+1) cap2).ownBlock≠some qb:=by simp [Value.ownBlock];exact fun e=>hqr e.symm
  have hown4:=ownsRow_setCell_other (a:=⟨qb,1,none⟩) (ownsRow_setCell_other (a:=⟨qb,0,none⟩) Hown2.out hgv (.slice (some ⟨g2,0,none⟩) (n+1) cap2)) hgv (.int .i64 ((pu+1:Nat):Int));have hfr:=Fr.app hB Hown.out Hgrow.out;have hfr4:Fr B w ((w2.setCell ⟨qb,0,none⟩ (.slice (some ⟨g2,0,none⟩) (n+1) cap2)).setCell ⟨qb,1,none⟩ (.int .i64 ((pu+1:Nat):Int))):=⟨(hfr.bel.setCell (p:=⟨qb,0,none⟩) hqB _).setCell (p:=⟨qb,1,none⟩) hqB _,(hfr.ints.set Hst2.out (by decide)).set hst3 (by decide)⟩;have hec:qad es++[.int .i64 (wt:Nat),.int .i64 (pu:Nat),.slice (some ⟨gb,0,none⟩) gn gc]=qad (es++[⟨wt,pu,gb,gn,gc⟩]):=by rw [qdu];rfl
  rw [hec] at hown4;have hq4:=QM.make hqB hst4 (by rw [List.length_append,←Hn.out];rfl) hown4;have Hcall:=hidI (qmd _ B qb (es++[⟨wt,pu,gb,gn,gc⟩]) (pu+1) n (hfr4.size hB) (by rw [List.length_append,←Hn.out];simp;omega) (by rw [List.length_append,←Hn.out];simp) (by rw [Hn.out];exact qkC Hhp.out _) hq4);have Hfr4:=hidI hfr4;clear hst3 hst4 hown4 hfr hfr4 hec hq4 hgv Hst2 Hown2 Hgrow Hst Hown x0 x1 x0a x1a;rw [show ((pu+1:Nat):Int)=(pu:Int)+1 by omega] at u0 Hcall Hfr4;go_wp2_with fail;refine Hcall.out.mono ?_;rintro e w5 ⟨rfl,es',hp,hh,hq,hf⟩;go_wp2;go_end0
  exact ⟨rfl,es',hp.trans (List.perm_append_singleton _ _),hh,hq,Hfr4.out.trans hf⟩
def FarQ (qb:Nat) (w w':World):Prop:=∀ k,k<w.heap.size→k≠qb→(∀ n cap,w.cell? ⟨qb,0,none⟩≠some (.slice (some ⟨k,0,none⟩) n cap))→w'.heap[k]? = w.heap[k]?
theorem qjg (w:World) (B qb:Nat) (pu:Nat) (hB:B≤w.heap.size) (h:QM w B qb [] pu) :
 Calls Tryz.prog 311 #[.pointer (some ⟨qb,0,none⟩)] w fun e w'=>e=.returned (.tuple #[.agg #[.int .i64 0,.int .i64 0,.slice none 0 0],.bool false])∧QM w' B qb [] pu∧Fr B w w'∧FarQ qb w w':=by
 obtain ⟨a,cap,x0⟩:=h.len (n:=0) rfl;have hlq:qb<w.heap.size:=World.block_lt_of_cell? w _ x0;have hne:w.heap.size≠qb:=by omega
 have Hq:=hidI h;clear h;go_enter Tryz.func311,Tryz.ntmps311
 go_wp2;have hres:Tryz.f311.results=#[.cell 2 344,.tmp 3]:=by kernel_rfl
 refine bodyPost_ret (v:=.tuple #[.agg #[.int .i64 0,.int .i64 0,.slice none 0 0],.bool false]) ?_ rfl ?_
 ·simp [results,hres,go_sem]
 refine ⟨rfl,Hq.out.of fun k hk=>Below.heap_alloc _ _ k hk,(Fr.refl B w).alloc hB _,fun k hk _ _=>Below.heap_alloc _ _ k hk⟩
theorem QM.away {w:World} {B qb:Nat} {es:List Ent} {pu r n cap R o:Nat} {x:Value} (h:QM w B qb es pu) (hst:w.heap[qb]? = some (.cells #[.slice (some ⟨r,0,none⟩) n cap,x] 341 (0,0))) (h1:R≠qb) (h2:R≠r) (v:Value) :
 QM (w.setCell ⟨R,o,none⟩ v) B qb es pu∧(w.setCell ⟨R,o,none⟩ v).heap[qb]? = some (.cells #[.slice (some ⟨r,0,none⟩) n cap,x] 341 (0,0)):=by
 have hb:=Below.heap_setCell w ⟨R,o,none⟩ v qb (fun e=>h1 e.symm);obtain ⟨v6,h3,h4⟩:=h.st;have hv:v6=.slice (some ⟨r,0,none⟩) n cap:=by
  rw [hst] at h3;simp at h3;exact h3.1.symm
 refine ⟨⟨h.hB,v6,hb.trans h3,ownsRow_setCell_other (a:=⟨R,o,none⟩) h4 ?_ v⟩,hb.trans hst⟩;rw [hv];simp [Value.ownBlock];exact fun e=>h2 e.symm
theorem Fr.setNew {B R o:Nat} {a b:World} (h:Fr B a b) (h1:B≤R) (h2:a.heap.size≤R) (v:Value):Fr B a (b.setCell ⟨R,o,none⟩ v):=
 ⟨h.bel.setCell (p:=⟨R,o,none⟩) h1 v,fun k x f e=>(Below.heap_setCell b ⟨R,o,none⟩ v k (by have:=lt_of_heap e;simp;omega)).trans (h.ints k x f e)⟩
theorem qh9 {W:World} {B r cap n:Nat} {es:List Ent} {en:Ent} (hn:n+1=es.length) (hen:en=es.getD n noEnt) (h:W.ownsRow B 344 3 (.slice (some ⟨r,0,none⟩) (n+1) cap) (n+1) (qad (es.set 0 en))) :
 W.ownsRow B 344 3 (.slice (some ⟨r,0,none⟩) n cap) n (qad (popped es)):=by
 have hp:popped es=(es.set 0 en).take n:=by
  unfold popped;rw [←hn,Nat.add_sub_cancel,hen]
 have hx:qad (es.set 0 en)=qad (popped es)++(qad (es.set 0 en)).drop (n*3):=by
  rw [hp,←qeL,List.take_append_drop]
 rw [hx] at h;refine ownsRow_pop ?_ h;rw [qdO,qbo,←hn];rfl
theorem qfr (w:World) (B qb:Nat) (es:List Ent) (e0:Ent) (pu n:Nat) (hB:B≤w.heap.size) (hn:n+1=es.length) (hn9:n≤900) (he0:e0=es.getD 0 noEnt) (hh:Pk.Heap es) (h:QM w B qb es pu) :
 Calls Tryz.prog 311 #[.pointer (some ⟨qb,0,none⟩)] w fun e w'=>e=.returned (.tuple #[.agg #[.int .i64 (e0.wt:Nat),.int .i64 (e0.tn:Nat),.slice (some ⟨e0.b,0,none⟩) e0.n e0.c],.bool true])∧∃ es',List.Perm es' (popped es)∧Pk.Heap es'∧QM w' B qb es' pu∧Fr B w w'∧FarQ qb w w':=by
 obtain ⟨r,cap,hr,hcap,hqr,hst,hown,x0,hcells,hfz⟩:=h.look hn (by omega);obtain ⟨en,hen⟩:∃ e,e=es.getD n noEnt:=⟨_,rfl⟩;obtain ⟨y1,y2,y3⟩:=hcells 0 (by omega) e0 he0;obtain ⟨z1,z2,z3⟩:=hcells n (by omega) en hen;simp only [Nat.zero_mul,Nat.zero_add] at y1 y2 y3;have f1:=hfz 0;have f2:=hfz 1;have f3:=hfz 2;have hqB:=h.hB;have hlq:=lt_of_heap hst;have hlr:=(hown.lt r rfl).2;have hne1:w.heap.size≠qb:=by omega
 have hne2:w.heap.size≠r:=by omega
 have hne3:w.heap.size+1≠qb:=by omega
 have hne4:w.heap.size+1≠r:=by omega
 have Hhh:=hidI hh;have Hen:=hidI hen;have He0:=hidI he0;have Hst:=hidI hst;have Hown:=hidI hown;have Hq:=hidI h;have Hn:=hidI hn;clear hcells hfz hst hown hen he0 hh h hn;go_enter Tryz.func311,Tryz.ntmps311
 go_wp2;have hst2:((w.alloc (.cells #[.int .i64 0,.int .i64 0,.slice none 0 0] 344)).alloc (.cells #[.int .i64 (e0.wt:Nat),.int .i64 (e0.tn:Nat),.slice (some ⟨e0.b,0,none⟩) e0.n e0.c] 344)).heap[qb]? = _:=(qaQ w _ _ qb hlq).trans Hst.out;have hown2:((w.alloc (.cells #[.int .i64 0,.int .i64 0,.slice none 0 0] 344)).alloc (.cells #[.int .i64 (e0.wt:Nat),.int .i64 (e0.tn:Nat),.slice (some ⟨e0.b,0,none⟩) e0.n e0.c] 344)).ownsRow B 344 3 _ _ _:=(Hown.out.alloc _).alloc _;have Hf2:=hidI (((Fr.refl B w).alloc hB (.cells #[.int .i64 0,.int .i64 0,.slice none 0 0] 344)).alloc (by simp;omega) (.cells #[.int .i64 (e0.wt:Nat),.int .i64 (e0.tn:Nat),.slice (some ⟨e0.b,0,none⟩) e0.n e0.c] 344))
 have HR:Hid (((w.alloc (.cells #[.int .i64 0,.int .i64 0,.slice none 0 0] 344)).alloc (.cells #[.int .i64 (e0.wt:Nat),.int .i64 (e0.tn:Nat),.slice (some ⟨e0.b,0,none⟩) e0.n e0.c] 344)).heap[w.heap.size]? = some (.cells #[.int .i64 0,.int .i64 0,.slice none 0 0] 344 (0,0))):=(Below.heap_alloc _ _ _ (by simp)).trans (heap_alloc_new _ _);have HN:Hid (((w.alloc (.cells #[.int .i64 0,.int .i64 0,.slice none 0 0] 344)).alloc (.cells #[.int .i64 (e0.wt:Nat),.int .i64 (e0.tn:Nat),.slice (some ⟨e0.b,0,none⟩) e0.n e0.c] 344)).heap[w.heap.size+1]? = some (.cells #[.int .i64 (e0.wt:Nat),.int .i64 (e0.tn:Nat),.slice (some ⟨e0.b,0,none⟩) e0.n e0.c] 344 (0,0))):=by
  have:=heap_alloc_new (w.alloc (.cells #[.int .i64 0,.int .i64 0,.slice none 0 0] 344)) (.cells #[.int .i64 (e0.wt:Nat),.int .i64 (e0.tn:Nat),.slice (some ⟨e0.b,0,none⟩) e0.n e0.c] 344)
  simp only [World.size_alloc] at this;exact this
 have Hx:=hidI x0;have Hk0:Hid (∀ k,k<w.heap.size→((w.alloc (.cells #[.int .i64 0,.int .i64 0,.slice none 0 0] 344)).alloc (.cells #[.int .i64 (e0.wt:Nat),.int .i64 (e0.tn:Nat),.slice (some ⟨e0.b,0,none⟩) e0.n e0.c] 344)).heap[k]? = w.heap[k]?):=qaQ w _ _;clear x0 y1 y2 y3 z1 z2 z3 f1 f2 f3 Hst Hown Hq
 generalize ((w.alloc (.cells #[.int .i64 0,.int .i64 0,.slice none 0 0] 344)).alloc (.cells #[.int .i64 (e0.wt:Nat),.int .i64 (e0.tn:Nat),.slice (some ⟨e0.b,0,none⟩) e0.n e0.c] 344))=W at *
 have hq2:QM W B qb es pu:=QM.make hqB hst2 Hn.out.symm hown2;obtain ⟨g1,g2,g3⟩:=qaD es n (by have:=Hn.out;omega);rw [←Hen.out] at g1 g2 g3;have x0:W.cell? ⟨qb,0,none⟩=some (.slice (some ⟨r,0,none⟩) (n+1) cap):=by rw [cell_of_row W qb 0 _ 341 (0,0) hst2];rfl
 have z1:W.cell? ⟨r,n*3,none⟩=some (.int .i64 (en.wt:Nat)):=by rw [hown2.cellAt (n*3) (by omega),Nat.mul_comm];exact g1
 have z2:W.cell? ⟨r,n*3+1,none⟩=some (.int .i64 (en.tn:Nat)):=by rw [hown2.cellAt (n*3+1) (by omega),Nat.mul_comm];exact g2
 have z3:W.cell? ⟨r,n*3+2,none⟩=some (.slice (some ⟨en.b,0,none⟩) en.n en.c):=by rw [hown2.cellAt (n*3+2) (by omega),Nat.mul_comm];exact g3
 obtain ⟨k1,k2,k3⟩:=qaD es 0 (by have:=Hn.out;omega);rw [←He0.out] at k1 k2 k3;have y1:W.cell? ⟨r,0,none⟩=some (.int .i64 (e0.wt:Nat)):=by rw [hown2.cellAt 0 (by omega)];exact k1
 have y2:W.cell? ⟨r,1,none⟩=some (.int .i64 (e0.tn:Nat)):=by rw [hown2.cellAt 1 (by omega)];exact k2
 have y3:W.cell? ⟨r,2,none⟩=some (.slice (some ⟨e0.b,0,none⟩) e0.n e0.c):=by rw [hown2.cellAt 2 (by omega)];exact k3
 have f1:=hown2.frozenAt 0;have f2:=hown2.frozenAt 1;have f3:=hown2.frozenAt 2;have hs1:=qbd hown2 0 en;have hfr1:Fr B w (setEnt W r 0 en):=qby (v:=.slice none 0 0) Hf2.out hown2 0 en;have hpo:=qh9 Hn.out Hen.out hs1;have hst3:(setEnt W r 0 en).heap[qb]? = _:=(qaj W r 0 en qb hqr).trans hst2;have HR3:Hid ((setEnt W r 0 en).heap[w.heap.size]? = _):=(qaj W r 0 en _ hne2).trans HR.out;have HN3:Hid ((setEnt W r 0 en).heap[w.heap.size+1]? = _):=(qaj W r 0 en _ hne4).trans HN.out;have HW:Hid (setEnt W r 0 en=((W.setCell ⟨r,0,none⟩ (.int .i64 (en.wt:Nat))).setCell ⟨r,1,none⟩ (.int .i64 (en.tn:Nat))).setCell ⟨r,2,none⟩ (.slice (some ⟨en.b,0,none⟩) en.n en.c)):=rfl;have Hpo:=hidI hpo;have Hst3:=hidI hst3;have Hfr1:=hidI hfr1;have hnn:¬n+1<n:=by omega
 clear hst2 hown2 hq2 g1 g2 g3 k1 k2 k3 hs1 hpo hst3 hfr1 Hf2 HR HN;go_region;rw [←HW.out];clear HW x0 y1 y2 y3 z1 z2 z3 f1 f2 f3;have Hk1:Hid (∀ k,k<w.heap.size→k≠r→(setEnt W r 0 en).drew.heap[k]? = w.heap[k]?):=fun k hk hr=>(qaj W r 0 en k hr).trans (Hk0.out k hk)
 have Hst4:Hid ((setEnt W r 0 en).drew.heap[qb]? = _):=Hst3;have HR4:Hid ((setEnt W r 0 en).drew.heap[w.heap.size]? = _):=HR3;have HN4:Hid ((setEnt W r 0 en).drew.heap[w.heap.size+1]? = _):=HN3;have Hpo4:=hidI Hpo.out.drew;have Hfr4:=hidI Hfr1.out.drew;clear Hst3 HR3 HN3 Hpo Hfr1
 generalize (setEnt W r 0 en).drew=W4 at *
 have hst4:=Hst4.out;have x0:W4.cell? ⟨qb,0,none⟩=some (.slice (some ⟨r,0,none⟩) (n+1) cap):=by rw [cell_of_row W4 qb 0 _ 341 (0,0) hst4];rfl
 have xf:=frozen_of_row W4 qb 0 _ 341 hst4;have hst5:=heap_setCell_same W4 qb 0 _ 341 (.slice (some ⟨r,0,none⟩) n cap) hst4;have hgv:(Value.slice (some ⟨r,0,none⟩) n cap).ownBlock≠some qb:=by simp [Value.ownBlock];exact fun e=>hqr e.symm
 have hown5:=ownsRow_setCell_other (a:=⟨qb,0,none⟩) Hpo4.out hgv (.slice (some ⟨r,0,none⟩) n cap);have hfr5:Fr B w (W4.setCell ⟨qb,0,none⟩ (.slice (some ⟨r,0,none⟩) n cap)):=⟨Hfr4.out.bel.setCell (p:=⟨qb,0,none⟩) hqB _,Hfr4.out.ints.set hst4 (by decide)⟩;have hpl:(popped es).length=n:=by rw [qbo,←Hn.out];rfl
 have hq5:=QM.make hqB hst5 hpl hown5;have Hcall:=hidI (qlG _ B qb (popped es) pu (hfr5.size hB) (by rw [hpl];omega) (qkv Hhh.out) hq5);have HR5:Hid ((W4.setCell ⟨qb,0,none⟩ (.slice (some ⟨r,0,none⟩) n cap)).heap[w.heap.size]? = _):=(Below.heap_setCell _ _ _ _ hne1).trans HR4.out;have HN5:Hid ((W4.setCell ⟨qb,0,none⟩ (.slice (some ⟨r,0,none⟩) n cap)).heap[w.heap.size+1]? = _):=(Below.heap_setCell _ _ _ _ hne3).trans HN4.out;have x5:(W4.setCell ⟨qb,0,none⟩ (.slice (some ⟨r,0,none⟩) n cap)).cell? ⟨qb,0,none⟩=some (.slice (some ⟨r,0,none⟩) n cap):=by rw [cell_of_row _ qb 0 _ 341 (0,0) hst5];rfl
 have Hx5:=hidI x5;have Hk2:Hid (∀ k,k<w.heap.size→k≠qb→k≠r→(W4.setCell ⟨qb,0,none⟩ (.slice (some ⟨r,0,none⟩) n cap)).heap[k]? = w.heap[k]?):=fun k hk hq hr=>(Below.heap_setCell W4 ⟨qb,0,none⟩ _ k hq).trans (Hk1.out k hk hr)
 have Hst5:=hidI hst5;have Hfr5:=hidI hfr5;have hcn:n≤cap:=by omega
 clear hst4 hst5 hown5 hfr5 hq5 hpl hgv HR4 HN4 Hpo4 Hfr4 Hst4 x5 hcap;go_wp2_with fail;refine Hcall.out.mono ?_;rintro e w6 ⟨rfl,es',hp,hh,hq6,hf6⟩;have hfar:∀ k o,k≠qb→k≠r→(W4.setCell ⟨qb,0,none⟩ (.slice (some ⟨r,0,none⟩) n cap)).heap[k]? = some o→w6.heap[k]? = some o:=fun k o hk1 hk2 ho=>(hf6.far k (lt_of_heap ho) hk1 (fun a b hc=>by rw [Hx5.out] at hc;cases hc;exact hk2 rfl)).trans ho
 have hR6:=hfar _ _ hne1 hne2 HR5.out;have hN6:=hfar _ _ hne3 hne4 HN5.out;have n1:w6.cell? ⟨w.heap.size+1,0,none⟩=some (.int .i64 (e0.wt:Nat)):=by rw [cell_of_row w6 _ 0 _ 344 (0,0) hN6];rfl
 have n2:w6.cell? ⟨w.heap.size+1,1,none⟩=some (.int .i64 (e0.tn:Nat)):=by rw [cell_of_row w6 _ 1 _ 344 (0,0) hN6];rfl
 have n3:w6.cell? ⟨w.heap.size+1,2,none⟩=some (.slice (some ⟨e0.b,0,none⟩) e0.n e0.c):=by rw [cell_of_row w6 _ 2 _ 344 (0,0) hN6];rfl
 have r1:w6.cell? ⟨w.heap.size,0,none⟩=some (.int .i64 0):=by rw [cell_of_row w6 _ 0 _ 344 (0,0) hR6];rfl
 have r2:w6.cell? ⟨w.heap.size,1,none⟩=some (.int .i64 0):=by rw [cell_of_row w6 _ 1 _ 344 (0,0) hR6];rfl
 have r3:w6.cell? ⟨w.heap.size,2,none⟩=some (.slice none 0 0):=by rw [cell_of_row w6 _ 2 _ 344 (0,0) hR6];rfl
 have rf1:=frozen_of_row w6 _ 0 _ 344 hR6;have rf2:=frozen_of_row w6 _ 1 _ 344 hR6;have rf3:=frozen_of_row w6 _ 2 _ 344 hR6;have Hk6:Hid (∀ k,k<w.heap.size→k≠qb→k≠r→w6.heap[k]? = w.heap[k]?):=fun k hk hq hr=>(hf6.far k (Nat.lt_of_lt_of_le hk Hfr5.out.bel.size) hq (fun a b hc=>by rw [Hx5.out] at hc;cases hc;exact hr rfl)).trans (Hk2.out k hk hq hr)
 have Hq6:=hidI hq6;have Hst6:=hidI (hf6.own.trans Hst5.out);have Hf6:=hidI (Hfr5.out.trans hf6.fr);have Hp:=hidI hp;have Hh:=hidI hh;clear hfar hq6 hf6 hp hh hR6 hN6 x0 xf;have HsR:Hid (w.heap.size≤w.heap.size):=Nat.le_refl _
 generalize hRe:w.heap.size=R at hB hlq hlr hne1 hne2 hne3 hne4 n1 n2 n3 r1 r2 r3 rf1 rf2 rf3 ⊢
 have HRe:=hidI hRe;clear hRe;go_wp2;have hres:Tryz.f311.results=#[.cell 2 344,.tmp 3]:=by kernel_rfl
 refine bodyPost_ret (v:=.tuple #[.agg #[.int .i64 (e0.wt:Nat),.int .i64 (e0.tn:Nat),.slice (some ⟨e0.b,0,none⟩) e0.n e0.c],.bool true]) ?_ rfl ?_
 ·simp [results,hres,go_sem,r1,r2,r3]
 have a1:=Hq6.out.away (R:=R) (o:=0) Hst6.out hne1 hne2 (.int .i64 (e0.wt:Nat));have a2:=a1.1.away (R:=R) (o:=1) a1.2 hne1 hne2 (.int .i64 (e0.tn:Nat));have a3:=a2.1.away (R:=R) (o:=2) a2.2 hne1 hne2 (.slice (some ⟨e0.b,0,none⟩) e0.n e0.c);refine ⟨rfl,es',Hp.out,Hh.out,a3.1,((Hf6.out.setNew hB (by have:=HRe.out;omega) _).setNew hB (by have:=HRe.out;omega) _).setNew hB (by have:=HRe.out;omega) _,fun k hk hq hx => ?_⟩;have hkR:k≠R:=by have:=HRe.out;omega
 rw [Below.heap_setCell _ _ _ k hkR,Below.heap_setCell _ _ _ k hkR,Below.heap_setCell _ _ _ k hkR];exact Hk6.out k hk hq (fun e=>by subst e;exact hx _ _ Hx.out)
theorem Tryz.info3':(Tryz.prog.info? 3).map (fun i=>(i.zero,i.size,i.bytes))=some (some (.int .i64 0),1,8):=by kernel_rfl
theorem qnA (w:World) (b n c:Nat) (z:Nat→Int) (h0:0<n) (hn:n≤1000) (hz:∀ i,i<n→w.cell? ⟨b,i,none⟩=some (.int .i64 (z i))) :
 Calls Tryz.prog 281 #[.slice (some ⟨b,0,none⟩) n c] w fun e w'=>w'=w∧∃ m:Int,e=.returned (.int .i64 m)∧(∀ i,i<n→z i≤m)∧∃ i,i<n∧z i=m:=by
 have x0:=hz 0 h0;have hn1:¬(n:Int)<1:=by omega
 have Hz:=hidI hz;clear hz;go_enter Tryz.func281,Tryz.ntmps281
 go_wp2;clear x0
 go_loopw [4,3] (fun i m wr=>wr=w∧∃ k:Nat,∃ x:Int,i=.int .i64 (k:Nat)∧m=.int .i64 x∧1≤k∧k≤n∧Hid ((∀ j,j<k→z j≤x)∧∃ j,j<k∧z j=x)) (fun i _ _=>n - (intOf i).toNat)
 case atStart=>exact ⟨rfl,1,z 0,rfl,rfl,by omega,by omega,⟨fun j hj=>by rw [show j=0 by omega];exact Int.le_refl _,0,by omega,rfl⟩⟩
 case round =>
  obtain ⟨rfl,k,x,rfl,rfl,hk1,hk2,Hx⟩:=hrel;by_cases hlt:k<n
  ·have x1:=Hz.out k hlt;by_cases hm:x≤z k
   ·have Hx2:Hid ((∀ j,j<k+1→z j≤z k)∧∃ j,j<k+1∧z j=z k):=⟨fun j hj=>by
     by_cases e:j=k
     ·subst e;exact Int.le_refl _
     exact Int.le_trans (Hx.out.1 j (by omega)) hm,k,by omega,rfl⟩
    generalize z k=y at *
    have hmax:max x y=y:=by omega
    go_wp2;go_roundw
    case rel=>exact ⟨by trivial,k+1,y,by go_num,rfl,by omega,by omega,Hx2⟩
    case measure=>simp [intOf];omega
   have Hx2:Hid ((∀ j,j<k+1→z j≤x)∧∃ j,j<k+1∧z j=x):=⟨fun j hj=>by
    by_cases e:j=k
    ·subst e;omega
    ·exact Hx.out.1 j (by omega),by
    obtain ⟨j,hj,e⟩:=Hx.out.2;exact ⟨j,by omega,e⟩⟩
   generalize z k=y at *
   have hmax:max x y=x:=by omega
   go_wp2;go_roundw
   case rel=>exact ⟨by trivial,k+1,x,by go_num,rfl,by omega,by omega,Hx2⟩
   case measure=>simp [intOf];omega
  have hkn:k=n:=by omega
  subst hkn;go_wp2;go_ret
  exact ⟨rfl,x,rfl,Hx.out.1,Hx.out.2⟩
def intsV (l:List Nat):List Value:=l.map fun x=>.int .i64 (x:Nat)
theorem qmD (w:World) (n:Nat) (h0:0<n) (hn:n≤1000) :
 Calls Tryz.prog 332 #[.slice none 0 0,.int .i64 (n:Nat)] w fun e w'=>∃ G,e=.returned (.slice (some ⟨w.heap.size,0,none⟩) 0 G)∧w'.ownsRow w.heap.size 3 1 (.slice (some ⟨w.heap.size,0,none⟩) 0 G) 0 []∧Below w.heap.size w w':=by
 obtain ⟨i0,hi,hz0,hz1,hz2⟩:=info_parts Tryz.info3';have hold:(Builtin.firstCells i0.size 0 (.slice none 0 0)).run Tryz.prog w.drew=.ok ([]:List Value).toArray w.drew:=run_firstCells_none w.drew i0.size 0 0 0;have hr:=fun ty=>Lib.run_append_grow_zeros w 22 3 ty 3 i0 (.int .i64 0) .i64 .i64 Tryz.underlying22 Tryz.underlying3 hi hz0 none 0 0 [] hold n (by omega) (by omega) (by omega) (by omega)
  (by rw [hz2];omega) (by rw [hz2,Nat.zero_add];exact growslice_fits h0 (by omega))
 rw [Nat.zero_add] at hr;obtain ⟨G,hG⟩:∃ G,G=grownCap w n 0 3:=⟨_,rfl⟩;have hGn:n≤G:=by rw [hG];exact grownCap_ge w _ _ _
 have hGm:G≤maxLen:=by rw [hG];exact grownCap_le_maxLen w n 0 3 (by unfold maxLen;omega)
 have hG63:G≤9223372036854775807:=by unfold maxLen at hGm;omega
 rw [←hG] at hr;obtain ⟨C,hC⟩:∃ C:Array Value,C=([]:List Value).toArray++Builtin.zeroCells (Value.int IntKind.i64 0).cells n++Builtin.zeroCells (Value.int IntKind.i64 0).cells (G - n):=⟨_,rfl⟩;rw [←hC] at hr;have hCs:C.size=G:=by
  rw [hC,Array.size_append,Array.size_append,size_zeroCells,size_zeroCells]
  have:(Value.int IntKind.i64 0).cells.size=1:=rfl
  rw [this];simp;omega
 have Hown:Hid ((w.drew.alloc (.cells C 3)).ownsRow w.heap.size 3 1 (.slice (some ⟨w.heap.size,0,none⟩) 0 G) 0 []):=⟨rfl,.inr ⟨_,G,C,rfl,Nat.le_refl _,heap_alloc_new _ _,by omega,hGm,by omega,by simp⟩⟩;have Hb:Hid (Below w.heap.size w (w.drew.alloc (.cells C 3))):=(Below.refl _ w).drew.alloc (Nat.le_refl _) _;clear hC hCs hG hold;go_enter Tryz.func332,Tryz.ntmps332
 go_wp2_with (at_builtin;refine Lib.wpList_append_run _ rfl _ _ _ _ rfl _ _ rfl rfl _ _ (hr _) ?_);go_ret
 exact ⟨G,rfl,Hown.out,Hb.out⟩
theorem qeR {w:World} {B b n c:Nat} {l:List Nat} (h:w.ownsRow B 3 1 (.slice (some ⟨b,0,none⟩) n c) n (intsV l)):∀ j u,(intsV l)[j]? = some u→w.cell? ((⟨b,0,none⟩:Addr).add j)=some u:=by
 intro j u hu;have hj:j<n:=by
  rcases Nat.lt_or_ge j n with h2 | h2
  ·exact h2
  rw [List.getElem?_eq_none (by rw [h.1];omega)] at hu;cases hu
 have hadd:(⟨b,0,none⟩:Addr).add j=⟨b,j,none⟩:=by unfold Addr.add;split<;>simp_all
 rw [hadd,h.cellAt j (by omega),hu]
theorem qdt (l:List Nat):∀ u∈intsV l,u.oneCell'=true:=by
 intro u hu;unfold intsV at hu;simp at hu;obtain ⟨x,_,rfl⟩:=hu;rfl
theorem qdC {w w':World} {B K n:Nat} {e:TypeId} {size:Nat} {v:Value} {xs:List Value} (h:w.ownsRow B e size v n xs) (hb:Below K w w') (hK:w.heap.size≤K):w'.ownsRow B e size v n xs:=by
 refine ⟨h.1,?_⟩;rcases h.2 with h1 | ⟨g,cap,cur,h1,h2,h3,h4⟩
 ·exact .inl h1
 exact .inr ⟨g,cap,cur,h1,h2,(hb.block g (Nat.lt_of_lt_of_le (lt_of_heap h3) hK)).trans h3,h4⟩
theorem clone_ints (w:World) (b n c:Nat) (l:List Nat) (h0:0<n) (hn:n≤1000) (h:w.ownsRow 0 3 1 (.slice (some ⟨b,0,none⟩) n c) n (intsV l)) :
 Calls Tryz.prog 279 #[.slice (some ⟨b,0,none⟩) n c] w fun e w'=>∃ g cap,e=.returned (.slice (some ⟨g,0,none⟩) n cap)∧w'.ownsRow w.heap.size 3 1 (.slice (some ⟨g,0,none⟩) n cap) n (intsV l)∧Below w.heap.size w w':=by
 obtain ⟨i0,hi,hz0,hz1,hz2⟩:=info_parts Tryz.info3';have Hown:=hidI h;clear h;have q22:∀ (w:World) (a:Option Addr) (n c n' c':Nat),(binOp .eql 22 (.slice a n c) (.slice none n' c')).run Tryz.prog w=.ok (.bool a.isNone) w:=fun w a n c n' c'=>Lib.run_eql_slice_nil w _ _ a n c n' c' Tryz.underlying22
 go_enter Tryz.func279,Tryz.ntmps279
 go_wp2_with (at_builtin;refine wpList_append_lies _ rfl _ _ 22 rfl w.heap.size 3 i0 (.int .i64 0) 1 8 Tryz.underlying22 hi hz0 hz1 hz2 rfl (by decide) _ 0 [] rfl (World.ownsRow_made w #[] 0 (Nat.le_refl _) (Nat.zero_le _) rfl) ⟨b,0,none⟩ n c (intsV l) rfl ?qc1 ?qc2 ?qc3 ?qc7 ?qc4 ?qc5 ?qc6 (w.heap.size+1) ?qc8 ?_)
 case qc1=>exact Hown.out.1
 case qc2=>exact qeR (Hown.out.alloc _)
 case qc3=>exact qdt l
 case qc4=>unfold maxLen;omega
 case qc5=>omega
 case qc6=>simp
 case qc7=>omega
 case qc8=>simp
 intro g cap w1 hown hgrow hat hlt;have Hown1:=hidI hown;have Hb:=hidI (((Below.refl _ w).alloc (Nat.le_refl _) _).grown hgrow (by simp) (by intro k hk;simp [Value.ownBlock] at hk;omega));clear hown hgrow hat
 try rw [Nat.zero_add]
 go_wp2;go_ret
 exact ⟨g,cap,rfl,Hown1.out,Hb.out⟩
theorem qiy (w:World) (sb ab an ac bb bn bc:Nat) (A B:List Nat) (ha0:0<an) (hb0:0<bn) (hn:an+bn≤1000) (hs:w.heap[sb]? = some (.cells #[.slice (some ⟨ab,0,none⟩) an ac,.slice (some ⟨bb,0,none⟩) bn bc] 22 (0,0)))
 (ha:w.ownsRow 0 3 1 (.slice (some ⟨ab,0,none⟩) an ac) an (intsV A)) (hb:w.ownsRow 0 3 1 (.slice (some ⟨bb,0,none⟩) bn bc) bn (intsV B)) :
 Calls Tryz.prog 312 #[.slice (some ⟨sb,0,none⟩) 2 2] w fun e w'=>∃ g cap,e=.returned (.slice (some ⟨g,0,none⟩) (an+bn) cap)∧w'.ownsRow w.heap.size 3 1 (.slice (some ⟨g,0,none⟩) (an+bn) cap) (an+bn) (intsV (A++B))∧Below w.heap.size w w':=by
 obtain ⟨i0,hi,hz0,hz1,hz2⟩:=info_parts Tryz.info3';have x0:w.cell? ⟨sb,0,none⟩=some (.slice (some ⟨ab,0,none⟩) an ac):=by rw [cell_of_row w sb 0 _ 22 (0,0) hs];rfl
 have x1:w.cell? ⟨sb,1,none⟩=some (.slice (some ⟨bb,0,none⟩) bn bc):=by rw [cell_of_row w sb 1 _ 22 (0,0) hs];rfl
 have Hs:=hidI hs;have Ha:=hidI ha;have Hb:=hidI hb;clear hs ha hb;go_enter Tryz.func312,Tryz.ntmps312
 go_wp2
 go_loopw [11,3] (fun i s wr=>w=wr∧((i=.int .i64 0∧s=.int .i64 0)∨(i=.int .i64 1∧s=.int .i64 (an:Nat))∨(i=.int .i64 2∧s=.int .i64 ((an:Int)+(bn:Int))))) (fun i _ _=>2 - (intOf i).toNat)
 case atStart=>exact ⟨rfl,.inl ⟨rfl,rfl⟩⟩
 case round =>
  obtain ⟨rfl,⟨rfl,rfl⟩ | ⟨rfl,rfl⟩ | ⟨rfl,rfl⟩⟩:=hrel
  ·have h1:¬(an:Int)<0:=by omega
   go_wp2;go_roundw
   case rel=>exact ⟨by trivial,.inr (.inl ⟨rfl,rfl⟩)⟩
   case measure=>simp [intOf]
  ·have h1:¬(an:Int)+(bn:Int)<0:=by omega
   go_wp2;go_roundw
   case rel=>exact ⟨by trivial,.inr (.inr ⟨rfl,rfl⟩)⟩
   case measure=>simp [intOf]
  have hgr:=hidI (qmD w (an+bn) (by omega) (by omega));rw [show ((an+bn:Nat):Int)=(an:Int)+(bn:Int) by omega] at hgr;go_wp2_with fail;refine hgr.out.mono ?_;rintro e w1 ⟨G,rfl,hown1,hbel1⟩;have Hown1:=hidI hown1;have Hbel1:=hidI hbel1;clear hown1 hbel1 hgr;go_wp2
  go_loopw [27,6] (fun i v wq=>Hid (Below w.heap.size w wq)∧((i=.int .i64 0∧∃ g c,v=.slice (some ⟨g,0,none⟩) 0 c∧Hid (wq.ownsRow w.heap.size 3 1 (.slice (some ⟨g,0,none⟩) 0 c) 0 []))∨(i=.int .i64 1∧∃ g c,v=.slice (some ⟨g,0,none⟩) an c∧Hid (wq.ownsRow w.heap.size 3 1 (.slice (some ⟨g,0,none⟩) an c) an (intsV A)))∨(i=.int .i64 2∧∃ g c,v=.slice (some ⟨g,0,none⟩) (an+bn) c∧Hid (wq.ownsRow w.heap.size 3 1 (.slice (some ⟨g,0,none⟩) (an+bn) c) (an+bn) (intsV (A++B)))))) (fun i _ _=>2 - (intOf i).toNat)
  case atStart=>exact ⟨Hbel1,.inl ⟨rfl,_,G,rfl,Hown1⟩⟩
  obtain ⟨Hbq,⟨rfl,g,cc,rfl,Hq⟩ | ⟨rfl,g,cc,rfl,Hq⟩ | ⟨rfl,g,cc,rfl,Hq⟩⟩:=hrel
  ·have hsb:=(Hbq.out.block sb (lt_of_heap Hs.out)).trans Hs.out;have y0:wr.cell? ⟨sb,0,none⟩=some (.slice (some ⟨ab,0,none⟩) an ac):=by rw [cell_of_row wr sb 0 _ 22 (0,0) hsb];rfl
   have Ha1:=hidI (qdC Ha.out Hbq.out (Nat.le_refl _));have hszq:=Hbq.out.size;clear hsb x0 x1;go_wp2_with (at_builtin;refine wpList_append_lies _ rfl _ _ 22 rfl w.heap.size 3 i0 (.int .i64 0) 1 8 Tryz.underlying22 hi hz0 hz1 hz2 rfl (by decide) _ 0 [] rfl Hq.out ⟨ab,0,none⟩ an ac (intsV A) rfl Ha1.out.1 (qeR Ha1.out) (qdt A) (by omega) (by unfold maxLen;omega) (by omega) (by omega) wr.heap.size rfl ?_);intro g2 cap2 w2 hown hgrow hat hlt;have Hown2:Hid (w2.ownsRow w.heap.size 3 1 (.slice (some ⟨g2,0,none⟩) an cap2) an (intsV A)):=by
    show w2.ownsRow _ _ _ _ _ _;simpa using hown
   have Hb2:=hidI (Hbq.out.grown hgrow (by omega) (fun q hq=>(Hq.out.lt q hq).1));clear hown hgrow hat y0 hlt
   try rw [Nat.zero_add]
   go_wp2;go_roundw
   case rel=>exact ⟨Hb2,.inr (.inl ⟨rfl,g2,cap2,by simp,Hown2⟩)⟩
   case measure=>simp [intOf]
  ·have hsb:=(Hbq.out.block sb (lt_of_heap Hs.out)).trans Hs.out;have y0:wr.cell? ⟨sb,1,none⟩=some (.slice (some ⟨bb,0,none⟩) bn bc):=by rw [cell_of_row wr sb 1 _ 22 (0,0) hsb];rfl
   have Hb1:=hidI (qdC Hb.out Hbq.out (Nat.le_refl _));have hszq:=Hbq.out.size;clear hsb x0 x1;go_wp2_with (at_builtin;refine wpList_append_lies _ rfl _ _ 22 rfl w.heap.size 3 i0 (.int .i64 0) 1 8 Tryz.underlying22 hi hz0 hz1 hz2 rfl (by decide) _ an (intsV A) rfl Hq.out ⟨bb,0,none⟩ bn bc (intsV B) rfl Hb1.out.1 (qeR Hb1.out) (qdt B) (by omega) (by unfold maxLen;omega) (by omega) (by omega) wr.heap.size rfl ?_);intro g2 cap2 w2 hown hgrow hat hlt;have Hown2:Hid (w2.ownsRow w.heap.size 3 1 (.slice (some ⟨g2,0,none⟩) (an+bn) cap2) (an+bn) (intsV (A++B))):=by
    show w2.ownsRow _ _ _ _ _ _;unfold intsV at hown ⊢;rw [List.map_append];exact hown
   have Hb2:=hidI (Hbq.out.grown hgrow (by omega) (fun q hq=>(Hq.out.lt q hq).1));clear hown hgrow hat y0 hlt;go_wp2;go_roundw
   case rel=>exact ⟨Hb2,.inr (.inr ⟨rfl,g2,cap2,rfl,Hown2⟩)⟩
   case measure=>simp [intOf]
  go_wp2;go_ret
  exact ⟨g,cc,rfl,Hq.out,Hbq.out⟩
end Go.Proofs.YtodmdkhdbfbfgaaGreatDoor.S1
namespace Go.Proofs
open Go.RowKit Go.Maps Go.Sort Go.Shelf
shelf_lay_g SlLaysZI.n7 Ggz 7 at Tryz 140 as Tryz.keysA
shelf_lay_g SlLaysZI.n6 Ggz 6 at Tryz 139 as Tryz.sortedA
shelf_lay_g SlLaysM.n5 Slgm 5 at Tryz 201 as Tryz.sortA
theorem Tryz.sortsA (m:Nat):AnyZI.SortsIn Tryz.prog Tryz.sortedA_ren Fence.wide m:=
 ⟨fun blk off cap ss W hH hblk hsz=>callsIn_wide.2 (AnyM.slices_Sort_int Tryz.sortA blk off cap ss W hH hblk hsz),
  fun p cap W=>callsIn_wide.2 (AnyM.slices_Sort_int_none Tryz.sortA p cap W)⟩
namespace YtodmdkhdbfbfgaaGreatDoor.S1
theorem qjU (mb:Option Nat) (w:World):Calls Tryz.prog 140 #[.map mb] w fun e w'=>e=.returned (.func (.func 202) #[] #[.pointer (some ⟨w.heap.size,0,none⟩)])∧w'=w.alloc (.cells #[.map mb] 200):=
 (callsIn_wide (n:=5)).1 (AnyZI.keys_in Tryz.keysA Fence.wide 5 trivial rfl mb w)
theorem qgy {H:Type} {R:Value→Option (DataW H × List MemPlace)} (w:World) (Bm g n:Nat) (D:DataW H) (hBm:Bm<w.heap.size) (hm:w.cell? ⟨Bm,0,none⟩=some (.map (some g))) (hown:w.ownsMap Tryz.prog 3 R g n D) (hn:Maps.size D≤100000) :
 Calls Tryz.prog 139 #[.func (.func 202) #[] #[.pointer (some ⟨Bm,0,none⟩)]] w fun e w'=>∃ (v:Value) (ss:List Int),e=.returned v∧ss.Perm (intKeys D)∧w'.ownsRow w.heap.size 3 1 v ss.length ((ss.mergeSort (fun x y=>decide (x≤y))).map encZ)∧(v=.slice none 0 0↔ss=[])∧Below w.heap.size w w':=by
 have hseq:SeqGives Fence.wide 2 Tryz.prog 202 #[.pointer (some ⟨Bm,0,none⟩)] encZ (fun ss=>ss.Perm (intKeys D)) (Maps.size D) w:=
  AnyZI.keys_gives (ρ:=Tryz.keysA_ren) { Tryz.keysA with } Fence.wide _ trivial rfl (by omega) Bm g n D _ hBm hm hown
 have cS:=AnyZI.sorted_in Tryz.sortedA Fence.wide 5 trivial trivial trivial trivial rfl (by omega) (Tryz.sortsA _) (enters_of Tryz.func201 (by kernel_rfl) rfl) 202 #[.pointer (some ⟨Bm,0,none⟩)] trivial (enters_of Tryz.func202 (by kernel_rfl) rfl) _ _ (by unfold maxLen;omega) (by omega) _ hseq;change CallsIn _ _ Tryz.prog 139 _ _ _ at cS;exact (callsIn_wide (n:=5)).1 cS
end YtodmdkhdbfbfgaaGreatDoor.S1
end Go.Proofs
namespace Go.Proofs
open Go.Shelf
def Tryz.lays169_ren:Go.Shelf.Ren:=⟨fun | 169=>137 | n=>n,fun | 70=>191 | 9=>9 | 0=>0 | 72=>193 | 37=>111 | 127=>242 | 3=>3 | 5=>5 | n=>n,fun | n=>n⟩
theorem Tryz.lays169:Go.Proofs.Lays.n169 Tryz.prog Tryz.lays169_ren:={
 mixed:=by kernel_rfl
 f169:=Tryz.func137.trans (congrArg some (by kernel_rfl))
 t0:=Tryz.underlying0
 a0:=Tryz.isAgg0
 z0:=Tryz.sizeOf0
 v0:=Tryz.zeroValue0
 t3:=Tryz.underlying3
 a3:=Tryz.isAgg3
 z3:=Tryz.sizeOf3
 v3:=Tryz.zeroValue3
 t9:=Tryz.underlying9
 a9:=Tryz.isAgg9
 z9:=Tryz.sizeOf9
 v9:=Tryz.zeroValue9
 t37:=Tryz.underlying111
 a37:=Tryz.isAgg111
 z37:=Tryz.sizeOf111
 v37:=Tryz.zeroValue111
 t70:=Tryz.underlying191
 a70:=Tryz.isAgg191
 z70:=Tryz.sizeOf191
 v70:=Tryz.zeroValue191
 t72:=Tryz.underlying193
 a72:=Tryz.isAgg193
 z72:=Tryz.sizeOf193
 v72:=Tryz.zeroValue193
 t127:=Tryz.underlying242
 a127:=Tryz.isAgg242
 z127:=Tryz.sizeOf242
 v127:=Tryz.zeroValue242 }
theorem Tryz.Builder_Extra_169:Builder.Extra Tryz.prog Tryz.lays169_ren:={
 sizeBuilder:=by kernel_rfl
 liesBuilder:=by kernel_rfl
 t5:=Tryz.underlying5
 a5:=Tryz.isAgg5
 z5:=Tryz.sizeOf5
 v5:=Tryz.zeroValue5
 infoByte:=by kernel_rfl
 cellsByte:=by kernel_rfl
 sizeByte:=by kernel_rfl
 neB5:=by decide }
open Go.RowKit in
theorem Tryz.Builder_String_any_k (B b:Nat) (l:List UInt8) (w:World) (h:Lib.IsBuilderF 193 5 B b (Lib.byteCells l) w) (hBw:B≤w.heap.size) :
 Calls Tryz.prog 137 #[.pointer (some ⟨b,0,none⟩)] w fun e w'=>e=.returned (.string ⟨l.toArray⟩)∧(Lib.IsBuilderF 193 5 B b (Lib.byteCells l) w'∧Below B w w'∧Lib.OthersKept 5 (some b) w w'):=Any.Builder_String_any_k Tryz.lays169 Tryz.Builder_Extra_169 B b l w h hBw
end Go.Proofs
namespace Go.Proofs.YtodmdkhdbfbfgaaGreatDoor
open Go.RowKit Go.Nt
theorem sizeB:(Tryz.prog.info? 193).map (·.size)=some 2:=by kernel_rfl
theorem liesB:liesAt Tryz.prog Tryz.prog.depth 193 (2/Tryz.prog.cellsOf 193) 0 193 1=true:=by kernel_rfl
theorem qde (b:Nat) (w:World) (h0:w.cell? ⟨b,0,none⟩=some (.pointer none)) (hf:w.frozen? ⟨b,0,none⟩=false) (hsh:w.shape? b=some (193,2)) :
 Calls Tryz.prog 199 #[.pointer (some ⟨b,0,none⟩)] w fun e w'=>e=.returned (.tuple #[])∧w'=w.setCell ⟨b,0,none⟩ (.pointer (some ⟨b,0,none⟩)):=by
 obtain ⟨j,hj,hjs⟩:=Option.map_eq_some_iff.1 sizeB;have k1:=Lib.run_to_unsafe (P:=Tryz.prog) w ⟨b,0,none⟩ Tryz.underlying191 Tryz.underlying285 hj (by rw [hjs];decide) hsh (Nat.zero_lt_succ 1);have k2:=Lib.run_from_unsafe (P:=Tryz.prog) w ⟨b,0,none⟩ Tryz.underlying285 Tryz.underlying191 hj hsh liesB;clear hj hjs;go_enter Tryz.func199,Tryz.ntmps199
 go_wp2;rw [run_callFunc_extern Tryz.func251 (by kernel_rfl) (by kernel_rfl) (by kernel_rfl) (e:=Extern.AbiNoEscape.same) (by kernel_rfl)];rw [Lib.run_noEscape];simp only [Result.andThen];rw [Oper.upon_value];go_wp2;go_end0
 exact ⟨rfl,rfl⟩
theorem qdT (b:Nat) (w:World) (h0:w.cell? ⟨b,0,none⟩=some (.pointer (some ⟨b,0,none⟩))) :
 Calls Tryz.prog 199 #[.pointer (some ⟨b,0,none⟩)] w fun e w'=>e=.returned (.tuple #[])∧w'=w:=by
 obtain ⟨j,hj,hjs⟩:=Option.map_eq_some_iff.1 sizeB;have k1:=Lib.run_neq_ptr_same (P:=Tryz.prog) w ⟨b,0,none⟩ Tryz.underlying191 hj;clear hj hjs;go_enter Tryz.func199,Tryz.ntmps199
 go_wp2;go_end0
 exact ⟨rfl,rfl⟩
def BdAt (w:World) (b:Nat) (l:Bs):Prop:=∃ p v,w.heap[b]? = some (.cells #[p,v] 193 (0,0))∧(p=.pointer none∨p=.pointer (some ⟨b,0,none⟩))∧Bytes w (b+1) v l
theorem BdAt.lib {w:World} {b:Nat} {l:Bs} (h:BdAt w b l):Lib.IsBuilderF 193 5 b b (Lib.byteCells l) w:=by
 obtain ⟨p,v,hb,hp,hv⟩:=h;have hown:w.ownsRow b 5 1 v (bv l).length (bv l):=by
  have h1:=hv;unfold Bytes at h1;rw [qaX];refine ⟨h1.1,?_⟩;rcases h1.2 with h2 | ⟨g,cap,cur,e,hg,h3⟩
  ·exact .inl h2
  exact .inr ⟨g,cap,cur,e,by omega,h3⟩
 have hne:v.ownBlock≠some b:=by
  intro e
  have:=(World.ownsRow.lt hv b e).1
  omega
 have hB:Lib.byteCells l=bv l:=rfl;rw [hB];rcases hp with rfl | rfl
 ·exact .inl ⟨Nat.le_refl _,v,hb,World.ownsRowF_of hown,hne⟩
 exact .inr ⟨Nat.le_refl _,v,hb,World.ownsRowF_of hown,hne⟩
theorem BdAt.of_blocks {w w':World} {b:Nat} {l:Bs} (h:BdAt w b l) (hk:But 90 w w'∨∀ k,k<w.heap.size→w'.heap[k]? = w.heap[k]?):BdAt w' b l:=by
 obtain ⟨p,v,hb,hp,hv⟩:=h;rcases hk with hk | hk
 ·refine ⟨p,v,hk.cells hb (by decide),hp,hv.1,?_⟩;rcases hv.2 with h2 | ⟨g,cap,cur,e,hg,h3,h4⟩
  ·exact .inl h2
  exact .inr ⟨g,cap,cur,e,hg,hk.cells h3 (by decide),h4⟩
 refine ⟨p,v,(hk b (lt_of_heap hb)).trans hb,hp,hv.1,?_⟩;rcases hv.2 with h2 | ⟨g,cap,cur,e,hg,h3,h4⟩
 ·exact .inl h2
 exact .inr ⟨g,cap,cur,e,hg,(hk g (lt_of_heap h3)).trans h3,h4⟩
def BdKept (b:Nat) (w w':World):Prop:=w'.os=w.os∧w'.tape=w.tape∧w'.output=w.output∧w.heap.size≤w'.heap.size∧∀ (k:Nat) (o:Obj),w.heap[k]? = some o→k≠b→isOf 5 o=false→w'.heap[k]? = some o
theorem qdm (b:Nat) (l:Bs) (s:Bs) (w:World) (h:BdAt w b l) (hl:l.length≤100000000) (hs:s.length≤100000000) :
 Calls Tryz.prog 136 #[.pointer (some ⟨b,0,none⟩),.string (txt s)] w fun e w'=>(∃ v,e=.returned v)∧BdAt w' b (l++s)∧BdKept b w w'∧Below b w w':=by
 obtain ⟨i0,hi,hz0,hz1,hz2⟩:=info_parts Tryz.info5;obtain ⟨p,v,hb,hp,hv⟩:=h;have hbl:=lt_of_heap hb;obtain ⟨X,hX⟩:∃ X,X=txt s:=⟨_,rfl⟩;have Sx:X.size=s.length:=by rw [hX,qaa]
 rw [←hX];have HX:=hidI hX;have HS:=hidI Sx;have hX9:X.size≤100000000:=by omega
 have A:Hid (Calls Tryz.prog 199 #[.pointer (some ⟨b,0,none⟩)] w fun e w'=>e=.returned (.tuple #[])∧w'.heap[b]? = some (.cells #[.pointer (some ⟨b,0,none⟩),v] 193 (0,0))∧(∀ k,k≠b→w'.heap[k]? = w.heap[k]?)∧w'.heap.size=w.heap.size∧w'.os=w.os∧w'.tape=w.tape∧w'.output=w.output):=by
  refine hidI ?_;rcases hp with rfl | rfl
  ·refine (qde b w (by rw [cell_of_row w b 0 _ 193 (0,0) hb];rfl) (frozen_of_row w b 0 _ 193 hb) (by simp [World.shape?,hb])).mono ?_;rintro e w' ⟨rfl,rfl⟩;exact ⟨rfl,heap_setCell_same w b 0 _ 193 _ hb,fun k hk=>Below.heap_setCell w ⟨b,0,none⟩ _ k hk,by simp,rfl,rfl,rfl⟩
  refine (qdT b w (by rw [cell_of_row w b 0 _ 193 (0,0) hb];rfl)).mono ?_;rintro e w' ⟨rfl,rfl⟩;exact ⟨rfl,hb,fun _ _=>rfl,rfl,rfl,rfl,rfl⟩
 obtain ⟨n,hn⟩:∃ n,n=l.length:=⟨_,rfl⟩;have Hn:=hidI hn;have Hv:=hidI hv;have hn9:n≤100000000:=by omega
 clear hb hp hv hX Sx hn;go_enter Tryz.func136,Tryz.ntmps136
 go_wp2_with fail;refine A.out.mono ?_;rintro e W1 ⟨rfl,hb1,hk1,hs1,ho1,ht1,hu1⟩;have hv1:W1.ownsRow (b+1) 5 1 v n (bv l):=by
  have h1:=Hv.out;unfold Bytes at h1;rw [←Hn.out] at h1;refine ⟨h1.1,?_⟩;rcases h1.2 with h2 | ⟨g,cap,cur,e,hg,h3,h4⟩
  ·exact .inl h2
  exact .inr ⟨g,cap,cur,e,hg,(hk1 g (by omega)).trans h3,h4⟩
 have c1:W1.cell? ⟨b,1,none⟩=some v:=by rw [cell_of_row W1 b 1 _ 193 (0,0) hb1];rfl
 have Ho:=hidI hv1;have Hb1:=hidI hb1;obtain ⟨a9,c9,rfl⟩:=Bytes.slice (w:=W1) (B:=b+1) (v:=v) (l:=l) (by unfold Bytes;rw [←Hn.out];exact hv1);rw [←Hn.out] at Ho c1 Hb1;have hK1:=hidI (And.intro hk1 (And.intro hs1 (And.intro ho1 (And.intro ht1 hu1))));clear A hk1 hb1 hv1 hs1 ho1 ht1 hu1;go_wp2_with (at_builtin;refine Lib.wpList_append_own_string _ rfl (.tmp 12) (.tmp 13) 111 9 rfl (b+1) 5 i0 Tryz.underlying111 Tryz.underlying9 hi hz0 hz1 hz2 _ _ _ rfl Ho.out X rfl ?c3 ?c4 ?c5 ?_)
 case c3=>unfold maxLen;omega
 case c4=>omega
 case c5=>have:=hK1.out.2.1;omega
 intro v2 W2 hown2 hgrow2 _;have hbl1:b<W1.heap.size:=lt_of_heap Hb1.out;have hne:b≠b+1:=by omega
 have hb2:W2.heap[b]? = some (.cells #[.pointer (some ⟨b,0,none⟩),.slice a9 n c9] 193 (0,0)):=(hgrow2.block b hbl1 (fun e=>by have:=(World.ownsRow.lt Ho.out b e.symm).1;omega)).trans Hb1.out;have hY2:Bytes W2 (b+1) v2 (l++s):=by
  unfold Bytes;have h1:=HX.out;have h2:=Hn.out;have h3:=HS.out;rw [qaO,List.length_append,←h2,←h3,←qf0 s,←h1];exact hown2
 obtain ⟨a2,c2,rfl⟩:=hY2.slice;have d1:W2.cell? ⟨b,1,none⟩=some (.slice a9 n c9):=by rw [cell_of_row W2 b 1 _ 193 (0,0) hb2];rfl
 have f1:=frozen_of_row W2 b 1 _ 193 hb2;obtain ⟨ns,hns⟩:∃ ns,ns=(l++s).length:=⟨_,rfl⟩;rw [←hns] at hY2;rw [show (l++s).length=ns from hns.symm] at hown2 ⊢;obtain ⟨W3,hW3⟩:∃ W3,W3=W2.setCell ⟨b,1,none⟩ (.slice a2 ns c2):=⟨_,rfl⟩;have hb3:W3.heap[b]? = some (.cells #[.pointer (some ⟨b,0,none⟩),.slice a2 ns c2] 193 (0,0)):=by rw [hW3];exact heap_setCell_same _ b 1 _ 193 _ hb2
 have eo:∀ k,k≠b→W3.heap[k]? = W2.heap[k]? := fun k hk=>by rw [hW3];exact Below.heap_setCell W2 ⟨b,1,none⟩ _ k hk
 have HB3:Hid (BdAt W3 b (l++s)):=hidI ⟨_,_,hb3,.inr rfl,hY2.1,by
  rcases hY2.2 with h2 | ⟨g,cap,cur,e,hg,h3,h4⟩
  ·exact .inl h2
  exact .inr ⟨g,cap,cur,e,hg,(eo g (by omega)).trans h3,h4⟩⟩
 obtain ⟨q1,q2,q3,q4,q5⟩:=hK1.out;have hsz3:w.heap.size≤W3.heap.size:=by rw [hW3];have:=hgrow2.size;simp;omega
 have HK3:Hid (BdKept b w W3):=hidI ⟨by rw [hW3];exact hgrow2.os.trans q3,by rw [hW3];exact hgrow2.tape.trans q4,by rw [hW3];exact hgrow2.output.trans q5,hsz3,fun k o hk hkb ho=>by
  rw [eo k hkb];have hk1:=(q1 k hkb).trans hk;refine (hgrow2.block k (lt_of_heap hk1) (fun e => ?_)).trans hk1;rcases Ho.out.2 with ⟨hv,_⟩ | ⟨g,cap,cur,hv,_,hh,_⟩
  ·cases hv;cases e
  cases hv
  cases e
  rw [hh] at hk1;cases hk1
  simp [isOf] at ho⟩
 have HL3:Hid (Below b w W3):=hidI ⟨HK3.out.1,HK3.out.2.1,HK3.out.2.2.1,hsz3,fun k hk=>by
  rw [eo k (by omega)];refine (hgrow2.block k (by omega) (fun e => ?_)).trans (q1 k (by omega))
  have:=(World.ownsRow.lt Ho.out k e.symm).1
  omega⟩
 have HW3:=hidI hW3;clear hown2 hgrow2 hY2 hb2 hb3 eo q1 q2 q3 q4 q5 hW3 hsz3 hns;go_wp2_with (first | (rw [←HW3.out]) | fail);go_ret2
 exact ⟨⟨_,rfl⟩,HB3.out,HK3.out,HL3.out⟩
end Go.Proofs.YtodmdkhdbfbfgaaGreatDoor
