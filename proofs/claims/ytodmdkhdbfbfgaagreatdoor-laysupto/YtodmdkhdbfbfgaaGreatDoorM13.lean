/- Lemmas. -/
import Derived.WalkSmall
import Derived.Lib.Walk
import Derived.Lib.SliceRun
import Derived.LoopN
import Derived.Shelf.SlIterI.Nil
import Derived.Shelf.SortM.Plain
import Derived.Shelf.SortM.SortNone
import Derived.Ground.GgzProg
import Derived.Ground.SlgmProg
import Derived.Test.YtodmdkhdbfbfgaaGreatDoorM12
set_option linter.unusedVariables false
set_option linter.unusedSimpArgs false
set_option maxRecDepth 100000
set_option maxHeartbeats 8000000
open Go.Proofs.Tryz
abbrev Go.DC:=@Go.rounds_succ
namespace Go.Proofs.YtodmdkhdbfbfgaaGreatDoor
namespace S1
open Go.RowKit Pk
variable {w a W b:D7} {B qb pu n r i j:Nat} {xs:List Eo} {ei ej:Eo}
theorem QM.look(h:QM w B qb xs pu)(hn:n=xs.length)(h0:0<n):∃r cap,B<=r/\n<=cap/\qb≠r/\w.heap[qb]? = some (.cells #[.slice (some ⟨r,0,none⟩) n cap,.int .i64 pu] 341 (0,0)) /\
 w.ownsRow B 344 3 (.slice (some ⟨r,0,none⟩) n cap) n (Gt xs)/\w.cell? ⟨qb,0,none⟩=some (.slice (some ⟨r,0,none⟩) n cap) /\
 (∀i,i<n->∀e,e=xs.getD i FP->w.cell? ⟨r,i*3,none⟩=some (.int .i64 (e.wt:Nat))/\w.cell? ⟨r,i*3+1,none⟩=some (.int .i64 (e.tn:Nat))/\w.cell? ⟨r,i*3+2,none⟩=some (.slice (some ⟨e.b,0,none⟩) e.n e.c))/\(∀j,w.frozen? ⟨r,j,none⟩=false):=by
 subst hn;obtain⟨v,a2,a0⟩:=h.st;obtain⟨r,cap,rfl,hr,a1⟩:=Uq a0 h0;refine⟨r,cap,hr,a1,?_,a2,a0,?_,?_,λj=>a0.frozenAt j⟩
 ·intro e;subst e;obtain⟨_,_,hk⟩:=Lib.ownsRow_kind a0 qb rfl;rw[a2]at hk;simp at hk
 ·rw[AG w qb 0 _ 341 (0,0) a2];rfl
 intro i hi e he;subst he;obtain⟨g1,g2,g3⟩:=QH xs i hi;rw[a0.cellAt (i*3) (by omega),a0.cellAt (i*3+1) (by omega),a0.cellAt (i*3+2) (by omega),BG i 3];exact⟨g1,g2,g3⟩
theorem QM.len(h:QM w B qb xs pu)(hn:n=xs.length):∃a cap,w.cell? ⟨qb,0,none⟩=some (.slice a n cap):=by
 subst hn;obtain⟨v,a1,a0⟩:=h.st
 have:∃a c,v=.slice a xs.length c:=by
  rcases a0.2 with⟨rfl,h0⟩ | ⟨g,cap,cur,rfl,_⟩
  ·rw[h0];exact⟨_,_,rfl⟩
  exact⟨_,_,rfl⟩
 obtain⟨a,c,rfl⟩:=this;exact⟨a,c,by rw[AG w qb 0 _ 341 (0,0) a1];rfl⟩
theorem pt{cap:Nat}(hB:B<=qb)(hn:n=xs.length)(hf:Fr B a W)(hqr:qb≠r)(hst:W.heap[qb]? = some (.cells #[.slice (some ⟨r,0,none⟩) n cap,.int .i64 pu] 341 (0,0)))(hown:W.ownsRow B 344 3 (.slice (some ⟨r,0,none⟩) n cap) n (Gt xs))
 (hi:ei=xs.getD i FP) (hj:ej=xs.getD j FP):QM (EA (EA W r i ej) r j ei) B qb (swp xs i j) pu/\Fr B a (EA (EA W r i ej) r j ei):=by
 have a1:=Rm hown i ej;have a0:=Rm a1 j ei;have a4:Fr B a (EA (EA W r i ej) r j ei):=Qp (v:=.slice none 0 0) (Qp (v:=.slice none 0 0) hf hown i ej) a1 j ei;have a2:(xs.set i ej).set j ei=swp xs i j:=by unfold swp;rw[hi,hj]
 have a3:(EA (EA W r i ej) r j ei).heap[qb]? = W.heap[qb]? := (Mh _ _ _ _ _ hqr).trans (Mh _ _ _ _ _ hqr);rw[a2]at a0;exact⟨QM.make hB (a3.trans hst) (by rw[OC,hn]) a0,a4⟩
structure LN (qb B:Nat) (w w':D7):Prop where
 fr:Fr B w w'
 own:w'.heap[qb]? = w.heap[qb]?
 far:∀k,k<w.heap.size->k≠qb->(∀n cap,w.cell? ⟨qb,0,none⟩≠some (.slice (some ⟨k,0,none⟩) n cap))->w'.heap[k]? = w.heap[k]?
theorem LN.refl(qb B:Nat)(w:D7):LN qb B w w:=⟨Fr.refl _ _,rfl,λ_ _ _ _=>rfl⟩
theorem LN.size(h:LN qb B a b)(hB:B<=a.heap.size):B<=b.heap.size:=h.fr.size hB
theorem LN.drew(h:LN qb B a b):LN qb B a b.drew:=⟨h.fr.drew,h.own,h.far⟩
theorem LN.P2(h:LN qb B a b)(hB:B<=b.heap.size)(hq:qb<b.heap.size)(o1 o2:Obj):LN qb B a ((b.alloc o1).alloc o2).drew:=
 ⟨((h.fr.alloc hB o1).alloc (by simp;omega) o2).drew,(QT b o1 o2 qb hq).trans h.own,λk h1 h2 h3=>(QT b o1 o2 k (AR h1 h.fr.Gr.size)).trans (h.far k h1 h2 h3)⟩
theorem LN.swap{cap:Nat}(h:LN qb B a W)(hf:Fr B a (EA (EA W r i ej) r j ei))(hqr:qb≠r)(hst:W.heap[qb]? = some (.cells #[.slice (some ⟨r,0,none⟩) n cap,.int .i64 pu] 341 (0,0))):LN qb B a (EA (EA W r i ej) r j ei):=by
 refine⟨hf,((Mh _ _ _ _ _ hqr).trans (Mh _ _ _ _ _ hqr)).trans h.own,λk h1 h2 h3 => ?_⟩;have hk:k≠r:=by
  intro e;subst e;refine h3 n cap ?_
  have:W.cell? ⟨qb,0,none⟩=some (.slice (some ⟨k,0,none⟩) n cap):=by rw[AG W qb 0 _ 341 (0,0) hst];rfl
  rw[<-this];exact(AJ h.own).symm
 exact((Mh _ _ _ _ _ hk).trans (Mh _ _ _ _ _ hk)).trans (h.far k h1 h2 h3)
theorem QM.lt{es:List Eo}(h:QM w B qb es pu):qb<w.heap.size:=by
 obtain⟨v,h1,h2⟩:=h.st;exact lt_of_heap h1
theorem nO(w:D7)(B qb:Nat)(es:List Eo)(pu:Nat)(hB:B<=w.heap.size)(hes:es.length<=1000)(hsi:SI es 0)(h:QM w B qb es pu) :
 Calls prog 331 #[.pointer (some ⟨qb,0,none⟩)] w λe w'=>e=.returned (.tuple #[])/\∃es',List.Perm es' es/\Pk.JE es'/\QM w' B qb es' pu/\LN qb B w w':=by
 have a6:=Jy hsi;have Hq:=Jy h;clear hsi h;go_enter func331,ntmps331
 go_wp2
 go_loopw [2] (λi wr=>∃b:Nat,∃xs,i=.int .i64 b/\b<=xs.length/\xs.length=es.length/\Hid (SI xs b)/\Hid (List.Perm xs es)/\Hid (QM wr B qb xs pu)/\Hid (LN qb B w wr)) (λi _=>1000 - (intOf i).toNat)
 case atStart=>exact⟨0,es,rfl,by omega,rfl,a6,List.Perm.refl _,Hq,LN.refl _ _ _⟩
 case round =>
  clear a6 Hq;obtain⟨b,xs,rfl,hb,a9,a6,Hp,Hq,Hf⟩:=hrel;obtain⟨n,hn⟩:=Jq xs.length;have aa:=Jy a9;have am:n<=1000:=by omega
  rw[<-hn]at hb;have Hn:=Jy hn;clear a9 hn;go_wp2
  go_loopw [4,3] (λi j aA=>∃c d:Nat,i=.int .i64 c/\j=.int .i64 d/\2*b+1<=c/\c<=2*b+3/\(d=b\/(2*b+1<=d/\d<c/\d<n))/\Hid (wa xs d<=wa xs b/\∀k,2*b+1<=k->k<c->k<n->wa xs d<=wa xs k)/\Hid (QM aA B qb xs pu)/\Hid (LN qb B w aA)) (λi _ _=>3000 - (intOf i).toNat)
  case atStart=>exact⟨2*b+1,b,by go_num,rfl,by omega,by omega,.inl rfl,⟨AB _,by omega⟩,Hq,Hf⟩
  case round =>
   clear Hq Hf;obtain⟨c,d,rfl,rfl,aQ,aP,hd,Hw,Hq,Hf⟩:=hrel;have aI:=Hq.o.hB;by_cases hg:c<=2*b+2/\c<n
   ·obtain⟨aE,aF⟩:=hg;obtain⟨r,ao,hr,a4,ac,a8,a3,x0,a1,a2⟩:=Hq.o.look Hn.o (by omega);have ai:d<n:=by omega
    obtain⟨ec,ag⟩:∃e,e=xs.getD c FP:=⟨_,rfl⟩;obtain⟨ed,a5⟩:∃e,e=xs.getD d FP:=⟨_,rfl⟩;obtain⟨y1,y2,y3⟩:=a1 c aF ec ag;obtain⟨z1,z2,z3⟩:=a1 d ai ed a5;have aw:=Jy ag;have ay:=Jy a5;have av:decide ((c:Int)<=2*(b:Int)+2)=true:=by simp;omega
    have aL:decide ((c:Int)<(n:Int))=true:=by simp;omega
    clear a1 a2 a8 a3 ag a5 a4;go_wp2;go_region_held3 (λw'=>w'.cell? ⟨qb,0,none⟩=some (.slice (some ⟨r,0,none⟩) n ao)/\w'.cell? ⟨r,c*3,none⟩=some (.int .i64 ec.wt)/\w'.cell? ⟨r,c*3+1,none⟩=some (.int .i64 ec.tn)/\w'.cell? ⟨r,c*3+2,none⟩=some (.slice (some ⟨ec.b,0,none⟩) ec.n ec.c)/\w'.cell? ⟨r,d*3,none⟩=some (.int .i64 ed.wt)/\w'.cell? ⟨r,d*3+1,none⟩=some (.int .i64 ed.tn)/\w'.cell? ⟨r,d*3+2,none⟩=some (.slice (some ⟨ed.b,0,none⟩) ed.n ed.c)) (go_keep) (first | (go_at_call 338;refine(Zo _ ec.wt ec.tn ed.wt ed.tn (.slice (some ⟨ec.b,0,none⟩) ec.n ec.c) (.slice (some ⟨ed.b,0,none⟩) ed.n ed.c)).mono ?_;rintro e w' ⟨rr,rfl,an,af,o1,o2,rfl⟩));have ax:=Jy (Hq.o.of (QT wr o1 o2));have az:=Jy (Hf.o.P2 (Hf.o.size hB) Hq.o.lt o1 o2);rename_i hHeld;clear hHeld x0 y1 y2 y3 z1 z2 z3 Hq Hf
    generalize ((wr.alloc o1).alloc o2).drew=W at *
    cases rr with
    | false =>
      have a7:=af (by trivial);have ah:Hid (wa xs d<=wa xs b/\∀k,2*b+1<=k->k<c+1->k<n->wa xs d<=wa xs k):=⟨Hw.o.1,λk k1 k2 k3=>by
       by_cases e:k=c
       ·subst e;unfold wa;rw[<-aw.o,<-ay.o];exact a7
       exact Hw.o.2 k k1 (by omega) k3⟩
      clear an af a7 Hw;go_wp2;go_roundw
      case rel=>exact⟨c+1,d,by go_num,rfl,by omega,by omega,by omega,ah,ax,az⟩
      case measure=>simp[intOf];omega
    | true =>
      have a7:=an (by trivial);have ah:Hid (wa xs c<=wa xs b/\∀k,2*b+1<=k->k<c+1->k<n->wa xs c<=wa xs k):=by
       have ar:wa xs c<=wa xs d:=by unfold wa;rw[<-aw.o,<-ay.o];exact a7
       exact⟨AF ar Hw.o.1,λk k1 k2 k3=>by
        by_cases e:k=c
        ·subst e;exact AB _
        exact AF ar (Hw.o.2 k k1 (by omega) k3)⟩
      clear an af a7 Hw;go_wp2;go_roundw
      case rel=>exact⟨c+1,c,by go_num,rfl,by omega,by omega,by omega,ah,ax,az⟩
      case measure=>simp[intOf];omega
   obtain⟨a0,aB,hx⟩:=Hq.o.len Hn.o;by_cases aE:c<=2*b+2
   focus
    have av:decide ((c:Int)<=2*(b:Int)+2)=true:=by simp;omega
    have aL:decide ((c:Int)<(n:Int))=false:=by simp;omega
    have aO:n<=c:=by omega
   rotate_left
   focus
    have av:decide ((c:Int)<=2*(b:Int)+2)=false:=by simp;omega
    have au:c=2*b+3:=by omega
    have aR:=Jy au;clear au
   rotate_left
   all_goals
    by_cases aM:d=b
    ·subst aM;have aG:((d:Int)==(d:Int))=true:=by simp
     go_wp2
     ·((try simp only[Exit.inBlock,Exit.then]);refine Au (CJ rfl _ _ _) rfl ?_)
      refine⟨rfl,xs,Hp.o,iP a6.o ?_,Hq.o,Hf.o⟩;intro i h1 h2 h3;exact Hw.o.2 i (by omega) (by have:=Hn.o;omega) (by have:=Hn.o;omega)
    have aG:((d:Int)==(b:Int))=false:=by simp;omega
    ·skip
     have ai:d<n:=by omega
     have aD:b<n:=by omega
     obtain⟨r,ao,hr,a4,ac,a8,a3,x0,a1,a2⟩:=Hq.o.look Hn.o (by omega);obtain⟨eb,aj⟩:∃e,e=xs.getD b FP:=⟨_,rfl⟩;obtain⟨ed,a5⟩:∃e,e=xs.getD d FP:=⟨_,rfl⟩;obtain⟨y1,y2,y3⟩:=a1 b aD eb aj;obtain⟨z1,z2,z3⟩:=a1 d ai ed a5;have f1:=a2 (b*3);have f2:=a2 (b*3+1);have f3:=a2 (b*3+2);have f4:=a2 (d*3);have f5:=a2 (d*3+1);have f6:=a2 (d*3+2);have ae:=pt aI Hn.o Hf.o.fr ac a8 a3 aj a5;have aK:=Jy ae.1.drew;have aC:=Jy (Hf.o.swap ae.2 ac a8).drew;have ad:Hid (SI (swp xs b d) d):=gX a6.o (by omega) (by omega) (by have:=Hn.o;omega) Hw.o.1 λi h1 h2 h3=>Hw.o.2 i (by omega) (by have:=Hn.o;omega) (by have:=Hn.o;omega)
     have aJ:Hid (List.Perm (swp xs b d) es):=(Yz xs b d (by have:=Hn.o;omega) (by have:=Hn.o;omega)).trans Hp.o;have aH:Hid ((swp xs b d).length=es.length):=by
      show _=_;rw[OC,aa.o]
     have aN:d<=(swp xs b d).length:=by rw[OC];have:=Hn.o;omega
     have HW:Hid (EA (EA wr r b ed) r d eb=((((((wr.setCell ⟨r,b*3,none⟩ (.int .i64 ed.wt)).setCell ⟨r,b*3+1,none⟩ (.int .i64 ed.tn)).setCell ⟨r,b*3+2,none⟩ (.slice (some ⟨ed.b,0,none⟩) ed.n ed.c)).setCell ⟨r,d*3,none⟩ (.int .i64 eb.wt)).setCell ⟨r,d*3+1,none⟩ (.int .i64 eb.tn)).setCell ⟨r,d*3+2,none⟩ (.slice (some ⟨eb.b,0,none⟩) eb.n eb.c))):=rfl;clear a8 a3 a1 a2 aj a5 ae a4 hx;go_wp2;go_region;rw[<-HW.o];clear HW x0 y1 y2 y3 z1 z2 z3 f1 f2 f3 f4 f5 f6 Hq Hf Hp a6
     generalize (EA (EA wr r b ed) r d eb).drew=W3 at *
     go_wp2;go_roundw
     case rel=>exact⟨d,swp xs b d,rfl,aN,aH.o,ad,aJ,aK,aC⟩
     case measure=>simp[intOf];omega
theorem OL:(prog.info? 344).map (λi=>(i.zero,i.size,i.bytes))=some (some (.agg #[.int .i64 0,.int .i64 0,.slice none 0 0]),3,40):=by kernel_rfl
theorem lX(w:D7)(a b c:Value)(t:TypeId):∀j u,[a,b,c][j]? = some u->(w.alloc (.cells #[a,b,c] t)).cell? ((⟨w.heap.size,0,none⟩:Addr).add j)=some u:=
 World.news_of_block (cs:=#[a,b,c]) (AQ _ _)
theorem Dm.NJ{t:TypeId}{a b c:D7}(h:Dm t a b){base n:Nat}{e:TypeId}{v:Value}{xs:List Value}(hown:b.ownsRow base e 3 v n xs)(he:e≠t)(hg:b.grownBy c v.ownBlock):Dm t a c:=by
 refine h.trans λk x f hk=>hg.block k (lt_of_heap hk) ?_
 rcases hown.2 with⟨rfl,_⟩ | ⟨g,cap,cur,rfl,_,hh,_⟩
 ·simp[Value.ownBlock]
 intro e2;simp[Value.ownBlock]at e2;subst e2;rw[hk]at hh;simp at hh;exact he hh.2.1.symm
theorem Fr.app{w w2:D7}{B n:Nat}{v:Value}{xs:List Value}{o:Obj}(hB:B<=w.heap.size)(ho:w.ownsRow B 344 3 v n xs)(hg:(w.alloc o).drew.grownBy w2 v.ownBlock):Fr B w w2:=
 ⟨(((AM B w).alloc hB o).drew).grown hg (by simp;omega) (λq hq=>(ho.lt q hq).1),((Dm.refl 3 w).alloc o).drew.NJ (ho.alloc o).drew (by decide) hg⟩
theorem Z8(w:D7)(B qb:Nat)(es:List Eo)(pu wt gb gn gc:Nat)(hB:B<=w.heap.size)(hes:es.length<=900)(hpu:pu<=1000000)(hhp:Pk.JE es)(h:QM w B qb es pu) :
 Calls prog 310 #[.pointer (some ⟨qb,0,none⟩),.int .i64 wt,.slice (some ⟨gb,0,none⟩) gn gc] w λe w'=>e=.returned (.tuple #[])/\∃es',List.Perm es' (⟨wt,pu,gb,gn,gc⟩ :: es)/\Pk.JE es'/\QM w' B qb es' (pu+1)/\Fr B w w':=by
 obtain⟨i0,hi,av,aD,au⟩:=Ai OL;have aA:=Jy hhp;obtain⟨v,af,a7⟩:=h.st;have am:=h.hB;obtain⟨n,hn⟩:=Jq es.length;rw[<-hn]at a7 hes;have aw:∃a c,v=.slice a n c:=by
  rcases a7.2 with⟨rfl,h0⟩ | ⟨g,ah,cur,rfl,_⟩
  ·rw[h0];exact⟨_,_,rfl⟩
  exact⟨_,_,rfl⟩
 obtain⟨a,ah,rfl⟩:=aw;have Hn:=Jy hn;have x0:w.cell? ⟨qb,0,none⟩=some (.slice a n ah):=by rw[AG w qb 0 _ 341 (0,0) af];rfl
 have x1:w.cell? ⟨qb,1,none⟩=some (.int .i64 pu):=by rw[AG w qb 1 _ 341 (0,0) af];rfl
 have ay:∀o,(w.alloc o).cell? ⟨qb,0,none⟩=some (.slice a n ah):=λo=>by rw[<-x0];exact AJ (AO w o qb (lt_of_heap af))
 have aC:∀o,(w.alloc o).cell? ⟨qb,1,none⟩=some (.int .i64 pu):=λo=>by rw[<-x1];exact AJ (AO w o qb (lt_of_heap af))
 have an:=Jy af;have a5:=Jy a7;clear hhp h af a7 hn;go_enter func310,ntmps310
 go_wp2;go_region_law
  (refine step_append_lies _ (by rfl) _ _ _ (by rfl) B 344 i0 _ 3 40 underlying339 hi av aD au rfl (by omega) (.slice a n ah) n _ (by rfl) (a5.o.drew.alloc _) ⟨w.heap.size,0,none⟩ 1 1 [.int .i64 wt,.int .i64 pu,.slice (some ⟨gb,0,none⟩) gn gc] (by rfl) rfl (lX w.drew _ _ _ _) (by intro u hu;simp at hu;rcases hu with rfl | rfl | rfl<;>rfl) (by omega) (by unfold maxLen;omega) (by omega) (by simp;omega) (w.heap.size+1) (by simp) ?_;intro g2 a0 w2 a9 a4 az ax;have a8:=(((Dm.refl 341 w).drew.alloc _).NJ (a5.o.drew.alloc _) (by decide) a4).block an.o;have y0:w2.cell? ⟨qb,0,none⟩=some (.slice a n ah):=(by rw[AG w2 qb 0 _ 341 (0,0) a8];rfl);have yf:=Al w2 qb 0 _ 341 a8;have a6:=Jy a8;have a3:=Jy a9;have aa:=Jy a4;clear a8 a9 a4 az)
 rotate_left
 rotate_left
 rotate_left
 all_goals
  have a2:=AK w2 qb 0 _ 341 (.slice (some ⟨g2,0,none⟩) (n+1) a0) a6.o;have u1:(w2.setCell ⟨qb,0,none⟩ (.slice (some ⟨g2,0,none⟩) (n+1) a0)).cell? ⟨qb,1,none⟩=some (.int .i64 pu):=by rw[AG _ qb 1 _ 341 (0,0) a2];rfl
  have uf:=Al _ qb 1 _ 341 a2;have ae:=AK _ qb 1 _ 341 (.int .i64 ((pu+1:Nat):Int)) a2;have u0:((w2.setCell ⟨qb,0,none⟩ (.slice (some ⟨g2,0,none⟩) (n+1) a0)).setCell ⟨qb,1,none⟩ (.int .i64 ((pu+1:Nat):Int))).cell? ⟨qb,0,none⟩=some (.slice (some ⟨g2,0,none⟩) (n+1) a0):=by rw[AG _ qb 0 _ 341 (0,0) ae];rfl
  have aB:qb≠g2:=by
   intro e;subst e;obtain⟨_,_,hk⟩:=Lib.ownsRow_kind a3.o qb rfl;rw[a6.o]at hk;simp at hk
  have aj:(Value.slice (some ⟨g2,0,none⟩) (n+1) a0).ownBlock≠some qb:=by simp[Value.ownBlock];exact λe=>aB e.symm
  have a1:=B8 (a:=⟨qb,1,none⟩) (B8 (a:=⟨qb,0,none⟩) a3.o aj (.slice (some ⟨g2,0,none⟩) (n+1) a0)) aj (.int .i64 ((pu+1:Nat):Int));have ai:=Fr.app hB a5.o aa.o;have ad:Fr B w ((w2.setCell ⟨qb,0,none⟩ (.slice (some ⟨g2,0,none⟩) (n+1) a0)).setCell ⟨qb,1,none⟩ (.int .i64 ((pu+1:Nat):Int))):=⟨(ai.Gr.setCell (p:=⟨qb,0,none⟩) am _).setCell (p:=⟨qb,1,none⟩) am _,(ai.ints.set a6.o (by decide)).set a2 (by decide)⟩;have ao:Gt es++[.int .i64 wt,.int .i64 pu,.slice (some ⟨gb,0,none⟩) gn gc]=Gt (es++[⟨wt,pu,gb,gn,gc⟩]):=by rw[oP];rfl
  rw[ao]at a1;have ar:=QM.make am ae (by rw[AN,<-Hn.o];rfl) a1;have ac:=Jy (r8 _ B qb (es++[⟨wt,pu,gb,gn,gc⟩]) (pu+1) n (ad.size hB) (by rw[AN,<-Hn.o];simp;omega) (by rw[AN,<-Hn.o];simp) (by rw[Hn.o];exact mN aA.o _) ar);have ag:=Jy ad;clear a2 ae a1 ai ad ao ar aj a6 a3 aa an a5 x0 x1 ay aC;rw[show((pu+1:Nat):Int)=(pu:Int)+1 by omega]at u0 ac ag;go_wp2_with fail;refine ac.o.mono ?_;rintro e w5 ⟨rfl,es',hp,hh,hq,hf⟩;go_wp2;go_end0
  exact⟨rfl,es',hp.trans (List.perm_append_singleton _ _),hh,hq,ag.o.trans hf⟩
def Rp(qb:Nat)(w w':D7):Prop:=∀k,k<w.heap.size->k≠qb->(∀n cap,w.cell? ⟨qb,0,none⟩≠some (.slice (some ⟨k,0,none⟩) n cap))->w'.heap[k]? = w.heap[k]?
theorem rO(w:D7)(B qb:Nat)(pu:Nat)(hB:B<=w.heap.size)(h:QM w B qb [] pu) :
 Calls prog 311 #[.pointer (some ⟨qb,0,none⟩)] w λe w'=>e=.returned (.tuple #[.agg #[.int .i64 0,.int .i64 0,.slice none 0 0],.bool false])/\QM w' B qb [] pu/\Fr B w w'/\Rp qb w w':=by
 obtain⟨a,a3,x0⟩:=h.len (n:=0) rfl;have a2:qb<w.heap.size:=Aj w _ x0;have a1:w.heap.size≠qb:=by omega
 have Hq:=Jy h;clear h;go_enter func311,ntmps311
 go_wp2;have a0:f311.results=#[.cell 2 344,.tmp 3]:=by kernel_rfl
 refine Au (v:=.tuple #[.agg #[.int .i64 0,.int .i64 0,.slice none 0 0],.bool false]) ?_ rfl ?_
 ·simp[results,a0,go_sem]
 refine⟨rfl,Hq.o.of λk hk=>AO _ _ k hk,(Fr.refl B w).alloc hB _,λk hk _ _=>AO _ _ k hk⟩
theorem QM.QN{w:D7}{B qb:Nat}{es:List Eo}{pu r n cap R o:Nat}{x:Value}(h:QM w B qb es pu)(hst:w.heap[qb]? = some (.cells #[.slice (some ⟨r,0,none⟩) n cap,x] 341 (0,0)))(h1:R≠qb)(h2:R≠r)(v:Value) :
 QM (w.setCell ⟨R,o,none⟩ v) B qb es pu/\(w.setCell ⟨R,o,none⟩ v).heap[qb]? = some (.cells #[.slice (some ⟨r,0,none⟩) n cap,x] 341 (0,0)):=by
 have hb:=AH w ⟨R,o,none⟩ v qb (λe=>h1 e.symm);obtain⟨v6,h3,h4⟩:=h.st;have hv:v6=.slice (some ⟨r,0,none⟩) n cap:=by
  rw[hst]at h3;simp at h3;exact h3.1.symm
 refine⟨⟨h.hB,v6,hb.trans h3,B8 (a:=⟨R,o,none⟩) h4 ?_ v⟩,hb.trans hst⟩;rw[hv];simp[Value.ownBlock];exact λe=>h2 e.symm
theorem Fr.GA{B R o:Nat}{a b:D7}(h:Fr B a b)(h1:B<=R)(h2:a.heap.size<=R)(v:Value):Fr B a (b.setCell ⟨R,o,none⟩ v):=
 ⟨h.Gr.setCell (p:=⟨R,o,none⟩) h1 v,λk x f e=>(AH b ⟨R,o,none⟩ v k (by have:=lt_of_heap e;simp;omega)).trans (h.ints k x f e)⟩
theorem mU{W:D7}{B r cap n:Nat}{es:List Eo}{en:Eo}(hn:n+1=es.length)(hen:en=es.getD n FP)(h:W.ownsRow B 344 3 (.slice (some ⟨r,0,none⟩) (n+1) cap) (n+1) (Gt (es.set 0 en))) :
 W.ownsRow B 344 3 (.slice (some ⟨r,0,none⟩) n cap) n (Gt (FM es)):=by
 have hp:FM es=(es.set 0 en).take n:=by
  unfold FM;rw[<-hn,Cs,hen]
 have hx:Gt (es.set 0 en)=Gt (FM es)++(Gt (es.set 0 en)).drop (n*3):=by
  rw[hp,<-i6,Ca]
 rw[hx]at h;refine ownsRow_pop ?_ h;rw[tB,Ua,<-hn];rfl
theorem ZP(w:D7)(B qb:Nat)(es:List Eo)(e0:Eo)(pu n:Nat)(hB:B<=w.heap.size)(hn:n+1=es.length)(hn9:n<=900)(he0:e0=es.getD 0 FP)(hh:Pk.JE es)(h:QM w B qb es pu) :
 Calls prog 311 #[.pointer (some ⟨qb,0,none⟩)] w λe w'=>e=.returned (.tuple #[.agg #[.int .i64 e0.wt,.int .i64 e0.tn,.slice (some ⟨e0.b,0,none⟩) e0.n e0.c],.bool true])/\∃es',List.Perm es' (FM es)/\Pk.JE es'/\QM w' B qb es' pu/\Fr B w w'/\Rp qb w w':=by
 obtain⟨r,a8,hr,aJ,aS,aH,ai,x0,a4,aB⟩:=h.look hn (by omega);obtain⟨en,aK⟩:∃e,e=es.getD n FP:=⟨_,rfl⟩;obtain⟨y1,y2,y3⟩:=a4 0 (by omega) e0 he0;obtain⟨z1,z2,z3⟩:=a4 n (by omega) en aK;simp only[Nat.zero_mul,Ao]at y1 y2 y3;have f1:=aB 0;have f2:=aB 1;have f3:=aB 2;have aG:=h.hB;have aX:=lt_of_heap aH;have bj:=(ai.lt r rfl).2;have a6:w.heap.size≠qb:=by omega
 have a5:w.heap.size≠r:=by omega
 have af:w.heap.size+1≠qb:=by omega
 have aj:w.heap.size+1≠r:=by omega
 have bg:=Jy hh;have aU:=Jy aK;have b5:=Jy he0;have aN:=Jy aH;have ao:=Jy ai;have Hq:=Jy h;have Hn:=Jy hn;clear a4 aB aH ai aK he0 hh h hn;go_enter func311,ntmps311
 go_wp2;have aa:((w.alloc (.cells #[.int .i64 0,.int .i64 0,.slice none 0 0] 344)).alloc (.cells #[.int .i64 e0.wt,.int .i64 e0.tn,.slice (some ⟨e0.b,0,none⟩) e0.n e0.c] 344)).heap[qb]? = _:=(QT w _ _ qb aX).trans aN.o;have a0:((w.alloc (.cells #[.int .i64 0,.int .i64 0,.slice none 0 0] 344)).alloc (.cells #[.int .i64 e0.wt,.int .i64 e0.tn,.slice (some ⟨e0.b,0,none⟩) e0.n e0.c] 344)).ownsRow B 344 3 _ _ _:=(ao.o.alloc _).alloc _;have aY:=Jy (((Fr.refl B w).alloc hB (.cells #[.int .i64 0,.int .i64 0,.slice none 0 0] 344)).alloc (by simp;omega) (.cells #[.int .i64 e0.wt,.int .i64 e0.tn,.slice (some ⟨e0.b,0,none⟩) e0.n e0.c] 344))
 have HR:Hid (((w.alloc (.cells #[.int .i64 0,.int .i64 0,.slice none 0 0] 344)).alloc (.cells #[.int .i64 e0.wt,.int .i64 e0.tn,.slice (some ⟨e0.b,0,none⟩) e0.n e0.c] 344)).heap[w.heap.size]? = some (.cells #[.int .i64 0,.int .i64 0,.slice none 0 0] 344 (0,0))):=(AO _ _ _ (by simp)).trans (AQ _ _);have HN:Hid (((w.alloc (.cells #[.int .i64 0,.int .i64 0,.slice none 0 0] 344)).alloc (.cells #[.int .i64 e0.wt,.int .i64 e0.tn,.slice (some ⟨e0.b,0,none⟩) e0.n e0.c] 344)).heap[w.heap.size+1]? = some (.cells #[.int .i64 e0.wt,.int .i64 e0.tn,.slice (some ⟨e0.b,0,none⟩) e0.n e0.c] 344 (0,0))):=by
  have:=AQ (w.alloc (.cells #[.int .i64 0,.int .i64 0,.slice none 0 0] 344)) (.cells #[.int .i64 e0.wt,.int .i64 e0.tn,.slice (some ⟨e0.b,0,none⟩) e0.n e0.c] 344)
  simp only[BF]at this;exact this
 have Hx:=Jy x0;have b4:Hid (∀k,k<w.heap.size->((w.alloc (.cells #[.int .i64 0,.int .i64 0,.slice none 0 0] 344)).alloc (.cells #[.int .i64 e0.wt,.int .i64 e0.tn,.slice (some ⟨e0.b,0,none⟩) e0.n e0.c] 344)).heap[k]? = w.heap[k]?):=QT w _ _;clear x0 y1 y2 y3 z1 z2 z3 f1 f2 f3 aN ao Hq
 generalize ((w.alloc (.cells #[.int .i64 0,.int .i64 0,.slice none 0 0] 344)).alloc (.cells #[.int .i64 e0.wt,.int .i64 e0.tn,.slice (some ⟨e0.b,0,none⟩) e0.n e0.c] 344))=W at *
 have bm:QM W B qb es pu:=QM.make aG aa Hn.o.symm a0;obtain⟨g1,g2,g3⟩:=QH es n (by have:=Hn.o;omega);rw[<-aU.o]at g1 g2 g3;have x0:=Dv 0 aa;have z1:W.cell? ⟨r,n*3,none⟩=some (.int .i64 en.wt):=by rw[a0.cellAt (n*3) (by omega),BG];exact g1
 have z2:W.cell? ⟨r,n*3+1,none⟩=some (.int .i64 en.tn):=by rw[a0.cellAt (n*3+1) (by omega),BG];exact g2
 have z3:W.cell? ⟨r,n*3+2,none⟩=some (.slice (some ⟨en.b,0,none⟩) en.n en.c):=by rw[a0.cellAt (n*3+2) (by omega),BG];exact g3
 obtain⟨k1,k2,k3⟩:=QH es 0 (by have:=Hn.o;omega);rw[<-b5.o]at k1 k2 k3;have y1:W.cell? ⟨r,0,none⟩=some (.int .i64 e0.wt):=by rw[a0.cellAt 0 (by omega)];exact k1
 have y2:W.cell? ⟨r,1,none⟩=some (.int .i64 e0.tn):=by rw[a0.cellAt 1 (by omega)];exact k2
 have y3:W.cell? ⟨r,2,none⟩=some (.slice (some ⟨e0.b,0,none⟩) e0.n e0.c):=by rw[a0.cellAt 2 (by omega)];exact k3
 have f1:=a0.frozenAt 0;have f2:=a0.frozenAt 1;have f3:=a0.frozenAt 2;have aP:=Rm a0 0 en;have ay:Fr B w (EA W r 0 en):=Qp (v:=.slice none 0 0) aY.o a0 0 en;have b3:=mU Hn.o aU.o aP;have aw:(EA W r 0 en).heap[qb]? = _:=(Mh W r 0 en qb aS).trans aa;have aZ:Hid ((EA W r 0 en).heap[w.heap.size]? = _):=(Mh W r 0 en _ a5).trans HR.o;have aW:Hid ((EA W r 0 en).heap[w.heap.size+1]? = _):=(Mh W r 0 en _ aj).trans HN.o;have HW:Hid (EA W r 0 en=((W.setCell ⟨r,0,none⟩ (.int .i64 en.wt)).setCell ⟨r,1,none⟩ (.int .i64 en.tn)).setCell ⟨r,2,none⟩ (.slice (some ⟨en.b,0,none⟩) en.n en.c)):=rfl;have aQ:=Jy b3;have am:=Jy aw;have av:=Jy ay;have bp:¬n+1<n:=by omega
 clear aa a0 bm g1 g2 g3 k1 k2 k3 aP b3 aw ay aY HR HN;go_region;rw[<-HW.o];clear HW x0 y1 y2 y3 z1 z2 z3 f1 f2 f3;have bc:Hid (∀k,k<w.heap.size->k≠r->(EA W r 0 en).drew.heap[k]? = w.heap[k]?):=λk hk hr=>(Mh W r 0 en k hr).trans (b4.o k hk)
 have ar:Hid ((EA W r 0 en).drew.heap[qb]? = _):=am;have aO:Hid ((EA W r 0 en).drew.heap[w.heap.size]? = _):=aZ;have aR:Hid ((EA W r 0 en).drew.heap[w.heap.size+1]? = _):=aW;have au:=Jy aQ.o.drew;have ad:=Jy av.o.drew;clear am aZ aW aQ av
 generalize (EA W r 0 en).drew=W4 at *
 have a7:=ar.o;have x0:=Dv 0 a7;have xf:=FU 0 a7;have a9:=AK W4 qb 0 _ 341 (.slice (some ⟨r,0,none⟩) n a8) a7;have aT:(Value.slice (some ⟨r,0,none⟩) n a8).ownBlock≠some qb:=by simp[Value.ownBlock];exact λe=>aS e.symm
 have ac:=B8 (a:=⟨qb,0,none⟩) au.o aT (.slice (some ⟨r,0,none⟩) n a8);have ah:Fr B w (W4.setCell ⟨qb,0,none⟩ (.slice (some ⟨r,0,none⟩) n a8)):=⟨ad.o.Gr.setCell (p:=⟨qb,0,none⟩) aG _,ad.o.ints.set a7 (by decide)⟩;have aD:(FM es).length=n:=by rw[Ua,<-Hn.o];rfl
 have aM:=QM.make aG a9 aD ac;have az:=Jy (nO _ B qb (FM es) pu (ah.size hB) (by rw[aD];omega) (kU bg.o) aM);have b7:Hid ((W4.setCell ⟨qb,0,none⟩ (.slice (some ⟨r,0,none⟩) n a8)).heap[w.heap.size]? = _):=(AH _ _ _ _ a6).trans aO.o;have b9:Hid ((W4.setCell ⟨qb,0,none⟩ (.slice (some ⟨r,0,none⟩) n a8)).heap[w.heap.size+1]? = _):=(AH _ _ _ _ af).trans aR.o;have x5:=Dv 0 a9;have b0:=Jy x5;have bh:Hid (∀k,k<w.heap.size->k≠qb->k≠r->(W4.setCell ⟨qb,0,none⟩ (.slice (some ⟨r,0,none⟩) n a8)).heap[k]? = w.heap[k]?):=λk hk hq hr=>(AH W4 ⟨qb,0,none⟩ _ k hq).trans (bc.o k hk hr)
 have aI:=Jy a9;have an:=Jy ah;have bq:n<=a8:=by omega
 clear a7 a9 ac ah aM aD aT aO aR au ad ar x5 aJ;go_wp2_with fail;refine az.o.mono ?_;rintro e w6 ⟨rfl,es',hp,hh,aV,ax⟩;have ae:∀k o,k≠qb->k≠r->(W4.setCell ⟨qb,0,none⟩ (.slice (some ⟨r,0,none⟩) n a8)).heap[k]? = some o->w6.heap[k]? = some o:=λk o bn b6 ho=>(ax.far k (lt_of_heap ho) bn (λa b hc=>by rw[b0.o]at hc;cases hc;exact b6 rfl)).trans ho
 have ag:=ae _ _ a6 a5 b7.o;have aA:=ae _ _ af aj b9.o;have n1:=Dv 0 aA;have n2:=Dv 1 aA;have n3:=Dv 2 aA;have r1:=Dv 0 ag;have r2:=Dv 1 ag;have r3:=Dv 2 ag;have bi:=FU 0 ag;have b8:=FU 1 ag;have be:=FU 2 ag;have bf:Hid (∀k,k<w.heap.size->k≠qb->k≠r->w6.heap[k]? = w.heap[k]?):=λk hk hq hr=>(ax.far k (AR hk an.o.Gr.size) hq (λa b hc=>by rw[b0.o]at hc;cases hc;exact hr rfl)).trans (bh.o k hk hq hr)
 have bl:=Jy aV;have aL:=Jy (ax.own.trans aI.o);have bb:=Jy (an.o.trans ax.fr);have Hp:=Jy hp;have Hh:=Jy hh;clear ae aV ax hp hh ag aA x0 xf;have br:Hid (w.heap.size<=w.heap.size):=AB _
 generalize hRe:w.heap.size=R at hB aX bj a6 a5 af aj n1 n2 n3 r1 r2 r3 bi b8 be ⊢
 have aC:=Jy hRe;clear hRe;go_wp2;have aF:f311.results=#[.cell 2 344,.tmp 3]:=by kernel_rfl
 refine Au (v:=.tuple #[.agg #[.int .i64 e0.wt,.int .i64 e0.tn,.slice (some ⟨e0.b,0,none⟩) e0.n e0.c],.bool true]) ?_ rfl ?_
 ·simp[results,aF,go_sem,r1,r2,r3]
 have a1:=bl.o.QN (R:=R) (o:=0) aL.o a6 a5 (.int .i64 e0.wt);have a2:=a1.1.QN (R:=R) (o:=1) a1.2 a6 a5 (.int .i64 e0.tn);have a3:=a2.1.QN (R:=R) (o:=2) a2.2 a6 a5 (.slice (some ⟨e0.b,0,none⟩) e0.n e0.c);refine⟨rfl,es',Hp.o,Hh.o,a3.1,((bb.o.GA hB (by have:=aC.o;omega) _).GA hB (by have:=aC.o;omega) _).GA hB (by have:=aC.o;omega) _,λk hk hq hx => ?_⟩;have aE:k≠R:=by have:=aC.o;omega
 rw[AH _ _ _ k aE,AH _ _ _ k aE,AH _ _ _ k aE];exact bf.o k hk hq (λe=>by subst e;exact hx _ _ Hx.o)
theorem Lq:(prog.info? 3).map (λi=>(i.zero,i.size,i.bytes))=some (some (.int .i64 0),1,8):=by kernel_rfl
theorem gV(w:D7)(b n c:Nat)(z:Nat->Int)(h0:0<n)(hn:n<=1000)(hz:∀i,i<n->w.cell? ⟨b,i,none⟩=some (.int .i64 (z i))) :
 Calls prog 281 #[.slice (some ⟨b,0,none⟩) n c] w λe w'=>w'=w/\∃m:Int,e=.returned (.int .i64 m)/\(∀i,i<n->z i<=m)/\∃i,i<n/\z i=m:=by
 have x0:=hz 0 h0;have a5:¬(n:Int)<1:=by omega
 have Hz:=Jy hz;clear hz;go_enter func281,ntmps281
 go_wp2;clear x0
 go_loopw [4,3] (λi m wr=>wr=w/\∃k:Nat,∃x:Int,i=.int .i64 k/\m=.int .i64 x/\1<=k/\k<=n/\Hid ((∀j,j<k->z j<=x)/\∃j,j<k/\z j=x)) (λi _ _=>n - (intOf i).toNat)
 case atStart=>exact⟨rfl,1,z 0,rfl,rfl,by omega,by omega,⟨λj hj=>by rw[show j=0 by omega];exact Int.le_refl _,0,by omega,rfl⟩⟩
 case round =>
  obtain⟨rfl,k,x,rfl,rfl,a6,a4,Hx⟩:=hrel;by_cases a3:k<n
  ·have x1:=Hz.o k a3;by_cases hm:x<=z k
   ·have a0:Hid ((∀j,j<k+1->z j<=z k)/\∃j,j<k+1/\z j=z k):=⟨λj hj=>by
     by_cases e:j=k
     ·subst e;exact Int.le_refl _
     exact Int.le_trans (Hx.o.1 j (by omega)) hm,k,by omega,rfl⟩
    generalize z k=y at *
    have a1:max x y=y:=by omega
    go_wp2;go_roundw
    case rel=>exact⟨by trivial,k+1,y,by go_num,rfl,by omega,by omega,a0⟩
    case measure=>simp[intOf];omega
   have a0:Hid ((∀j,j<k+1->z j<=x)/\∃j,j<k+1/\z j=x):=⟨λj hj=>by
    by_cases e:j=k
    ·subst e;omega
    ·exact Hx.o.1 j (by omega),by
    obtain⟨j,hj,e⟩:=Hx.o.2;exact⟨j,by omega,e⟩⟩
   generalize z k=y at *
   have a1:max x y=x:=by omega
   go_wp2;go_roundw
   case rel=>exact⟨by trivial,k+1,x,by go_num,rfl,by omega,by omega,a0⟩
   case measure=>simp[intOf];omega
  have a2:k=n:=by omega
  subst a2;go_wp2;go_ret
  exact⟨rfl,x,rfl,Hx.o.1,Hx.o.2⟩
def ES(l:List Nat):List Value:=l.map λx=>.int .i64 (x:Nat)
theorem nM(w:D7)(n:Nat)(h0:0<n)(hn:n<=1000) :
 Calls prog 332 #[.slice none 0 0,.int .i64 n] w λe w'=>∃G,e=.returned (.slice (some ⟨w.heap.size,0,none⟩) 0 G)/\w'.ownsRow w.heap.size 3 1 (.slice (some ⟨w.heap.size,0,none⟩) 0 G) 0 []/\Below w.heap.size w w':=by
 obtain⟨i0,hi,a6,a8,a3⟩:=Ai Lq;have a0:(Builtin.firstCells i0.size 0 (.slice none 0 0)).run prog w.drew=.ok ([]:List Value).toArray w.drew:=run_firstCells_none w.drew i0.size 0 0 0;have hr:=λty=>Lib.run_append_grow_zeros w 22 3 ty 3 i0 (.int .i64 0) .i64 .i64 underlying22 underlying3 hi a6 none 0 0 [] a0 n (by omega) (by omega) (by omega) (by omega)
  (by rw[a3];omega) (by rw[a3,Ao];exact growslice_fits h0 (by omega))
 rw[Ao]at hr;obtain⟨G,hG⟩:=Jq (grownCap w n 0 3);have a7:n<=G:=by rw[hG];exact grownCap_ge w _ _ _
 have a2:G<=maxLen:=by rw[hG];exact grownCap_le_maxLen w n 0 3 (by unfold maxLen;omega)
 have a4:G<=9223372036854775807:=by unfold maxLen at a2;omega
 rw[<-hG]at hr;obtain⟨C,hC⟩:∃C:Array Value,C=([]:List Value).toArray++Builtin.zeroCells (Value.int IntKind.i64 0).cells n++Builtin.zeroCells (Value.int IntKind.i64 0).cells (G - n):=⟨_,rfl⟩;rw[<-hC]at hr;have a5:C.size=G:=by
  rw[hC,DM,DM,size_zeroCells,size_zeroCells]
  have:(Value.int IntKind.i64 0).cells.size=1:=rfl
  rw[this];simp;omega
 have a1:Hid ((w.drew.alloc (.cells C 3)).ownsRow w.heap.size 3 1 (.slice (some ⟨w.heap.size,0,none⟩) 0 G) 0 []):=⟨rfl,.inr ⟨_,G,C,rfl,AB _,AQ _ _,by omega,a2,by omega,by simp⟩⟩;have Hb:Hid (Below w.heap.size w (w.drew.alloc (.cells C 3))):=(AM _ w).drew.alloc (AB _) _;clear hC a5 hG a0;go_enter func332,ntmps332
 go_wp2_with (at_builtin;refine Lib.wpList_append_run _ rfl _ _ _ _ rfl _ _ rfl rfl _ _ (hr _) ?_);go_ret
 exact⟨G,rfl,a1.o,Hb.o⟩
theorem Tz{w:D7}{B b n c:Nat}{l:List Nat}(h:w.ownsRow B 3 1 (.slice (some ⟨b,0,none⟩) n c) n (ES l)):∀j u,(ES l)[j]? = some u->w.cell? ((⟨b,0,none⟩:Addr).add j)=some u:=by
 intro j u hu;have hj:j<n:=by
  rcases CM j n with h2 | h2
  ·exact h2
  rw[Aw (by rw[h.1];omega)]at hu;cases hu
 have a0:(⟨b,0,none⟩:Addr).add j=⟨b,j,none⟩:=by unfold Addr.add;split<;>simp_all
 rw[a0,h.cellAt j (by omega),hu]
theorem WV(l:List Nat):∀u∈ES l,u.oneCell'=true:=by
 intro u hu;unfold ES at hu;simp at hu;obtain⟨x,_,rfl⟩:=hu;rfl
theorem VD{w w':D7}{B K n:Nat}{e:TypeId}{size:Nat}{v:Value}{xs:List Value}(h:w.ownsRow B e size v n xs)(hb:Below K w w')(hK:w.heap.size<=K):w'.ownsRow B e size v n xs:=by
 refine⟨h.1,?_⟩;rcases h.2 with h1 | ⟨g,cap,cur,h1,h2,h3,h4⟩
 ·exact .inl h1
 exact .inr ⟨g,cap,cur,h1,h2,(hb.block g (AR (lt_of_heap h3) hK)).trans h3,h4⟩
theorem Lx(w:D7)(b n c:Nat)(l:List Nat)(h0:0<n)(hn:n<=1000)(h:w.ownsRow 0 3 1 (.slice (some ⟨b,0,none⟩) n c) n (ES l)) :
 Calls prog 279 #[.slice (some ⟨b,0,none⟩) n c] w λe w'=>∃g cap,e=.returned (.slice (some ⟨g,0,none⟩) n cap)/\w'.ownsRow w.heap.size 3 1 (.slice (some ⟨g,0,none⟩) n cap) n (ES l)/\Below w.heap.size w w':=by
 obtain⟨i0,hi,a5,a7,a4⟩:=Ai Lq;have a2:=Jy h;clear h;have a9:∀(w:D7) (a:Option Addr) (n c n' c':Nat),(binOp .eql 22 (.slice a n c) (.slice none n' c')).run prog w=.ok (.bool a.isNone) w:=λw a n c n' c'=>Lib.run_eql_slice_nil w _ _ a n c n' c' underlying22
 go_enter func279,ntmps279
 go_wp2_with (at_builtin;refine wpList_append_lies _ rfl _ _ 22 rfl w.heap.size 3 i0 (.int .i64 0) 1 8 underlying22 hi a5 a7 a4 rfl (by decide) _ 0 [] rfl (World.ownsRow_made w #[] 0 (AB _) (AU _) rfl) ⟨b,0,none⟩ n c (ES l) rfl ?qc1 ?qc2 ?qc3 ?qc7 ?qc4 ?qc5 ?qc6 (w.heap.size+1) ?qc8 ?_)
 case qc1=>exact a2.o.1
 case qc2=>exact Tz (a2.o.alloc _)
 case qc3=>exact WV l
 case qc4=>unfold maxLen;omega
 case qc5=>omega
 case qc6=>simp
 case qc7=>omega
 case qc8=>simp
 intro g cap w1 a1 a0 a6 a8;have a3:=Jy a1;have Hb:=Jy (((AM _ w).alloc (AB _) _).grown a0 (by simp) (by intro k hk;simp[Value.ownBlock]at hk;omega));clear a1 a0 a6
 try rw[Ao]
 go_wp2;go_ret
 exact⟨g,cap,rfl,a3.o,Hb.o⟩
theorem rA(w:D7)(sb ab an ac bb bn bc:Nat)(A B:List Nat)(ha0:0<an)(hb0:0<bn)(hn:an+bn<=1000)(hs:w.heap[sb]? = some (.cells #[.slice (some ⟨ab,0,none⟩) an ac,.slice (some ⟨bb,0,none⟩) bn bc] 22 (0,0)))
 (ha:w.ownsRow 0 3 1 (.slice (some ⟨ab,0,none⟩) an ac) an (ES A)) (hb:w.ownsRow 0 3 1 (.slice (some ⟨bb,0,none⟩) bn bc) bn (ES B)) :
 Calls prog 312 #[.slice (some ⟨sb,0,none⟩) 2 2] w λe w'=>∃g cap,e=.returned (.slice (some ⟨g,0,none⟩) (an+bn) cap)/\w'.ownsRow w.heap.size 3 1 (.slice (some ⟨g,0,none⟩) (an+bn) cap) (an+bn) (ES (A++B))/\Below w.heap.size w w':=by
 obtain⟨i0,hi,ai,ao,ah⟩:=Ai Lq;have x0:w.cell? ⟨sb,0,none⟩=some (.slice (some ⟨ab,0,none⟩) an ac):=by rw[AG w sb 0 _ 22 (0,0) hs];rfl
 have x1:w.cell? ⟨sb,1,none⟩=some (.slice (some ⟨bb,0,none⟩) bn bc):=by rw[AG w sb 1 _ 22 (0,0) hs];rfl
 have Hs:=Jy hs;have Ha:=Jy ha;have Hb:=Jy hb;clear hs ha hb;go_enter func312,ntmps312
 go_wp2
 go_loopw [11,3] (λi s wr=>w=wr/\((i=.int .i64 0/\s=.int .i64 0)\/(i=.int .i64 1/\s=.int .i64 an)\/(i=.int .i64 2/\s=.int .i64 ((an:Int)+(bn:Int))))) (λi _ _=>2 - (intOf i).toNat)
 case atStart=>exact⟨rfl,.inl ⟨rfl,rfl⟩⟩
 case round =>
  obtain⟨rfl,⟨rfl,rfl⟩ | ⟨rfl,rfl⟩ | ⟨rfl,rfl⟩⟩:=hrel
  ·have h1:¬(an:Int)<0:=by omega
   go_wp2;go_roundw
   case rel=>exact⟨by trivial,.inr (.inl ⟨rfl,rfl⟩)⟩
   case measure=>simp[intOf]
  ·have h1:¬(an:Int)+(bn:Int)<0:=by omega
   go_wp2;go_roundw
   case rel=>exact⟨by trivial,.inr (.inr ⟨rfl,rfl⟩)⟩
   case measure=>simp[intOf]
  have ag:=Jy (nM w (an+bn) (by omega) (by omega));rw[show((an+bn:Nat):Int)=(an:Int)+(bn:Int) by omega]at ag;go_wp2_with fail;refine ag.o.mono ?_;rintro e w1 ⟨G,rfl,a6,a5⟩;have a9:=Jy a6;have a7:=Jy a5;clear a6 a5 ag;go_wp2
  go_loopw [27,6] (λi v wq=>Hid (Below w.heap.size w wq)/\((i=.int .i64 0/\∃g c,v=.slice (some ⟨g,0,none⟩) 0 c/\Hid (wq.ownsRow w.heap.size 3 1 (.slice (some ⟨g,0,none⟩) 0 c) 0 []))\/(i=.int .i64 1/\∃g c,v=.slice (some ⟨g,0,none⟩) an c/\Hid (wq.ownsRow w.heap.size 3 1 (.slice (some ⟨g,0,none⟩) an c) an (ES A)))\/(i=.int .i64 2/\∃g c,v=.slice (some ⟨g,0,none⟩) (an+bn) c/\Hid (wq.ownsRow w.heap.size 3 1 (.slice (some ⟨g,0,none⟩) (an+bn) c) (an+bn) (ES (A++B)))))) (λi _ _=>2 - (intOf i).toNat)
  case atStart=>exact⟨a7,.inl ⟨rfl,_,G,rfl,a9⟩⟩
  obtain⟨a4,⟨rfl,g,cc,rfl,Hq⟩ | ⟨rfl,g,cc,rfl,Hq⟩ | ⟨rfl,g,cc,rfl,Hq⟩⟩:=hrel
  ·have a8:=(a4.o.block sb (lt_of_heap Hs.o)).trans Hs.o;have y0:wr.cell? ⟨sb,0,none⟩=some (.slice (some ⟨ab,0,none⟩) an ac):=by rw[AG wr sb 0 _ 22 (0,0) a8];rfl
   have am:=Jy (VD Ha.o a4.o (AB _));have aa:=a4.o.size;clear a8 x0 x1;go_wp2_with (at_builtin;refine wpList_append_lies _ rfl _ _ 22 rfl w.heap.size 3 i0 (.int .i64 0) 1 8 underlying22 hi ai ao ah rfl (by decide) _ 0 [] rfl Hq.o ⟨ab,0,none⟩ an ac (ES A) rfl am.o.1 (Tz am.o) (WV A) (by omega) (by unfold maxLen;omega) (by omega) (by omega) wr.heap.size rfl ?_);intro g2 a2 w2 a1 a0 af ae;have a3:Hid (w2.ownsRow w.heap.size 3 1 (.slice (some ⟨g2,0,none⟩) an a2) an (ES A)):=by
    show w2.ownsRow _ _ _ _ _ _;simpa using a1
   have ad:=Jy (a4.o.grown a0 (by omega) (λq hq=>(Hq.o.lt q hq).1));clear a1 a0 af y0 ae
   try rw[Ao]
   go_wp2;go_roundw
   case rel=>exact⟨ad,.inr (.inl ⟨rfl,g2,a2,by simp,a3⟩)⟩
   case measure=>simp[intOf]
  ·have a8:=(a4.o.block sb (lt_of_heap Hs.o)).trans Hs.o;have y0:wr.cell? ⟨sb,1,none⟩=some (.slice (some ⟨bb,0,none⟩) bn bc):=by rw[AG wr sb 1 _ 22 (0,0) a8];rfl
   have aj:=Jy (VD Hb.o a4.o (AB _));have aa:=a4.o.size;clear a8 x0 x1;go_wp2_with (at_builtin;refine wpList_append_lies _ rfl _ _ 22 rfl w.heap.size 3 i0 (.int .i64 0) 1 8 underlying22 hi ai ao ah rfl (by decide) _ an (ES A) rfl Hq.o ⟨bb,0,none⟩ bn bc (ES B) rfl aj.o.1 (Tz aj.o) (WV B) (by omega) (by unfold maxLen;omega) (by omega) (by omega) wr.heap.size rfl ?_);intro g2 a2 w2 a1 a0 af ae;have a3:Hid (w2.ownsRow w.heap.size 3 1 (.slice (some ⟨g2,0,none⟩) (an+bn) a2) (an+bn) (ES (A++B))):=by
    show w2.ownsRow _ _ _ _ _ _;unfold ES at a1 ⊢;rw[Aq];exact a1
   have ad:=Jy (a4.o.grown a0 (by omega) (λq hq=>(Hq.o.lt q hq).1));clear a1 a0 af y0 ae;go_wp2;go_roundw
   case rel=>exact⟨ad,.inr (.inr ⟨rfl,g2,a2,rfl,a3⟩)⟩
   case measure=>simp[intOf]
  go_wp2;go_ret
  exact⟨g,cc,rfl,Hq.o,a4.o⟩
end S1
namespace S1
open Go.RowKit Pk Go.Shelf
theorem mz(w:D7)(n:Nat)(h0:0<n)(hn:n<=100000) :
 Calls prog 257 #[.slice none 0 0,.int .i64 n] w λe w'=>∃G,e=.returned (.slice (some ⟨w.heap.size,0,none⟩) 0 G)/\w'.ownsRow w.heap.size 88 1 (.slice (some ⟨w.heap.size,0,none⟩) 0 G) 0 []/\Below w.heap.size w w':=by
 obtain⟨i0,hi,a6,a8,a3⟩:=Ai Kt;have a0:(Builtin.firstCells i0.size 0 (.slice none 0 0)).run prog w.drew=.ok ([]:List Value).toArray w.drew:=run_firstCells_none w.drew i0.size 0 0 0;have hr:=λty=>Lib.run_append_grow_zeros w 201 3 ty 88 i0 (.int .u32 0) .i64 .i64 underlying201 underlying3 hi a6 none 0 0 [] a0 n (by omega) (by omega) (by omega) (by omega)
  (by rw[a3];omega) (by rw[a3,Ao];exact growslice_fits h0 (by omega))
 rw[Ao]at hr;obtain⟨G,hG⟩:=Jq (grownCap w n 0 88);have a7:n<=G:=by rw[hG];exact grownCap_ge w _ _ _
 have a2:G<=maxLen:=by rw[hG];exact grownCap_le_maxLen w n 0 88 (by unfold maxLen;omega)
 have a4:G<=9223372036854775807:=by unfold maxLen at a2;omega
 rw[<-hG]at hr;obtain⟨C,hC⟩:∃C:Array Value,C=([]:List Value).toArray++Builtin.zeroCells (Value.int IntKind.u32 0).cells n++Builtin.zeroCells (Value.int IntKind.u32 0).cells (G - n):=⟨_,rfl⟩;rw[<-hC]at hr;have a5:C.size=G:=by
  rw[hC,DM,DM,size_zeroCells,size_zeroCells]
  have:(Value.int IntKind.u32 0).cells.size=1:=rfl
  rw[this];simp;omega
 have a1:Hid ((w.drew.alloc (.cells C 88)).ownsRow w.heap.size 88 1 (.slice (some ⟨w.heap.size,0,none⟩) 0 G) 0 []):=⟨rfl,.inr ⟨_,G,C,rfl,AB _,AQ _ _,by omega,a2,by omega,by simp⟩⟩;have Hb:Hid (Below w.heap.size w (w.drew.alloc (.cells C 88))):=(AM _ w).drew.alloc (AB _) _;clear hC a5 hG a0;go_enter func257,ntmps257
 go_wp2_with (at_builtin;refine Lib.wpList_append_run _ rfl _ _ _ _ rfl _ _ rfl rfl _ _ (hr _) ?_);go_ret
 exact⟨G,rfl,a1.o,Hb.o⟩
theorem pE(w:D7)(rb g k a cap1 cap2:Nat)(ys:List Nat)(hlen:ys.length=k+a)(h0:0<ys.length)(hbig:ys.length<=100000)(hr:w.heap[rb]? = some (.cells #[.slice (some ⟨g,k,none⟩) a cap1,.slice (some ⟨g,0,none⟩) k cap2] 201 (0,0)))
 (hx:∀j,(h:j<ys.length)->w.cell? ⟨g,j,none⟩=some (E5 ys[j])) (hg:g<w.heap.size) :
 Calls prog 205 #[.slice (some ⟨rb,0,none⟩) 2 2] w λe w'=>∃v,e=.returned v/\w'.ownsRow w.heap.size 88 1 v ys.length ((ys.drop k++ys.take k).map E5)/\Below w.heap.size w w':=by
 obtain⟨i0,hi,ad,ah,ac⟩:=Ai Kt;have c0:w.cell? ⟨rb,0,none⟩=some (.slice (some ⟨g,k,none⟩) a cap1):=by rw[AG w rb 0 _ 201 (0,0) hr];rfl
 have c1:w.cell? ⟨rb,1,none⟩=some (.slice (some ⟨g,0,none⟩) k cap2):=by rw[AG w rb 1 _ 201 (0,0) hr];rfl
 have ae:=lt_of_heap hr;obtain⟨m,hm⟩:=Jq ys.length;have em:(a:Int)+(k:Nat)=(m:Nat):=by omega
 have am:0<m:=by omega
 have aj:m<=100000:=by omega
 have ao:a<=m:=by omega
 have ar:k<=m:=by omega
 have Hx:=Jy hx;have Hm:=Jy hm;have a1:=Jy hlen;clear hr hx hm hlen;go_enter func205,ntmps205
 go_wp2;refine wp_loop_rounds 3 ?_;rw[DC];go_wp2;rw[DC];go_wp2;rw[DC];go_wp2_with fail;refine(mz w m am aj).mono ?_;rintro e w1 ⟨G,rfl,a7,hb⟩;have d0:w1.cell? ⟨rb,0,none⟩=some (.slice (some ⟨g,k,none⟩) a cap1):=by rw[hb.cell (p:=⟨rb,0,none⟩) ae];exact c0
 have d1:w1.cell? ⟨rb,1,none⟩=some (.slice (some ⟨g,0,none⟩) k cap2):=by rw[hb.cell (p:=⟨rb,1,none⟩) ae];exact c1
 have Dx:Hid (∀j,(h:j<ys.length)->w1.cell? ⟨g,j,none⟩=some (E5 ys[j])):=Jy (λj h=>by rw[hb.cell (p:=⟨g,j,none⟩) hg];exact Hx.o j h);have a2:=Jy a7;have Hb:=Jy hb;clear a7 hb c0 c1;go_wp2;refine wp_loop_rounds 3 ?_;rw[DC];go_wp2_with (at_builtin;refine Ar _ rfl _ _ 201 rfl w.heap.size 88 i0 (.int .u32 0) 1 4 underlying201 hi ad ah ac rfl (by decide) _ _ _ rfl a2.o ⟨g,k,none⟩ a cap1 ((ys.drop k).map E5) rfl ?q0 ?q1 ?q2 ?q3 ?q4 ?q5 ?_)
 case q0=>have:=a1.o;simp;omega
 case q1 =>
  intro j u hj;have hl:=a1.o;have a5:k+j<ys.length:=by
   have:=(AP.1 hj).1
   simp at this;omega
  have:=Dx.o (k+j) a5
  rw[BQ,C7,AD a5]at hj;simp at hj;rw[<-hj,show(⟨g,k,none⟩:Addr).add j=⟨g,k+j,none⟩ by simp[Addr.add]];exact this
 case q2 =>
  intro u hu;obtain⟨x,_,rfl⟩:=Am.1 hu;rfl
 case q3=>simp[maxLen];omega
 case q4=>(try simp);omega
 case q5=>exact Hb.o.size
 intro v2 w2 a0 a9 af;have aa:Below w.heap.size w w2:=Hb.o.grown a9 Hb.o.size (λk e=>by have:=(a2.o.lt k e).1;omega);have f1:w2.cell? ⟨rb,1,none⟩=some (.slice (some ⟨g,0,none⟩) k cap2):=by
  rw[<-d1];exact AJ (a9.block rb (by have:=Hb.o.size;omega) (λe=>by have:=(a2.o.lt rb e.symm).1;omega))
 have Fx:Hid (∀j,(h:j<ys.length)->w2.cell? ⟨g,j,none⟩=some (E5 ys[j])):=Jy (λj h=>by rw[aa.cell (p:=⟨g,j,none⟩) hg];exact Hx.o j h)
 try simp only[Ao,BH]at a0
 have a4:=Jy a0;have a8:=Jy aa;clear a2 Hb a0 aa a9 d0 d1 Dx;go_wp2;rw[DC];go_wp2_with (at_builtin;refine Ar _ rfl _ _ 201 rfl w.heap.size 88 i0 (.int .u32 0) 1 4 underlying201 hi ad ah ac rfl (by decide) _ _ _ rfl a4.o ⟨g,0,none⟩ k cap2 ((ys.take k).map E5) rfl ?q0 ?q1 ?q2 ?q3 ?q4 ?q5 ?_)
 case q0=>have:=a1.o;simp;omega
 case q1 =>
  intro j u hj;have hl:=a1.o;have a5:j<k/\j<ys.length:=by
   have:=(AP.1 hj).1
   simp at this;omega
  have:=Fx.o j a5.2
  rw[BQ,Ak a5.1,AD a5.2]at hj;simp at hj;rw[<-hj,show(⟨g,0,none⟩:Addr).add j=⟨g,j,none⟩ by simp[Addr.add];exact λh=>h.symm];exact this
 case q2 =>
  intro u hu;obtain⟨x,_,rfl⟩:=Am.1 hu;rfl
 case q3=>simp[maxLen];omega
 case q4=>(try simp);omega
 case q5=>exact a8.o.size
 intro v3 w3 a3 ai ag;have an:Hid (Below w.heap.size w w3):=Jy (a8.o.grown ai a8.o.size (λk e=>by have:=(a4.o.lt k e).1;omega));have a6:=Jy a3;clear a3 ai;go_wp2;rw[DC];go_wp2;go_ret
 refine⟨v3,rfl,?_,an.o⟩
 have:=a6.o
 rw[Aq,List.map_drop,List.map_take,a1.o,Nat.add_comm];exact this
def Il(n a:Nat):Nat:=(n+4294967296 - a)%4294967296
theorem qu{n a:Nat}(hn:n<=4294967295)(ha:a<=4294967295):IntKind.u32.wrap ((n:Int) - (a:Int))=((Il n a:Nat):Int):=by
 unfold Il;rw[IntKind.wrap_u32];omega
theorem pB(n a:Nat):Il n a<=4294967295:=by unfold Il;omega
def Ig:List Nat->Nat->Nat->Nat->Nat->Nat
 | [],_,f,_,_=>f
 | n :: l,i,f,wd,a=>if wd<Il n a then Ig l (i+1) i (Il n a) n else Ig l (i+1) f wd n
def Eu(ys:List Nat):Nat:=Ig ys 0 0 0 (ys.getLastD 0)
def Tn(w:D7)(xs:List Nat)(e:Ending)(w':D7):Prop:=∃(v:Value) (ys:List Nat),e=.returned v/\ys.Perm xs/\Asc ys/\w'.ownsRow w.heap.size 88 1 v ys.length ((ys.drop (Eu ys)++ys.take (Eu ys)).map E5)/\Below w.heap.size w w'
theorem Pe(w:D7)(g cap:Nat)(cur:Array Value)(xs:List Nat)(hg:w.heap[g]? = some (.cells cur 88 (0,0)))(hx:cur.toList.take xs.length=xs.map E5)(hx0:xs≠[])(hbig:xs.length<=100000)(hxr:∀x∈xs,x<=4294967295) :
 Calls prog 141 #[.slice (some ⟨g,0,none⟩) xs.length cap] w λe w'=>Tn w xs e w':=by
 have aP:=lt_of_heap hg;obtain⟨W0,a4⟩:=Jq (w.alloc (.cells #[.slice (some ⟨g,0,none⟩) xs.length cap] 201));have ay:W0.heap.size=w.heap.size+1:=by rw[a4];simp
 have ao:Below w.heap.size w W0:=by rw[a4];exact(AM _ w).alloc (AB _) _
 have ax:W0.cell? ⟨w.heap.size,0,none⟩=some (.slice (some ⟨g,0,none⟩) xs.length cap):=by rw[a4];simp
 have aC:W0.heap[g]? = some (.cells cur 88 (0,0)):=(ao.block g aP).trans hg;have hv:Fy Fence.wide 1 prog 256 #[.pointer (some ⟨w.heap.size,0,none⟩)] (λx=>#[E5 x]) xs W0.heap.size (λk=>k<W0.heap.size) W0:=lH 1 (by omega) W0 w.heap.size g cap xs W0.heap.size _ (by omega) (by omega) (show g<W0.heap.size by omega) hbig ax cur aC hx;have B:=Jy ((BP (n:=4)).1 (pq 4 (by omega) 256 _ (enters_of func256 (by kernel_rfl) rfl) xs hx0 hbig W0 W0.heap.size _ (AB _) (λk hk=>hk) hv));have A:=Jy ((BP (n:=4)).1 (je 4 (some ⟨g,0,none⟩) xs.length cap w));have aG:=Jy a4;have aJ:=Jy ao;have aN:=Jy ay;obtain⟨xn,a9⟩:=Jq xs.length;rw[<-a9]at A aG ⊢;have ar:Hid (xn=xs.length/\0<xn):=Jy ⟨a9,by rw[a9];exact Bt.2 hx0⟩;clear hv ax aC hg a4 ao ay a9
 go_enter func141,ntmps141
 go_wp2_with fail;refine A.o.mono ?_;rintro e w1 ⟨rfl,aF⟩;rw[<-aG.o]at aF;subst aF;go_wp2_with fail;refine B.o.mono ?_;rintro e w2 ⟨v,ys,rfl,a0,a3,a2,aH⟩;have ai:=a0.length_eq;rcases a2.2 with⟨_,h0⟩ | ⟨g',cap',cur',rfl,hbase',hgb',hr1,hr2,a8,hr4⟩
 ·have:=ar.o;omega
 obtain⟨n,hn⟩:=Jq ys.length;have aS:0<n:=by have:=ar.o;omega
 have b0:n<=100000:=by omega
 have aw:n<=cap':=by omega
 obtain⟨n1,aO⟩:=Jq (n - 1);have aX:(n:Int) - 1=(n1:Nat):=by omega
 have ae:n1<n:=by omega
 obtain⟨Y,hY⟩:∃Y:Nat->Nat,∀j,Y j=ys[j]! := ⟨λj=>ys[j]!,λ_=>rfl⟩;have aD:Hid (∀j,(h:j<ys.length)->w2.cell? ⟨g',j,none⟩=some (E5 ys[j])):=Jy (λj h=>by
  rw[AG w2 g' j _ 88 (0,0) hgb',<-Bv]
  have:(cur'.toList.take (ys.length*1))[j]? = (ys.map E5)[j]? := by rw[hr4]
  rw[Ak (by omega)]at this;rw[this];simp[h])
 have aK:∀j,j<n->w2.cell? ⟨g',j,none⟩=some (.int .u32 (Y j:Nat)):=λj h=>by rw[aD.o j (by omega),hY,Bx ys j (by omega)];rfl
 have ad:∀j,j<n->Y j<=4294967295:=λj h=>by rw[hY,Bx ys j (by omega)];exact hxr _ (a0.mem_iff.1 (Bp _))
 have a5:=lt_of_heap hgb';have az:Hid (Below w.heap.size w w2):=Jy (aJ.o.trans (aH.mono (by have:=aN.o;omega)));have aW:cap'<=9223372036854775807:=by unfold maxLen at hr2;omega
 have HP:=Jy a0;have HS:=Jy a3;have Hn:=Jy hn;have HY:=Jy hY;have a6:Hid (Y n1=ys.getLastD 0):=Jy (by
  have e:ys.length - 1=n1:=by omega
  have h:n1<ys.length:=by omega
  rw[hY,Bx ys n1 h,Cc,List.getLast?_eq_getElem?,e,AD h];rfl)
 rw[<-hn];clear a2 aH hr4 a8 hr2 hgb' hbase' A B a0 a3 hn aO hY ai hr1;go_wp2_with fail
 go_loopg [4,5,6,21] n (λk s4 s5 s6 aM wr=>∃(i f wd ah:Nat),s4=.int .i64 f/\s5=.int .u32 wd/\s6=.int .u32 ah/\aM=.int .i64 i/\i<=n/\f<n/\wd<=4294967295/\ah<=4294967295/\n - i<=k/\wr=w2/\Hid (Ig (ys.drop i) i f wd ah=Eu ys))
 case atStart=>exact⟨0,0,0,Y n1,rfl,rfl,rfl,rfl,by omega,aS,by omega,ad n1 ae,by omega,rfl,Jy (by rw[a6.o];rfl)⟩
 case round =>
  obtain⟨i,f,wd,ah,rfl,rfl,rfl,rfl,hi,hf,aU,aT,hk,aQ,HF⟩:=hrel;have am:=aQ.symm;subst am;by_cases aA:i<n
  ·have af:(i:Int)<(n:Nat):=by omega
   have ac:=ad i aA;have aR:=qu ac aT;have HD:Hid (ys.drop i=Y i :: ys.drop (i+1)):=Jy (by
    have:=Hn.o
    rw[AX (by omega:i<ys.length),HY.o,Bx ys i (by omega)])
   by_cases aE:wd<Il (Y i) ah
   ·have ag:(wd:Int)<(Il (Y i) ah:Nat):=by omega
    go_wp2_with fail;go_roundg (n - (i+1))
    case measure=>omega
    case rel=>exact⟨i+1,i,Il (Y i) ah,Y i,rfl,rfl,rfl,by go_num,by omega,aA,pB _ _,ac,by omega,rfl,Jy (by rw[<-HF.o,HD.o];simp only[Ig];rw[AE aE])⟩
   have ag:¬(wd:Int)<(Il (Y i) ah:Nat):=by omega
   go_wp2_with fail;go_roundg (n - (i+1))
   case measure=>omega
   case rel=>exact⟨i+1,f,wd,Y i,rfl,rfl,rfl,by go_num,by omega,hf,aU,ac,by omega,rfl,Jy (by rw[<-HF.o,HD.o];simp only[Ig];rw[AC aE])⟩
  have af:¬(i:Int)<(n:Nat):=by omega
  have aB:Hid (f=Eu ys):=Jy (by have:=HF.o;rw[CX (by have:=Hn.o;omega)]at this;exact this);clear HF;have HF:=aB;clear aB;have aY:f<=n:=by omega
  have aV:¬cap'=f:=by omega
  have aZ:f<=cap':=by omega
  clear aK ad;go_wp2_with fail;refine BE (S:=λV=>True) (by kernel_rfl) trivial (λhHeld => ?_);refine tk 0 ⟨some 36,.move (.tmp 3),_,_,_,none⟩ (.slice (some ⟨g',0,none⟩) n cap') rfl (λw h=>by go_simp) hHeld ?_;simp only[zP,List.set];refine tk 1 ⟨some 37,.move (.tmp 4),_,_,_,none⟩ (.int .i64 f) rfl (λw h=>by go_simp) hHeld ?_;simp only[zP,List.set];refine tk 2 ⟨some 38,.slice 201 (.tmp 36) (some (.tmp 37)) none none,_,_,_,none⟩ (.slice (some ⟨g',f,none⟩) (n - f) (cap' - f)) rfl (λw h=>by go_simp) hHeld ?_;simp only[zP,List.set]
  refine tk 3 ⟨some 39,.move (.tmp 3),_,_,_,none⟩ (.slice (some ⟨g',0,none⟩) n cap') rfl (λw h=>by go_simp) hHeld ?_;simp only[zP,List.set];refine tk 4 ⟨some 40,.move (.tmp 4),_,_,_,none⟩ (.int .i64 f) rfl (λw h=>by go_simp) hHeld ?_;simp only[zP,List.set];refine tk 5 ⟨some 41,.slice 201 (.tmp 39) none (some (.tmp 40)) none,_,_,_,none⟩ (.slice (some ⟨g',0,none⟩) f cap') rfl (λw h=>by go_simp) hHeld ?_;simp only[zP,List.set];refine rd 6 rfl (λK hK => ?_);go_simp;obtain⟨W3,a7⟩:=Jq ((w2.alloc (.cells #[.slice (some ⟨g',f,none⟩) (n - f) (cap' - f),.slice (some ⟨g',0,none⟩) f cap'] 201)).drew)
  obtain⟨rb,aj⟩:=Jq w2.heap.size;have a8:W3.heap[rb]? = some (.cells #[.slice (some ⟨g',f,none⟩) (n - f) (cap' - f),.slice (some ⟨g',0,none⟩) f cap'] 201 (0,0)):=by rw[a7,aj];exact AQ _ _
  have aa:Below w2.heap.size w2 W3:=by rw[a7];exact((AM _ w2).alloc (AB _) _).drew
  have au:∀j,(h:j<ys.length)->W3.cell? ⟨g',j,none⟩=some (E5 ys[j]):=λj h=>by rw[aa.cell (p:=⟨g',j,none⟩) a5];exact aD.o j h
  have C:=Jy (pE W3 rb g' f (n - f) (cap' - f) cap' ys (by have:=Hn.o;omega) (by have:=Hn.o;omega) (by have:=Hn.o;omega) a8 au (AR a5 aa.size));have an:=Jy (az.o.trans (aa.mono az.o.size));refine hK.o _ _ trivial (λhHeld => ?_);rw[<-a7];simp only[<-aj];clear hK K a7 aj a8 aa au;refine rd 7 rfl (λK hK => ?_);go_simp;refine C.o.mono ?_;rintro e w4 ⟨v4,rfl,a1,av⟩;have aI:=Jy (an.o.trans (av.mono an.o.size));have aL:=Jy (ownsRow_base_a a1 an.o.size);rcases a1.2 with⟨_,h0⟩ | ⟨g4,cap4,cur4,rfl,_⟩
  ·have:=Hn.o;omega
  clear a1 av;refine hK.o _ _ trivial (λhHeld => ?_);clear hK K;refine tk 8 ⟨some 2,.assign (.tmp 43),_,_,_,none⟩ (.slice (some ⟨g4,0,none⟩) ys.length cap4) rfl (λw h=>by go_simp) hHeld ?_;simp only[zP,List.set];refine BT (by kernel_rfl) ?_ _;clear hHeld;go_wp2_with fail;go_ret
  refine⟨_,ys,rfl,HP.o,HS.o,?_,aI.o⟩;rw[<-HF.o];exact aL.o
end S1
end Go.Proofs.YtodmdkhdbfbfgaaGreatDoor
namespace Go.Proofs
open Go.RowKit Go.Maps Go.Sort Go.Shelf
shelf_lay_g SlLaysZI.n7 Ggz 7 at Tryz 140 as keysA
shelf_lay_g SlLaysZI.n6 Ggz 6 at Tryz 139 as sortedA
shelf_lay_g SlLaysM.n5 Slgm 5 at Tryz 201 as sortA
theorem PH(m:Nat):AnyZI.SortsIn prog sortedA_ren Fence.wide m:=
 ⟨λDg off cap ss W hH hblk hsz=>BP.2 (AnyM.slices_Sort_int sortA Dg off cap ss W hH hblk hsz),
  λp cap W=>BP.2 (AnyM.slices_Sort_int_none sortA p cap W)⟩
namespace YtodmdkhdbfbfgaaGreatDoor.S1
theorem eS(mb:Option Nat)(w:D7):Calls prog 140 #[.map mb] w λe w'=>e=.returned (.func (.func 202) #[] #[.pointer (some ⟨w.heap.size,0,none⟩)])/\w'=w.alloc (.cells #[.map mb] 200):=
 (BP (n:=5)).1 (AnyZI.keys_in keysA Fence.wide 5 trivial rfl mb w)
theorem pF{H:Type}{R:Value->Option (DataW H × List MemPlace)}(w:D7)(Bm g n:Nat)(D:DataW H)(hBm:Bm<w.heap.size)(hm:w.cell? ⟨Bm,0,none⟩=some (.map (some g)))(hown:w.ownsMap prog 3 R g n D)(hn:Maps.size D<=100000) :
 Calls prog 139 #[.func (.func 202) #[] #[.pointer (some ⟨Bm,0,none⟩)]] w λe w'=>∃(v:Value) (ss:List Int),e=.returned v/\ss.Perm (intKeys D)/\w'.ownsRow w.heap.size 3 1 v ss.length ((ss.mergeSort (λx y=>decide (x<=y))).map encZ)/\(v=.slice none 0 0↔ss=[])/\Below w.heap.size w w':=by
 have a0:SeqGives Fence.wide 2 prog 202 #[.pointer (some ⟨Bm,0,none⟩)] encZ (λss=>ss.Perm (intKeys D)) (Maps.size D) w:=
  AnyZI.keys_gives (ρ:=keysA_ren) { keysA with } Fence.wide _ trivial rfl (by omega) Bm g n D _ hBm hm hown
 have cS:=AnyZI.sorted_in sortedA Fence.wide 5 trivial trivial trivial trivial rfl (by omega) (PH _) (enters_of func201 (by kernel_rfl) rfl) 202 #[.pointer (some ⟨Bm,0,none⟩)] trivial (enters_of func202 (by kernel_rfl) rfl) _ _ (by unfold maxLen;omega) (by omega) _ a0;change CallsIn _ _ prog 139 _ _ _ at cS;exact(BP (n:=5)).1 cS
end YtodmdkhdbfbfgaaGreatDoor.S1
end Go.Proofs
