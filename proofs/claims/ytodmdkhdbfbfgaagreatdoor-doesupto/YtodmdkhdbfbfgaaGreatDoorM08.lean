/- Lemmas. -/
import Derived.Deep.WholeRow
import Derived.Test.YtodmdkhdbfbfgaaGreatDoorM07
set_option linter.unusedVariables false
set_option linter.unusedSimpArgs false
set_option maxRecDepth 100000
set_option maxHeartbeats 8000000
open Go.Proofs.Tryz
abbrev Go.Dj:=@Prod.mk.injEq
namespace Go.Proofs.YtodmdkhdbfbfgaaGreatDoor
namespace Y
open Go.RowKit Pk
theorem Lz(w:Z)(lo hi cb:Nat)(L:Loc)(m:M)(hw:WF m)(h:CP w lo hi cb L m)(hsz:hi<=w.heap.size):Calls prog 21 #[.c cb] w λe w'=>∃L',e=.a (.c w.heap.size)/\CP w' w.heap.size w'.heap.size w.heap.size L' m/\Below w.heap.size w w':=by
 have c0:=EM.c0 h;have c1:=EM.c1 h;have c2:=EM.c2 h;have c3:=EM.c3 h;have c4:=EM.c4 h;have c5:=EM.j h;have c6:=EM.t h;have c7:=EM.c7 h;have aZ:=hw.d;have bl:=hw.a;have bf:=hw.e;have bz:=hw.b;have Hh:Hid (∀W,Below w.heap.size w W->CP W lo hi cb L m):=λW hb=>EM.f h hsz hb;go_enter func21,ntmps21;go_wp2;have hG:cb<w.heap.size:=AQ (Hh _ (AP _ _)).g.2 hsz;have ao:=J (AR w (Obj.cells #[.a m.d,.g,.b L.c m.a L.b,.b L.a m.a L.d,.a m.b,.a m.cut,.a m.fail,.a m.part] 74));have aQ:=J ((AP w.heap.size w).alloc (AB _) (Obj.cells #[.a m.d,.g,.b L.c m.a L.b,.b L.a m.a L.d,.a m.b,.a m.cut,.a m.fail,.a m.part] 74));obtain⟨i0,bu,aX,be,bp⟩:=An NH;obtain⟨j0,gi,bc,bq,b7⟩:=An Kq;obtain⟨k0,ki,b4,bh,br⟩:=An LY;obtain⟨l0,li,bm,aY,bs⟩:=An Ru;obtain⟨G,aG⟩:=E w.heap.size;rw[<-aG]at ao aQ Hh hG hsz ⊢;change Hid _ at aG;go_loopw [4] (λx wr=>∃k:Nat,k<=m.a/\x=.a k/\∃da dc rw cr,wr.heap[G]?=some (.cells #[.a m.d,.slice da k dc,.b L.c m.a L.b,.b L.a m.a L.d,.a m.b,.a m.cut,.a m.fail,.a m.part] 74 (0,0))/\Data wr G (.slice da k dc) k m.d rw cr (λi p=>id (m.c i p))/\Below G w wr) (λx _=>m.a-(intOf x).toNat)
 case atStart=>exact⟨0,by omega,I,none,0,λ_=>0,λ_=>0,ao,Data.nil _ _ _ _ _ _,aQ⟩
 case round=>
  obtain⟨k,hk,rfl,da,dc,rw,cr,an,ac,aa⟩:=hrel;have hm:=Hh _ aa;have c1:=EM.c1 hm;have aL:G<wr.heap.size:=lt_of_heap an;by_cases aW:k<m.a
  ·have cd:=hm.data.cell aW;have aJ:=hm.e k aW;change Hid _ at an ac aa hm;have x0:=EV 1 an;have bj:(((List.range m.d).map λp=>Value.string (X (id (m.c k p))))).length=m.d*1:=EJ;have bi:∀u∈((List.range m.d).map λp=>Value.string (X (id (m.c k p)))),u.oneCell'=true:=(by intro u hu;simp at hu;obtain⟨p,_,rfl⟩:=hu;rfl);have bx:=J aJ.news;go_wp2_with fail;go_region_law (first
    | (refine step_append_lies _ KH _ _ _ KH G 9 j0 _ 1 16 underlying40 gi bc bq b7 rfl U (.g) 0 [] KH (Af _ _ _ _) ⟨L.rw k,0,none⟩ m.d (L.cr k) ((List.range m.d).map λp=>Value.string (X (id (m.c k p)))) KH bj bx bi U Fs U EL wr.heap.size EJ ?_;intro g cap w1 a4 a3 aD aK;have aR:Hid (g=wr.heap.size):=(by rcases aD with h | h;(· simp[Value.ownBlock]at h);(· exact h));have K1:∀t,E6 t wr w1:=(λt k x f e=>a3.u k (lt_of_heap e) (by simp[Value.ownBlock]));have a2:=(K1 74).u an;have aA:Hid (Below G w w1):=aa.o.drew.C a3 (C5 aL) (λq hq=>by simp[Value.ownBlock]at hq);have x1:w1.cell? (O G 1)=some (.slice da k dc):=(by rw[AU w1 G 1 _ 74 (0,0) a2];rfl);have bB:∀o,(w1.alloc o).cell? (O G 1)=some (.slice da k dc):=(λo=>(AK (w:=w1) (AO w1 o G (Am w1 ⟨G,1,none⟩ x1))).i x1);have a6:=J ((K1 40).own ac.o.own);have aE:Hid (Rw w1 g 9 m.d (λp=>.string (X (id (m.c k p))))):=(by have a4:w1.ownsRow G 9 1 (.b g m.d cap) m.d ((List.range m.d).map λp=>.string (X (id (m.c k p)))):=(EU a4);obtain⟨g',bn,aT,_,aF⟩:=Wp a4 U;simp at aT;obtain⟨rfl,rfl⟩:=aT;exact aF);have bg:wr.heap.size<=w1.heap.size:=a3.size;have b8:=J K1;have aI:=J a2;clear a3 aD a2 a4 K1)
    | (refine step_append_lies _ KH _ _ _ KH G 40 i0 _ 1 24 underlying71 bu aX be bp rfl U (.slice da k dc) k _ KH (a6.o.alloc _) ⟨w1.heap.size,0,none⟩ 1 1 [.b g m.d cap] KH rfl (B9 _ _ _) (by intro u hu;simp at hu;subst hu;rfl) U Fs U EL (w1.heap.size+1) EJ ?_;intro g2 a7 w2 ah a5 aN b9;have K2:∀t,t≠40->E6 t w1 w2:=(λt ht=>((E6.refl t w1).alloc _).C (a6.o.alloc _) (λe=>ht e.A) a5);have ae:=(K2 74 EB).u aI;have x2:w2.cell? (O G 1)=some (.slice da k dc):=(by rw[AU w2 G 1 _ 74 (0,0) ae];rfl);have f2:=Fg 1 ae;have av:Hid (Below G w w2):=(aA.o.alloc (AG (C5 aL) bg) _).C a5 EL (λq hq=>(a6.o.lt q hq).1);have aV:=J K2;have af:=J ae;have aC:=J ah;clear ah a5 aN K2 ae))
   all_goals have ay:=AJ w2 G 1 _ 74 (.b g2 (k+1) a7) af
   all_goals have K9:E6 9 wr (w2.setCell (O G 1) (.b g2 (k+1) a7)):=((b8 9).i (aV 9 EB)).set af EB
   all_goals have aS:E6 40 w2 (w2.setCell (O G 1) (.b g2 (k+1) a7)):=(E6.refl _ _).set af EB
   all_goals have aU:E6 9 w1 (w2.setCell (O G 1) (.b g2 (k+1) a7)):=(aV 9 EB).set af EB
   all_goals have ad:=ac.o.push K9 (r:=g) (c:=cap) (f:=λp=>id (m.c k p)) (by rw[aR.o];omega) (by rw[aR.o];omega) (aU.rw aE) (aS.own aC)
   all_goals have aP:put (λi p=>id (m.c i p)) k (λp=>id (m.c k p))=λi p=>id (m.c i p):=(by
    funext a b;unfold put;by_cases e:a=k
    ·rw[AD e,e]
    rw[AC e])
   all_goals rw[aP]at ad
   all_goals have az:=J (av.o.setCell (p:=⟨G,1,none⟩) (AB _) (.b g2 (k+1) a7))
   all_goals change Hid _ at ay
   all_goals change Hid _ at ad
   all_goals clear K9 aS aU aP
   all_goals go_wp2
   all_goals(go_roundw;(case rel=>exact⟨k+1,by omega,by go_num,FH g2,a7,_,_,ay,ad,az⟩);(case measure=>simp[intOf];omega))
  have bb:m.a=k:=U;subst bb;have a1:=EM.c2 hm;change Hid _ at an ac aa;have b6:=hm.next;go_wp2_with (at_builtin;refine wpList_append_lies _ I _ _ 22 I G 3 k0 (.a 0) 1 8 underlying22 ki b4 bh br I EB (.g) 0 [] I (Af _ _ _ _) ⟨L.c,0,none⟩ m.a L.b ((List.range m.a).map λi=>.a (m.g i:Nat)) I ?c0 ?c1 ?c2 ?c3 ?c4 ?c5 ?c6 wr.heap.size I ?_)
  case c0=>simp
  case c1=>exact b6.news
  case c2=>intro u hu;simp at hu;obtain⟨p,_,rfl⟩:=hu;rfl
  case c3=>omega
  case c4=>unfold maxLen;omega
  case c5=>omega
  case c6=>omega
  intro g cap w1 a4 a3 aD aK;have a9:=(EU a4);have K1:∀t,E6 t wr w1:=λt k x f e=>a3.u k (lt_of_heap e) (by simp[Value.ownBlock]);have a2:=(K1 74).u an;have z2:w1.cell? (O G 2)=some (.b L.c m.a L.b):=(by rw[AU w1 G 2 _ 74 (0,0) a2];rfl);have zf:=Fg 2 a2;have ar:=AJ w1 G 2 _ 74 (.b g m.a cap) a2;have ai:=((E6.refl 3 w1).set (o:=2) (v:=.b g m.a cap) a2 EB).own a9;have aj:=ac.o.d ((K1 9).set (o:=2) (v:=.b g m.a cap) a2 EB) ((K1 40).set (o:=2) (v:=.b g m.a cap) a2 EB);have ag:Below G w (w1.setCell (O G 2) (.b g m.a cap)):=(aa.o.C a3 (C5 aL) (λq hq=>by simp[Value.ownBlock]at hq)).c;have aM:=J ar;change Hid _ at ai aj;have ax:=J ag;have aO:=Hh _ ag;have b3:=EM.c3 aO;have bA:=aO.b;have b0:G<(w1.setCell ⟨G,2,none⟩ (.slice (some ⟨g,0,none⟩) m.a cap)).heap.size:=lt_of_heap ar;go_wp2_with (at_builtin;refine wpList_append_lies _ I _ _ 72 I G 4 l0 (.bool false) 1 1 underlying72 li bm aY bs I EB (.g) 0 [] I (Af _ _ _ _) ⟨L.a,0,none⟩ m.a L.d ((List.range m.a).map λi=>.bool (m.e i)) I ?c0 ?c1 ?c2 ?c3 ?c4 ?c5 ?c6 (w1.setCell (O G 2) (.b g m.a cap)).heap.size I ?_)
  case c0=>simp
  case c1=>exact bA.news
  case c2=>intro u hu;simp at hu;obtain⟨p,_,rfl⟩:=hu;rfl
  case c3=>omega
  case c4=>unfold maxLen;omega
  case c5=>omega
  case c6=>omega
  intro g3 a8 w3 a4 a3 aD b5;have a9:=(EU a4);have K1:∀t,E6 t (w1.setCell (O G 2) (.b g m.a cap)) w3:=λt k x f e=>a3.u k (lt_of_heap e) (by simp[Value.ownBlock]);have a2:=(K1 74).u aM;have y2:w3.cell? (O G 3)=some (.b L.a m.a L.d):=(by rw[AU w3 G 3 _ 74 (0,0) a2];rfl);have yf:=Fg 3 a2;have aH:=AJ w3 G 3 _ 74 (.b g3 m.a a8) a2;have aw:=((E6.refl 4 w3).set (o:=3) (v:=.b g3 m.a a8) a2 EB).own a9;have au:=((K1 3).set (o:=3) (v:=.b g3 m.a a8) a2 EB).own ai;have aB:=aj.o.d ((K1 9).set (o:=3) (v:=.b g3 m.a a8) a2 EB) ((K1 40).set (o:=3) (v:=.b g3 m.a a8) a2 EB);have am:Below G w (w3.setCell (O G 3) (.b g3 m.a a8)):=(ax.o.C a3 (C5 b0) (λq hq=>by simp[Value.ownBlock]at hq)).c;have HE:=J (EM.built (T:=74) (enc:=id) (g4:=m.b) (g5:=m.cut) (g6:=m.fail) (g7:=m.part) (by omega:0<m.a) EB (AB G) aH aB (λi p _ _=>rfl) au aw);change Hid _ at am;go_wp2;go_ret;obtain⟨L',hL⟩:=HE;rw[<-aG.o];exact⟨L',I,hL,am⟩
end Y
section
open Go.RowKit Go.Nt
theorem jH(l:List It):GF (Eg l)=GF l:=((MQ l).map _).sum_nat
theorem vS(l:List It)(p:Bs):FW (Eg l) p=FW l p:=by unfold FW;rw[CB,Ap,Ap];exact⟨λ⟨x,a,h⟩=>⟨x,Eo.1 a,h⟩,λ⟨x,a,h⟩=>⟨x,Eo.2 a,h⟩⟩
theorem EX.a{l:List It}(h:EX l):EX (Eg l):=
 ⟨by rw[KW];exact h.len,λx a=>h.ok x (Eo.1 a),(((MQ l).map _).nodup_iff).2 h.nodup,λx a=>by rw[vS];exact h.up x (Eo.1 a)⟩
variable {l:List Fp} {u:Bs->Option Bs} {t:List It} {m:Y.M}
theorem iU{a b:List Nat}(e:Y.Asc a)(f:Y.Asc b)(h:a.Perm b):a=b:=
 Cv (le:=λx y:Nat=>x<=y) (λx y _ _ c d=>Nat.le_antisymm c d) e f h
theorem iT{f:List (Nat×Nat)}(h:f.Nodup)(b:Nat):(Y.numsOf f b).Nodup:=by unfold Y.numsOf;refine CT.2 ((h.filter _).imp_of_mem (λ{_ y} g i a e=>a ?_));have c:=(Ad.1 g).2;have d:=(Ad.1 i).2;simp at c d;exact Prod.ext (c.i d.A) e
theorem kH{a:List (Nat×Nat)}{b y:Nat}:y∈Y.numsOf a b↔(b,y)∈a:=by
 unfold Y.numsOf;rw[AZ];constructor
 .rintro⟨x,c,rfl⟩;have:=Ad.1 c;have e:x.1=b:=EU this.2;rw[<-e];exact this.1
 intro h;exact⟨(b,y),Ad.2 ⟨h,by simp⟩,I⟩
theorem rC{g i:List (Nat×Nat)}(D:Y.Gx l g)(F:Y.Gx l i):g=i:=by
 obtain⟨f,G,_,j,k,m,n,o,q,rfl⟩:=D;obtain⟨c,r,_,v,w,z,A,B,C,rfl⟩:=F;have t:∀x,x∈f↔x∈c:=λx=>(k x).i (w x).A;have a:∀b,(Y.numsOf f b).Perm (Y.numsOf c b):=λb=>(Cp (iT j b) (iT v b)).2 (λy=>by rw[kH,kH];exact t _);have u:G=r:=iU m z ((Cp n A).2 (λb=>by
  rw[o,B];constructor
  .intro h e;have p:=a b;rw[e]at p;exact h p.eq_nil
  intro h e;have p:=(a b).A;rw[e]at p;exact h p.eq_nil))
 subst u;rw[List.flatMap_def,List.flatMap_def];congr 1;refine BO (λb d=>?_);obtain⟨L,H,K,e1⟩:=q b d;obtain⟨s,q1,q2,e2⟩:=C b d;have:L=s:=iU K q2 ((H.i (a b)).i q1.A);rw[e1,e2,this]
def JD(u:Bs->Option Bs)(l:List Fp)(xs:List (Nat×Nat))(t:List It):Prop:=∃pre x post tl,xs=pre++x::post/\(∀y∈pre,Jw u l y)/\parse u (Fi (Y.GY l x.1 x.2))=some tl/\Ek tl=true/\Eg tl=t
theorem JD.not{a:List (Nat×Nat)}(h:JD u l a t):¬∀x∈a,Jw u l x:=by obtain⟨_,x,_,e,rfl,_,b,c,_⟩:=h;intro d;have:=d x EJ e b;rw[c]at this;cases this
theorem JD.unique:∀{xs:List (Nat×Nat)} {t t':List It},JD u l xs t->JD u l xs t'->t=t':=by
 intro xs;induction xs with
 |nil=>rintro t t' ⟨d,x,b,i,e,_⟩;simp at e
 |cons y B v=>
  rintro t t' ⟨d,x,b,i,e,o,g,q,r⟩ ⟨c,A,s,n,a,k,f,j,m⟩;cases d with
  |nil=>
   simp at e;obtain⟨rfl,rfl⟩:=e;cases c with
   |nil=>simp at a;obtain⟨rfl,rfl⟩:=a;rw[g]at f;cases f;rw[<-r,m]
   |cons w c=>simp at a;obtain⟨rfl,rfl⟩:=a;have:=k y EJ i g;rw[q]at this;cases this
  |cons p d=>
   simp at e;obtain⟨rfl,rfl⟩:=e;cases c with
   |nil=>simp at a;obtain⟨rfl,rfl⟩:=a;have:=o y EJ n f;rw[j]at this;cases this
   |cons w c=>simp at a;obtain⟨rfl,a⟩:=a;exact v ⟨d,x,b,i,I,λz h=>o z (by simp[h]),g,q,r⟩ ⟨c,A,s,n,a,λz h=>k z (by simp[h]),f,j,m⟩
def Finds(u:Bs->Option Bs)(m:Y.M)(t:List It):Prop:=∀ord,Y.Gx (Y.Fq m) ord->JD u (Y.Fq m) ord.reverse t
theorem Finds.of{a:List (Nat×Nat)}(b:Y.Gx (Y.Fq m) a)(h:JD u (Y.Fq m) a.reverse t):Finds u m t:=λo c=>by rw[rC c b];exact h
theorem Finds.laid{c n:Nat}{K:Nat->Bool}{t:Bs}{l:List It}(h:Y.L0 m c n K t)(k:Y.WF m)(s:Fu u (Eg l) t)(i:EX l):Finds u m (Eg l):=λa q=>by
 obtain⟨_,z,f,j,o,_⟩:=h.whole k;have A:=h.Qp k;have p:=h.num;have d:(c,n)∈a:=mj q (by dsimp only;omega) (by dsimp only;omega) o;have b:=h.last k a q (λe=>by rw[e]at d;cases d);rw[List.getLast?_eq_head?_reverse]at b;cases r:a.reverse with
 |nil=>rw[r]at b;cases b
 |cons x g=>
  rw[r]at b;simp at b;subst b;refine⟨[],(c,n),g,Eg l,I,(λy w=>by cases w),?_,(Pu _).2 i.a,?_⟩
  .dsimp only;unfold Y.GY;rw[f,Option.getD_some,j];exact iw s (λx v=>NR (i.ok x (Eo.1 v))) (by rw[KW];exact Dz i.len) z
  exact ZF i
end
namespace Y
open Go.RowKit
variable {w w' w2:Z} {base n B N m p:Nat} {v mk v' u vo:Value} {ys L:List Value} {A:Nat->Option Addr} {z0O:Obj}
theorem Io(a b:Option Addr)(n c d:Nat)(f:Nat->ByteArray)(w:Z)(r:n<=1000)(l:My w a n f)(m:My w b n f):Calls prog 106 #[.slice a n c,.slice b n d] w λe w'=>e=.a (.bool true)/\∃q,w'=w.drewN q:=by
 go_enter func106,ntmps106;go_wp2;go_loopw [5] (λi wr=>∃k:Nat,k<=n/\i=.a k/\∃q,wr=w.drewN q) (λi _=>n-(intOf i).toNat)
 case atStart=>exact⟨0,AW _,I,0,I⟩
 case round=>
  obtain⟨k,_,rfl,q,rfl⟩:=hrel;by_cases g:k<n
  .obtain⟨_,_,e1,h⟩:=l U;obtain⟨_,_,e2,j⟩:=m U;subst e1;subst e2;have p:=h k g;have o:=j k g;clear h j l m;generalize f k=s at *;go_wp2;go_quiet (fail);go_wp2;go_roundw
   case rel=>exact⟨k+1,by omega,by go_num,_,I⟩
   case measure=>simp[intOf];omega
  go_wp2;go_ret;exact⟨I,q,I⟩
theorem VB(h:w.ownsRow base 9 1 v n (List.replicate n mk)):∃a c,v=.slice a n c/\EZ w base mk a n:=by
 rcases h.2 with⟨rfl,rfl⟩|⟨g,b,d,rfl,f,i,_,_,_,e⟩
 .exact⟨none,0,I,λh=>absurd h U⟩
 refine⟨_,b,I,λ_=>⟨g,d,I,f,i,λj k=>?_⟩⟩;have:=AX (λl:List Value=>l[j]?) e;simpa[k]using this
theorem Zk{a:Option Addr}(h:EZ w B mk a n)(s:w.grownBy w' v.ownBlock)(x:n<=N) (b:w'.ownsRow B 9 1 v' N (List.replicate N mk)) (t:∀g,v.ownBlock=some g->w'.heap[g]?=w.heap[g]? \/ v'.ownBlock=some g):EZ w' B mk a n:=by
 intro u;obtain⟨g,i,rfl,d,f,k⟩:=h u;by_cases e:v.ownBlock=some g
 .rcases t g e with c|c
  .exact⟨g,i,I,d,c.i f,k⟩
  obtain⟨m,_,rfl,_,q,r⟩:=PO b c;refine⟨g,m,I,d,q,λj _=>?_⟩;have:=AX (λl:List Value=>l[j]?) r;have o:j<N:=U;simpa[o]using this
 exact⟨g,i,I,d,(s.u g (lt_of_heap f) (λp=>e p.A)).i f,k⟩
theorem Uy{e:TypeId}{d:List Value}{c:TypeId}(h:w.ownsRow base e 1 v n d)(k:w.ownsRow base c 1 u m ys)(b:e≠c)(j:w.grownBy w' u.ownBlock):w'.ownsRow base e 1 v n d:=by
 refine h.kept j ?_;cases l:v.ownBlock with
 |none=>exact .w I
 |some g=>refine .s λi=>?_;obtain⟨c1,_,_,_,f,_⟩:=PO h l;obtain⟨c2,_,_,_,a,_⟩:=PO k i.A;rw[f]at a;simp at a;exact b a.2
theorem Zw(d:w.ownsRow base 40 1 u m ys):∀g cur,u.ownBlock=some g->w.heap[g]? ≠ some (.cells cur 9 (0,0)):=by intro g cur b c;obtain⟨c2,_,_,_,a,_⟩:=PO d b;rw[c]at a;simp at a
theorem pj{wr:Z}{d:Option Addr}{e:Nat} (c:wr.ownsRow B 9 1 (.slice d N e) N (List.replicate N mk)) (a:wr.ownsRow B 40 1 vo p L) (h:∀q,q<p->EZ wr B mk (A q) (n+q)) (f:Below B w wr) (l:B<=w.heap.size) (b:(wr.alloc z0O).grownBy w2 vo.ownBlock):w2.ownsRow B 9 1 (.slice d N e) N (List.replicate N mk)/\(∀q,q<p->EZ w2 B mk (A q) (n+q))/\Below B w w2:=by have m:=f.size;have g:wr.b (wr.alloc z0O):=Iy;refine⟨Uy (c.alloc z0O) (a.alloc z0O) EB b,λq j=>((h q j).f g).C b (Zw (a.alloc z0O)),?_⟩;exact(f.alloc U z0O).C b EL (λk i=>((a.alloc z0O).lt k i).1)
theorem xY{a:Z} (h:w2.ownsRow B 9 1 v N (List.replicate N mk)) (d:a.ownsRow B 9 1 v' (N+1) (List.replicate (N+1) mk)) (e:w2.ownsRow B 40 1 vo p L) (j:∀q,q<p->EZ w2 B mk (A q) (n+q)) (o:n+p<=N+1) (f:Below B w w2) (m:B<=w.heap.size) (b:(w2.alloc z0O).grownBy a v.ownBlock) (c:∀g,v.ownBlock=some g->a.heap[g]?=(w2.alloc z0O).heap[g]? \/ v'.ownBlock=some g):a.ownsRow B 40 1 vo p L/\(∀q,q<p->EZ a B mk (A q) (n+q))/\Below B w a:=by
 have r:=f.size;have i:w2.b (w2.alloc z0O):=Iy;refine⟨Uy (e.alloc z0O) (h.alloc z0O) EB b,λq l=>?_,?_⟩
 .exact Zk ((j q l).f i) b U d c
 exact(f.alloc U z0O).C b EL (λk c=>((h.alloc z0O).lt k c).1)
theorem X8(k:Nat)(f:Nat->Value)(r:Value):(List.range k).map f++[r]=(List.range (k+1)).map (λj=>if j<k then f j else r):=by
 rw[Be,Au];congr 1
 .apply BO;intro j a;rw[AD (EU a)]
 simp
theorem Yl(p n:Nat)(A:Nat->Option Addr)(C:Nat->Nat)(a:Option Addr)(b:Nat):((List.range p).map λq=>Value.slice (A q) (n+q) (C q))++[.slice a (n+p) b]=(List.range (p+1)).map λq=>Value.slice (if q<p then A q else a) (n+q) (if q<p then C q else b):=by
 rw[X8];apply BO;intro q c;have:q<p+1:=EU c;by_cases e:q<p
 .rw[AD e,AD e,AD e]
 rw[AC e,AC e,AC e,show q=p by omega]
theorem Qx(a:Option Addr)(n cap B:Nat)(o:List Value)(mk:ByteArray)(w:Z)(b:n<=1000)(Q:B<=w.heap.size)(l:w.ownsRow B 9 1 (.slice a n cap) n o):Calls prog 159 #[.slice a n cap,.string mk] w λe w'=>∃v,e=.a v/\Marks w' B v n (.string mk)/\Below B w w':=by
 obtain⟨T,P,F,H,x⟩:=An NH;obtain⟨j0,gi,y,aE,aJ⟩:=An Kq;go_enter func159,ntmps159;go_wp2;go_loopw [5] (λi wr=>∃k:Nat,k<=n/\i=.a k/\(∃f,wr.r B 9 1 (.slice a n cap) n f/\∀j,j<k->f[j]?=some (.string mk))/\Below B w wr) (λi _=>n-(intOf i).toNat)
 case atStart=>exact⟨0,AW _,I,⟨o,l,λj D=>absurd D U⟩,AP _ _⟩
 case round=>
  clear l;obtain⟨k,_,rfl,⟨f,b,V⟩,c⟩:=hrel;have L:Hid (∀j,j<k->f[j]?=some (.string mk)):=V;clear V;by_cases d:k<n
  .obtain⟨g,d⟩:∃g,a=FH g:=by
    rcases b.2 with⟨h,h0⟩|⟨g,_,_,h,_⟩
    .omega
    simp at h;exact⟨g,h.1⟩
   subst d;have G:=b.1;obtain⟨u,d⟩:∃u,f[k]?=some u:=⟨_,AE U⟩;have l:wr.g g k u:=(b.cellAt k U).i d;have l:=b.frozenAt k;have z:=b.stored k (.string mk);have t:=(b.lt g I).1;clear d;have s:Hid (f.length=n*1):=G;clear G;go_wp2;go_roundw
   case rel=>
    refine⟨k+1,by omega,by go_num,⟨_,z.1,λj D=>?_⟩,c.setCell t _⟩;rw[List.getElem?_set];by_cases e:k=j
    .rw[AD e];subst e;rw[AD (Dz s.o)]
    rw[AC e];exact L.o j U
   case measure=>simp[intOf];omega
  have K:f=List.replicate n (.string mk):=by
   apply DM;intro j;have G:=b.1;by_cases D:j<n
   .rw[L.o j U];simp[D]
   rw[Ay U,Ay EL]
  subst K;clear L;go_wp2;go_loopw [6,7,8] (λf l i wr=>∃p:Nat,p<=4/\i=.a p/\∃(r:Value),r=f/\∃(m:Option Addr) (M:Nat) (A:Nat->Option Addr) (C:Nat->Nat),l=.slice m (n+p) M/\wr.r B 9 1 l (n+p) (List.replicate (n+p) (.string mk))/\wr.r B 40 1 r p ((List.range p).map λq=>.slice (A q) (n+q) (C q))/\(∀q,q<p->EZ wr B (.string mk) (A q) (n+q))/\Below B w wr) (λ_ _ i _=>4-(intOf i).toNat)
  case atStart=>exact⟨0,by omega,I,_,I,a,cap,λ_=>none,λ_=>0,I,b,Af _ _ _ _,λq V=>absurd V U,c⟩
  clear b c;obtain⟨p,N,rfl,r,rfl,m,M,A,C,rfl,K,l,z,c⟩:=hrel;have b:=c.size;by_cases b:p<4
  .have R:Hid (∀q,q<p->EZ wr B (.string mk) (A q) (n+q)):=z;clear z;go_wp2_with (at_builtin;refine gq _ I (.tmp 24) (.tmp 26) 71 I B 40 T (.g) 1 24 underlying71 P F H x I EB _ _ _ I (l.alloc _) ⟨wr.s,0,none⟩ 1 1 [.slice m (n+p) M] I I ?c1 ?c2 ?c3 ?c4 ?c5 ?_)
   case c1=>exact B9 _ _ _
   case c2=>intro u d;simp at d;subst d;rfl
   case c3=>unfold maxLen;omega
   case c4=>omega
   case c5=>simp;omega
   intro _ P H o t;have S:=pj K l R.o c Q o;obtain⟨x,L,F⟩:=S;rw[Yl]at H;have s:=VB x;obtain⟨_,_,b,s⟩:=s;simp at b;obtain⟨rfl,rfl⟩:=b;have T:∀q,q<p+1->EZ P B (.string mk) (if q<p then A q else m) (n+q):=λq V=>by
    by_cases e:q<p
    .rw[AD e];exact L q e
    rw[AC e,show q=p by omega];exact s
   have W:Hid (∀q,q<p+1->EZ P B (.string mk) (if q<p then A q else m) (n+q)):=T;have b:=F.size;clear l K R c o t s L T;go_wp2_with (at_builtin;refine gq _ I (.tmp 28) (.tmp 30) 40 I B 9 j0 (.string ⟨#[]⟩) 1 16 underlying40 gi y aE aJ I EB _ _ _ I (x.alloc _) ⟨P.s,0,none⟩ 1 1 [.string mk] I I ?d1 ?d2 ?d3 ?d4 ?d5 ?_)
   case d1=>exact B9 _ _ _
   case d2=>intro u d;simp at d;subst d;rfl
   case d3=>unfold maxLen;omega
   case d4=>omega
   case d5=>simp;omega
   intro _ D y o t;rw[<-List.replicate_succ']at y;have S:=xY x y H W.o U F Q o t;obtain⟨d,s,b⟩:=S;obtain⟨f,T,R,_⟩:=VB y;subst R;have L:Hid (∀q,q<p+1->EZ D B (.string mk) (if q<p then A q else m) (n+q)):=s;clear x H W F o t s;go_wp2;go_roundw
   case rel=>exact⟨p+1,by omega,by go_num,_,I,f,T,_,_,I,y,d,L.o,b⟩
   case measure=>simp[intOf];omega
  have W:p=4:=U;subst W;have F:Hid (Marks wr B r n (.string mk)):=by
   rcases l.2 with⟨_,h0⟩|⟨Q,b,_,rfl,d,_,_⟩
   .omega
   refine⟨Q,b,A,C,I,d,λp N=>⟨?_,z p N⟩⟩;rw[l.cellAt p U];simp[N]
  clear l K z;go_wp2;go_ret;exact⟨r,I,F.o,c⟩
end Y
section
open Go.RowKit Go.Nt
variable {P:Program} {a:Option Addr} {w w':Z} {e:TypeId} {v v':Value} {n k z0Z:Nat} {xs ys:List Value}
def PY(w w':Z)(e:TypeId)(size:Nat)(v v':Value)(n:Nat)(xs:List Value):Prop:=
 (v'.ownBlock=v.ownBlock/\w.grownBy w' v.ownBlock)\/(w'.ownsRow w.heap.size e size v' n xs/\w.grownBy w' none)
theorem oR(w:Z)(base:Nat)(t F e:TypeId)(i:TypeInfo)(z:Value)(b f:Nat)(K:P.underlying t=some (.slice e))(G:P.info? e=some i)(M:i.zero=some z) (l:i.size=b) (B:i.bytes=f) (D:z.cells.size=b) (C:0<b) (v:Value) (n:Nat) (s:List Value) (h:w.ownsRow base e b v n s) (a:Addr) (m c:Nat) (d:List Value) (H:d.length=m*b) (k:∀j u,d[j]?=some u->w.cell? (a.add j)=some u) (L:∀u∈d,u.oneCell'=true) (A:n+m<=maxLen) (o:(n+m)*f<=140737488355328) (p:base<=w.heap.size):∃v' w',(Builtin.append_ #[t,t] F #[v,.slice (some a) m c]).run P w=.ok v' w'/\w'.ownsRow base e b v' (n+m) (s++d)/\PY w w' e b v v' (n+m) (s++d):=by
 rcases h.2 with⟨rfl,rfl⟩|⟨g,q,_,rfl,_,_,_,_,_,_⟩
 .have Q:s=[]:=BP.1 (Dz h.1);subst Q;obtain⟨v',w',x,r,y,_⟩:=run_append_own (P:=P) w w.s t F e i z b f K G M l B D C _ _ [] (Af _ _ _ _) a m c d H k L A o (AB _);exact⟨v',w',x,NV r p,.s ⟨r,y⟩⟩
 by_cases N:n+m<=q
 .obtain⟨w',x,r,y⟩:=run_append_fits (P:=P) w base t F e i b K G l g n q s h a m c d H k L N;exact⟨_,w',x,r,.w ⟨I,y⟩⟩
 obtain⟨v',w',x,r,y⟩:=run_append_arg_grows (P:=P) w t F e i z b f K G M l B D C ⟨g,0,none⟩ n q s h.1 (h.cells (g:=g) I) a m c d H k U A o;exact⟨v',w',x,NV r p,.s ⟨r,y⟩⟩
theorem WC(w:Z){r:Array Oper}{rest:List Oper}{o:Oper}{a:Act}{Q:Exit->Act->Z->Prop}(D:o.guard=none)(s x:Operand)(t:TypeId) (S:o.op=.call {callee:=.builtin .append,args:=#[s,x],argTypes:=#[t,t]}) (base:Nat) (e:TypeId) (i:TypeInfo) (z:Value) (b f:Nat) (W:P.underlying t=some (.slice e)) (N:P.info? e=some i) (hz:i.zero=some z) (p:i.size=b) (C:i.bytes=f) (G:z.cells.size=b) (F:0<b) (v:Value) (n:Nat) (y:List Value) (V:a.eval s=v) (q:w.ownsRow base e b v n y) (A:Addr) (m c:Nat) (d:List Value) (hx:a.eval x=.slice (some A) m c) (R:d.length=m*b) (l:∀j u,d[j]?=some u->w.cell? (A.add j)=some u) (K:∀u∈d,u.oneCell'=true) (B:n+m<=maxLen) (g:(n+m)*f<=140737488355328) (k:base<=w.heap.size) (h:∀v' w',w'.ownsRow base e b v' (n+m) (y++d)->PY w w' e b v v' (n+m) (y++d)->wpList P r Q rest (a.put o.dst v') w'):wpList P r Q (o::rest) a w:=by refine wpList_plain D λ_ H=>?_;obtain⟨v',w',T,L,M⟩:=oR (P:=P) w base t o.type e i z b f W N hz p C G F v n y q A m c d R l K B g k;unfold Oper.wp execOp;simp only[S,resolve,invoke,builtin,Sem.run_bind,Sem.run_pure,Result.andThen_ok,List.map_toArray,BS,DF,V,hx,T];exact H _ _ (h v' w' L M)
theorem Vv{a:Nat}(h:PY w w' e a v v' n xs):w.grownBy w' v.ownBlock:=by
 rcases h with h|⟨_,h⟩
 .exact h.2
 exact⟨h.os,h.tape,h.output,h.size,λk b _=>h.u k b EJ⟩
theorem vu{base:Nat}{a:Nat}(b:w.ownsRow base e a v k ys)(h:PY w w' e a v v' n xs):∀g,v.ownBlock=some g->w'.heap[g]?=w.heap[g]? \/ v'.ownBlock=some g:=λg c=>by
 rcases h with h|⟨_,h⟩
 .exact .s (h.1.i c)
 exact .w (h.u g (b.lt g c).2 EJ)
def M7(z0Z:Nat)(a:Option Addr)(v:Value):Prop:=∀r,v.ownBlock=some r->a=FH r\/z0Z<=r
def OH(z0Z:Nat)(a b:Option Addr)(n:Nat):Prop:=0<n->∃r,b=FH r/\(a=FH r\/z0Z<=r)
theorem M7.self(e:Nat)(a:Option Addr)(n c:Nat)(h:∀x,a=some x->x.off=0/\x.spot=none):M7 e a (.slice a n c):=λ_ d=>by
 cases a with
 |none=>cases d
 |some x=>left;obtain⟨b,o,_⟩:=x;have:=h _ I;dsimp only at this;obtain⟨rfl,rfl⟩:=this;simp[Value.ownBlock]at d;rw[d]
theorem M7.row{b:Option Addr}{c B:Nat}{m:Int}(h:M7 z0Z a (.slice b n c))(d:EZ w B m b n):OH z0Z a b n:=λe=>by obtain⟨g,_,rfl,_⟩:=d e;exact⟨g,I,h g I⟩
theorem td{b:Nat}(h:PY w w' e b v v' n xs)(f:M7 z0Z a v)(d:z0Z<=w.heap.size):M7 z0Z a v':=λr c=>by
 rcases h with h|⟨h,_⟩
 .exact f r (h.1.A.i c)
 exact .s (AG d (h.lt r c).1)
theorem WU{S:Nat->Prop}{a b:Z}{row:Option Nat}(h:Y.Fm S w a)(c:a.grownBy b row)(i:∀r,row=some r->S r\/w.heap.size<=r):Y.Fm S w b:=
 ⟨c.os.i h.os,c.tape.i h.tape,c.output.i h.output,AG h.size c.size,λk f g=>(c.u k (AQ f h.size) (λe=>by
  rcases i k e.A with d|d
  .exact g d
  omega)).i (h.u k f g)⟩
theorem yW{a:Nat}(h:w'.ownsRow 0 e a v n xs)(i:w.ownsRow z0Z e a v k ys):w'.ownsRow z0Z e a v n xs:=by
 refine⟨h.1,?_⟩;rcases h.2 with d|⟨g,b,c,rfl,_,f⟩
 .exact .w d
 exact .s ⟨g,b,c,I,(i.lt g I).1,f⟩
def P2(w:Z)(z0Z:Nat)(a:Option Addr)(v:Value)(n:Nat)(m:Int):Prop:=
 ∃(z0O co:Nat) (A:Nat->Option Addr) (C:Nat->Nat),v=.b z0O 4 co/\z0Z<=z0O/\(∃cur,w.heap[z0O]?=some (.cells cur 26 (0,0)))/\∀p,p<4->w.cell? (O z0O p)=some (.slice (A p) (n+p) (C p))/\EZ w 0 m (A p) (n+p)/\OH z0Z a (A p) (n+p)
theorem mz(a:Option Addr)(cap:Nat)(l:List It)(m:Int)(w:Z)(hn:l.length<=1000)(hl:w.ownsRow 0 39 5 (.slice a l.length cap) l.length (FF l)):Calls prog 157 #[.slice a l.length cap,.a m] w λe w'=>∃v,e=.a v/\P2 w' w.heap.size a v l.length m/\Y.Fm (λk=>a=FH k) w w':=by
 obtain⟨i0,hi,aF,aO,aK⟩:=An QV;obtain⟨j0,gi,aJ,aL,aP⟩:=An KS;obtain⟨n,x⟩:=E l.length;rw[<-x]at hn hl |-;change Hid _ at x;obtain⟨o,N⟩:=E w.heap.size;change Hid _ at N;go_enter func157,ntmps157;go_wp2;go_loopw [5] (λi wr=>∃k:Nat,k<=n/\i=.a k/\Hid (wr.r 0 39 5 (.slice a n cap) n (FF (H9 k m++l.drop k)))/\Hid (Y.Fm (λk=>a=FH k) w wr)) (λi _=>n-(intOf i).toNat)
 .exact⟨0,AW _,I,hl,J (Y.Fm.refl _ _)⟩
 .obtain⟨k,_,rfl,b,s⟩:=hrel;by_cases aT:k<n
  .obtain⟨g,ha⟩:∃g,a=FH g:=by
    rcases b.o.2 with⟨h,h0⟩|⟨g,_,_,h,_⟩
    .omega
    simp at h;exact⟨g,h.1⟩
   subst ha;have aH:k<l.length:=Dz x.o;have aD:(H9 k m++l.drop k).length=n:=by rw[AM,Qd,BX];exact Dz x.o
   obtain⟨y,H⟩:∃y,(H9 k m++l.drop k)[k]?=some y:=⟨_,AE U⟩;have c0:wr.g g (k*5) (.string (X y.c)):=(b.o.cellAt _ U).i (OK H 0 U);have c1:wr.g g (k*5+1) (.bool y.d):=(b.o.cellAt _ U).i (OK H 1 U);have c2:wr.g g (k*5+2) (.string (X y.data)):=(b.o.cellAt _ U).i (OK H 2 U);have c3:wr.g g (k*5+3) (.a y.a):=(b.o.cellAt _ U).i (OK H 3 U);have c4:wr.g g (k*5+4) (.a y.b):=(b.o.cellAt _ U).i (OK H 4 U);have f0:=b.o.frozenAt (k*5);have f1:=b.o.frozenAt (k*5+1);have f2:=b.o.frozenAt (k*5+2);have f3:=b.o.frozenAt (k*5+3);have f4:=b.o.frozenAt (k*5+4);have az:=J (((((b.o.stored (k*5) (.string (X []))).1.stored (k*5+1) (.bool false)).1.stored (k*5+2) (.string (X []))).1.stored (k*5+3) (.a m)).1.stored (k*5+4) (.a 0)).1;have am:Hid ((((((FF (H9 k m++l.drop k)).set (k*5) (.string (X []))).set (k*5+1) (.bool false)).set (k*5+2) (.string (X []))).set (k*5+3) (.a m)).set (k*5+4) (.a 0)=FF (H9 (k+1) m++l.drop (k+1))):=by show _=_;rw[<-qy l k m aH,<-Z1 _ k (I5 m) U];rfl
   go_wp2;go_roundw
   .refine⟨k+1,by omega,by go_num,?_,J (((((s.o.set (λ_=>rfl) _ _).set (λ_=>rfl) _ _).set (λ_=>rfl) _ _).set (λ_=>rfl) _ _).set (λ_=>rfl) _ _)⟩;rw[am.o]at az;exact az
   .simp[intOf];omega
  have af:wr.r 0 39 5 (.slice a n cap) n (FF (H9 n m)):=by have h:=b;have e:k=l.length:=Dz x.o;rw[e,List.drop_length,Br]at h;rw[x.o]at h |-;exact h
  have av:=s;go_wp2;go_loopw [6,7,8] (λaG W i wr=>∃p:Nat,p<=4/\i=.a p/\∃(K:Value),K=aG/\∃(c:Option Addr) (G:Nat) (A:Nat->Option Addr) (C:Nat->Nat),W=.slice c (n+p) G/\Hid (wr.r 0 39 5 W (n+p) (FF (H9 (n+p) m))/\M7 w.heap.size a W)/\Hid (wr.r o 26 1 K p ((List.range p).map λq=>.slice (A q) (n+q) (C q)))/\Hid (∀q,q<p->EZ wr 0 m (A q) (n+q)/\OH w.heap.size a (A q) (n+q))/\Hid (Y.Fm (λk=>a=FH k) w wr)) (λ_ _ i _=>4-(intOf i).toNat)
  .exact⟨0,by omega,I,_,I,a,cap,λ_=>none,λ_=>0,I,J ⟨af,M7.self w.heap.size a n cap (λ_ hx=>by rcases af.2 with⟨h,_⟩|⟨g,_,_,h,_⟩<;>simp at h<;>rw[hx]at h<;>simp at h<;>(obtain⟨rfl,_⟩:=h;exact⟨rfl,rfl⟩))⟩,J (Af _ _ _ _),J (λq d=>absurd d U),av⟩
  obtain⟨p,T,rfl,K,rfl,c,G,A,C,rfl,ay,t,Q,s⟩:=hrel;have aU:=s.o.size;have hZ:o<=w.heap.size:=by rw[N.o];exact AB _
  by_cases aX:p<4
  .go_wp2_with (at_builtin;refine WC _ I (.tmp 25) (.tmp 27) 54 I o 26 i0 (.g) 1 24 underlying54 hi aF aO aK I EB _ _ _ I (t.o.alloc _) ⟨wr.heap.size,0,none⟩ 1 1 [.slice c (n+p) G] I I ?c1 ?c2 ?c3 ?c4 ?c5 ?_)
   .exact B9 _ _ _
   .intro u z;simp at z;subst z;rfl
   .unfold maxLen;omega
   .omega
   .simp;omega
   intro _ B M F;have f:=Vv F;have ah:=Uy (ay.o.1.alloc _) ((NV t (AW _)).alloc _) EB f;have aS:∀q,q<p->EZ B 0 m (A q) (n+q)/\OH w.heap.size a (A q) (n+q):=λq d=>⟨((Q q d).1.f (Iy)).C f (Zw ((NV t (AW _)).alloc _)),(Q q d).2⟩;have R:Y.Fm (λk=>a=FH k) w B:=WU (s.o.alloc _) f (λr V=>.s (by rw[<-N.o];exact(t.o.lt r V).1));have ax:=ay.o.2;rw[Yl]at M;have L:=VB ah;obtain⟨_,_,aB,L⟩:=L;simp at aB;obtain⟨rfl,rfl⟩:=aB;have aA:Hid (∀q,q<p+1->EZ B 0 m (if q<p then A q else c) (n+q)/\OH w.heap.size a (if q<p then A q else c) (n+q)):=λq d=>by
    by_cases e:q<p
    .rw[AD e];exact aS q e
    rw[AC e,show q=p by omega];exact⟨L,ax.row L⟩
   have an:=R.size;have D:Hid (B.r 0 39 5 (.slice c (n+p) G) (n+p) (FF (H9 (n+p) m))/\M7 w.heap.size a (.slice c (n+p) G)):=J ⟨ah,ax⟩;change Hid _ at M R;go_wp2_with (at_builtin;refine WC _ I (.tmp 29) (.tmp 32) 26 I 0 39 j0 _ 5 56 underlying26 gi aJ aL aP I EB _ _ _ I (D.o.1.alloc _) ⟨B.heap.size,0,none⟩ 1 1 (KP (I5 m)) I I ?d1 ?d2 ?d3 ?d4 ?d5 ?_)
   .intro j u z;rw[addr_add];exact(P1 B (I5 m)).cell z
   .intro u z;exact O8 (l:=[I5 m]) u (by rw[QX];exact z)
   .unfold maxLen;omega
   .omega
   .exact AW _
   intro aC P aw F;have f:=Vv F;have ai:=vu (D.o.1.alloc _) F;have au:M7 w.heap.size a aC:=td F D.o.2 (by have:=an;simp;omega);have S:P.r 0 39 5 aC (n+p+1) (FF (H9 (n+p+1) m)):=by rw[kO,RU,QX];exact aw
   have ae:=yW (Uy ((NV M (AW _)).alloc _) (D.o.1.alloc _) EB f) M;have aR:∀q,q<p+1->EZ P 0 m (if q<p then A q else c) (n+q)/\OH w.heap.size a (if q<p then A q else c) (n+q):=λq d=>⟨Zk ((aA q d).1.f (Iy)) f U S ai,(aA q d).2⟩;have aa:Y.Fm (λk=>a=FH k) w P:=WU (R.o.alloc _) f (λr V=>D.o.2 r V);obtain⟨aE,aQ,aM,_⟩:=VB S;subst aM;have aI:Hid (∀q,q<p+1->EZ P 0 m (if q<p then A q else c) (n+q)/\OH w.heap.size a (if q<p then A q else c) (n+q)):=aR;have ar:=J (And.intro S au);change Hid _ at ae aa;go_wp2;go_roundw
   .exact⟨p+1,by omega,by go_num,_,I,aE,aQ,_,_,I,ar,ae,aI,aa⟩
   .simp[intOf];omega
  have ao:p=4:=U;subst ao;have aN:Hid (P2 wr w.heap.size a K n m):=by
   rcases t.o.2 with⟨_,h0⟩|⟨z0O,co,_,rfl,hO,hh,_⟩
   .omega
   refine⟨z0O,co,A,C,I,by rw[<-N.o];exact hO,⟨_,hh⟩,λp T=>⟨?_,Q p T⟩⟩;rw[t.o.cellAt p U];simp[T]
  go_wp2;go_ret;exact⟨K,I,aN,s⟩
variable {w:Z} {e:TypeId} {x:Sl} {v:Value} {n B g k:Nat} {xs:List Value}
theorem wu(b off t:Nat)(a:Option Addr)(n u B:Nat)(m:Int)(w:Z)(z:n<=1000)(v:w.cell? (O b off)=some (.slice a n u))(f:EZ w B m a n):Calls prog 62 #[.slice (some (O b off)) 1 t,.a m] w λe w'=>e=.a (.bool true)/\w'=w:=by
 have x:∀w,(binOp .neq 39 (.agg #[.string ByteArray.empty,.bool false,.string ByteArray.empty,.a m,.a 0]) (.agg #[.string ByteArray.empty,.bool false,.string ByteArray.empty,.a m,.a 0])).run prog w=.ok (.bool false) w:=λw=>by have h:=lq (I5 m) (I5 m) w;rw[Bj I]at h;exact h
 have y:=YD;have r:=J f;clear f;go_enter func62,ntmps62;go_wp2;go_loop [5] (λi=>i=.a 0\/i=.a 1) (λi=>1-(intOf i).toNat)
 .exact .w I
 .rcases hrel with rfl|rfl
  .go_wp2;go_loop [6] (λi=>∃k:Nat,k<=n/\i=.a k) (λi=>n-(intOf i).toNat)
   .exact⟨0,by omega,I⟩
   obtain⟨k,_,rfl⟩:=hrel;by_cases s:k<n
   .obtain⟨g,d,c⟩:=r.o.cell U;rw[d]at v;obtain⟨j,l,o,p,q⟩:=c k s;have A:w.g g (k*5) (.string ByteArray.empty):=j;have C:w.g g (k*5+1) (.bool false):=l;have D:w.g g (k*5+2) (.string ByteArray.empty):=o;have F:=p;have G:=q;clear c d j l o p q;go_wp2;go_round
    .exact⟨k+1,by omega,by go_num⟩
    .simp[intOf];omega
   go_wp2;go_round
   .exact .s I
   .simp[intOf]
  go_wp2;go_ret;exact⟨I,I⟩
theorem ng(b off h:Nat)(a:Option Addr)(n j B:Nat)(mk:ByteArray)(w:Z)(p:n<=1000)(m:w.cell? (O b off)=some (.slice a n j))(o:Y.EZ w B (.string mk) a n):Calls prog 63 #[.slice (some (O b off)) 1 h,.string mk] w λe w'=>e=.a (.bool true)/\w'=w:=by
 have c:=J o;go_enter func63,ntmps63;go_wp2;go_loop [5] (λi=>i=.a 0\/i=.a 1) (λi=>1-(intOf i).toNat)
 .exact .w I
 .rcases hrel with rfl|rfl
  .go_wp2;go_loop [6] (λi=>∃k:Nat,k<=n/\i=.a k) (λi=>n-(intOf i).toNat)
   .exact⟨0,by omega,I⟩
   obtain⟨k,_,rfl⟩:=hrel;by_cases f:k<n
   .obtain⟨g,l,d⟩:=c.o.cell U;rw[l]at m;have q:=d k f;go_wp2;go_round
    .exact⟨k+1,by omega,by go_num⟩
    .simp[intOf];omega
   go_wp2;go_round
   .exact .s I
   .simp[intOf]
  go_wp2;go_ret;exact⟨I,I⟩
def QZ(n:Nat):Bs:=[126,UInt8.ofNat n,UInt8.ofNat (n/256),UInt8.ofNat (n/65536)]
def Ng(w:Z)(T:Nat->Prop)(x:Sl)(es:List Sl):Prop:=
 w.ownsRow 0 26 1 (.slice x.1 x.2.1 x.2.2) es.length (es.map sl)/\∀i e,es[i]?=some e->e.2.1<=1000/\EZ w 0 (-1-((i/4:Nat):Int)) e.1 e.2.1/\(∀k,e.1=FH k->0<e.2.1->T k)
def Nv(w:Z)(T:Nat->Prop)(x:Sl)(es:List Sl):Prop:=
 w.ownsRow 0 40 1 (.slice x.1 x.2.1 x.2.2) es.length (es.map sl)/\∀i e,es[i]?=some e->e.2.1<=1000/\Y.EZ w 0 (.string (X (QZ (i/4)))) e.1 e.2.1/\(∀k,e.1=FH k->0<e.2.1->T k)
theorem Zr{es:List Sl}(h:w.ownsRow 0 e 1 (.slice x.1 x.2.1 x.2.2) es.length (es.map sl))(m:es≠[]):∃g cap,x=(some (O g 0),es.length,cap)/\es.length<=cap/\cap<=maxLen/\(∃cur,w.heap[g]?=some (.cells cur e (0,0)))/\∀i y,es[i]?=some y->w.cell? (O g i)=some (.slice y.1 y.2.1 y.2.2):=by
 rcases h.2 with⟨a,f⟩|⟨g,cap,cur,a,_,j,k,l,_⟩
 .exact absurd (BP.1 f) m
 obtain⟨_,_,c⟩:=x;simp at a;obtain⟨rfl,rfl,rfl⟩:=a;refine⟨g,c,I,k,l,⟨cur,j⟩,λi y b=>?_⟩;have n:=(AN.1 b).1;have d:w.r 0 e 1 (.b g es.length c) es.length (es.map sl):=h;rw[d.cellAt i U,BI,b];rfl
theorem VY(W:Z)(a b c:Nat)(d:a<256)(e:b<256)(f:c<256):(convert 111 9 (.b W.heap.size 4 4)).run prog (W.alloc (.cells #[.f 126,.f a,.f b,.f c] 5))=.ok (.string (X [126,UInt8.ofNat a,UInt8.ofNat b,UInt8.ofNat c])) (W.alloc (.cells #[.f 126,.f a,.f b,.f c] 5)):=by
 refine Y.JR (base:=W.s) (n:=4) ⟨?_,.s ⟨W.s,4,_,I,AB _,AR _ _,?_,?_,?_,?_⟩⟩
 .simp[Lib.strCells,Y.EF]
 .omega
 .unfold maxLen;omega
 .rfl
 simp[Lib.strCells,Y.X,Bd d,Bd e,Bd f]
theorem YN(n:Nat):QZ n=[126,UInt8.ofNat (n%256),UInt8.ofNat (n/256%256),UInt8.ofNat (n/65536%256)]:=by
 unfold QZ;have h:∀k:Nat,UInt8.ofNat (k%256)=UInt8.ofNat k:=λk=>by apply BR.1;simp
 rw[h,h,h]
theorem Un(W:Z)(j:Nat):(convert 111 9 (.b W.heap.size 4 4)).run prog (W.alloc (.cells #[.f 126,.f ((j:Int)%256),.f ((j:Int)/256%256),.f ((j:Int)/65536%256)] 5))=.ok (.string (X (QZ j))) (W.alloc (.cells #[.f 126,.f ((j:Int)%256),.f ((j:Int)/256%256),.f ((j:Int)/65536%256)] 5)):=by have h:=VY W (j%256) (j/256%256) (j/65536%256) (BU _ EB) (BU _ EB) (BU _ EB);rw[YN];exact h
theorem VM(W:Z)(g j:Nat)(h:W.heap[g]?=some (.cells #[.f 126,.f ((j:Int)%256),.f ((j:Int)/256%256),.f ((j:Int)/65536%256)] 5 (0,0))):(convert 111 9 (.b g 4 4)).run prog W=.ok (.string (X (QZ j))) W:=by
 refine Y.JR (base:=0) (n:=4) (l:=QZ j) ⟨?_,.s ⟨g,4,_,I,AW _,h,?_,?_,?_,?_⟩⟩
 .rw[YN];simp[Lib.strCells,Y.EF]
 .omega
 .unfold maxLen;omega
 .rfl
 rw[YN];simp[Lib.strCells,Y.X]
theorem SH:(prog.info? 40).map (λi=>(i.zero,i.size,i.bytes))=some (some (.g),1,24):=Y.NH
def ku(w:Z)(B sb:Nat)(s:Sv)(es:List Sl)(j:Nat)(e:Ending)(w':Z):Prop:=
 e=.a (.tuple #[])/\∃(x:Sl) (es':List Sl),ES w' sb {s with b:=x}/\w'.ownsRow 0 40 1 (.slice x.1 x.2.1 x.2.2) (es++es').length ((es++es').map sl)/\es'.length=4/\(∀y∈es',y.2.1<=1000/\Y.EZ w' B (.string (X (QZ j))) y.1 y.2.1) /\
  (∀k,(Value.slice x.1 x.2.1 x.2.2).ownBlock=some k->(Value.slice s.b.1 s.b.2.1 s.b.2.2).ownBlock=some k\/B<=k)/\Y.Fm (λk=>k=sb\/(Value.slice s.b.1 s.b.2.1 s.b.2.2).ownBlock=some k\/B<=k) w w'
theorem kG{a:Nat}(h:w.ownsRow 0 e a v n xs):∃x:Sl,v=.slice x.1 x.2.1 x.2.2:=by
 rcases h.2 with⟨rfl,_⟩|⟨g,b,_,rfl,_⟩
 .exact⟨(none,0,0),I⟩
 exact⟨(some (O g 0),n,b),I⟩
theorem Qh(h:w.ownsRow 0 e 1 (.slice x.1 x.2.1 x.2.2) n xs):x.2.1=n:=by
 rcases h.2 with⟨a,_⟩|⟨g,_,_,a,_⟩
 .simp at a;omega
 simp at a;omega
theorem MF{w':Z}{a:Nat}(h:w.ownsRow B e a v n xs)(l:∀g,v.ownBlock=some g->w'.heap[g]?=w.heap[g]?):w'.ownsRow B e a v n xs:=by
 obtain⟨c,⟨rfl,k⟩|⟨g,b,j,rfl,d,f,i⟩⟩:=h
 .exact⟨c,.w ⟨I,k⟩⟩
 exact⟨c,.s ⟨g,b,j,I,d,(l g I).i f,i⟩⟩
theorem KY{a b:Array Value}{t u:TypeId}{f i:Nat×Nat}(h:w.heap[g]?=some (.cells a t f))(d:w.heap[k]?=some (.cells b u i))(c:t≠u):g≠k:=λe=>by subst e;rw[h]at d;cases d;exact c I
theorem Kn{a:Nat}(h:w.ownsRow B e a v n xs)(c:v.ownBlock=some g):∃cur,w.heap[g]?=some (.cells cur e (0,0)):=by obtain⟨cur,_,_,_,b,_⟩:=PO h c;exact⟨cur,b⟩
theorem ES.NM{b:Nat}{s:Sv}(i:ES w b s){a:Nat}(h:w.ownsRow B e a v n xs)(d:e≠106)(f:v.ownBlock=some g):g≠b:=by obtain⟨_,c⟩:=Kn h f;exact KY c i d
theorem XU(w:Z)(a o:Nat)(v:Value)(h:k≠a):(w.setCell (O a o) v).heap[k]?=w.heap[k]? := AH w ⟨a,o,none⟩ v k h
theorem pV(w:Z)(d:Nat)(s:Sv)(es:List Sl)(j:Nat)(a:Option Addr)(n cap B:Nat)(t:List Value)(m:ES w d s)(H:w.ownsRow 0 40 1 (.slice s.b.1 s.b.2.1 s.b.2.2) es.length (es.map sl))(W:es.length=4*j)(b:j<=100000000)(r:w.ownsRow B 9 1 (.slice a n cap) n t)(b:n<=900)(G:B<=w.heap.size)(b:d<B)(f:∀k,(Value.slice s.b.1 s.b.2.1 s.b.2.2).ownBlock=some k->k<B):Calls prog 107 #[.c d,.slice a n cap] w λe w'=>ku w B d s es j e w':=by
 obtain⟨i0,V,N,T,Q⟩:=An SH;have l:w.cell? (O d 9)=some (.slice s.b.1 s.b.2.1 s.b.2.2):=m.cell 9;have P:s.b.2.1=4*j:=by rw[Qh H,W]
 have q1:(((4*j:Nat):Int)).tdiv 4=(j:Nat):=by rw[Ba U];omega
 have q2:=zW (x:=(j:Int));obtain⟨z,i⟩:=E (w.alloc (.cells #[.f 126,.f ((j:Int)%256),.f ((j:Int)/256%256),.f ((j:Int)/65536%256)] 5));have R:=J (Un w j);rw[<-i]at R;obtain⟨c,o⟩:=E (X (QZ j));rw[<-o]at R;have v:=Ia i;have v:=JK i;have A:=J (Y.Qx a n cap B t c z U U (by rw[i];exact r.alloc _));change Hid _ at o i v;have z:=J m;change Hid _ at H f;obtain⟨c,m⟩:=E s.b;rw[<-m]at l P H f;change Hid _ at m;obtain⟨L,_,M⟩:=c;dsimp only at l P;subst P;go_enter func107,ntmps107;go_wp2_with rw[<-i.o];rw[R.o];go_wp2_with fail;refine A.o.l ?_;rintro e l ⟨_,rfl,⟨t,R,c,C,rfl,_,K⟩,i⟩;have D:Below B w l:=(v.o.l G).i i;have r:ES l d s:=z.o.y (D.u d b);have b:l.cell? (O d 9)=some (.slice L (4*j) M):=by have:=r.cell 9;rw[this];unfold Sv.arr;rw[<-m.o];rfl
 have F:l.ownsRow 0 40 1 (.slice L (4*j) M) (4*j) (es.map sl):=by have h:=H;rw[W]at h;exact MF h (λg i=>D.u g (f g i))
 have z:∀p,p<4->l.cell? (O t p)=some (.slice (c p) (n+p) (C p)):=λp h=>(K p h).1;have H:=J K;have S:=J r;have P:=J D;have r:=AG G D.size;go_wp2_with (at_builtin;refine WC _ I (.tmp 28) (.tmp 29) 71 I 0 40 i0 (.g) 1 24 underlying71 V N T Q I EB _ _ _ I F ⟨t,0,none⟩ 4 R [.slice (c 0) (n+0) (C 0),.slice (c 1) (n+1) (C 1),.slice (c 2) (n+2) (C 2),.slice (c 3) (n+3) (C 3)] I I ?c1 ?c2 ?c3 ?c4 ?c5 ?_)
 .intro q u b;match q,b with
  |0,b=>simp at b;rw[<-b];exact z 0 U
  |1,b=>simp at b;rw[<-b];exact z 1 U
  |2,b=>simp at b;rw[<-b];exact z 2 U
  |3,b=>simp at b;rw[<-b];exact z 3 U
  |_+4,b=>simp at b
 .intro u b;simp at b;rcases b with rfl|rfl|rfl|rfl<;>rfl
 .unfold maxLen;omega
 .omega
 .exact AW _
 intro _ t N Q;obtain⟨x,rfl⟩:=kG N;have v:=Vv Q;have b:∀k,(Value.slice L (4*j) M).ownBlock=some k->k≠d:=λk G=>S.o.NM F EB G;have V:=S.o.y (v.u d (lt_of_heap S) (λe=>b d e.A I));have b:=V.cell 9;have b:=V.frozen 9;change Hid _ at N;have T:=J V;change Hid _ at v Q F;go_wp2_with fail;go_end0;refine⟨I,x,[(c 0,n+0,C 0),(c 1,n+1,C 1),(c 2,n+2,C 2),(c 3,n+3,C 3)],T.o.PW x,?_,I,λy f=>?_,λk G=>?_,?_⟩
 .have h:=N;have e1:(es++[(c 0,n+0,C 0),(c 1,n+1,C 1),(c 2,n+2,C 2),(c 3,n+3,C 3)]).length=4*j+4:=by rw[AM,W];rfl
  rw[e1,Au];exact MF h (λg i=>XU _ _ _ _ (T.o.NM h EB i))
 .have key:∀p,p<4->(c p,n+p,C p).2.1<=1000/\Y.EZ (t.setCell (O d 9) (.slice x.1 x.2.1 x.2.2)) B (.string (X (QZ j))) (c p) (n+p):=λp K=>by
   refine⟨by dsimp only;omega,λb=>?_⟩;obtain⟨g,i,e1,e2,e3,e4⟩:=(H p K).2 b;have b:=(v.o.u g (lt_of_heap e3) (λe=>by obtain⟨_,c⟩:=Kn F e.A;exact KY e3 c EB I)).i e3
   refine⟨g,i,e1,e2,(XU _ _ _ _ (KY b T EB)).i b,?_⟩;rw[<-o.o];exact e4
  simp only[Ax,List.mem_nil_iff,or_false]at f;rcases f with rfl|rfl|rfl|rfl
  .exact key 0 U
  .exact key 1 U
  .exact key 2 U
  exact key 3 U
 .rw[<-m.o];rcases Q with⟨o,_⟩|⟨o,_⟩
  .exact .w (o.A.i G)
  exact .s (AG r (o.lt k G).1)
 rw[<-m.o];have f1:Y.Fm (λk=>k=d\/(Value.slice L (4*j) M).ownBlock=some k\/B<=k) w l:=Y.Fm.of_below P (λk o _=>.s (.s o));have f2:=WU f1 v (λ_ b=>.w (.s (.w b)));exact f2.set (λ_=>.w I) _ _
def We(w:Z)(B sb:Nat)(s:Sv)(es:List Sl)(j:Nat)(a:Option Addr)(e:Ending)(w':Z):Prop:=
 e=.a (.tuple #[])/\∃(x:Sl) (es':List Sl),ES w' sb {s with d:=x}/\w'.ownsRow 0 26 1 (.slice x.1 x.2.1 x.2.2) (es++es').length ((es++es').map sl)/\es'.length=4/\(∀y∈es',y.2.1<=1000/\EZ w' B (-1-(j:Int)) y.1 y.2.1) /\
  (∀k,(Value.slice x.1 x.2.1 x.2.2).ownBlock=some k->(Value.slice s.d.1 s.d.2.1 s.d.2.2).ownBlock=some k\/w.heap.size<=k)/\Y.Fm (λk=>k=sb\/(Value.slice s.d.1 s.d.2.1 s.d.2.2).ownBlock=some k\/a=FH k) w w'
theorem eQ(w:Z)(d:Nat)(s:Sv)(es:List Sl)(j:Nat)(a:Option Addr)(l:List It)(cap B:Nat)(c:ES w d s)(b:w.ownsRow 0 26 1 (.slice s.d.1 s.d.2.1 s.d.2.2) es.length (es.map sl))(h4:es.length=4*j)(f:j<=100000000)(f:w.ownsRow B 39 5 (.slice a l.length cap) l.length (FF l))(m:l.length<=900)(i:B<=w.heap.size):Calls prog 100 #[.c d,.slice a l.length cap] w λe w'=>We w B d s es j a e w':=by
 obtain⟨i0,hi,N,W,Q⟩:=An QV;have i:w.cell? (O d 8)=some (.slice s.d.1 s.d.2.1 s.d.2.2):=c.cell 8;have P:s.d.2.1=4*j:=by rw[Qh b,h4]
 have q1:(((4*j:Nat):Int)).tdiv 4=(j:Nat):=by rw[Ba U];omega
 have q2:=zW (x:=(j:Int));have q3:=zW (x:=(-1-(j:Int)));have A:=J (mz a cap l (-1-(j:Int)) w U (NV f (AW _)));have M:=J c;have z:=J b;have R:=J f;obtain⟨r,o⟩:=E s.d;rw[<-o]at i P z;change Hid _ at o;obtain⟨K,_,L⟩:=r;dsimp only at i P;subst P;obtain⟨n,i⟩:=E l.length;rw[<-i]at A m R |-;clear c b f i;go_enter func100,ntmps100;go_wp2_with fail;refine A.o.l ?_;rintro e m ⟨_,rfl,⟨v,co,c,C,rfl,_,⟨_,_⟩,t⟩,G⟩;have S:∀k,a=FH k->∃r,w.heap[k]?=some (.cells r 39 (0,0)):=λk i=>Kn R (by rw[i];rfl);have f:ES m d s:=M.o.y (G.u d (lt_of_heap M) (λe=>by obtain⟨r,b⟩:=S d e;exact KY b M EB I))
 have D:m.cell? (O d 8)=some (.slice K (4*j) L):=by have:=f.cell 8;rw[this];unfold Sv.arr;rw[<-o.o];rfl
 have F:m.ownsRow 0 26 1 (.slice K (4*j) L) (4*j) (es.map sl):=by
  have h:=z;rw[h4]at h;exact MF h (λg H=>G.u g (h.lt g H).2 (λe=>by obtain⟨r,b⟩:=S g e;obtain⟨_,T⟩:=Kn h H;exact KY b T EB I))
 have D:∀p,p<4->m.cell? (O v p)=some (.slice (c p) (n+p) (C p)):=λp h=>(t p h).1;have M:=J t;have V:=J f;have ay:=J G;have P:w.heap.size<=m.heap.size:=G.size;go_wp2_with (at_builtin;refine WC _ I (.tmp 18) (.tmp 19) 54 I 0 26 i0 (.g) 1 24 underlying54 hi N W Q I EB _ _ _ I F ⟨v,0,none⟩ 4 co [.slice (c 0) (n+0) (C 0),.slice (c 1) (n+1) (C 1),.slice (c 2) (n+2) (C 2),.slice (c 3) (n+3) (C 3)] I I ?c1 ?c2 ?c3 ?c4 ?c5 ?_)
 .intro q u b;match q,b with
  |0,b=>simp at b;rw[<-b];exact D 0 U
  |1,b=>simp at b;rw[<-b];exact D 1 U
  |2,b=>simp at b;rw[<-b];exact D 2 U
  |3,b=>simp at b;rw[<-b];exact D 3 U
  |_+4,b=>simp at b
 .intro u b;simp at b;rcases b with rfl|rfl|rfl|rfl<;>rfl
 .unfold maxLen;omega
 .omega
 .exact AW _
 intro _ v N Q;obtain⟨x,rfl⟩:=kG N;have z:=Vv Q;have b:∀k,(Value.slice K (4*j) L).ownBlock=some k->k≠d:=λk i=>V.o.NM F EB i;have f:=V.o.y (z.u d (lt_of_heap V) (λe=>b d e.A I));have b:=f.cell 8;have b:=f.frozen 8;change Hid _ at N;have W:=J f;change Hid _ at z Q F S;go_wp2_with fail;go_end0;refine⟨I,x,[(c 0,n+0,C 0),(c 1,n+1,C 1),(c 2,n+2,C 2),(c 3,n+3,C 3)],W.o.QR x,?_,I,λy f=>?_,λk i=>?_,?_⟩
 .have h:=N;have e1:(es++[(c 0,n+0,C 0),(c 1,n+1,C 1),(c 2,n+2,C 2),(c 3,n+3,C 3)]).length=4*j+4:=by rw[AM,h4];rfl
  rw[e1,Au];exact MF h (λg H=>XU _ _ _ _ (W.o.NM h EB H))
 .have key:∀p,p<4->(c p,n+p,C p).2.1<=1000/\EZ (v.setCell (O d 8) (.slice x.1 x.2.1 x.2.2)) B (-1-(j:Int)) (c p) (n+p):=λp t=>by
   refine⟨by dsimp only;omega,λb=>?_⟩;obtain⟨g,r,e1,_,e3,e4⟩:=(M p t).2.1 b;obtain⟨_,e5,e6⟩:=(M p t).2.2 b;rw[e1]at e5;cases e5;have c:B<=g:=by
    rcases e6 with e6|e6
    .exact(R.o.lt g (by rw[e6];rfl)).1
    omega
   have b:=(z.o.u g (lt_of_heap e3) (λe=>by obtain⟨_,T⟩:=Kn F e.A;exact KY e3 T EB I)).i e3
   exact⟨g,r,e1,c,(XU _ _ _ _ (KY b W EB)).i b,e4⟩
  simp only[Ax,List.mem_nil_iff,or_false]at f;rcases f with rfl|rfl|rfl|rfl
  .exact key 0 U
  .exact key 1 U
  .exact key 2 U
  exact key 3 U
 .rw[<-o.o];rcases Q with⟨b,_⟩|⟨b,_⟩
  .exact .w (b.A.i i)
  exact .s (AG P (b.lt k i).1)
 rw[<-o.o];have f1:Y.Fm (λk=>k=d\/(Value.slice K (4*j) L).ownBlock=some k\/a=FH k) w m:=ay.o.l (λk _ h=>.s (.s h));have f2:=WU f1 z (λ_ b=>.w (.s (.w b)));exact f2.set (λ_=>.w I) _ _
end
section
open Go.RowKit Go.Nt
theorem ml(w:Z)(d:Nat)(s:Sv)(R:Nat->Prop)(es P:List Sl)(N:ES w d s)(c:Ng w R s.d es)(n:Nv w R s.b P)(G:es.length<=1000000000)(D:P.length<=1000000000):Calls prog 32 #[.c d] w λe w'=>e=.a (.bool true)/\Below w.heap.size w w':=by
 have f:w.g d 8 (.slice s.d.1 s.d.2.1 s.d.2.2):=N.cell 8;have M:Hid (∀W,w.b W->W.g d 9 (.slice s.b.1 s.b.2.1 s.b.2.2)):=J (λW o=>(ES.y N (o.u d (lt_of_heap N))).cell 9);have B:=Qh c.1;have v:=Qh n.1;have S:=J c;have T:=J n;obtain⟨x,o⟩:=E s.d;obtain⟨y,u⟩:=E s.b;rw[<-o]at f B S;rw[<-u]at M v T;obtain⟨_,t,Q⟩:=x;obtain⟨_,a,b⟩:=y;dsimp only at f B v M;clear N c n o u;rw[<-B]at G;rw[<-v]at D;change Hid _ at B v;go_enter func32,ntmps32;go_wp2_with fail;go_loopw [3] (λi wr=>wr=w/\∃k:Nat,k<=t/\i=.a k) (λi _=>t-(intOf i).toNat)
 .exact⟨I,0,by omega,I⟩
 .obtain⟨rfl,k,j,rfl⟩:=hrel;by_cases C:k<t
  .have m:k<es.length:=Dz B.o;obtain⟨g,l,e,B,D,_,u⟩:=Zr S.o.1 (λh=>by rw[h]at m;simp at m);simp only[Dj]at e;obtain⟨rfl,e2,rfl⟩:=e;obtain⟨z,o⟩:∃z,es[k]?=some z:=⟨_,AE m⟩;have n:=u k z o;obtain⟨F,c,_⟩:=S.o.2 k z o;obtain⟨N,S,z3⟩:=z;dsimp only at n F c;have A:=J (wu g k (Q-k) N S z3 0 _ wr F n c);have L:(k:Int)<(t:Nat):=U;have b1:(k:Int)+1<=(Q:Nat):=U;have b0:(0:Int)<=(k:Int):=U;have aj:t<=Q:=U;have an:Q<=9223372036854775807:=by unfold maxLen at D;omega
   have q1:(k:Int).tdiv 4=((k/4:Nat):Int):=by rw[Ba U];omega
   obtain⟨q,G⟩:=E (k/4);rw[<-G]at A q1;have Q:q<=1000000000:=U;have q2:=zW (x:=(q:Int));have q3:=zW (x:=(-1-(q:Int)));clear u o n c G e2 B D;go_wp2_with fail;refine Jj A.o ?_;clear A;go_wp2_with fail;go_roundw
   .exact⟨trivial,k+1,by omega,by go_num⟩
   .simp[intOf];omega
  have L:¬(k:Int)<(t:Nat):=U;obtain⟨r,p⟩:=E wr;subst p;go_wp2_with fail;go_loopw [5] (λi p=>∃k:Nat,k<=a/\i=.a k/\Hid (r.b p)) (λi _=>a-(intOf i).toNat)
  .exact⟨0,by omega,I,J (AP _ _)⟩
  clear j C L f;obtain⟨k,j,rfl,H⟩:=hrel;have c9:=M.o wr H.o;have f:r.s<=wr.s:=H.o.size;by_cases C:k<a
  .have m:k<P.length:=Dz v.o;obtain⟨g,l,e,B,D,⟨_,t⟩,u⟩:=Zr T.o.1 (λh=>by rw[h]at m;simp at m);simp only[Dj]at e;obtain⟨rfl,e2,rfl⟩:=e;obtain⟨z,o⟩:∃z,P[k]?=some z:=⟨_,AE m⟩;have n:=u k z o;obtain⟨F,c,_⟩:=T.o.2 k z o;obtain⟨N,S,z3⟩:=z;dsimp only at n F c;have q1:(k:Int).tdiv 4=((k/4:Nat):Int):=by rw[Ba U];omega
   obtain⟨q,G⟩:=E (k/4);rw[<-G]at c q1;have Q:q<=1000000000:=U;have q2:=zW (x:=(q:Int));obtain⟨j,l⟩:=E ((wr.a #[.f 126,.f ((q:Int)%256),.f ((q:Int)/256%256),.f ((q:Int)/65536%256)] 5).drew);have C:r.b j:=by rw[l];exact(H.o.alloc f _).drew
   obtain⟨p,m⟩:=E (X (QZ q));have v:Hid ((convert 111 9 (.b wr.s 4 4)).run prog j=.ok (.string p) j):=J (by rw[m];exact VM _ _ q (by rw[l];exact AR _ _));rw[<-m]at c;have f:g<r.s:=lt_of_heap t;have A:=J (ng g k (b-k) N S z3 0 p j F (by rw[C.cell (p:=⟨g,k,none⟩) f];exact n) (c.f C));have L:(k:Int)<(a:Nat):=U;have b1:(k:Int)+1<=(b:Nat):=U;have b0:(0:Int)<=(k:Int):=U;have aj:a<=b:=U;have an:b<=9223372036854775807:=by unfold maxLen at D;omega
   have f:=zW (x:=((k:Int)+1));have f:(0:Int)<=(k:Int)+1:=U;have f:((k:Int)+1).toNat=k+1:=U;have f:(k:Int)<=(k:Int)+1:=U;have f:¬((k:Int)<0):=U;have f:¬((k:Int)+1<(k:Int)):=U;have f:¬((b:Int)<(k:Int)+1):=U;have f:k+1-k=1:=U;have f:¬(b=k):=U;have f:IntKind.u8.wrap (q:Int)=(q:Int)%256:=by simp[IntKind.wrap,IntKind.signed,IntKind.bits]
   have f:IntKind.u8.wrap ((q:Int)/256)=(q:Int)/256%256:=by simp[IntKind.wrap,IntKind.signed,IntKind.bits]
   have f:IntKind.u8.wrap ((q:Int)/65536)=(q:Int)/65536%256:=by simp[IntKind.wrap,IntKind.signed,IntKind.bits]
   have f:=v.o;rw[l]at f;have r:(convert 111 9 (.b wr.s 4 4)).run prog (wr.a #[.f 126,.f ((q:Int)%256),.f ((q:Int)/256%256),.f ((q:Int)/65536%256)] 5).drew=.ok (.string p) j:=by rw[l];exact f
   have p:=J l;have p:=J C;have N:j.g d 9 (.b g a b):=M.o j C;have j:wr.drew.g d 9 (.b g a b):=c9;have r:(wr.a #[.f 126,.f ((q:Int)%256),.f ((q:Int)/256%256),.f ((q:Int)/65536%256)] 5).drew.g d 9 (.b g a b):=by rw[<-l];exact N
   clear u o n c G e2 B D l C t m f v;go_wp2_with fail;refine BL (S:=λV=>V.g d 9 (.b g a b)) EG j (λhHeld=>?_);refine Ef 0 I hHeld ?_;refine Ef 1 I hHeld ?_;refine Ef 2 I hHeld ?_;refine Ef 3 I hHeld ?_;refine Ef 4 I hHeld ?_;refine Ef 5 I hHeld ?_;refine Ef 6 I hHeld ?_;refine Ef 7 I hHeld ?_;refine Ef 8 I hHeld ?_;refine Ef 9 I hHeld ?_;refine Ef 10 I hHeld ?_;refine Ef 11 I hHeld ?_;refine Ef 12 I hHeld ?_;refine Ef 13 I hHeld ?_;refine Ef 14 I hHeld ?_;refine Ef 15 I hHeld ?_;refine rd 16 I (λK f=>?_);go_simp;refine f.o _ _ r (λhHeld=>?_);clear f K;(try simp only[zP,List.set]);refine rd 17 I (λK f=>?_);go_simp;refine f.o _ _ N (λhHeld=>?_);clear f K;(try simp only[zP,List.set]);refine rd 18 I (λK f=>?_);go_simp;refine Jj A.o ?_;refine f.o _ _ N (λhHeld=>?_);clear f K;(try simp only[zP,List.set]);refine Ef 19 I hHeld ?_;refine B8 EG ?_ _;clear hHeld;go_wp2_with fail;go_roundw
   .exact⟨k+1,by omega,by go_num,p⟩
   .simp[intOf];omega
  have L:¬(k:Int)<(a:Nat):=U;go_wp2_with fail;go_ret;exact⟨I,H.o⟩
end
namespace Y
open Go.RowKit Pk
def Jl(z:Nat->Int)(n:Nat)(i:Nat):Bool:=(List.range n).any λj=>z j==(i:Int)
def ME(blocks pages:Int)(n:Nat)(z:Nat->Int):M:=⟨(MU blocks 4 32).toNat,(MU pages 4 16).toNat,λ_ _=>[],λ_=>0,Jl z n,-1,0,-1,0⟩
theorem OJ(a b:Int)(n:Nat)(z:Nat->Int):WF (ME a b n z):=by have c:=Rj a 4 32 U;have d:=Rj b 4 16 U;refine⟨?_,?_,?_,?_,λi _=>AW _,λi p _ _=>AW _,?_,?_,?_,?_,?_,?_,?_,?_⟩<;>(simp only[ME];omega)
theorem Zy(z:Nat->Int)(k:Nat):Jl z (k+1)=λi=>Jl z k i||(z k==(i:Int)):=by funext i;unfold Jl;rw[Be,List.any_append];simp
theorem eT{α:Type}(n:Nat)(x:α):(List.range n).map (λ_=>x)++[x]=(List.range (n+1)).map λ_=>x:=by rw[Be,Au];rfl
theorem Ti(a:Nat)(h:a<=16):∃M:Array Value,(∀W:Z,(Instr.makeSlice 40 (.a a) (.a a)).run prog W=.ok (.b W.heap.size a a) (W.alloc (.cells M 9)))/\∀W:Z,(W.alloc (.cells M 9)).rowIs W.heap.size 9 a (λ_=>.string ⟨#[]⟩):=
 ⟨madeCells #[Value.string ⟨#[]⟩] a,λW=>Cn (P:=prog) 40 9 (.string ⟨#[]⟩) 16 underlying40 Kq I .i64 .i64 a U U W,λW=>DA W (.string ⟨#[]⟩) a 9⟩
theorem Xu{B:Nat}{a w:Z}(h:Below B a w)(q:Nat):Below B a (w.drewN q):=⟨h.os,h.tape,h.output,h.size,h.u⟩
theorem EM.Xs{w:Z}{d a c:Nat}{T:TypeId}{L:Loc}{m:M}{enc:Du->Du}{g4 g5 g6 g7:Int}(h:EM w d a c T L m enc g4 g5 g6 g7)(b:Nat->Bool)(e:∀i,i<m.a->m.e i=b i):EM w d a c T L {m with e:=b} enc g4 g5 g6 g7:=
 ⟨h.g,h.r,h.h,h.o,h.k,h.inj,h.n,h.st,h.data,h.next,h.b.congr (λi a=>by rw[e i a]),h.e⟩
theorem yw(w:Z)(p:Addr)(x v:Value)(t:TypeId):∀j u,[v][j]?=some u->((w.setCell p x).alloc (.cells #[v] t)).cell? ((⟨w.heap.size,0,none⟩:Addr).add j)=some u:=by have:=B9 (w.setCell p x) v t;simpa using this
theorem cell_two_new(w:Z)(o:Obj)(v:Value)(t:TypeId):∀j u,[v][j]?=some u->((w.alloc o).alloc (.cells #[v] t)).cell? ((⟨w.heap.size+1,0,none⟩:Addr).add j)=some u:=by have:=B9 (w.alloc o) v t;simpa using this
theorem Kk(w:Z)(c d:Int)(a:Option Addr)(n cap:Nat)(z:Nat->Int)(f:n<=17592186043904)(A:IntsIn w a n z):Calls prog 10 #[.a c,.a d,.slice a n cap] w λe w'=>∃L hi,e=.a (.c w.heap.size)/\hi<=w'.heap.size/\CP w' w.heap.size hi w.heap.size L (ME c d n z)/\Below w.heap.size w w':=by
 have aO:=J (λw=>Vt c 4 32 U w);have C:=J (λw=>Vt d 4 16 U w);have m:=Rj c 4 32 U;have l:=Rj d 4 16 U;obtain⟨g,j⟩:∃g:Nat,MU c 4 32=(g:Int):=As U;obtain⟨f,h⟩:∃f:Nat,MU d 4 16=(f:Int):=As U;have HM:Hid (ME c d n z=⟨g,f,λ_ _=>[],λ_=>0,Jl z n,-1,0,-1,0⟩):=by show ME c d n z=_;unfold ME;rw[j,h];rfl
 rw[j]at aO m;rw[h]at C l;have c:4<=g:=U;have c:g<=32:=U;have c:4<=f:=U;have c:f<=16:=U;obtain⟨l,_,b9⟩:=Ti f c;change Hid _ at b9;have aP:=J A;clear A;go_enter func10,ntmps10;go_wp2_with (first|(go_at_call 36;refine(C _).l ?_;rintro e h ⟨rfl,h1⟩;subst h1));have C:=J (AR h (Obj.cells #[.a f,.g,.g,.g,.a (-1),.a 0,.a (-1),.a 0] 74));have j:=J ((AP h.heap.size h).alloc (AB _) (Obj.cells #[.a f,.g,.g,.g,.a (-1),.a 0,.a (-1),.a 0] 74));obtain⟨F,r,v,D,m⟩:=An NH;obtain⟨k0,ki,bi,bu,bE⟩:=An LY;obtain⟨l0,li,bB,bg,bG⟩:=An Ru;obtain⟨G,A⟩:=E h.heap.size;have aP:Hid (∀W,Below G h W->IntsIn W a n z):=λW c=>aP.o.f (A ▸ c);rw[<-A]at C j |-;have aS:=J A;clear A;go_loopw [8] (λx wr=>∃k:Nat,k<=g/\x=.a k/\∃S T B M c d rw A,wr.heap[G]?=some (.cells #[.a f,.slice S k T,.slice B k M,.slice c k d,.a (-1),.a 0,.a (-1),.a 0] 74 (0,0))/\Data wr G (.slice S k T) k f rw A (λ_ _=>[])/\wr.ownsRow G 3 1 (.slice B k M) k ((List.range k).map λ_=>.a 0)/\wr.ownsRow G 4 1 (.slice c k d) k ((List.range k).map λ_=>.bool false)/\Below G h wr) (λx _=>g-(intOf x).toNat)
 case atStart=>exact⟨0,by omega,I,none,0,none,0,none,0,λ_=>0,λ_=>0,C,Data.nil _ _ _ _ _ _,Af _ _ _ _,Af _ _ _ _,j⟩
 case round=>
  clear C j;obtain⟨k,hk,rfl,S,T,B,M,c,d,rw,A,C,A,aH,aE,s⟩:=hrel;have aM:G<wr.heap.size:=lt_of_heap C;by_cases bb:k<g
  .have x0:=EV 0 C;have x1:=EV 1 C;have b4:∀o,(wr.drew.alloc o).cell? (O G 1)=some (.slice S k T):=λo=>(AK (w:=wr) (AO wr.drew o G aM)).i x1;have bz:∀o j,((wr.drew.alloc o).alloc j).cell? (O G 1)=some (.slice S k T):=λo j=>(AK (w:=wr.drew.alloc o) (AO (wr.drew.alloc o) j G EL)).i (b4 o);change Hid _ at C A aH aE s;go_wp2_with (first|(go_at_call 36;refine(aO _).l ?_;rintro e j ⟨rfl,h2⟩;subst h2));go_region_law (first
    | (refine step_append_lies _ KH _ _ _ KH G 40 F _ 1 24 underlying71 r v D m rfl U (.slice S k T) k _ KH ((A.o.own.drew.alloc _).alloc _) ⟨j.heap.size+1,0,none⟩ 1 1 [.b j.heap.size f f] KH rfl (cell_two_new j.drew (.cells l 9) (.b j.heap.size f f) 40) (by intro u K;simp at K;subst K;rfl) U Fs U EL (j.heap.size+2) EJ ?_;intro D v r P N aZ _;have F:∀t,t≠40->E6 t (j.drew.alloc (.cells l 9)) r:=(λt V=>((E6.refl t _).alloc _).C ((A.o.own.drew.alloc _).alloc _) (λe=>V e.A) N);have m:=(((E6.refl 74 j).drew.alloc (.cells l 9)).i (F 74 EB)).u C;have y1:r.cell? (O G 1)=some (.slice S k T):=(by rw[AU r G 1 _ 74 (0,0) m];rfl);have yf:=Fg 1 m;have ax:Hid (Below G h r):=((s.o.drew.alloc (C5 aM) _).a).C N EL (λq Q=>(A.o.own.lt q Q).1);have T:=J F;have R:=J m;have az:=J P;clear P N aZ F m))
   all_goals have m:=(λt V=>((E6.refl t j).drew.alloc (.cells l 9)).i (T t V))
   all_goals have N:=AJ r G 1 _ 74 (.b D (k+1) v) R
   all_goals have l:=((T 9 EB).set (o:=1) (v:=.b D (k+1) v) R EB).rw (N3 (b9 j.drew))
   all_goals have P:=A.o.push ((m 9 EB).set (o:=1) (v:=.b D (k+1) v) R EB) (r:=j.heap.size) (c:=f) (f:=λ_=>[]) (C5 aM) (AB _) l (((E6.refl 40 r).set (o:=1) (v:=.b D (k+1) v) R EB).own az)
   all_goals have F:put (λ(_:Nat) (_:Nat)=>([]:Du)) k (λ_=>[])=λ_ _=>[]:=(by funext x y;unfold put;split<;>rfl)
   all_goals rw[F]at P
   all_goals have S:=((m 3 EB).set (o:=1) (v:=.b D (k+1) v) R EB).own aH
   all_goals have aA:=((m 4 EB).set (o:=1) (v:=.b D (k+1) v) R EB).own aE
   all_goals have am:=ax.o.setCell (p:=⟨G,1,none⟩) (AB _) (.b D (k+1) v)
   all_goals generalize r.setCell (O G 1) (.b D (k+1) v)=wa at *
   all_goals clear l F m R T az y1 yf ax x0 x1 b4 bz C A aH aE s
   all_goals have bj:G<wa.heap.size:=lt_of_heap N
   all_goals have x2:wa.cell? (O G 2)=some (.slice B k M):=(by rw[AU wa G 2 _ 74 (0,0) N];rfl)
   all_goals change Hid _ at N
   all_goals change Hid _ at P
   all_goals change Hid _ at aA
   all_goals change Hid _ at am
   all_goals skip
   all_goals go_wp2_with (at_builtin;refine wpList_append_lies _ I (.tmp 38) (.tmp 39) 22 I G 3 k0 (.a 0) 1 8 underlying22 ki bi bu bE I EB (.slice B k M) k _ I (S.alloc _) ⟨wa.heap.size,0,none⟩ 1 1 [.a 0] I I (B9 _ _ _) (by intro u K;simp at K;subst K;rfl) U Fs U EL (wa.heap.size+1) EJ ?_)
   all_goals intro F m l ai R aU _
   all_goals have D:∀t,t≠3->E6 t wa l:=(λt V=>((E6.refl t wa).alloc _).C (S.alloc _) (λe=>V e.A) R)
   all_goals have r:=(D 74 EB).u N
   all_goals have y2:l.cell? (O G 2)=some (.slice B k M):=(by rw[AU l G 2 _ 74 (0,0) r];rfl)
   all_goals have bF:=Fg 2 r
   all_goals have T:=AJ l G 2 _ 74 (.b F (k+1) m) r
   all_goals rw[eT]at ai
   all_goals have aD:=((E6.refl 3 l).set (o:=2) (v:=.b F (k+1) m) r EB).own ai
   all_goals have af:=P.o.d ((D 9 EB).set (o:=2) (v:=.b F (k+1) m) r EB) ((D 40 EB).set (o:=2) (v:=.b F (k+1) m) r EB)
   all_goals have M:=((D 4 EB).set (o:=2) (v:=.b F (k+1) m) r EB).own aA
   all_goals have ah:Below G h (l.setCell (O G 2) (.b F (k+1) m)):=((am.o.alloc (C5 bj) _).C R EL (λq Q=>(S.lt q Q).1)).c
   all_goals have B:=lt_of_heap r
   all_goals have x3:(l.setCell (O G 2) (.b F (k+1) m)).cell? (O G 3)=some (.slice c k d):=(by rw[AU _ G 3 _ 74 (0,0) T];rfl)
   all_goals change Hid _ at T
   all_goals change Hid _ at af
   all_goals change Hid _ at aD
   all_goals change Hid _ at ah
   all_goals clear r ai R aU D N P aA am S x2
   all_goals go_wp2_with (at_builtin;refine wpList_append_lies _ I (.tmp 47) (.tmp 48) 72 I G 4 l0 (.bool false) 1 1 underlying72 li bB bg bG I EB (.slice c k d) k _ I (M.alloc _) ⟨l.heap.size,0,none⟩ 1 1 [.bool false] I I (yw _ _ _ _ _) (by intro u K;simp at K;subst K;rfl) U Fs U EL (l.heap.size+1) EJ ?_)
   all_goals intro R P r N K S _
   all_goals have D:∀t,t≠4->E6 t (l.setCell (O G 2) (.b F (k+1) m)) r:=(λt V=>((E6.refl t _).alloc _).C (M.alloc _) (λe=>V e.A) K)
   all_goals have B:=(D 74 EB).u T
   all_goals have l:r.cell? (O G 3)=some (.slice c k d):=(by rw[AU r G 3 _ 74 (0,0) B];rfl)
   all_goals have c:=Fg 3 B
   all_goals rw[eT]at N
   all_goals have F:=J (AJ r G 3 _ 74 (.b R (k+1) P) B)
   all_goals have l:=J (((E6.refl 4 r).set (o:=3) (v:=.b R (k+1) P) B EB).own N)
   all_goals have V:=J (((D 3 EB).set (o:=3) (v:=.b R (k+1) P) B EB).own aD)
   all_goals have c:=J (af.o.d ((D 9 EB).set (o:=3) (v:=.b R (k+1) P) B EB) ((D 40 EB).set (o:=3) (v:=.b R (k+1) P) B EB))
   all_goals have d:Hid (Below G h (r.setCell (O G 3) (.b R (k+1) P))):=((ah.o.a).C K EL (λq Q=>(M.lt q Q).1)).c
   all_goals clear B N K S D T af aD ah M x3 y2 bF
   all_goals go_wp2
   all_goals(go_roundw;(case rel=>exact⟨k+1,by omega,by go_num,FH _,v,FH _,m,FH _,P,_,_,F,c,V,l,d⟩);(case measure=>simp[intOf];omega))
  have d:g=k:=U;subst d;obtain⟨L,c⟩:=EM.built (T:=74) (enc:=id) (m:=⟨g,f,λ_ _=>[],λ_=>0,Jl z 0,-1,0,-1,0⟩) (g4:=-1) (g5:=0) (g6:=-1) (g7:=0) (by show 0<g;omega) EB (AB G) C A (λi p _ _=>rfl) aH aE;obtain⟨H,l⟩:=E wr.heap.size;rw[<-l]at c;have Q:Hid (H<=wr.heap.size):=Ci l;change Hid _ at c;have N:=J s;clear C A aH aE s l aM;go_wp2_with (first|(go_at_call 36;refine(aO _).l ?_;rintro e j ⟨rfl,h2⟩;subst h2));go_loopw [9] (λx wr=>∃k:Nat,k<=n/\x=.a k/\CP wr G H G L ⟨g,f,λ_ _=>[],λ_=>0,Jl z k,-1,0,-1,0⟩/\Below G h wr/\H<=wr.heap.size) (λx _=>n-(intOf x).toNat)
  case atStart=>exact⟨0,by omega,I,c,N,Q⟩
  clear c N Q;obtain⟨k,hk,rfl,A,s,c⟩:=hrel;have c1:=EM.c1 A;have c3:=EM.c3 A;have Q:=J c;have N:=J s;have M:=J A;simp only[]at c1 c3;by_cases bb:k<n
  .obtain⟨b,_,rfl,j⟩:=aP _ s U;have l:=j k bb;clear j A s c;by_cases j:z k<0
   .have C:decide (0<=z k)=false:=EL;have s:Hid (CP wr G H G L ⟨g,f,λ_ _=>[],λ_=>0,Jl z (k+1),-1,0,-1,0⟩):=(M.o.Xs (Jl z (k+1)) (λi _=>by rw[Zy];show _=(Jl z k i||(z k==(i:Int)));rw[show(z k==(i:Int))=false by simp;omega,Bool.or_false]));go_wp2_with fail;go_quiet (fail);go_wp2;go_roundw
    case rel=>exact⟨k+1,by omega,by go_num,EM.drewN s _,Xu N _,Q⟩
    case measure=>simp[intOf];omega
   have C:decide (0<=z k)=true:=EL;obtain⟨i,A⟩:∃i:Nat,z k=(i:Int):=As U;have c:=J A;rw[A]at l;by_cases h1:i<g
   .have m:decide ((i:Int)<(g:Int))=true:=EL;have l:=M.o.b.frozen i;have l:=M.o.b.cell h1;have s:Hid (∀q,CP ((wr.drewN q).setCell (O L.a i) (.bool true)) G H G L ⟨g,f,λ_ _=>[],λ_=>0,Jl z (k+1),-1,0,-1,0⟩):=λq=>((EM.QQ (EM.drewN M q) i true).Xs (Jl z (k+1)) (λa _=>by
     rw[Zy];show(if a=i then true else Jl z k a)=(Jl z k a||(z k==(a:Int)));rw[c.o];by_cases e:a=i
     .rw[AD e,e];simp
     rw[AC e,show((i:Int)==(a:Int))=false by simp;omega,Bool.or_false]))
    have l:Hid (∀q,Below G h ((wr.drewN q).setCell (O L.a i) (.bool true))):=λq=>(Xu N q).setCell (p:=⟨L.a,i,none⟩) M.o.o.1 (.bool true);clear j C A;go_wp2_with fail;go_quiet (fail);go_wp2_with fail;go_region;go_wp2;go_roundw
    case rel=>exact⟨k+1,by omega,by go_num,s.o _,l.o _,by simpa using Q.o⟩
    case measure=>simp[intOf];omega
   have m:decide ((i:Int)<(g:Int))=false:=EL;have s:Hid (CP wr G H G L ⟨g,f,λ_ _=>[],λ_=>0,Jl z (k+1),-1,0,-1,0⟩):=(M.o.Xs (Jl z (k+1)) (λa f=>by rw[Zy];show _=(Jl z k a||(z k==(a:Int)));have:a<g:=f;rw[c.o,show((i:Int)==(a:Int))=false by simp;omega,Bool.or_false]));clear j C A;go_wp2_with fail;go_quiet (fail);go_wp2;go_roundw
   case rel=>exact⟨k+1,by omega,by go_num,EM.drewN s _,Xu N _,Q⟩
   case measure=>simp[intOf];omega
  have d:n=k:=U;subst d;go_wp2;go_ret;refine⟨L,H,by rw[<-aS.o];rfl,Q,?_,?_⟩
  .rw[HM.o,<-aS.o];exact M
  rw[<-aS.o];exact N
end Y
section
open Go.RowKit Go.Nt
def IX(w:Z)(x:Sl)(ms:List (Sl×List It)):Prop:=
 w.ownsRow 0 26 1 (.slice x.1 x.2.1 x.2.2) ms.length (ms.map λy=>sl y.1)/\∀y∈ms,y.1.2.1=y.2.length/\y.2.length<=1000/\Eh w y.1.1 y.2
theorem uK(w:Z)(o:Nat)(s:Sv)(ms:List (Sl×List It))(a:Option Addr)(c:Nat)(l:List It)(R:ES w o s)(F:IX w s.a ms)(hn:ms.length<=1000000000)(Q:Eh w a l)(hl:l.length<=1000):Calls prog 99 #[.c o,.slice a l.length c] w λe w'=>e=.a (.bool (ms.any λy=>decide (y.2=l)))/\∃q,w'=w.drewN q:=by
 have c3:w.g o 3 (.slice s.a.1 s.a.2.1 s.a.2.2):=R.cell 3;have j:=Qh F.1;have t:=J F;have Ha:=J Q;obtain⟨x,S⟩:=E s.a;rw[<-S]at c3 j t;obtain⟨p,f,r⟩:=x;dsimp only at c3 j;rw[<-j]at hn;have K:=J j;have a9:Hid (∀q,(w.drewN q).g o 3 (.slice p f r)):=J (λq=>c3);obtain⟨_,u⟩:=E l.length;have P:=J u;rw[<-u]at hl |-;clear R F Q S j c3 u;go_enter func99,ntmps99;go_wp2_with fail;go_loopw [5] (λi wr=>∃k:Nat,k<=f/\i=.a k/\(∃q,wr=w.drewN q)/\Hid (∀y∈ms.take k,y.2≠l)) (λi _=>f-(intOf i).toNat)
 case atStart=>exact⟨0,by omega,I,⟨0,I⟩,J EJ⟩
 case round=>
  obtain⟨k,_,rfl,⟨q,rfl⟩,H⟩:=hrel;have c3:=a9.o q;by_cases aa:k<f
  .have a4:(k:Int)<(f:Nat):=U;have v:k<ms.length:=Dz K.o;obtain⟨z,m⟩:∃z,ms[k]?=some z:=⟨_,AE v⟩;have N:w.r 0 26 1 (.slice (p,f,r).1 (p,f,r).2.1 (p,f,r).2.2) (ms.map (·.1)).length ((ms.map (·.1)).map sl):=by have h:=t.o.1;rw[B0,Cj];exact h
   obtain⟨g,_,e,h5,h6,_,M⟩:=Zr N (λh=>by rw[List.map_eq_nil_iff]at h;rw[h]at v;simp at v);simp only[Dj]at e;obtain⟨rfl,e2,rfl⟩:=e;have n:=M k z.1 (by rw[BI,m];rfl);obtain⟨B,h8,C⟩:=t.o.2 z (AY m);have HT:Hid (ms.take (k+1)=ms.take k++[z]):=J (by rw[Al,m];rfl);have Hz:=J (AY m);obtain⟨⟨V,_,W⟩,G⟩:=z;dsimp only at n B h8 C;rw[B]at n;have A:=J (Io V a W c G l (w.drewN q) C Ha.o U (by rw[<-P.o];omega));rw[<-P.o]at A;have a8:(w.drewN q).g g k (.slice V G.length W):=n;obtain⟨b,D⟩:=E (decide (G=l));rw[<-D]at A;have L:=J D;clear N M m n B C e2 h5 h6 D;go_wp2_with fail;refine A.o.l ?_;rintro e w' ⟨rfl,T,rfl⟩;clear A a8;cases b with
   |true=>go_wp2_with fail;go_ret;refine⟨?_,q+T,by simp⟩;have:(ms.any λy=>decide (y.2=l))=true:=Ap.2 ⟨_,Hz.o,L.o.A⟩;rw[this];rfl
   |false=>
    go_wp2_with fail;go_roundw
    case rel=>
     refine⟨k+1,by omega,by go_num,⟨q+T,by simp⟩,J (λy d=>?_)⟩;rw[HT.o]at d;rcases Aj.1 d with d|d
     .exact H.o y d
     simp at d;subst d;have:=L.o;simpa using this.A
    case measure=>simp[intOf];omega
  have a4:¬(k:Int)<(f:Nat):=U;have HA:Hid ((ms.any λy=>decide (y.2=l))=false):=J (by rw[Dd];intro y d;have:=H.o y (by rw[AT (by rw[<-K.o];omega)];exact d);simpa using this)
  go_wp2_with fail;go_ret;exact⟨by rw[HA.o];rfl,q,I⟩
def Tv(cb b:Nat):Sv:=⟨cb,none,(none,0,0),(none,0,0),true,false,false,b,(none,0,0),(none,0,0)⟩
def Sf(bl pg:Int)(n:Nat)(z:Nat->Int)(w:Z)(e:Ending)(w':Z):Prop:=
 ∃L hi sb,e=.a (.c sb)/\hi<=sb/\sb<w'.heap.size/\Y.CP w' w.heap.size hi w.heap.size L (Y.ME bl pg n z)/\ES w' sb (Tv w.heap.size (Y.ER (Y.ME bl pg n z)))/\Below w.heap.size w w'
theorem gR(w:Z)(h k:Int)(a:Option Addr)(n cap:Nat)(z:Nat->Int)(P:n<=17592186043904)(d:Y.IntsIn w a n z):Calls prog 30 #[.a h,.a k,.slice a n cap] w λe w'=>Sf h k n z w e w':=by
 have A:=J (Y.Kk w h k a n cap z P d);obtain⟨b,p⟩:=E w.heap.size;rw[<-p]at A;have g:=J p;clear d p;go_enter func30,ntmps30;go_wp2_with fail;refine A.o.l ?_;rintro e f ⟨L,r,rfl,x,i,o⟩;obtain⟨m,j⟩:=E (Y.ME h k n z);have K:Y.WF m:=by rw[j];exact Y.OJ _ _ _ _
 rw[<-j]at i;have B:=J (ZD f b r b L m K i);obtain⟨y,q⟩:=E (Y.ER m);rw[<-q]at B;obtain⟨l,c⟩:=E (f.alloc (.cells (Tv b y).arr 106));have u:Y.CP l b r b L m:=Y.EM.f i (B:=f.heap.size) x (by rw[c];exact Iy);have v:=Gi c;have t:Below b w l:=by rw[c];exact o.alloc (by have:=o.size;rw[<-g.o]at this;exact this) _
 have C:=Ia c;have N:Hid (l=f.alloc (.cells #[.c b,.pointer none,.g,.g,.bool true,.bool false,.bool false,.a y,.g,.g] 106)):=J c;have M:=J u;have H:=J v;have G:=J t;have D:=J C;have s:=J j;have F:=J q;clear i u v t C c o A j q;go_wp2_with fail;refine Jj B.o ?_;clear B;go_wp2_with rw[<-N.o];go_ret;refine⟨L,r,f.heap.size,I,x,by rw[D.o];omega,?_,?_,?_⟩
 .rw[<-g.o,<-s.o];exact M.o
 .rw[<-g.o,<-s.o,<-F.o];exact H.o
 rw[<-g.o];exact G.o
def MG(l:List It)(q:Bs):Int:=match at? l q with
 | none=>4
 | some x=>if x.d then 0 else 6
def Gq(l:List It):Nat->Bs->Int
 | 0,_=>0
 | n+1,p=>if par p=[]then 0 else if Gq l n (par p)=6 then 6 else MG l (par p)
theorem UM:∀p:Bs,p≠[]->(par p).length<p.length
 | [],h=>absurd I h
 | c::cs,_=>by
   unfold par
   split
   .rename_i h;have a:cs≠[]:=λe=>by rw[e]at h;cases h
    have:=UM cs a
    simp only[Ae];omega
   simp
theorem YT(l:List It):∀n p,Gq l n p=0\/Gq l n p=4\/Gq l n p=6
 |0,_=>.w I
 | n+1,p=>by
   unfold Gq MG
   repeat' split
   all_goals simp
theorem P6(l:List It)(q:Bs):(JY l q = -1/\at? l q=none)\/∃k x,JY l q=(k:Nat)/\l[k]?=some x/\at? l q=some x:=by
 rcases Xz l q with⟨b,a⟩|⟨k,x,b,a,c,d⟩
 .exact .w ⟨b,by unfold at?;rw[List.find?_eq_none];intro y g;simpa using a y g⟩
 refine .s ⟨k,x,b,a,?_⟩;unfold at?;have f:k<l.length:=(AN.1 a).1;rw[List.find?_eq_some_iff_getElem];refine⟨by simpa using c,k,f,(AN.1 a).2,λj e=>?_⟩;have:=d j l[j] e (AE U);simpa using this
theorem Wl(a:Option Addr)(c:Nat)(l:List It)(w:Z)(r:Eh w a l)(u:l.length<=1048576):∀(n:Nat) (p:Bs),p.length<=n->p.length<=1048576 -> Calls prog 158 #[.slice a l.length c,.string (X p)] w λe w'=>e=.a (.a (Gq l (n+1) p))/\w'=w:=by
 intro n;induction n with
 |zero=>intro p Q _;have W:p=[]:=BP.1 U;subst W;have A:=J (V9 [] w EJ);obtain⟨L,j⟩:=E l.length;rw[<-j];have e0:(X []).toList=[]:=Mn [];have e1:Gq l (0+1) []=0:=I;rw[e1];clear r u j;go_enter func158,ntmps158;go_wp2_with fail;refine Jj A.o ?_;clear A;have e2:(X (par []))=⟨#[]⟩:=I;rw[e2];go_wp2_with fail;go_ret;exact⟨I,I⟩
 |succ n R=>
  intro p Q N;have A:=J (V9 p w N);obtain⟨q,o⟩:=E (par p);have G:q.length<=n:=by
   rw[o];by_cases e:p=[]
   .subst e;exact AW _
   exact Dz (UM p e)
  have V:q.length<=p.length:=by
   rw[o];by_cases e:p=[]
   .subst e;exact AW _
   exact Dz (UM p e)
  have B:=J (R q G U);have C:=J (QY a c l q w r u);have D:=P6 l q;have e1:Gq l (n+1+1) p=if q=[]then 0 else if Gq l (n+1) q=6 then 6 else MG l q:=by rw[Gq,o]
  have z:=YT l (n+1) q;obtain⟨_,F⟩:=E (Gq l (n+1) q);rw[<-F]at B e1 z;rw[<-o]at A;rw[e1];obtain⟨g,s⟩:=E (X q);have M:g.toList=q:=by rw[s];exact Mn q
  rw[<-s]at A B C;have T:=J r;obtain⟨L,j⟩:=E l.length;have S:=J j;rw[<-j]at B C u |-;obtain⟨_,H⟩:=E (JY l q);rw[<-H]at C D;have y:Hid (g.toList=q):=J M;clear r j R s M F o Q N G V H e1;go_enter func158,ntmps158;go_wp2_with fail;refine Jj A.o ?_;clear A;by_cases i:q=[]
  .have e0:(g.toList==[])=true:=by rw[y.o,i];rfl
   go_wp2_with fail;go_ret;exact⟨by simp[i],I⟩
  have e0:(g.toList==[])=false:=by rw[y.o];simpa using i
  go_wp2_with fail;refine Jj B.o ?_;clear B;rcases z with rfl|rfl|rfl
  case' inr.inr=>go_wp2_with fail;go_ret;exact⟨by simp[i],I⟩
  all_goals
   go_wp2_with fail;refine Jj C.o ?_;rcases D with⟨rfl,f⟩|⟨k,x,rfl,m,f⟩
   .go_wp2_with fail;go_ret;exact⟨by unfold MG;rw[f];simp[i],I⟩
   have s:k<L:=by have:=(AN.1 m).1;rw[S.o];exact this
   obtain⟨b,_,rfl,P⟩:=T.o (λh=>by rw[h]at m;simp at m);obtain⟨_,j,_,_,_⟩:=P k x m;have o:(k:Int)<(L:Nat):=U;have r:(0:Int)<=(k:Int):=U;have K:=J f;obtain⟨d,t⟩:=E x.d;rw[<-t]at j;have v:=J t;clear P m f t;cases d with
   |true=>go_wp2_with fail;go_ret;exact⟨by unfold MG;rw[K.o];simp[i,<-v.o],I⟩
   |false=>go_wp2_with fail;go_ret;exact⟨by unfold MG;rw[K.o];simp[i,<-v.o],I⟩
def JG(l:List It)(p:Bs):Int:=if EO p then(if Gq l (p.length+1) p=0 then(match at? l p with | none=>4 | some x=>if x.d then 6 else 0)else Gq l (p.length+1) p)else 1
def Kx(l:List It)(p:Bs):Bs:=if JG l p=0 then(match at? l p with | none=>[] | some x=>x.data)else[]
theorem yN(a:Option Addr)(c:Nat)(l:List It)(p:Bs)(w:Z)(t:Eh w a l)(H:l.length<=1048576)(V:p.length<=1048576):Calls prog 104 #[.slice a l.length c,.string (X p)] w λe w'=>e=.a (.tuple #[.string (X (Kx l p)),.a (JG l p)])/\Below w.heap.size w w':=by
 have A:=J (SU p w V);have o:=J (λW (D:w.b W)=>Wl a c l W (t.f D) H p.length p (AB _) V);have q:=J (λW (D:w.b W)=>QY a c l p W (t.f D) H);have N:=P6 l p;have M:=YT l (p.length+1) p;obtain⟨f,u⟩:=E (Gq l (p.length+1) p);rw[<-u]at o M;obtain⟨s,y⟩:=E (EO p);have i:Hid (JG l p=if s then(if f=0 then(match at? l p with|none=>4|some x=>if x.d then 6 else 0)else f)else 1):=J (by unfold JG;rw[u,y]);have g:Hid (Kx l p=if JG l p=0 then(match at? l p with|none=>[]|some x=>x.data)else[]):=J I;obtain⟨n,Q⟩:=E (JG l p);obtain⟨m,R⟩:=E (Kx l p);rw[<-Q]at i g |-;rw[<-R]at g |-;rw[<-y]at A;obtain⟨_,S⟩:=E (X p);rw[<-S]at A o q |-;have G:=J t;obtain⟨L,z⟩:=E l.length;have F:=J z;rw[<-z]at o q H |-;obtain⟨_,P⟩:=E (JY l p);rw[<-P]at q N;clear t z S u y P Q R;go_enter func104,ntmps104;go_wp2_with fail;refine A.o.l ?_;rintro e t ⟨r,_,rfl,-⟩;have j:=J r;have B:=J (o.o t r);have C:=J (q.o t r);have u:=J (G.o.f r);clear r A o q;cases s with
 |false=>
  go_wp2_with fail;go_ret2;have e1:n=1:=i.o;have e2:m=[]:=by rw[g.o,e1];rfl
  exact⟨by rw[e1,e2];rfl,j.o⟩
 |true=>
  go_wp2_with fail;refine Jj B.o ?_;clear B;rcases M with rfl|rfl|rfl
  case' inr.inl=>
   go_wp2_with fail;go_ret2;have e1:n=4:=i.o;have e2:m=[]:=by rw[g.o,e1];rfl
   exact⟨by rw[e1,e2];rfl,j.o⟩
  case' inr.inr=>
   go_wp2_with fail;go_ret2;have e1:n=6:=i.o;have e2:m=[]:=by rw[g.o,e1];rfl
   exact⟨by rw[e1,e2];rfl,j.o⟩
  go_wp2_with fail;refine Jj C.o ?_;clear C;rcases N with⟨rfl,f⟩|⟨k,x,rfl,s,f⟩
  .have e1:n=4:=by rw[i.o,f];rfl
   have e2:m=[]:=by rw[g.o,e1];rfl
   subst e1;subst e2;clear f i g;go_wp2_with fail;go_ret2;exact⟨I,j.o⟩
  have P:k<L:=by have:=(AN.1 s).1;rw[F.o];exact this
  obtain⟨b,_,rfl,T⟩:=u.o (λh=>by rw[h]at s;simp at s);obtain⟨_,q,r,_,_⟩:=T k x s;have y:(k:Int)<(L:Nat):=U;have z:(0:Int)<=(k:Int):=U;have v:=J f;obtain⟨d,G⟩:=E x.d;obtain⟨_,F⟩:=E (X x.data);rw[<-G]at q;rw[<-F]at r;have K:=J G;have o:=J F;clear T s f G F;cases d with
  |true=>
   go_wp2_with fail;go_ret2;have e1:n=6:=by rw[i.o,v.o];simp[<-K.o]
   have e2:m=[]:=by rw[g.o,e1];rfl
   exact⟨by rw[e1,e2];rfl,j.o⟩
  |false=>
   go_wp2_with fail;go_ret2;have e1:n=0:=by rw[i.o,v.o];simp[<-K.o]
   have e2:m=x.data:=by rw[g.o,e1,v.o];rfl
   exact⟨by rw[e1,e2,<-o.o];rfl,j.o⟩
theorem kt(l:List It)(p:Bs):∀n k,JH l p n k=0\/JH l p n k=4\/JH l p n k=6
 |0,k=>.w I
 | n+1,k=>by
   have a:=kt l p n (k+1);unfold JH
   repeat' split
   all_goals first|exact a|simp
theorem WG(l:List It)(p:Bs)(n k:Nat):JH l p (n+1) k=if p.getD k 0=47 then(match at? l (p.take k)with | none=>4 | some x=>if x.d then JH l p n (k+1)else 6)else JH l p n (k+1):=rfl
theorem vE(l:List It)(p:Bs)(k:Nat):(∀n,JH l p (n+1) k=JH l p n (k+1))\/(∀n,JH l p (n+1) k=4)\/(∀n,JH l p (n+1) k=6):=by
 by_cases h:p.getD k 0=47
 .cases a:at? l (p.take k)with
  |none=>exact .s (.w λn=>by rw[WG,AD h,a])
  |some x=>
   by_cases b:x.d=true
   .exact .w λn=>by rw[WG,AD h,a];exact AD b
   exact .s (.s λn=>by rw[WG,AD h,a];exact AC b)
 exact .w λn=>by rw[WG,AC h]
theorem YZ(l:List It)(p:Bs)(m:Nat):∀n k,JH l p (n+m) k=if JH l p n k=0 then JH l p m (k+n)else JH l p n k
 |0,k=>by simp[JH]
 | n+1,k=>by
   have a:=YZ l p m n (k+1);have e1:n+1+m=(n+m)+1:=U
   have e2:k+1+n=k+(n+1):=U
   rw[e1];rw[e2]at a;rcases vE l p k with h|h|h
   .rw[h,h];exact a
   .rw[h,h];rfl
   rw[h,h];rfl
theorem l9(l:List It)(p q:Bs):∀n k,(∀i,k<=i->i<k+n->p.getD i 0=q.getD i 0/\p.take i=q.take i)->JH l p n k=JH l q n k
 |0,k,_=>rfl
 | n+1,k,h=>by
   have c:=l9 l p q n (k+1) (λi _ _=>h i U U);obtain⟨a,b⟩:=h k (AB _) U;unfold JH;rw[a,b,c]
theorem YB(l:List It)(p:Bs):∀n k,(∀i,k<=i->i<k+n->p.getD i 0≠47)->JH l p n k=0
 |0,k,_=>rfl
 | n+1,k,h=>by
   unfold JH;rw[AC (h k (AB _) U)];exact YB l p n (k+1) (λi _ _=>h i U U)
theorem pR{p:Bs}{i j:Nat}(h:i<=j):(p.take j).take i=p.take i:=by rw[List.take_take,Bz h]
theorem oe(l:List It)(p:Bs)(g:p.getD 0 0≠47):(par p=[]->Ei l p=0)/\(par p≠[]->(par p).getD 0 0≠47/\Ei l p=if Ei l (par p)=0 then MG l (par p)else Ei l (par p)):=by
 rcases Vs p with h|⟨j,o,b,a⟩
 .have c:=UG h;refine⟨λ_=>YB l p p.length 0 (λi _ k=>h i U),λf=>absurd c f⟩
 have c:=Sc b a;have m:j≠0:=λe=>by rw[e]at b;exact g b
 have d:(par p).length=j:=by rw[c,Ac];omega
 have f:par p≠[]:=λe=>by rw[e]at d;simp at d;omega
 refine⟨λe=>absurd e f,λ_=>⟨?_,?_⟩⟩
 .rw[c,getD_take U];exact g
 have e1:p.length=j+(1+(p.length-j-1)):=U;have e2:JH l p j 0=Ei l (par p):=by
  unfold Ei;rw[d];exact l9 l p (par p) j 0 (λi _ k=>by rw[c];exact⟨(getD_take U).A,(pR U).A⟩)
 have e3:JH l p (1+(p.length-j-1)) (0+j)=MG l (par p):=by
  rw[YZ,Ak];have e4:JH l p 1 j=MG l (par p):=by
   unfold JH MG;rw[AD b,<-c];cases at? l (par p)with
   |none=>rfl
   |some x=>simp[JH]
  have e5:JH l p (p.length-j-1) (j+1)=0:=YB l p _ _ (λi n k=>a i U U);rw[e4,e5];split
  .rename_i h;exact h.A
  rfl
 show JH l p p.length 0=_;rw[e1,YZ,e2,e3]
theorem Zb{l:List It}(d:EX l):∀n p,p.length<=n->p.getD 0 0≠47->Gq l (n+1) p=Ei l p:=by
 intro n;induction n with
 |zero=>intro p r _;have:p=[]:=BP.1 U;subst this;rfl
 |succ n t=>
  intro p r i;obtain⟨j,k⟩:=oe l p i;rw[Gq];by_cases b:par p=[]
  .rw[AD b,j b]
  obtain⟨m,o⟩:=k b;have g:(par p).length<=n:=by have:=UM p (λe=>by rw[e]at b;exact b I);omega
  rw[AC b,t (par p) g m,o];rcases kt l (par p) (par p).length 0 with h|h|h
  .have a:Ei l (par p)=0:=h;rw[a];rfl
  .have a:Ei l (par p)=4:=h;rw[a];have q:at? l (par p)=none:=by
    cases c:at? l (par p)with
    |none=>rfl
    |some x=>obtain⟨s,f⟩:=Ji c;have:=iQ d.ok d.nodup s (by rw[f,a];decide);rw[(Pu l).2 d]at this;cases this
   simp[MG,q]
  have a:Ei l (par p)=6:=h;rw[a];rfl
theorem Vf{p:Bs}(h:EO p=true):p.getD 0 0≠47:=λe=>by
 cases p with
 |nil=>simp at e
 |cons c b=>have a:c=47:=EU e;subst a;unfold EO split at h;simp[FZ]at h
theorem UQ{l:List It}(b:(l.map (·.c)).Nodup)(p:Bs):at? (Eg l) p=at? l p:=by
 cases h:at? l p with
 |none=>rw[GN]at h |-;exact λx a=>h x (Eo.1 a)
 |some x=>obtain⟨a,rfl⟩:=Ji h;exact at_mem ((((MQ l).map _).nodup_iff).2 b) (Eo.2 a)
theorem Vx{l:List It}(a:(l.map (·.c)).Nodup)(p:Bs):∀n k,JH (Eg l) p n k=JH l p n k
 |0,k=>rfl
 | n+1,k=>by
   unfold JH;rw[UQ a,Vx a p n (k+1)]
theorem VQ{l:List It}(c:EX l)(p:Bs):JG (Eg l) p=FQ l p/\Kx (Eg l) p=(FU l p).data:=by
 have d:JG (Eg l) p=FQ l p:=by
  unfold JG FQ Et FN;rw[UQ c.nodup];by_cases b:EO p=true
  .rw[AD b,AD b,Zb c.a p.length p (AB _) (Vf b)];have e:Ei (Eg l) p=Ei l p:=Vx c.nodup p _ _;rw[e];by_cases a:Ei l p=0
   .rw[AD a,AD a];cases at? l p with
    |none=>rfl
    |some x=>rfl
   rw[AC a,AC a,AC a]
  rw[AC b,AC b];simp
 refine⟨d,?_⟩;unfold Kx FU;rw[d,UQ c.nodup];split
 .cases at? l p with
  |none=>rfl
  |some x=>rfl
 rfl
def Jt(l:List It)(p:Bs):Int:=if p=[]then 0 else if EO p then(if Gq l (p.length+1) p=0 then(match at? l p with | none=>4 | some x=>if x.d then 0 else 6)else Gq l (p.length+1) p)else 1
def Kr(q:Bs):Bs:=(split q).getLast?.getD []
def F7(l:List It)(p:Bs):List Bs:=(l.filter λx=>decide (par x.c=p)).map λx=>Kr x.c
def UF(l:List It)(p:Bs)(w:Z)(e:Ending)(w':Z):Prop:=
 Below w.heap.size w w'/\((Jt l p≠0/\e=.a (.tuple #[.g,.a (Jt l p)]))\/(Jt l p=0/\∃v,e=.a (.tuple #[v,.a 0])/\w'.ownsRow w.heap.size 9 1 v (F7 l p).length (Lf (F7 l p))))
theorem jc(l:List It)(x:It)(p:Bs):F7 (l++[x]) p=if par x.c=p then F7 l p++[Kr x.c]else F7 l p:=by
 unfold F7;rw[DG];by_cases h:par x.c=p
 .rw[AD h,Da (EU h)];simp
 rw[AC h,Db (EU h)];simp
theorem rJ(l:List It)(p:Bs):(F7 l p).length<=l.length:=by unfold F7;rw[B0];exact C0 _ _
theorem iH:∀p:Bs,(split p).length<=p.length+1
 | []=>by simp[split]
 | c::cs=>by
   have a:=iH cs;unfold split
   split
   .simp;omega
   split
   .simp
   rename_i n b h;rw[h]at a;simp at a |-;omega
theorem pA(a:Option Addr)(c:Nat)(l:List It)(p:Bs)(w:Z)(hl:Eh w a l)(hn:l.length<=1000)(hp:p.length<=1048576)(R:∀x∈l,EO x.c=true/\x.c.length<=1048576):Calls prog 105 #[.slice a l.length c,.string (X p)] w λe w'=>UF l p w e w':=by
 obtain⟨i0,hi,aL,aV,aR⟩:=An Kq;have A:=J (SU p w hp);have f:=J (λW (hW:Below w.heap.size w W)=>Wl a c l W (hl.f hW) U p.length p (AB _) hp);have D:=J (λW (hW:Below w.heap.size w W)=>QY a c l p W (hl.f hW) U);have ay:=P6 l p;have a6:=YT l (p.length+1) p;obtain⟨ie,ar⟩:=E (Gq l (p.length+1) p);rw[<-ar]at f a6;obtain⟨ok,a5⟩:=E (EO p);have K:Hid (Jt l p=if p=[]then 0 else if ok then(if ie=0 then(match at? l p with|none=>4|some x=>if x.d then 0 else 6)else ie)else 1):=J (by unfold Jt;rw[ar,a5]);unfold UF;obtain⟨y,aF⟩:=E (Jt l p);rw[<-aF]at K |-;rw[<-a5]at A;obtain⟨g,hX⟩:=E (X p);have M:Hid (g.toList=p):=J (by rw[hX];exact Mn p);rw[<-hX]at A f D |-;have Hl:=J hl;have aK:=J R;obtain⟨L,hL⟩:=E l.length;have HL:=J hL;rw[<-hL]at f D hn |-;obtain⟨_,aG⟩:=E (JY l p);rw[<-aG]at D ay;obtain⟨z,hz⟩:=E w.heap.size;rw[<-hz]at A f D |-;have Hz:=J hz;clear hl hL hX ar a5 aG aF R hz;go_enter func105,ntmps105;by_cases t:p=[]
 case' pos=>
  have e0:(g.toList==[])=true:=by rw[M.o,t];rfl
  have aQ:g.toList.isEmpty=true:=by rw[M.o,t];rfl
  have aB:Hid (y=0):=J (by rw[K.o,AD t]);have s:Hid (Below z w w):=J (AP _ _);clear A f D ay a6 K t;go_wp2_with fail
 case' neg=>
  have e0:(g.toList==[])=false:=by rw[M.o];simpa using t
  have aQ:g.toList.isEmpty=false:=by rw[M.o];simpa using t
  have j:Hid (y=if ok then(if ie=0 then(match at? l p with|none=>4|some x=>if x.d then 0 else 6)else ie)else 1):=J (by rw[K.o,AC t]);clear K t;go_wp2_with fail;refine A.o.l ?_;rintro e W ⟨N,_,rfl,-⟩;have s:=J N;have B:=J (f.o W N);have C:=J (D.o W N);have ah:Hid (Eh W a l):=J (Hl.o.f (by rw[<-Hz.o];exact N));clear N A f D;cases ok
  case' false=>have e1:y=1:=j.o;subst e1;clear j;go_wp2_with fail;go_ret2;exact⟨s.o,.w ⟨by decide,I⟩⟩
  case' true=>
   go_wp2_with fail;refine Jj B.o ?_;clear B;rcases a6 with rfl|rfl|rfl
   case' inr.inl=>have e1:y=4:=j.o;subst e1;clear j;go_wp2_with fail;go_ret2;exact⟨s.o,.w ⟨by decide,I⟩⟩
   case' inr.inr=>have e1:y=6:=j.o;subst e1;clear j;go_wp2_with fail;go_ret2;exact⟨s.o,.w ⟨by decide,I⟩⟩
   go_wp2_with fail;refine Jj C.o ?_;clear C;rcases ay with⟨rfl,n⟩|⟨k,x,rfl,H,n⟩
   .have e1:y=4:=by rw[j.o,n];rfl
    subst e1;clear n j;go_wp2_with fail;go_ret2;exact⟨s.o,.w ⟨by decide,I⟩⟩
   have aC:k<L:=by have:=(AN.1 H).1;rw[HL.o];exact this
   obtain⟨b,_,ae,Q⟩:=ah.o (λh=>by rw[h]at H;simp at H);subst ae;obtain⟨_,x1,_,_,_⟩:=Q k x H;have aP:(k:Int)<(L:Nat):=U;have aU:(0:Int)<=(k:Int):=U;have am:=J n;obtain⟨d,F⟩:=E x.d;rw[<-F]at x1;have Hd:=J F;clear Q H n F;cases d
   case' false=>
    have e1:y=6:=by rw[j.o,am.o];simp[<-Hd.o]
    subst e1;clear j;go_wp2_with fail;go_ret2;exact⟨s.o,.w ⟨by decide,I⟩⟩
   case' true=>have aB:Hid (y=0):=J (by rw[j.o,am.o];simp[<-Hd.o]);clear j am Hd;go_wp2_with fail
 all_goals
  go_loopw [10,11] (λv0 i wr=>∃k:Nat,k<=L/\i=.a k/\∃v,v=v0/\Hid (wr.ownsRow z 9 1 v (F7 (l.take k) p).length (Lf (F7 (l.take k) p)))/\Hid (Below z w wr)) (λ_ i _=>L-(intOf i).toNat)
  case atStart=>exact⟨0,by omega,I,_,I,J (by simpa[F7,Lf]using Af _ z 9 1),s⟩
  case round=>
   clear s;obtain⟨k,H,rfl,v,rfl,G,f⟩:=hrel;have aT:z<=wr.heap.size:=by rw[Hz.o];exact f.o.size
   by_cases aX:k<L
   .have ax:(k:Int)<(L:Nat):=U;have aU:(0:Int)<=(k:Int):=U;have aC:k<l.length:=Dz HL.o;obtain⟨x,o⟩:∃x,l[k]?=some x:=⟨_,AE aC⟩;have aA:=AY o;obtain⟨ho,aD⟩:=aK.o x aA;have ah:Eh wr _ l:=Hl.o.f (by rw[<-Hz.o];exact f.o);obtain⟨gb,_,ae,Q⟩:=ah (λh=>by rw[h]at o;simp at o);obtain⟨y0,_,_,_,_⟩:=Q k x o;have HT:Hid (l.take (k+1)=l.take k++[x]):=J (by rw[Al,o];rfl);have aH:=rJ (l.take k) p;have au:(F7 (l.take k) p).length<=1000:=by rw[Ac]at aH;omega
    have aI:gb<z:=by obtain⟨_,_,ac,aO⟩:=Hl.o (λh=>by rw[h]at o;simp at o);rw[ae]at ac;cases ac;rw[Hz.o];exact Am w _ (aO k x o).1
    obtain⟨_,hY⟩:=E (X x.c);rw[<-hY]at y0;have P:=J (V9 x.c wr aD);have Nn:=J (SU x.c wr aD);rw[ho,<-hY]at Nn;rw[<-hY]at P;obtain⟨q,T⟩:=E (par x.c);rw[<-T]at P;obtain⟨Zq,an⟩:=E (X q);rw[<-an]at P;have a9:(Zq.toList==g.toList)=decide (q=p):=by rw[an,M.o,Mn];rw[CB];simp
    have Hq:=J T;cases ae;clear Q o aA hY T an ah aH ho;by_cases af:q=p
    .have F:decide (q=p)=true:=EU af;rw[F]at a9;go_wp2_with fail;refine Jj P.o ?_;clear P;go_wp2_with fail;refine Nn.o.l ?_;rintro e V ⟨ag,_,rfl,a4⟩;have a2:=a4 trivial;obtain⟨m,hm⟩:∃m,(split x.c).length=m+1:=⟨(split x.c).length-1,by exact Dz (Bl.2 (Wi x.c))⟩;rw[hm]at a2;obtain⟨g2,_,rfl⟩:=Qa a2;obtain⟨S,hS⟩:=E (X (Kr x.c));have b0:V.cell? (O g2 m)=some (.string S):=by rw[a2.cellAt m U,hS];unfold Lf Kr;rw[BI,List.getLast?_eq_getElem?,hm];have aJ:m<(split x.c).length:=U;rw[show m+1-1=m by omega,AE aJ];rfl
     have ao:V.ownsRow z 9 1 v (F7 (l.take k) p).length (Lf (F7 (l.take k) p)):=own_below G.o ag (λq T=>(G.o.lt q T).2);have aa:Below z w V:=f.o.i (ag.l aT);have az:z<=V.heap.size:=Dz ag.size;obtain⟨rn,av⟩:=E (F7 (l.take k) p);rw[<-av]at ao au;have aW:=J av;have aw:=J ao;have ai:=J aa;have HS:=J hS;have i1:(((m+1:Nat):Nat):Int)-1=(m:Nat):=U;have i2:IntKind.i64.wrap (m:Int)=(m:Nat):=by
      rw[DX];have:=ai.o;have h9:m<=1048576:=by have aZ:=iH x.c;omega
      omega
     clear ag a4 a2 ao aa G f Nn av hS hm;go_wp2_with (at_builtin;refine Av _ I _ _ 40 I z 9 i0 (.string ByteArray.empty) 1 16 underlying40 hi aL aV aR I EB _ _ _ I (aw.o.alloc _) ⟨V.heap.size,0,none⟩ 1 1 [.string S] I I ?c1 ?c2 ?c3 ?c4 ?c5 ?_)
     case c1=>exact B9 _ _ _
     case c2=>intro u hu;simp at hu;subst hu;rfl
     case c3=>unfold maxLen;omega
     case c4=>omega
     case c5=>simp;omega
     intro v3 w3 a3 aE a8;have aS:Hid (w3.ownsRow z 9 1 v3 (F7 (l.take (k+1)) p).length (Lf (F7 (l.take (k+1)) p))):=J (by
      rw[HT.o,jc,AD (by rw[<-Hq.o];exact af),<-aW.o,AM];have:Lf (rn++[Kr x.c])=Lf rn++[.string S]:=by rw[HS.o];simp[Lf]
      rw[this];exact a3)
     have aM:Hid (Below z w w3):=J ((ai.o.alloc az _).C aE EL (λr hr=>(aw.o.lt r hr).1));clear a3 aE a8 aw ai;go_wp2_with fail;go_roundw
     case rel=>exact⟨k+1,by omega,by go_num,v3,I,aS,aM⟩
     case measure=>simp[intOf];omega
    have F:decide (q=p)=false:=EU af;rw[F]at a9;have aj:Hid (wr.ownsRow z 9 1 v (F7 (l.take (k+1)) p).length (Lf (F7 (l.take (k+1)) p))):=J (by rw[HT.o,jc,AC (by rw[<-Hq.o];exact af)];exact G.o)
    go_wp2_with fail;refine Jj P.o ?_;clear P;go_wp2_with fail;go_roundw
    case rel=>exact⟨k+1,by omega,by go_num,v,I,aj,f⟩
    case measure=>simp[intOf];omega
   have ax:¬(k:Int)<(L:Nat):=U;have aj:Hid (wr.ownsRow z 9 1 v (F7 l p).length (Lf (F7 l p))):=J (by have h:=G.o;rw[AT (Dz HL.o)]at h;exact h)
   clear G;go_wp2_with fail;go_ret2;exact⟨f.o,.s ⟨aB.o,v,I,aj.o⟩⟩
end
section
open Go.RowKit Go.Nt
theorem lZ:∀q:Bs,q.contains 47=false->split q=[q]
 | [],_=>rfl
 | c::cs,h=>by
   have a:c≠47/\cs.contains 47=false:=by
    simp at h |-;exact⟨λe=>h.1 e.A,h.2⟩
   unfold split;rw[AC a.1,lZ cs a.2]
theorem ka:∀q:Bs,Kr q=nm q
 | []=>rfl
 | c::cs=>by
   have o:=ka cs;by_cases h:cs.contains 47=true
   .have e:nm (c::cs)=nm cs:=by rw[nm,AD h]
    rw[e,<-o];have m:∃a b t,split cs=a::b::t:=by
     have:∀q:Bs,q.contains 47=true->∃a b t,split q=a::b::t:=by
      intro q
      induction q with
      |nil=>intro h;simp at h
      |cons d k l=>
        intro g;unfold split;by_cases i:d=47
        .rw[AD i];cases j:split k with
         |nil=>exact absurd j (Wi k)
         |cons a t=>exact⟨[],a,t,I⟩
        rw[AC i];have j:k.contains 47=true:=by
         simp at g |-;rcases g with g|g
         .exact absurd g.A i
         exact g
        obtain⟨a,b,t,e⟩:=l j;rw[e];exact⟨d::a,b,t,I⟩
     exact this cs h
    obtain⟨a,b,t,e⟩:=m;unfold Kr;rw[split,e];by_cases f:c=47
    .rw[AD f];simp
    rw[AC f];simp
   have n:cs.contains 47=false:=EU h
   have e:nm (c::cs)=if c=47 then cs else c::cs:=by rw[nm,AC h]
   rw[e];unfold Kr;rw[split,lZ cs n];by_cases f:c=47
   .rw[AD f,AD f];rfl
   rw[AC f,AC f];rfl
theorem ZO:∀q:Bs,(nm q).contains 47=false
 | []=>rfl
 | c::cs=>by
   unfold nm
   split
   .exact ZO cs
   rename_i h
   split
   .simpa using h
   rename_i a;simp at h |-;exact⟨λe=>a e.A,h⟩
theorem WH:∀q:Bs,q.contains 47=true->q=par q++47::nm q
 | [],h=>by simp at h
 | c::cs,h=>by
   by_cases a:cs.contains 47=true
   .unfold par nm;rw[AD a,AD a,Az,<-WH cs a]
   have b:c=47:=by
    simp at h a;rcases h with h|h
    .exact h.A
    exact absurd h a
   unfold par nm;rw[AC a,AC a,AD b,b];rfl
theorem kF(a b:Bs):∀p:Bs,less (p++a) (p++b)=less a b
 | []=>rfl
 |c::p=>by simp[less,kF a b p]
theorem X2:∀a b:Bs,a.contains 47=false->b.contains 47=false->less a b=true->a<=b
 | [],b,_,_,_=>List.nil_le b
 |a::xs,[],_,_,h=>by simp[less]at h
 | a::xs,b::ys,ha,hb,h=>by
   have c:a≠47/\xs.contains 47=false:=by simp at ha |-;exact⟨λe=>ha.1 e.A,ha.2⟩
   have d:b≠47/\ys.contains 47=false:=by simp at hb |-;exact⟨λe=>hb.1 e.A,hb.2⟩
   unfold less at h;by_cases e:a=b
   .rw[AD e]at h;subst e;exact List.cons_le_cons_iff.2 (.s ⟨I,X2 xs ys c.2 d.2 h⟩)
   rw[AC e]at h;have f:key a<key b:=EU h
   have g:a<b:=by
    unfold key at f;rw[AC c.1,AC d.1]at f;exact UInt8.lt_iff_toNat_lt.2 U
   exact List.le_of_lt (List.Lex.rel g)
theorem kX{q:Bs}(a:q.getD 0 0≠47)(h:par q=[]):q.contains 47=false:=by
 cases b:q.contains 47 with
 |false=>rfl
 |true=>have:=WH q b;rw[h]at this;rw[this]at a;exact absurd I a
theorem qD{x y p:Bs}(o:x.getD 0 0≠47)(q:y.getD 0 0≠47)(f:par x=p)(g:par y=p)(h:less x y=true):nm x<=nm y:=by
 by_cases j:p=[]
 .have k:=kX o (f.i j);have l:=kX q (g.i j);have b:nm x=x:=Yv (λi a e=>by
   have:x.contains 47=true:=by simp only[Bk];rw[AI,AE a]at e;simp at e;rw[<-e];exact Bn a
   rw[k]at this;cases this)
  have d:nm y=y:=Yv (λi a e=>by
   have:y.contains 47=true:=by simp only[Bk];rw[AI,AE a]at e;simp at e;rw[<-e];exact Bn a
   rw[l]at this;cases this)
  rw[b,d];exact X2 x y k l h
 have m:∀z:Bs,par z=p->z.contains 47=true:=λz r=>by
  cases e:z.contains 47 with
  |true=>rfl
  |false=>
   have:par z=[]:=by
    cases z with
    |nil=>rfl
    |cons c n=>
     unfold par;have:n.contains 47=false:=by simp at e |-;exact e.2
     rw[this];rfl
   exact absurd (r.A.i this) j
 have b:=WH x (m x f);have d:=WH y (m y g);rw[f]at b;rw[g]at d;rw[b,d,kF]at h;have:less (nm x) (nm y)=true:=by simpa[less]using h
 exact X2 _ _ (ZO x) (ZO y) this
theorem gh{x:It}(h:Es x=true):EO x.c=true:=by unfold Es at h;simp only[AV]at h;exact h.1.1.1.1.1.1
theorem eY{l:List It}(a:EX l)(p:Bs):Jt (Eg l) p=Ie l p/\F7 (Eg l) p=Iv l p:=by
 constructor
 .unfold Jt Ie;by_cases f:p=[]
  .rw[AD f,AD f]
  rw[AC f,AC f];unfold GZ Et FN;rw[UQ a.nodup];by_cases c:EO p=true
  .rw[AD c,AD c,Zb a.a p.length p (AB _) (Vf c)];have e:Ei (Eg l) p=Ei l p:=Vx a.nodup p _ _;rw[e];by_cases b:Ei l p=0
   .rw[AD b,AD b];cases at? l p with
    |none=>rfl
    |some x=>rfl
   rw[AC b,AC b,AC b]
  rw[AC c,AC c];simp
 unfold F7 Iv;have e1:((Eg l).filter λx=>decide (par x.c=p)).map (λx=>Kr x.c)=((Eg l).filter λx=>decide (par x.c=p)).map (λx=>nm x.c):=BO (λx _=>ka x.c);rw[e1];obtain⟨d,g⟩:=E (((Eg l).filter λx=>decide (par x.c=p)).map (λx=>nm x.c));have n:d.Perm (((l.map (·.c)).filter λq=>decide (par q=p)).map nm):=by rw[g,List.filter_map,Cj];exact((MQ l).filter _).map _
 have m:d.Pairwise (λx y=>x<=y):=by rw[g];refine CT.2 ?_;have s:(Eg l).Pairwise (λx y=>less x.c y.c=true):=Rl l a.nodup;refine(s.filter _).imp_of_mem (λ{x y} t u i=>?_);have j:=Ad.1 t;have k:=Ad.1 u;have o:=a.ok x (Eo.1 j.1);have r:=a.ok y (Eo.1 k.1);exact qD (Vf (gh o)) (Vf (gh r)) (EU j.2) (EU k.2) i
 rw[<-g,<-X1 n];unfold M1;refine(List.mergeSort_of_pairwise (m.imp (λh=>by simpa using h))).A
theorem we(w:Z)(n u lb k:Nat)(l:List It)(p:Bs)(h:IV w n u lb k)(q:EH w k l)(x:EX l)(b:ML w)(v:p.length<=1048576):Calls prog 15 #[.c n,.string (X p)] w λe w'=>Ko l p w e w':=by
 have c2:=h.c2;have A:=J (qG k l p w q x b v);obtain⟨_,j⟩:=E (X p);obtain⟨_,i⟩:=E (Ie l p);unfold Ko at A |-;rw[<-j,<-i]at A;rw[<-j,<-i];clear h q b j i;go_enter func15,ntmps15;go_wp2_with fail;refine A.o.l ?_;rintro e _ ⟨d,⟨m,rfl⟩|⟨o,_,rfl,g⟩⟩
 .have f:=J d;have t:=J m;clear d m;go_wp2_with fail;go_ret2;exact⟨f.o,.w ⟨t.o,I⟩⟩
 have f:=J d;have r:=J o;have s:=J g;obtain⟨a,c,rfl⟩:=Xb g;clear d o g;go_wp2_with fail;go_ret2;exact⟨f.o,.s ⟨r.o,_,I,s.o⟩⟩
variable {R:Ending->Z->Prop}
def Ga(R:Ending->Z->Prop)(e:Ending)(w:Z):Prop:=(∃x:Int,e=.a (.a x))/\R e w
theorem Yz(b:Nat)(z0 d:Nat)(a:ByteArray)(c:ByteArray)(w:Z)(g:w.cell? (O z0 0)=some (.string a))(i:w.cell? (O d 0)=some (.string c))(A:Calls prog 93 #[.e b,.string a,.string c] w λe w'=>Ga R e w'):Calls prog 92 #[.e b,.c z0,.c d] w λe w'=>Ga R e w':=by have H:=J A;clear A;go_enter func92,ntmps92;go_wp2_with fail;refine H.o.l ?_;rintro e w' ⟨⟨x,rfl⟩,h⟩;have f:=J h;clear h H;go_wp2_with fail;go_ret;exact⟨⟨x,I⟩,f.o⟩
theorem Y9(k:Nat)(a:ByteArray)(c:ByteArray)(w:Z)(A:∀W,Below w.heap.size w W->W.heap[w.heap.size]?=some (.cells #[.string a] 9 (0,0))->W.heap[w.heap.size+1]?=some (.cells #[.string c] 9 (0,0))->Calls prog 89 #[.c k,.func (.func 92) #[] #[.c w.heap.size,.c (w.heap.size+1)]] W λe w'=>Ga R e w'):Calls prog 51 #[.c k,.string a,.string c] w λe w'=>Ga R e w':=by
 have p:∀(l:Fn) (first b:Array Value) (w:Z),(Instr.makeFunc l first b).run prog w=.ok (.func l first b) w:=λ_ _ _ _=>rfl;obtain⟨j,e1⟩:∃W,W=w.alloc (.cells #[.string a] 9):=⟨_,I⟩;obtain⟨d,e2⟩:∃W,W=j.alloc (.cells #[.string c] 9):=⟨_,I⟩;have f:=Ia e1;have g:=JK e1;have q1:=Gi e1;have o:=Ia e2 f;have i:Below w.heap.size w d:=by rw[e2];exact g.a U
 have q2:=Gi e2 f;have H:=J (A d i ((e2 ▸ Jm (by omega):d.heap[w.heap.size]?=j.heap[w.heap.size]?).i q1) q2);have n:Hid (d=(w.alloc (.cells #[.string a] 9)).alloc (.cells #[.string c] 9)):=J (by rw[e2,e1]);clear A e1 q1 g f e2 q2 i o;go_enter func51,ntmps51;go_wp2_with rw[<-n.o];refine H.o.l ?_;rintro e w' ⟨⟨x,rfl⟩,h⟩;have m:=J h;clear h H;go_wp2_with fail;go_ret;exact⟨⟨x,I⟩,m.o⟩
theorem TL(b:Nat)(z0 f g:Nat)(a:ByteArray)(c:Int)(d:ByteArray)(w:Z)(j:w.cell? (O z0 0)=some (.string a))(k:w.cell? (O f 0)=some (.a c))(l:w.cell? (O g 0)=some (.string d))(A:Calls prog 214 #[.e b,.string a,.a c,.string d] w λe w'=>Ga R e w'):Calls prog 213 #[.e b,.c z0,.c f,.c g] w λe w'=>Ga R e w':=by have H:=J A;clear A;go_enter func213,ntmps213;go_wp2_with fail;refine H.o.l ?_;rintro e w' ⟨⟨x,rfl⟩,h⟩;have i:=J h;clear h H;go_wp2_with fail;go_ret;exact⟨⟨x,I⟩,i.o⟩
theorem Tm(o:Nat)(a:ByteArray)(c:Int)(d:ByteArray)(w:Z)(A:∀W,Below w.heap.size w W->W.heap[w.heap.size]?=some (.cells #[.string a] 9 (0,0))->W.heap[w.heap.size+1]?=some (.cells #[.a c] 3 (0,0))->W.heap[w.heap.size+2]?=some (.cells #[.string d] 9 (0,0))->Calls prog 89 #[.c o,.func (.func 213) #[] #[.c w.heap.size,.c (w.heap.size+1),.c (w.heap.size+2)]] W λe w'=>Ga R e w'):Calls prog 165 #[.c o,.string a,.a c,.string d] w λe w'=>Ga R e w':=by
 have t:∀(p:Fn) (first g:Array Value) (w:Z),(Instr.makeFunc p first g).run prog w=.ok (.func p first g) w:=λ_ _ _ _=>rfl;obtain⟨n,e1⟩:∃W,W=w.alloc (.cells #[.string a] 9):=⟨_,I⟩;obtain⟨b,e2⟩:∃W,W=n.alloc (.cells #[.a c] 3):=⟨_,I⟩;obtain⟨f,e3⟩:∃W,W=b.alloc (.cells #[.string d] 9):=⟨_,I⟩;have i:=Ia e1;have k:=JK e1;have q1:=Gi e1;have j:=Ia e2 i;have l:Below w.heap.size w b:=by rw[e2];exact k.a U
 have q2:=Gi e2 i;have s:=Ia e3 j;have m:Below w.heap.size w f:=by rw[e3];exact l.a U
 have q3:=Gi e3 j;have H:=J (A f m ((e3 ▸ Jm (by omega):f.heap[w.heap.size]?=b.heap[w.heap.size]?).i ((e2 ▸ Jm (by omega):b.heap[w.heap.size]?=n.heap[w.heap.size]?).i q1)) ((e3 ▸ Jm (by omega):f.heap[w.heap.size+1]?=b.heap[w.heap.size+1]?).i q2) q3);have r:Hid (f=((w.alloc (.cells #[.string a] 9)).alloc (.cells #[.a c] 3)).alloc (.cells #[.string d] 9)):=J (by rw[e3,e2,e1]);clear A e1 q1 k i e2 q2 l j e3 q3 m s;go_enter func165,ntmps165;go_wp2_with rw[<-r.o];refine H.o.l ?_;rintro e w' ⟨⟨x,rfl⟩,h⟩;have q:=J h;clear h H;go_wp2_with fail;go_ret;exact⟨⟨x,I⟩,q.o⟩
theorem Xq(b:Nat)(z0 d:Nat)(a:ByteArray)(c:Int)(w:Z)(g:w.cell? (O z0 0)=some (.string a))(i:w.cell? (O d 0)=some (.a c))(A:Calls prog 216 #[.e b,.string a,.a c] w λe w'=>Ga R e w'):Calls prog 215 #[.e b,.c z0,.c d] w λe w'=>Ga R e w':=by have H:=J A;clear A;go_enter func215,ntmps215;go_wp2_with fail;refine H.o.l ?_;rintro e w' ⟨⟨x,rfl⟩,h⟩;have f:=J h;clear h H;go_wp2_with fail;go_ret;exact⟨⟨x,I⟩,f.o⟩
theorem Xx(k:Nat)(a:ByteArray)(c:Int)(w:Z)(A:∀W,Below w.heap.size w W->W.heap[w.heap.size]?=some (.cells #[.string a] 9 (0,0))->W.heap[w.heap.size+1]?=some (.cells #[.a c] 3 (0,0))->Calls prog 89 #[.c k,.func (.func 215) #[] #[.c w.heap.size,.c (w.heap.size+1)]] W λe w'=>Ga R e w'):Calls prog 166 #[.c k,.string a,.a c] w λe w'=>Ga R e w':=by
 have p:∀(l:Fn) (first b:Array Value) (w:Z),(Instr.makeFunc l first b).run prog w=.ok (.func l first b) w:=λ_ _ _ _=>rfl;obtain⟨j,e1⟩:∃W,W=w.alloc (.cells #[.string a] 9):=⟨_,I⟩;obtain⟨d,e2⟩:∃W,W=j.alloc (.cells #[.a c] 3):=⟨_,I⟩;have f:=Ia e1;have g:=JK e1;have q1:=Gi e1;have o:=Ia e2 f;have i:Below w.heap.size w d:=by rw[e2];exact g.a U
 have q2:=Gi e2 f;have H:=J (A d i ((e2 ▸ Jm (by omega):d.heap[w.heap.size]?=j.heap[w.heap.size]?).i q1) q2);have n:Hid (d=(w.alloc (.cells #[.string a] 9)).alloc (.cells #[.a c] 3)):=J (by rw[e2,e1]);clear A e1 q1 g f e2 q2 i o;go_enter func166,ntmps166;go_wp2_with rw[<-n.o];refine H.o.l ?_;rintro e w' ⟨⟨x,rfl⟩,h⟩;have m:=J h;clear h H;go_wp2_with fail;go_ret;exact⟨⟨x,I⟩,m.o⟩
theorem SJ(b:Nat)(z0:Nat)(a:ByteArray)(w:Z)(d:w.cell? (O z0 0)=some (.string a))(A:Calls prog 218 #[.e b,.string a] w λe w'=>Ga R e w'):Calls prog 217 #[.e b,.c z0] w λe w'=>Ga R e w':=by have H:=J A;clear A;go_enter func217,ntmps217;go_wp2_with fail;refine H.o.l ?_;rintro e w' ⟨⟨x,rfl⟩,h⟩;have c:=J h;clear h H;go_wp2_with fail;go_ret;exact⟨⟨x,I⟩,c.o⟩
theorem S0(f:Nat)(a:ByteArray)(w:Z)(A:∀W,Below w.heap.size w W->W.heap[w.heap.size]?=some (.cells #[.string a] 9 (0,0))->Calls prog 89 #[.c f,.func (.func 217) #[] #[.c w.heap.size]] W λe w'=>Ga R e w'):Calls prog 167 #[.c f,.string a] w λe w'=>Ga R e w':=by have l:∀(g:Fn) (first b:Array Value) (w:Z),(Instr.makeFunc g first b).run prog w=.ok (.func g first b) w:=λ_ _ _ _=>rfl;obtain⟨d,e1⟩:∃W,W=w.alloc (.cells #[.string a] 9):=⟨_,I⟩;have k:=Ia e1;have c:=JK e1;have q1:=Gi e1;have H:=J (A d c q1);have j:Hid (d=w.alloc (.cells #[.string a] 9)):=J (by rw[e1]);clear A e1 q1 c k;go_enter func167,ntmps167;go_wp2_with rw[<-j.o];refine H.o.l ?_;rintro e w' ⟨⟨x,rfl⟩,h⟩;have i:=J h;clear h H;go_wp2_with fail;go_ret;exact⟨⟨x,I⟩,i.o⟩
theorem VG(b:Nat)(z0 f g:Nat)(a:ByteArray)(c:Int)(d:Int)(w:Z)(j:w.cell? (O z0 0)=some (.string a))(k:w.cell? (O f 0)=some (.a c))(l:w.cell? (O g 0)=some (.a d))(A:Calls prog 220 #[.e b,.string a,.a c,.a d] w λe w'=>Ga R e w'):Calls prog 219 #[.e b,.c z0,.c f,.c g] w λe w'=>Ga R e w':=by have H:=J A;clear A;go_enter func219,ntmps219;go_wp2_with fail;refine H.o.l ?_;rintro e w' ⟨⟨x,rfl⟩,h⟩;have i:=J h;clear h H;go_wp2_with fail;go_ret;exact⟨⟨x,I⟩,i.o⟩
theorem VZ(o:Nat)(a:ByteArray)(c:Int)(d:Int)(w:Z)(A:∀W,Below w.heap.size w W->W.heap[w.heap.size]?=some (.cells #[.string a] 9 (0,0))->W.heap[w.heap.size+1]?=some (.cells #[.a c] 3 (0,0))->W.heap[w.heap.size+2]?=some (.cells #[.a d] 3 (0,0))->Calls prog 89 #[.c o,.func (.func 219) #[] #[.c w.heap.size,.c (w.heap.size+1),.c (w.heap.size+2)]] W λe w'=>Ga R e w'):Calls prog 168 #[.c o,.string a,.a c,.a d] w λe w'=>Ga R e w':=by
 have t:∀(p:Fn) (first g:Array Value) (w:Z),(Instr.makeFunc p first g).run prog w=.ok (.func p first g) w:=λ_ _ _ _=>rfl;obtain⟨n,e1⟩:∃W,W=w.alloc (.cells #[.string a] 9):=⟨_,I⟩;obtain⟨b,e2⟩:∃W,W=n.alloc (.cells #[.a c] 3):=⟨_,I⟩;obtain⟨f,e3⟩:∃W,W=b.alloc (.cells #[.a d] 3):=⟨_,I⟩;have i:=Ia e1;have k:=JK e1;have q1:=Gi e1;have j:=Ia e2 i;have l:Below w.heap.size w b:=by rw[e2];exact k.a U
 have q2:=Gi e2 i;have s:=Ia e3 j;have m:Below w.heap.size w f:=by rw[e3];exact l.a U
 have q3:=Gi e3 j;have H:=J (A f m ((e3 ▸ Jm (by omega):f.heap[w.heap.size]?=b.heap[w.heap.size]?).i ((e2 ▸ Jm (by omega):b.heap[w.heap.size]?=n.heap[w.heap.size]?).i q1)) ((e3 ▸ Jm (by omega):f.heap[w.heap.size+1]?=b.heap[w.heap.size+1]?).i q2) q3);have r:Hid (f=((w.alloc (.cells #[.string a] 9)).alloc (.cells #[.a c] 3)).alloc (.cells #[.a d] 3)):=J (by rw[e3,e2,e1]);clear A e1 q1 k i e2 q2 l j e3 q3 m s;go_enter func168,ntmps168;go_wp2_with rw[<-r.o];refine H.o.l ?_;rintro e w' ⟨⟨x,rfl⟩,h⟩;have q:=J h;clear h H;go_wp2_with fail;go_ret;exact⟨⟨x,I⟩,q.o⟩
theorem mL(b:Nat)(z0:Nat)(a:ByteArray)(w:Z)(d:w.cell? (O z0 0)=some (.string a))(A:Calls prog 91 #[.e b,.string a] w λe w'=>Ga R e w'):Calls prog 90 #[.e b,.c z0] w λe w'=>Ga R e w':=by have H:=J A;clear A;go_enter func90,ntmps90;go_wp2_with fail;refine H.o.l ?_;rintro e w' ⟨⟨x,rfl⟩,h⟩;have c:=J h;clear h H;go_wp2_with fail;go_ret;exact⟨⟨x,I⟩,c.o⟩
theorem tw(f:Nat)(a:ByteArray)(w:Z)(A:∀W,Below w.heap.size w W->W.heap[w.heap.size]?=some (.cells #[.string a] 9 (0,0))->Calls prog 89 #[.c f,.func (.func 90) #[] #[.c w.heap.size]] W λe w'=>Ga R e w'):Calls prog 48 #[.c f,.string a] w λe w'=>Ga R e w':=by have l:∀(g:Fn) (first b:Array Value) (w:Z),(Instr.makeFunc g first b).run prog w=.ok (.func g first b) w:=λ_ _ _ _=>rfl;obtain⟨d,e1⟩:∃W,W=w.alloc (.cells #[.string a] 9):=⟨_,I⟩;have k:=Ia e1;have c:=JK e1;have q1:=Gi e1;have H:=J (A d c q1);have j:Hid (d=w.alloc (.cells #[.string a] 9)):=J (by rw[e1]);clear A e1 q1 c k;go_enter func48,ntmps48;go_wp2_with rw[<-j.o];refine H.o.l ?_;rintro e w' ⟨⟨x,rfl⟩,h⟩;have i:=J h;clear h H;go_wp2_with fail;go_ret;exact⟨⟨x,I⟩,i.o⟩
theorem VL(b:Nat)(z0 d:Nat)(a:ByteArray)(c:ByteArray)(w:Z)(g:w.cell? (O z0 0)=some (.string a))(i:w.cell? (O d 0)=some (.string c))(A:Calls prog 222 #[.e b,.string a,.string c] w λe w'=>Ga R e w'):Calls prog 221 #[.e b,.c z0,.c d] w λe w'=>Ga R e w':=by have H:=J A;clear A;go_enter func221,ntmps221;go_wp2_with fail;refine H.o.l ?_;rintro e w' ⟨⟨x,rfl⟩,h⟩;have f:=J h;clear h H;go_wp2_with fail;go_ret;exact⟨⟨x,I⟩,f.o⟩
theorem Ui(k:Nat)(a:ByteArray)(c:ByteArray)(w:Z)(A:∀W,Below w.heap.size w W->W.heap[w.heap.size]?=some (.cells #[.string a] 9 (0,0))->W.heap[w.heap.size+1]?=some (.cells #[.string c] 9 (0,0))->Calls prog 89 #[.c k,.func (.func 221) #[] #[.c w.heap.size,.c (w.heap.size+1)]] W λe w'=>Ga R e w'):Calls prog 169 #[.c k,.string a,.string c] w λe w'=>Ga R e w':=by
 have p:∀(l:Fn) (first b:Array Value) (w:Z),(Instr.makeFunc l first b).run prog w=.ok (.func l first b) w:=λ_ _ _ _=>rfl;obtain⟨j,e1⟩:∃W,W=w.alloc (.cells #[.string a] 9):=⟨_,I⟩;obtain⟨d,e2⟩:∃W,W=j.alloc (.cells #[.string c] 9):=⟨_,I⟩;have f:=Ia e1;have g:=JK e1;have q1:=Gi e1;have o:=Ia e2 f;have i:Below w.heap.size w d:=by rw[e2];exact g.a U
 have q2:=Gi e2 f;have H:=J (A d i ((e2 ▸ Jm (by omega):d.heap[w.heap.size]?=j.heap[w.heap.size]?).i q1) q2);have n:Hid (d=(w.alloc (.cells #[.string a] 9)).alloc (.cells #[.string c] 9)):=J (by rw[e2,e1]);clear A e1 q1 g f e2 q2 i o;go_enter func169,ntmps169;go_wp2_with rw[<-n.o];refine H.o.l ?_;rintro e w' ⟨⟨x,rfl⟩,h⟩;have m:=J h;clear h H;go_wp2_with fail;go_ret;exact⟨⟨x,I⟩,m.o⟩
def Kv(l:List It)(p:Bs):Int:=if FN l p=0 then(if(at? l p).isSome then 5 else if 60<=l.length then 8 else 0)else FN l p
def Ii(p:Bs):It:=⟨p,true,[],0,0⟩
theorem F0.yes{b:Nat}{l a:List It}{w W w':Z}(c:Below w.heap.size w W)(d:EH w' b a)(e:FL b W w'):F0 b l a 0 w (.a (.a 0)) w':=⟨I,(FL.of_below c).i e,d⟩
theorem oG(b:Nat)(l:List It)(p:Bs)(w:Z)(j:EH w b l)(D:EX l)(d:ML w)(C:p.length<=1048576):Calls prog 218 #[.e b,.string (X p)] w λe w'=>F0 b l (En l (Ii p)) (Kv l p) w e w':=by
 have K:=j.lt;have y:=D.nodup;have N:=D.len;obtain⟨n,A⟩:=E (FN l p);obtain⟨_,m⟩:=E (X p);have f:=J (YX b l p w j d C);have q:=J (λW (h:EH W b l)=>Tp b l p ⟨true,[],0,0⟩ W h y U C);have H:=J (λW (h:EH W b l)=>kh b l W h y);unfold Kv;rw[<-A]at f |-;rw[<-m]at f q |-;have g:=J j;have r:=J m;clear j d m A;go_enter func218,ntmps218;go_wp2_with fail;refine f.o.l ?_;rintro e M ⟨k,rfl⟩;have i:=J (g.o.f k K);have a:=J k;clear k f;by_cases z:n=0
 .subst z;have v:=J (λo=>i.o.y (w':=M.alloc o) (Jm i.o.lt));cases B:at? l p with
  |some x=>have c:=(i.o.b (p:=p) Fs B).1;unfold Gm at c;rw[<-r.o]at c;go_wp2;go_ret;exact F0.no EB g.o (a.o.a a.o.size)
  |none=>
   have c:=(i.o.c (p:=p) Fs B).1;unfold Gm at c;rw[<-r.o]at c;go_wp2_with fail;refine(H.o _ (v.o _)).l ?_;rintro e w' ⟨rfl,F⟩;have L:=F.A;subst L;clear F;by_cases P:60<=l.length
   .go_wp2;go_ret;exact F0.no EB g.o (a.o.a a.o.size)
   have s:=J (q.o _ (v.o (.cells #[.bool false,.string (X []),.a 0,.a 0] 117)));unfold Gm at s;go_wp2_with fail;refine s.o.l ?_;rintro e _ ⟨rfl,u,t⟩;have G:=J (F0.yes (l:=l) (a.o.a a.o.size) u t);clear u t;go_wp2;go_ret;exact G.o
 go_wp2;go_ret;exact F0.no z g.o a.o
def LU(l:List It)(p:Bs)(a c:Int):Int:=if Gu a&&Gt c then Et l p else 1
def Mf(l:List It)(p:Bs)(a c:Int):It:=Lw p ⟨(GZ l p).d,(GZ l p).data,a,c⟩
theorem tQ(b:Nat)(l:List It)(p:Bs)(a c:Int)(w:Z)(v:EH w b l)(Q:EX l)(n:ML w)(P:p.length<=1048576):Calls prog 220 #[.e b,.string (X p),.a a,.a c] w λe w'=>F0 b l (En l (Mf l p a c)) (LU l p a c) w e w':=by
 have B:=v.lt;have i:=Q.nodup;have d:=Q.len;have g:=J (λW=>kK a W);have k:=J (λW=>jd c W);have d:=J (Ua b l p w v n P);have f:=J (λW (h:EH W b l)=>Tp b l p ⟨(GZ l p).d,(GZ l p).data,a,c⟩ W h i U P);unfold LU Mf;obtain⟨z,H⟩:=E (Et l p);obtain⟨q,L⟩:=E (X p);obtain⟨⟨u,C,y,t⟩,K⟩:∃N,N=GZ l p:=⟨_,I⟩;rw[<-K]at d f |-;unfold Gm at d f;dsimp only at d f |-;obtain⟨A,M⟩:∃q,q=X C:=⟨_,I⟩;rw[<-H]at d |-;rw[<-L]at d f |-;rw[<-M]at d f;have m:=J v;clear v n L H M K;cases j:Gu a<;>rw[j]at g
 .go_enter func220,ntmps220;go_wp2_with (first|(go_at_call 119;refine zJ (g.o _) ?_));go_ret;exact F0.no EB m.o (AP _ _)
 cases s:Gt c<;>rw[s]at k
 .go_enter func220,ntmps220;go_wp2_with (first|(go_at_call 119;refine zJ (g.o _) ?_)|(go_at_call 120;refine zJ (k.o _) ?_));go_ret;exact F0.no EB m.o (AP _ _)
 go_enter func220,ntmps220;go_wp2_with (first|(go_at_call 119;refine zJ (g.o _) ?_)|(go_at_call 120;refine zJ (k.o _) ?_)|fail);refine d.o.l ?_;rintro e o ⟨j,rfl⟩;have H:=j.size;have L:=J (m.o.f j B);have v:=J j;obtain⟨x,i⟩:=E (o.alloc (.cells #[.bool u,.string A,.a y,.a t] 117));have q2:=Gi i;have t:w.b x:=by rw[i];exact j.a
 have K:=Ia i;by_cases G:z=0
 .subst G;obtain⟨T,s⟩:∃W,W=x.setCell (O o.s 2) (.a a):=⟨_,I⟩;obtain⟨r,u⟩:∃W,W=T.setCell (O o.s 3) (.a c):=⟨_,I⟩;have q4:=Qe u (Qe s q2);simp only[Ar,CL,CM]at q4;have y:w.b r:=by rw[u,s];exact(t.c EL).c EL
  have C:EH r b l:=m.o.y (y.u b B);have V:=J (f.o r C);have R:=J y;obtain⟨c0,c1,c2,c3,f0,f1,f2,f3⟩:=four q2;obtain⟨d0,d1,d2,d3,_,_,_,_⟩:=four q4;have D:=J i;have n:Hid (r=(x.setCell (O o.s 2) (.a a)).setCell (O o.s 3) (.a c)):=J (by rw[u,s]);clear j i s u q2 q4 t y C d f g k;go_wp2_with (first|(rw[<-n.o])|(rw[<-D.o])|fail);refine V.o.l ?_;rintro e _ ⟨rfl,F,D⟩;have S:=J (F0.yes (l:=l) R.o F D);clear F D;go_wp2;go_ret;exact S.o
 have F:=J t;clear j i q2 t d f g k;go_wp2;go_ret;exact F0.no G m.o (v.o.a)
theorem jo{P:Program}(w:Z)(k x y d:TypeId)(g o c e:Nat)(s:ByteArray)(a:Array Value)(t:TypeId)(n:Nat)(r:n=min s.size c) (v:P.underlying k=some (.slice d)) (u:(P.info? d).map (·.size)=some 1) (q:w.heap[g]?=some (.cells a t (0,0))) (f:o+n<=a.size):(Builtin.copy_ #[k,x] y #[.slice (some (O g o)) c e,.string s]).run P w = .ok (goInt n) (w.setRow g (a.toList.take o++Go.Lib.byteCells (s.data.toList.take n)++a.toList.drop (o+n)).toArray):=by
 have j:(Go.Lib.byteCells (s.data.toList.take n)).length=n:=by rw[Go.Lib.byteCells_length,Ac,<-Go.Lib.size_eq];omega
 have h:=run_storeCells_at P g o t (Go.Lib.byteCells (s.data.toList.take n)) 0 a w q (by rw[j];simpa using f) (Go.Lib.byteCells_one _);have m:Nat.min s.size c=n:=r.A;have p:List.take n (List.map (λb:UInt8=>Value.int IntKind.u8 (b.toNat:Int)) s.data.toList)=Go.Lib.byteCells (s.data.toList.take n):=by unfold Go.Lib.byteCells;rw[List.map_take]
 rw[j]at h;simp only[Bq]at h;cases l:P.info? d with
 |none=>simp[l]at u
 |some i=>simp[Builtin.copy_,C7 v,Builtin.lenOf,Builtin.firstCells,sizeOf,typeInfo,l,m];rw[p,h];simp[Result.andThen]
def sizedB(d:Bs)(n:Nat):Bs:=d.take n++List.replicate (n-d.length) 0
theorem ik(n k:Nat):(madeCells #[Value.int .u8 0] n).toList.drop k=Go.Lib.byteCells (List.replicate (n-k) 0):=by
 apply List.ext_getElem
 .simp[madeCells,Go.Lib.byteCells_length]
 intro i _ _;simp[madeCells,Go.Lib.byteCells,Nat.mod_one]
theorem gM(d:Bs)(n:Nat)(w:Z)(j:n<=4000):Calls prog 264 #[.string (X d),.a n] w λe w'=>e=.a (.b w.heap.size n n)/\w'=w.alloc (.cells (Go.Lib.byteCells (sizedB d n)).toArray 5):=by
 have i:=λW=>Cn (P:=prog) 111 5 (.f 0) 1 underlying111 IM I .i64 .i64 n U U W;obtain⟨k,a⟩:=E (min (X d).size n);have c:k=min d.length n:=by rw[a,EF]
 have f:=λh=>jo (P:=prog) (w.a (madeCells #[.f 0] n) 5) 111 9 h 5 w.s 0 n n (X d) _ 5 k a underlying111 EG (AR _ _) (by rw[size_madeCells];omega);have b:(List.take 0 (madeCells #[Value.int .u8 0] n).toList++Go.Lib.byteCells ((X d).data.toList.take k)++List.drop (0+k) (madeCells #[Value.int .u8 0] n).toList)=Go.Lib.byteCells (sizedB d n):=by rw[ik,DO,BB];unfold sizedB Go.Lib.byteCells;rw[Au,show(X d).data.toList=d from I,show n-(0+k)=n-d.length by omega,show List.take k d=List.take n d by rw[c,List.take_eq_take_iff];omega]
 rw[b,World.setRow_alloc_new]at f;obtain⟨_,g⟩:=E (X d);rw[<-g]at f |-;clear b a c g;go_enter func264,ntmps264;go_wp2;go_ret;exact⟨I,I⟩
theorem Vy(d:Bs)(n:Nat):(sizedB d n).length=n:=by unfold sizedB;simp;omega
theorem Zz{W:Z}{g cap:Nat}{bs:Bs}(h:W.heap[g]?=some (.cells (Go.Lib.byteCells bs).toArray 5 (0,0))):(convert 111 9 (.b g bs.length cap)).run prog W=.ok (.string (X bs)) W:=
 run_convert_bytes_back W 111 9 5 ⟨g,0,none⟩ cap bs underlying111 underlying5 underlying9 λj a=>by
  have:(⟨g,0,none⟩:Addr).add j=⟨g,j,none⟩:=by unfold Addr.add;split<;>simp_all
  rw[this,AU W g j _ 5 (0,0) h];simp[Go.Lib.byteCells,a]
def Nr(l:List It)(p:Bs)(n:Int):Int:=if n<0 then 1 else if FQ l p=0 then(if 4000<n then 8 else 0)else FQ l p
def JQ(l:List It)(p d:Bs):It:=Lw p ⟨(FU l p).d,d,(FU l p).a,(FU l p).b⟩
def P3(l:List It)(p:Bs)(n:Int):It:=JQ l p (sizedB (FU l p).data n.toNat)
theorem mI(b:Nat)(l:List It)(p:Bs)(n:Int)(w:Z)(x:EH w b l)(a:EX l)(o:ML w)(d:p.length<=1048576):Calls prog 216 #[.e b,.string (X p),.a n] w λe w'=>F0 b l (En l (P3 l p n)) (Nr l p n) w e w':=by
 have H:=x.lt;have f:=a.nodup;have c:=a.len;have a:=J (ZN b l p w x o d);have s:=J x;unfold Nr P3 JQ;by_cases V:n<0
 .rw[AD V];clear a;go_enter func216,ntmps216;go_wp2;go_ret;exact F0.no EB s.o (AP _ _)
 obtain⟨k,rfl⟩:=As (Int.not_lt.1 V);have c:=J (λW (h:EH W b l)=>Tp b l p ⟨(FU l p).d,sizedB (FU l p).data k,(FU l p).a,(FU l p).b⟩ W h f U d);obtain⟨C,P⟩:=E (FQ l p);obtain⟨r,R⟩:=E (X p);obtain⟨⟨m,q,v,i⟩,Q⟩:∃N,N=FU l p:=⟨_,I⟩;rw[<-Q]at a c |-;unfold Gm at a c;dsimp only[Int.toNat_natCast]at a c |-;have t:=J (λW (h:k<=4000)=>gM q k W h);have f:=J (λ(W:Z) g h=>Zz (W:=W) (g:=g) (cap:=k) (bs:=sizedB q k) h);rw[Vy]at f;obtain⟨D,S⟩:∃r,r=X q:=⟨_,I⟩;obtain⟨F,T⟩:=E (X (sizedB q k));rw[<-P]at a |-;rw[<-R]at a c |-;rw[<-S]at a t;rw[<-T]at c f;clear x o R P S Q T;go_enter func216,ntmps216;go_wp2_with fail;refine a.o.l ?_;rintro e y ⟨j,rfl⟩;have Q:=j.size;obtain⟨u,d⟩:=E (y.alloc (.cells #[.bool m,.string D,.a v,.a i] 117));have q2:=Gi d;have i:Below w.heap.size w u:=by rw[d];exact j.a
 have A:=Ia d;have L:=J i;have B:=J d;obtain⟨c0,c1,c2,c3,f0,f1,f2,f3⟩:=four q2;by_cases M:C=0
 .subst M;by_cases R:(4000:Int)<(k:Nat)
  .clear j d q2 i a c t f;go_wp2_with rw[<-B.o];go_ret;exact F0.no EB s.o L.o
  obtain⟨z,m⟩:∃W,W=u.alloc (.cells (Go.Lib.byteCells (sizedB q k)).toArray 5):=⟨_,I⟩;have S:=f.o z _ (Gi m A);have q3:=(m ▸ Jm (by omega):z.heap[y.heap.size]?=u.heap[y.heap.size]?).i q2;obtain⟨G,v⟩:∃W,W=z.setCell (O y.heap.size 1) (.string F):=⟨_,I⟩;have q4:=Qe v q3;simp only[Ar,CL,CM]at q4;have A:Below w.heap.size w G:=by rw[v,m];exact(i.a U).c EL
  have K:=J (c.o G (s.o.y (A.u b H)));have o:=J A;obtain⟨_,_,_,_,_,_,_,_⟩:=four q3;obtain⟨d0,d1,d2,d3,_,_,_,_⟩:=four q4;have P:=J m;have x:=J v;clear j d m v q2 q3 q4 i A a c f;go_wp2_with rw[<-B.o];refine(t.o u U).l ?_;rintro e w' ⟨rfl,m⟩;rw[<-P.o]at m;subst m;go_wp2_with rw[<-x.o];refine K.o.l ?_;rintro e _ ⟨rfl,H,K⟩;have v:=J (F0.yes (l:=l) o.o H K);clear H K;go_wp2;go_ret;exact v.o
 clear j d q2 i a c t f;go_wp2_with rw[<-B.o];go_ret;exact F0.no M s.o L.o
def Ja(l:List It)(p:Bs)(a:Int)(d:Bs):Int:=if a<0 then 1 else if FQ l p=0 then(if d=[]then 0 else if 4000-(d.length:Int)<a then 8 else 0)else FQ l p
def Gd(x:Bs)(a:Nat)(d:Bs):Bs:=(sizedB x (max x.length (a+d.length))).take a++d++(sizedB x (max x.length (a+d.length))).drop (a+d.length)
def LM(l:List It)(p:Bs)(a:Int)(d:Bs):List It:=if d=[]then l else En l (JQ l p (Gd (FU l p).data a.toNat d))
theorem gP(x:Bs)(a:Nat)(d:Bs):(Gd x a d).length=max x.length (a+d.length):=by unfold Gd;simp[Vy];omega
theorem xT{W W':Z}{g a:Nat}{bs d:Bs}(h:W.heap[g]?=some (.cells (Go.Lib.byteCells bs).toArray 5 (0,0)))(f:a+d.length<=bs.length)(e:W'=W.setRow g (Go.Lib.byteCells (bs.take a++d++bs.drop (a+d.length))).toArray):∀b c,(Builtin.copy_ #[111,9] b #[.slice (some (O g a)) (bs.length-a) c,.string (X d)]).run prog W=.ok (goInt d.length) W':=λb c=>by rw[jo (P:=prog) W 111 9 b 5 g a (bs.length-a) c (X d) _ 5 d.length (by rw[EF];omega) underlying111 EG h (by simp[Go.Lib.byteCells_length];omega),e];simp[Go.Lib.byteCells,List.map_take,List.map_drop,show(X d).data.toList=d from I]
theorem nO{l:List It}(a:EX l)(p:Bs):(FU l p).data.length<=4000:=by
 unfold FU;split
 .split
  .rename_i x b;exact(NR (a.ok x (Ji b).1)).d
  simp[PV]
 simp[PV]
theorem yj(b:Nat)(l:List It)(p:Bs)(a:Int)(d:Bs)(w:Z)(Q:EH w b l)(ht:EX l)(G:ML w)(hp:p.length<=1048576)(hd:d.length<=1048576):Calls prog 214 #[.e b,.string (X p),.a a,.string (X d)] w λe w'=>F0 b l (LM l p a d) (Ja l p a d) w e w':=by
 have ad:=Q.lt;have aB:=ht.nodup;have aK:=ht.len;have j:=J (ZN b l p w Q G hp);have y:=J Q;obtain⟨_,f⟩:=E (LM l p a d);obtain⟨_,hF⟩:=E (Ja l p a d);rw[<-f,<-hF];unfold Ja at hF;unfold LM JQ at f;by_cases hn:a<0
 .rw[AD hn]at hF;subst hF;clear j f;go_enter func214,ntmps214;go_wp2;go_ret;exact F0.no EB y.o (AP _ _)
 obtain⟨k,rfl⟩:=As (Int.not_lt.1 hn);rw[AC hn]at hF;have i:=J (λW (h:EH W b l)=>Tp b l p ⟨(FU l p).d,Gd (FU l p).data k d,(FU l p).a,(FU l p).b⟩ W h aB U hp);obtain⟨z0E,hE⟩:=E (FQ l p);obtain⟨o,hX⟩:=E (X p);obtain⟨D,P⟩:∃o,o=X d:=⟨_,I⟩;obtain⟨⟨xd,g,xm,xc⟩,hN⟩:∃N,N=FU l p:=⟨_,I⟩;rw[<-hN]at j i f;unfold Gm at j i;dsimp only[Int.toNat_natCast]at j i f;obtain⟨s,hY⟩:∃o,o=X g:=⟨_,I⟩;have V:Hid (D.size=d.length):=J (by rw[P,EF]);have an:Hid (s.size=g.length):=J (by rw[hY,EF]);have ar:Hid (g.length<=4000):=J (by have:=nO ht p;rw[<-hN]at this;exact this);have z:=J (λW m (h:m<=4000)=>gM g m W h);rw[<-hE]at j hF;rw[<-hX]at j i |-;rw[<-hY]at j z;rw[<-P];have R:=J P;have u:=J f;have t:=J hF;clear Q G hX hE hY hN P f hF;go_enter func214,ntmps214;go_wp2_with fail;refine j.o.l ?_;rintro e n ⟨x,rfl⟩;have aI:=x.size;obtain⟨H,q⟩:=E (n.alloc (.cells #[.bool xd,.string s,.a xm,.a xc] 117));have q2:=Gi q;have v:Below w.heap.size w H:=by rw[q];exact x.a
 have aw:=Ia q;have M:=J v;have L:=J q;obtain⟨c0,c1,c2,c3,f0,f1,f2,f3⟩:=four q2;clear j;by_cases h0:z0E=0
 .subst h0;have hF:=t.o;rw[AD I]at hF;by_cases C:d=[]
  .have f:=u.o;rw[AD C]at hF f;subst hF f;have af:D=⟨#[]⟩:=by rw[R.o,C];rfl
   subst af;clear x q q2 v i z t u;go_wp2_with rw[<-L.o];go_ret;exact⟨I,.of_below M.o,y.o.f M.o ad⟩
  have af:D.toList.isEmpty=false:=by rw[R.o,Mn];cases d with|nil=>exact absurd I C|cons c r=>rfl
  have f:=u.o;rw[AC C]at hF f;rw[<-V.o]at hF;have aJ:(D.size:Int)<=1048576:=Dz V.o;by_cases h4:(4000:Int)-(D.size:Nat)<(k:Nat)
  .rw[AD h4]at hF;subst hF;clear x q q2 v i z t u f;go_wp2_with rw[<-L.o];go_ret;exact F0.no EB y.o M.o
  rw[AC h4]at hF;subst hF;have aH:g.length<=4000:=ar.o;have aC:=an.o;have aA:=V.o;obtain⟨m,hm⟩:=E (max g.length (k+d.length));have aL:max (s.size:Int) ((k:Int)+(D.size:Nat))=(m:Nat):=U;have aG:(k:Int)<=(m:Nat):=U;have av:k<=m:=U;have aF:0<d.length:=Bl.2 C;have aD:¬m=k:=U;have aj:¬k=m:=U;have aE:=zW (x:=(k:Int)+(D.size:Nat));have ai:(sizedB g m).length=m:=Vy _ _;obtain⟨S,B⟩:∃W,W=H.alloc (.cells (Go.Lib.byteCells (sizedB g m)).toArray 5):=⟨_,I⟩;have q3:=(B ▸ Jm (by omega):S.heap[n.heap.size]?=H.heap[n.heap.size]?).i q2;have r3:=Gi B aw;obtain⟨A,F⟩:∃W,W=S.setRow (n.heap.size+1) (Go.Lib.byteCells (Gd g k d)).toArray:=⟨_,I⟩;have au:=xT (W':=A) (a:=k) (d:=d) r3 U (by rw[F];unfold Gd;rw[<-hm]);rw[ai,<-R.o]at au;have q4:A.heap[n.heap.size]?=_:=(by rw[F];exact setRow_other _ _ _ _ (by omega):A.heap[n.heap.size]?=S.heap[n.heap.size]?).i q3;have r4:A.heap[n.heap.size+1]?=some (.cells (Go.Lib.byteCells (Gd g k d)).toArray 5 (0,0)):=by rw[F];exact setRow_heap _ _ _ _ _ _ r3
  have ag:=Zz (cap:=m) r4;rw[gP,<-hm]at ag;obtain⟨z0Z,hZ⟩:=E (X (Gd g k d));rw[<-hZ]at ag i;obtain⟨W5,K⟩:∃W,W=A.setCell (O n.heap.size 1) (.string z0Z):=⟨_,I⟩;have q5:=Qe K q4;simp only[Ar,CL,CM]at q5;have T:Below w.heap.size w W5:=by rw[K,F,B];exact(below_setRow (v.a U) U _).c EL
  have ay:=J (i.o W5 (y.o.y (T.u b ad)));have H5:=J T;obtain⟨_,_,_,_,_,_,_,_⟩:=four q4;obtain⟨d0,d1,d2,d3,_,_,_,_⟩:=four q5;have am:=J B;have ao:=J K;have az:=J f;have ax:m<=4000:=U;clear x q q2 v i t u f B F K q3 q4 q5 r3 r4 hm hZ T aC aA ai;go_wp2_with rw[<-L.o];refine(z.o H m ax).l ?_;rintro e w' ⟨rfl,hw⟩;rw[<-am.o]at hw;subst hw;go_wp2_with rw[<-ao.o];refine ay.o.l ?_;rintro e _ ⟨rfl,ah,ae⟩;have H6:=J (F0.yes (l:=l) H5.o ah ae);clear ah ae;go_wp2;go_ret;rw[az.o];exact H6.o
 have hF:=t.o;rw[AC h0]at hF;subst hF;clear x q q2 v i z t u;go_wp2_with rw[<-L.o];go_ret;exact F0.no h0 y.o M.o
def GJ(l:List It)(p q:Bs):Int:=
 if EO p&&EO q then(if Et l p=0 then(if Ei l q=0 then(if(at? l q).isSome then 5 else if KJ q p then 7 else 0)else Ei l q)else Et l p)else 1
theorem yZ(b:Nat)(l:List It)(p q:Bs)(w:Z)(n:EH w b l)(a:ML w)(G:p.length<=1048576)(H:q.length<=1048576):Calls prog 265 #[.e b,.string (X p),.string (X q)] w λe w'=>Below w.heap.size w w'/\e=.a (.a (GJ l p q)):=by
 have t:=n.lt;have y:=J (λW (h:ML W)=>WX p W h G);have z:=J (λW (h:ML W)=>WX q W h H);have k:=J (λW (d:w.b W)=>Ua b l p W (n.f d t) (a.f d a.lt) G);have A:=J (λW (d:w.b W)=>Z8 b l q W (n.f d t) H);have B:=J (λW=>jW q p W H G);have K:=J (λW (d:w.b W) x c=>((n.f d t).b (p:=q) (x:=x) Fs c).1);have L:=J (λW (d:w.b W) c=>((n.f d t).c (p:=q) Fs c).1);have C:=J a;obtain⟨_,hF⟩:=E (GJ l p q);rw[<-hF];unfold GJ at hF;obtain⟨s,S⟩:=E (X p);obtain⟨_,T⟩:∃s,s=X q:=⟨_,I⟩;rw[<-S]at y k B |-;rw[<-T]at z A B K L |-;clear S T n a;obtain⟨V,o⟩:∃j,j=Et l p:=⟨_,I⟩;obtain⟨a,r⟩:∃j,j=Ei l q:=⟨_,I⟩;obtain⟨⟨S,d,T,M⟩,R⟩:∃N,N=GZ l p:=⟨_,I⟩;rw[<-o]at k hF;rw[<-r]at A hF;rw[<-R]at k;unfold Gm at k;dsimp only at k;generalize EO p=n at y hF;generalize EO q=D at z hF;have f:=J hF;clear o r R hF;go_enter func265,ntmps265;go_wp2_with fail;refine(y.o _ C.o).l ?_;rintro e _ ⟨Q,rfl⟩;have v:=J Q;clear Q;cases n
 .go_wp2;go_ret;exact⟨v.o,by rw[f.o];rfl⟩
 go_wp2_with fail;refine(z.o _ (C.o.f v.o C.o.lt)).l ?_;rintro e _ ⟨P,rfl⟩;have m:=J (v.o.i (P.l v.o.size));clear P;cases D
 .go_wp2;go_ret;exact⟨m.o,by rw[f.o];rfl⟩
 go_wp2_with fail;refine(k.o _ m.o).l ?_;rintro e _ ⟨D,rfl⟩;have u:=J ((m.o.i (D.l m.o.size)).a (o:=.cells #[.bool S,.string (X d),.a T,.a M] 117) (m.o.i (D.l m.o.size)).size);clear D;by_cases o:V=0
 .subst o;go_wp2_with fail;refine(A.o _ u.o).l ?_;rintro e _ ⟨M,rfl⟩;have g:=J (u.o.i (M.l u.o.size));clear M;by_cases r:a=0
  .subst r;cases c:at? l q with
   |some x=>have F:=K.o _ g.o x c;unfold Gm at F;go_wp2;go_ret;exact⟨g.o.a g.o.size,by rw[f.o,c];rfl⟩
   |none=>
    have F:=L.o _ g.o c;unfold Gm at F;go_wp2_with fail;refine zJ (B.o _) ?_;generalize KJ q p=i at f;cases i;all_goals
     go_wp2;go_ret;exact⟨g.o.a g.o.size,by rw[f.o,c];rfl⟩
  go_wp2;go_ret;exact⟨g.o,by rw[f.o];simp[r]⟩
 go_wp2;go_ret;exact⟨u.o,by rw[f.o];simp[o]⟩
variable {s r p q:Bs} {l m:List It} {ds:List Bs}
theorem XZ:∀(s r:Bs),(r++[47]) <+: s->par s=r\/(r++[47]) <+: par s
 | [],r,h=>by have:=h.length_le;simp at this
 | c::cs,[],h=>by
   obtain⟨t,b⟩:=h;simp at b;obtain⟨rfl,rfl⟩:=b;unfold par
   split
   .exact .s ⟨_,I⟩
   exact .w I
 | c::cs,a::r,h=>by
   rw[Az,List.cons_prefix_cons]at h;obtain⟨rfl,h⟩:=h;have d:cs.contains 47=true:=Bk.2 (h.subset EJ);unfold par;rw[AD d];rcases XZ cs r h with e|e
   .exact .w (by rw[e])
   exact .s (by rw[Az,List.cons_prefix_cons];exact⟨I,e⟩)
theorem GL:KJ s r=true↔(r++[47]) <+: s:=by unfold KJ;exact List.isPrefixOf_iff_prefix
theorem EX.closed{l:List It}(h:EX l){r:Bs}(d:r≠[]):∀(n:Nat) (y:It),y∈l->y.c.length<=n->KJ y.c r=true->∃z∈l,z.c=r
 |0,y,f,c,b=>by have:=(GL.1 b).length_le;simp at this;omega
 | n+1,y,f,c,b=>by
   have a:=XZ _ _ (GL.1 b);rcases h.up y f with e|e
   .rw[e]at a;rcases a with a|a
    .exact absurd a.A d
    have:=a.length_le;simp at this
   obtain⟨z,g,e1,_⟩:=Fv.1 e;rcases a with a|a
   .exact⟨z,g,e1.i a⟩
   refine h.closed d n z g ?_ (GL.2 (e1 ▸ a));rw[e1];have i:y.c≠[]:=λe0=>by rw[e0]at c b;have:=(GL.1 b).length_le;simp at this
   exact Dz (UM y.c i)
def Ft(p r:Bs):Bool:=decide (r=p)||KJ r p
def IQ(p q r:Bs):Bs:=q++r.drop p.length
def Lq(p q:Bs)(x:It):It:={x with c:=IQ p q x.c}
def Kf(p q:Bs)(ds:List Bs)(x:It):It:=if x.c∈ds then Lq p q x else x
def Im(l:List It)(p q:Bs):List It:=l.map λx=>if Ft p x.c then Lq p q x else x
theorem RS(h:Ft p r=true):r=p++r.drop p.length/\(r.drop p.length=[]\/∃t,r.drop p.length=47::t):=by
 unfold Ft at h;rw[Ce,BT]at h;rcases h with rfl|h
 .simp
 obtain⟨t,rfl⟩:=GL.1 h;simp
structure PL (l:List It) (p q:Bs):Prop where
 nd:(l.map (·.c)).Nodup
 new:∀x∈l,Ft p x.c=true->∀y∈l,y.c≠IQ p q x.c
theorem EX.mv(h:EX l)(d:q≠[])(b:at? l q=none):PL l p q where
 nd:=h.nodup
 new:=λ_ _ f y c e=>by
  obtain⟨_,a⟩:=RS f;unfold IQ at e;rcases a with a|⟨t,a⟩
  .rw[a,Br]at e;exact GN.1 b y c e
  obtain⟨z,g,e2⟩:=h.closed d _ y c (AB _) (GL.2 ⟨t,by rw[e,a];simp⟩);exact GN.1 b z g e2
theorem iY(a:Ft p r=true)(b:Ft p s=true)(h:IQ p q r=IQ p q s):r=s:=by rw[(RS a).1,(RS b).1,List.append_cancel_left h]
theorem PL.nodup(h:PL l p q)(ds:List Bs)(c:∀r∈ds,Ft p r=true):((l.map (Kf p q ds)).map (·.c)).Nodup:=by
 rw[Cj];have g:=h.nd;rw[List.nodup_iff_pairwise_ne,CT]at g |-;refine(List.pairwise_iff_forall_sublist.2 λ{x y} d=>?_);have i:x∈l:=d.subset EJ;have j:y∈l:=d.subset EJ;have f:=List.pairwise_iff_forall_sublist.1 g d;simp only[Function.comp,Kf];split<;>split
 .rename_i a b;exact λe=>f (iY (c _ a) (c _ b) e)
 .rename_i a b;exact λe=>h.new x i (c _ a) y j e.A
 .rename_i a b;exact λe=>h.new y j (c _ b) x i e
 exact f
theorem zG(d:(l.map (·.c)).Nodup)(c:(m.map (·.c)).Nodup)(h:∀y,y∈l↔y∈m)(r:Bs):at? l r=at? m r:=by
 cases e:at? l r with
 |none=>
  cases e2:at? m r with
  |none=>rfl
  |some y=>obtain⟨a,b⟩:=Ji e2;exact absurd b (GN.1 e y ((h y).2 a))
 |some x=>obtain⟨a,b⟩:=Ji e;rw[<-b];exact(at_mem c ((h x).1 a)).A
theorem EH.ext{w:Z}{b:Nat}(h:EH w b l)(d:∀r,at? l r=at? m r):EH w b m:=by obtain⟨D,a,c⟩:=h;exact⟨D,a,λr=>by rw[<-d r];exact c r⟩
theorem PL.step(h:PL l p q)(i:∀r∈ds,Ft p r=true){x:It}(d:x∈l)(j:Ft p x.c=true)(t:x.c∉ds):at? (l.map (Kf p q ds)) x.c=some x/\at? (En (l.map (Kf p q ds)) (Lq p q x)) x.c=some x /\ ∀r,at? ((En (l.map (Kf p q ds)) (Lq p q x)).filter λy=>decide (y.c≠x.c)) r=at? (l.map (Kf p q (ds++[x.c]))) r:=by
 have o:x∈l.map (Kf p q ds):=AZ.2 ⟨x,d,by unfold Kf;rw[AC t]⟩;have k:=h.nodup ds i;have n:x.c≠(Lq p q x).c:=h.new x d j x d;refine⟨at_mem k o,at_mem (TA k _) (mem_set.2 (.w ⟨o,n⟩)),zG (XK (TA k _) _) (h.nodup _ λr g=>?_) λy=>?_⟩
 .rcases Aj.1 g with g|g
  .exact i r g
  simp at g;rw[g];exact j
 rw[Ad,mem_set,BT];constructor
 .rintro⟨⟨s,_⟩|rfl,m⟩
  .obtain⟨z,f,rfl⟩:=AZ.1 s;refine AZ.2 ⟨z,f,?_⟩;unfold Kf at m |-;by_cases c:z.c∈ds
   .rw[AD c,AD (by simp[c])]
   rw[AC c]at m |-;rw[AC (by simp[c,m])]
  exact AZ.2 ⟨x,d,by unfold Kf;rw[AD EJ]⟩
 intro u;obtain⟨z,f,rfl⟩:=AZ.1 u;by_cases e:z.c=x.c
 .have:z=x:=by have a:=at_mem h.nd f;have b:=at_mem h.nd d;rw[e]at a;exact Cs (a.A.i b)
  subst this;unfold Kf;rw[AD EJ];exact⟨.s I,n.A⟩
 by_cases c:z.c∈ds
 .have e1:Kf p q (ds++[x.c]) z=Lq p q z:=by unfold Kf;rw[AD (by simp[c])]
  have e2:Kf p q ds z=Lq p q z:=by unfold Kf;rw[AD c]
  rw[e1];exact⟨.w ⟨AZ.2 ⟨z,f,e2⟩,λe3=>e (iY (i _ c) j e3)⟩,λe3=>h.new z f (i _ c) x d e3.A⟩
 have e1:Kf p q (ds++[x.c]) z=z:=by unfold Kf;rw[AC (by simp[c,e])]
 have e2:Kf p q ds z=z:=by unfold Kf;rw[AC c]
 rw[e1];exact⟨.w ⟨AZ.2 ⟨z,f,e2⟩,h.new x d j z f⟩,e⟩
theorem iB(h:∀x∈l,x.c∈ds↔Ft p x.c=true):l.map (Kf p q ds)=Im l p q:=by
 unfold Im;refine BO λx a=>?_;unfold Kf;by_cases c:Ft p x.c=true
 .rw[AD ((h x a).2 c),AD c]
 rw[AC (λe=>c ((h x a).1 e)),AC c]
theorem eN(v:Value)(l:List It)(B k:Nat)(w:Z)(R:w.ownsRow B 39 5 v l.length (FF l))(a:l.length<=1000)(c:k<l.length):Calls prog 162 #[v,.a k] w λe w'=>Below w.heap.size w w'/\∃v',e=.a v'/\w'.ownsRow w.heap.size 39 5 v' (l.length-1) (FF (l.take k++l.drop (k+1))):=by
 obtain⟨D,C,t,z,x⟩:=An KS;rcases PT R with⟨rfl,rfl⟩|⟨g,a,rfl,_,W,_,A,P⟩
 .simp at c
 unfold maxLen at A;have K:k<=a:=U;have b:(k:Int)<=(a:Nat):=U;have b:(k:Int)+1<=(l.length:Nat):=U;have d:k+1<=l.length:=U;have b:(k:Int)<=(l.length:Nat):=U;have L:=zW (x:=(k:Int)+1);have G:=J P;have T:=J W;clear P R;go_enter func162,ntmps162;go_wp2_with (at_builtin;refine Av _ I (.tmp 6) (.tmp 9) 26 I w.heap.size 39 D _ 5 56 underlying26 C t z x I EB _ 0 [] I (Af _ _ _ _) ⟨g,0,none⟩ k a (FF (l.take k)) I ?d1 ?d2 ?d3 ?d4 ?d5 ?d6 ?_)
 case d1=>rw[N5,Ac];omega
 case d2=>exact TB λj y b=>G.o j y (by rw[D8]at b;split at b<;>simp_all)
 case d3=>exact O8
 case d4=>unfold maxLen;omega
 case d5=>omega
 case d6=>omega
 intro _ H L K _;have m:w.b H:=(AP _ w).C K U (λq f=>by cases f);have S:Hid (∀k (y:It),l[k]?=some y->F6 H g (0+k*5) y):=J (λj y b=>(G.o j y b).f m T.o);have N:=J m;have i:=J L;have P:=m.size;have M:Hid (∀v' (o:Z) n,n=l.length-1->o.r w.heap.size 39 5 v' n (FF (l.take k)++FF (l.drop (k+1)))->o.r w.heap.size 39 5 v' (l.length-1) (FF (l.take k++l.drop (k+1)))):=J (λv' o n e h=>by rw[RU,<-e];exact h)
 clear K L m;by_cases V:a=k+1
 .have R:l.length=k+1:=U;go_wp2_with (at_builtin;refine Av _ I (.tmp 11) (.tmp 15) 26 I w.heap.size 39 D _ 5 56 underlying26 C t z x I EB _ _ _ I i.o _ _ _ (FF (l.drop (k+1))) I ?_ ?_ O8 ?_ ?_ ?_ ?_);all_goals first
   | (rw[N5,BX];omega)
   | (intro j u Q;rw[CU U]at Q;cases Q;done)
   | (unfold maxLen;omega)
   |omega
   |skip
  all_goals
   intro F p d c _;have s:=J (N.o.C c U (λq f=>(i.o.lt q f).1));have r:=J (M.o F p _ U d);clear d c;go_wp2;go_ret;exact⟨s.o,_,I,r.o⟩
 have m:¬k+1=a:=λe=>V e.A;go_wp2_with (at_builtin;refine Av _ I (.tmp 11) (.tmp 15) 26 I w.heap.size 39 D _ 5 56 underlying26 C t z x I EB _ _ _ I i.o ⟨g,(k+1)*5,none⟩ (l.length-(k+1)) (a-(k+1)) (FF (l.drop (k+1))) I ?d1 ?d2 O8 ?d4 ?d5 ?d6 ?_)
 case d1=>rw[N5,BX]
 case d2=>refine TB λj y b=>?_;rw[C4]at b;have:=S.o _ y b;rw[show 0+(k+1+j)*5=(k+1)*5+j*5 by omega]at this;exact this
 case d4=>unfold maxLen;omega
 case d5=>omega
 case d6=>omega
 intro F p d c _;have s:=J (N.o.C c U (λq f=>(i.o.lt q f).1));have r:=J (M.o F p _ U d);clear d c;go_wp2;go_ret;exact⟨s.o,_,I,r.o⟩
theorem gD(n:Nat)(w:Z)(d:n<=4000):Calls prog 212 #[.a n] w λe w'=>e=.a (.string (X (List.replicate n 0)))/\Below w.heap.size w w':=by
 have b:=λW=>Cn (P:=prog) 111 5 (.f 0) 1 underlying111 IM I .i64 .i64 n U U W;have a:madeCells #[Value.int .u8 0] n=(Go.Lib.byteCells (List.replicate n 0)).toArray:=by have:=ik n 0;rw[List.drop_zero,DC]at this;rw[<-this]
 rw[a]at b;have c:=Zz (W:=w.alloc (.cells (Go.Lib.byteCells (List.replicate n 0)).toArray 5)) (cap:=n) (AR _ _);rw[List.length_replicate]at c;clear a;go_enter func212,ntmps212;go_wp2;go_ret;exact⟨I,Iy⟩
theorem sk{p d:Bs}:KJ p d=(decide (d.length<p.length)&&(decide (p.take d.length=d)&&decide (p.getD d.length 0=47))):=by
 rw[CB,GL];simp only[AV,BT];constructor
 .rintro⟨t,rfl⟩;simp
 rintro⟨a,e,b⟩;refine⟨p.drop (d.length+1),?_⟩;have f:p.drop d.length=47::p.drop (d.length+1):=by rw[Ah a];rw[AI,AE a]at b;exact AX (· :: _) b
 have c:=CZ d.length p;rw[e,f]at c;simpa using c
theorem jw(p d:Bs)(w:Z)(u:p.length<=1048576)(s:d.length<=1048576):Calls prog 211 #[.string (X p),.string (X d)] w λe w'=>e=.a (.bool (KJ p d))/\w'=w:=by
 rw[sk];obtain⟨b,f⟩:=E (X p);obtain⟨a,g⟩:∃b,b=X d:=⟨_,I⟩;have i:b.size=p.length:=by rw[f,EF]
 have j:a.size=d.length:=by rw[g,EF]
 rw[<-f,<-g,<-i,<-j];have q:=J f;have r:=J g;have n:=J i;have o:=J j;have v:(b.size:Int)<=1048576:=U;have y:(a.size:Int)<=1048576:=U;by_cases c:a.size<b.size
 .have m:(a.size:Int)<(b.size:Nat):=U;have e1:((b.extract 0 a.size).toList==a.toList)=decide (p.take a.size=d):=by rw[f,g,Ka,Of,EF];simp
  have e2:∀h:a.size<b.size,b[a.size]'h=p.getD a.size 0:=λh=>by subst f;exact O0 p _ h
  have e3:=e2 c;clear f g i j e2;generalize p.take a.size=t at e1 |-;generalize p.getD a.size 0=x at e3 |-;have e4:(((b[a.size]'c).toNat:Int)==47)=decide (x=47):=by rw[e3,CB,Cu,BT];exact⟨λh=>BR.1 (by have:(47:UInt8).toNat=47:=I;omega),λh=>by rw[h];rfl⟩
  generalize decide (t=d)=k at e1 |-;generalize decide (x=47)=l at e4 |-;rw[Bj c,Bool.true_and];clear e3;cases k<;>cases l;all_goals
   go_enter func211,ntmps211;go_wp2;go_ret;exact⟨I,I⟩
 have m:¬(a.size:Int)<(b.size:Nat):=U;rw[BZ c,Bool.false_and];clear f g i j;go_enter func211,ntmps211;go_wp2;go_ret;exact⟨I,I⟩
end
end Go.Proofs.YtodmdkhdbfbfgaaGreatDoor
