/- Lemmas. -/
import Derived.Laws.OwnMore
import Derived.Test.YtodmdkhdbfbfgaaGreatDoorM22
set_option linter.unusedVariables false
set_option linter.unusedSimpArgs false
set_option maxRecDepth 100000
set_option maxHeartbeats 8000000
open Go.Proofs.Tryz
namespace Go.Proofs.YtodmdkhdbfbfgaaGreatDoor
namespace S1
open Go.RowKit Pk
theorem LV(w:D7)(lo hi cb:Nat)(L:Loc)(m:M)(hw:WF m)(h:CP w lo hi cb L m)(hsz:hi<=w.heap.size) :
 Calls prog 21 #[.pointer (some ⟨cb,0,none⟩)] w λe w'=>∃L',e=.returned (.pointer (some ⟨w.heap.size,0,none⟩))/\CP w' w.heap.size w'.heap.size w.heap.size L' m/\Below w.heap.size w w':=by
 have c0:=Db.c0 h;have c1:=Db.c1 h;have c2:=Db.c2 h;have c3:=Db.c3 h;have c4:=Db.c4 h;have c5:=Db.c5 h;have c6:=Db.c6 h;have c7:=Db.c7 h;have bJ:=hw.KZ;have bA:=hw.Iu;have bE:=hw.Md;have bs:=hw.Jv;have Hh:Hid (∀W,Below w.heap.size w W->CP W lo hi cb L m):=λW hb=>Db.below h hsz hb
 clear h;go_enter func21,ntmps21
 go_wp2;have hG:cb<w.heap.size:=AR (Hh.o _ (AM _ _)).Fg.2 hsz;have az:=Jy (AQ w (Obj.cells #[.int .i64 m.np,.slice none 0 0,.slice (some ⟨L.nk,0,none⟩) m.nb L.cn,.slice (some ⟨L.bk,0,none⟩) m.nb L.ck,.int .i64 m.Da,.int .i64 m.cut,.int .i64 m.fail,.int .i64 m.part] 74));have aX:=Jy ((AM w.heap.size w).alloc (AB _) (Obj.cells #[.int .i64 m.np,.slice none 0 0,.slice (some ⟨L.nk,0,none⟩) m.nb L.cn,.slice (some ⟨L.bk,0,none⟩) m.nb L.ck,.int .i64 m.Da,.int .i64 m.cut,.int .i64 m.fail,.int .i64 m.part] 74));clear c0 c1 c2 c3 c4 c5 c6 c7;obtain⟨i0,bu,bh,bH,bx⟩:=Ai Kl;obtain⟨j0,gi,bf,bg,be⟩:=Ai JK;obtain⟨k0,ki,bq,bB,bc⟩:=Ai JQ;obtain⟨l0,li,bD,bn,bz⟩:=Ai On;obtain⟨G,aS⟩:=Jq w.heap.size;rw[<-aS]at az aX Hh hG hsz ⊢
 have bm:=Jy aS;clear aS
 go_loopw [4] (λx wr=>∃k:Nat,k<=m.nb/\x=.int .i64 k/\∃da dc rw cr,wr.heap[G]? = some (.cells #[.int .i64 m.np,.slice da k dc,.slice (some ⟨L.nk,0,none⟩) m.nb L.cn,.slice (some ⟨L.bk,0,none⟩) m.nb L.ck,.int .i64 m.Da,.int .i64 m.cut,.int .i64 m.fail,.int .i64 m.part] 74 (0,0))/\Data wr G (.slice da k dc) k m.np rw cr (λi p=>id (m.pg i p))/\Below G w wr) (λx _=>m.nb - (intOf x).toNat)
 case atStart=>exact⟨0,by omega,rfl,none,0,λ_=>0,λ_=>0,az.o,Data.nil _ _ _ _ _ _,aX.o⟩
 case round =>
  clear az aX;obtain⟨k,hk,rfl,da,dc,rw,cr,aM,ag,ae⟩:=hrel;have hm:=Hh.o _ ae;have c1:=Db.c1 hm;have aT:G<wr.heap.size:=lt_of_heap aM;by_cases aY:k<m.nb
  ·have cd:=hm.data.cell aY;have aK:=hm.Ey k aY;have aJ:=Jy aM;have ac:=Jy ag;have ah:=Jy ae;have Hm:=Jy hm;clear aM ag ae hm;have x0:=Dv 1 aJ.o;have bi:(((List.range m.np).map λp=>Value.string (D9 (id (m.pg k p))))).length=m.np*1:=by simp
   have bI:∀u∈((List.range m.np).map λp=>Value.string (D9 (id (m.pg k p)))),u.oneCell'=true:=(by intro u hu;simp at hu;obtain⟨p,_,rfl⟩:=hu;rfl);have bp:=Jy aK.news;clear aK;go_wp2_with fail;go_region_law (first
    | (refine step_append_lies _ (by rfl) _ _ _ (by rfl) G 9 j0 _ 1 16 underlying40 gi bf bg be rfl (by omega) (.slice none 0 0) 0 [] (by rfl) (AZ _ _ _ _) ⟨L.rw k,0,none⟩ m.np (L.cr k) ((List.range m.np).map λp=>Value.string (D9 (id (m.pg k p)))) (by rfl) bi bp.o bI (by omega) (by unfold maxLen;omega) (by omega) (by simp;omega) wr.heap.size (by simp) ?_;intro g a8 w1 a3 a2 aB aW;have b6:Hid (g=wr.heap.size):=(by rcases aB with h | h;(· simp[Value.ownBlock]at h);(· exact h));have K1:∀t,Dm t wr w1:=(λt k x f e=>a2.block k (lt_of_heap e) (by simp[Value.ownBlock]));have a0:=(K1 74).block aJ.o;have aD:Hid (Below G w w1):=ah.o.drew.grown a2 (CN aT) (λq hq=>by simp[Value.ownBlock]at hq);have x1:w1.cell? ⟨G,1,none⟩=some (.slice da k dc):=(by rw[AG w1 G 1 _ 74 (0,0) a0];rfl);have bK:∀o,(w1.alloc o).cell? ⟨G,1,none⟩=some (.slice da k dc):=(λo=>(AJ (w:=w1) (AO w1 o G (Aj w1 ⟨G,1,none⟩ x1))).trans x1);have a6:=Jy ((K1 40).own ac.o.own);have aQ:Hid (Rw w1 g 9 m.np (λp=>.string (D9 (id (m.pg k p))))):=(by
        have a3:w1.ownsRow G 9 1 (.slice (some ⟨g,0,none⟩) m.np a8) m.np ((List.range m.np).map λp=>.string (D9 (id (m.pg k p)))):=(by simpa using a3);obtain⟨g',bl,b8,_,aR⟩:=TZ a3 (by omega);simp at b8;obtain⟨rfl,rfl⟩:=b8;exact aR);have bF:wr.heap.size<=w1.heap.size:=a2.size;have bG:=Jy K1;have aU:=Jy a0;clear a2 aB a0 a3 K1)
    | (refine step_append_lies _ (by rfl) _ _ _ (by rfl) G 40 i0 _ 1 24 underlying71 bu bh bH bx rfl (by omega) (.slice da k dc) k _ (by rfl) (a6.o.alloc _) ⟨w1.heap.size,0,none⟩ 1 1 [.slice (some ⟨g,0,none⟩) m.np a8] (by rfl) rfl (Bg _ _ _) (by intro u hu;simp at hu;subst hu;rfl) (by omega) (by unfold maxLen;omega) (by omega) (by simp;omega) (w1.heap.size+1) (by simp) ?_;intro g2 a9 w2 ao a7 aP bj;have K2:∀t,t≠40->Dm t w1 w2:=(λt ht=>((Dm.refl t w1).alloc _).grown (a6.o.alloc _) (λe=>ht e.symm) a7);have af:=(K2 74 (by decide)).block aU.o;have x2:w2.cell? ⟨G,1,none⟩=some (.slice da k dc):=(by rw[AG w2 G 1 _ 74 (0,0) af];rfl);have f2:=FU 1 af;have aL:Hid (Below G w w2):=(aD.o.alloc (AF (CN aT) bF) _).grown a7 (by simp;omega) (λq hq=>(a6.o.lt q hq).1);have aZ:=Jy K2;have ai:=Jy af;have aH:=Jy ao;clear ao a7 aP K2 af))
   all_goals have aN:=AK w2 G 1 _ 74 (.slice (some ⟨g2,0,none⟩) (k+1) a9) ai.o
   all_goals have K9:Dm 9 wr (w2.setCell ⟨G,1,none⟩ (.slice (some ⟨g2,0,none⟩) (k+1) a9)):=((bG.o 9).trans (aZ.o 9 (by decide))).set ai.o (by decide)
   all_goals have b5:Dm 40 w2 (w2.setCell ⟨G,1,none⟩ (.slice (some ⟨g2,0,none⟩) (k+1) a9)):=(Dm.refl _ _).set ai.o (by decide)
   all_goals have b4:Dm 9 w1 (w2.setCell ⟨G,1,none⟩ (.slice (some ⟨g2,0,none⟩) (k+1) a9)):=(aZ.o 9 (by decide)).set ai.o (by decide)
   all_goals have aa:=ac.o.push K9 (r:=g) (c:=a8) (f:=λp=>id (m.pg k p)) (by rw[b6.o];omega) (by rw[b6.o];omega) (b4.rw aQ.o) (b5.own aH.o)
   all_goals have b7:put (λi p=>id (m.pg i p)) k (λp=>id (m.pg k p))=λi p=>id (m.pg i p):=(by
    funext a b
    unfold put;by_cases e:a=k
    ·rw[AE e,e]
    rw[AC e])
   all_goals rw[b7]at aa
   all_goals have aG:=Jy (aL.o.setCell (p:=⟨G,1,none⟩) (AB _) (.slice (some ⟨g2,0,none⟩) (k+1) a9))
   all_goals have aV:=Jy aN
   all_goals have aC:=Jy aa
   all_goals clear aN aa K9 b5 b4 b7
   all_goals go_wp2
   all_goals(go_roundw;(case rel=>exact⟨k+1,by omega,by go_num,some ⟨g2,0,none⟩,a9,_,_,aV.o,aC.o,aG.o⟩);(case measure=>simp[intOf];omega))
  have bC:m.nb=k:=by omega
  subst bC;have a1:=Db.c2 hm;have aJ:=Jy aM;have ac:=Jy ag;have ah:=Jy ae;have b0:=hm.next;clear aM ag ae hm;go_wp2_with (at_builtin;refine wpList_append_lies _ rfl _ _ 22 rfl G 3 k0 (.int .i64 0) 1 8 underlying22 ki bq bB bc rfl (by decide) (.slice none 0 0) 0 [] rfl (AZ _ _ _ _) ⟨L.nk,0,none⟩ m.nb L.cn ((List.range m.nb).map λi=>.int .i64 (m.nx i:Nat)) rfl ?c0 ?c1 ?c2 ?c3 ?c4 ?c5 ?c6 wr.heap.size rfl ?_)
  case c0=>simp
  case c1=>exact b0.news
  case c2=>intro u hu;simp at hu;obtain⟨p,_,rfl⟩:=hu;rfl
  case c3=>omega
  case c4=>unfold maxLen;omega
  case c5=>omega
  case c6=>omega
  intro g a8 w1 a3 a2 aB aW;have a4:w1.ownsRow G 3 1 (.slice (some ⟨g,0,none⟩) m.nb a8) m.nb ((List.range m.nb).map λi=>.int .i64 (m.nx i:Nat)):=(by simpa using a3);have K1:∀t,Dm t wr w1:=λt k x f e=>a2.block k (lt_of_heap e) (by simp[Value.ownBlock])
  have a0:=(K1 74).block aJ.o;have z2:w1.cell? ⟨G,2,none⟩=some (.slice (some ⟨L.nk,0,none⟩) m.nb L.cn):=(by rw[AG w1 G 2 _ 74 (0,0) a0];rfl);have zf:=FU 2 a0;have aA:=AK w1 G 2 _ 74 (.slice (some ⟨g,0,none⟩) m.nb a8) a0;have aw:=((Dm.refl 3 w1).set (o:=2) (v:=.slice (some ⟨g,0,none⟩) m.nb a8) a0 (by decide)).own a4;have av:=ac.o.keep ((K1 9).set (o:=2) (v:=.slice (some ⟨g,0,none⟩) m.nb a8) a0 (by decide)) ((K1 40).set (o:=2) (v:=.slice (some ⟨g,0,none⟩) m.nb a8) a0 (by decide));have ad:Below G w (w1.setCell ⟨G,2,none⟩ (.slice (some ⟨g,0,none⟩) m.nb a8)):=(ah.o.grown a2 (CN aT) (λq hq=>by simp[Value.ownBlock]at hq)).zS;have aI:=Jy aA;have ay:=Jy aw;have ax:=Jy av;have ar:=Jy ad;have aO:=Hh.o _ ad;have b3:=Db.c3 aO;have b9:=aO.bad
  have bb:G<(w1.setCell ⟨G,2,none⟩ (.slice (some ⟨g,0,none⟩) m.nb a8)).heap.size:=lt_of_heap aA;clear aA aw av ad aO a0 a3 a4 a2 aB K1 aJ ac ah b0 a1;go_wp2_with (at_builtin;refine wpList_append_lies _ rfl _ _ 72 rfl G 4 l0 (.bool false) 1 1 underlying72 li bD bn bz rfl (by decide) (.slice none 0 0) 0 [] rfl (AZ _ _ _ _) ⟨L.bk,0,none⟩ m.nb L.ck ((List.range m.nb).map λi=>.bool (m.bd i)) rfl ?c0 ?c1 ?c2 ?c3 ?c4 ?c5 ?c6 (w1.setCell ⟨G,2,none⟩ (.slice (some ⟨g,0,none⟩) m.nb a8)).heap.size rfl ?_)
  case c0=>simp
  case c1=>exact b9.news
  case c2=>intro u hu;simp at hu;obtain⟨p,_,rfl⟩:=hu;rfl
  case c3=>omega
  case c4=>unfold maxLen;omega
  case c5=>omega
  case c6=>omega
  intro g3 a5 w3 a3 a2 aB br;have a4:w3.ownsRow G 4 1 (.slice (some ⟨g3,0,none⟩) m.nb a5) m.nb ((List.range m.nb).map λi=>.bool (m.bd i)):=(by simpa using a3);have K1:∀t,Dm t (w1.setCell ⟨G,2,none⟩ (.slice (some ⟨g,0,none⟩) m.nb a8)) w3:=λt k x f e=>a2.block k (lt_of_heap e) (by simp[Value.ownBlock])
  have a0:=(K1 74).block aI.o;have y2:w3.cell? ⟨G,3,none⟩=some (.slice (some ⟨L.bk,0,none⟩) m.nb L.ck):=(by rw[AG w3 G 3 _ 74 (0,0) a0];rfl);have yf:=FU 3 a0;have aE:=AK w3 G 3 _ 74 (.slice (some ⟨g3,0,none⟩) m.nb a5) a0;have au:=((Dm.refl 4 w3).set (o:=3) (v:=.slice (some ⟨g3,0,none⟩) m.nb a5) a0 (by decide)).own a4;have an:=((K1 3).set (o:=3) (v:=.slice (some ⟨g3,0,none⟩) m.nb a5) a0 (by decide)).own ay.o;have am:=ax.o.keep ((K1 9).set (o:=3) (v:=.slice (some ⟨g3,0,none⟩) m.nb a5) a0 (by decide)) ((K1 40).set (o:=3) (v:=.slice (some ⟨g3,0,none⟩) m.nb a5) a0 (by decide));have aj:Below G w (w3.setCell ⟨G,3,none⟩ (.slice (some ⟨g3,0,none⟩) m.nb a5)):=(ar.o.grown a2 (CN bb) (λq hq=>by simp[Value.ownBlock]at hq)).zS
  have HE:=Jy (Db.built (T:=74) (enc:=id) (g4:=m.Da) (g5:=m.cut) (g6:=m.fail) (g7:=m.part) (by omega:0<m.nb) (by decide) (AB G) aE am (λi p _ _=>rfl) an au);have aF:=Jy aj;clear a4 aE au an am aj aI ar ax ay a0 K1 a3 a2 aB z2 zf b3 b9;go_wp2;go_ret
  obtain⟨L',hL⟩:=HE.o;rw[<-bm.o];exact⟨L',rfl,hL,aF.o⟩
end S1
section
open Go.RowKit Go.Nt
theorem kQ(l:List It):FE (Eb l)=FE l:=((MZ l).map _).sum_nat
theorem iU(l:List It)(p:Bs):El (Eb l) p=El l p:=by
 unfold El;rw[Bool.eq_iff_iff,Bq,Bq];exact⟨λ⟨x,hx,h⟩=>⟨x,ET.1 hx,h⟩,λ⟨x,hx,h⟩=>⟨x,ET.2 hx,h⟩⟩
theorem Ev.JC{l:List It}(h:Ev l):Ev (Eb l):=
 ⟨by rw[KC];exact h.len,λx hx=>h.ok x (ET.1 hx),(((MZ l).map _).nodup_iff).2 h.nodup,λx hx=>by rw[iU];exact h.up x (ET.1 hx)⟩
def Laid(u:Bs->Option Bs)(m:S1.M)(l:List It):Prop:=S1.WF m/\m.Da≠0/\∃b r,b<=1000000/\r<=4294967295/\S1.Eh (EB (S1.Fs m) m.np m.nb) b r=true/\(∀x y,S1.Eh (EB (S1.Fs m) m.np m.nb) x y=true->x=b/\y=r)/\parse u (Ei (S1.FQ (EB (S1.Fs m) m.np m.nb) b r))=some (Eb l)
theorem MU.laid{u:Bs->Option Bs}{m:S1.M}(hm:S1.MU m){l:List It}(ht:Ev l){t:Bs}(hT:GP u (Eb l) t)(hmay:S1.Ee m t.length=0):(S1.EU m t).1=0/\Laid u (S1.EU m t).2 l:=by
 have a6:∀x∈l,Fit x:=λx hx=>Nw (ht.ok x hx)
 have a7:=U9 hT;obtain⟨a9,a2,a1,Dg,a0,a4,_⟩:=hm.renew a7 hmay;obtain⟨m1,aa⟩:=Jq ((S1.EU m t).2);rw[<-aa]at a2 a1 a0 a4 ⊢;have a8:S1.Dt m<=32:=AF (S1.Fc m) hm.wf.Iu;have a3:=Zr a7 a0;obtain⟨z,hz⟩:=ZN (S1.Dt m) 1 t Dg;have h0:=M0 (a0 0 (by unfold De;omega));refine⟨a9,a2,by rw[a1];decide,S1.Dt m,1,by omega,by omega,?_,λx y a5 => ?_,?_⟩
 ·unfold S1.Eh;rw[a3,E0.2 ⟨_,h0.1,h0.2.1,h0.2.2.1⟩];rfl
 ·unfold S1.Eh at a5;simp only[Af]at a5;obtain⟨f,hf,rfl,rfl⟩:=E0.1 a5.1;exact a4 f hf
 unfold S1.FQ;rw[a3];rw[Option.getD_some,hz];exact Wt hT (λx hx=>a6 x (ET.1 hx)) (by rw[KC];have:=ht.len;omega) z
def qk(l:List It)(cb:Nat)(w:D7)(e:Ending)(w':D7):Prop:=∃fb lb tb,e=.returned (.tuple #[.pointer (some ⟨fb,0,none⟩),.int .i64 0])/\Ja w' fb cb lb tb/\Dk w' tb (Eb l)/\w.heap.size<=fb/\Below w.heap.size w w'
theorem ry{u:Bs->Option Bs}(hP:Fj u)(w:D7)(lo hi cb:Nat)(L:S1.Loc)(m:S1.M)(l:List It)(ht:Ev l)(hL:Laid u m l)(h:S1.CP w lo hi cb L m)(hsz:hi<=w.heap.size)(hml:ML w) :
 Calls prog 20 #[.pointer (some ⟨cb,0,none⟩)] w λe w'=>qk l cb w e w':=by
 obtain⟨a6,a5,b,r,hb,hr,a4,a1,a0⟩:=hL;refine(Mt w lo hi cb L m a6 h hsz a5 _ rfl hml hP).mono ?_;rintro e w' ⟨a2,a3,hc⟩;have a7:(b,r)∈a2:=eR a3 hb hr a4;rcases hc with⟨hno,_⟩ | ⟨pre,x,post,tl,hsp,_,hpx,htr,_,fb,lb,tb,ib,n,rfl,hF,hT,_,_,_,hfb,_,_,_,_,hbe⟩
 ·have:=hno _ a7 _ a0
  rw[(O5 _).2 ht.JC]at this;cases this
 have hx:x∈a2:=DR.1 (by rw[hsp];simp);have h1:=(a3.mem hx).2.2;obtain⟨e1,e2⟩:=a1 _ _ h1;rw[e1,e2,a0]at hpx;cases hpx
 exact⟨fb,lb,tb,rfl,hF,hT,hfb,hbe⟩
variable {l:List Fp} {u:Bs->Option Bs} {t:List It} {m:S1.M}
theorem fM{a b:List Nat}(ha:S1.Asc a)(hb:S1.Asc b)(h:a.Perm b):a=b:=
 Ci (le:=λx y:Nat=>x<=y) (λx y _ _ h1 h2=>Nat.le_antisymm h1 h2) ha hb h
theorem Yt{ls:List (Nat × Nat)}(h:ls.Nodup)(b:Nat):(S1.numsOf ls b).Nodup:=by
 unfold S1.numsOf;refine CT.2 ((h.filter _).imp_of_mem (λ{x y} hx hy hne e=>hne ?_));have h1:=(BC.1 hx).2;have h2:=(BC.1 hy).2;simp at h1 h2;exact Prod.ext (h1.trans h2.symm) e
theorem fP{ls:List (Nat × Nat)}{b y:Nat}:y∈S1.numsOf ls b↔(b,y)∈ls:=by
 unfold S1.numsOf;rw[Am]
 constructor
 ·rintro⟨x,hx,rfl⟩
  have:=BC.1 hx
  have e:x.1=b:=by simpa using this.2
  rw[<-e];exact this.1
 intro h;exact⟨(b,y),BC.2 ⟨h,by simp⟩,rfl⟩
theorem mw{o1 o2:List (Nat × Nat)}(h1:S1.F9 l o1)(h2:S1.F9 l o2):o1=o2:=by
 obtain⟨ls,ks,rs,a1,a2,a3,a4,a5,a6,rfl⟩:=h1;obtain⟨a7,a9,ad,b1,b2,b3,b4,b5,b6,rfl⟩:=h2;have aa:∀x,x∈ls↔x∈a7:=λx=>(a2 x).trans (b2 x).symm
 have a0:∀b,(S1.numsOf ls b).Perm (S1.numsOf a7 b):=λb=>(List.perm_ext_iff_of_nodup (Yt a1 b) (Yt b1 b)).2 (λy=>by rw[fP,fP];exact aa _)
 have ac:ks=a9:=fM a3 b3 ((List.perm_ext_iff_of_nodup a4 b4).2 (λb=>by
  rw[a5,b5]
  constructor
  ·intro h e;have p:=a0 b;rw[e]at p;exact h p.eq_nil
  intro h e;have p:=(a0 b).symm;rw[e]at p;exact h p.eq_nil))
 subst ac;rw[List.flatMap_def,List.flatMap_def]
 congr 1
 refine BU (λb hb => ?_);obtain⟨ys,p1,p2,e1⟩:=a6 b hb;obtain⟨a8,q1,q2,e2⟩:=b6 b hb
 have:ys=a8:=fM p2 q2 ((p1.trans (a0 b)).trans q1.symm)
 rw[e1,e2,this]
def Gh(u:Bs->Option Bs)(l:List Fp)(xs:List (Nat × Nat))(t:List It):Prop:=∃pre x post tl,xs=pre++x :: post/\(∀y∈pre,IX u l y)/\parse u (Ei (S1.FQ l x.1 x.2))=some tl/\Dw tl=true/\Eb tl=t
theorem Gh.not{xs:List (Nat × Nat)}(h:Gh u l xs t):¬∀x∈xs,IX u l x:=by
 obtain⟨a0,x,post,tl,rfl,_,h2,h3,_⟩:=h;intro hn
 have:=hn x (by simp) tl h2
 rw[h3]at this;cases this
theorem Gh.unique:∀{xs:List (Nat × Nat)} {t t':List It},Gh u l xs t->Gh u l xs t'->t=t':=by
 intro xs
 induction xs with
 | nil=>rintro t t' ⟨a2,x,post,tl,e,_⟩;simp at e
 | cons y ys ih =>
   rintro t t' ⟨a2,x,post,tl,e,h1,h2,h3,h4⟩ ⟨a0,x',a1,a6,e',a5,a3,a4,a7⟩;cases a2 with
   | nil =>
     simp at e;obtain⟨rfl,rfl⟩:=e;cases a0 with
     | nil =>
       simp at e';obtain⟨rfl,rfl⟩:=e';rw[h2]at a3;cases a3
       rw[<-h4,a7]
     | cons p' a0 =>
       simp at e';obtain⟨rfl,rfl⟩:=e'
       have:=a5 y (by simp) tl h2
       rw[h3]at this;cases this
   | cons p a2 =>
     simp at e;obtain⟨rfl,rfl⟩:=e;cases a0 with
     | nil =>
       simp at e';obtain⟨rfl,rfl⟩:=e'
       have:=h1 y (by simp) a6 a3
       rw[a4]at this;cases this
     | cons p' a0 =>
       simp at e';obtain⟨rfl,e'⟩:=e';exact ih ⟨a2,x,post,tl,rfl,λz hz=>h1 z (by simp[hz]),h2,h3,h4⟩ ⟨a0,x',a1,a6,e',λz hz=>a5 z (by simp[hz]),a3,a4,a7⟩
def Finds(u:Bs->Option Bs)(m:S1.M)(t:List It):Prop:=∀ord,S1.F9 (S1.IK m) ord->Gh u (S1.IK m) ord.reverse t
theorem Finds.of{ord:List (Nat × Nat)}(hT:S1.F9 (S1.IK m) ord)(h:Gh u (S1.IK m) ord.reverse t):Finds u m t:=λo ho=>by
 rw[mw ho hT];exact h
theorem Finds.laid{c n:Nat}{K:Nat->Bool}{t:Bs}{l:List It}(h:S1.OB m c n K t)(hw:S1.WF m)(hT:GP u (Eb l) t)(ht:Ev l):Finds u m (Eb l):=λord ho=>by
 obtain⟨ps,z,hrec,htx,hwh,_⟩:=h.whole hw;have hc:=h.Px hw;have hnum:=h.num;have hin:(c,n)∈ord:=eR ho (by dsimp only;omega) (by dsimp only;omega) hwh;have hl:=h.last hw ord ho (λe=>by rw[e]at hin;cases hin);rw[List.getLast?_eq_head?_reverse]at hl;cases hr:ord.reverse with
 | nil=>rw[hr]at hl;cases hl
 | cons x post =>
   rw[hr]at hl;simp at hl;subst hl;refine⟨[],(c,n),post,Eb l,rfl,(λy hy=>by cases hy),?_,(O5 _).2 ht.JC,?_⟩
   ·dsimp only;unfold S1.FQ;rw[hrec,Option.getD_some,htx];exact Wt hT (λx hx=>Nw (ht.ok x (ET.1 hx))) (by rw[KC];have:=ht.len;omega) z
   exact YP ht
end
section
open Go.RowKit
theorem gG{P:Program}(w:D7)(base:Nat)(t ty e:TypeId)(i:TypeInfo)(z:Value)(size bytes:Nat)(ht:P.underlying t=some (.slice e))(hi:P.info? e=some i)(hz:i.zero=some z)
 (hsize:i.size=size) (hby:i.bytes=bytes) (hzs:z.cells.size=size) (hsz:0<size)
 (v:Value) (n:Nat) (xs:List Value) (hown:w.ownsRow base e size v n xs)
 (a:Addr) (m c:Nat) (news:List Value) (hl:news.length=m*size) (hnews:∀j u,news[j]? = some u->w.cell? (a.add j)=some u) (h1:∀u∈news,u.oneCell'=true)
 (h63:n+m<=maxLen) (hbytes:(n+m)*bytes<=140737488355328) (hbase:base<=w.heap.size) :
 ∃v' w',(Builtin.append_ #[t,t] ty #[v,.slice (some a) m c]).run P w=.ok v' w'/\w'.ownsRow base e size v' (n+m) (xs++news)/\w.grownBy w' v.ownBlock /\
  (∀g,v.ownBlock=some g->w'.heap[g]? = w.heap[g]? \/ v'.ownBlock=some g):=by
 have a2:=hown;rcases hown.2 with⟨rfl,rfl⟩ | ⟨g,cap,cur,rfl,hbg,hg,hnc,hcm,hcs,htake⟩
 ·obtain⟨v',w',h2,h3,h4,_⟩:=run_append_own (P:=P) w base t ty e i z size bytes ht hi hz hsize hby hzs hsz _ _ xs hown a m c news hl hnews h1 h63 hbytes hbase;exact⟨v',w',h2,h3,h4,λg hg=>by simp[Value.ownBlock]at hg⟩
 by_cases a0:n+m<=cap
 ·obtain⟨w',h2,h3,h4⟩:=run_append_fits (P:=P) w base t ty e i size ht hi hsize g n cap xs hown a m c news hl hnews h1 a0;exact⟨_,w',h2,h3,h4,λg' a1=>.inr a1⟩
 obtain⟨v',w',h2,h3,h4⟩:=run_append_arg_grows (P:=P) w t ty e i z size bytes ht hi hz hsize hby hzs hsz ⟨g,0,none⟩ n cap xs hown.1 (hown.cells (g:=g) rfl) a m c news hl hnews (by omega) h63 hbytes;refine⟨v',w',h2,M3 h3 hbase,⟨h4.os,h4.tape,h4.output,h4.size,λk hk _=>h4.block k hk (by simp)⟩,λg' a1=>.inl ?_⟩;refine h4.block g' ?_ (by simp);exact(hown.lt g' a1).2
theorem Z0{P:Program}(w:D7){ops:Array Oper}{rest:List Oper}{o:Oper}{a:Act}{Q:Exit->Act->D7->Prop}(hgd:o.guard=none)(s x:Operand)(t:TypeId)
 (ho:o.op=.call { callee:=.builtin .append,args:=#[s,x],argTypes:=#[t,t] })
 (base:Nat) (e:TypeId) (i:TypeInfo) (z:Value) (size bytes:Nat) (ht:P.underlying t=some (.slice e)) (hi:P.info? e=some i) (hz:i.zero=some z)
 (hsize:i.size=size) (hby:i.bytes=bytes) (hzs:z.cells.size=size) (hsz:0<size)
 (v:Value) (n:Nat) (xs:List Value) (hs:a.eval s=v) (hown:w.ownsRow base e size v n xs)
 (ad:Addr) (m c:Nat) (news:List Value) (hx:a.eval x=.slice (some ad) m c) (hl:news.length=m*size) (hnews:∀j u,news[j]? = some u->w.cell? (ad.add j)=some u) (h1:∀u∈news,u.oneCell'=true)
 (h63:n+m<=maxLen) (hbytes:(n+m)*bytes<=140737488355328) (hbase:base<=w.heap.size)
 (h:∀v' w',w'.ownsRow base e size v' (n+m) (xs++news)->w.grownBy w' v.ownBlock->(∀g,v.ownBlock=some g->w'.heap[g]? = w.heap[g]? \/ v'.ownBlock=some g)->wpList P ops Q rest (a.put o.dst v') w'):wpList P ops Q (o :: rest) a w:=by
 refine wpList_plain hgd λK a0 => ?_
 obtain⟨v',w',hr,h2,h3,h4⟩:=gG (P:=P) w base t o.type e i z size bytes ht hi hz hsize hby hzs hsz v n xs hown ad m c news hl hnews h1 h63 hbytes hbase;unfold Oper.wp execOp;simp only[ho,resolve,invoke,builtin,Sem.run_bind,Sem.run_pure,Result.andThen_ok,List.map_toArray,Bb,Ct,hs,hx,hr];exact a0 _ _ (h v' w' h2 h3 h4)
end
section
open Go.RowKit Go.Nt
variable {n N B:Nat} {w w':D7} {m:Int} {a:Option Addr} {e:TypeId} {v u:Value} {xs ys:List Value}
theorem N0:(prog.info? 26).map (λi=>(i.zero,i.size,i.bytes))=some (some (.slice none 0 0),1,24):=by kernel_rfl
def Fq(m:Int):It:=⟨[],false,[],m,0⟩
def FY(n:Nat)(m:Int):List It:=List.replicate n (Fq m)
theorem Np(n:Nat)(m:Int):(FY n m).length=n:=by simp[FY]
theorem Wu(n:Nat)(m:Int):FY (n+1) m=FY n m++[Fq m]:=by simp[FY,List.replicate_succ']
theorem mF(h:n<=N)(m:Int):(E9 (FY N m)).take (n*5)=E9 (FY n m):=by
 have e:FY N m=FY n m++FY (N - n) m:=by
  unfold FY;rw[List.replicate_append_replicate]
  congr 1
  omega
 rw[e,Oq,List.take_append_of_le_length (by rw[Mm,Np];exact AB _),AT (by rw[Mm,Np];exact AB _)]
def Dj(w:D7)(B:Nat)(m:Int)(a:Option Addr)(n:Nat):Prop:=
 0<n->∃g cur,a=some ⟨g,0,none⟩/\B<=g/\w.heap[g]? = some (.cells cur 39 (0,0))/\cur.toList.take (n*5)=E9 (FY n m)
theorem Dj.below(h:Dj w B m a n)(hb:Below w.heap.size w w'):Dj w' B m a n:=by
 intro hn;obtain⟨g,a0,rfl,hg,hh,hc⟩:=h hn;exact⟨g,a0,rfl,hg,(hb.block g (lt_of_heap hh)).trans hh,hc⟩
theorem Dj.grown{row:Option Nat}(h:Dj w B m a n)(hg:w.grownBy w' row)(hne:∀g cur,row=some g->w.heap[g]? ≠ some (.cells cur 39 (0,0))):Dj w' B m a n:=by
 intro hn;obtain⟨g,cur,rfl,hB,hh,hc⟩:=h hn;refine⟨g,cur,rfl,hB,(hg.block g (lt_of_heap hh) (λe=>hne g cur e.symm hh)).trans hh,hc⟩
theorem Dj.cell(h:Dj w B m a n)(hn:0<n):∃g,a=some ⟨g,0,none⟩/\∀j,j<n->E4 w g (j*5) (Fq m):=by
 obtain⟨g,a0,rfl,hB,hh,hc⟩:=h hn;refine⟨g,rfl,λj hj=>E4.of_cells λq u hu => ?_⟩;have hq:q<5:=by have:=(AP.1 hu).1;simpa[IU]using this
 have hx:(FY n m)[j]? = some (Fq m):=by simp[FY,hj]
 have:=MB hx q hq
 rw[hu,<-hc,Ak (by omega)]at this;rw[AG w g _ a0 39 (0,0) hh];simpa using this
theorem Mj{base:Nat}{size:Nat}{g:Nat}(h:w.ownsRow base e size v n xs)(hg:v.ownBlock=some g) :
 ∃cur cap,v=.slice (some ⟨g,0,none⟩) n cap/\base<=g/\w.heap[g]? = some (.cells cur e (0,0))/\cur.toList.take (n*size)=xs:=by
 rcases h.2 with⟨rfl,_⟩ | ⟨g',cap,cur,rfl,hb,hh,h1,h2,h3,h4⟩
 ·simp[Value.ownBlock]at hg
 simp[Value.ownBlock]at hg;subst hg;exact⟨cur,cap,rfl,hb,hh,h4⟩
theorem Rk{base:Nat}(h:w.ownsRow base 39 5 v n (E9 (FY n m))):∃a c,v=.slice a n c/\Dj w base m a n:=by
 rcases h.2 with⟨rfl,rfl⟩ | ⟨g,cap,cur,rfl,hb,hh,h1,h2,h3,h4⟩
 ·exact⟨none,0,rfl,λh=>absurd h (by omega)⟩
 exact⟨_,cap,rfl,λ_=>⟨g,cur,rfl,hb,hh,h4⟩⟩
theorem VC{v':Value}(h:Dj w B m a n)(hg:w.grownBy w' v.ownBlock)(hN:n<=N)
 (hown:w'.ownsRow B 39 5 v' N (E9 (FY N m))) (hk:∀g,v.ownBlock=some g->w'.heap[g]? = w.heap[g]? \/ v'.ownBlock=some g):Dj w' B m a n:=by
 intro hn;obtain⟨g,a1,rfl,hB,hh,hc⟩:=h hn;by_cases e:v.ownBlock=some g
 ·rcases hk g e with h1 | h1
  ·exact⟨g,a1,rfl,hB,h1.trans hh,hc⟩
  obtain⟨a0,a2,rfl,_,h2,h3⟩:=Mj hown h1;refine⟨g,a0,rfl,hB,h2,?_⟩;rw[<-mF hN,<-h3,List.take_take,Ce (by omega)]
 exact⟨g,a1,rfl,hB,(hg.block g (lt_of_heap hh) (λe'=>e e'.symm)).trans hh,hc⟩
theorem Rc{base:Nat}{size size':Nat}{m:Nat}{e':TypeId}(h:w.ownsRow base e size v n xs)(hu:w.ownsRow base e' size' u m ys)(hne:e≠e')(hg:w.grownBy w' u.ownBlock) :
 w'.ownsRow base e size v n xs:=by
 refine h.kept hg ?_;cases hv:v.ownBlock with
 | none=>exact .inl rfl
 | some g =>
   refine .inr λhe => ?_
   obtain⟨c1,_,_,_,h1,_⟩:=Mj h hv;obtain⟨c2,_,_,_,h2,_⟩:=Mj hu he.symm;rw[h1]at h2;simp at h2;exact hne h2.2
theorem VO{base:Nat}{m:Nat}(hu:w.ownsRow base 26 1 u m ys):∀g cur,u.ownBlock=some g->w.heap[g]? ≠ some (.cells cur 39 (0,0)):=by
 intro g cur hg hh;obtain⟨c2,_,_,_,h2,_⟩:=Mj hu hg;rw[hh]at h2;simp at h2
theorem UR(k:Nat)(f:Nat->Value)(r:Value):(List.range k).map f++[r]=(List.range (k+1)).map (λj=>if j<k then f j else r):=by
 rw[B0,Aq]
 congr 1
 ·apply BU
  intro j hj;rw[AE (by simpa using hj)]
 simp
theorem WC(p n:Nat)(A:Nat->Option Addr)(C:Nat->Nat)(ag:Option Addr)(cg:Nat) :
 ((List.range p).map λq=>Value.slice (A q) (n+q) (C q))++[.slice ag (n+p) cg]=(List.range (p+1)).map λq=>Value.slice (if q<p then A q else ag) (n+q) (if q<p then C q else cg):=by
 rw[UR]
 apply BU
 intro q hq
 have:q<p+1:=by simpa using hq
 by_cases e:q<p
 ·rw[AE e,AE e,AE e]
 rw[AC e,AC e,AC e,show q=p by omega]
theorem VH:∀(l:List It) (k:Nat) (x:It),k<l.length->(((((E9 l).set (k*5) (.string (D9 x.path))).set (k*5+1) (.bool x.dir)).set (k*5+2) (.string (D9 x.data))).set (k*5+3) (.int .i64 x.mode)).set (k*5+4) (.int .i64 x.time)=E9 (l.set k x)
 | [],_,_,h=>by simp at h
 | y :: l,0,x,_=>by simp[Pw,IU]
 | y :: l,k+1,x,h=>by
   have ih:=VH l k x (by simpa using h);have e:(IU y).length=5:=rfl;simp only[List.set_cons_succ,Pw];rw[<-ih];rw[CB _ _ (by rw[e];omega),CB _ _ (by rw[e];omega),CB _ _ (by rw[e];omega),CB _ _ (by rw[e];omega),CB _ _ (by rw[e];omega)];rw[e,show(k+1)*5 - 5=k*5 by omega,show(k+1)*5+1 - 5=k*5+1 by omega,show(k+1)*5+2 - 5=k*5+2 by omega,show(k+1)*5+3 - 5=k*5+3 by omega,show(k+1)*5+4 - 5=k*5+4 by omega]
theorem qy(l:List It)(k:Nat)(m:Int)(h:k<l.length):(FY k m++l.drop k).set k (Fq m)=FY (k+1) m++l.drop (k+1):=by
 rw[CB _ _ (by rw[Np];exact AB _),Np,D5,AX h,List.set_cons_zero,Wu,Ap];rfl
variable {w:D7} {g:Nat} {l:List It}
theorem rZ(P:Program)(w:D7)(dT sT ty elem:TypeId)(size:Nat)(g o dLen dCap:Nat)(a:Addr)(sLen sCap:Nat)(cur:Array Value)(t:TypeId)(cs:List Value)
 (hu:P.underlying dT=some (.slice elem)) (hs:(P.info? elem).map (·.size)=some size)
 (hg:w.heap[g]? = some (.cells cur t (0,0))) (hn:cs.length=Nat.min sLen dLen*size)
 (hsrc:∀j v,cs[j]? = some v->w.cell? (a.add j)=some v) (hfit:o+cs.length<=cur.size) (h1:∀v∈cs,v.oneCell'=true) :
 (Builtin.copy_ #[dT,sT] ty #[.slice (some ⟨g,o,none⟩) dLen dCap,.slice (some a) sLen sCap]).run P w =
   .ok (goInt (Nat.min sLen dLen:Nat)) (w.setRow g (cur.toList.take o++cs++cur.toList.drop (o+cs.length)).toArray):=by
 have hl:=run_loadCells_list (P:=P) w a cs hsrc;have a0:=run_storeCells_at P g o t cs 0 cur w hg (by simpa using hfit) h1;cases hq:P.info? elem with
 | none=>simp[hq]at hs
 | some i =>
   have hi:i.size=size:=by simpa[hq]using hs
   simp[Builtin.copy_,Cb hu,Builtin.lenOf,Builtin.firstCells,sizeOf,typeInfo,hq,hi,<-hn,hl,a0]
theorem o7(P:Program)(w:D7)(dT sT ty elem:TypeId)(a:Addr)(dLen dCap c:Nat)(hu:P.underlying dT=some (.slice elem))(hs:((P.info? elem).map (·.size)).isSome=true) :
 (Builtin.copy_ #[dT,sT] ty #[.slice (some a) dLen dCap,.slice none 0 c]).run P w=.ok (goInt 0) w:=by
 cases hq:P.info? elem with
 | none=>simp[hq]at hs
 | some i=>simp[Builtin.copy_,Cb hu,Builtin.lenOf,Builtin.firstCells,sizeOf,typeInfo,hq,storeCells]
theorem Mz:(prog.info? 39).map (·.size)=some 5:=by kernel_rfl
theorem kR(n:Nat):madeCells #[.string ByteArray.empty,.bool false,.string ByteArray.empty,.int .i64 0,.int .i64 0] (n*5)=(E9 (FY n 0)).toArray:=by
 apply Array.ext_getElem?
 intro j;have hr:(E9 (FY n 0)).toArray[j]? = (E9 (FY n 0))[j]? := by simp
 rw[hr];by_cases hj:j<n*5
 ·have hk:j/5<n:=by omega
  have hx:(FY n 0)[j/5]? = some (Fq 0):=by simp[FY,hk]
  have e:j=j/5*5+j%5:=by omega
  have hg:=MB hx (j%5) (by omega);rw[<-e]at hg;rw[hg];unfold madeCells;rw[Array.getElem?_map,Array.getElem?_range,AE hj];have h5:j%5<5:=by omega
  have key:∀q,q<5->(some ((#[Value.string ByteArray.empty,.bool false,.string ByteArray.empty,.int .i64 0,.int .i64 0]:Array Value)[q]!))=(IU (Fq 0))[q]? := by
   intro q hq
   match q,hq with
   | 0,_=>rfl
   | 1,_=>rfl
   | 2,_=>rfl
   | 3,_=>rfl
   | 4,_=>rfl
  exact key (j%5) h5
 rw[Aw (by rw[Mm,Np];omega)];rw[Array.getElem?_eq_none (by rw[size_madeCells];omega)]
def EP(w:D7)(g:Nat)(l:List It):Prop:=w.heap[g]? = some (.cells (E9 l).toArray 39 (0,0))
theorem EP.cells(h:EP w g l):∀k (x:It),l[k]? = some x->E4 w g (k*5) x:=by
 intro k x hx;refine E4.of_cells λj u hu => ?_
 have hj:j<5:=by have:=(AP.1 hu).1;simpa[IU]using this
 rw[AG w g _ _ 39 (0,0) h,List.getElem?_toArray,MB hx j hj];exact hu
theorem EP.frozen(h:EP w g l)(j:Nat):w.frozen? ⟨g,j,none⟩=false:=Al w g j _ 39 h
theorem EP.below{w':D7}{B:Nat}(h:EP w g l)(hb:Below B w w')(hlt:g<B):EP w' g l:=(hb.block g hlt).trans h
theorem EP.front{m:List It}(h:EP w g (l++m)):Dz w (some ⟨g,0,none⟩) l:=λ_=>⟨g,0,rfl,λk x hx=>by
 rw[Ao];exact h.cells k x (by rw[Ax (AP.1 hx).1];exact hx)⟩
theorem EP.mode{w:D7}{g:Nat}{l:List It}{k:Nat}{x:It}(h:EP w g l)(hx:l[k]? = some x)(m:Int):EP (w.setCell ⟨g,k*5+3,none⟩ (.int .i64 m)) g (l.set k { x with mode:=m }):=by
 have hk:=(AP.1 hx).1;unfold EP;rw[AK w g (k*5+3) _ 39 _ h]
 congr 2
 apply Array.toList_inj.1
 rw[Array.toList_setIfInBounds,<-VH l k { x with mode:=m } hk];have q0:=MB hx 0 (by omega);have q1:=MB hx 1 (by omega);have q2:=MB hx 2 (by omega);have q4:=MB hx 4 (by omega);have s:∀(L:List Value) i u,L[i]? = some u->L.set i u=L:=λL i u h=>by
  obtain⟨hi,rfl⟩:=AP.1 h;exact List.set_getElem_self hi
 have e0:(E9 l).set (k*5) (.string (D9 x.path))=E9 l:=s _ _ _ q0;have e1:(E9 l).set (k*5+1) (.bool x.dir)=E9 l:=s _ _ _ q1;have e2:(E9 l).set (k*5+2) (.string (D9 x.data))=E9 l:=s _ _ _ q2;rw[show(E9 l).set (k*5) (.string (D9 ({ x with mode:=m }:It).path))=E9 l from e0,show(E9 l).set (k*5+1) (.bool ({ x with mode:=m }:It).dir)=E9 l from e1,show(E9 l).set (k*5+2) (.string (D9 ({ x with mode:=m }:It).data))=E9 l from e2]
 symm
 apply s
 rw[DU (by omega)];exact q4
theorem ma(a:Option Addr)(c:Nat)(l:List It)(w:D7)(hl:Dz w a l)(hn:l.length<=1048576) :
 Calls prog 95 #[.slice a l.length c] w λe w'=>e=.returned (.slice (some ⟨w.heap.size,0,none⟩) (l.length+2) (l.length+2))/\Below w.heap.size w w'/\EP w' w.heap.size (l++FY 2 (-77)):=by
 obtain⟨i0,hi,ai,am,ah⟩:=Ai Iw;obtain⟨n,a4⟩:=Jq l.length;have aj:=run_make (P:=prog) w 26 39 i0 _ underlying26 hi ai .i64 .i64 ((n:Int)+2) ((n:Int)+2) (by omega) (by omega) (by rw[ah];omega) (by omega);rw[show((n:Int)+2).toNat=n+2 by omega,am,show(Value.agg #[.string ByteArray.empty,.bool false,.string ByteArray.empty,.int .i64 0,.int .i64 0]).cells=#[.string ByteArray.empty,.bool false,.string ByteArray.empty,.int .i64 0,.int .i64 0]from rfl,kR]at aj;obtain⟨W1,a9⟩:=Jq (w.alloc (.cells (E9 (FY (n+2) 0)).toArray 39));have a5:EP W1 w.heap.size (FY (n+2) 0):=by rw[a9];exact AQ _ _
 have aa:Below w.heap.size w W1:=by rw[a9];exact(AM _ w).alloc (AB _) _
 rw[<-a9]at aj;have af:Nat.min n (n+2)=n:=Ce (by omega);have a7:∃W2,(Builtin.copy_ #[26,26] 3 #[.slice (some ⟨w.heap.size,0,none⟩) (n+2) (n+2),.slice a n c]).run prog W1=.ok (.int .i64 n) W2/\EP W2 w.heap.size (l++FY 2 0)/\Below w.heap.size w W2:=by
  have a3:EP W1 w.heap.size (FY n 0++FY 2 0):=by
   have e:FY n 0++FY 2 0=FY (n+2) 0:=by unfold FY;rw[List.replicate_append_replicate]
   rw[e];exact a5
  have go:∀ad:Addr,a=some ad->(∀j u,(E9 l)[j]? = some u->W1.cell? (ad.add j)=some u)->∃W2,(Builtin.copy_ #[26,26] 3 #[.slice (some ⟨w.heap.size,0,none⟩) (n+2) (n+2),.slice a n c]).run prog W1=.ok (.int .i64 n) W2/\EP W2 w.heap.size (l++FY 2 0)/\Below w.heap.size w W2:=by
   intro ad ha ae;subst ha;have ac:(E9 l).length=n*5:=by rw[Mm,a4]
   have hr:=rZ prog W1 26 26 3 39 5 w.heap.size 0 (n+2) (n+2) ad n c _ 39 (E9 l) underlying26 Mz a3 (by rw[af,ac]) ae (by rw[ac,BK,Mm,AN,Np,Np];omega) N3;rw[af]at hr;refine⟨_,hr,?_,below_setRow aa (AB _) _⟩;unfold EP;rw[setRow_heap W1 w.heap.size _ _ 39 _ a3]
   congr 3
   rw[List.take_zero,BH,Ao,ac,Oq,Oq,List.drop_append_of_le_length (by rw[Mm,Np];exact AB _),List.drop_of_length_le (by rw[Mm,Np];exact AB _),BH]
  by_cases h0:l=[]
  ·have ao:n=0:=by rw[a4,h0];rfl
   cases ha:a with
   | none =>
     subst ao;refine⟨W1,o7 prog W1 26 26 3 39 _ _ _ c underlying26 (by rw[Mz];rfl),?_,aa⟩;rw[h0];exact a3
   | some ad =>
     rw[<-ha];exact go ad ha (λj u hu=>by rw[h0]at hu;simp[E9]at hu)
  obtain⟨b,off,ha,hc⟩:=hl h0;exact go _ ha (RZ λk x hx=>(hc k x hx).below aa (hc k x hx).lt)
 obtain⟨W2,ar,a0,an⟩:=a7;have ag:(l++FY 2 0)[n]? = some (Fq 0):=by rw[Ad (by omega),a4];simp[FY]
 have a1:=a0.mode ag (-77);have a6:((l++FY 2 0).set n { Fq 0 with mode:=-77 })[n+1]? = some (Fq 0):=by rw[DU (by omega),Ad (by omega),a4];simp[FY]
 have a2:=a1.mode a6 (-77);have a8:((l++FY 2 0).set n { Fq 0 with mode:=-77 }).set (n+1) { Fq 0 with mode:=-77 }=l++FY 2 (-77):=by
  have e:FY 2 0=[Fq 0,Fq 0]:=rfl;rw[e,a4,CB _ _ (AB _),CB _ _ (by omega)];simp;rfl
 rw[a8]at a2;have c3:W2.cell? ⟨w.heap.size,n*5+3,none⟩=some (.int .i64 0):=(a0.cells n _ ag).2.2.2.1;have f3:=a0.frozen (n*5+3);have d3:(W2.setCell ⟨w.heap.size,n*5+3,none⟩ (.int .i64 (-77))).cell? ⟨w.heap.size,(n+1)*5+3,none⟩=some (.int .i64 0):=(a1.cells (n+1) _ a6).2.2.2.1;have g3:=a1.frozen ((n+1)*5+3);have HB:=Jy ((an.setCell (p:=⟨w.heap.size,n*5+3,none⟩) (AB _) (.int .i64 (-77))).setCell (p:=⟨w.heap.size,(n+1)*5+3,none⟩) (AB _) (.int .i64 (-77)));have H4:=Jy a2;rw[<-a4];rw[<-a4]at hn;have au:=Jy a4;clear a5 a0 a1 a2 aa an a9 a8 ag a6 hl af a4 hi ai am ah;go_enter func95,ntmps95
 go_wp2;go_ret
 exact⟨rfl,HB.o,H4.o⟩
theorem lI(x y:It)(w:D7):(binOp .eql 39 (JB x) (JB y)).run prog w=.ok (.bool (decide (x=y))) w:=by
 have h:=Zs x y w;unfold JB at *;rw[run_eql_struct,h];rfl
theorem Xe(G:Nat)(a:Option Addr)(c:Nat)(l:List It)(w:D7)(hG:EP w G (l++FY 2 (-77)))(hl:Dz w a l)(hn:l.length<=1048576) :
 Calls prog 97 #[.slice (some ⟨G,0,none⟩) (l.length+2) (l.length+2),.slice a l.length c] w λe w'=>e=.returned (.bool true)/\∃q,w'=w.drewN q:=by
 have HS:=Jy (GD (some ⟨G,0,none⟩) a (l.length+2) c l l w hG.front hl hn hn);have q0:=hG.cells l.length (Fq (-77)) (by rw[Ad (AB _)];simp[FY]);have q1:=hG.cells (l.length+1) (Fq (-77)) (by rw[Ad (by omega)];simp[FY]);obtain⟨n,a0⟩:=Jq l.length;have ac:∀w,(binOp .eql 39 (.agg #[.string ByteArray.empty,.bool false,.string ByteArray.empty,.int .i64 (-77),.int .i64 0]) (.agg #[.string ByteArray.empty,.bool false,.string ByteArray.empty,.int .i64 (-77),.int .i64 0])).run prog w=.ok (.bool true) w:=λw=>by
  have h:=lI (Fq (-77)) (Fq (-77)) w;rw[Cm rfl]at h;exact h
 have ae:=Vn;rw[<-a0]at HS hn q0 q1 ⊢;have ad:=Jy a0;rw[Cm rfl]at HS;obtain⟨y0,y1,y2,y3,y4⟩:=q0;obtain⟨z0,z1,z2,z3,z4⟩:=q1;have x0:∀q,(w.drewN q).cell? ⟨G,n*5,none⟩=some (.string ByteArray.empty):=λq=>by rw[AJ (w:=w) (by simp)];exact y0
 have x1:∀q,(w.drewN q).cell? ⟨G,n*5+1,none⟩=some (.bool false):=λq=>by rw[AJ (w:=w) (by simp)];exact y1
 have x2:∀q,(w.drewN q).cell? ⟨G,n*5+2,none⟩=some (.string ByteArray.empty):=λq=>by rw[AJ (w:=w) (by simp)];exact y2
 have x3:∀q,(w.drewN q).cell? ⟨G,n*5+3,none⟩=some (.int .i64 (-77)):=λq=>by rw[AJ (w:=w) (by simp)];exact y3
 have x4:∀q,(w.drewN q).cell? ⟨G,n*5+4,none⟩=some (.int .i64 0):=λq=>by rw[AJ (w:=w) (by simp)];exact y4
 have u0:∀q,(w.drewN q).cell? ⟨G,(n+1)*5,none⟩=some (.string ByteArray.empty):=λq=>by rw[AJ (w:=w) (by simp)];exact z0
 have u1:∀q,(w.drewN q).cell? ⟨G,(n+1)*5+1,none⟩=some (.bool false):=λq=>by rw[AJ (w:=w) (by simp)];exact z1
 have u2:∀q,(w.drewN q).cell? ⟨G,(n+1)*5+2,none⟩=some (.string ByteArray.empty):=λq=>by rw[AJ (w:=w) (by simp)];exact z2
 have u3:∀q,(w.drewN q).cell? ⟨G,(n+1)*5+3,none⟩=some (.int .i64 (-77)):=λq=>by rw[AJ (w:=w) (by simp)];exact z3
 have u4:∀q,(w.drewN q).cell? ⟨G,(n+1)*5+4,none⟩=some (.int .i64 0):=λq=>by rw[AJ (w:=w) (by simp)];exact z4
 clear y0 y1 y2 y3 y4 z0 z1 z2 z3 z4 a0 hG hl;go_enter func97,ntmps97
 go_wp2_with fail;refine HS.o.mono ?_;rintro e w' ⟨rfl,q,hw⟩;have a6:=x0 q;have a2:=x1 q;have aa:=x2 q;have a7:=x3 q;have a3:=x4 q;have a5:=u0 q;have a4:=u1 q;have a9:=u2 q;have a1:=u3 q;have a8:=u4 q;rw[<-hw]at a6 a2 aa a7 a3 a5 a4 a9 a1 a8;have Hw:=Jy hw;clear x0 x1 x2 x3 x4 u0 u1 u2 u3 u4 hw HS;go_wp2;go_ret
 exact⟨rfl,q,Hw.o⟩
theorem Ph{B:Nat}{w W:D7}(h:Below B w W)(q:Nat):Below B w (W.drewN q):=below_drewN h q
theorem sO{l:List It}{k:Nat}{x:It}(h:l[k]? = some x):FE (l.take (k+1))=FE (l.take k)+(16+x.path.length+x.data.length):=by
 rw[Ah,h];unfold FE;simp[Aq,List.sum_append]
end
end Go.Proofs.YtodmdkhdbfbfgaaGreatDoor
