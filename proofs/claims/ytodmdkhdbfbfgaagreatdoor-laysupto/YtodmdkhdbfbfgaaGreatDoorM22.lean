/- Lemmas. -/
import Derived.Deep.RegionLaw
import Derived.Test.YtodmdkhdbfbfgaaGreatDoorM21
set_option linter.unusedVariables false
set_option linter.unusedSimpArgs false
set_option maxRecDepth 100000
set_option maxHeartbeats 8000000
open Go.Proofs.Tryz
abbrev Go.Cv:=@Go.wpAnyIn_done
namespace Go.Proofs.YtodmdkhdbfbfgaaGreatDoor
namespace S1
open Go.RowKit Pk Go.Shelf
open Go.Nt (Fp Dp FJ E0 JZ M0 EB FG Ei KG GF)
attribute [local go_sem] Oper.semAt_some
def Qm(l:List Fp)(w:D7)(e:Ending)(w':D7):Prop:=∃(v:Value) (ord:List (Nat × Nat)) (ib nb:Nat->Nat->Nat),e=.returned v/\F9 l ord/\ord.length<=100000*100000/\w'.ownsRow w.heap.size 94 5 v ord.length (Mg l ib ord.reverse) /\
 (∀x∈ord,FG l x.1 x.2=some (FQ l x.1 x.2)/\w.heap.size<=ib x.1 x.2/\nb x.1 x.2<=100000/\EK w' (ib x.1 x.2) (nb x.1 x.2) (KG (FQ l x.1 x.2)))/\Below w.heap.size w w'
theorem NA(w:D7)(lo hi cb:Nat)(L:Loc)(m:M)(hw:WF m)(h:CP w lo hi cb L m)(hsz:hi<=w.heap.size)(hlf:m.Da≠0)(l:List Fp)(hl:EB (Fs m) m.np m.nb=l)(hok:∀f∈l,JZ f/\f.Dg<1000) :
 CallsIn Fence.wide 20 prog 45 #[.pointer (some ⟨cb,0,none⟩)] w λe w'=>Qm l w e w':=by
 obtain⟨i0,ej,ea,eB,ek⟩:=Ai QJ;have bc:m.nb*m.np<=100000:=by
  have h1:=hw.Iu;have h2:=hw.Jv
  calc m.nb*m.np<=32*16:=Cn (by omega) (by omega)
   _<=100000:=by omega
 have A:=Jy (O9 w lo hi cb L m hw h hsz hlf);obtain⟨z0,hz⟩:=Jq w.heap.size;have Hz:=Jy hz;have Hl:=Jy hl;have Hh:=Jy h;have dR:=Jy hok;unfold Qm;rw[<-hz];clear hl hz h hok;refine callsIn_of_wp_marks func45 rfl trivial ?_ rfl;simp only[ntmps45,BK,AY,B7,Nat.reduceAdd,Nat.reduceSub,BZ,BY,Bj,B9,BH,BR];gi_wp2_with fail;refine⟨trivial,(BP.2 A.o).mono ?_⟩;rintro e w1 ⟨rfl,bD,cB⟩;rw[<-Hz.o]at bD cB ⊢;rw[Hl.o]at bD;have dX:=Jy bD;have e5:=Jy cB;obtain⟨gm,bq⟩:=Jq w1.heap.size;have dq:z0<gm:=by rw[bq];exact bD.lt
 obtain⟨W2,bA⟩:=Jq (w1.alloc (.map #[] 0));obtain⟨W3,aj⟩:=Jq (W2.alloc (.cells #[.map (some gm)] 137));have s2:W2.heap.size=gm+1:=by rw[bA,bq];simp
 have s3:W3.heap.size=gm+2:=by rw[aj];simp[s2]
 have dP:=nR w1;rw[<-bA,<-bq]at dP;have o2:W2.ownsMap prog 90 Iq gm 0 (.map []):=by rw[bA,bq];exact Cw w1 _ _ _
 have b3:Below gm w1 W3:=by rw[aj,bA,bq];exact((AM _ w1).alloc (AB _) _).alloc (by simp) _
 have o3:W3.ownsMap prog 90 Iq gm 0 (.map []):=Rf o2 (by rw[aj];exact AO _ _ _ (by omega));have bi:=K5 aj s2;have bg:Gk W3 z0 (m.nb*m.np) (Dp l):=bD.of_block (b3.block z0 dq);have B:=Jy (Ya W3 z0 (m.nb*m.np) l bg bc (λf hf=>(dR.o f hf).1));have dU:=Jy bA;have cF:=Jy aj;have eH:=Jy bq;have el:=Jy s2;have eu:=Jy s3;have dA:=Jy o3;have dn:=Jy bi;have dw:=Jy bg;have dT:=Jy (cB.trans (b3.mono (CN dq)));clear bD cB bq bA aj s2 s3 o2 o3 b3 bi bg A dX;gi_wp2_with (first | (rw[<-cF.o,el.o]) | fail);refine⟨trivial,(BP.2 B.o).mono ?_⟩;rintro e w4 ⟨rfl,dB,ag⟩;rw[eu.o]at dB ag ⊢;obtain⟨D,cx,dD,dv⟩:=dB;have eg:Hid (∀b n,b<=1000000->n<=4294967295->Maps.has D (lk b n)=FJ l b n):=Jy dD
 have em:Hid (∀kl,Maps.has D kl=true->∃x y,x<=1000000/\y<=4294967295/\kl=lk x y):=Jy (λkl hk=>by
  obtain⟨x,y,h1,h2,rfl⟩:=dv kl hk;exact⟨x,y,h1,h2,rfl⟩)
 have cW:Maps.size D<=100000:=cx.size_le;have cQ:=cx.lt;have dj:=Jy (Rf (w':=w4) dA.o (ag.zK gm));have dE:=Jy ((ag.zK (gm+1)).trans dn.o);have ds:=Jy (dw.o.of_block (ag.zK z0));have dh:=Jy (dT.o.trans (ag.zM));clear dD dv ag B;gi_wp2_with (first | (gi_at_range;refine wpListIn_range_own _ rfl _ 130 rfl 90 243 Gl underlying130 _ (gm+2) _ D rfl cx ?_;intro w5 b9 bV cO) | gi_in)
 go_frame
 obtain⟨rr,du⟩:=Jq w4.heap.size;have dM:=Jy (Rf (w':=w5) dj.o (bV.block gm (by omega) (λe=>by cases e)));have dF:=Jy ((bV.block (gm+1) (by omega) (λe=>by cases e)).trans dE.o);have dN:=Jy (ds.o.of_block (bV.block z0 (by omega) (λe=>by cases e)));have dH:=Jy (dh.o.grown bV (by omega) (λk e=>by cases e));rw[<-du]at b9 cO cQ ⊢;have cf:=Jy b9;clear b9 du bV cx dj dE ds dh dP dU cF dA dn dw dT e5
 gi_loopw [17] (λ_ wx=>∃(left:Lit->Bool) (cnt n:Nat),wx.ranges prog 90 unitElem (gm+2) rr 100000 D left cnt/\n+cnt<=100000/\Hid (Vl wx left (rr+1) gm n l (Maps.has D))/\Hid (Gk wx z0 (m.nb*m.np) (Dp l))/\Hid (wx.heap[gm+1]? = some (.cells #[.map (some gm)] 137 (0,0)))/\Hid (Below z0 w wx)/\rr<wx.heap.size)
  (λ_ wx=>wx.rangeLeft (gm+2) rr)
 case atStart=>exact⟨_,_,0,cf.o,by simpa using cW,Jy ⟨_,_,_,_,WM.made l dM.o,λb r _ _=>by cases Maps.has D (lk b r)<;>simp⟩,dN,dF,dH,by omega⟩
 case round =>
  clear cf dM dF dN dH;obtain⟨left,cnt,n6,cE,dI,HS,HF,HR,HB,eI⟩:=hrel;gi_wp2_with (first | (gi_at_next;refine wpListIn_next_ranges _ rfl _ rfl 90 Gl unitElem id id (λkey kl hk=>⟨key,rfl⟩) (λv _ _=>⟨v,rfl⟩) (gm+2) rr 100000 _ _ _ rfl cE ?_ ?_) | gi_in)
  ·intro _ dp;obtain⟨DW,S,ib,nb,a3,bI⟩:=HS.o;have dS:∀b r,b<=1000000->r<=4294967295->S b r=Eh l b r:=λb r h1 h2=>by
    rw[bI b r h1 h2,dp,eg.o b r h1 h2];unfold Eh;simp
   have bz:=Jy dS;obtain⟨W7,bE⟩:=Jq (wr.alloc (.cells #[.slice none 0 0] 86));obtain⟨q7,cy⟩:=Jq wr.heap.size;have s7:=L0 bE cy.symm;have dc:∀k,k<q7->W7.heap[k]? = wr.heap[k]? := λk hk=>by rw[bE];exact Lh
   have cU:=K5 bE cy.symm;have cS:∀b r,S b r=true->ib b r<q7:=λb r h=>by have:=(a3.Lo b r h).2.2.2.2.2.2.lt;omega
   have bb:W7.heap[gm+1]? = some (.cells #[.map (some gm)] 137 (0,0)):=(dc _ (by omega)).trans HR.o;have cc:WM W7 (rr+1) gm n6 l DW S ib nb:=a3.kept (λk _ hl=>dc k (by omega));have k7:=Dv 0 bb;have dk:=Jy cU;have dL:OS w z0 gm q7 (rr+1) 0 n6 l DW S ib nb [] W7:=⟨⟨_,cU,AZ _ _ _ _⟩,cc,cS,bb,by rw[bE];exact HB.o.zA⟩;have bC:=Jy dL;have eL:rr<q7:=by omega
   have eC:=Jy bE;have e9:=Jy cy;have cj:=Jy s7;clear cE HS HF HR HB bE cy dc cU bb dL a3 cc s7 dp bI dS;gi_wp2_with (first | (rw[<-eC.o,<-e9.o]) | fail);refine⟨trivial,(BP.2 (gw (some gm) W7)).mono ?_⟩;rintro e w8 ⟨rfl,co⟩;rw[cj.o];have s8:w8.heap.size=q7+2:=by rw[co];simp[cj.o]
   have b8:Below (q7+1) W7 w8:=by rw[co];exact(AM _ _).alloc (by rw[cj.o];omega) _
   have c8:w8.cell? ⟨q7+1,0,none⟩=some (.map (some gm)):=by rw[co,<-cj.o];simp
   have ao:WM w8 (rr+1) gm n6 l DW S ib nb:=bC.o.wm.KX bC.o.lo (λk hk hl=>b8.zK k);have b6:=iD 17 (by omega) (q7+1) gm n6 _ w8 (by omega) c8 ao.own (λkl hk=>by
    obtain⟨b,r,h1,h2,e⟩:=ao.keys kl hk;exact⟨(b,r),⟨h1,h2⟩,e⟩)
   have C8:=Jy (pD 19 (by omega) 143 _ (enters_of func143 (by kernel_rfl) rfl) _ _ (AF ao.own.size_le (by omega)) w8 b6);have bf:=Jy ao.has;have cH:=Jy b8;have cC:=Jy s8;have ev:=Jy ao.own;clear b6 b8 s8 c8 co ao;gi_wp2_with fail;refine⟨trivial,C8.o.mono ?_⟩;rintro e w9 ⟨v9,xs,rfl,⟨cz,aH,av⟩,aD,an,bu⟩;by_cases bU:xs=[]
   ·have dZ:=an.2 bU;subst bU;subst dZ;have aQ:∀b r,b<=1000000->r<=4294967295->Eh l b r=false:=λb r h1 h2=>by
     rw[<-bz.o b r h1 h2,<-bf.o b r h1 h2];cases hh:Maps.has DW (lk b r)with
     | false=>rfl
     | true=>have:=(av (b,r) ⟨h1,h2⟩).2 hh;cases this
    have HT:Hid (F9 l []):=Jy ⟨[],[],λ_=>[],List.nodup_nil,λx=>⟨λh=>(by cases h),λ⟨h1,h2,h3⟩=>(by rw[aQ x.1 x.2 h1 h2]at h3;cases h3)⟩,by simp[Asc],List.nodup_nil,by simp[numsOf],λb hb=>(by cases hb),rfl⟩;have aI:Below (q7+1) W7 w9:=cH.o.trans (bu.mono (by rw[cC.o];omega));have s9:q7+2<=w9.heap.size:=by have:=bu.size;rw[cC.o]at this;exact this
    have bM:=Jy aI;clear cz aH av aD an bu aI C8 cH aQ;gi_wp2_with fail;refine⟨trivial,(BP.2 (iz w9)).mono ?_⟩;rintro e a5 ⟨rfl,ah⟩;have aG:Below (q7+1) W7 a5:=bM.o.trans (ah.zM);have ei:q7+2<=a5.heap.size:=by have:=ah.size;omega
    have aF:=Jy aG;clear ah aG bM s9;gi_wp2_with fail;refine⟨trivial,(BP.2 (XF none 0 0 a5)).mono ?_⟩;rintro e aa ⟨rfl,a7⟩;have dY:=L0 a7;have bB:=KD a7;have ci:aa.cell? ⟨a5.heap.size,0,none⟩=some (.slice none 0 0):=by rw[a7];simp
    have br:=jM 19 (by omega) aa a5.heap.size aa.heap.size (λk=>k=a5.heap.size) (by omega) ci;have a0:Below (q7+1) W7 aa:=aF.o.trans (bB.zM);obtain⟨a9,aC⟩:=Jq aa.heap.size;have bj:OS w z0 gm q7 (rr+1) a9 n6 l DW S ib nb [] aa:=by
     obtain⟨⟨v,aE,ae⟩,a3,ai,aO,aP⟩:=bC.o;exact⟨⟨_,(a0.zK q7).trans dk.o,AZ _ _ _ _⟩,a3.KX ai (λk hk hl=>a0.zK k),ai,(a0.zK _).trans aO,aP.trans (a0.zM)⟩
    have aB:=Jy aC;clear a7 bB ci k7 bC aF a0 aC;gi_wp2_with fail;refine UQ rfl (by omega) (gf:=138) (lb:=#[.pointer (some ⟨a5.heap.size,0,none⟩)]) rfl trivial (enters_of func138 (by kernel_rfl) rfl) br (AB _) (λk h=>by omega) (λ_=>rfl) (OS w z0 gm q7 (rr+1) a9 n6 l DW S ib nb)
     (λs A C row hs hg hr=>hs.grown (B:=aa.heap.size) (by omega) (by omega) (by omega) (by have:=hs.wm.own.lt;omega) hg hr) bj
     (λx W=>{ tmps:=#[.pointer (some ⟨cb,0,none⟩),undef,.slice none 0 0,.map (some z0),.pointer (some ⟨gm+1,0,none⟩),u5,u6,u7,.pointer (some ⟨q7,0,none⟩),undef,.pointer (some ⟨W.heap.size,0,none⟩),.pointer (some ⟨cb,0,none⟩),.map (some z0),.map (some gm),.map (some z0),.map (some (gm+2)),.pointer (some ⟨rr,0,none⟩),.tuple #[.bool false],.bool false,u19,u20,u21,u22,u23,u24,u25,u26,u27,u28,u29,u30,.map (some gm),.func (.func 143) #[] #[.pointer (some ⟨q7+1,0,none⟩)],.slice none 0 0,.slice none 0 0,.func (.func 138) #[] #[.pointer (some ⟨a5.heap.size,0,none⟩)],.int .i64 (x.1:Nat),.agg #[.int .i64 (x.2.1:Nat),.int .u32 (x.2.2:Nat)],undef,undef,undef,undef,undef,undef,undef],defers:=[] }) (λx W=>W.alloc (.cells #[.int .i64 (x.2.1:Nat),.int .u32 (x.2.2:Nat)] 90)) (λx W=>Nu) ?nas ?nassign ?nbody ?ndone
    case nas=>exact λaT x W hs=>hs.grown (B:=aa.heap.size) (by omega) (by omega) (by omega) (by have:=hs.wm.own.lt;omega) (BV W _ none) (λr e=>by cases e)
    case nassign =>
     intro l x W K hK;unfold Le;gi_wp2;exact hK
    case nbody =>
     intro l0 aT x W V hV hI aA eo cP
     have:=aA.length_le
     simp at this
    intro D' W hD hI hK;obtain⟨⟨v,aE,ae⟩,a3,ai,aO,aP⟩:=hI;obtain⟨e4,et⟩:=cell_of_box_a aE;have ad:z0<=a9:=by have:=aB.o;omega
    rcases ae.2 with⟨rfl,_⟩ | ⟨g3,cap3,cur3,rfl,_⟩
    all_goals
     gi_wp2;refine⟨by simp,.inl ⟨_,_,rfl,run_takeDeferred hK,?_⟩⟩;exact⟨_,results_tmp rfl _ _ _,_,[],ib,nb,rfl,HT.o,by simp,ownsRow_base_a (ae.kept (grownBy_putObj_a _ _ _) (ownsRow_ne_a ae hK (λdl e=>by cases e))) ad,λx hx=>(by cases hx),aP.grown (grownBy_putObj_a _ _ _) (by have:=a3.own.lt;omega) (λk e=>by cases e;omega)⟩
   obtain⟨⟨b0,r0⟩,bJ⟩:=Cd _ bU;have bp:=bU;have cV:xs.length<=100000:=AF (m7 ev.o cz aH (λx hx=>(av x (aH x hx)).1 hx)) (by omega);have cM:∀x,x∈xs↔(x.1<=1000000/\x.2<=4294967295/\Eh l x.1 x.2=true):=λx=>by
    constructor
    ·intro hx;have h1:=aH x hx;have h2:=(av x h1).1 hx;rw[bf.o x.1 x.2 h1.1 h1.2,bz.o x.1 x.2 h1.1 h1.2]at h2;exact⟨h1.1,h1.2,h2⟩
    rintro⟨h1,h2,h3⟩;exact(av x ⟨h1,h2⟩).2 (by rw[bf.o x.1 x.2 h1 h2,bz.o x.1 x.2 h1 h2];exact h3)
   rcases aD.2 with⟨h0,_⟩ | ⟨g9,cap9,cur9,rfl,q1,q2,q3,q4,q5,q6⟩
   ·exact absurd (an.1 h0) bp
   have C9:=Jy (py w9 g9 cap9 cur9 xs q2 q6 bp cV (λx hx=>(cM x).1 hx |>.elim λa b=>⟨a,b.1⟩));obtain⟨nx,dr⟩:=Jq xs.length;rw[<-dr]at C9 ⊢;have aI:Below (q7+1) W7 w9:=cH.o.trans (bu.mono (by rw[cC.o];omega));have s9:q7+2<=w9.heap.size:=by have:=bu.size;rw[cC.o]at this;exact this
   have bM:=Jy aI;have dG:=Jy cM;have dC:=Jy cz;have bY:=Jy bJ;have dm:Hid (xs.length<=100000):=Jy cV;clear cz aH av aD an bu q1 q2 q3 q4 q5 q6 aI C8 cH cM bJ dr cV bp bU;gi_wp2_with fail;refine⟨trivial,(BP.2 C9.o).mono ?_⟩;rintro e a5 ⟨eE,ks,rs,rfl,ca,bm,am,cu,af,ah⟩;obtain⟨au,aJ⟩:=Jq (ks.flatMap (λb=>FX b (rs b)));rw[<-aJ]at af;have HT:Hid (F9 l au):=Jy ⟨xs,ks,rs,dC.o,dG.o,ca,bm,am,cu,aJ⟩;have bF:au≠[]:=λe=>by
    have h1:r0∈numsOf xs b0:=Am.2 ⟨(b0,r0),BC.2 ⟨bY.o,by simp⟩,rfl⟩;have h2:b0∈ks:=(am b0).2 (λe'=>by rw[e']at h1;cases h1);obtain⟨ys,hp,_,er⟩:=cu b0 h2;have h3:0<ys.length:=List.length_pos_of_mem (hp.mem_iff.2 h1);have h4:(rs b0).length=ys.length:=by rw[er];simp;omega
    have h5:au.length=0:=by rw[e];rfl
    cases hr:rs b0 with
    | nil=>rw[hr]at h4;simp at h4;omega
    | cons y l' =>
      have:(b0,y)∈au:=by rw[aJ];exact List.mem_flatMap.2 ⟨b0,h2,Am.2 ⟨y,by rw[hr];simp,rfl⟩⟩
      rw[e]at this;cases this
   have dO:au.length<=100000*100000:=by
    have h1:ks.length<=100000:=by
     have:=Jg ks (xs.map (·.1)) bm (λb hb=>by
      obtain⟨x,hx⟩:=Cd _ ((am b).1 hb);unfold numsOf at hx;obtain⟨y,hy,rfl⟩:=Am.1 hx
      have:=BC.1 hy
      exact Am.2 ⟨y,this.1,by simpa using this.2⟩)
     rw[Bn]at this
     have:=dm.o
     omega
    have h2:=lq ks (λb=>FX b (rs b)) 100000 (λb hb=>by
     obtain⟨ys,hp,_,er⟩:=cu b hb;have e1:(rs b).length=ys.length:=by rw[er];simp;omega
     have e2:=hp.length_eq;have e3:=eO xs b
     have:=dm.o
     simp only[FX,Bn];omega)
    rw[aJ];exact AF h2 (Ba _ h1)
   rcases af.2 with⟨_,h0⟩ | ⟨g10,cap10,cur10,rfl,q1,q2,q3,q4,q5,q6⟩
   ·exact absurd (BN.1 h0) bF
   have aG:Below (q7+1) W7 a5:=bM.o.trans (ah.zM);have ei:q7+2<=a5.heap.size:=by have:=ah.size;omega
   have bK:=lt_of_heap q2;have di:q7<g10:=by omega
   have aF:=Jy aG;obtain⟨no,aQ⟩:=Jq au.length;have ef:=Jy aQ;rw[<-aQ];clear ca bm am cu aJ dC bY dG af ah q1 q3 q4 q5 aG C9 bM s9 aQ;gi_wp2_with fail;refine⟨trivial,(BP.2 (XF (some ⟨g10,0,none⟩) no cap10 a5)).mono ?_⟩;rintro e aa ⟨rfl,a7⟩;have dY:=L0 a7;have bB:=KD a7;have ci:aa.cell? ⟨a5.heap.size,0,none⟩=some (.slice (some ⟨g10,0,none⟩) au.length cap10):=by rw[a7,ef.o];simp
   have br:=kP 19 (by omega) aa a5.heap.size g10 cap10 au aa.heap.size (λk=>k=a5.heap.size\/k=g10) (by omega) (by omega) (.inl rfl) (.inr rfl) dO ci cur10 ((bB.block g10 bK).trans q2) q6;have a0:Below (q7+1) W7 aa:=aF.o.trans (bB.zM);obtain⟨a9,aC⟩:=Jq aa.heap.size;have bj:OS w z0 gm q7 (rr+1) a9 n6 l DW S ib nb [] aa:=by
    obtain⟨⟨v,aE,ae⟩,a3,ai,aO,aP⟩:=bC.o;exact⟨⟨_,(a0.zK q7).trans dk.o,AZ _ _ _ _⟩,a3.KX ai (λk hk hl=>a0.zK k),ai,(a0.zK _).trans aO,aP.trans (a0.zM)⟩
   have aB:=Jy aC;clear a7 bB ci k7 bC aF a0 q2 q6 aC;gi_wp2_with fail;refine UQ rfl (by omega) (gf:=138) (lb:=#[.pointer (some ⟨a5.heap.size,0,none⟩)]) rfl trivial (enters_of func138 (by kernel_rfl) rfl) br (AB _) (λk h=>by rcases h with h | h<;>omega) (λ_=>rfl) (OS w z0 gm q7 (rr+1) a9 n6 l DW S ib nb)
    (λs A C row hs hg hr=>hs.grown (B:=aa.heap.size) (by omega) (by omega) (by omega) (by have:=hs.wm.own.lt;omega) hg hr) bj
    (λx W=>{ tmps:=#[.pointer (some ⟨cb,0,none⟩),undef,.slice none 0 0,.map (some z0),.pointer (some ⟨gm+1,0,none⟩),u5,u6,u7,.pointer (some ⟨q7,0,none⟩),undef,.pointer (some ⟨W.heap.size,0,none⟩),.pointer (some ⟨cb,0,none⟩),.map (some z0),.map (some gm),.map (some z0),.map (some (gm+2)),.pointer (some ⟨rr,0,none⟩),.tuple #[.bool false],.bool false,u19,u20,u21,u22,u23,u24,u25,u26,u27,u28,u29,u30,.map (some gm),.func (.func 143) #[] #[.pointer (some ⟨q7+1,0,none⟩)],.slice (some ⟨g9,0,none⟩) nx cap9,.slice (some ⟨g10,0,none⟩) no cap10,.func (.func 138) #[] #[.pointer (some ⟨a5.heap.size,0,none⟩)],.int .i64 (x.1:Nat),.agg #[.int .i64 (x.2.1:Nat),.int .u32 (x.2.2:Nat)],undef,undef,undef,undef,undef,undef,undef],defers:=[] }) (λx W=>W.alloc (.cells #[.int .i64 (x.2.1:Nat),.int .u32 (x.2.2:Nat)] 90)) (λx W=>Nu) ?has2 ?assign ?body ?done
   case has2=>exact λaT x W hs=>hs.grown (B:=aa.heap.size) (by omega) (by omega) (by omega) (by have:=hs.wm.own.lt;omega) (BV W _ none) (λr e=>by cases e)
   case assign =>
    intro l x W K hK;unfold Le;gi_wp2;exact hK
   case body =>
    intro l0 aT x W V hV hI aA eo cP;obtain⟨i',b,r⟩:=x;have cG:S b r=true:=by
     have h1:(i',b,r)∈bw au:=aA.subset (by simp);have h2:(b,r)∈au:=by
      have:=List.mem_map_of_mem (f:=(·.2)) h1
      rw[YQ]at this;exact DR.1 this
     have h3:=HT.o.mem h2;rw[bz.o b r h3.1 h3.2.1];exact h3.2.2
    have eK:aT.length<=100000*100000:=by
     have:=aA.length_le
     rw[TT]at this;simp at this;omega
    obtain⟨⟨v,aE,d6⟩,a3,ai,aO,aP⟩:=hI;obtain⟨hb,hr,-,-,eG,-,-⟩:=a3.Lo b r cG;have ec:=ai b r cG;have eq:q7<V.heap.size:=lt_of_heap aE;have eh:gm+1<V.heap.size:=lt_of_heap aO;dsimp only at hV cP ⊢;obtain⟨kb,b7⟩:=Jq W.heap.size;have d7:V.heap[kb]? = some (.cells #[.int .i64 b,.int .u32 r] 90 (0,0)):=by
     rw[b7,hV _ (AB _) (by simp)];exact AQ _ _
    rw[<-b7];obtain⟨X,hX⟩:=Jq (D9 (Ei (FQ l b r)));obtain⟨E,hE⟩:=Jq (GF (FQ l b r));obtain⟨IB,d5⟩:=Jq (ib b r);have a8:=Dv 0 aE;have a4:=Dv 0 aO;have ab:=Dv 0 d7;have ar:=Dv 1 d7;have eM:(Instr.lookup 137 (.map (some gm)) (.agg #[.int .i64 b,.int .u32 r]) false).run prog V.drew=.ok (.agg #[.string X,.int .i64 b,.int .u32 r,.map (some IB),.int .i64 E]) V.drew:=by
     rw[hX,hE,d5];exact(a3.KX (w':=V.drew) ai (λ_ _ _=>rfl)).look cG
    obtain⟨V2,bs⟩:=Jq ((V.alloc (.cells #[.string X,.int .i64 b,.int .u32 r,.map (some IB),.int .i64 E] 94)).drew);have ep:V2.heap.size=V.heap.size+1:=by rw[bs];show(V.alloc _).heap.size=_;simp
    have bT:∀k,k<V.heap.size->V2.heap[k]? = V.heap[k]? := λk hk=>by rw[bs];exact AO V _ k hk
    have df:V2.heap[V.heap.size]? = some (.cells #[.string X,.int .i64 b,.int .u32 r,.map (some IB),.int .i64 E] 94 (0,0)):=by rw[bs];exact AQ _ _
    have eF:=Dv 0 ((bT q7 (by omega)).trans aE);have dx:V.grownBy V2 none:=by rw[bs];exact⟨rfl,rfl,rfl,by simp,λk hk _=>AO V _ k hk⟩
    have bh:V2.ownsRow a9 94 5 v aT.length (Mg l ib (aT.map (·.2))):=d6.kept dx (by cases v.ownBlock<;>simp);have en:W.heap.size+1<=V.heap.size:=by simpa using cP
    have ad:a9<=V2.heap.size:=by have:=aB.o;omega
    obtain⟨v3,w3,aN,ac,bl,bP,cY⟩:=run_append_own_at (P:=prog) V2 a9 86 86 94 i0 _ 5 48 underlying86 ej ea eB ek rfl (by decide) v aT.length _ bh ⟨V.heap.size,0,none⟩ 1 1 [.string X,.int .i64 b,.int .u32 r,.map (some IB),.int .i64 E] rfl (World.news_of_block (cs:=#[.string X,.int .i64 b,.int .u32 r,.map (some IB),.int .i64 E]) df) (by simp[Value.oneCell']) (by unfold maxLen;omega) (by omega) ad;have cl:∀k,v.ownBlock=some k->a9<=k:=λk e=>(d6.lt k e).1
    have dy:a5.heap.size+1=a9:=by have:=aB.o;omega
    have ae:w3.heap[q7]? = some (.cells #[v] 86 (0,0)):=(bl.block q7 (by omega) (λe=>by have:=cl q7 e.symm;omega)).trans ((bT q7 (by omega)).trans aE);obtain⟨ex,f8⟩:=cell_of_box_a ae;rcases ac.2 with⟨_,h0⟩ | ⟨g3,cap3,cur3,rfl,q1,q2,q3,q4,q5,q6⟩
    ·omega
    obtain⟨np,cR⟩:=Jq (aT.length+1);rw[<-cR]at aN ac;obtain⟨w4,cw⟩:=Jq (w3.setCell ⟨q7,0,none⟩ (.slice (some ⟨g3,0,none⟩) np cap3));have bS:w3.grownBy w4 (some q7):=by rw[cw];exact grownBy_setCell0_a _ _ _
    have eA:V2.heap.size<=w3.heap.size:=bl.size;have cm:∀k,k≠q7->k<a9->k<V.heap.size->w4.heap[k]? = V.heap[k]? := λk hk hz hl=>(bS.block k (by omega) (λe=>by cases e;exact hk rfl)).trans ((bl.block k (by omega) (λe=>by have:=cl k e.symm;omega)).trans (bT k hl))
    have a6:∀a,Y7 aa.heap.size (λk=>k=a5.heap.size\/k=g10) (OS w z0 gm q7 (rr+1) a9 n6 l DW S ib nb) (aT++[(i',b,r)]) V .normal a w4:=λa=>by
     refine⟨?_,λk h => ?_,⟨⟨_,by rw[cw];exact heap_setCell_box_a _ ae,?_⟩,a3.KX ai (λk hk hl=>cm k (by omega) (by omega) hl),ai,(cm _ (by omega) (by omega) (by omega)).trans aO,?_⟩⟩
     ·refine KeepsFrom.trans (?_:KeepsFrom _ V V2) (KeepsFrom.trans (?_:KeepsFrom _ V2 w3) (KeepsFrom.of_grownBy bS (λj e=>by cases e;omega)))
      ·exact⟨by omega,λk o _ hk _=>(bT k (lt_of_heap hk)).trans hk⟩
      exact⟨bl.size,λk o _ hk ed=>(bl.block k (lt_of_heap hk) (λe=>by
       rcases bh.2 with⟨e2,_⟩ | ⟨g',cap',cur',e2,_,e3,_⟩
       ·rw[e2]at e;cases e
       rw[e2]at e;cases e;rw[hk]at e3;cases e3;cases ed)).trans hk⟩
     ·exact cm k (by rcases h with h | h<;>omega) (by rcases h with h | h<;>omega) (by rcases h with h | h<;>omega)
     ·have:=ac.kept bS (ownsRow_ne_a ac ae (λdl e=>by cases e))
      rw[Aq,List.map_singleton,rm,AN,List.length_singleton,<-cR];unfold Mi;rw[<-hX,<-hE,<-d5];exact this
     have e6:Below z0 w V2:=by rw[bs];exact(aP.zA).drew
     exact(e6.grown bl (by omega) (λk e=>by have:=cl k e;omega)).grown bS (by omega) (λk e=>by cases e;omega)
    have aS:=Jy bs;have aU:=Jy cw;clear hV b7 d7 aE d6 bh a3 ai aO aP hX hE d5 bT df ac bl bP cY ae q1 q2 q3 q4 q5 q6 bS eA cm eh ep bs cw eq dx cl cR aA cG;gi_wp2_with fail;refine wpIn_region_any (by kernel_rfl) ?_;refine CQ (rs:=[0,1,2]) (by kernel_rfl) (by simp) ?_;refine BO rfl (λK hK => ?_) (BO rfl (λK hK => ?_) (BO rfl (λK hK => ?_) (CV)))
    ·go_simp;refine hK _ _ ?_;clear hK K;refine CQ (rs:=[1,2]) (by kernel_rfl) (by simp) ?_;refine BO rfl (λK hK => ?_) (BO rfl (λK hK => ?_) (CV))
     focus
      go_simp;refine hK _ _ ?_;clear hK K;refine CQ (rs:=[2]) (by kernel_rfl) (by simp) ?_
     rotate_left
     focus
      go_simp;refine hK _ _ ?_;clear hK K;refine CQ (rs:=[1]) (by kernel_rfl) (by simp) ?_
     rotate_left
     all_goals
      refine BO rfl (λK hK => ?_) (CV)
      ·go_simp;refine hK _ _ ?_;clear hK K;refine IC 3 (by kernel_rfl) rfl (λK hK => ?_)
       ·go_simp;refine hK _ _ ?_;clear hK K;refine IC 4 (by kernel_rfl) rfl (λK hK => ?_)
        ·go_simp;refine hK _ _ ?_;rw[<-aS.o];clear hK K;refine IC 5 (by kernel_rfl) rfl (λK hK => ?_)
         ·refine OM rfl _ _ 86 rfl v (.slice (some ⟨V.heap.size,0,none⟩) 1 1) rfl rfl _ _ aN (hK _ _ ?_);simp only[Act.put,Be,List.set];clear hK K;refine IC 6 (by kernel_rfl) rfl (λK hK => ?_)
          ·go_simp;refine hK _ _ ?_;rw[<-aU.o];clear hK K;refine Cv (by kernel_rfl) ?_ _;exact a6 { tmps:=#[],defers:=[] }
    ·go_simp;refine hK _ _ ?_;clear hK K;refine CQ (rs:=[0,2]) (by kernel_rfl) (by simp) ?_;refine BO rfl (λK hK => ?_) (BO rfl (λK hK => ?_) (CV))
     ·go_simp;refine hK _ _ ?_;clear hK K;refine IC 2 (by kernel_rfl) rfl (λK hK => ?_)
      ·go_simp;refine hK _ _ ?_;clear hK K;refine IC 3 (by kernel_rfl) rfl (λK hK => ?_)
       ·go_simp;refine hK _ _ ?_;clear hK K;refine IC 4 (by kernel_rfl) rfl (λK hK => ?_)
        ·go_simp;refine hK _ _ ?_;rw[<-aS.o];clear hK K;refine IC 5 (by kernel_rfl) rfl (λK hK => ?_)
         ·refine OM rfl _ _ 86 rfl v (.slice (some ⟨V.heap.size,0,none⟩) 1 1) rfl rfl _ _ aN (hK _ _ ?_);simp only[Act.put,Be,List.set];clear hK K;refine IC 6 (by kernel_rfl) rfl (λK hK => ?_)
          ·go_simp;refine hK _ _ ?_;rw[<-aU.o];clear hK K;refine Cv (by kernel_rfl) ?_ _;exact a6 { tmps:=#[],defers:=[] }
     go_simp;refine hK _ _ ?_;clear hK K;refine CQ (rs:=[0,3]) (by kernel_rfl) (by simp) ?_;refine BO rfl (λK hK => ?_) (BO rfl (λK hK => ?_) (CV))
     ·go_simp;refine hK _ _ ?_;clear hK K;refine IC 3 (by kernel_rfl) rfl (λK hK => ?_)
      ·go_simp;refine hK _ _ ?_;clear hK K;refine IC 4 (by kernel_rfl) rfl (λK hK => ?_)
       ·go_simp;refine hK _ _ ?_;rw[<-aS.o];clear hK K;refine IC 5 (by kernel_rfl) rfl (λK hK => ?_)
        ·refine OM rfl _ _ 86 rfl v (.slice (some ⟨V.heap.size,0,none⟩) 1 1) rfl rfl _ _ aN (hK _ _ ?_);simp only[Act.put,Be,List.set];clear hK K;refine IC 6 (by kernel_rfl) rfl (λK hK => ?_)
         ·go_simp;refine hK _ _ ?_;rw[<-aU.o];clear hK K;refine Cv (by kernel_rfl) ?_ _;exact a6 { tmps:=#[],defers:=[] }
     go_simp;refine hK _ _ ?_;clear hK K;refine CQ (rs:=[0,4]) (by kernel_rfl) (by simp) ?_;refine BO rfl (λK hK => ?_) (BO rfl (λK hK => ?_) (CV))
     ·go_simp;refine hK _ _ ?_;clear hK K;refine IC 4 (by kernel_rfl) rfl (λK hK => ?_)
      ·go_simp;refine hK _ _ ?_;rw[<-aS.o];clear hK K;refine IC 5 (by kernel_rfl) rfl (λK hK => ?_)
       ·refine OM rfl _ _ 86 rfl v (.slice (some ⟨V.heap.size,0,none⟩) 1 1) rfl rfl _ _ aN (hK _ _ ?_);simp only[Act.put,Be,List.set];clear hK K;refine IC 6 (by kernel_rfl) rfl (λK hK => ?_)
        ·go_simp;refine hK _ _ ?_;rw[<-aU.o];clear hK K;refine Cv (by kernel_rfl) ?_ _;exact a6 { tmps:=#[],defers:=[] }
     go_simp;refine hK _ _ ?_;rw[<-aS.o];clear hK K;refine IC 0 (by kernel_rfl) rfl (λK hK => ?_)
     ·go_simp;refine hK _ _ ?_;clear hK K;refine IC 5 (by kernel_rfl) rfl (λK hK => ?_)
      ·refine OM rfl _ _ 86 rfl v (.slice (some ⟨V.heap.size,0,none⟩) 1 1) rfl rfl _ _ aN (hK _ _ ?_);simp only[Act.put,Be,List.set];clear hK K;refine IC 6 (by kernel_rfl) rfl (λK hK => ?_)
       ·go_simp;refine hK _ _ ?_;rw[<-aU.o];clear hK K;refine Cv (by kernel_rfl) ?_ _;exact a6 { tmps:=#[],defers:=[] }
    go_simp;refine hK _ _ ?_;clear hK K;refine CQ (rs:=[0,1]) (by kernel_rfl) (by simp) ?_;refine BO rfl (λK hK => ?_) (BO rfl (λK hK => ?_) (CV))
    ·go_simp;refine hK _ _ ?_;clear hK K;refine IC 1 (by kernel_rfl) rfl (λK hK => ?_)
     ·go_simp;refine hK _ _ ?_;clear hK K;refine IC 3 (by kernel_rfl) rfl (λK hK => ?_)
      ·go_simp;refine hK _ _ ?_;clear hK K;refine IC 4 (by kernel_rfl) rfl (λK hK => ?_)
       ·go_simp;refine hK _ _ ?_;rw[<-aS.o];clear hK K;refine IC 5 (by kernel_rfl) rfl (λK hK => ?_)
        ·refine OM rfl _ _ 86 rfl v (.slice (some ⟨V.heap.size,0,none⟩) 1 1) rfl rfl _ _ aN (hK _ _ ?_);simp only[Act.put,Be,List.set];clear hK K;refine IC 6 (by kernel_rfl) rfl (λK hK => ?_)
         ·go_simp;refine hK _ _ ?_;rw[<-aU.o];clear hK K;refine Cv (by kernel_rfl) ?_ _;exact a6 { tmps:=#[],defers:=[] }
    go_simp;refine hK _ _ ?_;clear hK K;refine CQ (rs:=[0,3]) (by kernel_rfl) (by simp) ?_;refine BO rfl (λK hK => ?_) (BO rfl (λK hK => ?_) (CV))
    ·go_simp;refine hK _ _ ?_;clear hK K;refine IC 3 (by kernel_rfl) rfl (λK hK => ?_)
     ·go_simp;refine hK _ _ ?_;clear hK K;refine IC 4 (by kernel_rfl) rfl (λK hK => ?_)
      ·go_simp;refine hK _ _ ?_;rw[<-aS.o];clear hK K;refine IC 5 (by kernel_rfl) rfl (λK hK => ?_)
       ·refine OM rfl _ _ 86 rfl v (.slice (some ⟨V.heap.size,0,none⟩) 1 1) rfl rfl _ _ aN (hK _ _ ?_);simp only[Act.put,Be,List.set];clear hK K;refine IC 6 (by kernel_rfl) rfl (λK hK => ?_)
        ·go_simp;refine hK _ _ ?_;rw[<-aU.o];clear hK K;refine Cv (by kernel_rfl) ?_ _;exact a6 { tmps:=#[],defers:=[] }
    go_simp;refine hK _ _ ?_;clear hK K;refine CQ (rs:=[0,4]) (by kernel_rfl) (by simp) ?_;refine BO rfl (λK hK => ?_) (BO rfl (λK hK => ?_) (CV))
    ·go_simp;refine hK _ _ ?_;clear hK K;refine IC 4 (by kernel_rfl) rfl (λK hK => ?_)
     ·go_simp;refine hK _ _ ?_;rw[<-aS.o];clear hK K;refine IC 5 (by kernel_rfl) rfl (λK hK => ?_)
      ·refine OM rfl _ _ 86 rfl v (.slice (some ⟨V.heap.size,0,none⟩) 1 1) rfl rfl _ _ aN (hK _ _ ?_);simp only[Act.put,Be,List.set];clear hK K;refine IC 6 (by kernel_rfl) rfl (λK hK => ?_)
       ·go_simp;refine hK _ _ ?_;rw[<-aU.o];clear hK K;refine Cv (by kernel_rfl) ?_ _;exact a6 { tmps:=#[],defers:=[] }
    go_simp;refine hK _ _ ?_;rw[<-aS.o];clear hK K;refine IC 0 (by kernel_rfl) rfl (λK hK => ?_)
    ·go_simp;refine hK _ _ ?_;clear hK K;refine IC 5 (by kernel_rfl) rfl (λK hK => ?_)
     ·refine OM rfl _ _ 86 rfl v (.slice (some ⟨V.heap.size,0,none⟩) 1 1) rfl rfl _ _ aN (hK _ _ ?_);simp only[Act.put,Be,List.set];clear hK K;refine IC 6 (by kernel_rfl) rfl (λK hK => ?_)
      ·go_simp;refine hK _ _ ?_;rw[<-aU.o];clear hK K;refine Cv (by kernel_rfl) ?_ _;exact a6 { tmps:=#[],defers:=[] }
   intro D' W hD hI hK;obtain⟨⟨v,aE,ae⟩,a3,ai,aO,aP⟩:=hI;rw[YQ,TT]at ae;obtain⟨e4,et⟩:=cell_of_box_a aE;rcases ae.2 with⟨_,h0⟩ | ⟨g3,cap3,cur3,rfl,_⟩
   ·exact absurd (BN.1 h0) bF
   have ad:z0<=a9:=by have:=aB.o;omega
   gi_wp2;refine⟨by simp,.inl ⟨_,_,rfl,run_takeDeferred hK,?_⟩⟩;refine⟨_,results_tmp rfl _ _ _,_,au,ib,nb,rfl,HT.o,dO,ownsRow_base_a (ae.kept (grownBy_putObj_a _ _ _) (ownsRow_ne_a ae hK (λdl e=>by cases e))) ad,λx hx => ?_,aP.grown (grownBy_putObj_a _ _ _) (by have:=a3.own.lt;omega) (λk e=>by cases e;omega)⟩;have h3:=HT.o.mem hx;obtain⟨g1,g2,ew,g4,g5,g6,g7⟩:=a3.Lo x.1 x.2 (by rw[bz.o x.1 x.2 h3.1 h3.2.1];exact h3.2.2);exact⟨ew,by omega,g6,g7.of_block (World.putObj_heap_other (by have:=ai x.1 x.2 (by rw[bz.o x.1 x.2 h3.1 h3.2.1];exact h3.2.2);omega))⟩
  intro x cv kl yd yp w2 ax bW eb hv dz bX bN cZ dV cq;have bn:Maps.has D kl=true:=C5 dz;obtain⟨b,r,hb,hr,rfl⟩:=em.o kl bn;have hx:x=lv b r:=Gl.inj (bW.trans rfl) (JR hb hr);subst hx;have e7:rr<w2.heap.size:=by omega
  have aX:∀k,k≠rr->k<wr.heap.size->w2.heap[k]? = wr.heap[k]? := λk hk cI=>cZ.block k cI (λe=>by cases e;exact hk rfl)
  obtain⟨DW,S,ib,nb,a3,bI⟩:=HS.o;have cg:WM w2 (rr+1) gm n6 l DW S ib nb:=a3.kept (λk hk hl=>aX k (by omega) hl);have cL:n6+1+ax<=100000:=by omega
  have dg:Gk w2 z0 (m.nb*m.np) (Dp l):=HF.o.of_block (aX z0 (by omega) (by omega));have dQ:w2.heap[gm+1]? = some (.cells #[.map (some gm)] 137 (0,0)):=(aX (gm+1) (by omega) (by omega)).trans HR.o;have dK:Below z0 w w2:=HB.o.grown cZ (by omega) (λq hq=>by cases hq;omega);obtain⟨kb,b7⟩:=Jq w2.heap.size;obtain⟨az,aj⟩:=Jq (w2.alloc (.cells #[.int .i64 b,.int .u32 r] 90));have s3:=L0 aj b7.symm;have bi:=K5 aj b7.symm;have c0:=Dv 0 bi;have c1:=Dv 1 bi;have cD:∀k,k<kb->az.heap[k]? = w2.heap[k]? := λk hk=>by rw[aj];exact Lh
  have bg:=dg.of_block (cD z0 (by omega));have A:=Jy (ky az z0 (m.nb*m.np) l b r bg dR.o hb hr);have c9:Hid (az.ranges prog 90 unitElem (gm+2) rr 100000 D (λz=>left z && !z.sameKey (lk b r)) ax):=Jy (by rw[aj];exact bX.alloc _);have dt:=Jy cE;have bR:=Jy bN;have cF:=Jy aj;have cJ:=Jy b7;have aW:=Jy s3;have aV:=Jy cD;have aR:=Jy cg;have dW:=Jy bI;have ez:=Jy bn;have ct:=Jy bg;have bG:=Jy ((cD (gm+1) (by omega)).trans dQ);have cA:Hid (Below z0 w az):=Jy (by rw[aj];exact dK.zA);have eJ:rr<kb:=by omega
  have bH:=Jy bi;clear cE bX cZ dV bN dz hv bW eb bn aX a3 cg bI dg dQ dK b7 aj s3 bi cD bg HS HF HR HB
  try simp only[id]at cq
  unfold lv at cq
  try simp only[id]
  unfold lv at A ⊢;gi_wp2_with (first | (rw[<-cF.o,<-cJ.o]) | gi_in);refine⟨trivial,(BP.2 A.o).mono ?_⟩;rintro e ce ⟨ag,aZ⟩;have b5:∀S':Nat->Nat->Bool,(∀x y,x<=1000000->y<=4294967295->S' x y=((x==b&&y==r&&(FG l b r).isSome)||S x y))->∀x y,x<=1000000->y<=4294967295->S' x y=(Maps.has D (lk x y) && !(left (lk x y) && !(lk x y).sameKey (lk b r))&&(FG l x y).isSome):=λS' eD x y h1 h2=>by
   rw[eD x y h1 h2,dW.o x y h1 h2];by_cases e:x=b/\y=r
   ·obtain⟨rfl,rfl⟩:=e;have hs:Lit.sameKey (lk x y) (lk x y)=true:=by simp[Lit.sameKey,lk]
    rw[hs,ez.o];cases(FG l x y).isSome<;>simp
   have ee:lk x y≠lk b r:=λh'=>e (Qc h1 h2 hb hr h')
   rw[DL ee]
   have:(x==b&&y==r)=false:=by simpa using λh1 h2=>e ⟨h1,h2⟩
   rw[this];simp
  have aY:=Jy b5;clear b5;rw[aW.o]at ag aZ;have bL:kb+1<=ce.heap.size:=by have:=ag.size;rw[aW.o]at this;exact this
  rcases aZ with⟨ps',ii,n',hps',rfl,LK,hn',hBl⟩ | ⟨aQ,X,y,z,q,k,rfl⟩
  ·obtain⟨X,hX⟩:=Jq (D9 (Ei ps'));obtain⟨E,hE⟩:=Jq (GF ps');obtain⟨a2,aw⟩:=Jq (ce.alloc (.cells #[.string X,.int .i64 b,.int .u32 r,.map (some ii),.int .i64 E] 94));obtain⟨q5,b4⟩:=Jq ce.heap.size;have s5:=L0 aw b4.symm;have ay:∀k,k<=kb->a2.heap[k]? = az.heap[k]? := λk hk=>by rw[aw];exact(Lh).trans (ag.zK k)
   have bx:=K5 aw b4.symm;have d0:=Dv 0 bx;have d1:=Dv 1 bx;have d2:=Dv 2 bx;have d3:=Dv 3 bx;have d4:=Dv 4 bx;have e0:a2.cell? ⟨kb,0,none⟩=some (.int .i64 b):=(AJ (ay kb (AB _))).trans c0;have e1:a2.cell? ⟨kb,1,none⟩=some (.int .u32 r):=(AJ (ay kb (AB _))).trans c1;have e2:=Dv 0 ((ay (gm+1) (by omega)).trans bG.o);have be:=cJ.o;have aK:WM a2 (rr+1) gm n6 l DW S ib nb:=aR.o.kept (λk hk hl=>(ay k (by omega)).trans (aV.o k (by omega)));have bQ:EK a2 ii n' (KG ps'):=hBl.of_block (by rw[aw];exact AO _ _ _ hBl.lt);obtain⟨w6,D6,e8,ey,hu,bZ,dJ⟩:=aK.store hb hr hps' (i:=ii) (k:=n') (by omega) hn' bQ (by omega) (by omega);have bO:=dJ.grown
   have cX:∀k,k≠gm->k<a2.heap.size->w6.heap[k]? = a2.heap[k]? := λk hk cI=>bO.block k cI (λe=>by cases e;exact hk rfl)
   unfold rv lv at hu;rw[<-hX,<-hE]at hu;have a1:Below (kb+1) az a2:=by rw[aw];exact ag.alloc bL _
   have dd:Hid (Below z0 w w6):=Jy ((cA.o.trans (a1.zM)).grown bO (by omega) (λk e=>by cases e;omega));have aM:w6.ranges prog 90 unitElem (gm+2) rr 100000 D (λz=>left z && !z.sameKey (lk b r)) ax:=by
    have d8:az.grownBy a2 none:=⟨a1.os,a1.tape,a1.output,a1.size,λk hk _=>a1.block k (by rw[aW.o]at hk;exact hk)⟩;exact(c9.o.kept d8 (by simp) (by simp)).kept bO (by simp) (by simp;omega)
   have de:Hid (Vl w6 (λz=>left z && !z.sameKey (lk b r)) (rr+1) gm (n6+1) l (Maps.has D)):=Jy ⟨D6,_,e8,ey,bZ,aY.o _ (λx y _ _=>by rw[hps'];simp)⟩;have cK:Hid (Gk w6 z0 (m.nb*m.np) (Dp l)):=Jy (ct.o.of_block ((cX z0 (by omega) (by omega)).trans (ay z0 (by omega))));have da:Hid (w6.heap[gm+1]? = some (.cells #[.map (some gm)] 137 (0,0))):=Jy ((cX (gm+1) (by omega) (by omega)).trans ((ay (gm+1) (by omega)).trans bG.o));have d9:rr<w6.heap.size:=by have:=bO.size;omega
   have aL:=Jy aM;have cT:=Jy aw;have cN:=Jy b4;rw[<-hX,<-hE];clear hX hE ag hBl bQ aw b4 ay bx aK bZ dJ bO cX a1 aM hps' cA ct bG aR aV bH A cq s5 be;gi_wp2_with (first | (rw[<-cT.o,<-cN.o]) | gi_in);go_roundw
   case rel=>exact⟨_,ax,n6+1,aL.o,cL,de,cK,da,dd,d9⟩
   case measure=>rw[aL.o.left_eq,dt.o.left_eq];exact bR.o
  obtain⟨a2,aw⟩:=Jq (ce.alloc (.cells #[.string X,.int .i64 y,.int .u32 z,.map q,.int .i64 k] 94));obtain⟨q5,b4⟩:=Jq ce.heap.size;have s5:=L0 aw b4.symm;have ay:∀k,k<=kb->a2.heap[k]? = az.heap[k]? := λk hk=>by rw[aw];exact(Lh).trans (ag.zK k)
  have be:=cJ.o;have aK:WM a2 (rr+1) gm n6 l DW S ib nb:=aR.o.kept (λk hk hl=>(ay k (by omega)).trans (aV.o k (by omega)));have a1:Below (kb+1) az a2:=by rw[aw];exact ag.alloc bL _
  have dd:Hid (Below z0 w a2):=Jy (cA.o.trans (a1.zM));have aM:a2.ranges prog 90 unitElem (gm+2) rr 100000 D (λz=>left z && !z.sameKey (lk b r)) ax:=by
   have d8:az.grownBy a2 none:=⟨a1.os,a1.tape,a1.output,a1.size,λk hk _=>a1.block k (by rw[aW.o]at hk;exact hk)⟩;exact c9.o.kept d8 (by simp) (by simp)
  have de:Hid (Vl a2 (λz=>left z && !z.sameKey (lk b r)) (rr+1) gm n6 l (Maps.has D)):=Jy ⟨DW,S,ib,nb,aK,aY.o _ (λx y _ _=>by rw[aQ];simp)⟩;have cK:Hid (Gk a2 z0 (m.nb*m.np) (Dp l)):=Jy (ct.o.of_block (ay z0 (by omega)));have da:Hid (a2.heap[gm+1]? = some (.cells #[.map (some gm)] 137 (0,0))):=Jy ((ay (gm+1) (by omega)).trans bG.o);have d9:rr<a2.heap.size:=by omega
  have aL:=Jy aM;have cT:=Jy aw;have cN:=Jy b4;clear ag aw b4 ay aK a1 aM aQ cA ct bG aR aV bH A cq s5 be;gi_wp2_with (first | (rw[<-cT.o,<-cN.o]) | gi_in);go_roundw
  case rel=>exact⟨_,ax,n6,aL.o,by omega,de,cK,da,dd,d9⟩
  case measure=>rw[aL.o.left_eq,dt.o.left_eq];exact bR.o
end S1
section
open Go.RowKit Go.Nt
open S1 (Mi)
theorem XS{l:List Fp}{b n o:Nat}:∀{k:Nat} {ps:List Fp},FH l b n o k=some ps->ps.map Fp.at_=List.range k/\∀f∈ps,f∈l
 | 0,ps,h=>by simp[FH]at h;subst h;simp
 | k+1,ps,h=>by
   rw[FH]at h
   split at h
   ·rename_i qs f hq hf
    split at h
    ·cases h
     obtain⟨h1,h2⟩:=XS hq;have h3:=M0 hf;refine⟨by rw[Aq,h1,B0,List.map_singleton,h3.2.2.2],λg hg => ?_⟩;rcases An.1 hg with hg | hg
     ·exact h2 g hg
     simp at hg;subst hg;exact h3.1
    cases h
   cases h
theorem ke{l:List Fp}{b n:Nat}{ps:List Fp}(h:FG l b n=some ps):ps.length<=l.length/\∀f∈ps,f∈l:=by
 unfold FG at h
 split at h
 ·cases h
 obtain⟨h1,h2⟩:=XS h;refine⟨S1.Jg ps l ?_ h2,h2⟩
 have:(ps.map Fp.at_).Nodup:=by rw[h1];exact List.nodup_range
 exact(CT.1 this).imp (λa0 e=>a0 (by rw[e]))
theorem ik{ps:List Fp}(h:∀f∈ps,f.text.length=51):(Ei ps).length=ps.length*51:=by
 induction ps with
 | nil=>rfl
 | cons f ps ih =>
   have h1:=ih (λg hg=>h g (by simp[hg]));have h2:=h f (by simp);unfold Ei at h1 ⊢;simp only[Bb,CU,AN,AY,h1,h2];omega
theorem eR{l:List Fp}{ord:List (Nat × Nat)}(h:S1.F9 l ord){x:Nat × Nat}(h1:x.1<=1000000)(h2:x.2<=4294967295)(h3:S1.Eh l x.1 x.2=true):x∈ord:=by
 obtain⟨ls,ks,rs,a4,hm,a1,a3,a0,a2,rfl⟩:=h;have hx:=(hm x).2 ⟨h1,h2,h3⟩;have hn:x.2∈S1.numsOf ls x.1:=Am.2 ⟨x,BC.2 ⟨hx,by simp⟩,rfl⟩;have hb:x.1∈ks:=(a0 x.1).2 (λe=>by rw[e]at hn;cases hn);obtain⟨ys,hp,_,er⟩:=a2 x.1 hb;refine List.mem_flatMap.2 ⟨x.1,hb,Am.2 ⟨x.2,?_,rfl⟩⟩;have h9:x.2∈ys.take (S1.Eu ys)++ys.drop (S1.Eu ys):=by rw[Ca];exact hp.mem_iff.2 hn
 rw[er,An];exact(An.1 h9).symm
def IX(u:Bs->Option Bs)(l:List Fp)(x:Nat × Nat):Prop:=∀tl,parse u (Ei (S1.FQ l x.1 x.2))=some tl->Dw tl=false
def QG(ps:List Fp)(b r:Nat)(np:Nat)(cb:Nat)(tl:List It)(w:D7)(e:Ending)(w':D7):Prop:=
 ∃fb lb tb ib n,e=.returned (.tuple #[.pointer (some ⟨fb,0,none⟩),.int .i64 0])/\Ja w' fb cb lb tb/\Dk w' tb tl/\S1.E8 w' lb cb ⟨b,r,none⟩ (some ib) none (GF ps) np/\n<=100000/\S1.EK w' ib n (KG ps)/\w.heap.size<=fb/\w.heap.size<=lb/\w.heap.size<=tb/\w.heap.size<=ib/\ib<tb/\Below w.heap.size w w'
def PG(u:Bs->Option Bs)(l:List Fp)(np cb:Nat)(w:D7)(e:Ending)(w':D7):Prop:=
 ∃ord,S1.F9 l ord/\(((∀x∈ord,IX u l x)/\e=.returned (.tuple #[.pointer none,.int .i64 11])/\Below w.heap.size w w') \/
  ∃pre x post tl,ord.reverse=pre++x :: post/\(∀y∈pre,IX u l y)/\parse u (Ei (S1.FQ l x.1 x.2))=some tl/\Dw tl=true/\FG l x.1 x.2=some (S1.FQ l x.1 x.2)/\QG (S1.FQ l x.1 x.2) x.1 x.2 np cb tl w e w')
theorem Ye(l:List Fp)(ibf:Nat->Nat->Nat):∀(ys:List (Nat × Nat)) (i:Nat) (h:i<ys.length) (k:Nat),k<5->(S1.Mg l ibf ys)[i*5+k]? = (Mi (S1.FQ l ys[i].1 ys[i].2) ys[i].1 ys[i].2 (ibf ys[i].1 ys[i].2))[k]?
 | [],i,h,k,hk=>by simp at h
 | y :: ys,0,h,k,hk=>by
   have:S1.Mg l ibf (y :: ys)=Mi (S1.FQ l y.1 y.2) y.1 y.2 (ibf y.1 y.2)++S1.Mg l ibf ys:=by simp[S1.Mg]
   rw[this,Ax (by simp[Mi];omega)];simp
 | y :: ys,i+1,h,k,hk=>by
   have:S1.Mg l ibf (y :: ys)=Mi (S1.FQ l y.1 y.2) y.1 y.2 (ibf y.1 y.2)++S1.Mg l ibf ys:=by simp[S1.Mg]
   rw[this,Ad (by simp[Mi];omega)];have e:(i+1)*5+k - (Mi (S1.FQ l y.1 y.2) y.1 y.2 (ibf y.1 y.2)).length=i*5+k:=by simp[Mi];omega
   rw[e,Ye l ibf ys i (by simpa using h) k hk];simp
theorem Mt(w:D7)(lo hi cb:Nat)(L:S1.Loc)(m:S1.M)(hw:S1.WF m)(h:S1.CP w lo hi cb L m)(hsz:hi<=w.heap.size)(hlf:m.Da≠0)(l:List Fp)(hl:EB (S1.Fs m) m.np m.nb=l)
 (hml:ML w) {u:Bs->Option Bs} (hP:Fj u) :
 Calls prog 20 #[.pointer (some ⟨cb,0,none⟩)] w λe w'=>PG u l m.np cb w e w':=by
 have aG:m.nb*m.np<=512:=by
  have h1:=hw.Iu;have h2:=hw.Jv
  calc m.nb*m.np<=32*16:=Cn (by omega) (by omega)
   _<=512:=by omega
 have aS:∀f∈l,JZ f/\f.Dg<1000:=λf hf=>by
  rw[<-hl]at hf
  have:=G9 hf
  have:=hw.Iu
  exact⟨(G9 hf).1,by omega⟩
 have aP:Hid (∀(x:Nat × Nat) ps,FG l x.1 x.2=some ps->(Ei ps).length<=1000000):=Jy (λx ps aw=>by
  obtain⟨h1,h2⟩:=ke aw;rw[ik (λf hf=>(aS f (h2 f hf)).1.t)]
  have:=Iv (S1.Fs m) m.np m.nb
  rw[hl]at this;omega)
 have A:=Jy (S1.EW w lo hi cb L m h);have aH:(m.Da==0)=false:=by simp[hlf]
 rw[aH]at A;have B:=Jy ((BP (n:=20)).1 (S1.NA w lo hi cb L m hw h hsz hlf l hl aS));have HC:=Jy h;have bb:=Jy hml;clear h hml aH aS hl;go_enter func20,ntmps20
 go_wp2_with fail;refine Jj A.o ?_;go_wp2_with fail;refine B.o.mono ?_;rintro e w1 ⟨v,a1,a9,aU,rfl,b8,be,a3,av,b7⟩;obtain⟨ys,au⟩:=Jq a1.reverse;obtain⟨no,a2⟩:=Jq a1.length;have b3:ys.length=no:=by rw[au,a2];simp
 have ao:Hid (∀x∈ys,FG l x.1 x.2=some (S1.FQ l x.1 x.2)/\w.heap.size<=a9 x.1 x.2/\aU x.1 x.2<=100000/\S1.EK w1 (a9 x.1 x.2) (aU x.1 x.2) (KG (S1.FQ l x.1 x.2))):=Jy (λx hx=>av x (by rw[au]at hx;exact DR.1 hx));have HT:Hid (S1.F9 l a1):=Jy b8;have aO:=Jy au;have aD:=Jy b3;rw[<-a2,<-au]at a3;have bl:no<=100000*100000:=by rw[a2];exact be
 have ah:=Jy b7;clear av b8 au b3 a2 b7 A B be;have an:Hid (no=0->a1=[]):=Jy (λh=>by
  have h1:=aD.o;rw[aO.o]at h1;simp at h1;exact BN.1 (by omega))
 rcases a3.2 with⟨rfl,h0⟩ | ⟨g,cap,cur,rfl,q1,q2,q3,q4,q5,q6⟩
 ·subst h0;have ho:=an.o rfl;clear a3;go_wp2_with fail;refine wp_loop_rounds 1 ?_;rw[DC];go_wp2_with fail;go_ret2
  exact⟨a1,HT.o,.inl ⟨λx hx=>(by rw[ho]at hx;cases hx),rfl,ah.o⟩⟩
 have a5:Hid (∀W:D7,Below w1.heap.size w1 W->∀i,(h:i<ys.length)->W.cell? ⟨g,i*5,none⟩=some (.string (S1.D9 (Ei (S1.FQ l ys[i].1 ys[i].2))))/\W.cell? ⟨g,i*5+1,none⟩=some (.int .i64 (ys[i].1:Nat))/\W.cell? ⟨g,i*5+2,none⟩=some (.int .u32 (ys[i].2:Nat))/\W.cell? ⟨g,i*5+3,none⟩=some (.map (some (a9 ys[i].1 ys[i].2)))/\W.cell? ⟨g,i*5+4,none⟩=some (.int .i64 (GF (S1.FQ l ys[i].1 ys[i].2):Nat))):=Jy (λW hb i h=>by
  have bu:=lt_of_heap q2;have hr:=(hb.block g bu).trans q2;have key:∀k (hk:k<5),W.cell? ⟨g,i*5+k,none⟩=(Mi (S1.FQ l ys[i].1 ys[i].2) ys[i].1 ys[i].2 (a9 ys[i].1 ys[i].2))[k]? := λk hk=>by
   have e:=Ye l a9 ys i h k hk;rw[AG W g _ _ 94 (0,0) hr,<-e,<-q6,<-Bv,Ak (by rw[<-aD.o];omega)]
  exact⟨key 0 (by omega),key 1 (by omega),key 2 (by omega),key 3 (by omega),key 4 (by omega)⟩)
 have az:w.heap.size<=w1.heap.size:=ah.o.size;obtain⟨z1,aC⟩:=Jq w1.heap.size;rw[<-aC]at a5 az;have bn:=Jy aC;have bx:Hid (∀x∈ys,a9 x.1 x.2<z1):=Jy (λx hx=>by rw[aC];exact(ao.o x hx).2.2.2.lt);clear a3 q1 q2 q3 q4 q5 q6 aC;go_wp2_with fail
 go_loopg [15] no (λk bs wr=>∃i:Nat,bs=.int .i64 i/\i<=no/\no - i<=k/\Hid (Below z1 w1 wr)/\Hid (∀x∈ys.take i,IX u l x))
 case atStart=>exact⟨0,rfl,by omega,by omega,Jy (AM _ _),Jy (by simp)⟩
 case round =>
  obtain⟨i,rfl,bM,hk,HB,HN⟩:=hrel;by_cases bK:i<no
  ·have aT:(i:Int)<(no:Nat):=by omega
   have aB:i<ys.length:=by have:=aD.o;omega
   obtain⟨c0,c1,c2,c3,c4⟩:=a5.o wr HB.o i aB;obtain⟨x,hx⟩:=Jq (ys[i]);have aL:x∈ys:=by rw[hx];exact Bp aB
   rw[<-hx]at c0 c1 c2 c3 c4;obtain⟨b,r⟩:=x;obtain⟨a0,LK,hn,ae⟩:=ao.o _ aL;have a8:=bx.o _ aL;dsimp only at c0 c1 c2 c3 c4 a0 LK hn ae a8;obtain⟨ps,aw⟩:=Jq (S1.FQ l b r);have aa:=aP.o (b,r) _ a0;rw[<-aw]at c0 c4 a0 ae aa;obtain⟨ib,ay⟩:=Jq (a9 b r);obtain⟨n,b0⟩:=Jq (aU b r);rw[<-ay]at c3 LK ae a8;rw[<-b0]at hn ae;obtain⟨X,hX⟩:=Jq (D9 (Ei ps));have b9:S1.D9 (Ei ps)=X:=by rw[hX];rfl
   rw[b9]at c0;obtain⟨E,hE⟩:=Jq (GF ps);rw[<-hE]at c4;obtain⟨zr,ai⟩:=Jq wr.heap.size;have bL:z1<=zr:=by rw[ai,bn.o];exact HB.o.size
   obtain⟨W2,aj⟩:=Jq (wr.alloc (.cells #[.string X,.int .i64 b,.int .u32 r,.map (some ib),.int .i64 E] 94));have s2:=L0 aj ai.symm;have aE:=K5 aj ai.symm;have b2:Below z1 w1 W2:=by rw[aj];exact HB.o.zA
   have d0:=Dv 0 aE;have ar:ML W2:=bb.o.below (ah.o.trans (b2.mono az)) bb.o.lt;have C:=Jy (pH hP (Ei ps) W2 ar aa);rw[<-hX]at C;have aY:=Jy b2;have b4:Hid (S1.EK W2 ib n (KG ps)):=Jy (ae.of_block (b2.block ib a8));have bf:=Jy aj;have bH:=Jy ai;have aM:=Jy s2;have b6:=Jy aE;have HE:=Jy hE;have bc:=Jy aw;have aF:=Jy a0;have bp:Hid (ys.take (i+1)=ys.take i++[(b,r)]):=Jy (by rw[Ah,AD aB,<-hx];rfl);have bi:Hid (a1.reverse=ys.take i++(b,r) :: ys.drop (i+1)):=Jy (by
    rw[<-aO.o,hx,<-AX aB,Ca])
   clear ae b2 aj ai s2 aE hE aw a0 hX b9 ar hx aL ay b0 aa;go_wp2_with (first | (rw[<-bf.o,<-bH.o]) | fail);refine C.o.mono ?_;rintro e w3 ⟨a6,⟨rfl,aX⟩ | ⟨tl,tb,ax,aZ,rfl,bB,hT⟩⟩
   ·have ac:Hid (Below z1 w1 w3):=Jy (aY.o.trans (a6.mono (by rw[aM.o];omega)));have bJ:Hid (∀x∈ys.take (i+1),IX u l x):=Jy (λx hx=>by
     rw[bp.o]at hx;rcases An.1 hx with hx | hx
     ·exact HN.o x hx
     simp at hx;subst hx;intro tl aJ;dsimp only at aJ;rw[<-bc.o]at aJ;exact aX tl aJ)
    clear a6 aX C b4 b6 d0 c0 c1 c2 c3 c4 HN;go_wp2_with fail;go_roundg (no - (i+1))
    case measure=>omega
    case rel=>exact⟨i+1,by go_num,by omega,by omega,ac,bJ⟩
   have a4:Below w.heap.size w w3:=ah.o.trans ((aY.o.trans (a6.mono (by rw[aM.o];omega))).mono az);have D:=Jy (jH w3 lo hi cb L m X b r E (some ib) (S1.Db.below HC.o hsz a4) (by have:=a4.size;omega));have z2:W2.heap.size<=w3.heap.size:=a6.size;rw[aM.o]at a6 bB z2;have af:w3.heap[zr]? = some (.cells #[.string X,.int .i64 b,.int .u32 r,.map (some ib),.int .i64 E] 94 (0,0)):=(a6.zK zr).trans b6.o;have e0:=Dv 0 af;have e1:=Dv 1 af;have e2:=Dv 2 af;have e3:=Dv 3 af;have e4:=Dv 4 af;have am:S1.EK w3 ib n (KG ps):=b4.o.of_block (a6.zK ib);have aW:=Jy hT;have ag:=Jy am;have ac:=Jy a4;have aR:=Jy ax;have bq:=Jy aZ;have bh:=HN;clear a6 ax aZ hT af am a4 C d0 c0 c1 c2 c3 c4;go_wp2_with fail;refine D.o.mono ?_;rintro e w4 ⟨lb,rfl,aH,aQ,ad⟩
   obtain⟨W5,aA⟩:=Jq (w4.alloc (.cells #[.pointer (some ⟨cb,0,none⟩),.pointer (some ⟨lb,0,none⟩),.map (some tb)] 79));obtain⟨fb,aK⟩:=Jq w4.heap.size;have b5:=KD aA;have aV:=K5 aA aK.symm;have aI:Dk w4 tb tl:=aW.o.below ad aW.o.lt;have bC:Hid (Dk W5 tb tl):=Jy (aI.below b5 aI.lt);have a7:=ag.o.of_block (w':=w4) (ad.block ib ag.o.lt);have aN:Hid (S1.EK W5 ib n (KG ps)):=Jy (a7.of_block (b5.block ib a7.lt));have br:Hid (S1.E8 W5 lb cb ⟨b,r,none⟩ (some ib) none E m.np):=Jy ((b5.block lb (lt_of_heap aQ)).trans aQ);have bG:Hid (Below w.heap.size w W5):=Jy ((ac.o.trans (ad.mono ac.o.size)).trans (b5.mono (by have:=ac.o.size;have:=ad.size;omega)));have bD:=Jy aA;have bA:=Jy aK;have bI:=Jy aV;have bF:w.heap.size<=fb:=by have:=ac.o.size;have:=ad.size;omega
   have bz:w.heap.size<=lb:=by have:=ac.o.size;omega
   have bj:w.heap.size<=tb:=by omega
   have hit:ib<tb:=by omega
   clear aI a7 aQ ad b5 aV aA aK D e0 e1 e2 e3 e4;go_wp2_with (first | (rw[<-bD.o,<-bA.o]) | fail);go_ret2
   refine⟨a1,HT.o,.inr ⟨ys.take i,(b,r),ys.drop (i+1),tl,bi.o,bh.o,?_⟩⟩;dsimp only;rw[<-bc.o];exact⟨aR.o,bq.o,aF.o,fb,lb,tb,ib,n,rfl,bI.o,bC.o,by rw[<-HE.o];exact br.o,hn,aN.o,bF,bz,bj,LK,hit,bG.o⟩
  have aT:¬(i:Int)<(no:Nat):=by omega
  have bE:Hid (∀x∈a1,IX u l x):=Jy (λx hx=>HN.o x (by
   rw[AT (by rw[aD.o];omega),aO.o];exact DR.2 hx))
  clear HN;go_wp2_with fail;go_ret2
  exact⟨a1,HT.o,.inl ⟨bE.o,rfl,ah.o.trans (HB.o.mono az)⟩⟩
end
namespace S1
open Go.RowKit Pk
theorem On:(prog.info? 4).map (λi=>(i.zero,i.size,i.bytes))=some (some (.bool false),1,1):=by kernel_rfl
end S1
end Go.Proofs.YtodmdkhdbfbfgaaGreatDoor
