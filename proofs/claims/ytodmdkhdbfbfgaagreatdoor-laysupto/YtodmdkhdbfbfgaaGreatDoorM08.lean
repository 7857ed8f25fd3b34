/- Lemmas. -/
import Derived.Test.YtodmdkhdbfbfgaaGreatDoorM07
set_option linter.unusedVariables false
set_option linter.unusedSimpArgs false
set_option maxRecDepth 100000
set_option maxHeartbeats 8000000
open Go.Proofs.Tryz
namespace Go.Proofs.YtodmdkhdbfbfgaaGreatDoor
namespace S1
open Go.RowKit Pk
open Go.Nt (Ky De EE Ej F0)
variable {w:D7} {b n lo hi cb lb nk nq p:Nat} {m:M} {L:Loc} {v:Lv} {kv qv:Option Nat} {K Q:Nat->Bool}
def KP(m:M)(v0:Lv)(S:Nat->Nat->Bool):Nat:=Ky (S (Dt m)) ((v0.nn+1)%4294967296)
def KR(m:M)(v0:Lv)(S:Nat->Nat->Bool)(K Q:Nat->Bool)(b p:Nat)(t:D8):LS:=E7 K ⟨EE (Dt m) (KP m v0 S) t,m,Q,b,p,λ_=>false⟩
def PX(w:D7)(lo hi cb lb:Nat)(L:Loc)(v0:Lv)(kv qv:Option Nat)(nq:Nat)(m:M)(S:Nat->Nat->Bool)(s:LS)(e:Ending)(w':D7):Prop:=
 ∃ib nk tb nt,e=.returned (.int .i64 0)/\EO w' lo hi cb lb L ⟨Dt m,KP m v0 S,some tb⟩ (some ib) qv nk nq s.m s.S s.Q s.b s.p/\FK w' tb nt S/\nt<=100000/\¬Ew lo hi lb (some ib) qv tb/\Fm (Ew lo hi lb kv qv) w w'/\w.heap.size<=ib/\(v0.tk=some tb\/w.heap.size<=tb)
def RY(w:D7)(lo hi cb lb:Nat)(L:Loc)(v0:Lv)(kv qv:Option Nat)(nk nq:Nat)(m:M)(K:Nat->Bool)(b:Nat)(s:LS)(e:Ending)(w':D7):Prop:=
 e=.returned (.int .i64 (if s.m.Da=0 then 10 else 9))/\EO w' lo hi cb lb L ⟨v0.nb,v0.nn,none⟩ kv qv nk nq s.m K s.Q b m.np/\Fm (Ew lo hi lb kv qv) w w'
def mY(w:D7)(lo hi cb lb:Nat)(L:Loc)(v0:Lv)(kv qv:Option Nat)(nk nq:Nat)(m:M)(K Q:Nat->Bool)(b p:Nat)(S:Nat->Nat->Bool)(t:D8)(e:Ending)(w':D7):Prop:=
 (Ee m t.length≠0->e=.returned (.int .i64 (Ee m t.length))/\w'=w) /\
 (Ee m t.length=0->(KR m v0 S K Q b p t).left=[]->PX w lo hi cb lb L v0 kv qv nq m S (KR m v0 S K Q b p t) e w') /\
 (Ee m t.length=0->(KR m v0 S K Q b p t).left≠[]->RY w lo hi cb lb L v0 kv qv nk nq m K b (KR m v0 S K Q b p t) e w')
theorem rQ{g:Nat}{t:D8}(h:Rw w g 9 (De t.length) (λk=>.string (Go.Proofs.YtodmdkhdbfbfgaaGreatDoor.D9 (Ej (F0 b n t k))))):Ff w g 0 (EE b n t):=by
 intro k x hx;unfold EE at hx;rw[BQ]at hx;cases hk:(List.range (De t.length))[k]? with
 | none=>rw[hk]at hx;cases hx
 | some j =>
   rw[hk]at hx;have a0:k<De t.length:=by have:=(AP.1 hk).1;simpa using this
   have hj:j=k:=by
    rw[DE a0]at hk;cases hk;rfl
   subst hj;cases hx
   rw[Ao];exact h.cell a0
theorem TB(b n:Nat)(t:D8):∀x∈EE b n t,x.length=64:=by
 intro x hx;unfold EE at hx;obtain⟨k,hk,rfl⟩:=Am.1 hx;exact Go.Nt.FT _ (by simp[F0];omega)
theorem Zz(K:Nat->Bool):∀(k:Nat) (s:LS),(EV K k s).m.np=s.m.np/\(EV K k s).m.nb=s.m.nb
 | 0,s=>⟨rfl,rfl⟩
 | k+1,s=>by
   rw[EV]
   split
   ·exact⟨rfl,rfl⟩
   obtain⟨h1,h2,_⟩:=XZ K s;obtain⟨h3,h4⟩:=Zz K k (EF K s);exact⟨h3.trans h2,h4.trans h1⟩
theorem iO(K:Nat->Bool)(s:LS):(E7 K s).m.np=s.m.np:=by
 unfold E7 FW;rw[(Zz K _ _).1]
 split
 ·exact(YV s).2.1
 rfl
theorem VK(h:WF m):Ec m<=256:=by
 have h1:=gu m;have h2:=h.Iu;have h3:=h.Jv;unfold Ec;exact Cn (show Eg m/2<=16 by omega) h3
theorem EO.keep(h:EO w lo hi cb lb L v kv qv nk nq m K Q b p){ib:Nat}{S:Nat->Bool}(hI:EK w ib n S)(hn:¬Ew lo hi lb kv qv ib) :
 EO (w.setCell ⟨lb,3,none⟩ (.map (some ib))) lo hi cb lb L v (some ib) qv n nq m S Q b p:=by
 have e:∀k,k≠lb->(w.setCell ⟨lb,3,none⟩ (.map (some ib))).heap[k]? = w.heap[k]? := λk hk=>AH w ⟨lb,3,none⟩ _ k hk
 have a0:ib≠lb:=λe=>hn (.inr (.inl e))
 exact⟨h.log.set2 (some ib),Db.Dn h.E2 λk h1 h2=>e k (λe'=>h.al (by subst e';exact⟨h1,h2⟩)),h.wf,.inr ⟨ib,rfl,hI.of_block (e ib a0)⟩,h.clean.Dn λg hg _=>e g (h.aq g hg).1,λg hg=>by cases hg;exact⟨a0,λhr=>hn (.inl hr)⟩,h.aq,λg hg hq=>by cases hg;exact hn (.inr (.inr (.inr hq))),h.al,by have:=h.sz;simpa using this⟩
theorem EO.label(h:EO w lo hi cb lb L v kv qv nk nq m K Q b p)(x y:Nat) :
 EO ((w.setCell ⟨lb,1,none⟩ (.int .i64 x)).setCell ⟨lb,2,none⟩ (.int .u32 y)) lo hi cb lb L ⟨x,y,v.tk⟩ kv qv nk nq m K Q b p:=by
 have h1:EO (w.setCell ⟨lb,1,none⟩ (.int .i64 x)) lo hi cb lb L ⟨x,v.nn,v.tk⟩ kv qv nk nq m K Q b p:=h.field (AK w lb 1 _ 132 _ h.log);exact h1.field (AK _ lb 2 _ 132 _ h1.log)
theorem EO.Pz(h:EO w lo hi cb lb L v kv qv nk nq m K Q b p) :
 EO (w.setCell ⟨lb,4,none⟩ (.map none)) lo hi cb lb L ⟨v.nb,v.nn,none⟩ kv qv nk nq m K Q b p:=h.field (h.log.SD none)
theorem Tb(w:D7)(lo hi cb lb:Nat)(L:Loc)(v0:Lv)(kv qv:Option Nat)(nk nq:Nat)(m:M)(K Q:Nat->Bool)(b p:Nat)(S:Nat->Nat->Bool)(t:D8)(h:EO w lo hi cb lb L v0 kv qv nk nq m K Q b p)(hb:b<1000)(hp:p<=m.np)(ht:t.length<=1000000)
 (hnum:KP m v0 S<4294967296) (hnext:Ee m t.length=0->Calls prog 127 #[.pointer (some ⟨lb,0,none⟩)] w λe w'=>WB w lo hi cb lb L v0 kv qv nk nq m K Q b p S e w') :
 Calls prog 78 #[.pointer (some ⟨lb,0,none⟩),.string (D9 t)] w λe w'=>mY w lo hi cb lb L v0 kv qv nk nq m K Q b p S t e w':=by
 have HM:=Jy (Xu w lo hi cb L m t h.wf h.E2 (by omega));have c0:=h.log.c0;have c4:=h.log.c4;obtain⟨X,hX⟩:=Jq (D9 t);rw[<-hX]at HM ⊢;have HX:=Jy hX;by_cases a3:Ee m t.length=0
 ·rw[a3]at HM;have aw:De t.length<=Ec m:=by
   unfold Ee at a3
   split at a3
   ·omega
   split at a3
   ·omega
   omega
  have bq:=VK h.wf;have bG:=Fc m;have bO:=h.wf.Iu;have H0:=Jy h;have HN:=Jy (hnext a3);obtain⟨bn,ad⟩:=Jq (Dt m);obtain⟨kn,a9⟩:=Jq (KP m v0 S);rw[<-ad]at bG;rw[<-a9]at hnum;have aB:=Jy ad;have aQ:=Jy a9;obtain⟨np,ae⟩:=Jq (De t.length);rw[<-ae]at aw;have br:=Jy ae;obtain⟨s,hs⟩:=Jq (KR m v0 S K Q b p t);have Hs:=Jy hs;have aS:Hid (s.m.np=m.np):=Jy (by rw[hs];exact iO K _);have aK:=Jy a3;clear h hnext ad a9 hX ae hs a3;go_enter func78,ntmps78
  go_wp2_with (first | (go_at_call 74;refine Jj HM.o ?_) | fail);refine HN.o.mono ?_;rintro e W1 ⟨tb,nt,rfl,aN,ar,bA,b6,b8,aO⟩;rw[<-aB.o];rw[show Ky (S bn) ((v0.nn+1)%4294967296)=kn by rw[aQ.o,aB.o];rfl];obtain⟨W2,an⟩:=Jq (W1.alloc (.map #[] 0));have bz:=MF W1;rw[<-an]at bz;have aY:EK W2 W1.heap.size 0 (λ_=>false):=by rw[an];exact WR W1
  have aI:=KD an;obtain⟨W3,az⟩:=Jq (W2.alloc (.cells #[.int .i64 bn,.int .u32 kn] 90));have av:=KD az;obtain⟨ib,LK⟩:=Jq W1.heap.size;obtain⟨a4,ac⟩:=Jq W2.heap.size;rw[<-LK]at bz aY;have bB:=L0 an;have aG:=K5 az ac.symm;have bg:=(aN.new aI).new av;have b5:=aY.of_block (av.zK ib);have bj:=(ar.of_block (aI.block tb ar.lt)).of_block (av.block tb (by have:=ar.lt;omega));have ao:Below W1.heap.size W1 W3:=aI.trans (av.zM);have r0:=Dv 0 aG;have r1:=Dv 1 aG;have aC:=Jy (m6 bn kn t W3 (by omega) hnum ht);rw[show Go.Proofs.YtodmdkhdbfbfgaaGreatDoor.D9 t=X from HX.o.symm]at aC;unfold VS at aC;have bK:=Jy az;have aT:=Jy ac;have a7:Hid (W1.heap.size<=ib/\ib<W3.heap.size/\ib≠a4):=Jy ⟨by omega,b5.lt,by omega⟩;have bf:=Jy bg;have bh:=Jy b5;have b0:=Jy bj
  have b3:=Jy aG;have aE:Hid (∀k,Ew lo hi lb kv qv k->k<W1.heap.size):=Jy (λk hk=>TE aN hk);have bp:Hid (tb<W1.heap.size):=Jy ar.lt;have aZ:Hid (w.heap.size<=W1.heap.size):=Jy aO.size;have aj:Hid (W1.heap.size<=a4):=Jy (by omega);have aP:Hid (Fm (Ew lo hi lb kv qv) w W3):=Jy ((aO.mono λk _ hk=>.inr (.inl hk)).trans (Fm.HQ ao));have aH:=Jy b6;have bE:=Jy b8;have bF:=Jy bA;clear aN ar b8 aO an aY aI az av LK ac bB aG bg b5 bj ao b6 bA HM HN;go_wp2_with (first | (rw[<-bK.o,<-aT.o]) | fail);refine aC.o.mono ?_;rintro e W4 ⟨g,rfl,hg,bu,ag⟩;rw[<-br.o];have bH:W3.heap.size<=g:=hg;have bi:Ff W4 g 0 (EE bn kn t):=rQ bu;have bs:=bf.o.new ag;have bc:=bh.o.of_block (ag.block ib a7.o.2.1);have aV:=(ag.block a4 (lt_of_heap b3.o)).trans b3.o
  have au:=b0.o.of_block (ag.block tb b0.o.lt);have a1:¬Ew lo hi lb kv qv ib:=λhk=>by have:=aE.o ib hk;have:=a7.o.1;omega
  have bL:W1.heap.size<=W3.heap.size:=by have:=a7.o;omega
  have a8:¬Ew lo hi lb kv qv g:=λhk=>by have:=aE.o g hk;omega
  have Sj:g≠ib:=by have:=a7.o.2.1;omega
  have aF:(EE bn kn t).length=np:=by rw[Go.Nt.EC];exact br.o.symm
  have hA:=rq W4 lo hi cb lb L ⟨v0.nb,v0.nn,some tb⟩ kv qv nk nq K ⟨EE bn kn t,m,Q,b,p,λ_=>false⟩ ib 0 g 0 np bs hb hp bc (by show 0+40*(EE bn kn t).length<=_;rw[aF];omega) ⟨a1,a8,Sj⟩ bi (λx hx=>Cf (TB bn kn t x hx)) (by show(EE bn kn t).length<=_;rw[aF];exact AB _) (by omega);have bb:E7 K ⟨EE bn kn t,m,Q,b,p,λ_=>false⟩=s:=by rw[Hs.o,aB.o,aQ.o];rfl
  rw[bb]at hA;have b9:Calls prog 128 #[.pointer (some ⟨lb,0,none⟩),.slice (some ⟨g,0,none⟩) np np,.map (some ib)] W4 λe w'=>VB W4 lo hi cb lb L ⟨v0.nb,v0.nn,some tb⟩ kv qv nk nq K ib 0 ⟨EE bn kn t,m,Q,b,p,λ_=>false⟩ s e w':=by
   have:=hA
   simp only[aF]at this;exact this
  have HA:=Jy b9;have be:=Jy aV;have aU:=Jy au;have bl:Hid (Fm (Ew lo hi lb kv qv) w W4):=Jy (aP.o.trans (Fm.HQ ag));have b7:=Jy a1;have ah:Hid (w.heap.size<=ib):=Jy (by have h1:=a7.o.1;have:=aP.o.size;have h2:=aE.o lb (.inr (.inl rfl));exact AF (aZ.o) h1);have am:Hid (tb≠ib/\tb≠a4):=Jy ⟨by have:=bp.o;have:=a7.o;omega,by have h1:=bp.o;have h2:=aj.o;omega⟩;have aX:a4≠ib:=λe=>a7.o.2.2 e.symm
  have aR:¬Ew lo hi lb kv qv a4:=λhk=>by have h1:=aE.o a4 hk;have h2:=aj.o;omega
  have aW:=lt_of_heap aV;clear hA b9 bb bi bs bc aV au a1 a8 Sj aF bu ag aC bf bh b0 b3 aP r0 r1 c0 c4 hg bH bL;go_wp2_with fail;refine HA.o.mono ?_;rintro e W5 ⟨rfl,a0,bm,ay⟩;have bD:=a7.o;have aM:=Jy a0;have bC:=Jy bm;have bx:Hid (Fm (Ew lo hi lb kv qv) w W5):=Jy (((bl.o.mono (T:=λk=>Ew lo hi lb kv qv k\/k=ib) λk _ h=>.inl h).trans ay).mono λk hk h=>by
   rcases h with h | h
   ·exact h
   exfalso;have:=ah.o;omega)
  have b4:=(ay.block a4 aW (λh=>by
   rcases h with h | h
   ·exact aR h
   exact aX h)).trans be.o
  have bJ:=Jy (aU.o.of_block (ay.block tb aU.o.lt (λh=>by
   rcases h with h | h
   ·exact aH.o h
   exact am.o.1 h)))
  have r0:=Dv 0 b4;have r1:=Dv 1 b4;have n0:=a0.log.n0;have n1:=a0.log.n1;have k2:=a0.log.c2;have t4:=a0.log.t4;have d0:=a0.log.c0;have d4:=a0.log.c4;have d5:=a0.log.c5;have f1:=a0.log.fz 1;have f2:=a0.log.fz 2;have f3:=a0.log.fz 3;have f4:=a0.log.fz 4;have f6:=a0.log.fz 6;have f7:=a0.log.fz 7;obtain⟨z,hz⟩:=Jq s.left.isEmpty;rw[<-hz];have Hz:=Jy hz;clear a0 bm ay b4 HA be aU bl hz;cases z with
  | true =>
    have ai:s.left=[]:=List.isEmpty_iff.1 Hz.o.symm;obtain⟨W6,a5⟩:=Jq (((W5.setCell ⟨lb,1,none⟩ (.int .i64 bn)).setCell ⟨lb,2,none⟩ (.int .u32 kn)).setCell ⟨lb,3,none⟩ (.map (some ib)));have eo:∀j,j≠lb->((W5.setCell ⟨lb,1,none⟩ (.int .i64 bn)).setCell ⟨lb,2,none⟩ (.int .u32 kn)).heap[j]? = W5.heap[j]? := λj hj=>(AH _ ⟨lb,2,none⟩ _ j hj).trans (AH _ ⟨lb,1,none⟩ _ j hj)
    have aJ:ib≠lb:=λe=>b7.o (.inr (.inl e))
    have af:tb≠lb:=λe=>aH.o (.inr (.inl e))
    have a6:=Jy ((aM.o.label bn kn).keep (bC.o.of_block (eo ib aJ)) b7.o);have bI:=Jy (bJ.o.of_block (w':=W6) (by rw[a5];exact(AH _ ⟨lb,3,none⟩ _ tb af).trans (eo tb af)));have aA:Hid (Fm (Ew lo hi lb kv qv) w W6):=Jy (by rw[a5];exact((bx.o.set (g:=lb) (λ_=>.inr (.inl rfl)) 1 _).set (g:=lb) (λ_=>.inr (.inl rfl)) 2 _).set (g:=lb) (λ_=>.inr (.inl rfl)) 3 _);rw[<-a5]at a6;have ax:=Jy a5;have aD:=Jy ai;clear eo a5 ai;go_wp2_with fail;go_ret
    rw[<-ax.o];refine⟨λh=>absurd aK.o h,λ_ _ => ?_,λ_ h=>absurd (by rw[<-Hs.o];exact aD.o) h⟩;rw[<-Hs.o];refine⟨ib,0+40*(EE bn kn t).length,tb,nt,rfl,?_,bI.o,bF.o,?_,aA.o,ah.o,bE.o⟩
    ·rw[<-aB.o,<-aQ.o];exact a6.o
    intro h;rcases h with h | h | h | h
    ·exact aH.o (.inl h)
    ·exact af h
    ·cases h;exact am.o.1 rfl
    exact aH.o (.inr (.inr (.inr h)))
  | false =>
    have ai:s.left≠[]:=λh=>by have:=Hz.o;rw[h]at this;cases this
    have HP:=Jy (Er W5 lo hi cb L s.m aM.o.E2);rw[show s.m.np=m.np from aS.o]at HP;obtain⟨W6,a5⟩:=Jq (((W5.setCell ⟨lb,4,none⟩ (.map none)).setCell ⟨lb,6,none⟩ (.int .i64 b)).setCell ⟨lb,7,none⟩ (.int .i64 m.np));have a6:=Jy ((aM.o.Pz.MY b).JF m.np);rw[<-a5]at a6;have aA:Hid (Fm (Ew lo hi lb kv qv) w W6):=Jy (by rw[a5];exact((bx.o.set (g:=lb) (λ_=>.inr (.inl rfl)) 4 _).set (g:=lb) (λ_=>.inr (.inl rfl)) 6 _).set (g:=lb) (λ_=>.inr (.inl rfl)) 7 _);have HD:=Jy (EW W6 lo hi cb L s.m a6.o.E2);have bN:=a6.o.log.c0;have ax:=Jy a5;have aD:=Jy ai;clear a5 ai;by_cases hd:s.m.Da=0
    ·have Kp:(s.m.Da==0)=true:=DI.2 hd;rw[Kp]at HD;go_wp2_with (first | (go_at_call 77;refine Jj HP.o ?_) | (rw[<-ax.o]) | (go_at_call 25;refine Jj HD.o ?_) | fail);go_ret
     refine⟨λh=>absurd aK.o h,λ_ h=>absurd h (by rw[<-Hs.o];exact aD.o),λ_ _ => ?_⟩;rw[<-Hs.o];exact⟨by rw[AE hd];rfl,a6.o,aA.o⟩
    have Kp:(s.m.Da==0)=false:=BI.2 hd;rw[Kp]at HD;go_wp2_with (first | (go_at_call 77;refine Jj HP.o ?_) | (rw[<-ax.o]) | (go_at_call 25;refine Jj HD.o ?_) | fail);go_ret
    refine⟨λh=>absurd aK.o h,λ_ h=>absurd h (by rw[<-Hs.o];exact aD.o),λ_ _ => ?_⟩;rw[<-Hs.o];exact⟨by rw[AC hd];rfl,a6.o,aA.o⟩
 obtain⟨me,aa⟩:=Jq (Ee m t.length);rw[<-aa]at HM a3;have bM:(me != 0)=true:=by simpa using a3
 have aL:=Jy aa;clear h hnext aa hX c4;go_enter func78,ntmps78
 go_wp2_with (first | (go_at_call 74;refine Jj HM.o ?_) | fail);go_ret
 have h9:=aL.o;exact⟨λ_=>⟨by rw[<-h9];rfl,rfl⟩,λh=>absurd (h9.trans h) a3,λh=>absurd (h9.trans h) a3⟩
end S1
namespace S1
open Go.RowKit Pk
open Go.Nt (Fp Dp FJ EB Ky GG LZ Jm Gs Ur)
theorem oq(w:D7)(lo hi cb lb:Nat)(L:Loc)(v0:Lv)(kv qv:Option Nat)(nk nq:Nat)(m:M)(K Q:Nat->Bool)(b p:Nat)(S:Nat->Nat->Bool)(hS:S=FJ (EB (Fs m) m.np m.nb))(h:EO w lo hi cb lb L v0 kv qv nk nq m K Q b p)(htk:v0.tk=none)(hlife:m.Da≠0)(hfree:LZ (S (Dt m))) :
 Calls prog 127 #[.pointer (some ⟨lb,0,none⟩)] w λe w'=>WB w lo hi cb lb L v0 kv qv nk nq m K Q b p S e w':=by
 have b5:=h.wf;have bf:=Jy (λ(V:D7) (hV:CP V lo hi cb L m)=>Yo V lo hi cb L m h.wf hV);have cm:=h.wf.Iu;have c9:=Fc m;obtain⟨bn,ac⟩:=Jq (Dt m);rw[<-ac]at bf c9;unfold WB;rw[<-ac];rw[<-ac]at hfree;obtain⟨Sb,bi⟩:=Jq (S bn);have bO:=Jy bi;rw[<-bi]at hfree;have au:=Jy hfree;obtain⟨k0,a9⟩:=Jq ((v0.nn+1)%4294967296);have cc:k0<4294967296:=by rw[a9];exact BM _ (by decide)
 have aP:((v0.nn:Int)+1)%4294967296=(k0:Nat):=by rw[a9];omega
 have ca:IntKind.u32.wrap ((v0.nn:Int)+1)=(k0:Nat):=by rw[IntKind.wrap_u32];exact aP
 rw[<-a9];have co:∀(w:D7) (r:Option Nat),(binOp .eql 130 (.map r) (.map none)).run prog w=.ok (.bool r.isNone) w:=λw r=>run_eql_map_nil w _ _ _ r underlying130
 obtain⟨W0,ax⟩:=Jq (w.alloc (.cells #[.int .i64 0,.int .u32 0] 90));obtain⟨rb,ar⟩:=Jq w.heap.size;have bH:=K5 ax ar.symm;have bh:=KD ax;have ao:=h.new bh;have ai:=Jy (Cf ar.symm);have H0:=Jy h;have bL:=Jy ax;have cf:=Jy ar;have aD:=h.log.lt;have ce:lb≠rb:=by rw[ar];omega
 have bF:=Jy (O9 W0 lo hi cb L m b5 ao.E2 ao.sz hlife);have bU:=b5.Jv;have bD:m.nb*m.np<=512:=Cn cm bU;have aX:Hid (∀f∈EB (Fs m) m.np m.nb,Go.Nt.JZ f):=Jy (λf hf=>(Go.Nt.G9 hf).1);obtain⟨lF,bg⟩:=Jq (EB (Fs m) m.np m.nb);rw[<-bg]at aX hS;have bq:=Jy bg;have HS:=Jy hS;have c8:=ao.log.c0;have bE:=ao.log.t4;rw[htk]at bE;have bN:=Jy ao;have b6:=Jy bH;have aM:=Jy bh;have bX:=Jy htk;have cs:Hid (W0.heap.size=rb+1):=Jy (by rw[ax,ar];simp);clear h htk ac bi hfree a9 ax ar bH bh ao hS bg b5;go_enter func127,ntmps127
 go_wp2_with (first | (rw[<-bL.o,<-cf.o]) | (rw[<-bL.o]) | fail);refine bF.o.mono ?_;rintro e W1 ⟨rfl,b8,aG⟩;rw[<-bq.o]at b8;have ay:=Jy (Ya W1 W0.heap.size (m.nb*m.np) lF b8 (by omega) aX.o);have aa:=Jy (bN.o.new aG);have af:=Jy ((aG.block rb (lt_of_heap b6.o)).trans b6.o);have aN:=Jy (aM.o.trans (aG.mono aM.o.size));clear b8 aG bF c8 bE;go_wp2_with fail;refine ay.o.mono ?_;rintro e W2 ⟨rfl,ah,a6⟩;have aA:=aN.o.size;obtain⟨tb,aH⟩:=Jq W1.heap.size;rw[<-aH]at ah;simp only[<-aH];have a7:=Jy (aa.o.new a6);have bp:=lt_of_heap af.o;have a8:=Jy ((a6.block rb bp).trans af.o);have bC:Hid (Below w.heap.size w W2):=Jy (aN.o.trans (a6.mono aA));have aO:=a7.o.log.t4;have cw:=a7.o.log.fz 4;have ci:rb≠tb:=by rw[aH];exact λe=>by omega
 have bu:lb≠tb:=by have:=aa.o.log.lt;omega
 have cj:Hid (¬Ew lo hi lb kv qv tb):=Jy (λhk=>by have:=TE aa.o hk;omega);have bZ:Hid (v0.tk=some tb\/w.heap.size<=tb):=Jy (.inr (by omega));obtain⟨Wa,av⟩:=Jq (W2.setCell ⟨lb,4,none⟩ (.map (some tb)));have eo:∀j,j≠lb->Wa.heap[j]? = W2.heap[j]? := λj hj=>by rw[av];exact AH W2 ⟨lb,4,none⟩ _ j hj
 have aR:Hid (Wa.heap[rb]? = some (.cells #[.int .i64 0,.int .u32 0] 90 (0,0))):=Jy ((eo rb (λe=>ce e.symm)).trans a8.o);have ae:Hid (EO Wa lo hi cb lb L ⟨v0.nb,v0.nn,some tb⟩ kv qv nk nq m K Q b p):=Jy (by rw[av];exact a7.o.field (a7.o.log.SD (some tb)));have aU:FK W2 tb 100000 S:=by rw[HS.o];exact ah
 obtain⟨nt,aF⟩:=Jq 100000;rw[<-aF]at aU;have be:Hid (FK Wa tb nt S):=Jy (aU.of_block (eo tb (λe=>bu e.symm)));have am:nt<=100000:=Cf aF;have bj:Hid (Fm (λk=>k=lb) w Wa):=Jy (by rw[av];exact Fm.set (S:=λk=>k=lb) (Fm.HQ bC.o) (g:=lb) (λ_=>rfl) 4 _);have bY:=Jy av;clear ah a6 ay aa af aN a7 a8 bC bN b6 aM eo aU aF av aA aH bu HS bq aX;go_wp2_with (first | (rw[<-bY.o]) | fail);have a0:=ae.o.log.c0;have a2:=ae.o.log.n1;have aL:Wa.drew.cell? ⟨lb,0,none⟩=some (.pointer (some ⟨cb,0,none⟩)):=a0;have b3:Wa.drew.cell? ⟨lb,2,none⟩=some (.int .u32 v0.nn):=a2
 have HK:Hid (∀V:D7,(∀k,k<Wa.heap.size->V.heap[k]? = Wa.heap[k]?)->V.cell? ⟨lb,0,none⟩=some (.pointer (some ⟨cb,0,none⟩))/\V.cell? ⟨lb,2,none⟩=some (.int .u32 v0.nn)):=Jy (λV hV=>⟨by rw[AJ (hV lb ae.o.log.lt)];exact a0,by rw[AJ (hV lb ae.o.log.lt)];exact a2⟩);have aV:=lt_of_heap aR.o;have bc:=be.o.lt;go_wp2_with fail;refine BE (S:=λV=>V.cell? ⟨lb,0,none⟩=some (.pointer (some ⟨cb,0,none⟩))/\V.cell? ⟨lb,2,none⟩=some (.int .u32 v0.nn)) (by kernel_rfl) ⟨aL,b3⟩ (λhHeld => ?_);refine tk 0 ⟨some 18,.move (.tmp 0),_,_,_,none⟩ (.pointer (some ⟨lb,0,none⟩)) rfl (λw h=>by go_simp) hHeld ?_;simp only[zP,List.set]
 refine tk 1 ⟨some 19,.nilCheck (.tmp 18),_,_,_,none⟩ (.pointer (some ⟨lb,0,none⟩)) rfl (λw h=>by go_simp) hHeld ?_;simp only[zP,List.set];refine tk 2 ⟨some 20,.fieldAddr 132 (.tmp 19) 0,_,_,_,none⟩ (.pointer (some ⟨lb,0,none⟩)) rfl (λw h=>by go_simp) hHeld ?_;simp only[zP,List.set];refine tk 3 ⟨some 21,.load 28 (.tmp 20),_,_,_,none⟩ (.pointer (some ⟨cb,0,none⟩)) rfl (λw h=>by go_simp) hHeld ?_;simp only[zP,List.set];refine tk 5 ⟨some 23,.move (.tmp 0),_,_,_,none⟩ (.pointer (some ⟨lb,0,none⟩)) rfl (λw h=>by go_simp) hHeld ?_;simp only[zP,List.set]
 refine tk 6 ⟨some 24,.nilCheck (.tmp 23),_,_,_,none⟩ (.pointer (some ⟨lb,0,none⟩)) rfl (λw h=>by go_simp) hHeld ?_;simp only[zP,List.set];refine tk 7 ⟨some 25,.fieldAddr 132 (.tmp 24) 1,_,_,_,none⟩ (.pointer (some ⟨lb,1,none⟩)) rfl (λw h=>by go_simp) hHeld ?_;simp only[zP,List.set];refine tk 8 ⟨some 26,.fieldAddr 90 (.tmp 25) 1,_,_,_,none⟩ (.pointer (some ⟨lb,2,none⟩)) rfl (λw h=>by go_simp) hHeld ?_;simp only[zP,List.set];refine tk 9 ⟨some 27,.load 88 (.tmp 26),_,_,_,none⟩ (.int .u32 v0.nn) rfl (λw h=>by go_simp) hHeld ?_;simp only[zP,List.set]
 refine tk 10 ⟨some 28,.binOp .add 88 (.tmp 27) (.const (.int .u32 1)) 88,_,_,_,none⟩ (.int .u32 k0) rfl (λw h=>by go_simp) hHeld ?_;simp only[zP,List.set];refine wpAnyH_ready (rs:=[4,12]) (by kernel_rfl) (by simp) ?_;refine CK rfl (λK hK => ?_) (CK rfl (λK hK => ?_) DZ)
 focus
  go_simp;refine(bf.o Wa.drew ae.o.drew.E2).mono ?_;rintro e w' ⟨rfl,hw⟩;have b0:=hw.symm;subst b0;clear hw;refine hK.o _ _ ⟨aL,b3⟩ (λhHeld => ?_);clear hK K;refine tk 11 ⟨some 29,.build 90 #[(0,.tmp 22),(1,.tmp 28)],_,_,_,none⟩ (.agg #[.int .i64 bn,.int .u32 k0]) rfl (λw h=>by go_simp) hHeld ?_;simp only[zP,List.set];refine rd 12 rfl (λK hK => ?_);go_simp;refine hK.o _ _ (HK.o _ λk hk=>AO Wa _ k hk) (λhHeld => ?_);clear hK K;refine rd 13 rfl (λK hK => ?_);go_simp;refine hK.o _ _ (HK.o _ λk hk=>AO Wa _ k hk) (λhHeld => ?_);clear hK K;refine BT (by kernel_rfl) ?_ _;clear hHeld
  obtain⟨Wb,ad⟩:=Jq ((Wa.alloc (.cells #[.int .i64 bn,.int .u32 k0] 90)).drew);obtain⟨a1,a3⟩:=Jq Wa.heap.size;rw[<-ad];simp only[<-a3];have bb:Hid (Wb.heap[a1]? = some (.cells #[.int .i64 bn,.int .u32 k0] 90 (0,0))):=Jy (by rw[ad,a3];exact AQ _ _);have aj:Below Wa.heap.size Wa Wb:=by rw[ad];exact N5 (Nu)
  have aw:Wa.heap.size<=a1:=Cf a3.symm;clear ad a3
 rotate_left
 focus
  go_simp;obtain⟨V1,aC⟩:=Jq ((Wa.alloc (.cells #[.int .i64 0,.int .u32 0] 90)).drew);obtain⟨a1,a3⟩:=Jq Wa.heap.size;refine hK.o _ _ (HK.o _ λk hk=>AO Wa _ k hk) (λhHeld => ?_);clear hK K;rw[<-aC];simp only[<-a3];have a5:V1.heap[a1]? = some (.cells #[.int .i64 0,.int .u32 0] 90 (0,0)):=by rw[aC,a3];exact AQ _ _
  have aK:Below Wa.heap.size Wa V1:=by rw[aC];exact N5 (Nu)
  have aw:Wa.heap.size<=a1:=Cf a3.symm;have cv:=Jy aC;have cu:=Jy a3;clear aC a3;refine rd 4 rfl (λK hK => ?_);go_simp;refine(bf.o V1 (ae.o.new aK).E2).mono ?_;rintro e w' ⟨rfl,hw⟩;have b0:=hw.symm;subst b0;clear hw;refine hK.o _ _ (HK.o _ λk hk=>aK.block k hk) (λhHeld => ?_);clear hK K;refine tk 11 ⟨some 29,.build 90 #[(0,.tmp 22),(1,.tmp 28)],_,_,_,none⟩ (.agg #[.int .i64 bn,.int .u32 k0]) rfl (λw h=>by go_simp) hHeld ?_;simp only[zP,List.set];have s0:=Dv 0 a5;have s1:=Dv 1 a5;have z0:=FU 0 a5;have z1:=FU 1 a5;refine rd 13 rfl (λK hK => ?_);go_simp;obtain⟨Wb,ad⟩:=Jq ((V1.setCell ⟨a1,0,none⟩ (.int .i64 bn)).setCell ⟨a1,1,none⟩ (.int .u32 k0));rw[<-ad]
  have bb:Hid (Wb.heap[a1]? = some (.cells #[.int .i64 bn,.int .u32 k0] 90 (0,0))):=Jy (by rw[ad];exact AK _ a1 1 _ 90 _ (AK _ a1 0 _ 90 _ a5));have aj:Below Wa.heap.size Wa Wb:=by rw[ad];exact(aK.zS).zS
  refine hK.o _ _ (HK.o _ λk hk=>aj.block k hk) (λhHeld => ?_);clear hK K;refine BT (by kernel_rfl) ?_ _;clear hHeld s0 s1 z0 z1 a5 aK ad
 rotate_left
 all_goals
  have ay:=Jy (ae.o.new aj);have bG:=Jy (be.o.of_block (aj.block tb bc));have bK:=Jy ((aj.block rb aV).trans aR.o);have bB:Hid (Fm (λk=>k=lb) w Wb):=Jy (bj.o.trans (Fm.HQ aj));have bS:w.heap.size<=a1:=AF bj.o.size aw;have cg:a1≠rb:=by omega
  have aF:a1≠tb:=by omega
  have bT:∀k,Ew lo hi lb kv qv k->k≠a1:=λk hk e=>by have:=TE ae.o hk;omega
  have cl:=Jy bT;clear aj HK a0 a2 aL b3 bT;go_wp2_with fail
  go_loopw [] (λwr=>∃k:Nat,k<4294967296/\Hid (wr.heap[a1]? = some (.cells #[.int .i64 bn,.int .u32 k] 90 (0,0)))/\Hid (Ky Sb k=Ky Sb k0)/\Hid (EO wr lo hi cb lb L ⟨v0.nb,v0.nn,some tb⟩ kv qv nk nq m K Q b p)/\Hid (FK wr tb nt S)/\Hid (wr.heap[rb]? = some (.cells #[.int .i64 0,.int .u32 0] 90 (0,0)))/\Hid (Fm (λk=>k=lb) w wr)) (λwr=>GG Sb 700 (LG wr a1))
  case atStart=>exact⟨k0,cc,bb,Jy rfl,ay,bG,bK,bB⟩
  clear ay bG bK bB bb aR be ae bj;obtain⟨k,hk,az,HE,aa,aI,af,bs⟩:=hrel;have t4:=aa.o.log.t4;have n0:=Dv 0 az.o;have n1:=Dv 1 az.o;have bR:wr.drew.cell? ⟨lb,4,none⟩=some (.map (some tb)):=t4;have bI:wr.drew.cell? ⟨a1,0,none⟩=some (.int .i64 bn):=n0;have bz:wr.drew.cell? ⟨a1,1,none⟩=some (.int .u32 k):=n1;have A:=Jy (mI tb nt bn k S wr.drew (aI.o.of_block rfl) (by omega) (by omega));unfold lv at A;rw[show S bn k=Sb k by rw[bO.o]]at A;have aD:=aa.o.log.lt;have ag:=lt_of_heap az.o;have aZ:=lt_of_heap af.o;have aW:=aI.o.lt;have aT:Hid (LG wr a1=k):=Jy (by unfold LG;rw[n1];simp);obtain⟨r,hr⟩:=Jq (Sb k);rw[<-hr]at A;have Hr:=Jy hr;clear hr;go_wp2_with fail
  refine BE (S:=λV=>V.cell? ⟨lb,4,none⟩=some (.map (some tb))/\V.cell? ⟨a1,0,none⟩=some (.int .i64 bn)/\V.cell? ⟨a1,1,none⟩=some (.int .u32 k)) (by kernel_rfl) ⟨bR,bI,bz⟩ (λhHeld => ?_);refine tk 0 ⟨some 30,.move (.tmp 0),_,_,_,none⟩ (.pointer (some ⟨lb,0,none⟩)) rfl (λw h=>by go_simp) hHeld ?_;simp only[zP,List.set];refine tk 1 ⟨some 31,.nilCheck (.tmp 30),_,_,_,none⟩ (.pointer (some ⟨lb,0,none⟩)) rfl (λw h=>by go_simp) hHeld ?_;simp only[zP,List.set];refine tk 2 ⟨some 32,.fieldAddr 132 (.tmp 31) 3,_,_,_,none⟩ (.pointer (some ⟨lb,4,none⟩)) rfl (λw h=>by go_simp) hHeld ?_;simp only[zP,List.set]
  refine tk 3 ⟨some 33,.load 130 (.tmp 32),_,_,_,none⟩ (.map (some tb)) rfl (λw h=>by go_simp) hHeld ?_;simp only[zP,List.set];refine tk 4 ⟨some 34,.load 90 (.tmp 3),_,_,_,none⟩ (.agg #[.int .i64 bn,.int .u32 k]) rfl (λw h=>by go_simp) hHeld ?_;simp only[zP,List.set];refine rd 5 rfl (λK hK => ?_);go_simp;refine A.o.mono ?_;rintro e W2 ⟨rfl,a6⟩;have a4:Below wr.heap.size wr W2:=⟨a6.os,a6.tape,a6.output,a6.size,a6.block⟩;have aO:W2.cell? ⟨lb,4,none⟩=some (.map (some tb)):=by rw[a4.cell (p:=⟨lb,4,none⟩) aD];exact t4
  have bV:W2.cell? ⟨a1,0,none⟩=some (.int .i64 bn):=by rw[a4.cell (p:=⟨a1,0,none⟩) ag];exact n0
  have bW:W2.cell? ⟨a1,1,none⟩=some (.int .u32 k):=by rw[a4.cell (p:=⟨a1,1,none⟩) ag];exact n1
  refine hK.o _ _ ⟨aO,bV,bW⟩ (λhHeld => ?_);refine BT (by kernel_rfl) ?_ _;clear hHeld hK K;have a7:=Jy (aa.o.new a4);have aS:=Jy (aI.o.of_block (a4.block tb aW));have a8:=Jy ((a4.block rb aZ).trans af.o);have b4:=Jy ((a4.block a1 ag).trans az.o);have aQ:Hid (Fm (λk=>k=lb) w W2):=Jy (bs.o.trans (Fm.HQ a4));have ct:=FU 1 b4.o;clear A a6 a4 aa aI af az bs t4 n0 n1 bR bI bz aO;cases r with
  | true =>
    obtain⟨bx,br⟩:=Ur au.o hk Hr.o.symm;have bP:=Jy bx;have bJ:=Jy br;obtain⟨k1,aJ⟩:=Jq ((k+1)%4294967296);have b7:((k:Int)+1)%4294967296=(k1:Nat):=by rw[aJ];omega
    have bm:k1<4294967296:=by rw[aJ];exact BM _ (by decide)
    rw[<-aJ]at bP bJ;obtain⟨W3,an⟩:=Jq (W2.setCell ⟨a1,1,none⟩ (.int .u32 k1));have bM:=Jy an;have aB:W3.heap.size=W2.heap.size:=by rw[an];simp
    have eo:∀j,j≠a1->W3.heap[j]? = W2.heap[j]? := λj hj=>by rw[an];exact AH W2 ⟨a1,1,none⟩ _ j hj
    have bQ:Hid (W3.heap[a1]? = some (.cells #[.int .i64 bn,.int .u32 k1] 90 (0,0))):=Jy (by rw[an];exact AK _ a1 1 _ 90 _ b4.o);have aY:=Jy (a7.o.Dn (w':=W3) (by rw[aB];exact a7.o.sz) λj hj _=>eo j (cl.o j hj));have bl:=Jy (aS.o.of_block (eo tb (λe=>aF e.symm)));have cq:=Jy ((eo rb (λe=>cg e.symm)).trans a8.o);have b9:Hid (Fm (λk=>k=lb) w W3):=Jy (by rw[an];exact aQ.o.set (g:=a1) (λh=>absurd h (by omega)) 1 _);have aE:Hid (LG W3 a1=k1):=Jy (by unfold LG;rw[AG W3 a1 1 _ 90 (0,0) bQ.o];simp);clear bx br aJ an eo aB a7 aS a8 b4 aQ;go_wp2_with (first | (rw[b7,<-bM.o]) | (rw[<-bM.o]) | fail);go_roundw
    case rel=>exact⟨k1,bm,bQ,Jy (by rw[<-bP.o];exact HE.o),aY,bl,cq,b9⟩
    case measure=>rw[aE.o,aT.o];exact bJ.o
  | false =>
    have HX:Hid (Ky Sb k0=k):=Jy (by rw[<-HE.o];exact Gs hk Hr.o.symm);have q0:=Dv 0 a8.o;have q1:=Dv 1 a8.o;have f0:=FU 0 a8.o;have f1:=FU 1 a8.o;have bA:∀j,Ew lo hi lb kv qv j->j≠rb:=λj hj e=>by have h9:=TE H0.o hj;have:=ai.o;omega
    have eo:∀j,j≠rb->((W2.setCell ⟨rb,0,none⟩ (.int .i64 bn)).setCell ⟨rb,1,none⟩ (.int .u32 k)).heap[j]? = W2.heap[j]? := λj hj=>(AH _ ⟨rb,1,none⟩ _ j hj).trans (AH _ ⟨rb,0,none⟩ _ j hj)
    have aY:=Jy (a7.o.Dn (w':=(W2.setCell ⟨rb,0,none⟩ (.int .i64 bn)).setCell ⟨rb,1,none⟩ (.int .u32 k)) (by have:=a7.o.sz;simpa using this) λj hj _=>eo j (bA j hj));have bl:=Jy (aS.o.of_block (eo tb (λe=>ci e.symm)));have b9:Hid (Fm (λk=>k=lb) w ((W2.setCell ⟨rb,0,none⟩ (.int .i64 bn)).setCell ⟨rb,1,none⟩ (.int .u32 (k:Nat)))):=Jy ((aQ.o.set (g:=rb) (λh=>absurd h (by have:=ai.o;omega)) 0 _).set (g:=rb) (λh=>absurd h (by have:=ai.o;omega)) 1 _);clear eo bA;go_wp2_with fail;refine Au (v:=.agg #[.int .i64 bn,.int .u32 (k:Nat)]) ?_ rfl ⟨tb,nt,?_,aY.o,bl.o,am,cj.o,bZ.o,b9.o⟩
    ·simp[results,go_sem,q0,q1]
    rw[bO.o]at HX;rw[HX.o]
end S1
namespace S1
open Go.RowKit Pk
open Go.Nt (Ky De EE Ej F0 FJ EB LZ ZQ)
def Ib(m:M)(Q:Nat->Bool)(t:D8):LS:=KR m ⟨0,0,none⟩ (FJ (EB (Fs m) m.np m.nb)) (λ_=>false) Q (m.nb - 1) m.np t
def EU(m:M)(t:D8):Int × M:=
 if Ee m t.length≠0 then(Ee m t.length,m)
 else if Ee (Ds m m.nb).1 t.length≠0 then(Ee (Ds m m.nb).1 t.length,(Ds m m.nb).1)
 else
  let s:=Ib (Ds m m.nb).1 (Ds m m.nb).2 t
  (if s.left=[]then 0 else if s.m.Da=0 then 10 else 9,s.m)
theorem Wv(m:M):∀k,(Ds m k).1.np=m.np
 | 0=>rfl
 | k+1=>by rw[Ds];exact(Wd _ _).trans (Wv m k)
theorem IA{m:M}{n:Nat}(h:Ee m n=0):m.Da≠0:=by
 unfold Ee at h
 split at h
 ·omega
 assumption
theorem M7(w:D7)(lo hi cb:Nat)(L:Loc)(m:M)(t:D8)(hw:WF m)(h:CP w lo hi cb L m)(hsz:hi<=w.heap.size)(ht:t.length<=1000000) :
 Calls prog 42 #[.pointer (some ⟨cb,0,none⟩),.string (D9 t)] w λe w'=>e=.returned (.int .i64 (EU m t).1)/\CP w' lo hi cb L (EU m t).2/\Dr lo hi w w':=by
 have HM:=Jy (Xu w lo hi cb L m t hw h (by omega));obtain⟨X,hX⟩:=Jq (D9 t);rw[<-hX]at HM ⊢;by_cases ah:Ee m t.length=0
 ·rw[ah]at HM;have HE:=Jy (jU w lo hi cb L m hw h hsz);have af:=To hw m.nb;have a9:=ZK m m.nb;have a7:=Wv m m.nb;have aJ:=hw.Iu;have aI:=hw.Jv;have h4:=hw.KZ;obtain⟨m1,az⟩:=Jq ((Ds m m.nb).1);obtain⟨Q1,aD⟩:=Jq ((Ds m m.nb).2);rw[<-az,<-aD]at HE;rw[<-az]at af a9 a7;have HR:Hid (EU m t=if Ee m1 t.length≠0 then(Ee m1 t.length,m1)else(if(Ib m1 Q1 t).left=[]then 0 else if(Ib m1 Q1 t).m.Da=0 then 10 else 9,(Ib m1 Q1 t).m)):=Jy (by
   unfold EU;rw[AC (by simp[ah]),<-az,<-aD])
  obtain⟨nb,aL⟩:=Jq m.nb;obtain⟨np,aK⟩:=Jq m.np;rw[<-aL]at HE a9 aJ h4;rw[<-aK]at a7 aI;have a8:=Jy a9;have a2:=Jy a7;have aE:=Jy af;have HX:=Jy hX;clear h az aD hX aL aK hw ah a9 a7 af;go_enter func42,ntmps42
  go_wp2_with (first | (go_at_call 74;refine Jj HM.o ?_) | fail);refine HE.o.mono ?_;rintro e W1 ⟨rfl,ao,hQ,ar⟩;have HB:=Jy (Em W1 lo hi cb L m1 ao);rw[a8.o]at HB;have HP:=Jy (Er W1 lo hi cb L m1 ao);rw[a2.o]at HP;have aF:=ar.size;obtain⟨qb,ay⟩:=Jq w.heap.size;rw[<-ay]at hQ aF hsz;simp only[<-ay];have aM:=hQ.lt;obtain⟨lb,ai⟩:=Jq W1.heap.size;obtain⟨W2,ad⟩:=Jq (W1.alloc (.cells #[.pointer (some ⟨cb,0,none⟩),.int .i64 0,.int .u32 0,.map none,.map none,.map (some qb),.int .i64 ((nb - 1:Nat):Int),.int .i64 np] 132));have ae:Below W1.heap.size W1 W2:=by rw[ad];exact(AM _ W1).alloc (AB _) _
  have aB:E8 W2 lb cb ⟨0,0,none⟩ none (some qb) (nb - 1) np:=by
   show W2.heap[lb]? = _;rw[ad,ai];exact AQ _ _
  have ag:EO W2 lo hi cb lb L ⟨0,0,none⟩ none (some qb) 0 nb m1 (λ_=>false) Q1 (nb - 1) np:=
   ⟨aB,Db.below ao (by omega) ae,aE.o,.inl ⟨rfl,λ_=>rfl⟩,.inr ⟨qb,rfl,hQ.of_block (ae.block qb aM)⟩,λg hg=>(by cases hg),λg hg=>(by cases hg;exact⟨by omega,by omega⟩),λg hg=>(by cases hg),(by omega),by have:=ae.size;omega⟩
  have aH:W2.heap.size=lb+1:=by rw[ad,ai];simp
  have a1:LZ (FJ (EB (Fs m1) m1.np m1.nb) (Dt m1)):=ZQ (by have:=Go.Nt.Iv (Fs m1) m1.np m1.nb;rw[a8.o,a2.o]at this;have:nb*np<=512:=Cn aJ aI;rw[a8.o,a2.o];omega) _;have a5:KP m1 ⟨0,0,none⟩ (FJ (EB (Fs m1) m1.np m1.nb))<4294967296:=(Go.Nt.Jm a1 (BM _ (by decide))).2;by_cases a3:Ee m1 t.length=0
  ·have aO:=IA a3;have hA:=Tb W2 lo hi cb lb L ⟨0,0,none⟩ none (some qb) 0 nb m1 (λ_=>false) Q1 (nb - 1) np (FJ (EB (Fs m1) m1.np m1.nb)) t ag (by omega) (by rw[a2.o];exact AB _) ht a5 (λ_=>oq W2 lo hi cb lb L ⟨0,0,none⟩ none (some qb) 0 nb m1 (λ_=>false) Q1 (nb - 1) np _ rfl ag rfl aO a1);rw[<-HX.o]at hA;have HA:=Jy hA;have HS:Hid (KR m1 ⟨0,0,none⟩ (FJ (EB (Fs m1) m1.np m1.nb)) (λ_=>false) Q1 (nb - 1) np t=Ib m1 Q1 t):=Jy (by unfold Ib;rw[a8.o,a2.o]);have ax:Hid (∀V,Fm (Ew lo hi lb none (some qb)) W2 V->Dr lo hi w V):=Jy (λV hV=>by
    have h1:Fm (Ew lo hi lb none (some qb)) w V:=(Fm.Kv ar λk h1 h2=>.inl ⟨h1,h2⟩).trans ((Fm.HQ ae).trans hV);refine h1.only λk hk hs => ?_
    rcases hs with hs | hs | hs | hs
    ·exact hs
    ·omega
    ·cases hs
    cases hs;omega)
   have aj:=Jy ad;have au:=Jy ai;have a0:=Jy a3;have ac:((nb:Int) - 1)=((nb - 1:Nat):Int):=by omega
   clear hA aB ag ad ae ao hQ ar ai aH a1 a5 a3 ay;go_wp2_with (first | (go_at_call 76;refine Jj HB.o ?_) | (go_at_call 77;refine Jj HP.o ?_) | (rw[ac,<-aj.o,<-au.o]) | (rw[<-aj.o,<-au.o]) | fail);refine HA.o.mono ?_;rintro e W3 ⟨_,a6,aA⟩;rw[HS.o]at a6 aA;by_cases aw:(Ib m1 Q1 t).left=[]
   ·obtain⟨ib,nk,tb,nt,rfl,an,_,_,_,av,_,_⟩:=a6 a0.o aw;have aG:=Jy an.E2;have aC:=Jy (ax.o W3 av);have hr:=HR.o;rw[AC (by rw[a0.o];simp),AE aw]at hr;have Hr:=Jy hr;clear a6 aA an av HA hr;go_wp2_with fail;go_ret
    exact⟨by rw[Hr.o];rfl,by rw[Hr.o];exact aG.o,aC.o⟩
   obtain⟨rfl,an,av⟩:=aA a0.o aw;have aG:=Jy an.E2;have aC:=Jy (ax.o W3 av);have hr:=HR.o;rw[AC (by rw[a0.o];simp),AC aw]at hr;obtain⟨er,am⟩:∃er:Int,er=if(Ib m1 Q1 t).m.Da=0 then 10 else 9:=⟨_,rfl⟩;rw[<-am]at hr ⊢;have Hr:=Jy hr;clear a6 aA an av HA hr am;go_wp2_with fail;go_ret
   exact⟨by rw[Hr.o];rfl,by rw[Hr.o];exact aG.o,aC.o⟩
  have hA:=Tb W2 lo hi cb lb L ⟨0,0,none⟩ none (some qb) 0 nb m1 (λ_=>false) Q1 (nb - 1) np (FJ (EB (Fs m1) m1.np m1.nb)) t ag (by omega) (by rw[a2.o];exact AB _) ht a5 (λh=>absurd h a3);rw[<-HX.o]at hA;have HA:=Jy hA;have aN:=Jy ag.E2;have ax:=Jy (ar.trans (Dr.of_below ae));have aj:=Jy ad;have au:=Jy ai;have a0:=Jy a3;have ac:((nb:Int) - 1)=((nb - 1:Nat):Int):=by omega
  clear hA aB ag ad ae ao hQ ar ai aH a1 a5 a3 ay;go_wp2_with (first | (go_at_call 76;refine Jj HB.o ?_) | (go_at_call 77;refine Jj HP.o ?_) | (rw[ac,<-aj.o,<-au.o]) | (rw[<-aj.o,<-au.o]) | fail);refine HA.o.mono ?_;rintro e W3 ⟨hp,_,_⟩;obtain⟨rfl,rfl⟩:=hp a0.o;have hr:=HR.o;rw[AE a0.o]at hr;obtain⟨er,am⟩:∃er:Int,er=Ee m1 t.length:=⟨_,rfl⟩;rw[<-am]at hr ⊢;have Hr:=Jy hr;clear hr am HA hp;go_wp2_with fail;go_ret
  exact⟨by rw[Hr.o];rfl,by rw[Hr.o];exact aN.o,ax.o⟩
 obtain⟨me,aa⟩:=Jq (Ee m t.length);have HR:Hid (EU m t=(me,m)):=Jy (by unfold EU;rw[AE ah,aa]);rw[<-aa]at HM ah;have aP:(me != 0)=true:=by simpa using ah
 have Hh:=Jy h;clear h aa hX hw;go_enter func42,ntmps42
 go_wp2_with (first | (go_at_call 74;refine Jj HM.o ?_) | fail);go_ret
 exact⟨by rw[HR.o];rfl,by rw[HR.o];exact Hh.o,Dr.refl _ _ _⟩
end S1
namespace S1
open Go.RowKit Pk
variable {m m0:M} {s:LS} {K:Nat->Bool} {xs:List D8} {b0 v:Nat}
theorem XG(h:m.Da = -1):(tick m).Da = -1:=by
 unfold tick Dl;show(if m.Da=0 then _ else _:Int × Int × Int).2.1 = -1;rw[h];simp
 repeat' split
 all_goals rfl
theorem Zn(hw:WF m)(h:m.Da = -1)(b p:Nat)(x:D8):(Dy m (b:Nat) (p:Nat) x).2.Da = -1:=by
 have ht:=XG h;rcases Od m b p x hw with⟨_,_,_,_,_,_,_,e⟩ | ⟨_,e | ⟨e,_⟩ | ⟨_,_,_,_,_,c,_,⟨e,_⟩ | ⟨e,_⟩⟩⟩
 all_goals rw[e]
 ·exact ht
 ·exact h
 ·exact ht
 ·exact ht
 exact ht
theorem YH(h:m.Da = -1)(b:Nat):(EJ m (b:Nat)).2.Da = -1:=by
 have ht:=XG h;rcases QY m b with⟨_,_,_,_,e⟩ | ⟨_,⟨e,_⟩ | ⟨e,_⟩ | ⟨_,_,⟨e,_⟩ | ⟨⟨k,e⟩,_⟩⟩⟩
 all_goals rw[e]
 ·exact ht
 ·exact h
 ·exact ht
 ·exact ht
 exact ht
theorem S4(b:Nat):∀(l:List D8) (m:M) (p:Nat) (S:Nat->Bool),WF m->m.Da = -1->(Df b l m p S).2.1.Da = -1
 | [],m,p,S,_,h=>h
 | x :: xs,m,p,S,hw,h=>by
   rw[Df]
   split
   ·split
    ·exact S4 b xs _ _ _ (Mx hw _ _ _) (Zn hw h _ _ _)
    exact Zn hw h _ _ _
   exact h
theorem UH(h:m.Da = -1)(K Q:Nat->Bool)(b:Nat):(Di m K Q b).2.1.Da = -1:=by
 unfold Di
 repeat' split
 all_goals first | exact h | exact YH h _
theorem sJ(hw:WF s.m)(h:s.m.Da = -1)(K:Nat->Bool):(EF K s).m.Da = -1/\WF (EF K s).m:=by
 unfold EF
 split
 ·exact⟨S4 _ _ _ _ _ (Nq hw K s.Q s.b) (UH h K s.Q s.b),Mq _ _ _ _ _ (Nq hw K s.Q s.b)⟩
 exact⟨UH h K s.Q s.b,Nq hw K s.Q s.b⟩
theorem Tc{α:Type}(p q:α->Bool):∀l:List α,l.countP (λx=>p x||q x)<=l.countP p+l.countP q
 | []=>AB _
 | x :: l=>by
   have:=Tc p q l
   simp only[C0];cases p x<;>cases q x<;>simp<;>omega
theorem Yu(f:Nat->Bool):∀l:List Nat,l.countP (λi => !f i)+l.countP f=l.length
 | []=>rfl
 | x :: l=>by
   have:=Yu f l
   simp only[C0,AY];cases f x<;>simp<;>omega
def Ed(n:Nat)(S:Nat->Bool):Nat:=(List.range n).countP S
theorem Oe(n:Nat):Ed n (λ_=>false)=0:=by unfold Ed;simp
theorem tC{n:Nat}{S R:Nat->Bool}(h:∀i,S i=true->R i=true):Ed n S<=Ed n R:=DP λi _ hi=>h i hi
theorem YK(b:Nat):∀n,Ed n (λj=>j==b)<=1/\(n<=b->Ed n (λj=>j==b)=0)
 | 0=>⟨by simp[Ed],λ_=>rfl⟩
 | n+1=>by
   obtain⟨h1,h2⟩:=YK b n;have e:Ed (n+1) (λj=>j==b)=Ed n (λj=>j==b)+if n=b then 1 else 0:=by
    unfold Ed;rw[B0,List.countP_append];simp[C0]
   rw[e]
   split
   ·rename_i hb
    have:=h2 (by omega)
    exact⟨by omega,λh=>by omega⟩
   exact⟨by omega,λh=>by have:=h2 (by omega);omega⟩
theorem mZ(n b:Nat)(S:Nat->Bool):Ed n (λj=>j==b||S j)<=Ed n S+1:=by
 have h1:=Tc (λj=>j==b) S (List.range n);have h2:=(YK b n).1;unfold Ed at *;omega
theorem Xd(b:Nat):∀(l:List D8) (m:M) (p:Nat) (S:Nat->Bool) (i:Nat),(Df b l m p S).2.2.2 i=true->(i==b||S i)=true
 | [],m,p,S,i,h=>by rw[Df]at h;simp only[]at h;rw[h,Bool.or_true]
 | x :: xs,m,p,S,i,h=>by
   rw[Df]at h
   split at h
   ·split at h
    ·have:=Xd b xs _ _ _ i h
     simp only[DH]at this ⊢;rcases this with h1 | h1 | h1
     ·exact .inl h1
     ·exact .inl h1
     exact .inr h1
    simp only[]at h;rw[h,Bool.or_true]
   simp only[]at h;rw[h,Bool.or_true]
theorem Qg(n b:Nat)(l:List D8)(m:M)(p:Nat)(S:Nat->Bool):Ed n (Df b l m p S).2.2.2<=Ed n S+1:=
 AF (tC λi h=>Xd b l m p S i h) (mZ n b S)
theorem sj(h:IY m0 K xs b0 v s)(hl:s.m.Da = -1)(ho:(Di s.m K s.Q s.b).1=true):(LS.IM K s).prog.left.length<=s.left.length - m0.np:=by
 have aa:=h.wf.KZ;have a7:(s.b+1)%s.m.nb<s.m.nb:=BM _ (by omega);obtain⟨k1,k2,k3⟩:=OW s.m K s.Q s.b;have a6:=SK h.wf K h.MM;have a5:=Nq h.wf K s.Q s.b;have a8:=UH hl K s.Q s.b;have a9:(Di s.m K s.Q s.b).2.1.fail<0:=by
  unfold Di
  split
  ·exact h.fail
  split
  ·exact h.fail
  cases hbd:s.m.bd ((s.b+1)%s.m.nb)with
  | true=>rw[TO hbd];exact h.fail
  | false =>
    have:=Qt h.fail a7 hbd
    split<;>exact this.1
 have a0:(Di s.m K s.Q s.b).2.2.2=0:=by
  unfold Di at ho ⊢
  repeat' split at ho
  all_goals first | cases ho | skip
  all_goals simp_all
 obtain⟨a1,a2,a3⟩:=QZ (Q:=(Di s.m K s.Q s.b).2.2.1) ((s.b+1)%s.m.nb) s.left (Di s.m K s.Q s.b).2.1 (Di s.m K s.Q s.b).2.2.2 s.S a5 a9 a6 h.lens;have a4:=S4 ((s.b+1)%s.m.nb) s.left (Di s.m K s.Q s.b).2.1 (Di s.m K s.Q s.b).2.2.2 s.S a5 a8;rcases a3 with a3 | a3
 ·rw[a4]at a3;cases a3
 rw[a0,k2,h.np,Cq]at a3;rw[a0]at a4;show(Df _ s.left _ (Di s.m K s.Q s.b).2.2.2 s.S).1.length<=_;rw[a0];exact a3
structure Ke (m0:M) (K:Nat->Bool) (xs:List D8) (b0 v:Nat) (s:LS):Prop where
 g:IY m0 K xs b0 v s
 Da:s.m.Da = -1
 part:s.left≠[]->Ed m0.nb s.S*m0.np+s.left.length<=xs.length
 all:Ed m0.nb s.S*m0.np<xs.length+m0.np
theorem Ke.round(h:Ke m0 K xs b0 v s)(hl:s.left≠[]):Ke m0 K xs b0 (v+1) (EF K s):=by
 have hg:=h.g.round (by rw[h.Da];decide);have a1:=(sJ h.g.wf h.Da K).1;refine⟨hg,a1,?_,?_⟩
 all_goals
  have hp:=h.part hl;have a2:0<s.left.length:=Bt.2 hl;unfold EF
  split
 ·rename_i ho;intro a0;have hf:=sj h.g h.Da ho;have hc:=Qg m0.nb ((s.b+1)%s.m.nb) s.left (Di s.m K s.Q s.b).2.1 (Di s.m K s.Q s.b).2.2.2 s.S;have hm:Ed m0.nb (LS.IM K s).prog.S*m0.np<=(Ed m0.nb s.S+1)*m0.np:=Ba m0.np hc;rw[Cg,DS]at hm;have h1:0<(LS.IM K s).prog.left.length:=Bt.2 a0;omega
 ·exact λ_=>hp
 ·rename_i ho;have hc:=Qg m0.nb ((s.b+1)%s.m.nb) s.left (Di s.m K s.Q s.b).2.1 (Di s.m K s.Q s.b).2.2.2 s.S;have hm:Ed m0.nb (LS.IM K s).prog.S*m0.np<=(Ed m0.nb s.S+1)*m0.np:=Ba m0.np hc;rw[Cg,DS]at hm;omega
 exact h.all
theorem Ke.rounds{m0:M}{K:Nat->Bool}{xs:List D8}{b0:Nat}:∀(k v:Nat) (s:LS),Ke m0 K xs b0 v s->∃v',Ke m0 K xs b0 v' (EV K k s)
 | 0,v,s,h=>⟨v,h⟩
 | k+1,v,s,h=>by
   rw[EV]
   split
   ·exact⟨v,h⟩
   rename_i hc;exact Ke.rounds k (v+1) _ (h.round λe=>hc (.inl e))
theorem QQ{m':M}(h1:m'.nb=m.nb)(h2:m'.bd=m.bd):Eg m'=Eg m:=by
 unfold Eg Dt;rw[h1,h2]
theorem XC(m:M):(List.range m.nb).countP (λi => !m.bd i)=Eg m:=by
 have h1:=Yu m.bd (List.range m.nb);rw[List.length_range]at h1;have h2:(List.range m.nb).countP m.bd=Dt m:=rfl;unfold Eg;omega
theorem ml(K:Nat->Bool)(h:s.p<=s.m.np):(EF K s).p<=(EF K s).m.np:=by
 obtain⟨k1,k2,k3⟩:=OW s.m K s.Q s.b;unfold EF
 split
 ·obtain⟨q1,q2,q3,q4⟩:=MW ((s.b+1)%s.m.nb) s.left (Di s.m K s.Q s.b).2.1 (Di s.m K s.Q s.b).2.2.2 s.S;have q5:(LS.IM K s).prog.m.np=(Di s.m K s.Q s.b).2.1.np:=q2;rw[q5];exact q4 (by rw[k2];exact k3)
 show(Di s.m K s.Q s.b).2.2.2<=(Di s.m K s.Q s.b).2.1.np;rw[k2];exact k3
theorem Wg{K:Nat->Bool}:∀{k:Nat} {s:LS},s.p<=s.m.np->(EV K k s).p<=(EV K k s).m.np
 | 0,s,h=>h
 | k+1,s,h=>by
   rw[EV]
   split
   ·exact h
   exact Wg (ml K h)
structure Sy (m:M) (K Q:Nat->Bool) (b p:Nat):Prop where
 wf:WF m
 Da:m.Da = -1
 fail:m.fail<0
 MM:IZ m Q b p
 NX:Ed m.nb K<=Eg m/2
 b:b<m.nb
 p:p<=m.np
theorem Sy.lay{Q:Nat->Bool}{b p:Nat}(h:Sy m K Q b p)(hx:∀x∈xs,x.length=64)(h1:0<xs.length)(h2:xs.length<=Ec m)(s:LS)(hs:s=E7 K ⟨xs,m,Q,b,p,λ_=>false⟩) :
 s.left=[]/\Sy s.m s.S s.Q s.b s.p/\s.m.nb=m.nb/\s.m.np=m.np/\s.m.bd=m.bd:=by
 have a9:1<=Eg m/2:=by
  unfold Ec at h2;rcases DJ (Eg m/2)with e | e
  ·rw[e,Nat.zero_mul]at h2;omega
  exact e
 have aa:=h.wf.Md;unfold E7 FW at hs;by_cases hc:xs.length+p<=m.np
 ·rw[AE (show(LS.mk xs m Q b p λ_=>false).left.length+(LS.mk xs m Q b p λ_=>false).p<=(LS.mk xs m Q b p λ_=>false).m.np from hc)]at hs;obtain⟨a1,a2,a3⟩:=QZ (Q:=Q) b xs m p (λ_=>false) h.wf h.fail h.MM hx;have a4:=S4 b xs m p (λ_=>false) h.wf h.Da;have a0:(Df b xs m p (λ_=>false)).1=[]:=by
   rcases a3 with a3 | a3
   ·rw[a4]at a3;cases a3
   exact Bf (by omega)
  rw[Sq K (.inl a0)]at hs;obtain⟨k1,k2,k3,k4⟩:=MW b xs m p (λ_=>false);have a7:=Qg m.nb b xs m p (λ_=>false);rw[Oe]at a7;subst hs;refine⟨a0,⟨Mq b xs m p _ h.wf,a4,a1,Qd b xs m p _ h.wf h.MM,?_,?_,?_⟩,k1,k2,a2⟩
  ·show Ed (Df b xs m p (λ_=>false)).2.1.nb (Df b xs m p (λ_=>false)).2.2.2<=Eg (Df b xs m p (λ_=>false)).2.1/2;rw[QQ k1 a2,k1];omega
  ·show b<(Df b xs m p (λ_=>false)).2.1.nb;rw[k1];exact h.b
  show(Df b xs m p (λ_=>false)).2.2.1<=(Df b xs m p (λ_=>false)).2.1.np;rw[k2];exact k4 h.p
 rw[AC (show ¬(LS.mk xs m Q b p λ_=>false).left.length+(LS.mk xs m Q b p λ_=>false).p<=(LS.mk xs m Q b p λ_=>false).m.np from hc)]at hs;have hG:IY m K xs b 0 ⟨xs,m,Q,b,p,λ_=>false⟩:=⟨h.wf,rfl,rfl,by show b=(b+0)%m.nb;rw[Br,Bi h.b],h.fail,rfl,h.MM,hx,.inr (by simp[cntF])⟩;have hC:Ke m K xs b 0 ⟨xs,m,Q,b,p,λ_=>false⟩:=⟨hG,h.Da,λ_=>by show Ed m.nb (λ_=>false)*m.np+xs.length<=_;rw[Oe];omega,by show Ed m.nb (λ_=>false)*m.np<_;rw[Oe];omega⟩;obtain⟨v,hV⟩:=Ke.rounds m.nb 0 _ hC;rw[<-hs]at hV;have a5:=Z2 hG (by
  have e1:Eg m<=(List.range m.nb).countP (λi => !K i && !m.bd i)+Ed m.nb K:=by
   rw[<-XC];refine AF (DP λi _ hi => ?_) (Tc _ K (List.range m.nb))
   revert hi
   cases K i<;>cases m.bd i<;>simp
  have e2:Eg m/2<=(List.range m.nb).countP (λi => !K i && !m.bd i):=by have:=h.NX;omega
  refine AF h2 ?_;unfold Ec;rw[BG];exact D4 _ e2)
 have a0:s.left=[]:=by
  have e:s=EV K m.nb ⟨xs,m,Q,b,p,λ_=>false⟩:=hs;rw[<-e]at a5;rcases a5 with h3 | h3
  ·rw[hV.Da]at h3;cases h3
  exact h3
 have a6:=QQ hV.g.nb hV.g.bd;have a8:=h.wf.KZ;refine⟨a0,⟨hV.g.wf,hV.Da,hV.g.fail,hV.g.MM,?_,?_,?_⟩,hV.g.nb,hV.g.np,hV.g.bd⟩
 ·rw[a6,hV.g.nb];have e1:=hV.all;unfold Ec at h2;have e2:Ed m.nb s.S*m.np<(Eg m/2+1)*m.np:=by rw[Cg,DS];omega
  have:=Nat.lt_of_mul_lt_mul_right e2
  omega
 ·rw[hV.g.b,hV.g.nb];exact BM _ (by omega)
 by_cases hp:s.p<=s.m.np
 ·exact hp
 exact absurd hp (by
  have:=Wg (K:=K) (k:=m.nb) (s:=⟨xs,m,Q,b,p,λ_=>false⟩) h.p
  have e:s=EV K m.nb ⟨xs,m,Q,b,p,λ_=>false⟩:=hs;rw[<-e]at this;exact λh=>h this)
end S1
end Go.Proofs.YtodmdkhdbfbfgaaGreatDoor
