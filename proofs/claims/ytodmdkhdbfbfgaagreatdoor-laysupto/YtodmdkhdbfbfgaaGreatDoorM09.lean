/- Lemmas. -/
import Derived.RangeFuncWrites
import Derived.Deep.Draws
import Derived.RangeFuncGives
import Derived.RangeFuncSeq
import Derived.Sort.MapsRangeIn
import Derived.Shelf.Abstract
import Derived.OwnWalkIn
import Derived.TacticsInMore
import Derived.LoopNIn
import Derived.LoopIn
import Derived.RegionIn
import Derived.Shelf.SlIter.Collect
import Derived.Sort.WalkA
import Derived.Test.YtodmdkhdbfbfgaaGreatDoorM08
set_option linter.unusedVariables false
set_option linter.unusedSimpArgs false
set_option maxRecDepth 100000
set_option maxHeartbeats 8000000
open Go.Proofs.Tryz
abbrev Go.Ac:=@Go.Calls.quiet_of_same
abbrev Go.BF:=@Go.World.size_alloc
abbrev Go.BV:=@Go.World.grownBy_alloc
abbrev Go.Ck:=@Go.callsIn_of_wp
namespace Go.Proofs.YtodmdkhdbfbfgaaGreatDoor
namespace S1
open Go.RowKit Pk
open Go.Nt (Fp Ky De EE Ej F0 FJ E0 EB FB Ef Xa Sr SX Kx Dp WI)
variable {x t:D8} {m0 m:M} {K S:Nat->Bool} {bn kn:Nat} {ps:List (Nat × Nat)}
theorem Ft(h:x.length<64):Ef (pad x)=none:=by
 apply Xa
 unfold pad;rw[AI,Ad (by omega),List.getElem?_replicate];rw[AE (by omega)];rfl
theorem VM(h:x.length=64):pad x=x:=by
 unfold pad;rw[h];simp
theorem Et.found{left:List D8}(h:Et m0 K (EE bn kn t) m S ps left)(hb:bn<256)(hn:kn<4294967296)(ho:De t.length<65536){f:Fp}(hf:f∈EB (Fs m) m.np m.nb) :
 (∃k i q,ps[k]? = some (i,q)/\k<De t.length/\f=Kx bn kn t k i)\/f∈EB (Fs m0) m0.np m0.nb:=by
 obtain⟨i,p,q,hi,hp,hr,rfl⟩:=FB.1 hf;rcases h.Ey i p hi hp with h1 | ⟨x,hx,c,hc,e⟩ | e | e
 ·left
  obtain⟨k,hk⟩:=List.getElem?_of_mem h1;obtain⟨a1,a2,a3,a4,a5⟩:=h.J9 k i p hk;have a0:k<De t.length:=by
   have:=(AP.1 a4).1
   rwa[Go.Nt.EC]at this
  have e:m.pg i p=Ej (F0 bn kn t k):=by
   unfold EE at a4;rw[BQ,DE a0]at a4;simpa using a4.symm
  refine⟨k,i,p,hk,a0,?_⟩;have a6:=SX (t:=t) hb hn a0 ho;unfold Fs at hr;rw[e,VM (Go.Nt.FT _ a6.t),Sr a6]at hr;cases hr
  rfl
 ·exfalso
  unfold Fs at hr;rw[e,Ft (by rw[Ae];omega)]at hr;cases hr
 ·exfalso
  unfold Fs at hr;rw[e,Ft (by decide)]at hr;cases hr
 right
 refine FB.2 ⟨i,p,q,by rw[<-h.nb];exact hi,by rw[<-h.np];exact hp,?_,rfl⟩;unfold Fs at hr ⊢;rw[<-e];exact hr
theorem Et.there{left:List D8}(h:Et m0 K (EE bn kn t) m S ps left)(hb:bn<256)(hn:kn<4294967296)(ho:De t.length<65536){k i q:Nat}(hk:ps[k]? = some (i,q)) :
 Kx bn kn t k i∈EB (Fs m) m.np m.nb:=by
 obtain⟨a1,a2,a3,a4,a5⟩:=h.J9 k i q hk;have a0:k<De t.length:=by
  have:=(AP.1 a4).1
  rwa[Go.Nt.EC]at this
 have e:m.pg i q=Ej (F0 bn kn t k):=by
  unfold EE at a4;rw[BQ,DE a0]at a4;simpa using a4.symm
 have a6:=SX (t:=t) hb hn a0 ho;have h6:Ef (Fs m i q)=some { F0 bn kn t k with text:=(F0 bn kn t k).text++List.replicate (51 - (F0 bn kn t k).text.length) 0 }:=by
  unfold Fs;rw[e,VM (Go.Nt.FT _ a6.t)];exact Sr a6
 exact FB.2 ⟨i,q,_,a1,a2,h6,rfl⟩
structure MU (m:M):Prop where
 wf:WF m
 Da:m.Da = -1
 fail:m.fail<0
 pg:∀i p,m.pg i p=[]
 nx:∀i,m.nx i=0
theorem MU.era(h:MU m)(b:Nat)(hb:b<m.nb):EJ m (b:Nat)=(!m.bd b,m):=by
 cases hbd:m.bd b with
 | true=>exact TO hbd
 | false =>
   have ht:tick m=m:=by
    unfold tick Dl;have h1:=h.Da;have h2:=h.fail;cases m
    simp only at h1 h2;subst h1;simp[h2]
   have hn:=Qt h.fail hb hbd;rcases QY m b with⟨h1,_,_,_,e⟩ | ⟨h1,_⟩
   ·refine Prod.ext (by rw[h1];rfl) ?_;rw[e,ht];have h3:=h.pg;have h4:=h.nx;cases m
    simp only at h3 h4;simp only[FA,Fw]
    congr 1
    ·funext a c
     split
     ·rw[h3]
     rfl
    funext a
    split
    ·rw[h4]
    rfl
   rcases hn.2.2 with h2 | h2
   ·rw[h1]at h2;cases h2
   have:=YH h.Da b
   rw[h2]at this;cases this
theorem MU.Ds{m:M}(h:MU m):∀k,k<=m.nb->S1.Ds m k=(m,λj=>decide (j<k) && !m.bd j)
 | 0,_=>by
   rw[S1.Ds];refine Prod.ext rfl ?_
   funext j
   simp
 | k+1,hk=>by
   have ih:=MU.Ds h k (by omega);rw[S1.Ds,ih];simp only[];rw[h.era k (by omega)];refine Prod.ext rfl ?_
   funext j
   simp only[];cases hb:m.bd k with
   | true =>
     simp only[Bool.not_true,BS,C6];by_cases e:j=k
     ·subst e;simp[hb]
     have:decide (j<k+1)=decide (j<k):=by simp;omega
     rw[this]
   | false =>
     simp only[Bool.not_false,if_true];by_cases e:j=k
     ·subst e;simp[hb]
     have h1:decide (j<k+1)=decide (j<k):=by simp;omega
     have h2:(j==k)=false:=by simp[e]
     rw[h1,h2,Bool.false_or]
theorem MU.scan(h:MU m)(np:Nat):∀k,EB (Fs m) np k=[]:=by
 intro k;cases hs:EB (Fs m) np k with
 | nil=>rfl
 | cons f fs =>
   obtain⟨i,p,q,_,_,hr,_⟩:=FB.1 (show f∈EB (Fs m) np k by rw[hs];simp);unfold Fs at hr;rw[h.pg,Ft (by decide)]at hr;cases hr
theorem MU.renew(h:MU m)(ht:0<t.length)(hm:Ee m t.length=0) :
 (EU m t).1=0/\WF (EU m t).2/\(EU m t).2.Da = -1/\∃Dg:Nat->Nat,(∀k,k<De t.length->Dp (EB (Fs (EU m t).2) (EU m t).2.np (EU m t).2.nb) (Dt m) 1 k=some (Kx (Dt m) 1 t k (Dg k)))/\(∀f∈EB (Fs (EU m t).2) (EU m t).2.np (EU m t).2.nb,f.bad=Dt m/\f.num=1)/\(EU m t).2.fail<0/\(EU m t).2.bd=m.bd/\(EU m t).2.nb=m.nb/\(EU m t).2.np=m.np/\∃S,Ed m.nb S<=Eg m/2/\∀k,k<De t.length->S (Dg k)=true/\Dg k<m.nb:=by
 have hw:=h.wf;have he:=h.Ds m.nb (AB _);have a8:De t.length<=Ec m:=by
  unfold Ee at hm
  split at hm
  ·omega
  split at hm<;>omega
 have aj:=VK hw;have ar:=Fc m;have av:=hw.Iu;have h4:=hw.KZ;have ao:0<De t.length:=by unfold De;omega
 have aa:KP m ⟨0,0,none⟩ (FJ (EB (Fs m) m.np m.nb))=1:=by
  unfold KP;rw[h.scan];exact Go.Nt.Gs (by decide) rfl
 obtain⟨Q1,ai⟩:=Jq (λj=>decide (j<m.nb) && !m.bd j)
 obtain⟨s0,ad⟩:∃s0:LS,s0=⟨EE (Dt m) 1 t,m,Q1,m.nb - 1,m.np,λ_=>false⟩:=⟨_,rfl⟩;have hS:Ib m Q1 t=EV (λ_=>false) m.nb s0:=by
  unfold Ib KR;rw[aa];unfold E7 FW;rw[AC (by show ¬(EE (Dt m) 1 t).length+m.np<=m.np;rw[Go.Nt.EC];omega),ad]
 have am:Sy m (λ_=>false) Q1 (m.nb - 1) m.np:=⟨hw,h.Da,h.fail,IZ.shut m Q1 _ (λi hi=>by
  rw[ai]at hi;simp only[Af,BJ,Bool.not_eq_true']at hi;exact⟨hi.1,hi.2,h.nx i⟩),by rw[Oe];exact AU _,by omega,AB _⟩
 have af:E7 (λ_=>false) ⟨EE (Dt m) 1 t,m,Q1,m.nb - 1,m.np,λ_=>false⟩=EV (λ_=>false) m.nb s0:=by
  unfold E7 FW;rw[AC (by show ¬(EE (Dt m) 1 t).length+m.np<=m.np;rw[Go.Nt.EC];omega),ad]
 obtain⟨a6,a9,a2,ag,a7⟩:=am.lay (TB (Dt m) 1 t) (by rw[Go.Nt.EC];exact ao) (by rw[Go.Nt.EC];exact a8) _ af.symm;have ae:EU m t=(0,(EV (λ_=>false) m.nb s0).m):=by
  unfold EU;rw[AC (by simp[hm]),he];simp only[];rw[AC (by simp[hm]),<-ai,hS,AE a6]
 have hV:JD m (λ_=>false) (EE (Dt m) 1 t) (m.nb - 1) 0 s0 []:=by
  rw[ad];refine⟨Et.start hw _ _,?_,λi hi=>(by cases hi),AB _⟩;show m.nb - 1=(m.nb - 1+0)%m.nb;rw[Br,Bi (by omega)]
 obtain⟨v,ps,_,hL⟩:=JD.rounds (by omega) m.nb 0 s0 [] hV (by omega);obtain⟨m',a0⟩:=Jq ((EV (λ_=>false) m.nb s0).m);have hI:=hL.lay;rw[a6,<-a0]at hI;rw[ae];simp only[<-a0];have a3:Dt m<256:=by omega
 have ho:De t.length<65536:=by omega
 have au:ps.length=De t.length:=by
  have h1:=hI.part;have h2:=AV List.length h1;rw[Bo,Go.Nt.EC]at h2;have h3:=hI.le;rw[Go.Nt.EC]at h3;simp at h2;omega
 have a4:∀f∈EB (Fs m') m'.np m'.nb,∃k i q,ps[k]? = some (i,q)/\f=Kx (Dt m) 1 t k i:=λf hf=>by
  rcases hI.found a3 (by decide) ho hf with⟨k,i,q,h1,_,h2⟩ | h1
  ·exact⟨k,i,q,h1,h2⟩
  rw[h.scan]at h1;cases h1
 refine⟨by simp,by rw[a0];exact a9.wf,by rw[a0];exact a9.Da,λk=>(ps.getD k (0,0)).1,λk hk => ?_,λf hf => ?_,by rw[a0];exact a9.fail,by rw[a0];exact a7,by rw[a0];exact a2,by rw[a0];exact ag,(EV (λ_=>false) m.nb s0).S,by have:=a9.NX;rw[QQ a2 a7,a2]at this;exact this,λk hk => ?_⟩
 ·obtain⟨x,hx⟩:∃x,ps[k]? = some x:=⟨_,AD (by omega)⟩;obtain⟨i,q⟩:=x;have ac:=hI.there a3 (by decide) ho hx;have e:(ps.getD k (0,0)).1=i:=by rw[AI,hx];rfl
  show Dp (EB (Fs m') m'.np m'.nb) (Dt m) 1 k=some (Kx (Dt m) 1 t k (ps.getD k (0,0)).1);rw[e];exact WI ac (λy hy h1 h2 h3=>by
   obtain⟨k',i',q',ah,rfl⟩:=a4 y hy;have an:k'=k:=h3;subst an;rw[hx]at ah;cases ah
   rfl)
 ·obtain⟨k,i,q,_,rfl⟩:=a4 f hf;exact⟨rfl,rfl⟩
 obtain⟨x,hx⟩:∃x,ps[k]? = some x:=⟨_,AD (by omega)⟩;obtain⟨i,q⟩:=x;have e:(ps.getD k (0,0)).1=i:=by rw[AI,hx];rfl
 obtain⟨a1,_,_,_,a5⟩:=hI.J9 k i q hx;show(EV (λ_=>false) m.nb s0).S (ps.getD k (0,0)).1=true/\(ps.getD k (0,0)).1<m.nb;rw[e];exact⟨a5,by rw[<-a2,<-a0];exact a1⟩
end S1
namespace S1
open Go.RowKit Pk
open Go.Nt
variable {m:M} {b p:Nat} {K:Nat->Bool} {s:LS}
theorem kA(hw:WF m){x:D8}(hb:b<m.nb)(hbd:m.bd b=false)(hp:p=m.nx b)(hn:p<m.np)(hx:x.length=64) :
 (Dy m (b:Nat) (p:Nat) x).1=true\/(Dy m (b:Nat) (p:Nat) x).2.Da=0\/(Dy m (b:Nat) (p:Nat) x).2.bd b=true:=by
 rcases Od m b p x hw with⟨h1,_,_,_,_,_,_,e⟩ | ⟨h1,e | ⟨e,h0⟩ | ⟨_,_,_,_,_,c,_,⟨e,h0⟩ | ⟨e,h0⟩⟩⟩
 ·exact .inl h1
 ·have hm:JA m (b:Nat) (p:Nat) x:=⟨by unfold Fe hasB;simp[hb,hbd],by rw[hp];simp,by omega,hx⟩;refine .inr (.inl ?_);rw[e];unfold Dy at h1 e;rw[AE hm]at h1 e;have h2:=AV M.nx e;unfold FR at h1 h2;simp only[Bd]at h1 h2;rcases QR m.Da m.fail with hk | hk | hk | hk
  ·rw[AE hk]at h1;cases h1
  ·rw[AC (by rw[hk];decide),AE hk]at h2
   have:=congrFun h2 b
   have h3:(if b=b then p+1 else m.nx b)=m.nx b:=this;rw[AE rfl]at h3;omega
  ·rw[AC (by rw[hk];decide),AC (by rw[hk];decide),AE hk]at h2
   have:=congrFun h2 b
   have h3:(if b=b then p+1 else m.nx b)=m.nx b:=this;rw[AE rfl]at h3;omega
  unfold Dl at hk
  repeat' split at hk
  all_goals simp at hk
  all_goals assumption
 ·refine .inr (.inl ?_);rw[e];show(Dl m.Da m.fail).2.1=0;rw[h0];unfold Dl;simp
 ·exact .inr (.inl (by rw[e];exact h0))
 exact .inr (.inr (by rw[e];show(if b=b then true else _)=true;rw[AE rfl]))
theorem Xr{Q:Nat->Bool}(b:Nat):∀(l:List D8) (m:M) (p:Nat) (S:Nat->Bool),WF m->IZ m Q b p->l.length+p<=m.np->(∀x∈l,x.length=64) ->
 (Df b l m p S).1=[]\/(Df b l m p S).2.1.Da=0\/(Df b l m p S).2.1.bd b=true
 | [],m,p,S,_,_,_,_=>.inl rfl
 | x :: l,m,p,S,hw,hr,hl,hx=>by
   have hp:p<m.np:=by simp at hl;omega
   obtain⟨h1,h2,h3,h4⟩:=hr.open_ hp;have hA:=kA hw h1 h2 h3.symm hp (hx x (by simp));have a0:=Tm hw (x:=x) hr hp;unfold Df;rw[AE hp];by_cases ht:(Dy m (b:Nat) (p:Nat) x).1=true
   ·rw[AE ht];rw[AE ht]at a0;have hk:=MW b [x] m p S;have a1:(Dy m (b:Nat) (p:Nat) x).2.np=m.np:=by
     rcases Od m b p x hw with⟨_,_,_,_,_,_,_,e⟩ | ⟨hf,_⟩
     ·rw[e];rfl
     rw[hf]at ht;cases ht
    have a2:WF (Dy m (b:Nat) (p:Nat) x).2:=by
     have:=Mq b [x] m p S hw
     unfold Df at this;rw[AE hp,AE ht]at this;exact this
    exact Xr b l _ (p+1) _ a2 a0 (by rw[a1];simp at hl;omega) (λy hy=>hx y (by simp[hy]))
   rw[AC ht];rcases hA with h | h | h
   ·exact absurd h ht
   ·exact .inr (.inl h)
   exact .inr (.inr h)
theorem jL{Q:Nat->Bool}(hw:WF m)(hr:IZ m Q b p)(hb:b<m.nb)(hp:p<=m.np){xs:List D8}(hx:∀x∈xs,x.length=64):∃ps,Et m K xs (E7 K ⟨xs,m,Q,b,p,λ_=>false⟩).m (E7 K ⟨xs,m,Q,b,p,λ_=>false⟩).S ps (E7 K ⟨xs,m,Q,b,p,λ_=>false⟩).left:=by
 have hS:=Et.start hw K xs;unfold E7 FW;by_cases a0:xs.length+p<=m.np
 ·rw[AE (show(LS.mk xs m Q b p λ_=>false).left.length+(LS.mk xs m Q b p λ_=>false).p<=m.np from a0)];obtain⟨ps,hI,a2⟩:=Et.Df b xs m p _ [] hS;have a1:=Xr b xs m p (λ_=>false) hw hr a0 hx;have hk:=MW b xs m p (λ_=>false);have hV:JD m K xs b 0 (LS.prog ⟨xs,m,Q,b,p,λ_=>false⟩) ps:=⟨hI,by show b=(b+0)%m.nb;rw[Br,Bi hb],λi hi=>.inr ⟨(a2 i hi).elim id (λh=>by cases h),a1⟩,hk.2.2.2 hp⟩;obtain⟨v,a3,_,hL⟩:=JD.rounds hb m.nb 0 _ ps hV (by omega);exact⟨a3,hL.lay⟩
 rw[AC (show ¬(LS.mk xs m Q b p λ_=>false).left.length+(LS.mk xs m Q b p λ_=>false).p<=m.np from a0)];have hV:JD m K xs b 0 ⟨xs,m,Q,b,p,λ_=>false⟩ []:=⟨hS,by show b=(b+0)%m.nb;rw[Br,Bi hb],λi hi=>(by cases hi),hp⟩;obtain⟨v,ps,_,hL⟩:=JD.rounds hb m.nb 0 _ [] hV (by omega);exact⟨ps,hL.lay⟩
theorem lz(hw:WF s.m)(h:IZ s.m s.Q s.b s.p):IZ (EF K s).m (EF K s).Q (EF K s).b (EF K s).p/\WF (EF K s).m:=by
 have h1:=SK hw K h;have h2:=Nq hw K s.Q s.b;unfold EF
 split
 ·exact⟨Qd _ _ _ _ _ h2 h1,Mq _ _ _ _ _ h2⟩
 exact⟨h1,h2⟩
theorem Vq{K:Nat->Bool}:∀(k:Nat) (s:LS),WF s.m->IZ s.m s.Q s.b s.p->IZ (EV K k s).m (EV K k s).Q (EV K k s).b (EV K k s).p/\WF (EV K k s).m
 | 0,s,hw,h=>⟨h,hw⟩
 | k+1,s,hw,h=>by
   unfold EV
   split
   ·exact⟨h,hw⟩
   have:=lz (K:=K) hw h
   exact Vq k _ this.2 this.1
theorem qd(hw:WF s.m)(h:IZ s.m s.Q s.b s.p):IZ (E7 K s).m (E7 K s).Q (E7 K s).b (E7 K s).p/\WF (E7 K s).m:=by
 unfold E7 FW
 split
 ·exact Vq _ _ (Mq _ _ _ _ _ hw) (Qd _ _ _ _ _ hw h)
 exact Vq _ _ hw h
end S1
namespace S1
open Go.RowKit Pk
def Iq:Value->Option (DataW Value × List MemPlace):=λv=>some (.held v,[])
theorem lS{v u:Value}{ps:List MemPlace}(h:Iq v=some (.held u,ps)):v=u:=by
 unfold Iq at h;simp at h;exact h.1
theorem rH(w:D7):(zeroValue 201).run prog w=.ok (.slice none 0 0) w:=by kernel_rfl
theorem Za(w:D7):(Instr.makeMap 200 none).run prog w=.ok (.map (some w.heap.size)) (w.alloc (.map #[] 0)):=by
 simp[Instr.makeMap,Result.andThen]
theorem Rf{w w':D7}{T:TypeId}{H:Type}{R:Value->Option (DataW H × List MemPlace)}{g n:Nat}{D:DataW H}(h:w.ownsMap prog T R g n D)(hb:w'.heap[g]? = w.heap[g]?):w'.ownsMap prog T R g n D:=by
 obtain⟨es,a0,h1,h2⟩:=h;exact⟨es,a0,hb.trans h1,h2⟩
end S1
section
open Go.RowKit
structure MQ {β:Type} (bs:Nat) (J:β->D7->Prop):Prop where
 set:∀s W v,J s W->J s (W.setCell ⟨bs,0,none⟩ v)
 drew:∀s W q,J s W->J s (W.drewN q)
def My{α:Type}(F:Fence)(n:Nat)(P:Program)(g:Nat)(lb:Array Value)(enc:α->Value)(n₀ bs:Nat)(xs:List α)(w:D7):Prop:=
 ∀(l:Nat) (J Jx:List α->D7->Prop) (W:D7),Below n₀ w W->MQ bs J->MQ bs Jx ->
  (∀pre x W1,J pre W1->pre++[x] <+: xs->YieldAt F (n - 1) P l #[enc x] W1 λe W'=>(e=.returned (.bool true)/\J (pre++[x]) W'/\Below n₀ W1 W')\/(e=.returned (.bool false)/\Jx (pre++[x]) W')) ->
  J [] W->CallsIn F n P g (#[.func (.yield l) #[] #[]]++lb) W λe W'=>(∃v,e=.returned v)/\(J xs W'\/∃pre,pre <+: xs/\Jx pre W')
def fy{α:Type}(B:Nat)(I Ix:List α->D7->Prop)(xs:List α)(W:D7):Exit->Act->D7->Prop
 | .normal,_,W'=>KeepsFrom B W W'/\Below B W W'/\I xs W'
 | .ret,_,W'=>KeepsFrom B W W'/\Ix xs W'
 | .exit _,_,_=>False
 | .goto _,_,_=>False
 | .panic _,_,_=>False
 | .outgrown,_,_=>False
def Ea(w:D7)(r:Loop)(W:D7):Prop:=W.heap[w.heap.size+1]? = some (.loop r)/\W.heap[w.heap.size]? = some (.deferred (some []))
theorem Ea.turn{w W:D7}{r:Loop}(h:Ea w r W)(r':Loop):Ea w r' (W.putObj (w.heap.size+1) (.loop r')):=
 ⟨World.putObj_heap_same (Az.1 h.1).1,(World.putObj_heap_other (by omega)).trans h.2⟩
theorem Ea.kept{w W W':D7}{r:Loop}(h:Ea w r W)(k:KeepsFrom w.heap.size W W'):Ea w r W':=
 ⟨k.same _ _ (by omega) h.1 rfl,k.same _ _ (AB _) h.2 rfl⟩
theorem Ea.set{w W:D7}{r:Loop}(h:Ea w r W){bs:Nat}(hb:bs<w.heap.size)(v:Value):Ea w r (W.setCell ⟨bs,0,none⟩ v):=
 ⟨(AH W ⟨bs,0,none⟩ v _ (by simp;omega)).trans h.1,(AH W ⟨bs,0,none⟩ v _ (by simp;omega)).trans h.2⟩
variable {F:Fence} {n:Nat} {P:Program}
theorem p8{α:Type}{g:Operand}{ps:Array Tmp}{assign body:Code}{Q:Exit->Act->D7->Prop}{a:Act}{w:D7}
 (hro:F.round=none) (h1:1<=n) {gf:Nat} {lb:Array Value} (hg:a.eval g=.func (.func gf) #[] lb) (hFg:F.fn gf) (eg:∀args w,(callFunc gf args).run P w=.ok (.enter gf args) w)
 {enc:α->Value} {bs:Nat} {xs:List α} (hseq:My F (n - 1) P gf lb enc w.heap.size bs xs w) (hbs:bs<w.heap.size) (hps:ps.size=1)
 (I Ix:List α->D7->Prop) (hI:OwnFrom w.heap.size I) (hIb:MQ bs I) (hIx:OwnFrom w.heap.size Ix) (hIxb:MQ bs Ix) (h0:I [] w) (a₁:α->Act)
 (hassign:∀(l:Nat) (x:α) (W:D7) (K:Act->D7->Prop),K (a₁ x) W ->
   assign.wpIn (F.inRound l) (n - 1 - 1) P (Exit.then K (λ_ _ _=>False)) { tmps:=(ps.zip #[enc x]).foldl (λt (p,v)=>t.setIfInBounds p v) a.tmps,defers:=[] } W)
 (hbody:∀(l:Nat) (pre:List α) (x:α) (W:D7),I pre W->pre++[x] <+: xs->w.heap.size<=W.heap.size->body.wpIn (F.inRound l) (n - 1 - 1) P (fy w.heap.size I Ix (pre++[x]) W) (a₁ x) W)
 (hdone:∀(D:Nat) (W:D7),w.heap.size<=D->I xs W->W.heap[D]? = some (.deferred (some []))->Q .normal { a with defers:={ target:=.collected D,args:=#[] } :: a.defers } W)
 (hstop:∀(D:Nat) (pre:List α) (W:D7),w.heap.size<=D->pre <+: xs->Ix pre W->W.heap[D]? = some (.deferred (some []))->Code.ret.wpIn F n P Q { a with defers:={ target:=.collected D,args:=#[] } :: a.defers } W) :
 (Code.rangeFunc g ps assign body).wpIn F n P Q a w:=by
 refine wpIn_rangeFunc λfn a8 => ?_
 rw[hro];obtain⟨r,hr⟩:∃r:LoopState->Option Code->Loop,r=λst pe=>{ state:=st,pending:=pe,fn,tmps:=a.tmps,params:=ps,assign,body,defers:=w.heap.size }:=⟨_,rfl⟩
 obtain⟨V,hV⟩:=Jq ((w.alloc (.deferred (some []))).alloc (.loop (r .ready none)));have hL:Ea w (r .ready none) V:=by
  rw[hV];refine⟨?_,(AO _ _ _ (by simp)).trans (World.alloc_heap_new w _)⟩
  have:=World.alloc_heap_new (w.alloc (.deferred (some []))) (.loop (r .ready none))
  rwa[BF]at this
 have a9:I [] V:=by rw[hV];exact hI.alloc _ (hI.alloc _ h0)
 have a7:Below w.heap.size w V:=by rw[hV];exact((AM _ w).alloc (AB _) _).alloc (by simp) _
 refine⟨w.heap.size+1,[{ target:=.collected w.heap.size,args:=#[] }],V,{ target:=.fn (.func gf) lb,args:=#[.func (.yield (w.heap.size+1)) #[] #[]] },V,gf,
  #[.func (.yield (w.heap.size+1)) #[] #[]]++lb,V,?_,?_,?_,?_,λ_=>h1,?_⟩
 ·rw[hV,hr];exact run_enterLoop_outer _ _ _ _ _
 ·simp only[resolve,hg];simp[go_sem]
 ·intro f' a6;simp[Target.leads]at a6;subst a6;exact hFg
 ·simp[invoke,go_sem,eg]
 refine(hseq (w.heap.size+1) (λpre W=>I pre W/\Ea w (r .ready none) W) (λpre W=>Ix pre W/\Ea w (r .done (some .ret)) W) V a7
  ⟨λs W v h=>⟨hIb.set s W v h.1,h.2.set hbs v⟩,λs W q h=>⟨hIb.drew s W q h.1,h.2⟩⟩ ⟨λs W v h=>⟨hIxb.set s W v h.1,h.2.set hbs v⟩,λs W q h=>⟨hIxb.drew s W q h.1,h.2⟩⟩ ?_ ⟨a9,hL⟩).mono ?_
 ·rintro pre x W ⟨hi,hl⟩ a1;have aa:=(Az.1 hl.1).1;have hy:=run_yield (P:=P) (args:=#[enc x]) hl.1 (by rw[hr];simp[hps]);rw[hr]at hy;refine⟨fn,_,assign,body,hy,roundIn_of_wpIn a8 (hassign _ x W _ ⟨_,run_beginRound hl.1 (by rw[hr]),?_⟩)⟩;clear hy;have a4:Ea w { r .ready none with state:=.busy } (W.putObj (w.heap.size+1) (.loop { r .ready none with state:=.busy })):=hl.turn _;have a5:Below w.heap.size W (W.putObj (w.heap.size+1) (.loop { r .ready none with state:=.busy })):=belowK_b (w:=w) (AB _) W _ _ _ (by omega) hl.1 rfl rfl;refine wpIn_mono (hbody _ pre x _ (hI.putObj _ hi (by omega) hl.1 rfl) a1 (AF (by omega) a5.size)) ?_;rintro e a3 W3 hp;cases e with
  | normal =>
    obtain⟨hk,hb,a2⟩:=hp;have a0:=a4.kept hk;have he:=run_endRound (P:=P) none a0.1;rw[hr]at he;refine⟨_,_,he,.inl ⟨rfl,⟨hI.putObj _ a2 (by omega) a0.1 rfl,?_⟩,(a5.trans hb).trans (belowK_b (w:=w) (AB _) _ _ _ _ (by omega) a0.1 rfl rfl)⟩⟩
    have:=a0.turn (r .ready none)
    rw[hr]at this ⊢;exact this
  | ret =>
    obtain⟨hk,a2⟩:=hp;have a0:=a4.kept hk;have he:=run_endRound (P:=P) (some .ret) a0.1;rw[hr]at he;refine⟨_,_,he,.inr ⟨rfl,hIx.putObj _ a2 (by omega) a0.1 rfl,?_⟩⟩
    have:=a0.turn (r .done (some .ret))
    rw[hr]at this ⊢;exact this
  | exit id=>exact hp.elim
  | goto t=>exact hp.elim
  | panic ch=>exact hp.elim
  | outgrown=>exact hp.elim
 rintro e W2 ⟨⟨v,rfl⟩,(⟨hi,hl⟩ | ⟨pre,a1,hi,hl⟩)⟩
 ·exact⟨none,_,by have:=run_endLoop (P:=P) hl.1 (by rw[hr];simp);rw[hr]at this;exact this,hdone _ _ (AB _) (hI.putObj _ hi (by omega) hl.1 rfl) ((World.putObj_heap_other (by omega)).trans hl.2)⟩
 exact⟨some .ret,_,by have:=run_endLoop (P:=P) hl.1 (by rw[hr];simp);rw[hr]at this;exact this,hstop _ pre _ (AB _) a1 (hIx.putObj _ hi (by omega) hl.1 rfl) ((World.putObj_heap_other (by omega)).trans hl.2)⟩
def kM{α:Type}(B:Nat)(I:List α->D7->Prop)(xs:List α)(W:D7):Exit->Act->D7->Prop
 | .normal,_,W'=>KeepsFrom B W W'/\I xs W'/\KeepsWalks W W'
 | _,_,_=>False
variable {F:Fence} {n:Nat} {P:Program}
theorem jk{α:Type}{g:Operand}{ps:Array Tmp}{assign body:Code}{Q:Exit->Act->D7->Prop}{a:Act}{w:D7}
 (hro:F.round=none) (h1:1<=n) {gf:Nat} {lb:Array Value} (hg:a.eval g=.func (.func gf) #[] lb) (hFg:F.fn gf) (eg:∀args w,(callFunc gf args).run P w=.ok (.enter gf args) w)
 {enc:α->Value} {S:List α->Prop} {N:Nat} (hseq:SeqGives F (n - 1) P gf lb enc S N w) (hps:ps.size=1)
 (I:List α->D7->Prop) (hI:OwnFrom w.heap.size I) (hIa:AbidesFrom w.heap.size I) (h0:I [] w) (a₁:α->D7->Act) (as1:α->D7->D7)
 (has1:∀x W,Below W.heap.size W (as1 x W)) (has2:∀pre x W,I pre W->I pre (as1 x W)) (has3:∀x W,KeepsWalks W (as1 x W))
 (hassign:∀(l:Nat) (x:α) (W:D7) (K:Act->D7->Prop),K (a₁ x W) (as1 x W) ->
   assign.wpIn (F.inRound l) (n - 1 - 1) P (Exit.then K (λ_ _ _=>False)) { tmps:=(ps.zip #[enc x]).foldl (λt (p,v)=>t.setIfInBounds p v) a.tmps,defers:=[] } W)
 (hbody:∀(l:Nat) (pre:List α) (x:α) (W V:D7),(∀k,W.heap.size<=k->k<(as1 x W).heap.size->V.heap[k]? = (as1 x W).heap[k]?)->I pre V->pre.length<N->w.heap.size<=W.heap.size->(as1 x W).heap.size<=V.heap.size->body.wpIn (F.inRound l) (n - 1 - 1) P (kM w.heap.size I (pre++[x]) V) (a₁ x W) V)
 (hdone:∀(D:Nat) (xs:List α) (W:D7),S xs->w.heap.size<=D->I xs W->W.heap[D]? = some (.deferred (some []))->Q .normal { a with defers:={ target:=.collected D,args:=#[] } :: a.defers } W) :
 (Code.rangeFunc g ps assign body).wpIn F n P Q a w:=by
 refine wpIn_rangeFunc λfn ae => ?_
 rw[hro];obtain⟨r,hr⟩:∃r:LoopState->Option Code->Loop,r=λst pe=>{ state:=st,pending:=pe,fn,tmps:=a.tmps,params:=ps,assign,body,defers:=w.heap.size }:=⟨_,rfl⟩
 obtain⟨V,hV⟩:=Jq ((w.alloc (.deferred (some []))).alloc (.loop (r .ready none)));have hL:Ea w (r .ready none) V:=by
  rw[hV];refine⟨?_,(AO _ _ _ (by simp)).trans (World.alloc_heap_new w _)⟩
  have:=World.alloc_heap_new (w.alloc (.deferred (some []))) (.loop (r .ready none))
  rwa[BF]at this
 have af:I [] V:=by rw[hV];exact hI.alloc _ (hI.alloc _ h0)
 have a8:Below w.heap.size w V:=by rw[hV];exact((AM _ w).alloc (AB _) _).alloc (by simp) _
 have ah:V.heap.size=w.heap.size+2:=by rw[hV];simp
 refine⟨w.heap.size+1,[{ target:=.collected w.heap.size,args:=#[] }],V,{ target:=.fn (.func gf) lb,args:=#[.func (.yield (w.heap.size+1)) #[] #[]] },V,gf,
  #[.func (.yield (w.heap.size+1)) #[] #[]]++lb,V,?_,?_,?_,?_,λ_=>h1,?_⟩
 ·rw[hV,hr];exact run_enterLoop_outer _ _ _ _ _
 ·simp only[resolve,hg];simp[go_sem]
 ·intro f' a6;simp[Target.leads]at a6;subst a6;exact hFg
 ·simp[invoke,go_sem,eg]
 refine(hseq (w.heap.size+1) (λpre W=>I pre W/\Ea w (r .ready none) W) V a8 (λs A B row h a5 a0=>⟨hIa s A B row h.1 a5 (λk e=>⟨by have:=(a0 k e).1;omega,(a0 k e).2⟩),?_⟩) ?_ ⟨af,hL⟩).mono ?_
 ·refine⟨(a5.block _ (Az.1 h.2.1).1 (λe=>by have:=(a0 _ e.symm).1;omega)).trans h.2.1,(a5.block _ (Az.1 h.2.2).1 (λe=>by have:=(a0 _ e.symm).1;omega)).trans h.2.2⟩
 ·rintro pre x W ⟨hi,hl⟩ a4;have aa:=(Az.1 hl.1).1;have hy:=run_yield (P:=P) (args:=#[enc x]) hl.1 (by rw[hr];simp[hps]);rw[hr]at hy;have a1:Ea w (r .ready none) (as1 x W):=⟨((has1 x W).block _ aa).trans hl.1,((has1 x W).block _ (by omega)).trans hl.2⟩;have ag:=(has1 x W).size;refine⟨fn,_,assign,body,hy,roundIn_of_wpIn ae (hassign _ x W _ ⟨_,run_beginRound a1.1 (by rw[hr]),?_⟩)⟩;clear hy;have a9:Ea w { r .ready none with state:=.busy } ((as1 x W).putObj (w.heap.size+1) (.loop { r .ready none with state:=.busy })):=a1.turn _;have ac:Below w.heap.size (as1 x W) ((as1 x W).putObj (w.heap.size+1) (.loop { r .ready none with state:=.busy })):=belowK_b (w:=w) (AB _) (as1 x W) _ _ _ (by omega) a1.1 rfl rfl
  refine wpIn_mono (hbody _ pre x W _ (λk h1 h2=>World.putObj_heap_other (by omega)) (hI.putObj _ (has2 pre x W hi) (by omega) a1.1 rfl) a4 (by omega) ac.size) ?_;rintro e a3 W3 hp;cases e with
  | normal =>
    obtain⟨hk,ad,a7⟩:=hp;have a2:=a9.kept hk;have he:=run_endRound (P:=P) none a2.1;rw[hr]at he;refine⟨_,_,he,rfl,⟨hI.putObj _ ad (by omega) a2.1 rfl,?_⟩,?_⟩
    ·have:=a2.turn (r .ready none)
     rw[hr]at this ⊢;exact this
    exact(((has3 x W).trans (KeepsWalks.putObj _ a1.1 rfl)).trans a7).trans (KeepsWalks.putObj _ a2.1 rfl)
  | ret=>exact hp.elim
  | exit id=>exact hp.elim
  | goto t=>exact hp.elim
  | panic ch=>exact hp.elim
  | outgrown=>exact hp.elim
 rintro e W2 ⟨⟨v,rfl⟩,xs,hS,hi,hl⟩;exact⟨none,_,by have:=run_endLoop (P:=P) hl.1 (by rw[hr];simp);rw[hr]at this;exact this,hdone _ xs _ hS (AB _) (hI.putObj _ hi (by omega) hl.1 rfl) ((World.putObj_heap_other (by omega)).trans hl.2)⟩
end
namespace S1
open Go.RowKit Pk Go.Shelf
attribute [local go_sem] Oper.semAt_some
def JM(x:Nat × Nat):Value:=.agg #[.int .i64 x.1,.int .u32 x.2]
def M5(x:Nat × Nat):Prop:=x.1<=1000000/\x.2<=4294967295
structure Pb {H:Type} (D:DataW H) (left:Lit->Bool) (xs:List (Nat × Nat)):Prop where
 nd:xs.Nodup
 ok:∀x∈xs,M5 x
 mem:∀x,M5 x->(x∈xs↔Maps.has D (lk x.1 x.2)=true/\left (lk x.1 x.2)=false)
theorem iD{H:Type}{R:Value->Option (DataW H × List MemPlace)}(n:Nat)(hn:1<=n)(Bm b nn:Nat)(D0:DataW H)(w:D7)(hBm:Bm<w.heap.size)(hm:w.cell? ⟨Bm,0,none⟩=some (.map (some b)))(hown:w.ownsMap prog 90 R b nn D0)(hk:∀kl,Maps.has D0 kl=true->∃x,M5 x/\kl=lk x.1 x.2) :
 SeqGives Fence.wide n prog 143 #[.pointer (some ⟨Bm,0,none⟩)] JM (λxs=>xs.Nodup/\(∀x∈xs,M5 x)/\∀x,M5 x->(x∈xs↔Maps.has D0 (lk x.1 x.2)=true)) (Maps.size D0) w:=by
 intro l J W aw hJ hY h0;have aO:W.cell? ⟨Bm,0,none⟩=some (.map (some b)):=by rw[aw.cell (p:=⟨Bm,0,none⟩) hBm];exact hm
 have a9:W.ownsMap prog 90 R b nn D0:=by
  have hl:=hown.lt;obtain⟨es,a5,h1,h2⟩:=hown;exact⟨es,a5,(aw.block b hl).trans h1,h2⟩
 clear hm hown;refine Ck func143 rfl trivial ?_ rfl;simp only[ntmps143,BK,AY,B7,Nat.reduceAdd,Nat.reduceSub,BZ,BY,Bj,B9,BH,BR];gi_wp2_with (first | (gi_at_range;refine wpListIn_range_own _ rfl _ 137 rfl 90 94 Gl underlying137 _ b nn _ rfl a9 ?_;intro w0 ae aI aD) | gi_in)
 go_frame
 have az:=aD
 gi_loopw [3] (λ_ wr=>∃(left:Lit->Bool) (cnt:Nat) (xs:List (Nat × Nat)),wr.ranges prog 90 R b W.heap.size nn D0 left cnt/\Pb D0 left xs/\xs.length+cnt<=Maps.size D0/\J xs wr/\W.heap.size<wr.heap.size)
  (λ_ wr=>wr.rangeLeft b W.heap.size)
 case atStart =>
  exact⟨_,_,[],ae,⟨List.nodup_nil,λx hx=>(by cases hx),λx hx=>⟨λh=>(by cases h),λh=>(by rw[h.1]at h;cases h.2)⟩⟩,by simp,hJ [] W w0 none h0 aI (λr e=>by cases e),by omega⟩
 case round =>
  obtain⟨left,cnt,xs,ac,hC,aJ,aj,aN⟩:=hrel;gi_wp2_with (first | (gi_at_next;refine wpListIn_next_ranges _ rfl _ rfl 90 Gl R id id (λkey kl hk=>⟨key,rfl⟩) (λv _ _=>⟨v,rfl⟩) b W.heap.size nn _ _ _ rfl ac ?_ ?_) | gi_in)
  ·intro _ aC;gi_wp2;go_end0
   exact⟨⟨_,rfl⟩,xs,⟨hC.nd,hC.ok,λx hx=>⟨λh=>((hC.mem x hx).1 h).1,λh=>(hC.mem x hx).2 ⟨h,aC _⟩⟩⟩,aj⟩
  intro x cv kl yd yp w2 a3 a4 aa hv av a6 aE au aA am;have a0:Maps.has D0 kl=true:=C5 av;obtain⟨y,hy,rfl⟩:=hk kl a0;have hx:x=JM y:=Gl.inj (a4.trans rfl) (JR hy.1 hy.2);subst hx;have ar:J xs w2:=hJ xs wr w2 (some W.heap.size) aj au (λr e=>by cases e;exact⟨AB _,ac.iter_walk⟩);obtain⟨W3,a1⟩:=Jq (w2.alloc (.cells #[.int .i64 y.1,.int .u32 y.2] 90));obtain⟨kb,ad⟩:=Jq w2.heap.size;have ai:W3.heap[kb]? = some (.cells #[.int .i64 y.1,.int .u32 y.2] 90 (0,0)):=by rw[a1,ad];exact AQ _ _
  have c0:W3.cell? ⟨kb,0,none⟩=some (.int .i64 y.1):=by rw[AG W3 kb 0 _ 90 (0,0) ai];rfl
  have c1:W3.cell? ⟨kb,1,none⟩=some (.int .u32 y.2):=by rw[AG W3 kb 1 _ 90 (0,0) ai];rfl
  have aB:J xs W3:=hJ xs w2 W3 none ar (by rw[a1];exact BV w2 _ none) (λr e=>by cases e);have a8:W3.ranges prog 90 R b W.heap.size nn D0 (λz=>left z && !z.sameKey (lk y.1 y.2)) a3:=by rw[a1];exact a6.alloc _
  obtain⟨fn,tmps,assign,aG,ax,hR⟩:=hY xs y W3 aB (by omega);have ah:W.heap.size<W3.heap.size:=by rw[a1];simp;omega
  have HJ:Hid True:=Jy trivial;have ag:=Jy a8;have aK:=Jy ac;have aM:=Jy a1;have aL:=Jy ad;have HR:=Jy hR;have aH:=Jy aa;have ao:=Jy a0
  try simp only[id]at am
  unfold JM at am ax
  try simp only[id]
  unfold JM;clear a1 ad ai av hv a4 aa au aA a6 ac a8 a0 ar aj hR;gi_wp2_with (first | (rw[<-aM.o,<-aL.o]) | gi_in);refine HR.o.mono ?_;rintro e W4 ⟨rfl,ay,af⟩;have a2:=ag.o.of_walks af;have a7:=Jy a2;have an:Hid (W.heap.size<W4.heap.size):=Jy (AR ah af.size);have aF:=Jy ay;clear a2 ay af HR ax am c0 c1;gi_wp2;go_roundw
  case rel =>
   have aa:=aH.o;refine⟨_,a3,xs++[y],a7.o,⟨?_,?_,?_⟩,by simp;omega,aF.o,an.o⟩
   ·rw[CG];refine⟨hC.nd,by simp,λa ha c hc => ?_⟩;simp at hc;subst hc;rintro rfl
    have:=((hC.mem _ hy).1 ha).2
    rw[aa]at this;cases this
   ·intro z hz;rcases An.1 hz with hz | hz
    ·exact hC.ok z hz
    simp at hz;subst hz;exact hy
   intro z hz;by_cases e:z=y
   ·subst e;have hs:Lit.sameKey (lk z.1 z.2) (lk z.1 z.2)=true:=by simp[Lit.sameKey,lk]
    refine⟨λ_=>⟨ao.o,by rw[hs];simp⟩,λ_=>by simp⟩
   have hs:Lit.sameKey (lk z.1 z.2) (lk y.1 y.2)=false:=DL (λh=>e (by have:=Qc hz.1 hz.2 hy.1 hy.2 h;exact Prod.ext this.1 this.2));rw[hs];simp only[Bool.not_false,Bool.and_true];rw[<-hC.mem z hz];simp[e]
  case measure=>rw[a7.o.left_eq,aK.o.left_eq];exact aE
end S1
namespace S1
open Go.RowKit Pk Go.Shelf
attribute [local go_sem] Oper.semAt_some
def Ji(xs:List (Nat × Nat)):List Value:=xs.flatMap λx=>[.int .i64 (x.1:Nat),.int .u32 (x.2:Nat)]
theorem Y8(xs:List (Nat × Nat))(x:Nat × Nat):Ji (xs++[x])=Ji xs++[.int .i64 x.1,.int .u32 x.2]:=by simp[Ji]
theorem N7:(prog.info? 90).map (λi=>(i.zero,i.size,i.bytes))=some (some (.agg #[.int .i64 0,.int .u32 0]),2,16):=by kernel_rfl
def Sz(w:D7)(bx:Nat)(pre:List (Nat × Nat))(W:D7):Prop:=∃v,W.heap[bx]? = some (.cells #[v] 144 (0,0))/\W.ownsRow (bx+1) 90 2 v pre.length (Ji pre)/\Below bx w W/\(v=.slice none 0 0↔pre=[])
theorem Sz.grown{w:D7}{bx:Nat}{pre:List (Nat × Nat)}{W W':D7}{row:Option Nat}(h:Sz w bx pre W)(hg:W.grownBy W' row)(hr:∀r,row=some r->bx+1<=r/\∃o:Obj,W.heap[r]? = some o/\o.isCells=false)(hw:w.heap.size=bx):Sz w bx pre W':=by
 obtain⟨v,h1,h2,h3,h4⟩:=h;refine⟨v,(hg.block bx (lt_of_heap h1) (λe=>by have:=(hr bx e.symm).1;omega)).trans h1,?_,h3.grown hg (by have:=h3.size;omega) (λk e=>by have:=(hr k e).1;omega),h4⟩;refine⟨h2.1,?_⟩;rcases h2.2 with h5 | ⟨g,cap,cur,e,h5,h6,h7⟩
 ·exact .inl h5
 exact .inr ⟨g,cap,cur,e,h5,(hg.block g (lt_of_heap h6) (λe'=>by
  obtain⟨_,o,ho,hc⟩:=hr g e'.symm;rw[h6]at ho;cases ho
  cases hc)).trans h6,h7⟩
theorem nJ{o:Obj}(h:o.isWalk=true):o.isCells=false:=by
 cases o<;>first | rfl | cases h
theorem mV(n:Nat)(hn:2<=n)(g:Nat)(lb:Array Value)(eg:∀args w,(callFunc g args).run prog w=.ok (.enter g args) w)(S:List (Nat × Nat)->Prop)(N:Nat)(hN:N<=100000)(w:D7)(hseq:SeqGives Fence.wide (n - 1) prog g lb JM S N w) :
 CallsIn Fence.wide n prog 142 #[.slice none 0 0,.func (.func g) #[] lb] w λe w'=>∃(v:Value) (xs:List (Nat × Nat)),e=.returned v/\S xs/\w'.ownsRow w.heap.size 90 2 v xs.length (Ji xs)/\(v=.slice none 0 0↔xs=[])/\Below w.heap.size w w':=by
 obtain⟨i0,hi,ax,aD,aw⟩:=Ai N7;refine callsIn_of_wp_marks func142 rfl trivial ?_ rfl;simp only[ntmps142,BK,AY,B7,Nat.reduceAdd,Nat.reduceSub,BZ,BY,Bj,B9,BH,BR];gi_wp2;obtain⟨W0,ad⟩:=Jq (w.alloc (.cells #[.slice none 0 0] 144));obtain⟨bx,a3⟩:=Jq w.heap.size;have aI:W0.heap.size=bx+1:=by rw[ad,a3];simp
 have az:W0.heap[bx]? = some (.cells #[.slice none 0 0] 144 (0,0)):=by rw[ad,a3];exact AQ _ _
 have ao:Below w.heap.size w W0:=by rw[ad];exact(AM _ w).alloc (AB _) _
 rw[<-ad]
 try simp only[<-a3]
 refine jk rfl (by omega) (gf:=g) (lb:=lb) rfl trivial eg (hseq.later ao) rfl (Sz w bx)
  (λs A C row hs hg hr=>hs.grown hg (λr e=>⟨by have:=(hr r e).1;omega,(hr r e).2⟩) a3.symm)
  (λs A C row hs hg hr=>hs.grown hg (λr e=>⟨by have:=(hr r e).1;omega,by obtain⟨_,o,h1,h2⟩:=hr r e;exact⟨o,h1,nJ h2⟩⟩) a3.symm)
  ⟨_,az,AZ _ _ _ _,by rw[a3];exact ao,by simp⟩
  (λx W=>{ tmps:=#[.slice none 0 0,.func (.func g) #[] lb,.pointer (some ⟨bx,0,none⟩),undef,.slice none 0 0,.pointer (some ⟨W.heap.size,0,none⟩),.func (.func g) #[] lb,JM x,undef,undef,undef,undef,undef],defers:=[] })
  (λx W=>W.alloc (.cells #[.int .i64 (x.1:Nat),.int .u32 (x.2:Nat)] 90))
  (λx W=>(AM _ W).alloc (AB _) _) ?has2 (λx W=>KeepsWalks.alloc W _) ?assign ?body ?done
 case has2=>exact λa6 x W h=>h.grown (BV W _ none) (λr e=>by cases e) a3.symm
 case assign =>
  intro l x W K hK;unfold JM at hK ⊢;rw[a3]at hK;gi_wp2;exact hK
 case body =>
  intro l a6 x W V hV hI av aM aO;subst a3;obtain⟨v,hv,a0,a7,a8⟩:=hI;have ag:V.heap[W.heap.size]? = some (.cells #[.int .i64 x.1,.int .u32 x.2] 90 (0,0)):=by
   rw[hV _ (AB _) (by simp)];exact AQ _ _
  have au:w.heap.size<V.heap.size:=lt_of_heap hv;have aL:W.heap.size<V.heap.size:=lt_of_heap ag;obtain⟨aF,aN⟩:=cell_of_box_a hv;have aQ:V.cell? ⟨W.heap.size,0,none⟩=some (.int .i64 x.1):=by simp[World.cell?,ag]
  have aJ:V.cell? ⟨W.heap.size,1,none⟩=some (.int .u32 x.2):=by simp[World.cell?,ag]
  have aa:∀{j:Nat} {o:Obj},V.heap[j]? = some o->(∀ac,o≠.cells ac 90 (0,0))->some j≠v.ownBlock:=λhj aE=>by
   rcases ownsRow_ne_a a0 hj aE with e | e
   ·rw[e];simp
   exact λe'=>e e'.symm
  gi_wp2_with (first
   | (gi_at_builtin;refine wpListIn_append_own _ rfl _ _ 144 rfl (w.heap.size+1) 90 i0 _ 2 16 underlying144 hi ax aD aw rfl (by decide) _ _ _ rfl (a0.alloc _) ⟨V.heap.size,0,none⟩ 1 1 [.int .i64 x.1,.int .u32 x.2] rfl rfl ?_ (by simp[Value.oneCell']) (by simp[maxLen];omega) (by omega) (by simp;omega) ?_
      rotate_left
      intro v' w3 a2 an aj;have af:w3.heap[w.heap.size]? = some (.cells #[v] 144 (0,0)):=(an.block w.heap.size (by simp;omega) (aa hv (λac e=>by cases e))).trans ((AO _ _ w.heap.size au).trans hv);obtain⟨aA,aC⟩:=cell_of_box_a af;obtain⟨g',a1,a4,rfl,ah,aB,aK,aG,aP,aH⟩:∃g' a1 a4,v'=.slice (some ⟨g',0,none⟩) (a6.length+1) a1/\w.heap.size+1<=g'/\w3.heap[g']? = some (.cells a4 90 (0,0))/\a6.length+1<=a1/\a1<=maxLen/\a4.size=a1*2/\a4.toList.take ((a6.length+1)*2)=Ji a6++[.int .i64 x.1,.int .u32 x.2]:=by
       rcases a2.2 with⟨_,h0⟩ | h'
       ·exact absurd h0 (by omega)
       exact h'
      go_frame)
   | gi_round_op_a)
  ·have a5:(V.alloc (.cells #[.int .i64 x.1,.int .u32 x.2] 90)).grownBy w3 v.ownBlock:=an;obtain⟨w4,ae⟩:∃w4,w3.setCell ⟨w.heap.size,0,none⟩ (.slice (some ⟨g',0,none⟩) (a6.length+1) a1)=w4:=⟨_,rfl⟩;rw[ae];have ai:w3.grownBy w4 (some w.heap.size):=by rw[<-ae];exact grownBy_setCell0_a _ _ _
   have ar:w4.heap[w.heap.size]? = some (.cells #[.slice (some ⟨g',0,none⟩) (a6.length+1) a1] 144 (0,0)):=by rw[<-ae];exact heap_setCell_box_a _ af
   have a9:=a2.kept ai (ownsRow_ne_a a2 af (λac e=>by cases e));have am:Below w.heap.size w w3:=(a7.alloc a7.size _).grown a5 (by have:=a7.size;simp;omega) (λk e=>by have:=(a0.lt k e).1;omega);have ay:Below w.heap.size w w4:=am.grown ai am.size (λk e=>by cases e;omega);refine⟨?_,⟨_,ar,by rw[Y8];simpa using a9,ay,by simp⟩,((KeepsWalks.alloc _ _).trans (KeepsWalks.of_grownBy a5 (ownsRow_not_walk_a (a0.alloc _)))).trans (by rw[<-ae];exact KeepsWalks.setCell _ _ _)⟩;refine((KeepsOthers.alloc _ (.cells #[.int .i64 x.1,.int .u32 x.2] 90)).from _).trans (KeepsFrom.trans (?_:KeepsFrom _ _ w3) (KeepsFrom.of_grownBy ai (λj e=>by cases e;omega)));exact⟨a5.size,λk o hB hk ho=>(a5.block k (lt_of_heap hk) (λe=>by
    rcases a0.2 with⟨e',_⟩ | ⟨q,cap,ac,e',_,hq,_⟩
    ·rw[e']at e;cases e
    rw[e']at e;simp[Value.ownBlock]at e;subst e;rw[AO _ _ _ (lt_of_heap hq),hq]at hk;cases hk
    cases ho)).trans hk⟩
  intro j u hj
  have:=AQ V (.cells #[.int .i64 x.1,.int .u32 x.2] 90)
  rcases j with _ | _ | j
  ·simp at hj;subst hj;unfold World.cell? Addr.add;simp only[Nat.reduceAdd,Nat.reduceEqDiff,if_true,C6,this,Ao,Nat.one_ne_zero];rfl
  ·simp at hj;subst hj;unfold World.cell? Addr.add;simp only[Nat.reduceAdd,Nat.reduceEqDiff,if_true,C6,this,Ao,Nat.one_ne_zero];rfl
  simp at hj
 case done =>
  intro D xs W hS hD hI hK;subst a3;obtain⟨v,hv,a0,a7,a8⟩:=hI;obtain⟨aA,aC⟩:=cell_of_box_a hv;gi_wp2;refine⟨by simp,.inl ⟨_,_,rfl,run_takeDeferred hK,?_⟩⟩;exact⟨_,results_tmp rfl _ _ _,v,xs,rfl,hS,(ownsRow_base_a a0 (by omega)).kept (grownBy_putObj_a _ _ _) (ownsRow_ne_a a0 hK (λac e=>by cases e)),a8,a7.grown (grownBy_putObj_a _ _ _) a7.size (λk e=>by cases e;omega)⟩
theorem pD(n:Nat)(hn:3<=n)(g:Nat)(lb:Array Value)(eg:∀args w,(callFunc g args).run prog w=.ok (.enter g args) w)(S:List (Nat × Nat)->Prop)(N:Nat)(hN:N<=100000)(w:D7)(hseq:SeqGives Fence.wide (n - 1 - 1) prog g lb JM S N w) :
 CallsIn Fence.wide n prog 85 #[.func (.func g) #[] lb] w λe w'=>∃(v:Value) (xs:List (Nat × Nat)),e=.returned v/\S xs/\w'.ownsRow w.heap.size 90 2 v xs.length (Ji xs)/\(v=.slice none 0 0↔xs=[])/\Below w.heap.size w w':=by
 refine Ck func85 rfl trivial ?_ rfl;simp only[ntmps85,BK,AY,B7,Nat.reduceAdd,Nat.reduceSub,BZ,BY,Bj,B9,BH,BR];gi_wp2_with fail;refine⟨trivial,λ_=>by omega,(mV (n - 1) (by omega) g lb eg S N hN _ hseq).mono ?_⟩;rintro e w' ⟨v,xs,rfl,hS,a1,a0,hb⟩;gi_wp2;go_ret
 exact⟨v,xs,rfl,hS,a1,a0,hb⟩
end S1
section
open Go.RowKit
def IW(S:Nat->Prop)(W W':D7):Prop:=∀k,S k->W'.heap[k]? = W.heap[k]?
theorem IW.trans{S:Nat->Prop}{A B C:D7}(h:IW S A B)(k:IW S B C):IW S A C:=λi hi=>(k i hi).trans (h i hi)
theorem IW.of_below{S:Nat->Prop}{A B:D7}{n:Nat}(h:Below n A B)(hS:∀k,S k->k<n):IW S A B:=λi hi=>h.block i (hS i hi)
def Fy{α:Type}(F:Fence)(n:Nat)(P:Program)(g:Nat)(lb:Array Value)(encs:α->Array Value)(xs:List α)(n₀:Nat)(S:Nat->Prop)(w:D7):Prop:=
 ∀(l:Nat) (J:List α->D7->Prop) (W:D7),Below n₀ w W ->
  (∀pre x W1,J pre W1->pre++[x] <+: xs->YieldAt F (n - 1) P l (encs x) W1 λe W'=>e=.returned (.bool true)/\J (pre++[x]) W'/\IW S W1 W') ->
  J [] W->CallsIn F n P g (#[.func (.yield l) #[] #[]]++lb) W λe W'=>(∃v,e=.returned v)/\J xs W'
theorem Fy.later{α:Type}{F:Fence}{n:Nat}{P:Program}{g:Nat}{lb:Array Value}{encs:α->Array Value}{xs:List α}{n₀:Nat}{S:Nat->Prop}{w w':D7}(h:Fy F n P g lb encs xs n₀ S w)(hb:Below n₀ w w'):Fy F n P g lb encs xs n₀ S w':=
 λl J W hW=>h l J W (hb.trans hW)
def Y7{α:Type}(B:Nat)(S:Nat->Prop)(I:List α->D7->Prop)(xs:List α)(W:D7):Exit->Act->D7->Prop
 | .normal,_,W'=>KeepsFrom B W W'/\IW S W W'/\I xs W'
 | _,_,_=>False
variable {F:Fence} {n:Nat} {P:Program}
theorem UQ{α:Type}{g:Operand}{ps:Array Tmp}{assign body:Code}{Q:Exit->Act->D7->Prop}{a:Act}{w:D7}
 (hro:F.round=none) (h1:1<=n) {gf:Nat} {lb:Array Value} (hg:a.eval g=.func (.func gf) #[] lb) (hFg:F.fn gf) (eg:∀args w,(callFunc gf args).run P w=.ok (.enter gf args) w)
 {encs:α->Array Value} {xs:List α} {n₀:Nat} {S:Nat->Prop} (hseq:Fy F (n - 1) P gf lb encs xs n₀ S w) (hn₀:n₀<=w.heap.size) (hS:∀k,S k->k<w.heap.size) (hps:∀x,ps.size=(encs x).size)
 (I:List α->D7->Prop) (hI:OwnFrom w.heap.size I) (h0:I [] w) (a₁:α->D7->Act) (as1:α->D7->D7)
 (has1:∀x W,Below W.heap.size W (as1 x W)) (has2:∀pre x W,I pre W->I pre (as1 x W))
 (hassign:∀(l:Nat) (x:α) (W:D7) (K:Act->D7->Prop),K (a₁ x W) (as1 x W) ->
   assign.wpIn (F.inRound l) (n - 1 - 1) P (Exit.then K (λ_ _ _=>False)) { tmps:=(ps.zip (encs x)).foldl (λt (p,v)=>t.setIfInBounds p v) a.tmps,defers:=[] } W)
 (hbody:∀(l:Nat) (pre:List α) (x:α) (W V:D7),(∀k,W.heap.size<=k->k<(as1 x W).heap.size->V.heap[k]? = (as1 x W).heap[k]?)->I pre V->pre++[x] <+: xs->w.heap.size<=W.heap.size->(as1 x W).heap.size<=V.heap.size->body.wpIn (F.inRound l) (n - 1 - 1) P (Y7 w.heap.size S I (pre++[x]) V) (a₁ x W) V)
 (hdone:∀(D:Nat) (W:D7),w.heap.size<=D->I xs W->W.heap[D]? = some (.deferred (some []))->Q .normal { a with defers:={ target:=.collected D,args:=#[] } :: a.defers } W) :
 (Code.rangeFunc g ps assign body).wpIn F n P Q a w:=by
 refine wpIn_rangeFunc λfn ac => ?_
 rw[hro];obtain⟨r,hr⟩:∃r:LoopState->Option Code->Loop,r=λst pe=>{ state:=st,pending:=pe,fn,tmps:=a.tmps,params:=ps,assign,body,defers:=w.heap.size }:=⟨_,rfl⟩
 obtain⟨V,hV⟩:=Jq ((w.alloc (.deferred (some []))).alloc (.loop (r .ready none)));have hL:Ea w (r .ready none) V:=by
  rw[hV];refine⟨?_,(AO _ _ _ (by simp)).trans (World.alloc_heap_new w _)⟩
  have:=World.alloc_heap_new (w.alloc (.deferred (some []))) (.loop (r .ready none))
  rwa[BF]at this
 have ad:I [] V:=by rw[hV];exact hI.alloc _ (hI.alloc _ h0)
 have a7:Below w.heap.size w V:=by rw[hV];exact((AM _ w).alloc (AB _) _).alloc (by simp) _
 have af:V.heap.size=w.heap.size+2:=by rw[hV];simp
 refine⟨w.heap.size+1,[{ target:=.collected w.heap.size,args:=#[] }],V,{ target:=.fn (.func gf) lb,args:=#[.func (.yield (w.heap.size+1)) #[] #[]] },V,gf,
  #[.func (.yield (w.heap.size+1)) #[] #[]]++lb,V,?_,?_,?_,?_,λ_=>h1,?_⟩
 ·rw[hV,hr];exact run_enterLoop_outer _ _ _ _ _
 ·simp only[resolve,hg];simp[go_sem]
 ·intro f' a6;simp[Target.leads]at a6;subst a6;exact hFg
 ·simp[invoke,go_sem,eg]
 refine(hseq (w.heap.size+1) (λpre W=>I pre W/\Ea w (r .ready none) W) V (a7.mono hn₀) ?_ ⟨ad,hL⟩).mono ?_
 ·rintro pre x W ⟨hi,hl⟩ a2;have a9:=(Az.1 hl.1).1;have hy:=run_yield (P:=P) (args:=encs x) hl.1 (by rw[hr];simp[hps x]);rw[hr]at hy;have a1:Ea w (r .ready none) (as1 x W):=⟨((has1 x W).block _ a9).trans hl.1,((has1 x W).block _ (by omega)).trans hl.2⟩;have ae:=(has1 x W).size;refine⟨fn,_,assign,body,hy,roundIn_of_wpIn ac (hassign _ x W _ ⟨_,run_beginRound a1.1 (by rw[hr]),?_⟩)⟩;clear hy;have a8:Ea w { r .ready none with state:=.busy } ((as1 x W).putObj (w.heap.size+1) (.loop { r .ready none with state:=.busy })):=a1.turn _;have a5:Below w.heap.size (as1 x W) ((as1 x W).putObj (w.heap.size+1) (.loop { r .ready none with state:=.busy })):=belowK_b (w:=w) (AB _) (as1 x W) _ _ _ (by omega) a1.1 rfl rfl
  refine wpIn_mono (hbody _ pre x W _ (λk h1 h2=>World.putObj_heap_other (by omega)) (hI.putObj _ (has2 pre x W hi) (by omega) a1.1 rfl) a2 (by omega) a5.size) ?_;rintro e a3 W3 hp;cases e with
  | normal =>
    obtain⟨hk,hb,aa⟩:=hp;have a0:=a8.kept hk;have he:=run_endRound (P:=P) none a0.1;rw[hr]at he;refine⟨_,_,he,rfl,⟨hI.putObj _ aa (by omega) a0.1 rfl,?_⟩,?_⟩
    ·have:=a0.turn (r .ready none)
     rw[hr]at this ⊢;exact this
    have a4:=belowK_b (w:=w) (AB _) W3 (w.heap.size+1) _ (.loop (r .ready none)) (by omega) a0.1 rfl rfl;rw[hr]at a4;exact(((IW.of_below ((has1 x W).mono (by omega)) hS).trans (IW.of_below a5 hS)).trans hb).trans (IW.of_below a4 hS)
  | ret=>exact hp.elim
  | exit id=>exact hp.elim
  | goto t=>exact hp.elim
  | panic ch=>exact hp.elim
  | outgrown=>exact hp.elim
 rintro e W2 ⟨⟨v,rfl⟩,hi,hl⟩;exact⟨none,_,by have:=run_endLoop (P:=P) hl.1 (by rw[hr];simp);rw[hr]at this;exact this,hdone _ _ (AB _) (hI.putObj _ hi (by omega) hl.1 rfl) ((World.putObj_heap_other (by omega)).trans hl.2)⟩
end
namespace S1
open Go.RowKit Pk Go.Shelf
attribute [local go_sem] Oper.semAt_some
def Py:Value:=.agg #[.string ⟨#[]⟩,.int .i64 0,.int .u32 0,.map none,.int .i64 0]
theorem PV(w:D7):(zeroValue 94).run prog w=.ok Py w:=by kernel_rfl
theorem nR(w:D7):(Instr.makeMap 137 none).run prog w=.ok (.map (some w.heap.size)) (w.alloc (.map #[] 0)):=by
 simp[Instr.makeMap,Result.andThen]
theorem gw(q:Option Nat)(w:D7) :
 Calls prog 86 #[.map q] w λe w'=>e=.returned (.func (.func 143) #[] #[.pointer (some ⟨w.heap.size,0,none⟩)])/\w'=w.alloc (.cells #[.map q] 137):=by
 go_enter func86,ntmps86
 go_wp2;go_ret
 exact⟨rfl,rfl⟩
theorem XF(p:Option Addr)(k c:Nat)(w:D7) :
 Calls prog 83 #[.slice p k c] w λe w'=>e=.returned (.func (.func 138) #[] #[.pointer (some ⟨w.heap.size,0,none⟩)])/\w'=w.alloc (.cells #[.slice p k c] 144):=by
 go_enter func83,ntmps83
 go_wp2;go_ret
 exact⟨rfl,rfl⟩
def Le(x:Nat × (Nat × Nat)):Array Value:=#[.int .i64 x.1,.agg #[.int .i64 x.2.1,.int .u32 x.2.2]]
end S1
namespace S1
open Go.RowKit Go.Sort
variable {w:D7} {Dg off n:Nat} {d dj:Array Int}
theorem Pq(x:Int)(w:D7):Calls prog 337 #[.int .u32 x] w λe w'=>e=.returned (.bool false)/\w'=w:=by
 go_enter func337,ntmps337
 go_wp2;go_ret
 exact⟨by simp,rfl⟩
theorem Ek(x y:Int)(w:D7):Calls prog 323 #[.int .u32 x,.int .u32 y] w λe w'=>e=.returned (.bool (ltInt x y))/\w'=w:=by
 go_enter func323,ntmps323
 go_wp2_with (go_at_call 337;refine(Pq _ _).mono ?_;rintro e w' ⟨rfl,rfl⟩);go_ret
 exact⟨rfl,rfl⟩
abbrev EN (w:D7) (Dg off:Nat) (d:Array Int):Prop:=Holds (Value.int .u32) w Dg off d
abbrev EH (w:D7) (n Dg off:Nat) (d:Array Int):D7:=putRow (Value.int .u32) (Sort.ahead w n) Dg off d
theorem OX(hH:EN w Dg off d)(hs:dj.size=d.size)(t:Nat)(ht:t<d.size):(EH w n Dg off dj).cell? ⟨Dg,off+t,none⟩=some (.int .u32 dj[t]!):=
 cell?_putRow _ _ _ _ d dj (holds_ahead _ _ _ _ _ _ hH) hs t (by omega)
theorem O6(hH:EN w Dg off d)(t:Nat)(ht:t<d.size):(EH w n Dg off dj).frozen? ⟨Dg,off+t,none⟩=false:=by
 rw[frozen?_putRow];exact((holds_ahead _ _ n _ _ _ hH) t ht).2
theorem sE(Dg off cap a b:Nat)(d:Array Int)(w:D7)(hH:EN w Dg off d)(hab:a<=b)(hb:b<=d.size)(hsz:d.size<=1000000) :
 Calls prog 317 #[.slice (some ⟨Dg,off,none⟩) d.size cap,.int .i64 a,.int .i64 b] w λe w'=>e=.returned (.tuple #[])/\∃n,w'=EH w n Dg off (insertionSort ltInt d a b):=by
 go_enter func317,ntmps317
 go_wp2
 go_loopw [6] (λvi wr=>∃(i n:Nat) (dk:Array Int),vi=.int .i64 i/\a<i/\i<=b+1/\dk.size=d.size/\wr=EH w n Dg off dk/\Hid (insOuter ltInt a b i dk=insOuter ltInt a b (a+1) d)) (λvi _=>b+1 - (intOf vi).toNat)
 case atStart=>exact⟨a+1,0,d,by go_num,by omega,by omega,rfl,(putRow_self _ _ _ _ _ hH).symm,Jy rfl⟩
 case round =>
  obtain⟨i,n,dk,rfl,ac,LK,a8,a4,HO⟩:=hrel;by_cases a3:i<b
  ·have a2:(i:Int)<(b:Nat):=by omega
   go_wp2
   go_loopw [7] (λvj a6=>∃(j m:Nat) (dj:Array Int),vj=.int .i64 j/\a<=j/\j<=i/\dj.size=d.size/\a6=EH w m Dg off dj/\Hid (insInner ltInt a j dj=insInner ltInt a i dk)) (λvj _=>(intOf vj).toNat)
   case atStart=>exact⟨i,n,dk,rfl,by omega,AB _,a8,by first | rfl | exact a4,Jy rfl⟩
   obtain⟨j,m,dj,rfl,a9,ad,a1,a0,HI⟩:=hrel;obtain⟨G,hG⟩:∃G:Nat->Int,∀t,G t=dj[t]! := ⟨λt=>dj[t]!,λ_=>rfl⟩;have ae:∀t,t<d.size->wr.cell? ⟨Dg,off+t,none⟩=some (.int .u32 (G t)):=λt ht=>by rw[a0,hG];exact OX hH a1 t ht
   have aa:∀t,t<d.size->wr.frozen? ⟨Dg,off+t,none⟩=false:=λt ht=>by rw[a0];exact O6 hH t ht
   have HW:=Jy a0;have HG:=Jy hG;have a5:Hid ((j<=a\/ltInt dj[j]! dj[j - 1]! = false)->∀q,∃i' n' dk',Value.int .i64 ((i:Int)+1)=.int .i64 (i':Nat)/\a<i'/\i'<=b+1/\dk'.size=d.size/\wr.drewN q=EH w n' Dg off dk'/\Hid (insOuter ltInt a b i' dk'=insOuter ltInt a b (a+1) d)):=Jy (λhs q =>
    ⟨i+1,m+q,dj,by go_num,by omega,by omega,a1,by rw[HW.o];exact putRow_drewN _ _ _ _ _ _ _,Jy (by rw[<-HO.o,insOuter_go _ _ _ _ _ a3,<-HI.o,insInner_stop _ _ _ _ hs])⟩)
   clear a0 hG a4;go_wp2;by_cases a7:a<j
   ·go_quiet (first | (go_at_call 323;refine Ac (Ek _ _ _)))
    go_wp2
    ·have hl:ltInt (G j) (G (j - 1))=true:=by assumption
     go_region
     all_goals go_wp2
     go_roundw
     case rel =>
      refine⟨j - 1,m+(nq+1),swp dj j (j - 1),by congr 1;omega,by omega,by omega,by rw[size_swp];exact a1,?_,Jy ?_⟩
      ·rw[HW.o,HG.o,HG.o];exact swap_worldA _ w m (nq+1) Dg off dj j (j - 1) (by omega) (by omega)
      rw[<-HI.o,insInner_go ltInt a j dj a7 (by rw[<-HG.o,<-HG.o];exact hl)]
     case measure=>simp[intOf];omega
    have hl:ltInt (G j) (G (j - 1))=false:=by assumption
    go_roundw
    case rel=>exact a5.o (Or.inr (by rw[<-HG.o,<-HG.o];exact hl)) nq
    case measure=>simp[intOf];omega
   go_quiet (first | (go_at_call 323;refine Ac (Ek _ _ _)))
   go_wp2;go_roundw
   case rel=>exact a5.o (Or.inl (by omega)) nq
   case measure=>simp[intOf];omega
  have a2:¬(i:Int)<(b:Nat):=by omega
  go_wp2;go_end0
  exact⟨rfl,n,by unfold insertionSort;rw[<-HO.o,insOuter_stop _ _ _ _ _ a3]⟩
end S1
end Go.Proofs.YtodmdkhdbfbfgaaGreatDoor
