/- Lemmas. -/
import Derived.Test.YtodmdkhdbfbfgaaGreatDoorM20
set_option linter.unusedVariables false
set_option linter.unusedSimpArgs false
set_option maxRecDepth 100000
set_option maxHeartbeats 8000000
open Go.Proofs.Tryz
namespace Go.Proofs.YtodmdkhdbfbfgaaGreatDoor
namespace S1
open Go.RowKit Pk
open Go.Nt
def GH(m m':M):Prop:=∃i,i<m.nb/\m.bd i=false/\m'.bd i=true
theorem XD{p q:Nat->Bool}(h:∀i,p i=true->q i=true):∀(l:List Nat) {j:Nat},j∈l->p j=false->q j=true->l.countP p<l.countP q
 | a :: l,j,hj,h1,h2=>by
   have h3:l.countP p<=l.countP q:=DP (λx _ hx=>h x hx);rw[C0,C0];rcases As.1 hj with rfl | hj
   ·rw[h1,h2];simp;omega
   have h4:=XD h l hj h1 h2;by_cases hp:p a=true
   ·rw[AE hp,AE (h a hp)];omega
   rw[AC hp];omega
theorem GH.Dt{m m':M}(h:GH m m')(hm:∀i,m.bd i=true->m'.bd i=true)(hn:m'.nb=m.nb):Dt m<Dt m':=by
 obtain⟨i,h1,h2,h3⟩:=h;unfold S1.Dt;rw[hn];exact XD hm _ (CH.2 h1) h2 h3
theorem GH.then{a b c:M}(h:GH a b)(hm:∀i,b.bd i=true->c.bd i=true):GH a c:=by
 obtain⟨i,h1,h2,h3⟩:=h;exact⟨i,h1,h2,hm i h3⟩
theorem GH.ahead{a b c:M}(h:GH b c)(hm:∀i,a.bd i=true->b.bd i=true)(hn:b.nb=a.nb):GH a c:=by
 obtain⟨i,h1,h2,h3⟩:=h;refine⟨i,by omega,?_,h3⟩;cases e:a.bd i with
 | false=>rfl
 | true=>rw[hm i e]at h2;cases h2
def nf(m:M):M:={ m with fail:=-1 }
theorem tA{m:M}(h:WF m):WF (nf m):={ h with Ia:=by show(-1:Int) <= -1;omega,Ic:=by show(-1:Int)<=_;omega }
theorem ZX(Da fail:Int):(Dl Da fail).1=1\/((Dl Da fail).1=(Dl Da (-1)).1/\(Dl Da fail).2.1=(Dl Da (-1)).2.1/\(Dl Da (-1)).2.2 = -1):=by
 unfold Dl;by_cases h0:Da=0
 ·simp[h0]
 by_cases h1:Da=1
 ·simp[h1]
 by_cases h2:fail<0
 ·simp[h0,h1,h2]
 by_cases h3:fail=0
 ·left;simp[h0,h1,h3]
 right;simp[h0,h1,h2,h3]
theorem gF(m:M)(b p:Int)(x:D8):GH m (Dy m b p x).2\/((Dy m b p x).1=(Dy (nf m) b p x).1/\nf (Dy m b p x).2=(Dy (nf m) b p x).2):=by
 have e:JA (nf m) b p x↔JA m b p x:=Iff.rfl;unfold Dy;by_cases h:JA m b p x
 ·rw[AE h,AE (e.2 h)];obtain⟨i,q,rfl,rfl,hi,hb,_⟩:=Ql h;rcases ZX m.Da m.fail with h1 | ⟨h1,h2,h3⟩
  ·left
   refine⟨i,hi,hb,?_⟩;unfold FR;rw[h1];simp[FA,JY]
  right
  have e1:(Dl (nf m).Da (nf m).fail)=Dl m.Da (-1):=rfl;unfold FR;rw[e1,h1];have e2:nf (tick m)=tick (nf m):=by
   unfold tick;rw[e1,h2,h3];rfl
  repeat' split
  ·exact⟨rfl,by rw[<-e2];rfl⟩
  ·exact⟨rfl,by rw[<-e2];rfl⟩
  ·exact⟨rfl,by rw[<-e2];rfl⟩
  exact⟨rfl,e2⟩
 rw[AC h,AC (λh'=>h (e.1 h'))];exact .inr ⟨rfl,rfl⟩
theorem sG(m:M)(b:Int):GH m (EJ m b).2\/((EJ m b).1=(EJ (nf m) b).1/\nf (EJ m b).2=(EJ (nf m) b).2):=by
 have e:Fe (nf m) b=Fe m b:=rfl;unfold EJ;rw[e];by_cases h:Fe m b=false
 ·rw[AE h,AE h];obtain⟨i,rfl,hi,hb⟩:=Qw h;rcases ZX m.Da m.fail with h1 | ⟨h1,h2,h3⟩
  ·left
   refine⟨i,hi,hb,?_⟩;unfold Gp;rw[h1];simp[JY]
  right
  have e1:(Dl (nf m).Da (nf m).fail)=Dl m.Da (-1):=rfl;unfold Gp;rw[e1,h1];have e2:nf (tick m)=tick (nf m):=by
   unfold tick;rw[e1,h2,h3];rfl
  repeat' split
  ·exact⟨rfl,by rw[<-e2];rfl⟩
  ·exact⟨rfl,by rw[<-e2];rfl⟩
  ·exact⟨rfl,by rw[<-e2];rfl⟩
  exact⟨rfl,e2⟩
 rw[AC h,AC h];exact .inr ⟨rfl,rfl⟩
theorem Xb(b:Nat):∀(l:List D8) (m:M) (p:Nat) (S:Nat->Bool),WF m->GH m (Df b l m p S).2.1\/((Df b l m p S).1=(Df b l (nf m) p S).1/\nf (Df b l m p S).2.1=(Df b l (nf m) p S).2.1/\(Df b l m p S).2.2=(Df b l (nf m) p S).2.2)
 | [],m,p,S,_=>.inr ⟨rfl,rfl,rfl⟩
 | x :: l,m,p,S,hw=>by
   have hn:(nf m).np=m.np:=rfl;unfold Df;rw[hn];by_cases hp:p<m.np
   ·rw[AE hp,AE hp];have hw1:WF (Dy m (b:Nat) (p:Nat) x).2:=Mx hw _ _ _;rcases gF m (b:Nat) (p:Nat) x with h | ⟨h1,h2⟩
    ·left
     split
     ·exact h.then (λi hi=>Ow b i l _ _ _ hw1 hi)
     exact h
    rw[<-h1,<-h2];by_cases hc:(Dy m (b:Nat) (p:Nat) x).1=true
    ·rw[AE hc,AE hc];rcases Xb b l _ (p+1) (λj=>j==b||S j) hw1 with h | h
     ·exact .inl (h.ahead (λi hi=>TQ hw i hi) (V9 _ _ _ _))
     exact .inr h
    rw[AC hc,AC hc];exact .inr ⟨rfl,rfl,rfl⟩
   rw[AC hp,AC hp];exact .inr ⟨rfl,rfl,rfl⟩
def Jd(s:LS):LS:={ s with m:=nf s.m }
theorem Xx(s:LS)(hw:WF s.m):GH s.m s.prog.m\/Jd s.prog=(Jd s).prog:=by
 rcases Xb s.b s.left s.m s.p s.S hw with h | ⟨h1,h2,h3⟩
 ·exact .inl h
 right
 unfold LS.prog Jd;dsimp only;rw[h1,h2,h3]
theorem nK(K:Nat->Bool)(s:LS):GH s.m (s.IM K).m\/(Jd (s.IM K)=(Jd s).IM K/\(Di s.m K s.Q s.b).1=(Di (nf s.m) K s.Q s.b).1):=by
 have hn:(nf s.m).nb=s.m.nb:=rfl;have hp:(nf s.m).np=s.m.np:=rfl;unfold LS.IM Jd Di;dsimp only;rw[hn,hp];rcases sG s.m (((s.b+1)%s.m.nb:Nat):Int)with h | ⟨h1,h2⟩
 ·by_cases c1:K ((s.b+1)%s.m.nb)=true
  ·right;simp[c1]
  by_cases c2:s.Q ((s.b+1)%s.m.nb)=true
  ·right;simp[c1,c2]
  left
  rw[AC c1,AC c2]
  split<;>exact h
 right
 rw[<-h1,<-h2]
 repeat' split
 all_goals exact⟨rfl,rfl⟩
theorem Uk(K:Nat->Bool)(s:LS)(hw:WF s.m):(∀i,s.m.bd i=true->(EF K s).m.bd i=true)/\WF (EF K s).m/\(EF K s).m.nb=s.m.nb:=by
 have h1:=Nq hw K s.Q s.b;have h2:=OW s.m K s.Q s.b;unfold EF
 split
 ·exact⟨λi hi=>Ow _ i _ _ _ _ h1 (Qf K s.Q s.b i hi),Mq _ _ _ _ _ h1,(MW _ _ _ _ _).1.trans h2.1⟩
 exact⟨λi hi=>Qf K s.Q s.b i hi,h1,h2.1⟩
theorem nD(K:Nat->Bool)(s:LS)(hw:WF s.m):GH s.m (EF K s).m\/Jd (EF K s)=EF K (Jd s):=by
 have h1:=Nq hw K s.Q s.b;have h2:=OW s.m K s.Q s.b;rcases nK K s with h | ⟨h3,h4⟩
 ·left
  unfold EF
  split
  ·exact h.then (λi hi=>Ow _ i _ _ _ _ h1 hi)
  exact h
 have e:(Di (Jd s).m K (Jd s).Q (Jd s).b).1=(Di s.m K s.Q s.b).1:=h4.symm;unfold EF;rw[e]
 split
 ·rcases Xx (s.IM K) h1 with h | h
  ·exact .inl (h.ahead (λi hi=>Qf K s.Q s.b i hi) h2.1)
  exact .inr (by rw[h,h3])
 exact .inr h3
theorem SL(K:Nat->Bool):∀(k:Nat) (s:LS),WF s.m->(∀i,s.m.bd i=true->(EV K k s).m.bd i=true)/\WF (EV K k s).m/\(EV K k s).m.nb=s.m.nb
 | 0,s,hw=>⟨λ_ h=>h,hw,rfl⟩
 | k+1,s,hw=>by
   obtain⟨h1,h2,h3⟩:=Uk K s hw;obtain⟨h4,h5,h6⟩:=SL K k (EF K s) h2;rw[EV]
   split
   ·exact⟨λ_ h=>h,hw,rfl⟩
   exact⟨λi hi=>h4 i (h1 i hi),h5,h6.trans h3⟩
theorem Xj(K:Nat->Bool):∀(k:Nat) (s:LS),WF s.m->GH s.m (EV K k s).m\/Jd (EV K k s)=EV K k (Jd s)
 | 0,s,hw=>.inr rfl
 | k+1,s,hw=>by
   obtain⟨h1,h2,h3⟩:=Uk K s hw;have e:((Jd s).left=[]\/(Jd s).m.Da=0)↔(s.left=[]\/s.m.Da=0):=Iff.rfl;by_cases hc:s.left=[]\/s.m.Da=0
   ·rw[EV,EV,AE hc,AE (e.2 hc)];exact .inr rfl
   rw[EV,EV,AC hc,AC (λh=>hc (e.1 h))];rcases nD K s hw with h | h
   ·exact .inl (h.then (SL K k _ h2).1)
   rcases Xj K k (EF K s) h2 with h' | h'
   ·exact .inl (h'.ahead h1 h3)
   exact .inr (by rw[h',h])
theorem ju(K:Nat->Bool)(s:LS)(hw:WF s.m):GH s.m (E7 K s).m\/Jd (E7 K s)=E7 K (Jd s):=by
 unfold E7;have en:(Jd s).m.nb=s.m.nb:=rfl;rw[en];have h0:GH s.m (FW s).m\/Jd (FW s)=FW (Jd s):=by
  unfold FW;have e:(Jd s).left.length+(Jd s).p<=(Jd s).m.np↔s.left.length+s.p<=s.m.np:=Iff.rfl;by_cases hc:s.left.length+s.p<=s.m.np
  ·rw[AE hc,AE (e.2 hc)];exact Xx s hw
  rw[AC hc,AC (λh=>hc (e.1 h))];exact .inr rfl
 have a0:WF (FW s).m/\(FW s).m.nb=s.m.nb/\∀i,s.m.bd i=true->(FW s).m.bd i=true:=by
  unfold FW
  split
  ·exact⟨Mq _ _ _ _ _ hw,(MW _ _ _ _ _).1,λi hi=>Ow _ i _ _ _ _ hw hi⟩
  exact⟨hw,rfl,λ_ h=>h⟩
 rcases h0 with h | h
 ·exact .inl (h.then (SL K _ _ a0.1).1)
 rcases Xj K s.m.nb (FW s) a0.1 with h' | h'
 ·exact .inl (h'.ahead a0.2.2 a0.2.1)
 exact .inr (by rw[h',h])
theorem K7(K:Nat->Bool)(s:LS)(hw:WF s.m):(∀i,s.m.bd i=true->(E7 K s).m.bd i=true)/\WF (E7 K s).m/\(E7 K s).m.nb=s.m.nb:=by
 have a0:WF (FW s).m/\(FW s).m.nb=s.m.nb/\∀i,s.m.bd i=true->(FW s).m.bd i=true:=by
  unfold FW
  split
  ·exact⟨Mq _ _ _ _ _ hw,(MW _ _ _ _ _).1,λi hi=>Ow _ i _ _ _ _ hw hi⟩
  exact⟨hw,rfl,λ_ h=>h⟩
 obtain⟨h1,h2,h3⟩:=SL K s.m.nb (FW s) a0.1;exact⟨λi hi=>h1 i (a0.2.2 i hi),h2,h3.trans a0.2.1⟩
theorem jm{m:M}{K Q:Nat->Bool}{b p:Nat}(hw:WF m)(hr:IZ m Q b p)(hk:Ed m.nb K<=Eg m/2)(hb:b<m.nb)(hp:p<=m.np){xs:List D8}(hx:∀x∈xs,x.length=64)(h1:0<xs.length)(h2:xs.length<=Ec m)(s:LS)(hs:s=E7 K ⟨xs,m,Q,b,p,λ_=>false⟩) :
 s.left=[]\/s.m.Da=0\/GH m s.m:=by
 have hv:Rh (nf m) K Q b p:=⟨tA hw,by show(-1:Int)<0;decide,⟨hr.open_,hr.clean⟩,hk,hb,hp⟩;rcases ju K ⟨xs,m,Q,b,p,λ_=>false⟩ hw with h | h
 ·exact .inr (.inr (by rw[hs];exact h))
 rw[<-hs]at h;have h3:=(hv.lay hx h1 h2 (Jd s) h).1;rcases h3 with⟨h3,_⟩ | ⟨_,h3,_⟩
 ·exact .inl h3
 exact .inr (.inl h3)
theorem Ts(b:Nat):∀(l:List D8) (m:M) (p:Nat) (S:Nat->Bool),WF m->∀i,(Df b l m p S).2.2.2 i=true->S i=true\/m.bd i=false
 | [],m,p,S,_,i,h=>.inl h
 | x :: l,m,p,S,hw,i,h=>by
   unfold Df at h
   split at h
   ·split at h
    ·rename_i hc;rcases Ts b l _ _ _ (Mx hw _ _ _) i h with h | h
     ·rcases Bool.or_eq_true_iff.1 h with h | h
      ·right
       have e:i=b:=by simpa using h
       subst e;have hm:JA m (i:Nat) (p:Nat) x:=by
        unfold Dy at hc
        split at hc
        ·assumption
        cases hc
       obtain⟨j,_,e,_,_,hb,_⟩:=Ql hm
       have:i=j:=by omega
       rw[this];exact hb
      exact .inl h
     right
     cases e:m.bd i with
     | false=>rfl
     | true=>rw[TQ hw i e]at h;cases h
    exact .inl h
   exact .inl h
theorem gI(K:Nat->Bool)(s:LS)(hw:WF s.m)(i:Nat)(h:(EF K s).S i=true):s.S i=true\/s.m.bd i=false:=by
 unfold EF at h
 split at h
 ·rcases Ts _ _ _ _ _ (Nq hw K s.Q s.b) i h with h | h
  ·exact .inl h
  right
  cases e:s.m.bd i with
  | false=>rfl
  | true=>rw[Qf K s.Q s.b i e]at h;cases h
 exact .inl h
theorem Zi(K:Nat->Bool):∀(k:Nat) (s:LS),WF s.m->∀i,(EV K k s).S i=true->s.S i=true\/s.m.bd i=false
 | 0,s,hw,i,h=>.inl h
 | k+1,s,hw,i,h=>by
   rw[EV]at h
   split at h
   ·exact .inl h
   obtain⟨h1,h2,h3⟩:=Uk K s hw;rcases Zi K k _ h2 i h with h | h
   ·exact gI K s hw i h
   right
   cases e:s.m.bd i with
   | false=>rfl
   | true=>rw[h1 i e]at h;cases h
theorem pT(K:Nat->Bool)(s:LS)(hw:WF s.m)(i:Nat)(h:(E7 K s).S i=true):s.S i=true\/s.m.bd i=false:=by
 unfold E7 at h;have a0:WF (FW s).m/\∀i,s.m.bd i=true->(FW s).m.bd i=true:=by
  unfold FW
  split
  ·exact⟨Mq _ _ _ _ _ hw,λi hi=>Ow _ i _ _ _ _ hw hi⟩
  exact⟨hw,λ_ h=>h⟩
 rcases Zi K _ _ a0.1 i h with h | h
 ·unfold FW at h
  split at h
  ·exact Ts _ _ _ _ _ hw i h
  exact .inl h
 right
 cases e:s.m.bd i with
 | false=>rfl
 | true=>rw[a0.2 i e]at h;cases h
variable {m m':M} {f:Fp} {k:Nat} {Q:Nat->Bool}
structure Lj (m:M):Prop where
 uniq:KQ (IK m)
 bad:∀f∈IK m,f.bad<=Dt m/\(m.bd f.Dg=true->f.bad<Dt m)
theorem Jc:f∈IK m↔∃i p q,i<m.nb/\p<m.np/\Ef (pad (m.pg i p))=some q/\f=Fp.mk' q i:=FB
theorem ji(m:M)(k:Nat)(hk:k<m.nb)(hw:WF m) :
 (EJ m (k:Nat)).2.bd=(λi=>(EJ m (k:Nat)).2.bd i)/\(∀i,m.bd i=true->(EJ m (k:Nat)).2.bd i=true)/\(∀i,i≠k->(EJ m (k:Nat)).2.bd i=m.bd i/\(EJ m (k:Nat)).2.nx i=m.nx i/\∀p,(EJ m (k:Nat)).2.pg i p=m.pg i p) /\
 (∀i p,(EJ m (k:Nat)).2.pg i p=[]\/(EJ m (k:Nat)).2.pg i p=m.pg i p)/\(m.Da=0->(EJ m (k:Nat)).2.Da=0) /\
 ((EJ m (k:Nat)).1=true->(EJ m (k:Nat)).2.bd k=false/\(EJ m (k:Nat)).2.nx k=0/\∀p,p<m.np->(EJ m (k:Nat)).2.pg k p=[]) /\
 ((EJ m (k:Nat)).1=false->(EJ m (k:Nat)).2.bd k=true\/(EJ m (k:Nat)).2.Da=0):=by
 unfold EJ;by_cases h:Fe m (k:Nat)=false
 ·rw[AE h];have hb:m.bd k=false:=by rw[Im m hk]at h;exact h
  have ek:(k:Int).toNat=k:=by omega
  rw[ek];unfold Gp;by_cases h0:(Dl m.Da m.fail).1=0
  ·rw[AE h0];refine⟨rfl,λi hi=>hi,λi hi=>⟨rfl,AC hi,λp=>AC (λh=>hi h.1)⟩,λi p => ?_,λhl => ?_,λ_=>⟨hb,AE rfl,λp hp=>AE ⟨rfl,hp⟩⟩,λh=>by cases h⟩
   ·show(if i=k/\p<m.np then[]else m.pg i p)=[]\/(if i=k/\p<m.np then[]else m.pg i p)=m.pg i p
    split
    ·exact .inl rfl
    exact .inr rfl
   unfold Dl at h0;rw[AE hl]at h0;cases h0
  rw[AC h0];by_cases h1:(Dl m.Da m.fail).1=1
  ·rw[AE h1];refine⟨rfl,λi hi => ?_,λi hi=>⟨AC hi,rfl,λp=>rfl⟩,λi p=>.inr rfl,λhl => ?_,(λh=>by cases h),λ_=>.inl (AE rfl)⟩
   ·show(if i=k then true else m.bd i)=true
    split
    ·rfl
    exact hi
   unfold Dl at h1;rw[AE hl]at h1;cases h1
  rw[AC h1];by_cases h2:(Dl m.Da m.fail).1=2
  ·rw[AE h2];have hl:(Dl m.Da m.fail).2.1=0:=by
    unfold Dl at h2 ⊢
    repeat' split at h2
    all_goals(first | cases h2 | skip)
    repeat' split
    all_goals first | rfl | omega
   refine⟨rfl,λi hi=>hi,λi hi=>⟨rfl,AC hi,λp=>AC (λh=>hi h.1)⟩,λi p => ?_,λ_=>hl,(λh=>by cases h),λ_=>.inr hl⟩;show(if i=k/\p<m.cut.toNat%m.np then[]else m.pg i p)=[]\/(if i=k/\p<m.cut.toNat%m.np then[]else m.pg i p)=m.pg i p
   split
   ·exact .inl rfl
   exact .inr rfl
  rw[AC h2];have hl:(Dl m.Da m.fail).2.1=0:=by
   unfold Dl at h0 h1 h2 ⊢;by_cases a0:m.Da=0
   ·rw[AE a0];exact a0
   rw[AC a0]at h0 h1 h2;by_cases a1:m.Da=1
   ·rw[AE a1]at h2;exact absurd rfl h2
   rw[AC a1]at h0 h1;by_cases a2:m.fail<0
   ·rw[AE a2]at h0;exact absurd rfl h0
   rw[AC a2]at h0 h1;by_cases a3:m.fail=0
   ·rw[AE a3]at h1;exact absurd rfl h1
   rw[AC a3]at h0;exact absurd rfl h0
  exact⟨rfl,λi hi=>hi,λi hi=>⟨rfl,rfl,λp=>rfl⟩,λi p=>.inr rfl,λ_=>hl,(λh=>by cases h),λ_=>.inr hl⟩
 rw[AC h];have hb:m.bd k=true:=by rw[Im m hk]at h;simpa using h
 exact⟨rfl,λi hi=>hi,λi hi=>⟨rfl,rfl,λp=>rfl⟩,λi p=>.inr rfl,λh=>h,(λh=>by cases h),λ_=>.inl hb⟩
structure N2 (m:M) (k:Nat) (m':M) (Q:Nat->Bool):Prop where
 wf:WF m'
 nb:m'.nb=m.nb
 np:m'.np=m.np
 mono:∀i,m.bd i=true->m'.bd i=true
 Ey:∀i p,m'.pg i p=[]\/m'.pg i p=m.pg i p
 same:∀i,k<=i->m'.bd i=m.bd i
 clean:∀i,Q i=true->i<k/\m'.bd i=false/\m'.nx i=0
 gone:m'.Da≠0->∀i,i<k->m'.bd i=false->Q i=true/\∀p,p<m.np->m'.pg i p=[]
theorem Ju{m:M}(hw:WF m):∀k,k<=m.nb->N2 m k (Ds m k).1 (Ds m k).2
 | 0,_=>⟨hw,rfl,rfl,λ_ h=>h,λ_ _=>.inr rfl,λ_ _=>rfl,(λi h=>by cases h),λ_ i h=>absurd h (Nat.not_lt_zero _)⟩
 | k+1,hk=>by
   have ih:=Ju hw k (by omega);obtain⟨m1,hm1⟩:=Jq ((Ds m k).1);obtain⟨Q1,hQ1⟩:=Jq ((Ds m k).2);rw[<-hm1,<-hQ1]at ih;have e1:(Ds m (k+1)).1=(EJ m1 (k:Nat)).2:=by rw[Ds,hm1]
   have e2:(Ds m (k+1)).2=if(EJ m1 (k:Nat)).1 then(λj=>j==k||Q1 j)else Q1:=by rw[Ds,hm1,hQ1]
   rw[e1,e2];obtain⟨-,s1,s2,s3,s4,s5,s6⟩:=ji m1 k (by rw[ih.nb];omega) ih.wf;have a4:Q1 k=false:=by
    cases e:Q1 k with
    | false=>rfl
    | true=>have:=(ih.clean k e).1;omega
   refine⟨R8 ih.wf _,(UC _ _).trans ih.nb,(Wd _ _).trans ih.np,λi hi=>s1 i (ih.mono i hi),λi p => ?_,λi hi=>((s2 i (by omega)).1).trans (ih.same i (by omega)),λi hi => ?_,λhl i hi hb => ?_⟩
   ·rcases s3 i p with h | h
    ·exact .inl h
    rw[h];exact ih.Ey i p
   ·by_cases hc:(EJ m1 (k:Nat)).1=true
    ·rw[AE hc]at hi;by_cases e:i=k
     ·subst e;exact⟨by omega,(s5 hc).1,(s5 hc).2.1⟩
     have:Q1 i=true:=by simpa[e]using hi
     obtain⟨a1,a2,a3⟩:=ih.clean i this;exact⟨by omega,by rw[(s2 i e).1];exact a2,by rw[(s2 i e).2.1];exact a3⟩
    rw[AC hc]at hi;have e:i≠k:=λe=>by rw[e,a4]at hi;cases hi
    obtain⟨a1,a2,a3⟩:=ih.clean i hi;exact⟨by omega,by rw[(s2 i e).1];exact a2,by rw[(s2 i e).2.1];exact a3⟩
   have a0:m1.Da≠0:=λh=>hl (s4 h)
   by_cases e:i=k
   ·subst e;cases hc:(EJ m1 (i:Nat)).1 with
    | true =>
      rw[AE rfl];exact⟨by simp,by rw[<-ih.np];exact(s5 hc).2.2⟩
    | false =>
      rcases s6 hc with h | h
      ·rw[h]at hb;cases hb
      exact absurd h hl
   rw[(s2 i e).1]at hb;obtain⟨a1,a2⟩:=ih.gone a0 i (by omega) hb;refine⟨?_,λp hp=>by rw[(s2 i e).2.2 p];exact a2 p hp⟩
   split
   ·simp[a1]
   exact a1
theorem N2.IK(h:N2 m k m' Q)(hf:f∈S1.IK m'):f∈S1.IK m:=by
 obtain⟨i,p,q,h1,h2,h3,rfl⟩:=Jc.1 hf;rw[h.nb]at h1;rw[h.np]at h2;rcases h.Ey i p with e | e
 ·rw[e,Ft (by decide)]at h3;cases h3
 rw[e]at h3;exact Jc.2 ⟨i,p,q,h1,h2,h3,rfl⟩
theorem IF(hn:m'.nb=m.nb)(h:∀i,m.bd i=true->m'.bd i=true):Dt m<=Dt m':=by
 unfold Dt;rw[hn];exact VJ h _
theorem ny(hn:m'.nb=m.nb)(h:∀i,m.bd i=true->m'.bd i=true):GH m m'\/∀i,i<m.nb->m'.bd i=m.bd i:=by
 by_cases hc:∃i,i<m.nb/\m.bd i=false/\m'.bd i=true
 ·exact .inl hc
 right
 intro i hi;cases e:m.bd i with
 | true=>exact h i e
 | false =>
   cases e':m'.bd i with
   | false=>rfl
   | true=>exact absurd ⟨i,hi,e,e'⟩ hc
theorem oM(hn:m'.nb=m.nb)(h:∀i,i<m.nb->m'.bd i=m.bd i):Dt m'=Dt m:=by
 unfold Dt;rw[hn];exact List.countP_congr (λi hi=>by rw[h i (CH.1 hi)])
theorem Lj.step(hn:m'.nb=m.nb)(hm:∀i,m.bd i=true->m'.bd i=true)(hi:f.Dg<m.nb)(h1:f.bad<=Dt m)(h2:m.bd f.Dg=true->f.bad<Dt m):f.bad<=Dt m'/\(m'.bd f.Dg=true->f.bad<Dt m'):=by
 have a0:=IF hn hm;refine⟨by omega,λhb => ?_⟩;cases e:m.bd f.Dg with
 | true=>have:=h2 e;omega
 | false =>
   have:=GH.Dt ⟨f.Dg,hi,e,hb⟩ hm hn
   omega
theorem N2.K3(h:N2 m k m' Q)(ho:Lj m):Lj m':=by
 refine⟨λf hf g hg=>ho.uniq f (h.IK hf) g (h.IK hg),λf hf => ?_⟩;have a0:=h.IK hf;exact Lj.step h.nb h.mono (G9 a0).2 (ho.bad f a0).1 (ho.bad f a0).2
def Uo(m:M)(t:D8)(r:Int × M):Prop:=
 WF r.2/\r.2.nb=m.nb/\r.2.np=m.np/\(∀i,m.bd i=true->r.2.bd i=true)/\Lj r.2 /\
  ((r.1=0/\m.Da≠0/\∃c n K,OB r.2 c n K t)\/(r.1=9/\(Ec m<De t.length\/GH m r.2))\/(r.1=10/\r.2.Da=0))
theorem Lj.renew(ho:Lj m)(hw:WF m){t:D8}(ht:0<t.length):Uo m t (EU m t):=by
 unfold EU;by_cases h1:Ee m t.length=0
 ·rw[AC (by simp[h1])];have ao:=IA h1;have ar:De t.length<=Ec m:=by
   unfold Ee at h1;rw[AC ao]at h1
   split at h1
   ·cases h1
   omega
  have hE:=Ju hw m.nb (AB _);obtain⟨me,aw⟩:=Jq ((Ds m m.nb).1);obtain⟨Q,hQ⟩:=Jq ((Ds m m.nb).2);rw[<-aw,<-hQ]at hE ⊢;have ad:=hE.K3 ho;by_cases h2:Ee me t.length=0
  ·rw[AC (by simp[h2])];have ac:=IA h2;have a9:De t.length<=Ec me:=by
    unfold Ee at h2;rw[AC ac]at h2
    split at h2
    ·cases h2
    omega
   have au:=VK hE.wf;have ay:0<De t.length:=by unfold De;omega
   have aB:=Fc me;have aD:=hE.wf.Iu;have h4:=hE.wf.KZ;have ah:∀i,i<me.nb->me.bd i=false->Q i=true/\∀p,p<m.np->me.pg i p=[]:=λi hi hb=>hE.gone ac i (by rw[hE.nb]at hi;exact hi) hb
   have ag:∀f∈IK me,f.bad<Dt me:=λf hf=>by
    have ax:=(ad.bad f hf).2;cases e:me.bd f.Dg with
    | true=>exact ax e
    | false =>
      obtain⟨i,p,q,a1,a2,a3,rfl⟩:=Jc.1 hf
      have:=(ah i a1 e).2 p (by rw[<-hE.np];exact a2)
      rw[this,Ft (by decide)]at a3;cases a3
   have af:∀y,FJ (IK me) (Dt me) y=false:=λy=>by
    cases e:FJ (IK me) (Dt me) y with
    | false=>rfl
    | true =>
      obtain⟨f,hf,e1,_⟩:=E0.1 e
      have:=ag f hf
      omega
   have ai:KP me ⟨0,0,none⟩ (FJ (EB (Fs me) me.np me.nb))=1:=by
    unfold KP;exact Gs (by decide) (af 1)
   obtain⟨s,hs⟩:=Jq (Ib me Q t);have am:s=E7 (λ_=>false) ⟨EE (Dt me) 1 t,me,Q,me.nb - 1,me.np,λ_=>false⟩:=by
    rw[hs];unfold Ib KR;rw[ai]
   rw[<-hs];have ae:IZ me Q (me.nb - 1) me.np:=IZ.shut me Q _ (λi hi=>by
    obtain⟨a1,a2,a3⟩:=hE.clean i hi;exact⟨by rw[hE.nb];exact a1,a2,a3⟩)
   have a0:=K7 (λ_=>false) ⟨EE (Dt me) 1 t,me,Q,me.nb - 1,me.np,λ_=>false⟩ hE.wf;obtain⟨ps,hI⟩:=jL (K:=λ_=>false) hE.wf ae (by omega) (AB _) (TB (Dt me) 1 t);have aj:=pT (λ_=>false) ⟨EE (Dt me) 1 t,me,Q,me.nb - 1,me.np,λ_=>false⟩ hE.wf;have av:=jm hE.wf ae (by rw[Oe];exact AU _) (by omega) (AB _) (TB (Dt me) 1 t) (by rw[EC];exact ay) (by rw[EC];exact a9) s am;rw[<-am]at a0 hI aj;have a7:Dt me<256:=by omega
   have a8:De t.length<65536:=by omega
   have az:∀i,m.bd i=true->s.m.bd i=true:=λi hi=>a0.1 i (hE.mono i hi)
   have aa:Lj s.m:=by
    refine⟨pW hI a7 (by decide) a8 ad.uniq (af 1),λf hf => ?_⟩;rcases hI.found a7 (by decide) a8 hf with⟨k,i,q,h3,_,rfl⟩ | h3
    ·obtain⟨a1,_,_,_,a5⟩:=hI.J9 k i q h3;rw[hI.nb]at a1;have a6:me.bd i=false:=by
      rcases aj i a5 with h | h
      ·cases h
      exact h
     exact Lj.step hI.nb a0.1 (f:=Kx (Dt me) 1 t k i) a1 (AB _) (λh=>by
      have h':me.bd i=true:=h;rw[a6]at h';cases h')
    exact Lj.step hI.nb a0.1 (G9 h3).2 (ad.bad f h3).1 (ad.bad f h3).2
   refine⟨a0.2.1,a0.2.2.trans hE.nb,hI.np.trans hE.np,az,aa,?_⟩;dsimp only;by_cases hl:s.left=[]
   ·rw[AE hl];rw[hl]at hI
    left
    refine⟨rfl,ao,Dt me,1,s.S,⟨aa.uniq,?_,λx y aA => ?_,λf hf=>(aa.bad f hf).1,hI.Fc,ht,by omega,by decide⟩⟩
    ·have aC:ps.length=De t.length:=by
      have h3:=AV List.length hI.part;rw[Bo,EC]at h3;have h5:=hI.le;rw[EC]at h5;simp at h3;omega
     refine⟨λk=>ps.getD k (0,0),λk hk => ?_⟩;obtain⟨x,hx⟩:∃x,ps[k]? = some x:=⟨_,AD (by omega)⟩;obtain⟨i,q⟩:=x;have e:ps.getD k (0,0)=(i,q):=by rw[AI,hx];rfl
     obtain⟨a1,a2,a3,a4,a5⟩:=hI.J9 k i q hx;dsimp only;rw[e];refine⟨a1,a2,a3,a5,?_⟩;have e2:(EE (Dt me) 1 t)[k]? = some (Ej (F0 (Dt me) 1 t k)):=by unfold EE;simp[hk]
     rw[e2]at a4;exact(DX a4).symm
    by_cases an:x=Dt me/\y=1
    ·exact .inr ⟨an.1,by omega⟩
    left
    have h3:=kO hI a7 (by decide) a8 ad.uniq an aA;unfold Eh at h3;simp only[Af]at h3;obtain⟨f,hf,rfl,_⟩:=E0.1 h3.1;exact ag f hf
   rw[AC hl]
   right
   by_cases h0:s.m.Da=0
   ·rw[AE h0];exact .inr ⟨rfl,h0⟩
   rw[AC h0]
   left
   refine⟨rfl,.inr ?_⟩;rcases av with h | h | h
   ·exact absurd h hl
   ·exact absurd h h0
   exact h.ahead hE.mono hE.nb
  rw[AE h2];refine⟨hE.wf,hE.nb,hE.np,hE.mono,ad,.inr ?_⟩;dsimp only;unfold Ee at h2 ⊢;by_cases ac:me.Da=0
  ·rw[AE ac];exact .inr ⟨rfl,ac⟩
  rw[AC ac]at h2 ⊢
  left
  split
  ·rename_i h3;refine⟨rfl,.inr ?_⟩;rcases ny hE.nb hE.mono with h | h
   ·exact h
   exfalso
   have e:Ec me=Ec m:=by
    unfold Ec Eg;rw[oM hE.nb h,hE.nb,hE.np]
   omega
  rename_i h3;rw[AC h3]at h2;exact absurd rfl h2
 rw[AE h1];refine⟨hw,rfl,rfl,λ_ h=>h,ho,.inr ?_⟩;dsimp only;unfold Ee at h1 ⊢;by_cases hl:m.Da=0
 ·rw[AE hl];exact .inr ⟨rfl,hl⟩
 rw[AC hl]at h1 ⊢
 left
 split
 ·rename_i h2;exact⟨rfl,.inl h2⟩
 rename_i h2;rw[AC h2]at h1;exact absurd rfl h1
end S1
namespace S1
open Go.RowKit Pk Go.Shelf
theorem iz(w:D7):Calls prog 84 #[.slice none 0 0] w λe w'=>e=.returned (.slice none 0 0)/\Below w.heap.size w w':=by
 obtain⟨z0,hz⟩:=Jq w.heap.size;obtain⟨W1,a1⟩:=Jq (w.alloc (.map #[] 0));have s1:W1.heap.size=z0+1:=by rw[a1,hz];simp
 have b1:Below z0 w W1:=by rw[a1,hz];exact(AM _ w).alloc (AB _) _
 have a7:=Za w;rw[<-a1,<-hz]at a7;have ai:Hid (KE W1 (z0+1) z0 0 (λ_=>[])):=Jy (by rw[a1,hz];exact KE.made w);have ae:=Jy a1;have Hz:=Jy hz;have a4:=Jy s1;have ac:=Jy b1;rw[<-hz];clear a1 hz s1 b1;go_enter func84,ntmps84
 go_wp2_with (first | (rw[<-ae.o,<-Hz.o]) | fail);refine wp_loop_rounds 1 ?_;rw[DC];go_wp2_with fail;refine(eS (some z0) W1).mono ?_;rintro e w6 ⟨rfl,a3⟩;have a9:w6.heap.size=z0+2:=by rw[a3];simp[a4.o]
 have a5:Below W1.heap.size W1 w6:=by rw[a3];exact(AM _ _).alloc (AB _) _
 have aa:w6.cell? ⟨W1.heap.size,0,none⟩=some (.map (some z0)):=by rw[a3];simp
 have a8:=ai.o.below a5 (AB _);have B6:=Jy (a8.keys (Bm:=W1.heap.size) (λb h=>absurd rfl h) (by omega) (by rw[a4.o];omega) aa);have ad:Hid (Below z0 w w6):=Jy (ac.o.trans (a5.mono (by rw[a4.o];omega)));have ag:=Jy a9;clear a5 aa a3 a9 a8 a7;go_wp2_with fail;refine B6.o.mono ?_;rintro e w7 ⟨v7,ks,rfl,-,-,a2,-,a0,a6⟩;have ah:ks=[]:=List.eq_nil_iff_forall_not_mem.2 (λb hb=>absurd rfl ((a2 b).1 hb));subst ah;have af:Hid (Below z0 w w7):=Jy (ad.o.trans (a6.mono (by rw[ag.o];omega)));rcases a0.2 with⟨rfl,_⟩ | ⟨g7,cap7,cur7,rfl,_⟩
 all_goals
  clear a0 a6 a2 B6;go_wp2_with fail;refine wp_loop_rounds 1 ?_;rw[DC];go_wp2_with fail;go_ret
  exact⟨rfl,af.o⟩
theorem jM(n:Nat)(hn:1<=n)(w:D7)(B:Nat)(n₀:Nat)(S:Nat->Prop)(hB:B<n₀)(hb:w.cell? ⟨B,0,none⟩=some (.slice none 0 0)) :
 Fy Fence.wide n prog 138 #[.pointer (some ⟨B,0,none⟩)] Le [] n₀ S w:=by
 intro l J W hW hY h0;have a0:W.cell? ⟨B,0,none⟩=some (.slice none 0 0):=by rw[hW.cell (p:=⟨B,0,none⟩) hB];exact hb
 have H0:=Jy h0;clear hb h0 hY hW;refine Ck func138 rfl trivial ?_ rfl;simp only[ntmps138,BK,AY,B7,Nat.reduceAdd,Nat.reduceSub,BZ,BY,Bj,B9,BH,BR];gi_wp2
 gi_loopw [3] (λi wr=>i=.int .i64 (-1)/\wr=W) (λ_ _=>0)
 case atStart=>exact⟨rfl,rfl⟩
 case round =>
  obtain⟨rfl,rfl⟩:=hrel;gi_wp2;go_end0
  exact⟨⟨_,rfl⟩,H0.o⟩
end S1
end Go.Proofs.YtodmdkhdbfbfgaaGreatDoor
