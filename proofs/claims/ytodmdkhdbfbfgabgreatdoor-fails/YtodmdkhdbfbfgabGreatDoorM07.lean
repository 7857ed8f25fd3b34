/- Lemmas. -/
import Derived.Test.YtodmdkhdbfbfgabGreatDoorM05
set_option linter.unusedVariables false
set_option linter.unusedSimpArgs false
set_option maxRecDepth 100000
set_option maxHeartbeats 8000000
namespace Go.Proofs.YtodmdkhdbfbfgabGreatDoor.S1
open Go.RowKit Pk
theorem qaD (m:M) (b p:Nat) (x:List UInt8) (hw:WF m) :
 ((progA m (b:Nat) (p:Nat) x).1=true∧b<m.nb∧m.bd b=false∧p=m.nx b∧p<m.np∧x.length=64∧m.life≠0∧(progA m (b:Nat) (p:Nat) x).2=setN (setP (tick m) b p x) b (p+1)) ∨
 ((progA m (b:Nat) (p:Nat) x).1=false∧((progA m (b:Nat) (p:Nat) x).2=m∨(progA m (b:Nat) (p:Nat) x).2=tick m∧m.life=0∨(b<m.nb∧m.bd b=false∧p=m.nx b∧p<m.np∧x.length=64∧∃ c,c<64∧((progA m (b:Nat) (p:Nat) x).2=setN (setP (tick m) b p (x.take c)) b (p+1)∧(tick m).life=0∨(progA m (b:Nat) (p:Nat) x).2=setN (setB (setP (tick m) b p (x.take c)) b true) b (p+1)∧0≤m.fail)))):=by
 unfold progA;by_cases hm:mayP m (b:Nat) (p:Nat) x
 ·rw [if_pos hm];obtain ⟨i,q,e1,e2,hi,hb,hq,hp,hl⟩:=qey hm;have e1':i=b:=by omega
  have e2':q=p:=by omega
  subst e1' e2';simp only [Int.toNat_natCast];have c1:=hw.cut1;have c2:=hw.cut2;have p1:=hw.part1;have p2:=hw.part2;have hcut:m.cut.toNat<64:=by omega
  have hpart:m.part.toNat<64:=by omega
  unfold progF;rcases qaR m.life m.fail with hk | hk | hk | hk
  ·rw [if_pos hk];refine .inl ⟨rfl,hi,hb,hq,hp,hl,?_,rfl⟩;intro h0;unfold callF at hk;rw [if_pos h0] at hk;simp at hk
  ·rw [if_neg (by rw [hk];decide),if_pos hk];refine .inr ⟨rfl,.inr (.inr ⟨hi,hb,hq,hp,hl,m.part.toNat,hpart,.inr ⟨rfl,?_⟩⟩)⟩;unfold callF at hk
   repeat' split at hk
   all_goals simp at hk
   all_goals omega
  ·rw [if_neg (by rw [hk];decide),if_neg (by rw [hk];decide),if_pos hk];refine .inr ⟨rfl,.inr (.inr ⟨hi,hb,hq,hp,hl,m.cut.toNat,hcut,.inl ⟨rfl,?_⟩⟩)⟩;unfold tick;show (callF m.life m.fail).2.1=0;unfold callF at hk ⊢
   repeat' split at hk
   all_goals simp at hk
   rename_i h0 h1;rw [if_neg h0,if_pos h1]
  rw [if_neg (by rw [hk];decide),if_neg (by rw [hk];decide),if_neg (by rw [hk];decide)];refine .inr ⟨rfl,.inr (.inl ⟨rfl,?_⟩)⟩;unfold callF at hk
  repeat' split at hk
  all_goals simp at hk
  all_goals assumption
 rw [if_neg hm];exact .inr ⟨rfl,.inl rfl⟩
theorem qa1 (m:M) (b:Nat) :
 ((eraA m (b:Nat)).1=true∧b<m.nb∧m.bd b=false∧m.life≠0∧(eraA m (b:Nat)).2=setN (setE (tick m) b m.np) b 0) ∨
 ((eraA m (b:Nat)).1=false∧((eraA m (b:Nat)).2=m∧(m.nb≤b∨m.bd b=true)∨(eraA m (b:Nat)).2=tick m∧m.life=0∨(b<m.nb∧m.bd b=false∧((eraA m (b:Nat)).2=setB (tick m) b true∧0≤m.fail∨(∃ k,(eraA m (b:Nat)).2=setN (setE (tick m) b k) b m.np)∧(tick m).life=0)))):=by
 unfold eraA;by_cases hm:badB m (b:Nat)=false
 ·rw [if_pos hm];obtain ⟨i,e1,hi,hb⟩:=qeT hm;have e1':i=b:=by omega
  subst e1';simp only [Int.toNat_natCast];unfold eraF;rcases qaR m.life m.fail with hk | hk | hk | hk
  ·rw [if_pos hk];refine .inl ⟨rfl,hi,hb,?_,rfl⟩;intro h0;unfold callF at hk;rw [if_pos h0] at hk;simp at hk
  ·rw [if_neg (by rw [hk];decide),if_pos hk];refine .inr ⟨rfl,.inr (.inr ⟨hi,hb,.inl ⟨rfl,?_⟩⟩)⟩;unfold callF at hk
   repeat' split at hk
   all_goals simp at hk
   all_goals omega
  ·rw [if_neg (by rw [hk];decide),if_neg (by rw [hk];decide),if_pos hk];refine .inr ⟨rfl,.inr (.inr ⟨hi,hb,.inr ⟨⟨_,rfl⟩,?_⟩⟩)⟩;unfold tick;show (callF m.life m.fail).2.1=0;unfold callF at hk ⊢
   repeat' split at hk
   all_goals simp at hk
   rename_i h0 h1;rw [if_neg h0,if_pos h1]
  rw [if_neg (by rw [hk];decide),if_neg (by rw [hk];decide),if_neg (by rw [hk];decide)];refine .inr ⟨rfl,.inr (.inl ⟨rfl,?_⟩)⟩;unfold callF at hk
  repeat' split at hk
  all_goals simp at hk
  all_goals assumption
 rw [if_neg hm];refine .inr ⟨rfl,.inl ⟨rfl,?_⟩⟩;have hm':badB m (b:Nat)=true:=by simpa using hm
 unfold badB hasB at hm';simp at hm';rcases hm' with h | h
 ·exact .inl (by omega)
 exact .inr h
structure LayI (m0:M) (K:Nat→Bool) (xs:List (List UInt8)) (m:M) (S:Nat→Bool) (ps:List (Nat × Nat)) (left:List (List UInt8)):Prop where
 wf:WF m
 nb:m.nb=m0.nb
 np:m.np=m0.np
 le:ps.length≤xs.length
 part:left=xs.drop ps.length
 posn:∀ (k i q:Nat),ps[k]? = some (i,q)→i<m.nb∧q<m.np∧q<m.nx i∧xs[k]? = some (m.pg i q)∧S i=true
 inS:∀ i,S i=true→∃ (k q:Nat),ps[k]? = some (i,q)
 nd:ps.Nodup
 page:∀ (i q:Nat),i<m.nb→q<m.np→(i,q)∈ps∨(∃ x,x∈xs∧∃ c:Nat,c<64∧m.pg i q=x.take c)∨m.pg i q=[]∨m.pg i q=m0.pg i q
 keptN:∀ i,K i=true→m0.nx i≤m.nx i
 kept:∀ i q,K i=true→q<m0.nx i→m.pg i q=m0.pg i q
 bad:∀ i,m0.bd i=true→m.bd i=true
theorem LayI.start {m:M} (h:WF m) (K:Nat→Bool) (xs:List (List UInt8)):LayI m K xs m (fun _=>false) [] xs:=
 ⟨h,rfl,rfl,Nat.zero_le _,by simp,by simp,by simp,by simp,fun i q _ _=>.inr (.inr (.inr rfl)),fun _ _=>Nat.le_refl _,fun _ _ _ _=>rfl,fun _ h=>h⟩
theorem LayI.x {m0:M} {K:Nat→Bool} {xs:List (List UInt8)} {m:M} {S:Nat→Bool} {ps:List (Nat × Nat)} {x:List UInt8} {l:List (List UInt8)} (h:LayI m0 K xs m S ps (x :: l)):xs[ps.length]? = some x∧l=xs.drop (ps.length+1)∧x∈xs:=by
 have e:=h.part;have h1:xs[ps.length]? = some x:=by
  have:=congrArg (fun l:List (List UInt8)=>l[0]?) e
  simpa using this.symm
 refine ⟨h1,?_,List.mem_of_getElem? h1⟩
 have:=congrArg List.tail e
 simpa using this
theorem LayI.new {m0:M} {K:Nat→Bool} {xs:List (List UInt8)} {m:M} {S:Nat→Bool} {ps:List (Nat × Nat)} {l:List (List UInt8)} (h:LayI m0 K xs m S ps l) (b:Nat):(b,m.nx b)∉ps:=by
 intro hm;obtain ⟨k,hk⟩:=List.getElem?_of_mem hm
 have:=(h.posn k b _ hk).2.2.1
 omega
theorem LayI.prog {m0:M} {K:Nat→Bool} {xs:List (List UInt8)} {m:M} {S:Nat→Bool} {ps:List (Nat × Nat)} {x:List UInt8} {l:List (List UInt8)} (h:LayI m0 K xs m S ps (x :: l)) (b p:Nat) (hr:(progA m (b:Nat) (p:Nat) x).1=true) :
 LayI m0 K xs (progA m (b:Nat) (p:Nat) x).2 (fun j=>j==b||S j) (ps++[(b,p)]) l:=by
 have hwf:=qaY h.wf (b:Nat) (p:Nat) x;rcases qaD m b p x h.wf with ⟨_,hb,hbd,hp,hpn,hx,hl,e⟩ | ⟨hf,_⟩
 ·rw [e] at hwf ⊢;obtain ⟨hx1,hx2,hx3⟩:=h.x;have hlen:ps.length<xs.length:=(List.getElem?_eq_some_iff.1 hx1).1;have hnew:=h.new b;rw [←hp] at hnew;refine ⟨hwf,h.nb,h.np,by simp;omega,by simp [hx2],?_,?_,?_,?_,?_,?_,h.bad⟩
  ·intro k i q hk;rw [List.getElem?_append] at hk
   split at hk
   ·rename_i hlt;obtain ⟨a1,a2,a3,a4,a5⟩:=h.posn k i q hk;have hne:¬(i=b∧q=p):=fun he=>hnew (by rw [←he.1,←he.2];exact List.mem_of_getElem? hk)
    refine ⟨a1,a2,?_,?_,by simp [a5]⟩
    ·show q<if i=b then p+1 else m.nx i;by_cases e:i=b
     ·subst e;rw [if_pos rfl];omega
     rw [if_neg e];exact a3
    show xs[k]? = some (if i=b∧q=p then x else m.pg i q);rw [if_neg hne];exact a4
   rename_i hge;have hk0:k - ps.length=0:=by
    rcases Nat.eq_zero_or_pos (k - ps.length) with h0 | h0
    ·exact h0
    rw [List.getElem?_eq_none (by simp;omega)] at hk;cases hk
   rw [hk0] at hk;simp at hk;obtain ⟨rfl,rfl⟩:=hk;have hkk:k=ps.length:=by omega
   refine ⟨hb,hpn,?_,?_,by simp⟩
   ·show p<if b=b then p+1 else m.nx b;rw [if_pos rfl];omega
   show xs[k]? = some (if b=b∧p=p then x else m.pg b p);rw [if_pos ⟨rfl,rfl⟩,hkk];exact hx1
  ·intro i hi;simp only [Bool.or_eq_true,beq_iff_eq] at hi;rcases hi with rfl | hi
   ·exact ⟨ps.length,p,by simp⟩
   obtain ⟨k,q,hk⟩:=h.inS i hi;exact ⟨k,q,by rw [List.getElem?_append_left (List.getElem?_eq_some_iff.1 hk).1];exact hk⟩
  ·rw [List.nodup_append];refine ⟨h.nd,by simp,fun a ha c hc => ?_⟩;simp at hc;subst hc;rintro rfl;exact hnew ha
  ·intro i q hi hq;by_cases e:i=b∧q=p
   ·left;rw [e.1,e.2];simp
   have:(setN (setP (tick m) b p x) b (p+1)).pg i q=m.pg i q:=if_neg e
   rw [this];rcases h.page i q hi hq with h1 | h1
   ·exact .inl (List.mem_append_left _ h1)
   exact .inr h1
  ·intro i hi
   have:=h.keptN i hi
   show m0.nx i≤if i=b then p+1 else m.nx i;by_cases e:i=b
   ·subst e;rw [if_pos rfl];omega
   rw [if_neg e];exact this
  intro i q hi hq;have h1:=h.keptN i hi;have h2:=h.kept i q hi hq;show (if i=b∧q=p then x else m.pg i q)=_;rw [if_neg (by rintro ⟨rfl,rfl⟩;omega)];exact h2
 rw [hr] at hf;cases hf
theorem LayI.torn {m0:M} {K:Nat→Bool} {xs:List (List UInt8)} {m:M} {S:Nat→Bool} {ps:List (Nat × Nat)} {x:List UInt8} {l:List (List UInt8)} (h:LayI m0 K xs m S ps (x :: l)) (b p:Nat) (hr:(progA m (b:Nat) (p:Nat) x).1=false) :
 LayI m0 K xs (progA m (b:Nat) (p:Nat) x).2 S ps (x :: l):=by
 have hwf:=qaY h.wf (b:Nat) (p:Nat) x;obtain ⟨hx1,hx2,hx3⟩:=h.x;have key:∀ (m':M),WF m'→m'.nb=m.nb→m'.np=m.np→p=m.nx b→(∀ i q,m'.pg i q=if i=b∧q=p then (m'.pg b p) else m.pg i q)→(∃ c,c<64∧m'.pg b p=x.take c)→(∀ i,m'.nx i=if i=b then p+1 else m.nx i)→(∀ i,m.bd i=true→m'.bd i=true)→LayI m0 K xs m' S ps (x :: l):=by
  intro m' w1 w2 w3 hp w4 w5 w6 w7;have hnew:=h.new b;rw [←hp] at hnew;refine ⟨w1,w2.trans h.nb,w3.trans h.np,h.le,h.part,?_,h.inS,h.nd,?_,?_,?_,fun i hi=>w7 i (h.bad i hi)⟩
  ·intro k i q hk;obtain ⟨a1,a2,a3,a4,a5⟩:=h.posn k i q hk;have hne:¬(i=b∧q=p):=fun he=>hnew (by rw [←he.1,←he.2];exact List.mem_of_getElem? hk)
   refine ⟨by rw [w2];exact a1,by rw [w3];exact a2,?_,by rw [w4,if_neg hne];exact a4,a5⟩;rw [w6];by_cases e:i=b
   ·subst e;rw [if_pos rfl];omega
   rw [if_neg e];exact a3
  ·intro i q hi hq;rw [w2] at hi;rw [w3] at hq;by_cases e:i=b∧q=p
   ·obtain ⟨rfl,rfl⟩:=e;obtain ⟨c,hc,he⟩:=w5;exact .inr (.inl ⟨x,hx3,c,hc,he⟩)
   rw [w4,if_neg e];exact h.page i q hi hq
  ·intro i hi
   have:=h.keptN i hi
   rw [w6];by_cases e:i=b
   ·subst e;rw [if_pos rfl];omega
   rw [if_neg e];exact this
  intro i q hi hq;have h1:=h.keptN i hi;have h2:=h.kept i q hi hq;rw [w4,if_neg (by rintro ⟨rfl,rfl⟩;omega)];exact h2
 rcases qaD m b p x h.wf with ⟨ht,_⟩ | ⟨_,e | ⟨e,_⟩ | ⟨hb,hbd,hp,hpn,hx,c,hc,⟨e,_⟩ | ⟨e,_⟩⟩⟩
 ·rw [hr] at ht;cases ht
 ·rw [e];exact h
 ·rw [e] at hwf ⊢;exact ⟨hwf,h.nb,h.np,h.le,h.part,h.posn,h.inS,h.nd,h.page,h.keptN,h.kept,h.bad⟩
 ·rw [e] at hwf ⊢;refine key _ hwf rfl rfl hp (fun i q => ?_) ⟨c,hc,if_pos ⟨rfl,rfl⟩⟩ (fun i=>rfl) (fun i hi=>hi);show (if i=b∧q=p then x.take c else m.pg i q)=if i=b∧q=p then (if b=b∧p=p then x.take c else m.pg b p) else m.pg i q;rw [if_pos (⟨rfl,rfl⟩:b=b∧p=p)]
 rw [e] at hwf ⊢;refine key _ hwf rfl rfl hp (fun i q => ?_) ⟨c,hc,if_pos ⟨rfl,rfl⟩⟩ (fun i=>rfl) (fun i hi => ?_)
 ·show (if i=b∧q=p then x.take c else m.pg i q)=if i=b∧q=p then (if b=b∧p=p then x.take c else m.pg b p) else m.pg i q;rw [if_pos (⟨rfl,rfl⟩:b=b∧p=p)]
 show (if i=b then true else m.bd i)=true;by_cases e:i=b
 ·rw [if_pos e]
 rw [if_neg e];exact hi
theorem LayI.era {m0:M} {K:Nat→Bool} {xs:List (List UInt8)} {m:M} {S:Nat→Bool} {ps:List (Nat × Nat)} {l:List (List UInt8)} (h:LayI m0 K xs m S ps l) (b:Nat) (hK:K b=false) (hS:S b=false∨m.bd b=true) :
 LayI m0 K xs (eraA m (b:Nat)).2 S ps l:=by
 have hwf:=qeM h.wf (b:Nat);have key:∀ (m':M),WF m'→m'.nb=m.nb→m'.np=m.np→S b=false→(∀ i q,m'.pg i q=m.pg i q∨(i=b∧m'.pg i q=[]))→(∀ i,i≠b→m'.nx i=m.nx i)→(∀ i,m.bd i=true→m'.bd i=true)→LayI m0 K xs m' S ps l:=by
  intro m' w1 w2 w3 hs w4 w6 w7;have hne:∀ {k i q:Nat},ps[k]? = some (i,q)→i≠b:=fun {k i q} hk he=>by
   have:=(h.posn k i q hk).2.2.2.2
   rw [he,hs] at this;cases this
  have hnk:∀ {i:Nat},K i=true→i≠b:=fun {i} hk he=>by rw [he,hK] at hk;cases hk
  have hpg:∀ {i q:Nat},i≠b→m'.pg i q=m.pg i q:=fun {i q} hi=>by
   rcases w4 i q with e | e
   ·exact e
   exact absurd e.1 hi
  refine ⟨w1,w2.trans h.nb,w3.trans h.np,h.le,h.part,?_,h.inS,h.nd,?_,?_,?_,fun i hi=>w7 i (h.bad i hi)⟩
  ·intro k i q hk;obtain ⟨a1,a2,a3,a4,a5⟩:=h.posn k i q hk;refine ⟨by rw [w2];exact a1,by rw [w3];exact a2,by rw [w6 i (hne hk)];exact a3,by rw [hpg (hne hk)];exact a4,a5⟩
  ·intro i q hi hq;rw [w2] at hi;rw [w3] at hq;rcases w4 i q with e | e
   ·rw [e];exact h.page i q hi hq
   exact .inr (.inr (.inl e.2))
  ·intro i hi;rw [w6 i (hnk hi)];exact h.keptN i hi
  intro i q hi hq;rw [hpg (hnk hi)];exact h.kept i q hi hq
 have hS':m.bd b=false→S b=false:=fun hb=>hS.resolve_right (by rw [hb];decide)
 rcases qa1 m b with ⟨_,hb,hbd,_,e⟩ | ⟨_,⟨e,_⟩ | ⟨e,_⟩ | ⟨hb,hbd,⟨e,_⟩ | ⟨⟨k,e⟩,_⟩⟩⟩
 ·rw [e] at hwf ⊢;refine key _ hwf rfl rfl (hS' hbd) (fun i q => ?_) (fun i hi=>if_neg hi) (fun i hi=>hi);show (if i=b∧q<m.np then [] else m.pg i q)=m.pg i q∨(i=b∧(if i=b∧q<m.np then [] else m.pg i q)=[]);by_cases e:i=b∧q<m.np
  ·rw [if_pos e];exact .inr ⟨e.1,rfl⟩
  rw [if_neg e];exact .inl rfl
 ·rw [e];exact h
 ·rw [e] at hwf ⊢;exact ⟨hwf,h.nb,h.np,h.le,h.part,h.posn,h.inS,h.nd,h.page,h.keptN,h.kept,h.bad⟩
 ·rw [e] at hwf ⊢;refine key _ hwf rfl rfl (hS' hbd) (fun i q=>.inl rfl) (fun i hi=>rfl) (fun i hi => ?_);show (if i=b then true else m.bd i)=true;by_cases e:i=b
  ·rw [if_pos e]
  rw [if_neg e];exact hi
 rw [e] at hwf ⊢;refine key _ hwf rfl rfl (hS' hbd) (fun i q => ?_) (fun i hi=>if_neg hi) (fun i hi=>hi);show (if i=b∧q<k then [] else m.pg i q)=m.pg i q∨(i=b∧(if i=b∧q<k then [] else m.pg i q)=[]);by_cases e:i=b∧q<k
 ·rw [if_pos e];exact .inr ⟨e.1,rfl⟩
 rw [if_neg e];exact .inl rfl
structure LS where
 left:List (List UInt8)
 m:M
 Q:Nat→Bool
 b:Nat
 p:Nat
 S:Nat→Bool
def LS.prog (s:LS):LS:=
 ⟨(progL s.b s.left s.m s.p s.S).1,(progL s.b s.left s.m s.p s.S).2.1,s.Q,s.b,(progL s.b s.left s.m s.p s.S).2.2.1,(progL s.b s.left s.m s.p s.S).2.2.2⟩
def LS.opn (K:Nat→Bool) (s:LS):LS:=⟨s.left,(openF s.m K s.Q s.b).2.1,(openF s.m K s.Q s.b).2.2.1,(s.b+1)%s.m.nb,(openF s.m K s.Q s.b).2.2.2,s.S⟩
def lay1 (K:Nat→Bool) (s:LS):LS:=if (openF s.m K s.Q s.b).1 then (s.opn K).prog else s.opn K
def layN (K:Nat→Bool):Nat→LS→LS
 | 0,s=>s
 | k+1,s=>if s.left=[]∨s.m.life=0 then s else layN K k (lay1 K s)
def lay0 (s:LS):LS:=if s.left.length+s.p≤s.m.np then s.prog else s
def layF (K:Nat→Bool) (s:LS):LS:=layN K s.m.nb (lay0 s)
theorem qdv (K:Nat→Bool) {s:LS} (h:s.left=[]∨s.m.life=0):∀ k,layN K k s=s
 | 0=>rfl
 | k+1=>by rw [layN,if_pos h]
theorem qax (b:Nat):∀ (l:List (List UInt8)) (m:M) (p:Nat) (S:Nat→Bool),(progL b l m p S).2.1.nb=m.nb∧(progL b l m p S).2.1.np=m.np∧(progL b l m p S).1.length≤l.length∧(p≤m.np→(progL b l m p S).2.2.1≤m.np)
 | [],m,p,S=>⟨rfl,rfl,Nat.le_refl _,fun h=>h⟩
 | x :: xs,m,p,S=>by
   rw [progL]
   split
   ·rename_i hp
    split
    ·obtain ⟨h1,h2,h3,h4⟩:=qax b xs (progA m (b:Nat) (p:Nat) x).2 (p+1) (fun j=>j==b||S j);rw [qhh] at h1;rw [qcS] at h2 h4;exact ⟨h1,h2,by simp;omega,fun _=>h4 (by omega)⟩
    exact ⟨qhh _ _ _ _,qcS _ _ _ _,Nat.le_refl _,fun _=>Nat.le_refl _⟩
   exact ⟨rfl,rfl,Nat.le_refl _,fun h=>h⟩
theorem qbb (b:Nat):∀ (l:List (List UInt8)) (m:M) (p:Nat) (S:Nat→Bool),WF m→WF (progL b l m p S).2.1
 | [],m,p,S,h=>h
 | x :: xs,m,p,S,h=>by
   rw [progL]
   split
   ·split
    ·exact qbb b xs _ _ _ (qaY h _ _ _)
    exact qaY h _ _ _
   exact h
theorem qaQ (m:M) (K Q:Nat→Bool) (b:Nat):(openF m K Q b).2.1.nb=m.nb∧(openF m K Q b).2.1.np=m.np∧(openF m K Q b).2.2.2≤m.np:=by
 unfold openF
 repeat' split
 all_goals simp [qkN,qln]
theorem qbL {m:M} (h:WF m) (K Q:Nat→Bool) (b:Nat):WF (openF m K Q b).2.1:=by
 unfold openF
 repeat' split
 all_goals first | exact h | exact qeM h _
theorem LayI.progL {m0:M} {K:Nat→Bool} {xs:List (List UInt8)} (b:Nat):∀ (l:List (List UInt8)) (m:M) (p:Nat) (S:Nat→Bool) (ps:List (Nat × Nat)),LayI m0 K xs m S ps l →
 ∃ ps',LayI m0 K xs (progL b l m p S).2.1 (progL b l m p S).2.2.2 ps' (progL b l m p S).1∧(∀ i,(progL b l m p S).2.2.2 i=true→i=b∨S i=true)
 | [],m,p,S,ps,h=>⟨ps,h,fun i hi=>.inr hi⟩
 | x :: xs',m,p,S,ps,h=>by
   rw [S1.progL]
   split
   ·split
    ·rename_i hr;obtain ⟨ps',h1,h2⟩:=LayI.progL b xs' _ (p+1) _ _ (h.prog b p hr);refine ⟨ps',h1,fun i hi => ?_⟩;rcases h2 i hi with e | e
     ·exact .inl e
     simp only [Bool.or_eq_true,beq_iff_eq] at e;exact e
    rename_i hr;exact ⟨ps,h.torn b p (by simpa using hr),fun i hi=>.inr hi⟩
   exact ⟨ps,h,fun i hi=>.inr hi⟩
structure LayV (m0:M) (K:Nat→Bool) (xs:List (List UInt8)) (b0 v:Nat) (s:LS) (ps:List (Nat × Nat)):Prop where
 lay:LayI m0 K xs s.m s.S ps s.left
 b:s.b=(b0+v)%m0.nb
 seen:∀ i,s.S i=true→(∃ u,1≤u∧u≤v∧i=(b0+u)%m0.nb)∨(i=b0∧(s.left=[]∨s.m.life=0∨s.m.bd b0=true))
 p:s.p≤m0.np
theorem qju {m0:M} {K:Nat→Bool} {xs:List (List UInt8)} {m:M} {S:Nat→Bool} {ps:List (Nat × Nat)} {l:List (List UInt8)} (h:LayI m0 K xs m S ps l) (Q:Nat→Bool) (b:Nat) (hS:S ((b+1)%m.nb)=false∨m.bd ((b+1)%m.nb)=true) :
 LayI m0 K xs (openF m K Q b).2.1 S ps l:=by
 unfold openF
 split
 ·exact h
 rename_i hK
 split
 ·exact h
 split
 ·exact h.era _ (by simpa using hK) hS
 exact h.era _ (by simpa using hK) hS
theorem qlx {m:M} {b:Nat} (i:Nat) (h:m.bd i=true):(eraA m (b:Nat)).2.bd i=true:=by
 rcases qa1 m b with ⟨_,_,_,_,e⟩ | ⟨_,⟨e,_⟩ | ⟨e,_⟩ | ⟨_,_,⟨e,_⟩ | ⟨⟨k,e⟩,_⟩⟩⟩
 all_goals rw [e]
 ·exact h
 ·exact h
 ·exact h
 ·show (if i=b then true else m.bd i)=true;by_cases e:i=b
  ·rw [if_pos e]
  rw [if_neg e];exact h
 exact h
theorem qfg {m:M} (K Q:Nat→Bool) (b i:Nat) (h:m.bd i=true):(openF m K Q b).2.1.bd i=true:=by
 unfold openF
 repeat' split
 all_goals first | exact h | exact qlx i h
theorem qfC {m:M} (hw:WF m) {b p:Nat} {x:List UInt8} (i:Nat) (h:m.bd i=true):(progA m (b:Nat) (p:Nat) x).2.bd i=true:=by
 rcases qaD m b p x hw with ⟨_,_,_,_,_,_,_,e⟩ | ⟨_,e | ⟨e,_⟩ | ⟨_,_,_,_,_,c,_,⟨e,_⟩ | ⟨e,_⟩⟩⟩
 all_goals rw [e]
 ·exact h
 ·exact h
 ·exact h
 ·exact h
 show (if i=b then true else m.bd i)=true;by_cases e:i=b
 ·rw [if_pos e]
 rw [if_neg e];exact h
theorem qfE (b i:Nat):∀ (l:List (List UInt8)) (m:M) (p:Nat) (S:Nat→Bool),WF m→m.bd i=true→(progL b l m p S).2.1.bd i=true
 | [],m,p,S,_,h=>h
 | x :: xs,m,p,S,hw,h=>by
   rw [progL]
   split
   ·split
    ·exact qfE b i xs _ _ _ (qaY hw _ _ _) (qfC hw i h)
    exact qfC hw i h
   exact h
theorem qoE {a u v n:Nat} (h1:1≤u) (h2:u≤v) (h3:v+1≤n):(a+v+1)%n≠(a+u)%n:=by
 intro e;have h:=Nat.sub_mod_eq_zero_of_mod_eq e;rw [show a+v+1 - (a+u)=v+1 - u by omega,Nat.mod_eq_of_lt (by omega)] at h;omega
theorem LayV.round {m0:M} {K:Nat→Bool} {xs:List (List UInt8)} {b0 v:Nat} {s:LS} {ps:List (Nat × Nat)} (h:LayV m0 K xs b0 v s ps) (hb0:b0<m0.nb) (hv:v<m0.nb) (hl:s.left≠[]) (hd:s.m.life≠0):∃ ps',LayV m0 K xs b0 (v+1) (lay1 K s) ps':=by
 have hnb:=h.lay.nb;have hb1:(s.b+1)%s.m.nb=(b0+(v+1))%m0.nb:=by
  rw [hnb,h.b,Nat.add_mod,Nat.mod_mod,←Nat.add_mod,Nat.add_assoc]
 have hfree:s.S ((s.b+1)%s.m.nb)=false∨s.m.bd ((s.b+1)%s.m.nb)=true:=by
  cases hs:s.S ((s.b+1)%s.m.nb) with
  | false=>exact .inl rfl
  | true =>
    rcases h.seen _ hs with ⟨u,h1,h2,h3⟩ | ⟨h1,h2⟩
    ·rw [hb1] at h3;exact absurd h3 (by rw [←Nat.add_assoc];exact qoE h1 h2 (by omega))
    right
    rw [h1];rcases h2 with h2 | h2 | h2
    ·exact absurd h2 hl
    ·exact absurd h2 hd
    exact h2
 have hopen:=qju h.lay s.Q s.b hfree;obtain ⟨k1,k2,k3⟩:=qaQ s.m K s.Q s.b;unfold lay1
 split
 ·obtain ⟨ps',h1,h2⟩:=LayI.progL ((s.b+1)%s.m.nb) s.left (openF s.m K s.Q s.b).2.1 (openF s.m K s.Q s.b).2.2.2 s.S ps hopen;obtain ⟨_,q2,_,q4⟩:=qax ((s.b+1)%s.m.nb) s.left (openF s.m K s.Q s.b).2.1 (openF s.m K s.Q s.b).2.2.2 s.S;refine ⟨ps',h1,hb1,fun i hi => ?_,?_⟩
  ·rcases h2 i hi with e | e
   ·exact .inl ⟨v+1,by omega,Nat.le_refl _,e.trans hb1⟩
   rcases h.seen i e with ⟨u,a1,a2,a3⟩ | ⟨a1,a2⟩
   ·exact .inl ⟨u,a1,by omega,a3⟩
   refine .inr ⟨a1,.inr (.inr ?_)⟩
   have:s.m.bd b0=true:=by
    rcases a2 with a2 | a2 | a2
    ·exact absurd a2 hl
    ·exact absurd a2 hd
    exact a2
   exact qfE _ _ _ _ _ _ hopen.wf (qfg K s.Q s.b b0 this)
  show (S1.progL _ _ _ _ _).2.2.1≤m0.np
  have:=q4 (by rw [k2];exact k3)
  rw [k2,h.lay.np] at this;exact this
 refine ⟨ps,hopen,hb1,fun i hi => ?_,?_⟩
 ·rcases h.seen i hi with ⟨u,a1,a2,a3⟩ | ⟨a1,a2⟩
  ·exact .inl ⟨u,a1,by omega,a3⟩
  refine .inr ⟨a1,.inr (.inr ?_)⟩
  have:s.m.bd b0=true:=by
   rcases a2 with a2 | a2 | a2
   ·exact absurd a2 hl
   ·exact absurd a2 hd
   exact a2
  exact qfg K s.Q s.b b0 this
 show (openF s.m K s.Q s.b).2.2.2≤m0.np;rw [←h.lay.np];exact k3
theorem LayV.rounds {m0:M} {K:Nat→Bool} {xs:List (List UInt8)} {b0:Nat} (hb0:b0<m0.nb):∀ (k v:Nat) (s:LS) (ps:List (Nat × Nat)),LayV m0 K xs b0 v s ps→v+k≤m0.nb→∃ v' ps',v'≤m0.nb∧LayV m0 K xs b0 v' (layN K k s) ps'
 | 0,v,s,ps,h,hv=>⟨v,ps,by omega,h⟩
 | k+1,v,s,ps,h,hv=>by
   rw [layN]
   split
   ·exact ⟨v,ps,by omega,h⟩
   rename_i hc;obtain ⟨ps',h'⟩:=h.round hb0 (by omega) (fun e=>hc (.inl e)) (fun e=>hc (.inr e));exact LayV.rounds hb0 k (v+1) _ _ h' (by omega)
end Go.Proofs.YtodmdkhdbfbfgabGreatDoor.S1
