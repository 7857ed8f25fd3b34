/- Lemmas. -/
import Derived.Test.YtodmdkhdbfbfgaaGreatDoorM14
set_option linter.unusedVariables false
set_option linter.unusedSimpArgs false
set_option maxRecDepth 100000
set_option maxHeartbeats 8000000
namespace Go.Proofs.YtodmdkhdbfbfgaaGreatDoor.S1
open Go.RowKit Pk
theorem qaQ (m:M) (b p:Nat) (x:List UInt8) (hw:WF m) :
 ((progA m (b:Nat) (p:Nat) x).1=true∧b<m.nb∧m.bd b=false∧p=m.nx b∧p<m.np∧x.length=64∧m.life≠0∧(progA m (b:Nat) (p:Nat) x).2=setN (setP (tick m) b p x) b (p+1)) ∨
 ((progA m (b:Nat) (p:Nat) x).1=false∧((progA m (b:Nat) (p:Nat) x).2=m∨(progA m (b:Nat) (p:Nat) x).2=tick m∧m.life=0∨(b<m.nb∧m.bd b=false∧p=m.nx b∧p<m.np∧x.length=64∧∃ c,c<64∧((progA m (b:Nat) (p:Nat) x).2=setN (setP (tick m) b p (x.take c)) b (p+1)∧(tick m).life=0∨(progA m (b:Nat) (p:Nat) x).2=setN (setB (setP (tick m) b p (x.take c)) b true) b (p+1)∧0≤m.fail)))):=by
 unfold progA;by_cases hm:mayP m (b:Nat) (p:Nat) x
 ·rw [if_pos hm];obtain ⟨i,q,e1,e2,hi,hb,hq,hp,hl⟩:=qeu hm;have e1':i=b:=by omega
  have e2':q=p:=by omega
  subst e1' e2';simp only [Int.toNat_natCast];have c1:=hw.cut1;have c2:=hw.cut2;have p1:=hw.part1;have p2:=hw.part2;have hcut:m.cut.toNat<64:=by omega
  have hpart:m.part.toNat<64:=by omega
  unfold progF;rcases qaZ m.life m.fail with hk | hk | hk | hk
  ·rw [if_pos hk];refine .inl ⟨rfl,hi,hb,hq,hp,hl,?_,rfl⟩;intro h0;unfold callF at hk;rw [if_pos h0] at hk;simp at hk
  ·rw [if_neg (by rw [hk];decide),if_pos hk];refine .inr ⟨rfl,.inr (.inr ⟨hi,hb,hq,hp,hl,m.part.toNat,hpart,.inr ⟨rfl,?_⟩⟩)⟩;unfold callF at hk
   repeat' split at hk
   all_goals simp at hk
   all_goals omega
  ·rw [if_neg (by rw [hk];decide),if_neg (by rw [hk];decide),if_pos hk];refine .inr ⟨rfl,.inr (.inr ⟨hi,hb,hq,hp,hl,m.cut.toNat,hcut,.inl ⟨rfl,?_⟩⟩)⟩;unfold tick;show (callF m.life m.fail).2.1=0;unfold callF at hk ⊢
   repeat' split at hk
   all_goals simp at hk
   rename_i h0 h1;rw [if_neg h0,if_pos h1]
  rw [if_neg (by rw [hk];decide),if_neg (by rw [hk];decide),if_neg (by rw [hk];decide)];refine .inr ⟨rfl,.inr (.inl ⟨rfl,?_⟩)⟩;unfold callF at hk
  repeat' split at hk
  all_goals simp at hk
  all_goals assumption
 rw [if_neg hm];exact .inr ⟨rfl,.inl rfl⟩
theorem qaU (m:M) (b:Nat) :
 ((eraA m (b:Nat)).1=true∧b<m.nb∧m.bd b=false∧m.life≠0∧(eraA m (b:Nat)).2=setN (setE (tick m) b m.np) b 0) ∨
 ((eraA m (b:Nat)).1=false∧((eraA m (b:Nat)).2=m∧(m.nb≤b∨m.bd b=true)∨(eraA m (b:Nat)).2=tick m∧m.life=0∨(b<m.nb∧m.bd b=false∧((eraA m (b:Nat)).2=setB (tick m) b true∧0≤m.fail∨(∃ k,(eraA m (b:Nat)).2=setN (setE (tick m) b k) b m.np)∧(tick m).life=0)))):=by
 unfold eraA;by_cases hm:badB m (b:Nat)=false
 ·rw [if_pos hm];obtain ⟨i,e1,hi,hb⟩:=qeA hm;have e1':i=b:=by omega
  subst e1';simp only [Int.toNat_natCast];unfold eraF;rcases qaZ m.life m.fail with hk | hk | hk | hk
  ·rw [if_pos hk];refine .inl ⟨rfl,hi,hb,?_,rfl⟩;intro h0;unfold callF at hk;rw [if_pos h0] at hk;simp at hk
  ·rw [if_neg (by rw [hk];decide),if_pos hk];refine .inr ⟨rfl,.inr (.inr ⟨hi,hb,.inl ⟨rfl,?_⟩⟩)⟩;unfold callF at hk
   repeat' split at hk
   all_goals simp at hk
   all_goals omega
  ·rw [if_neg (by rw [hk];decide),if_neg (by rw [hk];decide),if_pos hk];refine .inr ⟨rfl,.inr (.inr ⟨hi,hb,.inr ⟨⟨_,rfl⟩,?_⟩⟩)⟩;unfold tick;show (callF m.life m.fail).2.1=0;unfold callF at hk ⊢
   repeat' split at hk
   all_goals simp at hk
   rename_i h0 h1;rw [if_neg h0,if_pos h1]
  rw [if_neg (by rw [hk];decide),if_neg (by rw [hk];decide),if_neg (by rw [hk];decide)];refine .inr ⟨rfl,.inr (.inl ⟨rfl,?_⟩)⟩;unfold callF at hk
  repeat' split at hk
  all_goals simp at hk
  all_goals assumption
 rw [if_neg hm];refine .inr ⟨rfl,.inl ⟨rfl,?_⟩⟩;have hm':badB m (b:Nat)=true:=by simpa using hm
 unfold badB hasB at hm';simp at hm';rcases hm' with h | h
 ·exact .inl (by omega)
 exact .inr h
structure LayI (m0:M) (K:Nat→Bool) (xs:List (List UInt8)) (m:M) (S:Nat→Bool) (ps:List (Nat × Nat)) (left:List (List UInt8)):Prop where
 wf:WF m
 nb:m.nb=m0.nb
 np:m.np=m0.np
 le:ps.length≤xs.length
 part:left=xs.drop ps.length
 posn:∀ (k i q:Nat),ps[k]? = some (i,q)→i<m.nb∧q<m.np∧q<m.nx i∧xs[k]? = some (m.pg i q)∧S i=true
 inS:∀ i,S i=true→∃ (k q:Nat),ps[k]? = some (i,q)
 nd:ps.Nodup
 page:∀ (i q:Nat),i<m.nb→q<m.np→(i,q)∈ps∨(∃ x,x∈xs∧∃ c:Nat,c<64∧m.pg i q=x.take c)∨m.pg i q=[]∨m.pg i q=m0.pg i q
 keptN:∀ i,K i=true→m0.nx i≤m.nx i
 kept:∀ i q,K i=true→q<m0.nx i→m.pg i q=m0.pg i q
 bad:∀ i,m0.bd i=true→m.bd i=true
theorem LayI.start {m:M} (h:WF m) (K:Nat→Bool) (xs:List (List UInt8)):LayI m K xs m (fun _=>false) [] xs:=
 ⟨h,rfl,rfl,Nat.zero_le _,by simp,by simp,by simp,by simp,fun i q _ _=>.inr (.inr (.inr rfl)),fun _ _=>Nat.le_refl _,fun _ _ _ _=>rfl,fun _ h=>h⟩
theorem LayI.x {m0:M} {K:Nat→Bool} {xs:List (List UInt8)} {m:M} {S:Nat→Bool} {ps:List (Nat × Nat)} {x:List UInt8} {l:List (List UInt8)} (h:LayI m0 K xs m S ps (x :: l)):xs[ps.length]? = some x∧l=xs.drop (ps.length+1)∧x∈xs:=by
 have e:=h.part;have h1:xs[ps.length]? = some x:=by
  have:=congrArg (fun l:List (List UInt8)=>l[0]?) e
  simpa using this.symm
 refine ⟨h1,?_,List.mem_of_getElem? h1⟩
 have:=congrArg List.tail e
 simpa using this
theorem LayI.new {m0:M} {K:Nat→Bool} {xs:List (List UInt8)} {m:M} {S:Nat→Bool} {ps:List (Nat × Nat)} {l:List (List UInt8)} (h:LayI m0 K xs m S ps l) (b:Nat):(b,m.nx b)∉ps:=by
 intro hm;obtain ⟨k,hk⟩:=List.getElem?_of_mem hm
 have:=(h.posn k b _ hk).2.2.1
 omega
theorem LayI.prog {m0:M} {K:Nat→Bool} {xs:List (List UInt8)} {m:M} {S:Nat→Bool} {ps:List (Nat × Nat)} {x:List UInt8} {l:List (List UInt8)} (h:LayI m0 K xs m S ps (x :: l)) (b p:Nat) (hr:(progA m (b:Nat) (p:Nat) x).1=true) :
 LayI m0 K xs (progA m (b:Nat) (p:Nat) x).2 (fun j=>j==b||S j) (ps++[(b,p)]) l:=by
 have hwf:=qaT h.wf (b:Nat) (p:Nat) x;rcases qaQ m b p x h.wf with ⟨_,hb,hbd,hp,hpn,hx,hl,e⟩ | ⟨hf,_⟩
 ·rw [e] at hwf ⊢;obtain ⟨hx1,hx2,hx3⟩:=h.x;have hlen:ps.length<xs.length:=(List.getElem?_eq_some_iff.1 hx1).1;have hnew:=h.new b;rw [←hp] at hnew;refine ⟨hwf,h.nb,h.np,by simp;omega,by simp [hx2],?_,?_,?_,?_,?_,?_,h.bad⟩
  ·intro k i q hk;rw [List.getElem?_append] at hk
   split at hk
   ·rename_i hlt;obtain ⟨a1,a2,a3,a4,a5⟩:=h.posn k i q hk;have hne:¬(i=b∧q=p):=fun he=>hnew (by rw [←he.1,←he.2];exact List.mem_of_getElem? hk)
    refine ⟨a1,a2,?_,?_,by simp [a5]⟩
    ·show q<if i=b then p+1 else m.nx i;by_cases e:i=b
     ·subst e;rw [if_pos rfl];omega
     rw [if_neg e];exact a3
    show xs[k]? = some (if i=b∧q=p then x else m.pg i q);rw [if_neg hne];exact a4
   rename_i hge;have hk0:k - ps.length=0:=by
    rcases Nat.eq_zero_or_pos (k - ps.length) with h0 | h0
    ·exact h0
    rw [List.getElem?_eq_none (by simp;omega)] at hk;cases hk
   rw [hk0] at hk;simp at hk;obtain ⟨rfl,rfl⟩:=hk;have hkk:k=ps.length:=by omega
   refine ⟨hb,hpn,?_,?_,by simp⟩
   ·show p<if b=b then p+1 else m.nx b;rw [if_pos rfl];omega
   show xs[k]? = some (if b=b∧p=p then x else m.pg b p);rw [if_pos ⟨rfl,rfl⟩,hkk];exact hx1
  ·intro i hi;simp only [Bool.or_eq_true,beq_iff_eq] at hi;rcases hi with rfl | hi
   ·exact ⟨ps.length,p,by simp⟩
   obtain ⟨k,q,hk⟩:=h.inS i hi;exact ⟨k,q,by rw [List.getElem?_append_left (List.getElem?_eq_some_iff.1 hk).1];exact hk⟩
  ·rw [List.nodup_append];refine ⟨h.nd,by simp,fun a ha c hc => ?_⟩;simp at hc;subst hc;rintro rfl;exact hnew ha
  ·intro i q hi hq;by_cases e:i=b∧q=p
   ·left;rw [e.1,e.2];simp
   have:(setN (setP (tick m) b p x) b (p+1)).pg i q=m.pg i q:=if_neg e
   rw [this];rcases h.page i q hi hq with h1 | h1
   ·exact .inl (List.mem_append_left _ h1)
   exact .inr h1
  ·intro i hi
   have:=h.keptN i hi
   show m0.nx i≤if i=b then p+1 else m.nx i;by_cases e:i=b
   ·subst e;rw [if_pos rfl];omega
   rw [if_neg e];exact this
  intro i q hi hq;have h1:=h.keptN i hi;have h2:=h.kept i q hi hq;show (if i=b∧q=p then x else m.pg i q)=_;rw [if_neg (by rintro ⟨rfl,rfl⟩;omega)];exact h2
 rw [hr] at hf;cases hf
theorem LayI.torn {m0:M} {K:Nat→Bool} {xs:List (List UInt8)} {m:M} {S:Nat→Bool} {ps:List (Nat × Nat)} {x:List UInt8} {l:List (List UInt8)} (h:LayI m0 K xs m S ps (x :: l)) (b p:Nat) (hr:(progA m (b:Nat) (p:Nat) x).1=false) :
 LayI m0 K xs (progA m (b:Nat) (p:Nat) x).2 S ps (x :: l):=by
 have hwf:=qaT h.wf (b:Nat) (p:Nat) x;obtain ⟨hx1,hx2,hx3⟩:=h.x;have key:∀ (m':M),WF m'→m'.nb=m.nb→m'.np=m.np→p=m.nx b→(∀ i q,m'.pg i q=if i=b∧q=p then (m'.pg b p) else m.pg i q)→(∃ c,c<64∧m'.pg b p=x.take c)→(∀ i,m'.nx i=if i=b then p+1 else m.nx i)→(∀ i,m.bd i=true→m'.bd i=true)→LayI m0 K xs m' S ps (x :: l):=by
  intro m' w1 w2 w3 hp w4 w5 w6 w7;have hnew:=h.new b;rw [←hp] at hnew;refine ⟨w1,w2.trans h.nb,w3.trans h.np,h.le,h.part,?_,h.inS,h.nd,?_,?_,?_,fun i hi=>w7 i (h.bad i hi)⟩
  ·intro k i q hk;obtain ⟨a1,a2,a3,a4,a5⟩:=h.posn k i q hk;have hne:¬(i=b∧q=p):=fun he=>hnew (by rw [←he.1,←he.2];exact List.mem_of_getElem? hk)
   refine ⟨by rw [w2];exact a1,by rw [w3];exact a2,?_,by rw [w4,if_neg hne];exact a4,a5⟩;rw [w6];by_cases e:i=b
   ·subst e;rw [if_pos rfl];omega
   rw [if_neg e];exact a3
  ·intro i q hi hq;rw [w2] at hi;rw [w3] at hq;by_cases e:i=b∧q=p
   ·obtain ⟨rfl,rfl⟩:=e;obtain ⟨c,hc,he⟩:=w5;exact .inr (.inl ⟨x,hx3,c,hc,he⟩)
   rw [w4,if_neg e];exact h.page i q hi hq
  ·intro i hi
   have:=h.keptN i hi
   rw [w6];by_cases e:i=b
   ·subst e;rw [if_pos rfl];omega
   rw [if_neg e];exact this
  intro i q hi hq;have h1:=h.keptN i hi;have h2:=h.kept i q hi hq;rw [w4,if_neg (by rintro ⟨rfl,rfl⟩;omega)];exact h2
 rcases qaQ m b p x h.wf with ⟨ht,_⟩ | ⟨_,e | ⟨e,_⟩ | ⟨hb,hbd,hp,hpn,hx,c,hc,⟨e,_⟩ | ⟨e,_⟩⟩⟩
 ·rw [hr] at ht;cases ht
 ·rw [e];exact h
 ·rw [e] at hwf ⊢;exact ⟨hwf,h.nb,h.np,h.le,h.part,h.posn,h.inS,h.nd,h.page,h.keptN,h.kept,h.bad⟩
 ·rw [e] at hwf ⊢;refine key _ hwf rfl rfl hp (fun i q => ?_) ⟨c,hc,if_pos ⟨rfl,rfl⟩⟩ (fun i=>rfl) (fun i hi=>hi);show (if i=b∧q=p then x.take c else m.pg i q)=if i=b∧q=p then (if b=b∧p=p then x.take c else m.pg b p) else m.pg i q;rw [if_pos (⟨rfl,rfl⟩:b=b∧p=p)]
 rw [e] at hwf ⊢;refine key _ hwf rfl rfl hp (fun i q => ?_) ⟨c,hc,if_pos ⟨rfl,rfl⟩⟩ (fun i=>rfl) (fun i hi => ?_)
 ·show (if i=b∧q=p then x.take c else m.pg i q)=if i=b∧q=p then (if b=b∧p=p then x.take c else m.pg b p) else m.pg i q;rw [if_pos (⟨rfl,rfl⟩:b=b∧p=p)]
 show (if i=b then true else m.bd i)=true;by_cases e:i=b
 ·rw [if_pos e]
 rw [if_neg e];exact hi
theorem LayI.era {m0:M} {K:Nat→Bool} {xs:List (List UInt8)} {m:M} {S:Nat→Bool} {ps:List (Nat × Nat)} {l:List (List UInt8)} (h:LayI m0 K xs m S ps l) (b:Nat) (hK:K b=false) (hS:S b=false∨m.bd b=true) :
 LayI m0 K xs (eraA m (b:Nat)).2 S ps l:=by
 have hwf:=qeE h.wf (b:Nat);have key:∀ (m':M),WF m'→m'.nb=m.nb→m'.np=m.np→S b=false→(∀ i q,m'.pg i q=m.pg i q∨(i=b∧m'.pg i q=[]))→(∀ i,i≠b→m'.nx i=m.nx i)→(∀ i,m.bd i=true→m'.bd i=true)→LayI m0 K xs m' S ps l:=by
  intro m' w1 w2 w3 hs w4 w6 w7;have hne:∀ {k i q:Nat},ps[k]? = some (i,q)→i≠b:=fun {k i q} hk he=>by
   have:=(h.posn k i q hk).2.2.2.2
   rw [he,hs] at this;cases this
  have hnk:∀ {i:Nat},K i=true→i≠b:=fun {i} hk he=>by rw [he,hK] at hk;cases hk
  have hpg:∀ {i q:Nat},i≠b→m'.pg i q=m.pg i q:=fun {i q} hi=>by
   rcases w4 i q with e | e
   ·exact e
   exact absurd e.1 hi
  refine ⟨w1,w2.trans h.nb,w3.trans h.np,h.le,h.part,?_,h.inS,h.nd,?_,?_,?_,fun i hi=>w7 i (h.bad i hi)⟩
  ·intro k i q hk;obtain ⟨a1,a2,a3,a4,a5⟩:=h.posn k i q hk;refine ⟨by rw [w2];exact a1,by rw [w3];exact a2,by rw [w6 i (hne hk)];exact a3,by rw [hpg (hne hk)];exact a4,a5⟩
  ·intro i q hi hq;rw [w2] at hi;rw [w3] at hq;rcases w4 i q with e | e
   ·rw [e];exact h.page i q hi hq
   exact .inr (.inr (.inl e.2))
  ·intro i hi;rw [w6 i (hnk hi)];exact h.keptN i hi
  intro i q hi hq;rw [hpg (hnk hi)];exact h.kept i q hi hq
 have hS':m.bd b=false→S b=false:=fun hb=>hS.resolve_right (by rw [hb];decide)
 rcases qaU m b with ⟨_,hb,hbd,_,e⟩ | ⟨_,⟨e,_⟩ | ⟨e,_⟩ | ⟨hb,hbd,⟨e,_⟩ | ⟨⟨k,e⟩,_⟩⟩⟩
 ·rw [e] at hwf ⊢;refine key _ hwf rfl rfl (hS' hbd) (fun i q => ?_) (fun i hi=>if_neg hi) (fun i hi=>hi);show (if i=b∧q<m.np then [] else m.pg i q)=m.pg i q∨(i=b∧(if i=b∧q<m.np then [] else m.pg i q)=[]);by_cases e:i=b∧q<m.np
  ·rw [if_pos e];exact .inr ⟨e.1,rfl⟩
  rw [if_neg e];exact .inl rfl
 ·rw [e];exact h
 ·rw [e] at hwf ⊢;exact ⟨hwf,h.nb,h.np,h.le,h.part,h.posn,h.inS,h.nd,h.page,h.keptN,h.kept,h.bad⟩
 ·rw [e] at hwf ⊢;refine key _ hwf rfl rfl (hS' hbd) (fun i q=>.inl rfl) (fun i hi=>rfl) (fun i hi => ?_);show (if i=b then true else m.bd i)=true;by_cases e:i=b
  ·rw [if_pos e]
  rw [if_neg e];exact hi
 rw [e] at hwf ⊢;refine key _ hwf rfl rfl (hS' hbd) (fun i q => ?_) (fun i hi=>if_neg hi) (fun i hi=>hi);show (if i=b∧q<k then [] else m.pg i q)=m.pg i q∨(i=b∧(if i=b∧q<k then [] else m.pg i q)=[]);by_cases e:i=b∧q<k
 ·rw [if_pos e];exact .inr ⟨e.1,rfl⟩
 rw [if_neg e];exact .inl rfl
structure LS where
 left:List (List UInt8)
 m:M
 Q:Nat→Bool
 b:Nat
 p:Nat
 S:Nat→Bool
def LS.prog (s:LS):LS:=
 ⟨(progL s.b s.left s.m s.p s.S).1,(progL s.b s.left s.m s.p s.S).2.1,s.Q,s.b,(progL s.b s.left s.m s.p s.S).2.2.1,(progL s.b s.left s.m s.p s.S).2.2.2⟩
def LS.opn (K:Nat→Bool) (s:LS):LS:=⟨s.left,(openF s.m K s.Q s.b).2.1,(openF s.m K s.Q s.b).2.2.1,(s.b+1)%s.m.nb,(openF s.m K s.Q s.b).2.2.2,s.S⟩
def lay1 (K:Nat→Bool) (s:LS):LS:=if (openF s.m K s.Q s.b).1 then (s.opn K).prog else s.opn K
def layN (K:Nat→Bool):Nat→LS→LS
 | 0,s=>s
 | k+1,s=>if s.left=[]∨s.m.life=0 then s else layN K k (lay1 K s)
def lay0 (s:LS):LS:=if s.left.length+s.p≤s.m.np then s.prog else s
def layF (K:Nat→Bool) (s:LS):LS:=layN K s.m.nb (lay0 s)
theorem qcZ (K:Nat→Bool) {s:LS} (h:s.left=[]∨s.m.life=0):∀ k,layN K k s=s
 | 0=>rfl
 | k+1=>by rw [layN,if_pos h]
theorem qaE (b:Nat):∀ (l:List (List UInt8)) (m:M) (p:Nat) (S:Nat→Bool),(progL b l m p S).2.1.nb=m.nb∧(progL b l m p S).2.1.np=m.np∧(progL b l m p S).1.length≤l.length∧(p≤m.np→(progL b l m p S).2.2.1≤m.np)
 | [],m,p,S=>⟨rfl,rfl,Nat.le_refl _,fun h=>h⟩
 | x :: xs,m,p,S=>by
   rw [progL]
   split
   ·rename_i hp
    split
    ·obtain ⟨h1,h2,h3,h4⟩:=qaE b xs (progA m (b:Nat) (p:Nat) x).2 (p+1) (fun j=>j==b||S j);rw [qg6] at h1;rw [qcG] at h2 h4;exact ⟨h1,h2,by simp;omega,fun _=>h4 (by omega)⟩
    exact ⟨qg6 _ _ _ _,qcG _ _ _ _,Nat.le_refl _,fun _=>Nat.le_refl _⟩
   exact ⟨rfl,rfl,Nat.le_refl _,fun h=>h⟩
theorem qcD (b:Nat):∀ (l:List (List UInt8)) (m:M) (p:Nat) (S:Nat→Bool),WF m→WF (progL b l m p S).2.1
 | [],m,p,S,h=>h
 | x :: xs,m,p,S,h=>by
   rw [progL]
   split
   ·split
    ·exact qcD b xs _ _ _ (qaT h _ _ _)
    exact qaT h _ _ _
   exact h
theorem qaO (m:M) (K Q:Nat→Bool) (b:Nat):(openF m K Q b).2.1.nb=m.nb∧(openF m K Q b).2.1.np=m.np∧(openF m K Q b).2.2.2≤m.np:=by
 unfold openF
 repeat' split
 all_goals simp [qjE,qje]
theorem qbT {m:M} (h:WF m) (K Q:Nat→Bool) (b:Nat):WF (openF m K Q b).2.1:=by
 unfold openF
 repeat' split
 all_goals first | exact h | exact qeE h _
theorem LayI.progL {m0:M} {K:Nat→Bool} {xs:List (List UInt8)} (b:Nat):∀ (l:List (List UInt8)) (m:M) (p:Nat) (S:Nat→Bool) (ps:List (Nat × Nat)),LayI m0 K xs m S ps l →
 ∃ ps',LayI m0 K xs (progL b l m p S).2.1 (progL b l m p S).2.2.2 ps' (progL b l m p S).1∧(∀ i,(progL b l m p S).2.2.2 i=true→i=b∨S i=true)
 | [],m,p,S,ps,h=>⟨ps,h,fun i hi=>.inr hi⟩
 | x :: xs',m,p,S,ps,h=>by
   rw [S1.progL]
   split
   ·split
    ·rename_i hr;obtain ⟨ps',h1,h2⟩:=LayI.progL b xs' _ (p+1) _ _ (h.prog b p hr);refine ⟨ps',h1,fun i hi => ?_⟩;rcases h2 i hi with e | e
     ·exact .inl e
     simp only [Bool.or_eq_true,beq_iff_eq] at e;exact e
    rename_i hr;exact ⟨ps,h.torn b p (by simpa using hr),fun i hi=>.inr hi⟩
   exact ⟨ps,h,fun i hi=>.inr hi⟩
structure LayV (m0:M) (K:Nat→Bool) (xs:List (List UInt8)) (b0 v:Nat) (s:LS) (ps:List (Nat × Nat)):Prop where
 lay:LayI m0 K xs s.m s.S ps s.left
 b:s.b=(b0+v)%m0.nb
 seen:∀ i,s.S i=true→(∃ u,1≤u∧u≤v∧i=(b0+u)%m0.nb)∨(i=b0∧(s.left=[]∨s.m.life=0∨s.m.bd b0=true))
 p:s.p≤m0.np
theorem qiB {m0:M} {K:Nat→Bool} {xs:List (List UInt8)} {m:M} {S:Nat→Bool} {ps:List (Nat × Nat)} {l:List (List UInt8)} (h:LayI m0 K xs m S ps l) (Q:Nat→Bool) (b:Nat) (hS:S ((b+1)%m.nb)=false∨m.bd ((b+1)%m.nb)=true) :
 LayI m0 K xs (openF m K Q b).2.1 S ps l:=by
 unfold openF
 split
 ·exact h
 rename_i hK
 split
 ·exact h
 split
 ·exact h.era _ (by simpa using hK) hS
 exact h.era _ (by simpa using hK) hS
theorem qkI {m:M} {b:Nat} (i:Nat) (h:m.bd i=true):(eraA m (b:Nat)).2.bd i=true:=by
 rcases qaU m b with ⟨_,_,_,_,e⟩ | ⟨_,⟨e,_⟩ | ⟨e,_⟩ | ⟨_,_,⟨e,_⟩ | ⟨⟨k,e⟩,_⟩⟩⟩
 all_goals rw [e]
 ·exact h
 ·exact h
 ·exact h
 ·show (if i=b then true else m.bd i)=true;by_cases e:i=b
  ·rw [if_pos e]
  rw [if_neg e];exact h
 exact h
theorem qeT {m:M} (K Q:Nat→Bool) (b i:Nat) (h:m.bd i=true):(openF m K Q b).2.1.bd i=true:=by
 unfold openF
 repeat' split
 all_goals first | exact h | exact qkI i h
theorem qfx {m:M} (hw:WF m) {b p:Nat} {x:List UInt8} (i:Nat) (h:m.bd i=true):(progA m (b:Nat) (p:Nat) x).2.bd i=true:=by
 rcases qaQ m b p x hw with ⟨_,_,_,_,_,_,_,e⟩ | ⟨_,e | ⟨e,_⟩ | ⟨_,_,_,_,_,c,_,⟨e,_⟩ | ⟨e,_⟩⟩⟩
 all_goals rw [e]
 ·exact h
 ·exact h
 ·exact h
 ·exact h
 show (if i=b then true else m.bd i)=true;by_cases e:i=b
 ·rw [if_pos e]
 rw [if_neg e];exact h
theorem qeY (b i:Nat):∀ (l:List (List UInt8)) (m:M) (p:Nat) (S:Nat→Bool),WF m→m.bd i=true→(progL b l m p S).2.1.bd i=true
 | [],m,p,S,_,h=>h
 | x :: xs,m,p,S,hw,h=>by
   rw [progL]
   split
   ·split
    ·exact qeY b i xs _ _ _ (qaT hw _ _ _) (qfx hw i h)
    exact qfx hw i h
   exact h
theorem qnq {a u v n:Nat} (h1:1≤u) (h2:u≤v) (h3:v+1≤n):(a+v+1)%n≠(a+u)%n:=by
 intro e;have h:=Nat.sub_mod_eq_zero_of_mod_eq e;rw [show a+v+1 - (a+u)=v+1 - u by omega,Nat.mod_eq_of_lt (by omega)] at h;omega
theorem LayV.round {m0:M} {K:Nat→Bool} {xs:List (List UInt8)} {b0 v:Nat} {s:LS} {ps:List (Nat × Nat)} (h:LayV m0 K xs b0 v s ps) (hb0:b0<m0.nb) (hv:v<m0.nb) (hl:s.left≠[]) (hd:s.m.life≠0):∃ ps',LayV m0 K xs b0 (v+1) (lay1 K s) ps':=by
 have hnb:=h.lay.nb;have hb1:(s.b+1)%s.m.nb=(b0+(v+1))%m0.nb:=by
  rw [hnb,h.b,Nat.add_mod,Nat.mod_mod,←Nat.add_mod,Nat.add_assoc]
 have hfree:s.S ((s.b+1)%s.m.nb)=false∨s.m.bd ((s.b+1)%s.m.nb)=true:=by
  cases hs:s.S ((s.b+1)%s.m.nb) with
  | false=>exact .inl rfl
  | true =>
    rcases h.seen _ hs with ⟨u,h1,h2,h3⟩ | ⟨h1,h2⟩
    ·rw [hb1] at h3;exact absurd h3 (by rw [←Nat.add_assoc];exact qnq h1 h2 (by omega))
    right
    rw [h1];rcases h2 with h2 | h2 | h2
    ·exact absurd h2 hl
    ·exact absurd h2 hd
    exact h2
 have hopen:=qiB h.lay s.Q s.b hfree;obtain ⟨k1,k2,k3⟩:=qaO s.m K s.Q s.b;unfold lay1
 split
 ·obtain ⟨ps',h1,h2⟩:=LayI.progL ((s.b+1)%s.m.nb) s.left (openF s.m K s.Q s.b).2.1 (openF s.m K s.Q s.b).2.2.2 s.S ps hopen;obtain ⟨_,q2,_,q4⟩:=qaE ((s.b+1)%s.m.nb) s.left (openF s.m K s.Q s.b).2.1 (openF s.m K s.Q s.b).2.2.2 s.S;refine ⟨ps',h1,hb1,fun i hi => ?_,?_⟩
  ·rcases h2 i hi with e | e
   ·exact .inl ⟨v+1,by omega,Nat.le_refl _,e.trans hb1⟩
   rcases h.seen i e with ⟨u,a1,a2,a3⟩ | ⟨a1,a2⟩
   ·exact .inl ⟨u,a1,by omega,a3⟩
   refine .inr ⟨a1,.inr (.inr ?_)⟩
   have:s.m.bd b0=true:=by
    rcases a2 with a2 | a2 | a2
    ·exact absurd a2 hl
    ·exact absurd a2 hd
    exact a2
   exact qeY _ _ _ _ _ _ hopen.wf (qeT K s.Q s.b b0 this)
  show (S1.progL _ _ _ _ _).2.2.1≤m0.np
  have:=q4 (by rw [k2];exact k3)
  rw [k2,h.lay.np] at this;exact this
 refine ⟨ps,hopen,hb1,fun i hi => ?_,?_⟩
 ·rcases h.seen i hi with ⟨u,a1,a2,a3⟩ | ⟨a1,a2⟩
  ·exact .inl ⟨u,a1,by omega,a3⟩
  refine .inr ⟨a1,.inr (.inr ?_)⟩
  have:s.m.bd b0=true:=by
   rcases a2 with a2 | a2 | a2
   ·exact absurd a2 hl
   ·exact absurd a2 hd
   exact a2
  exact qeT K s.Q s.b b0 this
 show (openF s.m K s.Q s.b).2.2.2≤m0.np;rw [←h.lay.np];exact k3
theorem LayV.rounds {m0:M} {K:Nat→Bool} {xs:List (List UInt8)} {b0:Nat} (hb0:b0<m0.nb):∀ (k v:Nat) (s:LS) (ps:List (Nat × Nat)),LayV m0 K xs b0 v s ps→v+k≤m0.nb→∃ v' ps',v'≤m0.nb∧LayV m0 K xs b0 v' (layN K k s) ps'
 | 0,v,s,ps,h,hv=>⟨v,ps,by omega,h⟩
 | k+1,v,s,ps,h,hv=>by
   rw [layN]
   split
   ·exact ⟨v,ps,by omega,h⟩
   rename_i hc;obtain ⟨ps',h'⟩:=h.round hb0 (by omega) (fun e=>hc (.inl e)) (fun e=>hc (.inr e));exact LayV.rounds hb0 k (v+1) _ _ h' (by omega)
theorem qiZ (K:Nat→Bool) (s:LS):(lay1 K s).m.nb=s.m.nb∧(lay1 K s).m.np=s.m.np∧(lay1 K s).left.length≤s.left.length∧(lay1 K s).p≤s.m.np∧(lay1 K s).b=(s.b+1)%s.m.nb:=by
 obtain ⟨k1,k2,k3⟩:=qaO s.m K s.Q s.b;unfold lay1
 split
 ·obtain ⟨q1,q2,q3,q4⟩:=qaE ((s.b+1)%s.m.nb) s.left (openF s.m K s.Q s.b).2.1 (openF s.m K s.Q s.b).2.2.2 s.S;exact ⟨q1.trans k1,q2.trans k2,q3,by have:=q4 (by rw [k2];exact k3);rw [k2] at this;exact this,rfl⟩
 exact ⟨k1,k2,Nat.le_refl _,k3,rfl⟩
theorem qiV (s:LS):s.prog.m.nb=s.m.nb∧s.prog.m.np=s.m.np∧s.prog.left.length≤s.left.length∧(s.p≤s.m.np→s.prog.p≤s.m.np):=qaE s.b s.left s.m s.p s.S
theorem qei (b:Nat):∀ (l:List (List UInt8)) (m:M) (p:Nat) (S:Nat→Bool),∀ x∈(progL b l m p S).1,x∈l
 | [],m,p,S,x,h=>h
 | y :: ys,m,p,S,x,h=>by
   rw [progL] at h
   split at h
   ·split at h
    ·exact List.mem_cons_of_mem _ (qei b ys _ _ _ x h)
    exact h
   exact h
def qfX (w:World) (lo hi cb lb:Nat) (L:Loc) (lv:Lv) (kv qv:Option Nat) (nk nq:Nat) (K:Nat→Bool) (ib ni:Nat) (s t:LS) (e:Ending) (w':World):Prop:=
 e=.returned (.bool t.left.isEmpty)∧LogM w' lo hi cb lb L lv kv qv nk nq t.m K t.Q t.b t.p∧BlAt w' ib (ni+40*s.left.length) t.S∧Fm (fun k=>LogS lo hi lb kv qv k∨k=ib) w w'
theorem qmV (w:World) (lo hi cb lb:Nat) (L:Loc) (lv:Lv) (kv qv:Option Nat) (nk nq:Nat) (K:Nat→Bool) (s:LS) (ib ni g o c:Nat)
 (h:LogM w lo hi cb lb L lv kv qv nk nq s.m K s.Q s.b s.p) (hb:s.b<1000) (hp:s.p≤s.m.np) (hS:BlAt w ib ni s.S) (hni:ni+40*s.left.length≤900000) (ha:Aside lo hi lb kv qv ib g) (ht:Txts w g o s.left) (hlen:∀ x∈s.left,x.length≤64) (hlc:s.left.length≤c) (hc:c≤20000) :
 Calls Tryz.prog 128 #[.pointer (some ⟨lb,0,none⟩),.slice (some ⟨g,o,none⟩) s.left.length c,.map (some ib)] w fun e w'=>qfX w lo hi cb lb L lv kv qv nk nq K ib ni s (layF K s) e w':=by
 have hnp16:=h.wf.np2;have hnb32:=h.wf.nb2;have hnb4:=h.wf.nb1;have HPg:=hidI (fun (V:World) (m':M) (hV:CP V lo hi cb L m')=>pages_any V lo hi cb L m' hV);have HBk:=hidI (fun (V:World) (m':M) (hV:CP V lo hi cb L m')=>qaP V lo hi cb L m' hV);have HDd:=hidI (fun (V:World) (m':M) (hV:CP V lo hi cb L m')=>dead_any V lo hi cb L m' hV);have HOp:=hidI (fun (V:World) (s':LS) (hV:LogM V lo hi cb lb L lv kv qv nk nq s'.m K s'.Q s'.b s'.p) (hb':s'.b<1000000)=>qkT V lo hi cb lb L lv kv qv nk nq s'.m K s'.Q s'.b s'.p hV hb')
 have HPr:=hidI (fun (V:World) (s':LS) (n' o' c':Nat) (hV:LogM V lo hi cb lb L lv kv qv nk nq s'.m K s'.Q s'.b s'.p) (h1:s'.b<1000000) (h2:s'.p<1000000) (h3:BlAt V ib n' s'.S) (h4:n'+s'.left.length≤1000000) (h5:Txts V g o' s'.left) (h6:∀ x∈s'.left,x.length≤64) (h7:s'.left.length≤c') (h8:c'≤1000000)=>qgs V lo hi cb lb L lv kv qv nk nq s'.m K s'.Q s'.b s'.p ib n' g o' c' s'.S s'.left hV h1 h2 h3 h4 ha h5 h6 h7 h8);obtain ⟨n,hn⟩:∃ n,n=s.left.length:=⟨_,rfl⟩;obtain ⟨nb,hnb⟩:∃ nb,nb=s.m.nb:=⟨_,rfl⟩;obtain ⟨np,hnp⟩:∃ np,np=s.m.np:=⟨_,rfl⟩;have A0:=hidI (HPg.out w.drew s.m h.chip.drew);unfold qfX;rw [←hn] at hni hlc ⊢;rw [←hnp] at hp hnp16 A0;rw [←hnb] at hnb32 hnb4;have c0:=h.log.c0;have c5:=h.log.c5;have H0:=hidI h;have HS0:=hidI hS;have HT0:=hidI ht;have Hlen:=hidI hlen;have Hn:=hidI hn;have Hnb:=hidI hnb;have Hnp:=hidI hnp;obtain ⟨p0,hp0⟩:∃ p0,p0=s.p:=⟨_,rfl⟩;rw [←hp0] at hp c5
 have Hp0:=hidI hp0;clear h hS ht hlen hn hnb hnp hp0;have hwr:IntKind.i64.wrap ((np:Int) - (p0:Int))=(np:Int) - (p0:Int):=by rw [IntKind.wrap_i64];omega
 by_cases hfit:n+p0≤np
 focus
  have hfi:(n:Int)≤(np:Int) - (p0:Int):=by omega
  have Hst:Hid (layF K s=layN K nb s.prog):=hidI (by unfold layF lay0;rw [if_pos (by rw [←Hn.out,←Hp0.out,←Hnp.out];exact hfit),←Hnb.out]);obtain ⟨j1,j2,j3,j4⟩:=qiV s;have HJ1:=hidI (j1.trans Hnb.out.symm);have HJ2:=hidI (j2.trans Hnp.out.symm);have hJ3:s.prog.left.length≤n:=by rw [Hn.out];exact j3
  have hJ4:s.prog.p≤16:=by have:=j4 (by rw [←Hp0.out,←Hnp.out];exact hp);rw [←Hnp.out] at this;omega
  have hJ5:s.prog.b<1000:=hb;have B4:=hidI (HPr.out w.drew s ni o c H0.out.drew (by omega) (by rw [←Hp0.out];omega) (HS0.out.of_block rfl) (by rw [←Hn.out];omega) (HT0.out.of_block rfl) Hlen.out (by rw [←Hn.out];omega) (by omega));rw [←Hn.out] at B4;clear j1 j2 j3 j4;go_enter Tryz.func128,Tryz.ntmps128
  go_wp2_with fail;have c0d:w.drew.cell? ⟨lb,0,none⟩=some (.pointer (some ⟨cb,0,none⟩)):=c0;have c5d:w.drew.cell? ⟨lb,7,none⟩=some (.int .i64 (p0:Nat)):=c5;refine wp_region_held_drew (S:=fun V=>V.cell? ⟨lb,0,none⟩=some (.pointer (some ⟨cb,0,none⟩))∧V.cell? ⟨lb,7,none⟩=some (.int .i64 (p0:Nat))) (by kernel_rfl) ⟨c0d,c5d⟩ (fun hHeld => ?_);refine tk 0 ⟨some 8,.move (.tmp 1),_,_,_,none⟩ (.slice (some ⟨g,o,none⟩) n c) rfl (fun w h=>by go_simp) hHeld ?_;simp only [zP,List.set];refine tk 1 ⟨some 9,.call { callee:=Callee.builtin Builtin.len,args:=#[.tmp 8],argTypes:=#[40] },_,_,_,none⟩ (.int .i64 (n:Nat)) rfl (fun w h=>by go_simp) hHeld ?_;simp only [zP,List.set]
  refine tk 2 ⟨some 10,.move (.tmp 0),_,_,_,none⟩ (.pointer (some ⟨lb,0,none⟩)) rfl (fun w h=>by go_simp) hHeld ?_;simp only [zP,List.set];refine tk 3 ⟨some 11,.nilCheck (.tmp 10),_,_,_,none⟩ (.pointer (some ⟨lb,0,none⟩)) rfl (fun w h=>by go_simp) hHeld ?_;simp only [zP,List.set];refine tk 4 ⟨some 12,.fieldAddr 132 (.tmp 11) 0,_,_,_,none⟩ (.pointer (some ⟨lb,0,none⟩)) rfl (fun w h=>by go_simp) hHeld ?_;simp only [zP,List.set];refine tk 5 ⟨some 13,.load 28 (.tmp 12),_,_,_,none⟩ (.pointer (some ⟨cb,0,none⟩)) rfl (fun w h=>by go_simp) hHeld ?_;simp only [zP,List.set]
  refine tk 7 ⟨some 15,.move (.tmp 0),_,_,_,none⟩ (.pointer (some ⟨lb,0,none⟩)) rfl (fun w h=>by go_simp) hHeld ?_;simp only [zP,List.set];refine tk 8 ⟨some 16,.nilCheck (.tmp 15),_,_,_,none⟩ (.pointer (some ⟨lb,0,none⟩)) rfl (fun w h=>by go_simp) hHeld ?_;simp only [zP,List.set];refine tk 9 ⟨some 17,.fieldAddr 132 (.tmp 16) 6,_,_,_,none⟩ (.pointer (some ⟨lb,7,none⟩)) rfl (fun w h=>by go_simp) hHeld ?_;simp only [zP,List.set];refine tk 10 ⟨some 18,.load 3 (.tmp 17),_,_,_,none⟩ (.int .i64 (p0:Nat)) rfl (fun w h=>by go_simp) hHeld ?_;simp only [zP,List.set]
  refine rd 6 rfl (fun K hK => ?_);go_simp;refine A0.out.mono ?_;rintro e w' ⟨rfl,hw⟩;have hw':=hw.symm;subst hw';clear hw;refine hK.out _ _ ⟨c0d,c5d⟩ (fun hHeld => ?_);clear hK K;refine tk 11 ⟨some 19,.binOp .sub 3 (.tmp 14) (.tmp 18) 3,_,_,_,none⟩ (.int .i64 ((np:Int) - (p0:Int))) rfl (fun w h=>by go_simp) hHeld ?_;simp only [zP,List.set];refine tk 12 ⟨some 20,.binOp .leq 3 (.tmp 9) (.tmp 19) 3,_,_,_,none⟩ (.bool true) rfl (fun w h=>by go_simp) hHeld ?_;simp only [zP,List.set];refine wpAnyH_done (by kernel_rfl) ?_ _;clear hHeld;go_wp2_with fail;refine B4.out.mono ?_;rintro e W3 ⟨o3,c3,rfl,hc3,hcc3,hT3,hL3,hS3,hF3⟩
  have HN3:Hid ((progL s.b s.left s.m s.p s.S).1.length=s.prog.left.length):=hidI rfl;rw [HN3.out] at hc3 ⊢;have HT3:Hid (Txts W3 g o3 s.prog.left):=hidI hT3;have HL3:Hid (LogM W3 lo hi cb lb L lv kv qv nk nq s.prog.m K s.prog.Q s.prog.b s.prog.p):=hidI hL3;have HS3:Hid (BlAt W3 ib (ni+n) s.prog.S):=hidI (by rw [Hn.out];exact hS3);have HF3:Hid (Fm (fun k=>LogS lo hi lb kv qv k∨k=ib) w W3):=hidI ((Fm.refl _ w).drew.trans hF3);have Hlen3:Hid (∀ x∈s.prog.left,x.length≤64):=hidI (fun x hx=>Hlen.out x (qei _ _ _ _ _ x hx));obtain ⟨n3,hn3⟩:∃ n3,n3=s.prog.left.length:=⟨_,rfl⟩;rw [←hn3] at hJ3 hc3 ⊢;have Hn3:=hidI hn3;clear hT3 hL3 hS3 hF3 B4 H0 HS0 HT0 hn3 c0 c5 c0d c5d A0 Hlen;go_wp2_with fail
  go_loopw [1,7] (fun v i wr=>∃ (k:Nat) (t:LS) (n' o' c' ni':Nat),k≤nb∧i=.int .i64 k∧v=.slice (some ⟨g,o',none⟩) n' c'∧n'≤c'∧c'≤20000∧n'≤n∧ni'+0≤ni+(k+1)*n∧t.b<1000∧t.p≤16∧Hid (n'=t.left.length)∧Hid (t.m.nb=nb)∧Hid (t.m.np=np)∧Hid (∀ x∈t.left,x.length≤64)∧Hid (layF K s=layN K (nb - k) t)∧Hid (LogM wr lo hi cb lb L lv kv qv nk nq t.m K t.Q t.b t.p)∧Hid (BlAt wr ib ni' t.S)∧Hid (Txts wr g o' t.left)∧Hid (Fm (fun k=>LogS lo hi lb kv qv k∨k=ib) w wr)) (fun _ i _=>nb - (intOf i).toNat)
  case atStart=>exact ⟨0,s.prog,n3,o3,c3,ni+n,Nat.zero_le _,rfl,rfl,hc3,by omega,hJ3,by omega,hJ5,hJ4,Hn3,HJ1,HJ2,Hlen3,hidI (by rw [Nat.sub_zero];exact Hst.out),HL3,HS3,HT3,HF3⟩
  clear HT3 HL3 HS3 HF3 Hlen3 Hn3 HJ1 HJ2 Hst HN3
 rotate_left
 focus
  have hfi:¬(n:Int)≤(np:Int) - (p0:Int):=by omega
  have hfi':(np:Int) - (p0:Int)<(n:Int):=by omega
  have Hst:Hid (layF K s=layN K nb s):=hidI (by unfold layF lay0;rw [if_neg (by rw [←Hn.out,←Hp0.out,←Hnp.out];exact hfit),←Hnb.out]);have HL3:Hid (LogM w.drew lo hi cb lb L lv kv qv nk nq s.m K s.Q s.b s.p):=hidI H0.out.drew;have HS3:Hid (BlAt w.drew ib ni s.S):=hidI (HS0.out.of_block rfl);have HT3:Hid (Txts w.drew g o s.left):=hidI (HT0.out.of_block rfl);have HF3:Hid (Fm (fun k=>LogS lo hi lb kv qv k∨k=ib) w w.drew):=hidI (Fm.refl _ w).drew;have HJ1:Hid (s.m.nb=nb):=hidI Hnb.out.symm;have HJ2:Hid (s.m.np=np):=hidI Hnp.out.symm;have hsp:s.p≤16:=by rw [←Hp0.out];omega
  go_enter Tryz.func128,Tryz.ntmps128
  go_wp2_with fail;have c0d:w.drew.cell? ⟨lb,0,none⟩=some (.pointer (some ⟨cb,0,none⟩)):=c0;have c5d:w.drew.cell? ⟨lb,7,none⟩=some (.int .i64 (p0:Nat)):=c5;refine wp_region_held_drew (S:=fun V=>V.cell? ⟨lb,0,none⟩=some (.pointer (some ⟨cb,0,none⟩))∧V.cell? ⟨lb,7,none⟩=some (.int .i64 (p0:Nat))) (by kernel_rfl) ⟨c0d,c5d⟩ (fun hHeld => ?_);refine tk 0 ⟨some 8,.move (.tmp 1),_,_,_,none⟩ (.slice (some ⟨g,o,none⟩) n c) rfl (fun w h=>by go_simp) hHeld ?_;simp only [zP,List.set];refine tk 1 ⟨some 9,.call { callee:=Callee.builtin Builtin.len,args:=#[.tmp 8],argTypes:=#[40] },_,_,_,none⟩ (.int .i64 (n:Nat)) rfl (fun w h=>by go_simp) hHeld ?_;simp only [zP,List.set]
  refine tk 2 ⟨some 10,.move (.tmp 0),_,_,_,none⟩ (.pointer (some ⟨lb,0,none⟩)) rfl (fun w h=>by go_simp) hHeld ?_;simp only [zP,List.set];refine tk 3 ⟨some 11,.nilCheck (.tmp 10),_,_,_,none⟩ (.pointer (some ⟨lb,0,none⟩)) rfl (fun w h=>by go_simp) hHeld ?_;simp only [zP,List.set];refine tk 4 ⟨some 12,.fieldAddr 132 (.tmp 11) 0,_,_,_,none⟩ (.pointer (some ⟨lb,0,none⟩)) rfl (fun w h=>by go_simp) hHeld ?_;simp only [zP,List.set];refine tk 5 ⟨some 13,.load 28 (.tmp 12),_,_,_,none⟩ (.pointer (some ⟨cb,0,none⟩)) rfl (fun w h=>by go_simp) hHeld ?_;simp only [zP,List.set]
  refine tk 7 ⟨some 15,.move (.tmp 0),_,_,_,none⟩ (.pointer (some ⟨lb,0,none⟩)) rfl (fun w h=>by go_simp) hHeld ?_;simp only [zP,List.set];refine tk 8 ⟨some 16,.nilCheck (.tmp 15),_,_,_,none⟩ (.pointer (some ⟨lb,0,none⟩)) rfl (fun w h=>by go_simp) hHeld ?_;simp only [zP,List.set];refine tk 9 ⟨some 17,.fieldAddr 132 (.tmp 16) 6,_,_,_,none⟩ (.pointer (some ⟨lb,7,none⟩)) rfl (fun w h=>by go_simp) hHeld ?_;simp only [zP,List.set];refine tk 10 ⟨some 18,.load 3 (.tmp 17),_,_,_,none⟩ (.int .i64 (p0:Nat)) rfl (fun w h=>by go_simp) hHeld ?_;simp only [zP,List.set]
  refine rd 6 rfl (fun K hK => ?_);go_simp;refine A0.out.mono ?_;rintro e w' ⟨rfl,hw⟩;have hw':=hw.symm;subst hw';clear hw;refine hK.out _ _ ⟨c0d,c5d⟩ (fun hHeld => ?_);clear hK K;refine tk 11 ⟨some 19,.binOp .sub 3 (.tmp 14) (.tmp 18) 3,_,_,_,none⟩ (.int .i64 ((np:Int) - (p0:Int))) rfl (fun w h=>by go_simp) hHeld ?_;simp only [zP,List.set];refine tk 12 ⟨some 20,.binOp .leq 3 (.tmp 9) (.tmp 19) 3,_,_,_,none⟩ (.bool false) rfl (fun w h=>by go_simp) hHeld ?_;simp only [zP,List.set];refine wpAnyH_done (by kernel_rfl) ?_ _;clear hHeld;clear H0 HS0 HT0 c0 c5 c0d c5d A0;go_wp2_with fail
  go_loopw [1,7] (fun v i wr=>∃ (k:Nat) (t:LS) (n' o' c' ni':Nat),k≤nb∧i=.int .i64 k∧v=.slice (some ⟨g,o',none⟩) n' c'∧n'≤c'∧c'≤20000∧n'≤n∧ni'+0≤ni+(k+1)*n∧t.b<1000∧t.p≤16∧Hid (n'=t.left.length)∧Hid (t.m.nb=nb)∧Hid (t.m.np=np)∧Hid (∀ x∈t.left,x.length≤64)∧Hid (layF K s=layN K (nb - k) t)∧Hid (LogM wr lo hi cb lb L lv kv qv nk nq t.m K t.Q t.b t.p)∧Hid (BlAt wr ib ni' t.S)∧Hid (Txts wr g o' t.left)∧Hid (Fm (fun k=>LogS lo hi lb kv qv k∨k=ib) w wr)) (fun _ i _=>nb - (intOf i).toNat)
  case atStart=>exact ⟨0,s,n,o,c,ni,Nat.zero_le _,rfl,rfl,hlc,hc,Nat.le_refl _,by omega,hb,hsp,Hn,HJ1,HJ2,Hlen,hidI (by rw [Nat.sub_zero];exact Hst.out),HL3,HS3,HT3,HF3⟩
  clear HT3 HL3 HS3 HF3 HJ1 HJ2 Hst
 rotate_left
 all_goals
  obtain ⟨k,t,n',o',c',ni',hk,rfl,rfl,hnc,hc',hnn,hni',htb,htp,Hn',Hnb',Hnp',Hlen',HE,H1,HS1,HT1,HF1⟩:=hrel;have hkn:(k+1)*n≤33*n:=Nat.mul_le_mul_right _ (by omega);have d0:=H1.out.log.c0;have B1:=hidI (HBk.out wr t.m H1.out.chip);rw [Hnb'.out] at B1;have B2:=hidI (HDd.out wr t.m H1.out.chip);by_cases hlt:k<nb
  ·have hlti:(k:Int)<(nb:Int):=by omega
   cases hlf:t.left with
   | nil =>
     have hn0:n'=0:=by rw [Hn'.out,hlf];rfl
     subst hn0;have HR:Hid (layF K s=t):=hidI (by rw [HE.out];exact qcZ K (.inl hlf) _);have HEm:Hid ((layF K s).left.isEmpty=true):=hidI (by rw [HR.out,hlf];rfl);clear hlf;go_wp2_with (first | (go_at_call 76;refine B1.out.mono ?_;rintro e w' ⟨rfl,hw⟩;have hw':=hw.symm;subst hw';clear hw) | fail);go_ret
     exact ⟨by rw [HEm.out];rfl,by rw [HR.out];exact H1.out,by rw [HR.out];exact HS1.out.mono (by omega),HF1.out⟩
   | cons x0 xs0 =>
     have hn1:0<n':=by rw [Hn'.out,hlf];simp
     have hn1i:(0:Int)<(n':Int):=by omega
     have Hne:Hid (t.left≠[]):=hidI (by rw [hlf];simp);have HEm:Hid (t.left.isEmpty=false):=hidI (by rw [hlf];rfl);clear hlf;by_cases hd:t.m.life=0
     ·have hdb:(t.m.life==0)=true:=beq_iff_eq.2 hd;rw [hdb] at B2;have HR:Hid (layF K s=t):=hidI (by rw [HE.out];exact qcZ K (.inr hd) _);go_wp2_with (first | (go_at_call 76;refine B1.out.mono ?_;rintro e w' ⟨rfl,hw⟩;have hw':=hw.symm;subst hw';clear hw) | (go_at_call 25;refine B2.out.mono ?_;rintro e w' ⟨rfl,hw⟩;have hw':=hw.symm;subst hw';clear hw) | fail);go_ret
      have hnz:((n':Int)==0)=false:=by simp;omega
      refine ⟨?_,by rw [HR.out];exact H1.out,by rw [HR.out];exact HS1.out.mono (by omega),HF1.out⟩;rw [HR.out,HEm.out]
      first | rfl | (simp;omega)
     have hdb:(t.m.life==0)=false:=beq_eq_false_iff_ne.2 hd;rw [hdb] at B2;have HEn:Hid (layF K s=layN K (nb - (k+1)) (lay1 K t)):=hidI (by
      rw [HE.out,show nb - k=nb - (k+1)+1 by omega,layN,if_neg];rintro (h | h)
      ·exact Hne.out h
      exact hd h)
     have B3:=hidI (HOp.out wr t H1.out (by omega));obtain ⟨j1,j2,j3,j4,j5⟩:=qiZ K t;have HJ1:=hidI (j1.trans Hnb'.out);have HJ2:=hidI (j2.trans Hnp'.out);have hJ3:(lay1 K t).left.length≤n':=by rw [Hn'.out];exact j3
     have hJ4:(lay1 K t).p≤16:=by have:=Hnp'.out;omega
     have hJ5:(lay1 K t).b<1000:=by rw [j5,Hnb'.out];have:=Nat.mod_lt (t.b+1) (show 0<nb by omega);omega
     clear j1 j2 j3 j4 j5;go_wp2_with (first | (go_at_call 76;refine B1.out.mono ?_;rintro e w' ⟨rfl,hw⟩;have hw':=hw.symm;subst hw';clear hw) | (go_at_call 25;refine B2.out.mono ?_;rintro e w' ⟨rfl,hw⟩;have hw':=hw.symm;subst hw';clear hw) | fail);refine B3.out.mono ?_;rintro e W2 ⟨rfl,hL2,hF2⟩;have hib:=ha.hib;have hgg:=ha.hg;have HS2:=hidI (HS1.out.of_block (hF2.block ib HS1.out.lt hib));have hgl:g<wr.heap.size∨t.left=[]:=by
      cases ht9:t.left with
      | nil=>exact .inr rfl
      | cons y ys=>exact .inl (World.block_lt_of_cell? wr _ (HT1.out 0 y (by rw [ht9];rfl)))
     have HT2:Hid (Txts W2 g o' t.left):=hidI (HT1.out.of_block (hF2.block g (hgl.resolve_right Hne.out) hgg));have HF2:=hidI (HF1.out.trans (hF2.mono fun k _ h=>.inl h));have HL2:Hid (LogM W2 lo hi cb lb L lv kv qv nk nq (t.opn K).m K (t.opn K).Q (t.opn K).b (t.opn K).p):=hidI hL2;obtain ⟨r,hr⟩:∃ r,r=(openF t.m K t.Q t.b).1:=⟨_,rfl⟩;rw [←hr];have Hr:=hidI hr;clear hL2 hF2 hgl hr B1 B2 B3 H1 HS1 HT1 HF1 d0;cases r with
     | true =>
       have HLay:Hid (lay1 K t=(t.opn K).prog):=hidI (by unfold lay1;rw [←Hr.out,if_pos rfl]);have hob:(t.opn K).b<1000000:=by show (t.b+1)%t.m.nb<_;rw [Hnb'.out];have:=Nat.mod_lt (t.b+1) (show 0<nb by omega);omega
       have hop:(t.opn K).p<1000000:=by have:=(qaO t.m K t.Q t.b).2.2;have h9:=Hnp'.out;show (openF t.m K t.Q t.b).2.2.2<_;omega
       have B4:=hidI (HPr.out W2 (t.opn K) ni' o' c' HL2.out hob hop HS2.out (by show ni'+t.left.length≤_;rw [←Hn'.out];omega) HT2.out Hlen'.out (by show t.left.length≤_;rw [←Hn'.out];omega) (by omega));have hln:(t.opn K).left.length=n':=Hn'.out.symm;rw [hln] at B4;go_wp2_with fail;refine B4.out.mono ?_;rintro e W3 ⟨o3,c3,rfl,hc3,hcc3,hT3,hL3,hS3,hF3⟩;have HN3:Hid ((progL (t.opn K).b (t.opn K).left (t.opn K).m (t.opn K).p (t.opn K).S).1.length=(lay1 K t).left.length):=hidI (by rw [HLay.out];rfl);rw [HN3.out] at hc3 ⊢;have HT3:Hid (Txts W3 g o3 (lay1 K t).left):=hidI (by rw [HLay.out];exact hT3);have HL3:Hid (LogM W3 lo hi cb lb L lv kv qv nk nq (lay1 K t).m K (lay1 K t).Q (lay1 K t).b (lay1 K t).p):=hidI (by rw [HLay.out];exact hL3);have HS3:Hid (BlAt W3 ib (ni'+n') (lay1 K t).S):=hidI (by rw [HLay.out,←hln];exact hS3);have HF3:=hidI (HF2.out.trans hF3)
       have Hlen3:Hid (∀ x∈(lay1 K t).left,x.length≤64):=hidI (by rw [HLay.out];exact fun x hx=>Hlen'.out x (qei _ _ _ _ _ x hx));obtain ⟨n3,hn3⟩:∃ n3,n3=(lay1 K t).left.length:=⟨_,rfl⟩;rw [←hn3] at hJ3 hc3 ⊢;have Hn3:=hidI hn3;clear hT3 hL3 hS3 hF3 B4 HL2 HS2 HT2 HF2 hn3 hln;go_wp2_with fail;go_roundw
       case rel=>exact ⟨k+1,lay1 K t,n3,o3,c3,ni'+n',by omega,by go_num,rfl,hc3,by omega,by omega,by rw [Nat.succ_mul (k+1)];omega,hJ5,hJ4,Hn3,HJ1,HJ2,Hlen3,HEn,HL3,HS3,HT3,HF3⟩
       case measure=>simp [intOf];omega
     | false =>
       have HLay:Hid (lay1 K t=t.opn K):=hidI (by unfold lay1;rw [←Hr.out];rfl);have HT3:Hid (Txts W2 g o' (lay1 K t).left):=hidI (by rw [HLay.out];exact HT2.out);have HL3:Hid (LogM W2 lo hi cb lb L lv kv qv nk nq (lay1 K t).m K (lay1 K t).Q (lay1 K t).b (lay1 K t).p):=hidI (by rw [HLay.out];exact HL2.out);have HS3:Hid (BlAt W2 ib ni' (lay1 K t).S):=hidI (by rw [HLay.out];exact HS2.out);have Hn3:Hid (n'=(lay1 K t).left.length):=hidI (by rw [HLay.out];exact Hn'.out);have Hlen3:Hid (∀ x∈(lay1 K t).left,x.length≤64):=hidI (by rw [HLay.out];exact Hlen'.out);clear HL2 HS2 HT2;go_wp2_with fail;go_roundw
       case rel=>exact ⟨k+1,lay1 K t,n',o',c',ni',by omega,by go_num,rfl,hnc,hc',hnn,by rw [Nat.succ_mul (k+1)];omega,hJ5,hJ4,Hn3,HJ1,HJ2,Hlen3,HEn,HL3,HS3,HT3,HF2⟩
       case measure=>simp [intOf];omega
  have hkn':k=nb:=by omega
  subst hkn';have HR:Hid (layF K s=t):=hidI (by rw [HE.out,Nat.sub_self];rfl);have HEm:Hid ((layF K s).left.isEmpty=decide (n'=0)):=hidI (by
   rw [HR.out,Hn'.out];cases t.left<;>simp)
  by_cases hz:n'=0
  ·subst hz;go_wp2_with (first | (go_at_call 76;refine B1.out.mono ?_;rintro e w' ⟨rfl,hw⟩;have hw':=hw.symm;subst hw';clear hw) | fail);go_ret
   exact ⟨by rw [HEm.out];rfl,by rw [HR.out];exact H1.out,by rw [HR.out];exact HS1.out.mono (by omega),HF1.out⟩
  have hzi:¬(n':Int)=0:=by omega
  go_wp2_with (first | (go_at_call 76;refine B1.out.mono ?_;rintro e w' ⟨rfl,hw⟩;have hw':=hw.symm;subst hw';clear hw) | fail);go_ret
  refine ⟨?_,by rw [HR.out];exact H1.out,by rw [HR.out];exact HS1.out.mono (by omega),HF1.out⟩;rw [HEm.out,decide_eq_false hz]
  first | rfl | (simp;omega)
end Go.Proofs.YtodmdkhdbfbfgaaGreatDoor.S1
namespace Go.Nt
def dist (S:Nat→Bool):Nat→Nat→Nat
 | 0,_=>0
 | f+1,k=>if S k then dist S f ((k+1)%4294967296)+1 else 0
def nxt (S:Nat→Bool) (k:Nat):Nat:=(k+dist S 700 k)%4294967296
theorem qcN (S:Nat→Bool):∀ (f k j:Nat),k<4294967296→j<f→S ((k+j)%4294967296)=false→S ((k+dist S f k)%4294967296)=false∧dist S f k≤j∧dist S (f+1) k=dist S f k
 | 0,k,j,hk,hj,_=>by omega
 | f+1,k,j,hk,hj,h=>by
   rw [dist,dist];cases hs:S k with
   | false =>
     simp only [Bool.false_eq_true,if_false,Nat.add_zero];rw [Nat.mod_eq_of_lt hk];refine ⟨hs,Nat.zero_le _,?_⟩
     first | rfl | trivial
   | true =>
     simp only [if_true];cases j with
     | zero=>rw [Nat.add_zero,Nat.mod_eq_of_lt hk,hs] at h;cases h
     | succ j =>
       have e:((k+1)%4294967296+j)%4294967296=(k+(j+1))%4294967296:=by rw [Nat.mod_add_mod,show k+1+j=k+(j+1) by omega]
       obtain ⟨h1,h2,h3⟩:=qcN S f ((k+1)%4294967296) j (Nat.mod_lt _ (by decide)) (by omega) (by rw [e];exact h);refine ⟨?_,by omega,by rw [h3]⟩;rw [Nat.mod_add_mod] at h1;rw [show k+(dist S f ((k+1)%4294967296)+1)=k+1+dist S f ((k+1)%4294967296) by omega];exact h1
def Free (S:Nat→Bool):Prop:=∀ k,k<4294967296→∃ j,j≤600∧S ((k+j)%4294967296)=false
theorem nxt_free {S:Nat→Bool} (h:Free S) {k:Nat} (hk:k<4294967296):S (nxt S k)=false∧nxt S k<4294967296:=by
 obtain ⟨j,hj,hs⟩:=h k hk;exact ⟨(qcN S 700 k j hk (by omega) hs).1,Nat.mod_lt _ (by decide)⟩
theorem nxt_here {S:Nat→Bool} {k:Nat} (hk:k<4294967296) (h:S k=false):nxt S k=k:=by
 unfold nxt;rw [show dist S 700 k=0 by rw [dist,h];rfl,Nat.add_zero,Nat.mod_eq_of_lt hk]
theorem qeM {S:Nat→Bool} (h:Free S) {k:Nat} (hk:k<4294967296) (hs:S k=true):nxt S k=nxt S ((k+1)%4294967296)∧dist S 700 ((k+1)%4294967296)<dist S 700 k:=by
 obtain ⟨j,hj,hf⟩:=h ((k+1)%4294967296) (Nat.mod_lt _ (by decide));have h1:=(qcN S 699 ((k+1)%4294967296) j (Nat.mod_lt _ (by decide)) (by omega) hf).2.2;have h2:dist S 700 k=dist S 699 ((k+1)%4294967296)+1:=by
  show (if S k then dist S 699 ((k+1)%4294967296)+1 else 0)=_;rw [hs,if_pos rfl]
 have h3:dist S 700 ((k+1)%4294967296)=dist S 699 ((k+1)%4294967296):=h1;refine ⟨?_,by omega⟩;unfold nxt;rw [h2,h3,Nat.mod_add_mod]
 congr 1
 omega
theorem filter_one {f:Nat→Nat} (x:Nat):∀ (js:List Nat),js.Nodup→(∀ a∈js,∀ b∈js,f a=f b→a=b)→js.length≤(js.filter fun j=>f j != x).length+1
 | [],_,_=>by simp
 | j :: js,hn,hi=>by
   rw [List.nodup_cons] at hn;have ih:=filter_one x js hn.2 (fun a ha b hb=>hi a (by simp [ha]) b (by simp [hb]));by_cases e:f j=x
   ·have hall:js.filter (fun j=>f j != x)=js:=by
     rw [List.filter_eq_self];intro a ha;simp only [bne_iff_ne,ne_eq];intro e2
     have:=hi a (by simp [ha]) j (by simp) (by rw [e,e2])
     subst this;exact hn.1 ha
    rw [List.filter_cons_of_neg (by simp [e]),hall];simp
   rw [List.filter_cons_of_pos (by simp [e])];simp only [List.length_cons];omega
theorem pigeon {f:Nat→Nat}:∀ (l js:List Nat),js.Nodup→(∀ a∈js,∀ b∈js,f a=f b→a=b)→l.length<js.length→∃ j∈js,f j∉l
 | [],js,_,_,h=>by
   cases js with
   | nil=>simp at h
   | cons j js=>exact ⟨j,by simp,by simp⟩
 | x :: l,js,hn,hi,h=>by
   have h1:=filter_one x js hn hi;obtain ⟨j,hj,hf⟩:=pigeon l (js.filter fun j=>f j != x) (hn.filter _) (fun a ha b hb=>hi a (List.mem_filter.1 ha).1 b (List.mem_filter.1 hb).1) (by simp only [List.length_cons] at h;omega);obtain ⟨h2,h3⟩:=List.mem_filter.1 hj;refine ⟨j,h2,?_⟩;simp only [List.mem_cons,not_or];exact ⟨by simpa using h3,hf⟩
theorem qe8 {l:List Fp} (hl:l.length≤512) (b:Nat):Free (hasL l b):=by
 intro k hk;obtain ⟨j,hj,hf⟩:=pigeon (f:=fun j=>(k+j)%4294967296) (l.map Fp.num) (List.range 601) List.nodup_range (fun a ha c hc h=>by
  simp only [List.mem_range] at ha hc;have h':(k+a)%4294967296=(k+c)%4294967296:=h;omega) (by simp;omega)
 refine ⟨j,by simp at hj;omega,?_⟩;cases hh:hasL l b ((k+j)%4294967296) with
 | false=>rfl
 | true =>
   obtain ⟨f,hfl,_,hn⟩:=hasL_iff.1 hh;exact absurd (List.mem_map.2 ⟨f,hfl,hn⟩) hf
end Go.Nt
