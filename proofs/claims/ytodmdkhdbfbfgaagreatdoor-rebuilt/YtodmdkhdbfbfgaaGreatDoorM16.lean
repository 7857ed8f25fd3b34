/- Lemmas. -/
import Derived.Test.YtodmdkhdbfbfgaaGreatDoorM15
set_option linter.unusedVariables false
set_option linter.unusedSimpArgs false
set_option maxRecDepth 100000
set_option maxHeartbeats 8000000
namespace Go.Proofs.YtodmdkhdbfbfgaaGreatDoor.S1
open Go.RowKit Pk
structure Rdy (m:M) (Q:Nat→Bool) (b p:Nat):Prop where
 open_:p<m.np→b<m.nb∧m.bd b=false∧m.nx b=p∧Q b=false
 clean:∀ i,Q i=true→i<m.nb∧m.bd i=false∧m.nx i=0
theorem Rdy.shut (m:M) (Q:Nat→Bool) (b:Nat) (h:∀ i,Q i=true→i<m.nb∧m.bd i=false∧m.nx i=0):Rdy m Q b m.np:=⟨fun h=>absurd h (Nat.lt_irrefl _),h⟩
theorem qfp {m:M} (hw:WF m) {Q:Nat→Bool} {b p:Nat} {x:List UInt8} (h:Rdy m Q b p) (hp:p<m.np):Rdy (progA m (b:Nat) (p:Nat) x).2 Q b (if (progA m (b:Nat) (p:Nat) x).1 then p+1 else m.np):=by
 obtain ⟨h1,h2,h3,h4⟩:=h.open_ hp;have hq:∀ i,Q i=true→i≠b:=fun i hi e=>by rw [e,h4] at hi;cases hi
 rcases qaQ m b p x hw with ⟨ht,_,_,_,_,_,_,e⟩ | ⟨hf,e | ⟨e,_⟩ | ⟨_,_,_,_,_,c,_,⟨e,_⟩ | ⟨e,_⟩⟩⟩
 ·rw [ht,if_pos rfl,e];refine ⟨fun _=>⟨h1,h2,if_pos rfl,h4⟩,fun i hi => ?_⟩;obtain ⟨a1,a2,a3⟩:=h.clean i hi;exact ⟨a1,a2,(if_neg (hq i hi)).trans a3⟩
 ·rw [hf];simp only [Bool.false_eq_true,if_false];rw [e];exact Rdy.shut m Q b h.clean
 ·rw [hf];simp only [Bool.false_eq_true,if_false];rw [e];exact Rdy.shut (tick m) Q b h.clean
 ·rw [hf];simp only [Bool.false_eq_true,if_false];rw [e];refine ⟨fun hlt=>absurd hlt (Nat.lt_irrefl _),fun i hi => ?_⟩;obtain ⟨a1,a2,a3⟩:=h.clean i hi;exact ⟨a1,a2,(if_neg (hq i hi)).trans a3⟩
 rw [hf];simp only [Bool.false_eq_true,if_false];rw [e];refine ⟨fun hlt=>absurd hlt (Nat.lt_irrefl _),fun i hi => ?_⟩;obtain ⟨a1,a2,a3⟩:=h.clean i hi;exact ⟨a1,(if_neg (hq i hi)).trans a2,(if_neg (hq i hi)).trans a3⟩
theorem qdv {Q:Nat→Bool} (b:Nat):∀ (l:List (List UInt8)) (m:M) (p:Nat) (S:Nat→Bool),WF m→Rdy m Q b p→Rdy (progL b l m p S).2.1 Q b (progL b l m p S).2.2.1
 | [],m,p,S,_,h=>h
 | x :: xs,m,p,S,hw,h=>by
   rw [progL]
   split
   ·rename_i hp;have hr:=qfp (x:=x) hw h hp
    split
    ·rename_i ht;rw [ht,if_pos rfl] at hr;exact qdv b xs _ _ _ (qaT hw _ _ _) hr
    rename_i ht;rw [if_neg ht] at hr;exact hr
   exact h
theorem qfS {m:M} (hw:WF m) (K:Nat→Bool) {Q:Nat→Bool} {b p:Nat} (h:Rdy m Q b p):Rdy (openF m K Q b).2.1 (openF m K Q b).2.2.1 ((b+1)%m.nb) (openF m K Q b).2.2.2:=by
 have hn:=hw.nb1;have hlt:(b+1)%m.nb<m.nb:=Nat.mod_lt _ (by omega);unfold openF
 split
 ·exact Rdy.shut m Q _ h.clean
 split
 ·rename_i hQ;obtain ⟨a1,a2,a3⟩:=h.clean _ hQ;refine ⟨fun _=>⟨a1,a2,a3,by simp⟩,fun i hi=>h.clean i ?_⟩;simp only [Bool.and_eq_true] at hi;exact hi.2
 rename_i hQ;have hq:∀ i,Q i=true→i≠(b+1)%m.nb:=fun i hi e=>hQ (by rw [←e];exact hi)
 rcases qaU m ((b+1)%m.nb) with ⟨ht,_,hb,_,e⟩ | ⟨hf,⟨e,_⟩ | ⟨e,_⟩ | ⟨_,_,⟨e,_⟩ | ⟨⟨k,e⟩,_⟩⟩⟩
 ·rw [ht,if_pos rfl];simp only [];rw [e];refine ⟨fun _=>⟨hlt,hb,if_pos rfl,by simp⟩,fun i hi => ?_⟩;simp only [Bool.and_eq_true] at hi;obtain ⟨a1,a2,a3⟩:=h.clean i hi.2;exact ⟨a1,a2,(if_neg (hq i hi.2)).trans a3⟩
 all_goals
  rw [hf];simp only [Bool.false_eq_true,if_false];rw [e]
 ·exact Rdy.shut m Q _ h.clean
 ·exact Rdy.shut (tick m) Q _ h.clean
 ·refine ⟨fun hl=>absurd hl (Nat.lt_irrefl _),fun i hi => ?_⟩;obtain ⟨a1,a2,a3⟩:=h.clean i hi;exact ⟨a1,(if_neg (hq i hi)).trans a2,a3⟩
 refine ⟨fun hl=>absurd hl (Nat.lt_irrefl _),fun i hi => ?_⟩;obtain ⟨a1,a2,a3⟩:=h.clean i hi;exact ⟨a1,a2,(if_neg (hq i hi)).trans a3⟩
theorem qkw {m:M} (h:m.fail<0):(tick m).fail=m.fail∧(m.life=0→(tick m).life=0):=by
 unfold tick callF;refine ⟨?_,fun h0 => ?_⟩
 ·repeat' split
  all_goals first | rfl | omega
 rw [if_pos h0];exact h0
theorem qkS {m:M} (hw:WF m) (hf:m.fail<0) {b p:Nat} {x:List UInt8} (hb:b<m.nb) (hbd:m.bd b=false) (hp:p=m.nx b) (hn:p<m.np) (hx:x.length=64) :
 (progA m (b:Nat) (p:Nat) x).2.fail<0∧(progA m (b:Nat) (p:Nat) x).2.bd=m.bd∧((progA m (b:Nat) (p:Nat) x).1=true∨(progA m (b:Nat) (p:Nat) x).2.life=0):=by
 have ht:=qkw hf;rcases qaQ m b p x hw with ⟨h1,_,_,_,_,_,_,e⟩ | ⟨h1,e | ⟨e,h0⟩ | ⟨_,_,_,_,_,c,_,⟨e,h0⟩ | ⟨e,h0⟩⟩⟩
 ·refine ⟨by rw [e];show (tick m).fail<0;rw [ht.1];exact hf,by rw [e];rfl,.inl h1⟩
 ·have hm:mayP m (b:Nat) (p:Nat) x:=⟨by unfold badB hasB;simp [hb,hbd],by rw [hp];simp,by omega,hx⟩;refine ⟨by rw [e];exact hf,by rw [e],.inr ?_⟩;rw [e];unfold progA at h1 e;rw [if_pos hm] at h1 e;have h2:=congrArg M.nx e;unfold progF at h1 h2;simp only [Int.toNat_natCast] at h1 h2;rcases qaZ m.life m.fail with hk | hk | hk | hk
  ·rw [if_pos hk] at h1;cases h1
  ·unfold callF at hk
   repeat' split at hk
   all_goals simp at hk
   all_goals omega
  ·rw [if_neg (by rw [hk];decide),if_neg (by rw [hk];decide),if_pos hk] at h2
   have:=congrFun h2 b
   have h3:(if b=b then p+1 else m.nx b)=m.nx b:=this;rw [if_pos rfl] at h3;omega
  unfold callF at hk
  repeat' split at hk
  all_goals simp at hk
  all_goals assumption
 ·refine ⟨by rw [e,ht.1];exact hf,by rw [e];rfl,.inr (by rw [e];exact ht.2 h0)⟩
 ·refine ⟨by rw [e];show (tick m).fail<0;rw [ht.1];exact hf,by rw [e];rfl,.inr (by rw [e];exact h0)⟩
 omega
theorem qel {m:M} (hf:m.fail<0) {b:Nat} (hb:b<m.nb) (hbd:m.bd b=false) :
 (eraA m (b:Nat)).2.fail<0∧(eraA m (b:Nat)).2.bd=m.bd∧((eraA m (b:Nat)).1=true∨(eraA m (b:Nat)).2.life=0):=by
 have ht:=qkw hf;rcases qaU m b with ⟨h1,_,_,_,e⟩ | ⟨h1,⟨e,h0⟩ | ⟨e,h0⟩ | ⟨_,_,⟨e,h0⟩ | ⟨⟨k,e⟩,h0⟩⟩⟩
 ·exact ⟨by rw [e];show (tick m).fail<0;rw [ht.1];exact hf,by rw [e];rfl,.inl h1⟩
 ·rcases h0 with h0 | h0
  ·omega
  rw [hbd] at h0;cases h0
 ·exact ⟨by rw [e,ht.1];exact hf,by rw [e];rfl,.inr (by rw [e];exact ht.2 h0)⟩
 ·omega
 exact ⟨by rw [e];show (tick m).fail<0;rw [ht.1];exact hf,by rw [e];rfl,.inr (by rw [e];exact h0)⟩
theorem qgb {m:M} {b:Nat} (hbd:m.bd b=true):eraA m (b:Nat)=(false,m):=by
 unfold eraA;rw [if_neg];unfold badB;simp [hbd]
theorem qcy {Q:Nat→Bool} (b:Nat):∀ (l:List (List UInt8)) (m:M) (p:Nat) (S:Nat→Bool),WF m→m.fail<0→Rdy m Q b p→(∀ x∈l,x.length=64) →
 (progL b l m p S).2.1.fail<0∧(progL b l m p S).2.1.bd=m.bd∧((progL b l m p S).2.1.life=0∨(progL b l m p S).1.length≤l.length - (m.np - p))
 | [],m,p,S,_,hf,_,_=>⟨hf,rfl,.inr (by simp [progL])⟩
 | x :: xs,m,p,S,hw,hf,h,hx=>by
   rw [progL]
   split
   ·rename_i hp;obtain ⟨h1,h2,h3,h4⟩:=h.open_ hp;obtain ⟨k1,k2,k3⟩:=qkS hw hf h1 h2 h3.symm hp (hx x (by simp));have hr:=qfp (x:=x) hw h hp
    split
    ·rename_i ht;rw [ht,if_pos rfl] at hr;obtain ⟨a1,a2,a3⟩:=qcy b xs _ (p+1) (fun j=>j==b||S j) (qaT hw _ _ _) k1 hr (fun y hy=>hx y (by simp [hy]));refine ⟨a1,a2.trans k2,?_⟩;rcases a3 with a3 | a3
     ·exact .inl a3
     right
     rw [qcG] at a3;refine Nat.le_trans a3 ?_;simp only [List.length_cons];omega
    rename_i ht;refine ⟨k1,k2,.inl ?_⟩;rcases k3 with k3 | k3
    ·exact absurd k3 ht
    exact k3
   exact ⟨hf,rfl,.inr (by simp only [];omega)⟩
def cntF (f:Nat→Bool) (n c:Nat):Nat→Nat
 | 0=>0
 | k+1=>cntF f n c k+if f ((c+k)%n) then 1 else 0
theorem qdI (f:Nat→Bool) (n c:Nat):∀ k,cntF f n (c+1) k+(if f (c%n) then 1 else 0)=cntF f n c (k+1)
 | 0=>by simp [cntF]
 | k+1=>by
   have ih:=qdI f n c k;rw [cntF,cntF,←ih,show c+1+k=c+(k+1) by omega];omega
theorem qdH (f:Nat→Bool) (n:Nat):∀ c,cntF f n c n=cntF f n 0 n
 | 0=>rfl
 | c+1=>by
   have h1:=qdI f n c n;rw [cntF,Nat.add_mod_right] at h1
   have:=qdH f n c
   omega
theorem qdG (f:Nat→Bool) (n:Nat):∀ k,k≤n→cntF f n 0 k=(List.range k).countP f
 | 0,_=>rfl
 | k+1,hk=>by
   rw [cntF,qdG f n k (by omega),List.range_succ,List.countP_append,Nat.zero_add,Nat.mod_eq_of_lt (by omega)];simp [List.countP_cons]
theorem qll (f:Nat→Bool) (n c:Nat):cntF f n c n=(List.range n).countP f:=(qdH f n c).trans (qdG f n n (Nat.le_refl _))
structure LayG (m0:M) (K:Nat→Bool) (xs:List (List UInt8)) (b0 v:Nat) (s:LS):Prop where
 wf:WF s.m
 nb:s.m.nb=m0.nb
 np:s.m.np=m0.np
 b:s.b=(b0+v)%m0.nb
 fail:s.m.fail<0
 bd:s.m.bd=m0.bd
 rdy:Rdy s.m s.Q s.b s.p
 lens:∀ x∈s.left,x.length=64
 few:s.m.life=0∨s.left.length≤xs.length - m0.np*cntF (fun i => !K i && !m0.bd i) m0.nb (b0+1) v
theorem qfi (b:Nat):∀ (l:List (List UInt8)) (m:M) (p:Nat) (S:Nat→Bool),∀ x∈(progL b l m p S).1,x∈l
 | [],m,p,S,x,h=>h
 | y :: ys,m,p,S,x,h=>by
   rw [progL] at h
   split at h
   ·split at h
    ·exact List.mem_cons_of_mem _ (qfi b ys _ _ _ x h)
    exact h
   exact h
theorem LayG.round {m0:M} {K:Nat→Bool} {xs:List (List UInt8)} {b0 v:Nat} {s:LS} (h:LayG m0 K xs b0 v s) (hd:s.m.life≠0):LayG m0 K xs b0 (v+1) (lay1 K s):=by
 have hn1:=h.wf.nb1;have hb1:(s.b+1)%s.m.nb=(b0+(v+1))%m0.nb:=by
  rw [h.nb,h.b,Nat.add_mod,Nat.mod_mod,←Nat.add_mod,Nat.add_assoc]
 have hlt:(s.b+1)%s.m.nb<s.m.nb:=Nat.mod_lt _ (by omega);have hfew:=h.few.resolve_left hd;have hcnt:cntF (fun i => !K i && !m0.bd i) m0.nb (b0+1) (v+1)=cntF (fun i => !K i && !m0.bd i) m0.nb (b0+1) v+if (!K ((s.b+1)%s.m.nb) && !m0.bd ((s.b+1)%s.m.nb)) then 1 else 0:=by
  rw [cntF,hb1,show b0+1+v=b0+(v+1) by omega]
 obtain ⟨k1,k2,k3⟩:=qaO s.m K s.Q s.b;have hro:=qfS h.wf K h.rdy;have hwo:=qbT h.wf K s.Q s.b;have hof:(openF s.m K s.Q s.b).2.1.fail<0∧(openF s.m K s.Q s.b).2.1.bd=s.m.bd:=by
  unfold openF
  split
  ·exact ⟨h.fail,rfl⟩
  split
  ·exact ⟨h.fail,rfl⟩
  cases hbd:s.m.bd ((s.b+1)%s.m.nb) with
  | true=>rw [qgb hbd];exact ⟨h.fail,rfl⟩
  | false =>
    have:=qel h.fail hlt hbd
    split<;>exact ⟨this.1,this.2.1⟩
 unfold lay1
 split
 ·rename_i ho;have hp0:(openF s.m K s.Q s.b).2.2.2=0:=by
   unfold openF at ho ⊢
   repeat' split at ho
   all_goals first | cases ho | skip
   all_goals simp_all
  obtain ⟨q1,q2,q3,q4⟩:=qaE ((s.b+1)%s.m.nb) s.left (openF s.m K s.Q s.b).2.1 (openF s.m K s.Q s.b).2.2.2 s.S;obtain ⟨a1,a2,a3⟩:=qcy (Q:=(openF s.m K s.Q s.b).2.2.1) ((s.b+1)%s.m.nb) s.left (openF s.m K s.Q s.b).2.1 (openF s.m K s.Q s.b).2.2.2 s.S hwo hof.1 hro h.lens;refine ⟨qcD _ _ _ _ _ hwo,(q1.trans k1).trans h.nb,(q2.trans k2).trans h.np,hb1,a1,a2.trans (hof.2.trans h.bd),qdv _ _ _ _ _ hwo hro,fun x hx=>h.lens x (qfi _ _ _ _ _ x hx),?_⟩;rcases a3 with a3 | a3
  ·exact .inl a3
  right
  have e9:(openF s.m K s.Q s.b).2.1.np - (openF s.m K s.Q s.b).2.2.2=m0.np:=by rw [hp0,k2,h.np];omega
  rw [e9] at a3;refine Nat.le_trans (show (LS.opn K s).prog.left.length≤s.left.length - m0.np from a3) ?_;rw [hcnt]
  split<;>simp only [Nat.mul_add,Nat.mul_one,Nat.mul_zero]<;>omega
 rename_i ho;refine ⟨hwo,k1.trans h.nb,k2.trans h.np,hb1,hof.1,hof.2.trans h.bd,hro,h.lens,?_⟩;rw [hcnt];by_cases hK:K ((s.b+1)%s.m.nb)=true
 ·right
  simp only [hK,Bool.not_true,Bool.false_and,Bool.false_eq_true,if_false,Nat.add_zero];exact hfew
 cases hbd:s.m.bd ((s.b+1)%s.m.nb) with
 | true =>
   right
   have hbd':m0.bd ((s.b+1)%s.m.nb)=true:=by rw [←h.bd];exact hbd
   simp only [hbd',Bool.not_true,Bool.and_false,Bool.false_eq_true,if_false,Nat.add_zero];exact hfew
 | false =>
   left
   have hn:=qel h.fail hlt hbd;show (openF s.m K s.Q s.b).2.1.life=0;unfold openF at ho ⊢;rw [if_neg hK] at ho ⊢
   split at ho
   ·exact absurd rfl ho
   rename_i hQ;rw [if_neg hQ]
   split at ho
   ·exact absurd rfl ho
   rename_i he;rw [if_neg he];exact hn.2.2.resolve_left he
theorem LayG.rounds {m0:M} {K:Nat→Bool} {xs:List (List UInt8)} {b0:Nat}:∀ (k v:Nat) (s:LS),LayG m0 K xs b0 v s→(layN K k s).m.life=0∨(layN K k s).left=[]∨LayG m0 K xs b0 (v+k) (layN K k s)
 | 0,v,s,h=>.inr (.inr h)
 | k+1,v,s,h=>by
   rw [layN]
   split
   ·rename_i hc;rcases hc with hc | hc
    ·exact .inr (.inl hc)
    exact .inl hc
   rename_i hc
   have:=LayG.rounds k (v+1) (lay1 K s) (h.round (fun e=>hc (.inr e)))
   rw [show v+(k+1)=v+1+k by omega];exact this
theorem qlO {m0:M} {K:Nat→Bool} {xs:List (List UInt8)} {b0:Nat} {s:LS} (h:LayG m0 K xs b0 0 s) (hr:xs.length≤m0.np*(List.range m0.nb).countP (fun i => !K i && !m0.bd i)):(layN K m0.nb s).m.life=0∨(layN K m0.nb s).left=[]:=by
 rcases LayG.rounds m0.nb 0 s h with h1 | h1 | h1
 ·exact .inl h1
 ·exact .inr h1
 rcases h1.few with h2 | h2
 ·exact .inl h2
 right
 rw [Nat.zero_add,qll] at h2;exact List.eq_nil_of_length_eq_zero (by omega)
end Go.Proofs.YtodmdkhdbfbfgaaGreatDoor.S1
namespace Go.Proofs.YtodmdkhdbfbfgaaGreatDoor.S1
open Go.RowKit Pk
open Go.Nt (Fp lookF hasL scanF nxt dist Free nxt_free nxt_here qeM)
def numAt (w:World) (g:Nat):Nat:=match w.cell? ⟨g,1,none⟩ with
 | some (.int _ z)=>z.toNat
 | _=>0
def qeH (w:World) (lo hi cb lb:Nat) (L:Loc) (v0:Lv) (kv qv:Option Nat) (nk nq:Nat) (m:M) (K Q:Nat→Bool) (b p:Nat) (S:Nat→Nat→Bool) (e:Ending) (w':World):Prop:=
 ∃ tb nt,e=.returned (.agg #[.int .i64 (badN m:Nat),.int .u32 (nxt (S (badN m)) ((v0.nn+1)%4294967296):Nat)])∧LogM w' lo hi cb lb L ⟨v0.nb,v0.nn,some tb⟩ kv qv nk nq m K Q b p∧LbAt w' tb nt S∧nt≤100000∧¬LogS lo hi lb kv qv tb∧(v0.tk=some tb∨w.heap.size≤tb)∧Fm (fun k=>k=lb) w w'
theorem qen {w:World} {lo hi cb lb:Nat} {L:Loc} {v0:Lv} {kv qv:Option Nat} {nk nq:Nat} {m:M} {K Q:Nat→Bool} {b p:Nat} (h:LogM w lo hi cb lb L v0 kv qv nk nq m K Q b p) {k:Nat} (hk:LogS lo hi lb kv qv k):k<w.heap.size:=by
 rcases hk with ⟨_,h2⟩ | rfl | h3 | h3
 ·exact Nat.lt_of_lt_of_le h2 h.sz
 ·exact h.log.lt
 ·rcases h.kept with ⟨h4,_⟩ | ⟨g,h4,h5⟩
  ·rw [h4] at h3;cases h3
  rw [h4] at h3;cases h3;exact h5.lt
 rcases h.clean with ⟨h4,_⟩ | ⟨g,h4,h5⟩
 ·rw [h4] at h3;cases h3
 rw [h4] at h3;cases h3;exact h5.lt
end Go.Proofs.YtodmdkhdbfbfgaaGreatDoor.S1
namespace Go.Proofs.YtodmdkhdbfbfgaaGreatDoor
open Go.RowKit Go.Nt
theorem Tryz.info9s:(Tryz.prog.info? 9).map (fun i=>(i.zero,i.size,i.bytes))=some (some (.string ⟨#[]⟩),1,16):=by kernel_rfl
theorem qiz (n:Nat) (hn:n≤100000):∃ cells:Array Value,(∀ W:World,(Instr.makeSlice 40 (.int .i64 (n:Nat)) (.int .i64 (n:Nat))).run Tryz.prog W=.ok (.slice (some ⟨W.heap.size,0,none⟩) n n) (W.alloc (.cells cells 9)))∧(∀ W:World,S1.Rw (W.alloc (.cells cells 9)) W.heap.size 9 n (fun _=>.string ⟨#[]⟩)):=
 ⟨madeCells #[Value.string ⟨#[]⟩] n,fun W=>run_make_row' (P:=Tryz.prog) 40 9 (.string ⟨#[]⟩) 16 Tryz.underlying40 Tryz.info9s rfl .i64 .i64 n (by omega) (by omega) W,fun W=>S1.rowIs_rw (World.rowIs_made W (.string ⟨#[]⟩) n 9)⟩
def lbv (b n:Nat):Value:=.agg #[.int .i64 (b:Nat),.int .u32 (n:Nat)]
def SplitP (b n:Nat) (t:Bs) (w:World) (e:Ending) (w':World):Prop:=
 ∃ g,e=.returned (.slice (some ⟨g,0,none⟩) (pagesN t.length) (pagesN t.length))∧w.heap.size≤g∧S1.Rw w' g 9 (pagesN t.length) (fun k=>.string (txt (pageB (pgOf b n t k))))∧Below w.heap.size w w'
theorem qhB (b n:Nat) (t:Bs) (w:World) (hb:b<256) (hn:n<4294967296) (ht:t.length≤1000000) :
 Calls Tryz.prog 129 #[lbv b n,.string (txt t)] w fun e w'=>SplitP b n t w e w':=by
 have HPN:=hidI (fun W=>S1.pagesOf_any t W (by omega));have hK:pagesN t.length≤19608:=by unfold pagesN;omega
 obtain ⟨K,hKe⟩:∃ K,K=pagesN t.length:=⟨_,rfl⟩;have hKt:∀ k,k<K→k*51<t.length:=fun k hk=>by rw [hKe] at hk;unfold pagesN at hk;omega
 obtain ⟨X,hX⟩:∃ X,X=txt t:=⟨_,rfl⟩;have Sx:X.size=t.length:=by rw [hX,qaa]
 rw [←hX];have HPN':Hid (∀ W,Calls Tryz.prog 123 #[.string X] W fun e w'=>e=.returned (.int .i64 (K:Nat))∧w'=W):=hidI (by rw [hX,hKe];exact HPN.out);have Hpart:Hid (∀ k,k<K→X.extract (k*51) (min ((k+1)*51) X.size)=txt ((t.drop (k*51)).take 51)):=hidI (fun k hk=>by
  have:=hKt k hk
  rw [Sx,hX,qae]
  congr 1
  by_cases e:(k+1)*51≤t.length
  ·rw [Nat.min_eq_left e,show (k+1)*51 - k*51=51 by omega]
  rw [Nat.min_eq_right (by omega),List.take_of_length_le (by simp),List.take_of_length_le (by simp;omega)])
 have HPg:Hid (∀ k W,k<K→Calls Tryz.prog 194 #[.agg #[.int .i64 (b:Nat),.int .u32 (n:Nat),.int .i64 (k:Nat),.int .i64 (K:Nat),.string (txt ((t.drop (k*51)).take 51))]] W fun e w'=>e=.returned (.string (txt (pageB (pgOf b n t k))))∧Below W.heap.size W w'):=hidI (fun k W hk=>by
  have:=qie (pgOf b n t k) W hb hn (by show k<65536;omega) (by show pagesN t.length<65536;omega) (by simp [pgOf];omega)
  unfold pgv at this;rw [hKe];exact this)
 unfold SplitP;rw [←hKe];obtain ⟨cells,hmk,hrow⟩:=qiz K (by omega);obtain ⟨W1,hW1⟩:∃ W1,W1=w.alloc (.cells #[.int .i64 (b:Nat),.int .u32 (n:Nat)] 90):=⟨_,rfl⟩;have r1:W1.heap[w.heap.size]? = some (.cells #[.int .i64 (b:Nat),.int .u32 (n:Nat)] 90 (0,0)):=by rw [hW1];exact heap_alloc_new _ _
 have hb1:Below w.heap.size w W1:=by rw [hW1];exact (Below.refl _ w).alloc (Nat.le_refl _) _
 have hs1:W1.heap.size=w.heap.size+1:=by rw [hW1];simp
 obtain ⟨W2,hW2⟩:∃ W2,W2=W1.alloc (.cells cells 9):=⟨_,rfl⟩;have hmk1:=hmk W1;have hrow2:=hrow W1;rw [←hW2] at hmk1 hrow2;have hb2:Below W1.heap.size W1 W2:=by rw [hW2];exact (Below.refl _ W1).alloc (Nat.le_refl _) _
 obtain ⟨g,hg⟩:∃ g,g=W1.heap.size:=⟨_,rfl⟩;obtain ⟨lb,hlb⟩:∃ lb,lb=w.heap.size:=⟨_,rfl⟩;rw [←hg] at hmk1 hrow2 hb2 hs1;rw [←hlb] at r1 hb1 hs1 ⊢;have hlg:lb<g:=by omega
 have r2:=(hb2.block lb hlg).trans r1;have HB2:=hidI (hb1.trans (hb2.mono (by omega)));have R2:=hidI r2;have HRow:=hidI (hrow2.congr (g:=fun k=>if k<0 then .string (txt (pageB (pgOf b n t k))) else .string ⟨#[]⟩) (fun i _=>by simp));have HW1:=hidI hW1;have Hlb:=hidI hlb;have Hg:=hidI hg;have hX6:X.size≤1000000:=by omega
 have HKt:Hid (∀ k,k<K→k*51<X.size):=hidI (by rw [Sx];exact hKt);have hK9:K≤19608:=by rw [hKe];exact hK
 clear hK HPN hKe hX Sx hW1 hW2 r1 r2 hb1 hb2 hrow hmk hs1 hg hlb hrow2 hKt;unfold lbv;go_enter Tryz.func129,Tryz.ntmps129
 go_wp2_with (first | (rw [←HW1.out]) | (rw [←Hlb.out]) | (go_at_call 123;refine (HPN'.out _).mono ?_;rintro e w' ⟨rfl,hw⟩;have hw':=hw.symm;subst hw';clear hw) | fail)
 go_loopw [13] (fun i wr=>∃ k:Nat,k≤K∧i=.int .i64 k∧Hid (S1.Rw wr g 9 K (fun j=>if j<k then .string (txt (pageB (pgOf b n t j))) else .string ⟨#[]⟩))∧Hid (wr.heap[lb]? = some (.cells #[.int .i64 (b:Nat),.int .u32 (n:Nat)] 90 (0,0)))∧Hid (Below lb w wr)) (fun i _=>K - (intOf i).toNat)
 case atStart=>exact ⟨0,Nat.zero_le _,rfl,HRow,R2,HB2⟩
 case round =>
  clear HRow R2 HB2 hmk1;obtain ⟨k,hk,rfl,Hrw,Hl,HB⟩:=hrel;by_cases hlt:k<K
  ·have c0:wr.cell? ⟨lb,0,none⟩=some (.int .i64 (b:Nat)):=by rw [cell_of_row wr lb 0 _ 90 (0,0) Hl.out];rfl
   have c1:wr.cell? ⟨lb,1,none⟩=some (.int .u32 (n:Nat)):=by rw [cell_of_row wr lb 1 _ 90 (0,0) Hl.out];rfl
   have hkx:=HKt.out k hlt;have A:=hidI (HPg.out k wr hlt);have hpart:=Hpart.out k hlt;obtain ⟨Y,hY⟩:∃ Y,Y=txt ((t.drop (k*51)).take 51):=⟨_,rfl⟩;rw [←hY] at A hpart;obtain ⟨Z,hZ⟩:∃ Z,Z=txt (pageB (pgOf b n t k)):=⟨_,rfl⟩;rw [←hZ] at A;have HZ:=hidI hZ;have hgw:g<wr.heap.size:=Hrw.out.lt;have fin:∀ W1:World,Below wr.heap.size wr W1→W1.cell? ⟨g,k,none⟩=some (.string ⟨#[]⟩)∧W1.frozen? ⟨g,k,none⟩=false∧Hid (S1.Rw (W1.setCell ⟨g,k,none⟩ (.string Z)) g 9 K (fun j=>if j<k+1 then .string (txt (pageB (pgOf b n t j))) else .string ⟨#[]⟩))∧Hid ((W1.setCell ⟨g,k,none⟩ (.string Z)).heap[lb]? = some (.cells #[.int .i64 (b:Nat),.int .u32 (n:Nat)] 90 (0,0)))∧Hid (Below lb w (W1.setCell ⟨g,k,none⟩ (.string Z))):=by
    intro W1 hW;have hr:=Hrw.out.of_block (hW.block g hgw);refine ⟨by have:=hr.cell hlt;simpa using this,hr.frozen k,hidI ((hr.set k (.string Z)).congr fun j hj => ?_),hidI ?_,hidI ?_⟩
    ·by_cases e:j=k
     ·subst e;rw [if_pos rfl,if_pos (by omega),HZ.out]
     by_cases e2:j<k
     ·rw [if_neg e,if_pos e2,if_pos (by omega)]
     rw [if_neg e,if_neg e2,if_neg (by omega)]
    ·exact (Below.heap_setCell W1 ⟨g,k,none⟩ _ lb (by simp;omega)).trans ((hW.block lb (lt_of_heap Hl.out)).trans Hl.out)
    exact (HB.out.trans (hW.mono (by have:=HB.out.size;have h9:=lt_of_heap Hl.out;omega))).setCell (by simp;omega) _
   have Hfin:=hidI fin;clear hY hZ fin;by_cases e:(k+1)*51≤X.size
   ·rw [Nat.min_eq_left e] at hpart;have ei:((k:Int)+1)*51≤(X.size:Int):=by omega
    have em:min (((k:Int)+1)*51) (X.size:Int)=((k:Int)+1)*51:=Int.min_eq_left ei;go_wp2_with fail;refine A.out.mono ?_;rintro e W3 ⟨rfl,hb3⟩;obtain ⟨q1,q2,q3,q4,q5⟩:=Hfin.out W3 hb3;clear Hfin;go_wp2;go_roundw
    case rel=>exact ⟨k+1,by omega,by go_num,q3,q4,q5⟩
    case measure=>simp [intOf];omega
   rw [Nat.min_eq_right (by omega)] at hpart;have ei:¬((k:Int)+1)*51≤(X.size:Int):=by omega
   have ei':(X.size:Int)<((k:Int)+1)*51:=by omega
   have em:min (((k:Int)+1)*51) (X.size:Int)=(X.size:Int):=Int.min_eq_right (by omega);go_wp2_with fail;refine A.out.mono ?_;rintro e W3 ⟨rfl,hb3⟩;obtain ⟨q1,q2,q3,q4,q5⟩:=Hfin.out W3 hb3;clear Hfin;go_wp2;go_roundw
   case rel=>exact ⟨k+1,by omega,by go_num,q3,q4,q5⟩
   case measure=>simp [intOf];omega
  have hkK:k=K:=by omega
  subst hkK;go_wp2;go_ret
  exact ⟨g,rfl,Nat.le_of_lt hlg,Hrw.out.congr fun i hi=>by rw [if_pos hi],HB.out⟩
end Go.Proofs.YtodmdkhdbfbfgaaGreatDoor
namespace Go.Proofs.YtodmdkhdbfbfgaaGreatDoor.S1
open Go.RowKit Pk
open Go.Nt (nxt pagesN splitR pageB pgOf)
def numN (m:M) (v0:Lv) (S:Nat→Nat→Bool):Nat:=nxt (S (badN m)) ((v0.nn+1)%4294967296)
def addS (m:M) (v0:Lv) (S:Nat→Nat→Bool) (K Q:Nat→Bool) (b p:Nat) (t:List UInt8):LS:=layF K ⟨splitR (badN m) (numN m v0 S) t,m,Q,b,p,fun _=>false⟩
def AddYes (w:World) (lo hi cb lb:Nat) (L:Loc) (v0:Lv) (kv qv:Option Nat) (nq:Nat) (m:M) (S:Nat→Nat→Bool) (s:LS) (e:Ending) (w':World):Prop:=
 ∃ ib nk tb nt,e=.returned (.int .i64 0)∧LogM w' lo hi cb lb L ⟨badN m,numN m v0 S,some tb⟩ (some ib) qv nk nq s.m s.S s.Q s.b s.p∧LbAt w' tb nt S∧nt≤100000∧¬LogS lo hi lb (some ib) qv tb∧Fm (LogS lo hi lb kv qv) w w'∧w.heap.size≤ib∧(v0.tk=some tb∨w.heap.size≤tb)
def AddNo (w:World) (lo hi cb lb:Nat) (L:Loc) (v0:Lv) (kv qv:Option Nat) (nk nq:Nat) (m:M) (K:Nat→Bool) (b:Nat) (s:LS) (e:Ending) (w':World):Prop:=
 e=.returned (.int .i64 (if s.m.life=0 then 10 else 9))∧LogM w' lo hi cb lb L ⟨v0.nb,v0.nn,none⟩ kv qv nk nq s.m K s.Q b m.np∧Fm (LogS lo hi lb kv qv) w w'
def qmB (w:World) (lo hi cb lb:Nat) (L:Loc) (v0:Lv) (kv qv:Option Nat) (nk nq:Nat) (m:M) (K Q:Nat→Bool) (b p:Nat) (S:Nat→Nat→Bool) (t:List UInt8) (e:Ending) (w':World):Prop:=
 (mayE m t.length≠0→e=.returned (.int .i64 (mayE m t.length))∧w'=w) ∧
 (mayE m t.length=0→(addS m v0 S K Q b p t).left=[]→AddYes w lo hi cb lb L v0 kv qv nq m S (addS m v0 S K Q b p t) e w') ∧
 (mayE m t.length=0→(addS m v0 S K Q b p t).left≠[]→AddNo w lo hi cb lb L v0 kv qv nk nq m K b (addS m v0 S K Q b p t) e w')
theorem qia {w:World} {g b n:Nat} {t:List UInt8} (h:Rw w g 9 (pagesN t.length) (fun k=>.string (Go.Proofs.YtodmdkhdbfbfgaaGreatDoor.txt (pageB (pgOf b n t k))))):Txts w g 0 (splitR b n t):=by
 intro k x hx;unfold splitR at hx;rw [List.getElem?_map] at hx;cases hk:(List.range (pagesN t.length))[k]? with
 | none=>rw [hk] at hx;cases hx
 | some j =>
   rw [hk] at hx;have hlt:k<pagesN t.length:=by have:=(List.getElem?_eq_some_iff.1 hk).1;simpa using this
   have hj:j=k:=by
    rw [List.getElem?_range hlt] at hk;cases hk;rfl
   subst hj;cases hx
   rw [Nat.zero_add];exact h.cell hlt
theorem qeO (b n:Nat) (t:List UInt8):∀ x∈splitR b n t,x.length=64:=by
 intro x hx;unfold splitR at hx;obtain ⟨k,hk,rfl⟩:=List.mem_map.1 hx;exact Go.Nt.pageB_length _ (by simp [pgOf];omega)
theorem qjK (K:Nat→Bool):∀ (k:Nat) (s:LS),(layN K k s).m.np=s.m.np∧(layN K k s).m.nb=s.m.nb
 | 0,s=>⟨rfl,rfl⟩
 | k+1,s=>by
   rw [layN]
   split
   ·exact ⟨rfl,rfl⟩
   obtain ⟨h1,h2,_⟩:=qiZ K s;obtain ⟨h3,h4⟩:=qjK K k (lay1 K s);exact ⟨h3.trans h2,h4.trans h1⟩
theorem qm6 (K:Nat→Bool) (s:LS):(layF K s).m.np=s.m.np:=by
 unfold layF lay0;rw [(qjK K _ _).1]
 split
 ·exact (qiV s).2.1
 rfl
theorem qhi {m:M} (h:WF m):roomP m≤256:=by
 have h1:=qmX m;have h2:=h.nb2;have h3:=h.np2;unfold roomP;exact Nat.mul_le_mul (show good m/2≤16 by omega) h3
theorem LogM.keep {w:World} {lo hi cb lb:Nat} {L:Loc} {v:Lv} {kv qv:Option Nat} {nk nq:Nat} {m:M} {K Q:Nat→Bool} {b p:Nat} (h:LogM w lo hi cb lb L v kv qv nk nq m K Q b p) {ib n:Nat} {S:Nat→Bool} (hI:BlAt w ib n S) (hn:¬LogS lo hi lb kv qv ib) :
 LogM (w.setCell ⟨lb,3,none⟩ (.map (some ib))) lo hi cb lb L v (some ib) qv n nq m S Q b p:=by
 have e:∀ k,k≠lb→(w.setCell ⟨lb,3,none⟩ (.map (some ib))).heap[k]? = w.heap[k]? := fun k hk=>Below.heap_setCell w ⟨lb,3,none⟩ _ k hk
 have hne:ib≠lb:=fun e=>hn (.inr (.inl e))
 exact ⟨h.log.set2 (some ib),MemX.of_blocks h.chip fun k h1 h2=>e k (fun e'=>h.al (by subst e';exact ⟨h1,h2⟩)),h.wf,.inr ⟨ib,rfl,hI.of_block (e ib hne)⟩,h.clean.of_blocks fun g hg _=>e g (h.aq g hg).1,fun g hg=>by cases hg;exact ⟨hne,fun hr=>hn (.inl hr)⟩,h.aq,fun g hg hq=>by cases hg;exact hn (.inr (.inr (.inr hq))),h.al,by have:=h.sz;simpa using this⟩
theorem LogM.label {w:World} {lo hi cb lb:Nat} {L:Loc} {v:Lv} {kv qv:Option Nat} {nk nq:Nat} {m:M} {K Q:Nat→Bool} {b p:Nat} (h:LogM w lo hi cb lb L v kv qv nk nq m K Q b p) (x y:Nat) :
 LogM ((w.setCell ⟨lb,1,none⟩ (.int .i64 (x:Nat))).setCell ⟨lb,2,none⟩ (.int .u32 (y:Nat))) lo hi cb lb L ⟨x,y,v.tk⟩ kv qv nk nq m K Q b p:=by
 have h1:LogM (w.setCell ⟨lb,1,none⟩ (.int .i64 (x:Nat))) lo hi cb lb L ⟨x,v.nn,v.tk⟩ kv qv nk nq m K Q b p:=h.field (heap_setCell_same w lb 1 _ 132 _ h.log);exact h1.field (heap_setCell_same _ lb 2 _ 132 _ h1.log)
theorem LogM.untake {w:World} {lo hi cb lb:Nat} {L:Loc} {v:Lv} {kv qv:Option Nat} {nk nq:Nat} {m:M} {K Q:Nat→Bool} {b p:Nat} (h:LogM w lo hi cb lb L v kv qv nk nq m K Q b p) :
 LogM (w.setCell ⟨lb,4,none⟩ (.map none)) lo hi cb lb L ⟨v.nb,v.nn,none⟩ kv qv nk nq m K Q b p:=h.field (h.log.setT none)
theorem qjz (w:World) (lo hi cb lb:Nat) (L:Loc) (v0:Lv) (kv qv:Option Nat) (nk nq:Nat) (m:M) (K Q:Nat→Bool) (b p:Nat) (S:Nat→Nat→Bool) (t:List UInt8) (h:LogM w lo hi cb lb L v0 kv qv nk nq m K Q b p) (hb:b<1000) (hp:p≤m.np) (ht:t.length≤1000000)
 (hnum:numN m v0 S<4294967296) (hnext:mayE m t.length=0→Calls Tryz.prog 127 #[.pointer (some ⟨lb,0,none⟩)] w fun e w'=>qeH w lo hi cb lb L v0 kv qv nk nq m K Q b p S e w') :
 Calls Tryz.prog 78 #[.pointer (some ⟨lb,0,none⟩),.string (txt t)] w fun e w'=>qmB w lo hi cb lb L v0 kv qv nk nq m K Q b p S t e w':=by
 have HM:=hidI (qjA w lo hi cb L m t h.wf h.chip (by omega));have c0:=h.log.c0;have c4:=h.log.c4;obtain ⟨X,hX⟩:∃ X,X=txt t:=⟨_,rfl⟩;rw [←hX] at HM ⊢;have HX:=hidI hX;by_cases hme:mayE m t.length=0
 ·rw [hme] at HM;have hroom:pagesN t.length≤roomP m:=by
   unfold mayE at hme
   split at hme
   ·omega
   split at hme
   ·omega
   omega
  have hr256:=qhi h.wf;have hbn:=badN_le m;have h32:=h.wf.nb2;have H0:=hidI h;have HN:=hidI (hnext hme);obtain ⟨bn,hbne⟩:∃ bn,bn=badN m:=⟨_,rfl⟩;obtain ⟨kn,hkne⟩:∃ kn,kn=numN m v0 S:=⟨_,rfl⟩;rw [←hbne] at hbn;rw [←hkne] at hnum;have Hbn:=hidI hbne;have Hkn:=hidI hkne;obtain ⟨np,hnpe⟩:∃ np,np=pagesN t.length:=⟨_,rfl⟩;rw [←hnpe] at hroom;have Hnp:=hidI hnpe;obtain ⟨s,hs⟩:∃ s,s=addS m v0 S K Q b p t:=⟨_,rfl⟩;have Hs:=hidI hs;have HsNp:Hid (s.m.np=m.np):=hidI (by rw [hs];exact qm6 K _);have Hme:=hidI hme;clear h hnext hbne hkne hX hnpe hs hme;go_enter Tryz.func78,Tryz.ntmps78
  go_wp2_with (first | (go_at_call 74;refine HM.out.mono ?_;rintro e w' ⟨rfl,hw⟩;have hw':=hw.symm;subst hw';clear hw) | fail);refine HN.out.mono ?_;rintro e W1 ⟨tb,nt,rfl,hL1,hT1,hnt,hts,htk,hF1⟩;rw [←Hbn.out];rw [show nxt (S bn) ((v0.nn+1)%4294967296)=kn by rw [Hkn.out,Hbn.out];rfl];obtain ⟨W2,hW2⟩:∃ W2,W2=W1.alloc (.map #[] 0):=⟨_,rfl⟩;have hmk:=make92 W1;rw [←hW2] at hmk;have hI2:BlAt W2 W1.heap.size 0 (fun _=>false):=by rw [hW2];exact qgk W1
  have hB2:Below W1.heap.size W1 W2:=by rw [hW2];exact (Below.refl _ W1).alloc (Nat.le_refl _) _
  obtain ⟨W3,hW3⟩:∃ W3,W3=W2.alloc (.cells #[.int .i64 (bn:Nat),.int .u32 (kn:Nat)] 90):=⟨_,rfl⟩;have hB3:Below W2.heap.size W2 W3:=by rw [hW3];exact (Below.refl _ W2).alloc (Nat.le_refl _) _
  obtain ⟨ib,hib⟩:∃ ib,ib=W1.heap.size:=⟨_,rfl⟩;obtain ⟨nb_,hnb_⟩:∃ nb_,nb_=W2.heap.size:=⟨_,rfl⟩;rw [←hib] at hmk hI2;have hs2:W2.heap.size=W1.heap.size+1:=by rw [hW2];simp
  have hR3:W3.heap[nb_]? = some (.cells #[.int .i64 (bn:Nat),.int .u32 (kn:Nat)] 90 (0,0)):=by rw [hW3,hnb_];exact heap_alloc_new _ _
  have hL3:=(hL1.new hB2).new hB3;have hI3:=hI2.of_block (hB3.block ib (by omega));have hT3:=(hT1.of_block (hB2.block tb hT1.lt)).of_block (hB3.block tb (by have:=hT1.lt;omega));have hB13:Below W1.heap.size W1 W3:=hB2.trans (hB3.mono (by omega));have r0:W3.cell? ⟨nb_,0,none⟩=some (.int .i64 (bn:Nat)):=by rw [cell_of_row W3 nb_ 0 _ 90 (0,0) hR3];rfl
  have r1:W3.cell? ⟨nb_,1,none⟩=some (.int .u32 (kn:Nat)):=by rw [cell_of_row W3 nb_ 1 _ 90 (0,0) hR3];rfl
  have HSp:=hidI (qhB bn kn t W3 (by omega) hnum ht);rw [show Go.Proofs.YtodmdkhdbfbfgaaGreatDoor.txt t=X from HX.out.symm] at HSp;unfold lbv at HSp;have HW3:=hidI hW3;have Hnb_:=hidI hnb_;have Hib:Hid (W1.heap.size≤ib∧ib<W3.heap.size∧ib≠nb_):=hidI ⟨by omega,hI3.lt,by omega⟩;have HL3:=hidI hL3;have HI3:=hidI hI3;have HT3:=hidI hT3;have HR3:=hidI hR3;have HLw:Hid (∀ k,LogS lo hi lb kv qv k→k<W1.heap.size):=hidI (fun k hk=>qen hL1 hk);have Htb:Hid (tb<W1.heap.size):=hidI hT1.lt;have HW1w:Hid (w.heap.size≤W1.heap.size):=hidI hF1.size;have HnbW:Hid (W1.heap.size≤nb_):=hidI (by omega);have HF3:Hid (Fm (LogS lo hi lb kv qv) w W3):=hidI ((hF1.mono fun k _ hk=>.inr (.inl hk)).trans (Fm.of_new hB13));have Hts:=hidI hts;have Htk:=hidI htk;have Hnt:=hidI hnt;clear hL1 hT1 htk hF1 hW2 hI2 hB2 hW3 hB3 hib hnb_ hs2 hR3 hL3 hI3 hT3 hB13 hts hnt HM HN
  go_wp2_with (first | (rw [←HW3.out,←Hnb_.out]) | fail);refine HSp.out.mono ?_;rintro e W4 ⟨g,rfl,hg,hRw,hB4⟩;rw [←Hnp.out];have hgW:W3.heap.size≤g:=hg;have hT4:Txts W4 g 0 (splitR bn kn t):=qia hRw;have hL4:=HL3.out.new hB4;have hI4:=HI3.out.of_block (hB4.block ib Hib.out.2.1);have hR4:=(hB4.block nb_ (lt_of_heap HR3.out)).trans HR3.out;have hTb4:=HT3.out.of_block (hB4.block tb HT3.out.lt);have hnotI:¬LogS lo hi lb kv qv ib:=fun hk=>by have:=HLw.out ib hk;have:=Hib.out.1;omega
  have h13:W1.heap.size≤W3.heap.size:=by have:=Hib.out;omega
  have hnotG:¬LogS lo hi lb kv qv g:=fun hk=>by have:=HLw.out g hk;omega
  have hgi:g≠ib:=by have:=Hib.out.2.1;omega
  have hsl:(splitR bn kn t).length=np:=by rw [Go.Nt.splitR_length];exact Hnp.out.symm
  have hA:=qmV W4 lo hi cb lb L ⟨v0.nb,v0.nn,some tb⟩ kv qv nk nq K ⟨splitR bn kn t,m,Q,b,p,fun _=>false⟩ ib 0 g 0 np hL4 hb hp hI4 (by show 0+40*(splitR bn kn t).length≤_;rw [hsl];omega) ⟨hnotI,hnotG,hgi⟩ hT4 (fun x hx=>Nat.le_of_eq (qeO bn kn t x hx)) (by show (splitR bn kn t).length≤_;rw [hsl];exact Nat.le_refl _) (by omega);have hse:layF K ⟨splitR bn kn t,m,Q,b,p,fun _=>false⟩=s:=by rw [Hs.out,Hbn.out,Hkn.out];rfl
  rw [hse] at hA;have hA':Calls Tryz.prog 128 #[.pointer (some ⟨lb,0,none⟩),.slice (some ⟨g,0,none⟩) np np,.map (some ib)] W4 fun e w'=>qfX W4 lo hi cb lb L ⟨v0.nb,v0.nn,some tb⟩ kv qv nk nq K ib 0 ⟨splitR bn kn t,m,Q,b,p,fun _=>false⟩ s e w':=by
   have:=hA
   simp only [hsl] at this;exact this
  have HA:=hidI hA';have HR4:=hidI hR4;have HT4:=hidI hTb4;have HF4:Hid (Fm (LogS lo hi lb kv qv) w W4):=hidI (HF3.out.trans (Fm.of_new hB4));have HnI:=hidI hnotI;have Hib4:Hid (w.heap.size≤ib):=hidI (by have h1:=Hib.out.1;have:=HF3.out.size;have h2:=HLw.out lb (.inr (.inl rfl));exact Nat.le_trans (HW1w.out) h1);have Htbn:Hid (tb≠ib∧tb≠nb_):=hidI ⟨by have:=Htb.out;have:=Hib.out;omega,by have h1:=Htb.out;have h2:=HnbW.out;omega⟩;have hnbi:nb_≠ib:=fun e=>Hib.out.2.2 e.symm
  have hnbS:¬LogS lo hi lb kv qv nb_:=fun hk=>by have h1:=HLw.out nb_ hk;have h2:=HnbW.out;omega
  have hnbl:=lt_of_heap hR4;clear hA hA' hse hT4 hL4 hI4 hR4 hTb4 hnotI hnotG hgi hsl hRw hB4 HSp HL3 HI3 HT3 HR3 HF3 r0 r1 c0 c4 hg hgW h13;go_wp2_with fail;refine HA.out.mono ?_;rintro e W5 ⟨rfl,hL5,hI5,hF5⟩;have hib5:=Hib.out;have HL5:=hidI hL5;have HI5:=hidI hI5;have HF5:Hid (Fm (LogS lo hi lb kv qv) w W5):=hidI (((HF4.out.mono (T:=fun k=>LogS lo hi lb kv qv k∨k=ib) fun k _ h=>.inl h).trans hF5).mono fun k hk h=>by
   rcases h with h | h
   ·exact h
   exfalso;have:=Hib4.out;omega)
  have hR5:=(hF5.block nb_ hnbl (fun h=>by
   rcases h with h | h
   ·exact hnbS h
   exact hnbi h)).trans HR4.out
  have HT5:=hidI (HT4.out.of_block (hF5.block tb HT4.out.lt (fun h=>by
   rcases h with h | h
   ·exact Hts.out h
   exact Htbn.out.1 h)))
  have r0:W5.cell? ⟨nb_,0,none⟩=some (.int .i64 (bn:Nat)):=by rw [cell_of_row W5 nb_ 0 _ 90 (0,0) hR5];rfl
  have r1:W5.cell? ⟨nb_,1,none⟩=some (.int .u32 (kn:Nat)):=by rw [cell_of_row W5 nb_ 1 _ 90 (0,0) hR5];rfl
  have n0:=hL5.log.n0;have n1:=hL5.log.n1;have k2:=hL5.log.c2;have t4:=hL5.log.t4;have d0:=hL5.log.c0;have d4:=hL5.log.c4;have d5:=hL5.log.c5;have f1:=hL5.log.fz 1;have f2:=hL5.log.fz 2;have f3:=hL5.log.fz 3;have f4:=hL5.log.fz 4;have f6:=hL5.log.fz 6;have f7:=hL5.log.fz 7;obtain ⟨z,hz⟩:∃ z,z=s.left.isEmpty:=⟨_,rfl⟩;rw [←hz];have Hz:=hidI hz;clear hL5 hI5 hF5 hR5 HA HR4 HT4 HF4 hz;cases z with
  | true =>
    have hle:s.left=[]:=List.isEmpty_iff.1 Hz.out.symm;obtain ⟨W6,hW6⟩:∃ W6,W6=((W5.setCell ⟨lb,1,none⟩ (.int .i64 (bn:Nat))).setCell ⟨lb,2,none⟩ (.int .u32 (kn:Nat))).setCell ⟨lb,3,none⟩ (.map (some ib)):=⟨_,rfl⟩;have eo:∀ j,j≠lb→((W5.setCell ⟨lb,1,none⟩ (.int .i64 (bn:Nat))).setCell ⟨lb,2,none⟩ (.int .u32 (kn:Nat))).heap[j]? = W5.heap[j]? := fun j hj=>(Below.heap_setCell _ ⟨lb,2,none⟩ _ j hj).trans (Below.heap_setCell _ ⟨lb,1,none⟩ _ j hj)
    have hibl:ib≠lb:=fun e=>HnI.out (.inr (.inl e))
    have htbl:tb≠lb:=fun e=>Hts.out (.inr (.inl e))
    have HL6:=hidI ((HL5.out.label bn kn).keep (HI5.out.of_block (eo ib hibl)) HnI.out);have HT6:=hidI (HT5.out.of_block (w':=W6) (by rw [hW6];exact (Below.heap_setCell _ ⟨lb,3,none⟩ _ tb htbl).trans (eo tb htbl)));have HF6:Hid (Fm (LogS lo hi lb kv qv) w W6):=hidI (by rw [hW6];exact ((HF5.out.set (g:=lb) (fun _=>.inr (.inl rfl)) 1 _).set (g:=lb) (fun _=>.inr (.inl rfl)) 2 _).set (g:=lb) (fun _=>.inr (.inl rfl)) 3 _);rw [←hW6] at HL6;have HW6:=hidI hW6;have Hle:=hidI hle;clear eo hW6 hle;go_wp2_with fail;go_ret
    rw [←HW6.out];refine ⟨fun h=>absurd Hme.out h,fun _ _ => ?_,fun _ h=>absurd (by rw [←Hs.out];exact Hle.out) h⟩;rw [←Hs.out];refine ⟨ib,0+40*(splitR bn kn t).length,tb,nt,rfl,?_,HT6.out,Hnt.out,?_,HF6.out,Hib4.out,Htk.out⟩
    ·rw [←Hbn.out,←Hkn.out];exact HL6.out
    intro h;rcases h with h | h | h | h
    ·exact Hts.out (.inl h)
    ·exact htbl h
    ·cases h;exact Htbn.out.1 rfl
    exact Hts.out (.inr (.inr (.inr h)))
  | false =>
    have hle:s.left≠[]:=fun h=>by have:=Hz.out;rw [h] at this;cases this
    have HP:=hidI (pages_any W5 lo hi cb L s.m HL5.out.chip);rw [show s.m.np=m.np from HsNp.out] at HP;obtain ⟨W6,hW6⟩:∃ W6,W6=((W5.setCell ⟨lb,4,none⟩ (.map none)).setCell ⟨lb,6,none⟩ (.int .i64 (b:Nat))).setCell ⟨lb,7,none⟩ (.int .i64 (m.np:Nat)):=⟨_,rfl⟩;have HL6:=hidI ((HL5.out.untake.set4 b).set5 m.np);rw [←hW6] at HL6;have HF6:Hid (Fm (LogS lo hi lb kv qv) w W6):=hidI (by rw [hW6];exact ((HF5.out.set (g:=lb) (fun _=>.inr (.inl rfl)) 4 _).set (g:=lb) (fun _=>.inr (.inl rfl)) 6 _).set (g:=lb) (fun _=>.inr (.inl rfl)) 7 _);have HD:=hidI (dead_any W6 lo hi cb L s.m HL6.out.chip);have d06:=HL6.out.log.c0;have HW6:=hidI hW6;have Hle:=hidI hle;clear hW6 hle;by_cases hd:s.m.life=0
    ·have hdb:(s.m.life==0)=true:=beq_iff_eq.2 hd;rw [hdb] at HD;go_wp2_with (first | (go_at_call 77;refine HP.out.mono ?_;rintro e w' ⟨rfl,hw⟩;have hw':=hw.symm;subst hw';clear hw) | (rw [←HW6.out]) | (go_at_call 25;refine HD.out.mono ?_;rintro e w' ⟨rfl,hw⟩;have hw':=hw.symm;subst hw';clear hw) | fail);go_ret
     refine ⟨fun h=>absurd Hme.out h,fun _ h=>absurd h (by rw [←Hs.out];exact Hle.out),fun _ _ => ?_⟩;rw [←Hs.out];exact ⟨by rw [if_pos hd];rfl,HL6.out,HF6.out⟩
    have hdb:(s.m.life==0)=false:=beq_eq_false_iff_ne.2 hd;rw [hdb] at HD;go_wp2_with (first | (go_at_call 77;refine HP.out.mono ?_;rintro e w' ⟨rfl,hw⟩;have hw':=hw.symm;subst hw';clear hw) | (rw [←HW6.out]) | (go_at_call 25;refine HD.out.mono ?_;rintro e w' ⟨rfl,hw⟩;have hw':=hw.symm;subst hw';clear hw) | fail);go_ret
    refine ⟨fun h=>absurd Hme.out h,fun _ h=>absurd h (by rw [←Hs.out];exact Hle.out),fun _ _ => ?_⟩;rw [←Hs.out];exact ⟨by rw [if_neg hd];rfl,HL6.out,HF6.out⟩
 obtain ⟨me,hmee⟩:∃ me,me=mayE m t.length:=⟨_,rfl⟩;rw [←hmee] at HM hme;have hmi:(me != 0)=true:=by simpa using hme
 have Hmee:=hidI hmee;clear h hnext hmee hX c4;go_enter Tryz.func78,Tryz.ntmps78
 go_wp2_with (first | (go_at_call 74;refine HM.out.mono ?_;rintro e w' ⟨rfl,hw⟩;have hw':=hw.symm;subst hw';clear hw) | fail);go_ret
 have h9:=Hmee.out;exact ⟨fun _=>⟨by rw [←h9];rfl,rfl⟩,fun h=>absurd (h9.trans h) hme,fun h=>absurd (h9.trans h) hme⟩
end Go.Proofs.YtodmdkhdbfbfgaaGreatDoor.S1
