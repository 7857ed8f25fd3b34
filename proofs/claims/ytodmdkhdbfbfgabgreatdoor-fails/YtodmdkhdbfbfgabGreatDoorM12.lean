/- Lemmas. -/
import Derived.Test.YtodmdkhdbfbfgabGreatDoorM11
set_option linter.unusedVariables false
set_option linter.unusedSimpArgs false
set_option maxRecDepth 100000
set_option maxHeartbeats 8000000
namespace Go.Proofs.YtodmdkhdbfbfgabGreatDoor.S1
open Go.RowKit Pk
structure Rdy (m:M) (Q:Nat→Bool) (b p:Nat):Prop where
 open_:p<m.np→b<m.nb∧m.bd b=false∧m.nx b=p∧Q b=false
 clean:∀ i,Q i=true→i<m.nb∧m.bd i=false∧m.nx i=0
theorem Rdy.shut (m:M) (Q:Nat→Bool) (b:Nat) (h:∀ i,Q i=true→i<m.nb∧m.bd i=false∧m.nx i=0):Rdy m Q b m.np:=⟨fun h=>absurd h (Nat.lt_irrefl _),h⟩
theorem qdo {m:M} (hw:WF m) {Q:Nat→Bool} {b p:Nat} {x:List UInt8} (h:Rdy m Q b p) (hp:p<m.np):Rdy (progA m (b:Nat) (p:Nat) x).2 Q b (if (progA m (b:Nat) (p:Nat) x).1 then p+1 else m.np):=by
 obtain ⟨h1,h2,h3,h4⟩:=h.open_ hp;have hq:∀ i,Q i=true→i≠b:=fun i hi e=>by rw [e,h4] at hi;cases hi
 rcases qaD m b p x hw with ⟨ht,_,_,_,_,_,_,e⟩ | ⟨hf,e | ⟨e,_⟩ | ⟨_,_,_,_,_,c,_,⟨e,_⟩ | ⟨e,_⟩⟩⟩
 ·rw [ht,if_pos rfl,e];refine ⟨fun _=>⟨h1,h2,if_pos rfl,h4⟩,fun i hi => ?_⟩;obtain ⟨a1,a2,a3⟩:=h.clean i hi;exact ⟨a1,a2,(if_neg (hq i hi)).trans a3⟩
 ·rw [hf];simp only [Bool.false_eq_true,if_false];rw [e];exact Rdy.shut m Q b h.clean
 ·rw [hf];simp only [Bool.false_eq_true,if_false];rw [e];exact Rdy.shut (tick m) Q b h.clean
 ·rw [hf];simp only [Bool.false_eq_true,if_false];rw [e];refine ⟨fun hlt=>absurd hlt (Nat.lt_irrefl _),fun i hi => ?_⟩;obtain ⟨a1,a2,a3⟩:=h.clean i hi;exact ⟨a1,a2,(if_neg (hq i hi)).trans a3⟩
 rw [hf];simp only [Bool.false_eq_true,if_false];rw [e];refine ⟨fun hlt=>absurd hlt (Nat.lt_irrefl _),fun i hi => ?_⟩;obtain ⟨a1,a2,a3⟩:=h.clean i hi;exact ⟨a1,(if_neg (hq i hi)).trans a2,(if_neg (hq i hi)).trans a3⟩
theorem qbC {Q:Nat→Bool} (b:Nat):∀ (l:List (List UInt8)) (m:M) (p:Nat) (S:Nat→Bool),WF m→Rdy m Q b p→Rdy (progL b l m p S).2.1 Q b (progL b l m p S).2.2.1
 | [],m,p,S,_,h=>h
 | x :: xs,m,p,S,hw,h=>by
   rw [progL]
   split
   ·rename_i hp;have hr:=qdo (x:=x) hw h hp
    split
    ·rename_i ht;rw [ht,if_pos rfl] at hr;exact qbC b xs _ _ _ (qaY hw _ _ _) hr
    rename_i ht;rw [if_neg ht] at hr;exact hr
   exact h
theorem qdy {m:M} (hw:WF m) (K:Nat→Bool) {Q:Nat→Bool} {b p:Nat} (h:Rdy m Q b p):Rdy (openF m K Q b).2.1 (openF m K Q b).2.2.1 ((b+1)%m.nb) (openF m K Q b).2.2.2:=by
 have hn:=hw.nb1;have hlt:(b+1)%m.nb<m.nb:=Nat.mod_lt _ (by omega);unfold openF
 split
 ·exact Rdy.shut m Q _ h.clean
 split
 ·rename_i hQ;obtain ⟨a1,a2,a3⟩:=h.clean _ hQ;refine ⟨fun _=>⟨a1,a2,a3,by simp⟩,fun i hi=>h.clean i ?_⟩;simp only [Bool.and_eq_true] at hi;exact hi.2
 rename_i hQ;have hq:∀ i,Q i=true→i≠(b+1)%m.nb:=fun i hi e=>hQ (by rw [←e];exact hi)
 rcases qa1 m ((b+1)%m.nb) with ⟨ht,_,hb,_,e⟩ | ⟨hf,⟨e,_⟩ | ⟨e,_⟩ | ⟨_,_,⟨e,_⟩ | ⟨⟨k,e⟩,_⟩⟩⟩
 ·rw [ht,if_pos rfl];simp only [];rw [e];refine ⟨fun _=>⟨hlt,hb,if_pos rfl,by simp⟩,fun i hi => ?_⟩;simp only [Bool.and_eq_true] at hi;obtain ⟨a1,a2,a3⟩:=h.clean i hi.2;exact ⟨a1,a2,(if_neg (hq i hi.2)).trans a3⟩
 all_goals
  rw [hf];simp only [Bool.false_eq_true,if_false];rw [e]
 ·exact Rdy.shut m Q _ h.clean
 ·exact Rdy.shut (tick m) Q _ h.clean
 ·refine ⟨fun hl=>absurd hl (Nat.lt_irrefl _),fun i hi => ?_⟩;obtain ⟨a1,a2,a3⟩:=h.clean i hi;exact ⟨a1,(if_neg (hq i hi)).trans a2,a3⟩
 refine ⟨fun hl=>absurd hl (Nat.lt_irrefl _),fun i hi => ?_⟩;obtain ⟨a1,a2,a3⟩:=h.clean i hi;exact ⟨a1,a2,(if_neg (hq i hi)).trans a3⟩
theorem qkr {m:M} (h:m.fail<0):(tick m).fail=m.fail∧(m.life=0→(tick m).life=0):=by
 unfold tick callF;refine ⟨?_,fun h0 => ?_⟩
 ·repeat' split
  all_goals first | rfl | omega
 rw [if_pos h0];exact h0
theorem qmW {m:M} (hw:WF m) (hf:m.fail<0) {b p:Nat} {x:List UInt8} (hb:b<m.nb) (hbd:m.bd b=false) (hp:p=m.nx b) (hn:p<m.np) (hx:x.length=64) :
 (progA m (b:Nat) (p:Nat) x).2.fail<0∧(progA m (b:Nat) (p:Nat) x).2.bd=m.bd∧((progA m (b:Nat) (p:Nat) x).1=true∨(progA m (b:Nat) (p:Nat) x).2.life=0):=by
 have ht:=qkr hf;rcases qaD m b p x hw with ⟨h1,_,_,_,_,_,_,e⟩ | ⟨h1,e | ⟨e,h0⟩ | ⟨_,_,_,_,_,c,_,⟨e,h0⟩ | ⟨e,h0⟩⟩⟩
 ·refine ⟨by rw [e];show (tick m).fail<0;rw [ht.1];exact hf,by rw [e];rfl,.inl h1⟩
 ·have hm:mayP m (b:Nat) (p:Nat) x:=⟨by unfold badB hasB;simp [hb,hbd],by rw [hp];simp,by omega,hx⟩;refine ⟨by rw [e];exact hf,by rw [e],.inr ?_⟩;rw [e];unfold progA at h1 e;rw [if_pos hm] at h1 e;have h2:=congrArg M.nx e;unfold progF at h1 h2;simp only [Int.toNat_natCast] at h1 h2;rcases qaR m.life m.fail with hk | hk | hk | hk
  ·rw [if_pos hk] at h1;cases h1
  ·unfold callF at hk
   repeat' split at hk
   all_goals simp at hk
   all_goals omega
  ·rw [if_neg (by rw [hk];decide),if_neg (by rw [hk];decide),if_pos hk] at h2
   have:=congrFun h2 b
   have h3:(if b=b then p+1 else m.nx b)=m.nx b:=this;rw [if_pos rfl] at h3;omega
  unfold callF at hk
  repeat' split at hk
  all_goals simp at hk
  all_goals assumption
 ·refine ⟨by rw [e,ht.1];exact hf,by rw [e];rfl,.inr (by rw [e];exact ht.2 h0)⟩
 ·refine ⟨by rw [e];show (tick m).fail<0;rw [ht.1];exact hf,by rw [e];rfl,.inr (by rw [e];exact h0)⟩
 omega
theorem qeJ {m:M} (hf:m.fail<0) {b:Nat} (hb:b<m.nb) (hbd:m.bd b=false) :
 (eraA m (b:Nat)).2.fail<0∧(eraA m (b:Nat)).2.bd=m.bd∧((eraA m (b:Nat)).1=true∨(eraA m (b:Nat)).2.life=0):=by
 have ht:=qkr hf;rcases qa1 m b with ⟨h1,_,_,_,e⟩ | ⟨h1,⟨e,h0⟩ | ⟨e,h0⟩ | ⟨_,_,⟨e,h0⟩ | ⟨⟨k,e⟩,h0⟩⟩⟩
 ·exact ⟨by rw [e];show (tick m).fail<0;rw [ht.1];exact hf,by rw [e];rfl,.inl h1⟩
 ·rcases h0 with h0 | h0
  ·omega
  rw [hbd] at h0;cases h0
 ·exact ⟨by rw [e,ht.1];exact hf,by rw [e];rfl,.inr (by rw [e];exact ht.2 h0)⟩
 ·omega
 exact ⟨by rw [e];show (tick m).fail<0;rw [ht.1];exact hf,by rw [e];rfl,.inr (by rw [e];exact h0)⟩
theorem qg3 {m:M} {b:Nat} (hbd:m.bd b=true):eraA m (b:Nat)=(false,m):=by
 unfold eraA;rw [if_neg];unfold badB;simp [hbd]
theorem qcT {Q:Nat→Bool} (b:Nat):∀ (l:List (List UInt8)) (m:M) (p:Nat) (S:Nat→Bool),WF m→m.fail<0→Rdy m Q b p→(∀ x∈l,x.length=64) →
 (progL b l m p S).2.1.fail<0∧(progL b l m p S).2.1.bd=m.bd∧((progL b l m p S).2.1.life=0∨(progL b l m p S).1.length≤l.length - (m.np - p))
 | [],m,p,S,_,hf,_,_=>⟨hf,rfl,.inr (by simp [progL])⟩
 | x :: xs,m,p,S,hw,hf,h,hx=>by
   rw [progL]
   split
   ·rename_i hp;obtain ⟨h1,h2,h3,h4⟩:=h.open_ hp;obtain ⟨k1,k2,k3⟩:=qmW hw hf h1 h2 h3.symm hp (hx x (by simp));have hr:=qdo (x:=x) hw h hp
    split
    ·rename_i ht;rw [ht,if_pos rfl] at hr;obtain ⟨a1,a2,a3⟩:=qcT b xs _ (p+1) (fun j=>j==b||S j) (qaY hw _ _ _) k1 hr (fun y hy=>hx y (by simp [hy]));refine ⟨a1,a2.trans k2,?_⟩;rcases a3 with a3 | a3
     ·exact .inl a3
     right
     rw [qcS] at a3;refine Nat.le_trans a3 ?_;simp only [List.length_cons];omega
    rename_i ht;refine ⟨k1,k2,.inl ?_⟩;rcases k3 with k3 | k3
    ·exact absurd k3 ht
    exact k3
   exact ⟨hf,rfl,.inr (by simp only [];omega)⟩
def cntF (f:Nat→Bool) (n c:Nat):Nat→Nat
 | 0=>0
 | k+1=>cntF f n c k+if f ((c+k)%n) then 1 else 0
theorem qeo (f:Nat→Bool) (n c:Nat):∀ k,cntF f n (c+1) k+(if f (c%n) then 1 else 0)=cntF f n c (k+1)
 | 0=>by simp [cntF]
 | k+1=>by
   have ih:=qeo f n c k;rw [cntF,cntF,←ih,show c+1+k=c+(k+1) by omega];omega
theorem qd6 (f:Nat→Bool) (n:Nat):∀ c,cntF f n c n=cntF f n 0 n
 | 0=>rfl
 | c+1=>by
   have h1:=qeo f n c n;rw [cntF,Nat.add_mod_right] at h1
   have:=qd6 f n c
   omega
theorem qec (f:Nat→Bool) (n:Nat):∀ k,k≤n→cntF f n 0 k=(List.range k).countP f
 | 0,_=>rfl
 | k+1,hk=>by
   rw [cntF,qec f n k (by omega),List.range_succ,List.countP_append,Nat.zero_add,Nat.mod_eq_of_lt (by omega)];simp [List.countP_cons]
theorem qmz (f:Nat→Bool) (n c:Nat):cntF f n c n=(List.range n).countP f:=(qd6 f n c).trans (qec f n n (Nat.le_refl _))
structure LayG (m0:M) (K:Nat→Bool) (xs:List (List UInt8)) (b0 v:Nat) (s:LS):Prop where
 wf:WF s.m
 nb:s.m.nb=m0.nb
 np:s.m.np=m0.np
 b:s.b=(b0+v)%m0.nb
 fail:s.m.fail<0
 bd:s.m.bd=m0.bd
 rdy:Rdy s.m s.Q s.b s.p
 lens:∀ x∈s.left,x.length=64
 few:s.m.life=0∨s.left.length≤xs.length - m0.np*cntF (fun i => !K i && !m0.bd i) m0.nb (b0+1) v
theorem qfX (b:Nat):∀ (l:List (List UInt8)) (m:M) (p:Nat) (S:Nat→Bool),∀ x∈(progL b l m p S).1,x∈l
 | [],m,p,S,x,h=>h
 | y :: ys,m,p,S,x,h=>by
   rw [progL] at h
   split at h
   ·split at h
    ·exact List.mem_cons_of_mem _ (qfX b ys _ _ _ x h)
    exact h
   exact h
theorem LayG.round {m0:M} {K:Nat→Bool} {xs:List (List UInt8)} {b0 v:Nat} {s:LS} (h:LayG m0 K xs b0 v s) (hd:s.m.life≠0):LayG m0 K xs b0 (v+1) (lay1 K s):=by
 have hn1:=h.wf.nb1;have hb1:(s.b+1)%s.m.nb=(b0+(v+1))%m0.nb:=by
  rw [h.nb,h.b,Nat.add_mod,Nat.mod_mod,←Nat.add_mod,Nat.add_assoc]
 have hlt:(s.b+1)%s.m.nb<s.m.nb:=Nat.mod_lt _ (by omega);have hfew:=h.few.resolve_left hd;have hcnt:cntF (fun i => !K i && !m0.bd i) m0.nb (b0+1) (v+1)=cntF (fun i => !K i && !m0.bd i) m0.nb (b0+1) v+if (!K ((s.b+1)%s.m.nb) && !m0.bd ((s.b+1)%s.m.nb)) then 1 else 0:=by
  rw [cntF,hb1,show b0+1+v=b0+(v+1) by omega]
 obtain ⟨k1,k2,k3⟩:=qaQ s.m K s.Q s.b;have hro:=qdy h.wf K h.rdy;have hwo:=qbL h.wf K s.Q s.b;have hof:(openF s.m K s.Q s.b).2.1.fail<0∧(openF s.m K s.Q s.b).2.1.bd=s.m.bd:=by
  unfold openF
  split
  ·exact ⟨h.fail,rfl⟩
  split
  ·exact ⟨h.fail,rfl⟩
  cases hbd:s.m.bd ((s.b+1)%s.m.nb) with
  | true=>rw [qg3 hbd];exact ⟨h.fail,rfl⟩
  | false =>
    have:=qeJ h.fail hlt hbd
    split<;>exact ⟨this.1,this.2.1⟩
 unfold lay1
 split
 ·rename_i ho;have hp0:(openF s.m K s.Q s.b).2.2.2=0:=by
   unfold openF at ho ⊢
   repeat' split at ho
   all_goals first | cases ho | skip
   all_goals simp_all
  obtain ⟨q1,q2,q3,q4⟩:=qax ((s.b+1)%s.m.nb) s.left (openF s.m K s.Q s.b).2.1 (openF s.m K s.Q s.b).2.2.2 s.S;obtain ⟨a1,a2,a3⟩:=qcT (Q:=(openF s.m K s.Q s.b).2.2.1) ((s.b+1)%s.m.nb) s.left (openF s.m K s.Q s.b).2.1 (openF s.m K s.Q s.b).2.2.2 s.S hwo hof.1 hro h.lens;refine ⟨qbb _ _ _ _ _ hwo,(q1.trans k1).trans h.nb,(q2.trans k2).trans h.np,hb1,a1,a2.trans (hof.2.trans h.bd),qbC _ _ _ _ _ hwo hro,fun x hx=>h.lens x (qfX _ _ _ _ _ x hx),?_⟩;rcases a3 with a3 | a3
  ·exact .inl a3
  right
  have e9:(openF s.m K s.Q s.b).2.1.np - (openF s.m K s.Q s.b).2.2.2=m0.np:=by rw [hp0,k2,h.np];omega
  rw [e9] at a3;refine Nat.le_trans (show (LS.opn K s).prog.left.length≤s.left.length - m0.np from a3) ?_;rw [hcnt]
  split<;>simp only [Nat.mul_add,Nat.mul_one,Nat.mul_zero]<;>omega
 rename_i ho;refine ⟨hwo,k1.trans h.nb,k2.trans h.np,hb1,hof.1,hof.2.trans h.bd,hro,h.lens,?_⟩;rw [hcnt];by_cases hK:K ((s.b+1)%s.m.nb)=true
 ·right
  simp only [hK,Bool.not_true,Bool.false_and,Bool.false_eq_true,if_false,Nat.add_zero];exact hfew
 cases hbd:s.m.bd ((s.b+1)%s.m.nb) with
 | true =>
   right
   have hbd':m0.bd ((s.b+1)%s.m.nb)=true:=by rw [←h.bd];exact hbd
   simp only [hbd',Bool.not_true,Bool.and_false,Bool.false_eq_true,if_false,Nat.add_zero];exact hfew
 | false =>
   left
   have hn:=qeJ h.fail hlt hbd;show (openF s.m K s.Q s.b).2.1.life=0;unfold openF at ho ⊢;rw [if_neg hK] at ho ⊢
   split at ho
   ·exact absurd rfl ho
   rename_i hQ;rw [if_neg hQ]
   split at ho
   ·exact absurd rfl ho
   rename_i he;rw [if_neg he];exact hn.2.2.resolve_left he
theorem LayG.rounds {m0:M} {K:Nat→Bool} {xs:List (List UInt8)} {b0:Nat}:∀ (k v:Nat) (s:LS),LayG m0 K xs b0 v s→(layN K k s).m.life=0∨(layN K k s).left=[]∨LayG m0 K xs b0 (v+k) (layN K k s)
 | 0,v,s,h=>.inr (.inr h)
 | k+1,v,s,h=>by
   rw [layN]
   split
   ·rename_i hc;rcases hc with hc | hc
    ·exact .inr (.inl hc)
    exact .inl hc
   rename_i hc
   have:=LayG.rounds k (v+1) (lay1 K s) (h.round (fun e=>hc (.inr e)))
   rw [show v+(k+1)=v+1+k by omega];exact this
theorem qlE {m0:M} {K:Nat→Bool} {xs:List (List UInt8)} {b0:Nat} {s:LS} (h:LayG m0 K xs b0 0 s) (hr:xs.length≤m0.np*(List.range m0.nb).countP (fun i => !K i && !m0.bd i)):(layN K m0.nb s).m.life=0∨(layN K m0.nb s).left=[]:=by
 rcases LayG.rounds m0.nb 0 s h with h1 | h1 | h1
 ·exact .inl h1
 ·exact .inr h1
 rcases h1.few with h2 | h2
 ·exact .inl h2
 right
 rw [Nat.zero_add,qmz] at h2;exact List.eq_nil_of_length_eq_zero (by omega)
end Go.Proofs.YtodmdkhdbfbfgabGreatDoor.S1
namespace Go.Proofs.YtodmdkhdbfbfgabGreatDoor.S1
open Go.RowKit Pk
open Go.Nt (Fp lookF hasL scanF nxt dist Free nxt_free nxt_here qeF)
def numAt (w:World) (g:Nat):Nat:=match w.cell? ⟨g,1,none⟩ with
 | some (.int _ z)=>z.toNat
 | _=>0
def NextPost (w:World) (lo hi cb lb:Nat) (L:Loc) (v0:Lv) (kv qv:Option Nat) (nk nq:Nat) (m:M) (K Q:Nat→Bool) (b p:Nat) (S:Nat→Nat→Bool) (e:Ending) (w':World):Prop:=
 ∃ tb nt,e=.returned (.agg #[.int .i64 (badN m:Nat),.int .u32 (nxt (S (badN m)) ((v0.nn+1)%4294967296):Nat)])∧LogM w' lo hi cb lb L ⟨v0.nb,v0.nn,some tb⟩ kv qv nk nq m K Q b p∧LbAt w' tb nt S∧nt≤100000∧¬LogS lo hi lb kv qv tb∧(v0.tk=some tb∨w.heap.size≤tb)∧Fm (fun k=>k=lb) w w'
theorem logS_lt {w:World} {lo hi cb lb:Nat} {L:Loc} {v0:Lv} {kv qv:Option Nat} {nk nq:Nat} {m:M} {K Q:Nat→Bool} {b p:Nat} (h:LogM w lo hi cb lb L v0 kv qv nk nq m K Q b p) {k:Nat} (hk:LogS lo hi lb kv qv k):k<w.heap.size:=by
 rcases hk with ⟨_,h2⟩ | rfl | h3 | h3
 ·exact Nat.lt_of_lt_of_le h2 h.sz
 ·exact h.log.lt
 ·rcases h.kept with ⟨h4,_⟩ | ⟨g,h4,h5⟩
  ·rw [h4] at h3;cases h3
  rw [h4] at h3;cases h3;exact h5.lt
 rcases h.clean with ⟨h4,_⟩ | ⟨g,h4,h5⟩
 ·rw [h4] at h3;cases h3
 rw [h4] at h3;cases h3;exact h5.lt
end Go.Proofs.YtodmdkhdbfbfgabGreatDoor.S1
namespace Go.Proofs.YtodmdkhdbfbfgabGreatDoor
open Go.RowKit Go.Nt
theorem Tryz.info9s:(Tryz.prog.info? 9).map (fun i=>(i.zero,i.size,i.bytes))=some (some (.string ⟨#[]⟩),1,16):=by kernel_rfl
theorem qi5 (n:Nat) (hn:n≤100000):∃ cells:Array Value,(∀ W:World,(Instr.makeSlice 61 (.int .i64 (n:Nat)) (.int .i64 (n:Nat))).run Tryz.prog W=.ok (.slice (some ⟨W.heap.size,0,none⟩) n n) (W.alloc (.cells cells 9)))∧(∀ W:World,S1.Rw (W.alloc (.cells cells 9)) W.heap.size 9 n (fun _=>.string ⟨#[]⟩)):=
 ⟨madeCells #[Value.string ⟨#[]⟩] n,fun W=>run_make_row' (P:=Tryz.prog) 61 9 (.string ⟨#[]⟩) 16 Tryz.underlying61 Tryz.info9s rfl .i64 .i64 n (by omega) (by omega) W,fun W=>S1.rowIs_rw (World.rowIs_made W (.string ⟨#[]⟩) n 9)⟩
def lbv (b n:Nat):Value:=.agg #[.int .i64 (b:Nat),.int .u32 (n:Nat)]
def SplitP (b n:Nat) (t:Bs) (w:World) (e:Ending) (w':World):Prop:=
 ∃ g,e=.returned (.slice (some ⟨g,0,none⟩) (pagesN t.length) (pagesN t.length))∧w.heap.size≤g∧S1.Rw w' g 9 (pagesN t.length) (fun k=>.string (txt (pageB (pgOf b n t k))))∧Below w.heap.size w w'
theorem qh1 (b n:Nat) (t:Bs) (w:World) (hb:b<256) (hn:n<4294967296) (ht:t.length≤1000000) :
 Calls Tryz.prog 79 #[lbv b n,.string (txt t)] w fun e w'=>SplitP b n t w e w':=by
 have HPN:=hidI (fun W=>S1.pagesOf_any t W (by omega));have hK:pagesN t.length≤19608:=by unfold pagesN;omega
 obtain ⟨K,hKe⟩:∃ K,K=pagesN t.length:=⟨_,rfl⟩;have hKt:∀ k,k<K→k*51<t.length:=fun k hk=>by rw [hKe] at hk;unfold pagesN at hk;omega
 obtain ⟨X,hX⟩:∃ X,X=txt t:=⟨_,rfl⟩;have Sx:X.size=t.length:=by rw [hX,qaa]
 rw [←hX];have HPN':Hid (∀ W,Calls Tryz.prog 105 #[.string X] W fun e w'=>e=.returned (.int .i64 (K:Nat))∧w'=W):=hidI (by rw [hX,hKe];exact HPN.out);have Hpart:Hid (∀ k,k<K→X.extract (k*51) (min ((k+1)*51) X.size)=txt ((t.drop (k*51)).take 51)):=hidI (fun k hk=>by
  have:=hKt k hk
  rw [Sx,hX,qah]
  congr 1
  by_cases e:(k+1)*51≤t.length
  ·rw [Nat.min_eq_left e,show (k+1)*51 - k*51=51 by omega]
  rw [Nat.min_eq_right (by omega),List.take_of_length_le (by simp),List.take_of_length_le (by simp;omega)])
 have HPg:Hid (∀ k W,k<K→Calls Tryz.prog 114 #[.agg #[.int .i64 (b:Nat),.int .u32 (n:Nat),.int .i64 (k:Nat),.int .i64 (K:Nat),.string (txt ((t.drop (k*51)).take 51))]] W fun e w'=>e=.returned (.string (txt (pageB (pgOf b n t k))))∧Below W.heap.size W w'):=hidI (fun k W hk=>by
  have:=qio (pgOf b n t k) W hb hn (by show k<65536;omega) (by show pagesN t.length<65536;omega) (by simp [pgOf];omega)
  unfold pgv at this;rw [hKe];exact this)
 unfold SplitP;rw [←hKe];obtain ⟨cells,hmk,hrow⟩:=qi5 K (by omega);obtain ⟨W1,hW1⟩:∃ W1,W1=w.alloc (.cells #[.int .i64 (b:Nat),.int .u32 (n:Nat)] 74):=⟨_,rfl⟩;have r1:W1.heap[w.heap.size]? = some (.cells #[.int .i64 (b:Nat),.int .u32 (n:Nat)] 74 (0,0)):=by rw [hW1];exact heap_alloc_new _ _
 have hb1:Below w.heap.size w W1:=by rw [hW1];exact (Below.refl _ w).alloc (Nat.le_refl _) _
 have hs1:W1.heap.size=w.heap.size+1:=by rw [hW1];simp
 obtain ⟨W2,hW2⟩:∃ W2,W2=W1.alloc (.cells cells 9):=⟨_,rfl⟩;have hmk1:=hmk W1;have hrow2:=hrow W1;rw [←hW2] at hmk1 hrow2;have hb2:Below W1.heap.size W1 W2:=by rw [hW2];exact (Below.refl _ W1).alloc (Nat.le_refl _) _
 obtain ⟨g,hg⟩:∃ g,g=W1.heap.size:=⟨_,rfl⟩;obtain ⟨lb,hlb⟩:∃ lb,lb=w.heap.size:=⟨_,rfl⟩;rw [←hg] at hmk1 hrow2 hb2 hs1;rw [←hlb] at r1 hb1 hs1 ⊢;have hlg:lb<g:=by omega
 have r2:=(hb2.block lb hlg).trans r1;have HB2:=hidI (hb1.trans (hb2.mono (by omega)));have R2:=hidI r2;have HRow:=hidI (hrow2.congr (g:=fun k=>if k<0 then .string (txt (pageB (pgOf b n t k))) else .string ⟨#[]⟩) (fun i _=>by simp));have HW1:=hidI hW1;have Hlb:=hidI hlb;have Hg:=hidI hg;have hX6:X.size≤1000000:=by omega
 have HKt:Hid (∀ k,k<K→k*51<X.size):=hidI (by rw [Sx];exact hKt);have hK9:K≤19608:=by rw [hKe];exact hK
 clear hK HPN hKe hX Sx hW1 hW2 r1 r2 hb1 hb2 hrow hmk hs1 hg hlb hrow2 hKt;unfold lbv;go_enter Tryz.func79,Tryz.ntmps79
 go_wp2_with (first | (rw [←HW1.out]) | (rw [←Hlb.out]) | (go_at_call 105;refine (HPN'.out _).mono ?_;rintro e w' ⟨rfl,hw⟩;have hw':=hw.symm;subst hw';clear hw) | fail)
 go_loopw [13] (fun i wr=>∃ k:Nat,k≤K∧i=.int .i64 k∧Hid (S1.Rw wr g 9 K (fun j=>if j<k then .string (txt (pageB (pgOf b n t j))) else .string ⟨#[]⟩))∧Hid (wr.heap[lb]? = some (.cells #[.int .i64 (b:Nat),.int .u32 (n:Nat)] 74 (0,0)))∧Hid (Below lb w wr)) (fun i _=>K - (intOf i).toNat)
 case atStart=>exact ⟨0,Nat.zero_le _,rfl,HRow,R2,HB2⟩
 case round =>
  clear HRow R2 HB2 hmk1;obtain ⟨k,hk,rfl,Hrw,Hl,HB⟩:=hrel;by_cases hlt:k<K
  ·have c0:wr.cell? ⟨lb,0,none⟩=some (.int .i64 (b:Nat)):=by rw [cell_of_row wr lb 0 _ 74 (0,0) Hl.out];rfl
   have c1:wr.cell? ⟨lb,1,none⟩=some (.int .u32 (n:Nat)):=by rw [cell_of_row wr lb 1 _ 74 (0,0) Hl.out];rfl
   have hkx:=HKt.out k hlt;have A:=hidI (HPg.out k wr hlt);have hpart:=Hpart.out k hlt;obtain ⟨Y,hY⟩:∃ Y,Y=txt ((t.drop (k*51)).take 51):=⟨_,rfl⟩;rw [←hY] at A hpart;obtain ⟨Z,hZ⟩:∃ Z,Z=txt (pageB (pgOf b n t k)):=⟨_,rfl⟩;rw [←hZ] at A;have HZ:=hidI hZ;have hgw:g<wr.heap.size:=Hrw.out.lt;have fin:∀ W1:World,Below wr.heap.size wr W1→W1.cell? ⟨g,k,none⟩=some (.string ⟨#[]⟩)∧W1.frozen? ⟨g,k,none⟩=false∧Hid (S1.Rw (W1.setCell ⟨g,k,none⟩ (.string Z)) g 9 K (fun j=>if j<k+1 then .string (txt (pageB (pgOf b n t j))) else .string ⟨#[]⟩))∧Hid ((W1.setCell ⟨g,k,none⟩ (.string Z)).heap[lb]? = some (.cells #[.int .i64 (b:Nat),.int .u32 (n:Nat)] 74 (0,0)))∧Hid (Below lb w (W1.setCell ⟨g,k,none⟩ (.string Z))):=by
    intro W1 hW;have hr:=Hrw.out.of_block (hW.block g hgw);refine ⟨by have:=hr.cell hlt;simpa using this,hr.frozen k,hidI ((hr.set k (.string Z)).congr fun j hj => ?_),hidI ?_,hidI ?_⟩
    ·by_cases e:j=k
     ·subst e;rw [if_pos rfl,if_pos (by omega),HZ.out]
     by_cases e2:j<k
     ·rw [if_neg e,if_pos e2,if_pos (by omega)]
     rw [if_neg e,if_neg e2,if_neg (by omega)]
    ·exact (Below.heap_setCell W1 ⟨g,k,none⟩ _ lb (by simp;omega)).trans ((hW.block lb (lt_of_heap Hl.out)).trans Hl.out)
    exact (HB.out.trans (hW.mono (by have:=HB.out.size;have h9:=lt_of_heap Hl.out;omega))).setCell (by simp;omega) _
   have Hfin:=hidI fin;clear hY hZ fin;by_cases e:(k+1)*51≤X.size
   ·rw [Nat.min_eq_left e] at hpart;have ei:((k:Int)+1)*51≤(X.size:Int):=by omega
    have em:min (((k:Int)+1)*51) (X.size:Int)=((k:Int)+1)*51:=Int.min_eq_left ei;go_wp2_with fail;refine A.out.mono ?_;rintro e W3 ⟨rfl,hb3⟩;obtain ⟨q1,q2,q3,q4,q5⟩:=Hfin.out W3 hb3;clear Hfin;go_wp2;go_roundw
    case rel=>exact ⟨k+1,by omega,by go_num,q3,q4,q5⟩
    case measure=>simp [intOf];omega
   rw [Nat.min_eq_right (by omega)] at hpart;have ei:¬((k:Int)+1)*51≤(X.size:Int):=by omega
   have ei':(X.size:Int)<((k:Int)+1)*51:=by omega
   have em:min (((k:Int)+1)*51) (X.size:Int)=(X.size:Int):=Int.min_eq_right (by omega);go_wp2_with fail;refine A.out.mono ?_;rintro e W3 ⟨rfl,hb3⟩;obtain ⟨q1,q2,q3,q4,q5⟩:=Hfin.out W3 hb3;clear Hfin;go_wp2;go_roundw
   case rel=>exact ⟨k+1,by omega,by go_num,q3,q4,q5⟩
   case measure=>simp [intOf];omega
  have hkK:k=K:=by omega
  subst hkK;go_wp2;go_ret
  exact ⟨g,rfl,Nat.le_of_lt hlg,Hrw.out.congr fun i hi=>by rw [if_pos hi],HB.out⟩
end Go.Proofs.YtodmdkhdbfbfgabGreatDoor
