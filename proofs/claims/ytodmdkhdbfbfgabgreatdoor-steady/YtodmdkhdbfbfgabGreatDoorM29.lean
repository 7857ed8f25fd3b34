/- Lemmas. -/
import Derived.Deep.RegionLaw
import Derived.Test.YtodmdkhdbfbfgabGreatDoorM28
set_option linter.unusedVariables false
set_option linter.unusedSimpArgs false
set_option maxRecDepth 100000
set_option maxHeartbeats 8000000
namespace Go.Proofs.YtodmdkhdbfbfgabGreatDoor
open Go.RowKit Go.Nt
theorem Turn.own {rb:Nat} {a b:World} (h:Turn rb a b) {x:Array Value} {T:TypeId} {f:Nat × Nat} (hrb:a.heap[rb]? = some (.cells x T f)) {base e s n:Nat} {v:Value} {xs:List Value} (ho:a.ownsRow base e s v n xs) (hne:e≠T):b.ownsRow base e s v n xs:=by
 refine ⟨ho.1,?_⟩;rcases ho.2 with ⟨rfl,h0⟩ | ⟨g,cap,cur,rfl,h1,hh,h2⟩
 ·exact .inl ⟨rfl,h0⟩
 ·refine .inr ⟨g,cap,cur,rfl,h1,(h.block g (qaa hh) (fun e' => ?_)).trans hh,h2⟩;subst e';rw [hrb] at hh;cases hh
  exact hne rfl
theorem RdAt.grown {w w':World} {rb:Nat} {r:Rd} (h:RdAt w rb r) {base n s:Nat} {v:Value} {xs:List Value} (hown:w.ownsRow base 53 s v n xs) (hg:w.grownBy w' v.ownBlock):RdAt w' rb r:=
 ((But.refl 53 w).grown hown hg).cells h (by decide)
theorem qeS (k:Nat) (r:Rd):(nmb k r).2.1.length≤r.1.length:=(qbj k r).2
theorem qid (u:Bs→Option Bs) (r:Rd):(rdItem u r).2.1.length≤r.1.length:=by
 unfold rdItem;simp only;have h1:=qeS 2 r;have h2:=qeS 4 (nmb 2 r).2;have h3:=qeS 1 (nmb 4 (nmb 2 r).2).2;have h4:=(qbj (nmb 1 (nmb 4 (nmb 2 r).2).2).1 (nmb 1 (nmb 4 (nmb 2 r).2).2).2).2;by_cases hk:32768≤(nmb 2 r).1
 ·rw [if_pos hk];simp only;omega
 ·rw [if_neg hk];have h5:=qeS 2 (Go.Nt.tk (nmb 1 (nmb 4 (nmb 2 r).2).2).1 (nmb 1 (nmb 4 (nmb 2 r).2).2).2).2;have h6:=(qbj (nmb 2 (Go.Nt.tk (nmb 1 (nmb 4 (nmb 2 r).2).2).1 (nmb 1 (nmb 4 (nmb 2 r).2).2).2).2).1 (nmb 2 (Go.Nt.tk (nmb 1 (nmb 4 (nmb 2 r).2).2).1 (nmb 1 (nmb 4 (nmb 2 r).2).2).2).2).2).2;simp only;omega
theorem qif {u:Bs→Option Bs} (hu:∀ t d:Bs,u t=some d→d.length≤4000) (r:Rd):(rdItem u r).1.path.length≤255∧(rdItem u r).1.data.length≤4000:=by
 unfold rdItem;simp only;have hp:(Go.Nt.tk (nmb 1 (nmb 4 (nmb 2 r).2).2).1 (nmb 1 (nmb 4 (nmb 2 r).2).2).2).1.length≤255:=by
  have h1:=(qbj (nmb 1 (nmb 4 (nmb 2 r).2).2).1 (nmb 1 (nmb 4 (nmb 2 r).2).2).2).1;have h2:=qd9 1 (nmb 4 (nmb 2 r).2).2;omega
 by_cases hk:32768≤(nmb 2 r).1
 ·rw [if_pos hk];exact ⟨hp,by simp⟩
 ·rw [if_neg hk];refine ⟨hp,?_⟩;simp only;cases h:u _ with
  | none=>simp
  | some d=>simpa using hu _ d h
def FromP (u:Bs→Option Bs) (t:Bs) (w:World) (e:Ending) (w':World):Prop:=
 Below w.heap.size w w' ∧
  ((e=.returned (.tuple #[.map none,.bool false])∧∀ l,parse u t=some l→isTree l=false) ∨
  ∃ l b,parse u t=some l∧isTree l=true∧e=.returned (.tuple #[.map (some b),.bool true])∧w.heap.size≤b∧TreeAt w' b l)
theorem qe7 {u:Bs→Option Bs} (hP:PackC u) (t:Bs) (w:World) (hml:ML w) (ht:t.length≤1000000) :
 Calls Tryz.prog 35 #[.string (txt t)] w fun e w'=>FromP u t w e w':=by
 obtain ⟨i0,hi,hz0,hz1,hz2⟩:=info_parts Tryz.info24;have hml0:=hml.lt;have Hml:=hidI hml;obtain ⟨W0,hW0⟩:∃ W0,W0=w.alloc (.cells #[.string (txt t),.bool true] 121):=⟨_,rfl⟩;have h0:RdAt W0 w.heap.size (t,true):=by rw [hW0];exact heap_alloc_new _ _
 have hB0:Below w.heap.size w W0:=by rw [hW0];exact (Below.refl _ w).alloc (Nat.le_refl _) _
 have hs0:W0.heap.size=w.heap.size+1:=by rw [hW0];simp
 have A1:=hidI (qbf w.heap.size (t,true) 1 W0 h0 (by decide) ht);obtain ⟨nr,hn⟩:∃ nr,nr=nmb 1 (t,true):=⟨_,rfl⟩;obtain ⟨m0,r0⟩:=nr;have hm0:m0<256:=by have:=qd9 1 (t,true);rw [←hn] at this;exact this
 have l0:r0.1.length≤1000000:=by have:=(qbj 1 (t,true)).2;have e:(nmb 1 (t,true)).2=(Go.Nt.tk 1 (t,true)).2:=rfl;rw [←hn] at e;rw [←e] at this;exact Nat.le_trans this ht
 rw [←hn] at A1;simp only at A1;have Hpar:Hid (parse u t=if (qaQ u m0 r0 []).2.2 then some (qaQ u m0 r0 []).1 else none):=hidI (by unfold parse;rw [←hn]);have HW0:=hidI hW0;have HB0:=hidI hB0;clear hml hW0 h0 hB0 hn;go_enter Tryz.func35,Tryz.ntmps35
 go_wp2_with (first | (rw [←HW0.out]) | fail);refine A1.out.mono ?_;rintro e w1 ⟨rfl,h1,t1⟩;have HB1:=hidI (HB0.out.trans (t1.below (Nat.le_refl _) (by omega)));have hs1:=t1.size;have H1:=hidI h1;clear A1 h1 t1;go_wp2
 go_loopw [5,6] (fun v i wr=>∃ (m:Nat) (r:Rd) (acc:List It),i=.int .i64 m∧m+acc.length=m0∧Hid (qaQ u m0 r0 []=qaQ u m r acc)∧r.1.length≤1000000∧Hid (RdAt wr w.heap.size r)∧Hid (wr.ownsRow w.heap.size 53 5 v acc.length (its acc))∧Hid (Below w.heap.size w wr)∧Hid (∀ x∈acc,x.path.length≤255∧x.data.length≤4000)) (fun _ i _=>(intOf i).toNat)
 case atStart=>exact ⟨m0,r0,[],rfl,by simp,hidI rfl,l0,H1,hidI (World.ownsRow_nil _ _ _ _),HB1,hidI (by simp)⟩
 case round =>
  obtain ⟨m,r,acc,rfl,hm,Hrd,lr,HR,HO,HB,Hfit⟩:=hrel;have hszr:=HB.out.size;have k1:=HR.out.c1;obtain ⟨fn,hfn⟩:∃ fn,fn=r.2:=⟨_,rfl⟩;rw [←hfn] at k1;have Hfn:=hidI hfn;clear hfn;obtain ⟨a2,c2,rfl,hin⟩:=qmV HO.out;obtain ⟨L,hL⟩:∃ L,L=acc.length:=⟨_,rfl⟩;rw [←hL] at HO ⊢;have hLm:m+L=m0:=by omega
  have HL:=hidI hL;have Hin:=hidI hin;clear hL hin hm;cases m with
  | zero =>
    have hend:Hid (qaQ u m0 r0 []=(acc,r)):=Hrd;cases fn with
    | false =>
      go_wp2;go_ret2
      exact ⟨HB.out,.inl ⟨rfl,fun l hl=>by rw [Hpar.out,hend.out] at hl;simp only at hl;rw [←Hfn.out] at hl;cases hl⟩⟩
    | true =>
      have HN:=hidI (new_any a2 c2 acc wr (Hml.out.below HB.out hml0) Hin.out (by rw [←HL.out];omega) (fun x hx=>by have:=(Hfit.out x hx).1;omega) (fun x hx=>by have:=(Hfit.out x hx).2;omega));rw [←HL.out] at HN;have Hp:Hid (parse u t=some acc):=hidI (by rw [Hpar.out,hend.out];simp only;rw [←Hfn.out];rfl);go_wp2_with fail;refine HN.out.mono ?_;rintro e w5 ⟨hb5,⟨hno,rfl⟩ | ⟨hyes,b,rfl,hbb,hT⟩⟩
      ·have HB5:=hidI (HB.out.trans (hb5.mono hszr));clear hb5 HN;go_wp2;go_ret2
       exact ⟨HB5.out,.inl ⟨rfl,fun l hl=>by rw [Hp.out] at hl;cases hl;exact hno⟩⟩
      ·have HB5:=hidI (HB.out.trans (hb5.mono hszr));have HT:=hidI hT;clear hb5 HN hT;go_wp2;go_ret2
       exact ⟨HB5.out,.inr ⟨acc,b,Hp.out,hyes,rfl,by omega,HT.out⟩⟩
  | succ m =>
    cases fn with
    | false =>
      have hend:Hid (qaQ u m0 r0 []=(acc,r)):=hidI (by rw [Hrd.out];show (if r.2 then _ else _)=_;rw [←Hfn.out];rfl);go_wp2;go_ret2
      exact ⟨HB.out,.inl ⟨rfl,fun l hl=>by rw [Hpar.out,hend.out] at hl;simp only at hl;rw [←Hfn.out] at hl;cases hl⟩⟩
    | true =>
      have A:=hidI (qmF hP w.heap.size r wr HR.out lr);have Hstep:Hid (qaQ u m0 r0 []=qaQ u m (rdItem u r).2 (acc++[(rdItem u r).1])):=hidI (by rw [Hrd.out];show (if r.2 then _ else _)=_;rw [←Hfn.out];rfl);have Hf2:=hidI (qif hP.small r);have lr2:(rdItem u r).2.1.length≤1000000:=Nat.le_trans (qid u r) lr;obtain ⟨x,hx⟩:∃ x,x=(rdItem u r).1:=⟨_,rfl⟩;obtain ⟨r',hr'⟩:∃ r',r'=(rdItem u r).2:=⟨_,rfl⟩;rw [←hx,←hr'] at A Hstep;rw [←hx] at Hf2;rw [←hr'] at lr2;unfold itv at A;clear hx hr' Hrd;go_wp2_with fail;refine A.out.mono ?_;rintro e w3 ⟨rfl,h3,t3⟩;have ho3:=t3.own HR.out HO.out (by decide);have hb3:=HB.out.trans (t3.below (Nat.le_refl _) (by omega));have hs3:=t3.size;have hrlt:=HR.out.lt;have HO3:=hidI ho3;have HB3:=hidI hb3;have H3:=hidI h3;clear A h3 t3 ho3 hb3 k1
      go_wp2_with (at_builtin;refine wpList_append_own _ rfl (.tmp 20) (.tmp 22) 42 rfl w.heap.size 53 i0 _ 5 56 Tryz.underlying42 hi hz0 hz1 hz2 rfl (by decide) _ _ _ rfl (HO3.out.alloc _) ⟨w3.heap.size,0,none⟩ 1 1 (itl x) rfl ?e1 ?e2 ?e3 ?e4 ?e5 ?e6 ?_)
      case e1=>rfl
      case e2 =>
       intro j v hv;rw [qhK];have h:=(qex w3 x).cell hv;unfold boxed at h;simpa using h
      case e3=>intro v hv;exact qcD (l:=[x]) v (by rw [qeq];exact hv)
      case e4=>unfold maxLen;omega
      case e5=>omega
      case e6=>simp;omega
      intro v4 w4 hown4 hgrow4 _;have hb4:Below w.heap.size w w4:=(HB3.out.alloc (by omega) _).grown hgrow4 (by simp;omega) (fun q hq=>(HO3.out.lt q hq).1);have h4:RdAt w4 w.heap.size r':=RdAt.grown ((Below.heap_alloc w3 _ _ (by omega)).trans H3.out) (HO3.out.alloc _) hgrow4;have HO4:Hid (w4.ownsRow w.heap.size 53 5 v4 (acc++[x]).length (its (acc++[x]))):=hidI (by rw [qeo,qeq,List.length_append,←HL.out];exact hown4);have HB4:=hidI hb4;have H4:=hidI h4;clear hown4 hgrow4 hb4 h4;go_wp2;go_roundw
      case rel=>exact ⟨m,r',acc++[x],by go_num,by rw [List.length_append,←HL.out];simp;omega,Hstep,lr2,H4,HO4,HB4,hidI (fun y hy=>(List.mem_append.1 hy).elim (Hfit.out y) (fun e=>by simp at e;subst e;exact Hf2.out))⟩
      case measure=>simp [intOf]
end Go.Proofs.YtodmdkhdbfbfgabGreatDoor
namespace Go.Proofs.YtodmdkhdbfbfgabGreatDoor
open Go.RowKit Go.Nt
open S1 (rcs)
def MountP (ps:List Fp) (b r:Nat) (np:Nat) (cb:Nat) (tl:List It) (w:World) (e:Ending) (w':World):Prop:=
 ∃ fb lb tb ib n,e=.returned (.tuple #[.pointer (some ⟨fb,0,none⟩),.int .i64 0])∧FsAt w' fb cb lb tb∧TreeAt w' tb tl∧S1.LogAt w' lb cb ⟨b,r,none⟩ (some ib) none (endF ps) np∧n≤100000∧S1.BlAt w' ib n (inF ps)∧w.heap.size≤fb∧w.heap.size≤lb∧w.heap.size≤tb∧w.heap.size≤ib∧ib<tb∧Below w.heap.size w w'
end Go.Proofs.YtodmdkhdbfbfgabGreatDoor
namespace Go.Proofs.YtodmdkhdbfbfgabGreatDoor.S1
open Go.RowKit Pk
theorem qeZ {m:M} (h:m.life = -1):(tick m).life = -1:=by
 unfold tick callF;show (if m.life=0 then _ else _:Int × Int × Int).2.1 = -1;rw [h];simp
 repeat' split
 all_goals rfl
theorem qdQ {m:M} (hw:WF m) (h:m.life = -1) (b p:Nat) (x:List UInt8):(progA m (b:Nat) (p:Nat) x).2.life = -1:=by
 have ht:=qeZ h;rcases qaP m b p x hw with ⟨_,_,_,_,_,_,_,e⟩ | ⟨_,e | ⟨e,_⟩ | ⟨_,_,_,_,_,c,_,⟨e,_⟩ | ⟨e,_⟩⟩⟩
 all_goals rw [e]
 ·exact ht
 ·exact h
 ·exact ht
 ·exact ht
 ·exact ht
theorem qe0 {m:M} (h:m.life = -1) (b:Nat):(eraA m (b:Nat)).2.life = -1:=by
 have ht:=qeZ h;rcases qa1 m b with ⟨_,_,_,_,e⟩ | ⟨_,⟨e,_⟩ | ⟨e,_⟩ | ⟨_,_,⟨e,_⟩ | ⟨⟨k,e⟩,_⟩⟩⟩
 all_goals rw [e]
 ·exact ht
 ·exact h
 ·exact ht
 ·exact ht
 ·exact ht
theorem qbb (b:Nat):∀ (l:List (List UInt8)) (m:M) (p:Nat) (S:Nat→Bool),WF m→m.life = -1→(progL b l m p S).2.1.life = -1
 | [],m,p,S,_,h=>h
 | x :: xs,m,p,S,hw,h=>by
   rw [progL]
   split
   ·split
    ·exact qbb b xs _ _ _ (qaX hw _ _ _) (qdQ hw h _ _ _)
    ·exact qdQ hw h _ _ _
   ·exact h
theorem qcn {m:M} (h:m.life = -1) (K Q:Nat→Bool) (b:Nat):(openF m K Q b).2.1.life = -1:=by
 unfold openF
 repeat' split
 all_goals first | exact h | exact qe0 h _
theorem qkW {s:LS} (hw:WF s.m) (h:s.m.life = -1) (K:Nat→Bool):(lay1 K s).m.life = -1∧WF (lay1 K s).m:=by
 unfold lay1
 split
 ·exact ⟨qbb _ _ _ _ _ (qce hw K s.Q s.b) (qcn h K s.Q s.b),qcP _ _ _ _ _ (qce hw K s.Q s.b)⟩
 ·exact ⟨qcn h K s.Q s.b,qce hw K s.Q s.b⟩
theorem qdF {α:Type} (p q:α→Bool):∀ l:List α,l.countP (fun x=>p x||q x)≤l.countP p+l.countP q
 | []=>Nat.le_refl _
 | x :: l=>by
   have:=qdF p q l
   simp only [List.countP_cons];cases p x<;>cases q x<;>simp<;>omega
theorem qdW (f:Nat→Bool):∀ l:List Nat,l.countP (fun i => !f i)+l.countP f=l.length
 | []=>rfl
 | x :: l=>by
   have:=qdW f l
   simp only [List.countP_cons,List.length_cons];cases f x<;>simp<;>omega
def cntB (n:Nat) (S:Nat→Bool):Nat:=(List.range n).countP S
theorem qb5 (n:Nat):cntB n (fun _=>false)=0:=by unfold cntB;simp
theorem cntB_mono {n:Nat} {S R:Nat→Bool} (h:∀ i,S i=true→R i=true):cntB n S≤cntB n R:=List.countP_mono_left fun i _ hi=>h i hi
theorem qhe (b:Nat):∀ n,cntB n (fun j=>j==b)≤1∧(n≤b→cntB n (fun j=>j==b)=0)
 | 0=>⟨by simp [cntB],fun _=>rfl⟩
 | n+1=>by
   obtain ⟨h1,h2⟩:=qhe b n;have e:cntB (n+1) (fun j=>j==b)=cntB n (fun j=>j==b)+if n=b then 1 else 0:=by
    unfold cntB;rw [List.range_succ,List.countP_append];simp [List.countP_cons]
   rw [e]
   split
   ·rename_i hb
    have:=h2 (by omega)
    exact ⟨by omega,fun h=>by omega⟩
   ·exact ⟨by omega,fun h=>by have:=h2 (by omega);omega⟩
theorem qll (n b:Nat) (S:Nat→Bool):cntB n (fun j=>j==b||S j)≤cntB n S+1:=by
 have h1:=qdF (fun j=>j==b) S (List.range n);have h2:=(qhe b n).1;unfold cntB at *;omega
theorem qj9 (b:Nat):∀ (l:List (List UInt8)) (m:M) (p:Nat) (S:Nat→Bool) (i:Nat),(progL b l m p S).2.2.2 i=true→(i==b||S i)=true
 | [],m,p,S,i,h=>by rw [progL] at h;simp only [] at h;rw [h,Bool.or_true]
 | x :: xs,m,p,S,i,h=>by
   rw [progL] at h
   split at h
   ·split at h
    ·have:=qj9 b xs _ _ _ i h
     simp only [Bool.or_eq_true] at this ⊢;rcases this with h1 | h1 | h1
     ·exact .inl h1
     ·exact .inl h1
     ·exact .inr h1
    ·simp only [] at h;rw [h,Bool.or_true]
   ·simp only [] at h;rw [h,Bool.or_true]
theorem qdg (n b:Nat) (l:List (List UInt8)) (m:M) (p:Nat) (S:Nat→Bool):cntB n (progL b l m p S).2.2.2≤cntB n S+1:=
 Nat.le_trans (cntB_mono fun i h=>qj9 b l m p S i h) (qll n b S)
theorem qlo {m0:M} {K:Nat→Bool} {xs:List (List UInt8)} {b0 v:Nat} {s:LS} (h:LayG m0 K xs b0 v s) (hl:s.m.life = -1) (ho:(openF s.m K s.Q s.b).1=true):(LS.opn K s).prog.left.length≤s.left.length - m0.np:=by
 have hn1:=h.wf.nb1;have hlt:(s.b+1)%s.m.nb<s.m.nb:=Nat.mod_lt _ (by omega);obtain ⟨k1,k2,k3⟩:=qaD s.m K s.Q s.b;have hro:=qf8 h.wf K h.rdy;have hwo:=qce h.wf K s.Q s.b;have hlo:=qcn hl K s.Q s.b;have hof:(openF s.m K s.Q s.b).2.1.fail<0:=by
  unfold openF
  split
  ·exact h.fail
  ·split
   ·exact h.fail
   ·cases hbd:s.m.bd ((s.b+1)%s.m.nb) with
    | true=>rw [qgB hbd];exact h.fail
    | false =>
      have:=qer h.fail hlt hbd
      split<;>exact this.1
 have hp0:(openF s.m K s.Q s.b).2.2.2=0:=by
  unfold openF at ho ⊢
  repeat' split at ho
  all_goals first | cases ho | skip
  all_goals simp_all
 obtain ⟨a1,a2,a3⟩:=qcj (Q:=(openF s.m K s.Q s.b).2.2.1) ((s.b+1)%s.m.nb) s.left (openF s.m K s.Q s.b).2.1 (openF s.m K s.Q s.b).2.2.2 s.S hwo hof hro h.lens;have a4:=qbb ((s.b+1)%s.m.nb) s.left (openF s.m K s.Q s.b).2.1 (openF s.m K s.Q s.b).2.2.2 s.S hwo hlo;rcases a3 with a3 | a3
 ·rw [a4] at a3;cases a3
 ·rw [hp0,k2,h.np,Nat.sub_zero] at a3;rw [hp0] at a4;show (progL _ s.left _ (openF s.m K s.Q s.b).2.2.2 s.S).1.length≤_;rw [hp0];exact a3
structure LayC (m0:M) (K:Nat→Bool) (xs:List (List UInt8)) (b0 v:Nat) (s:LS):Prop where
 g:LayG m0 K xs b0 v s
 life:s.m.life = -1
 part:s.left≠[]→cntB m0.nb s.S*m0.np+s.left.length≤xs.length
 all:cntB m0.nb s.S*m0.np<xs.length+m0.np
theorem LayC.round {m0:M} {K:Nat→Bool} {xs:List (List UInt8)} {b0 v:Nat} {s:LS} (h:LayC m0 K xs b0 v s) (hl:s.left≠[]):LayC m0 K xs b0 (v+1) (lay1 K s):=by
 have hg:=h.g.round (by rw [h.life];decide);have hlf:=(qkW h.g.wf h.life K).1;refine ⟨hg,hlf,?_,?_⟩
 all_goals
  have hp:=h.part hl;have hl1:0<s.left.length:=List.length_pos_iff.2 hl;unfold lay1
  split
 ·rename_i ho;intro hne;have hf:=qlo h.g h.life ho;have hc:=qdg m0.nb ((s.b+1)%s.m.nb) s.left (openF s.m K s.Q s.b).2.1 (openF s.m K s.Q s.b).2.2.2 s.S;have hm:cntB m0.nb (LS.opn K s).prog.S*m0.np≤(cntB m0.nb s.S+1)*m0.np:=Nat.mul_le_mul_right m0.np hc;rw [Nat.add_mul,Nat.one_mul] at hm;have h1:0<(LS.opn K s).prog.left.length:=List.length_pos_iff.2 hne;omega
 ·exact fun _=>hp
 ·rename_i ho;have hc:=qdg m0.nb ((s.b+1)%s.m.nb) s.left (openF s.m K s.Q s.b).2.1 (openF s.m K s.Q s.b).2.2.2 s.S;have hm:cntB m0.nb (LS.opn K s).prog.S*m0.np≤(cntB m0.nb s.S+1)*m0.np:=Nat.mul_le_mul_right m0.np hc;rw [Nat.add_mul,Nat.one_mul] at hm;omega
 ·exact h.all
theorem LayC.rounds {m0:M} {K:Nat→Bool} {xs:List (List UInt8)} {b0:Nat}:∀ (k v:Nat) (s:LS),LayC m0 K xs b0 v s→∃ v',LayC m0 K xs b0 v' (layN K k s)
 | 0,v,s,h=>⟨v,h⟩
 | k+1,v,s,h=>by
   rw [layN]
   split
   ·exact ⟨v,h⟩
   ·rename_i hc;exact LayC.rounds k (v+1) _ (h.round fun e=>hc (.inl e))
theorem good_congr {m m':M} (h1:m'.nb=m.nb) (h2:m'.bd=m.bd):good m'=good m:=by
 unfold good badN;rw [h1,h2]
theorem qix (m:M):(List.range m.nb).countP (fun i => !m.bd i)=good m:=by
 have h1:=qdW m.bd (List.range m.nb);rw [List.length_range] at h1;have h2:(List.range m.nb).countP m.bd=badN m:=rfl;unfold good;omega
theorem qn7 (K:Nat→Bool) {s:LS} (h:s.p≤s.m.np):(lay1 K s).p≤(lay1 K s).m.np:=by
 obtain ⟨k1,k2,k3⟩:=qaD s.m K s.Q s.b;unfold lay1
 split
 ·obtain ⟨q1,q2,q3,q4⟩:=qaE ((s.b+1)%s.m.nb) s.left (openF s.m K s.Q s.b).2.1 (openF s.m K s.Q s.b).2.2.2 s.S;have q5:(LS.opn K s).prog.m.np=(openF s.m K s.Q s.b).2.1.np:=q2;rw [q5];exact q4 (by rw [k2];exact k3)
 ·show (openF s.m K s.Q s.b).2.2.2≤(openF s.m K s.Q s.b).2.1.np;rw [k2];exact k3
theorem qm1 {K:Nat→Bool}:∀ {k:Nat} {s:LS},s.p≤s.m.np→(layN K k s).p≤(layN K k s).m.np
 | 0,s,h=>h
 | k+1,s,h=>by
   rw [layN]
   split
   ·exact h
   ·exact qm1 (qn7 K h)
structure Snd (m:M) (K Q:Nat→Bool) (b p:Nat):Prop where
 wf:WF m
 life:m.life = -1
 fail:m.fail<0
 rdy:Rdy m Q b p
 few:cntB m.nb K≤good m/2
 b:b<m.nb
 p:p≤m.np
theorem Snd.lay {m:M} {K Q:Nat→Bool} {b p:Nat} (h:Snd m K Q b p) {xs:List (List UInt8)} (hx:∀ x∈xs,x.length=64) (h1:0<xs.length) (h2:xs.length≤roomP m) (s:LS) (hs:s=layF K ⟨xs,m,Q,b,p,fun _=>false⟩) :
 s.left=[]∧Snd s.m s.S s.Q s.b s.p∧s.m.nb=m.nb∧s.m.np=m.np∧s.m.bd=m.bd:=by
 have hg1:1≤good m/2:=by
  unfold roomP at h2;rcases Nat.eq_zero_or_pos (good m/2) with e | e
  ·rw [e,Nat.zero_mul] at h2;omega
  ·exact e
 have hnp:=h.wf.np1;unfold layF lay0 at hs;by_cases hc:xs.length+p≤m.np
 ·rw [if_pos (show (LS.mk xs m Q b p fun _=>false).left.length+(LS.mk xs m Q b p fun _=>false).p≤(LS.mk xs m Q b p fun _=>false).m.np from hc)] at hs;obtain ⟨a1,a2,a3⟩:=qcj (Q:=Q) b xs m p (fun _=>false) h.wf h.fail h.rdy hx;have a4:=qbb b xs m p (fun _=>false) h.wf h.life;have hleft:(progL b xs m p (fun _=>false)).1=[]:=by
   rcases a3 with a3 | a3
   ·rw [a4] at a3;cases a3
   ·exact List.eq_nil_of_length_eq_zero (by omega)
  rw [qbi K (.inl hleft)] at hs;obtain ⟨k1,k2,k3,k4⟩:=qaE b xs m p (fun _=>false);have hcn:=qdg m.nb b xs m p (fun _=>false);rw [qb5] at hcn;subst hs;refine ⟨hleft,⟨qcP b xs m p _ h.wf,a4,a1,qdp b xs m p _ h.wf h.rdy,?_,?_,?_⟩,k1,k2,a2⟩
  ·show cntB (progL b xs m p (fun _=>false)).2.1.nb (progL b xs m p (fun _=>false)).2.2.2≤good (progL b xs m p (fun _=>false)).2.1/2;rw [good_congr k1 a2,k1];omega
  ·show b<(progL b xs m p (fun _=>false)).2.1.nb;rw [k1];exact h.b
  ·show (progL b xs m p (fun _=>false)).2.2.1≤(progL b xs m p (fun _=>false)).2.1.np;rw [k2];exact k4 h.p
 ·rw [if_neg (show ¬(LS.mk xs m Q b p fun _=>false).left.length+(LS.mk xs m Q b p fun _=>false).p≤(LS.mk xs m Q b p fun _=>false).m.np from hc)] at hs;have hG:LayG m K xs b 0 ⟨xs,m,Q,b,p,fun _=>false⟩:=⟨h.wf,rfl,rfl,by show b=(b+0)%m.nb;rw [Nat.add_zero,Nat.mod_eq_of_lt h.b],h.fail,rfl,h.rdy,hx,.inr (by simp [cntF])⟩;have hC:LayC m K xs b 0 ⟨xs,m,Q,b,p,fun _=>false⟩:=⟨hG,h.life,fun _=>by show cntB m.nb (fun _=>false)*m.np+xs.length≤_;rw [qb5];omega,by show cntB m.nb (fun _=>false)*m.np<_;rw [qb5];omega⟩;obtain ⟨v,hV⟩:=LayC.rounds m.nb 0 _ hC;rw [←hs] at hV;have hall:=qmI hG (by
   have e1:good m≤(List.range m.nb).countP (fun i => !K i && !m.bd i)+cntB m.nb K:=by
    rw [←qix];refine Nat.le_trans (List.countP_mono_left fun i _ hi => ?_) (qdF _ K (List.range m.nb))
    revert hi
    cases K i<;>cases m.bd i<;>simp
   have e2:good m/2≤(List.range m.nb).countP (fun i => !K i && !m.bd i):=by have:=h.few;omega
   refine Nat.le_trans h2 ?_;unfold roomP;rw [Nat.mul_comm];exact Nat.mul_le_mul_left _ e2)
  have hleft:s.left=[]:=by
   have e:s=layN K m.nb ⟨xs,m,Q,b,p,fun _=>false⟩:=hs;rw [←e] at hall;rcases hall with h3 | h3
   ·rw [hV.life] at h3;cases h3
   ·exact h3
  have hgd:=good_congr hV.g.nb hV.g.bd;have hn1:=h.wf.nb1;refine ⟨hleft,⟨hV.g.wf,hV.life,hV.g.fail,hV.g.rdy,?_,?_,?_⟩,hV.g.nb,hV.g.np,hV.g.bd⟩
  ·rw [hgd,hV.g.nb];have e1:=hV.all;unfold roomP at h2;have e2:cntB m.nb s.S*m.np<(good m/2+1)*m.np:=by rw [Nat.add_mul,Nat.one_mul];omega
   have:=Nat.lt_of_mul_lt_mul_right e2
   omega
  ·rw [hV.g.b,hV.g.nb];exact Nat.mod_lt _ (by omega)
  ·by_cases hp:s.p≤s.m.np
   ·exact hp
   ·exact absurd hp (by
     have:=qm1 (K:=K) (k:=m.nb) (s:=⟨xs,m,Q,b,p,fun _=>false⟩) h.p
     have e:s=layN K m.nb ⟨xs,m,Q,b,p,fun _=>false⟩:=hs;rw [←e] at this;exact fun h=>h this)
end Go.Proofs.YtodmdkhdbfbfgabGreatDoor.S1
namespace Go.Proofs.YtodmdkhdbfbfgabGreatDoor.S1
open Go.RowKit Pk
open Go.Nt (Fp nxt pagesN splitR pageB pgOf hasL hasL_iff scanF mem_scanF readP qem qbQ qgH fpR lookF qbw)
theorem qdB {x:List UInt8} (h:x.length<64):readP (pad x)=none:=by
 apply qem
 unfold pad;rw [List.getD_eq_getElem?_getD,List.getElem?_append_right (by omega),List.getElem?_replicate];rw [if_pos (by omega)];rfl
theorem qhr {x:List UInt8} (h:x.length=64):pad x=x:=by
 unfold pad;rw [h];simp
theorem LayI.found {m0:M} {K:Nat→Bool} {bn kn:Nat} {t:List UInt8} {m:M} {S:Nat→Bool} {ps:List (Nat × Nat)} {left:List (List UInt8)} (h:LayI m0 K (splitR bn kn t) m S ps left) (hb:bn<256) (hn:kn<4294967296) (ho:pagesN t.length<65536) {f:Fp} (hf:f∈scanF (pgs m) m.np m.nb) :
 (∃ k i q,ps[k]? = some (i,q)∧k<pagesN t.length∧f=fpR bn kn t k i)∨f∈scanF (pgs m0) m0.np m0.nb:=by
 obtain ⟨i,p,q,hi,hp,hr,rfl⟩:=mem_scanF.1 hf;rcases h.page i p hi hp with h1 | ⟨x,hx,c,hc,e⟩ | e | e
 ·left
  obtain ⟨k,hk⟩:=List.getElem?_of_mem h1;obtain ⟨a1,a2,a3,a4,a5⟩:=h.posn k i p hk;have hkl:k<pagesN t.length:=by
   have:=(List.getElem?_eq_some_iff.1 a4).1
   rwa [Go.Nt.splitR_length] at this
  have e:m.pg i p=pageB (pgOf bn kn t k):=by
   unfold splitR at a4;rw [List.getElem?_map,List.getElem?_range hkl] at a4;simpa using a4.symm
  refine ⟨k,i,p,hk,hkl,?_⟩;have hok:=qgH (t:=t) hb hn hkl ho;unfold pgs at hr;rw [e,qhr (Go.Nt.pageB_length _ hok.t),qbQ hok] at hr;cases hr
  rfl
 ·exfalso
  unfold pgs at hr;rw [e,qdB (by rw [List.length_take];omega)] at hr;cases hr
 ·exfalso
  unfold pgs at hr;rw [e,qdB (by decide)] at hr;cases hr
 ·right
  refine mem_scanF.2 ⟨i,p,q,by rw [←h.nb];exact hi,by rw [←h.np];exact hp,?_,rfl⟩;unfold pgs at hr ⊢;rw [←e];exact hr
theorem LayI.there {m0:M} {K:Nat→Bool} {bn kn:Nat} {t:List UInt8} {m:M} {S:Nat→Bool} {ps:List (Nat × Nat)} {left:List (List UInt8)} (h:LayI m0 K (splitR bn kn t) m S ps left) (hb:bn<256) (hn:kn<4294967296) (ho:pagesN t.length<65536) {k i q:Nat} (hk:ps[k]? = some (i,q)) :
 fpR bn kn t k i∈scanF (pgs m) m.np m.nb:=by
 obtain ⟨a1,a2,a3,a4,a5⟩:=h.posn k i q hk;have hkl:k<pagesN t.length:=by
  have:=(List.getElem?_eq_some_iff.1 a4).1
  rwa [Go.Nt.splitR_length] at this
 have e:m.pg i q=pageB (pgOf bn kn t k):=by
  unfold splitR at a4;rw [List.getElem?_map,List.getElem?_range hkl] at a4;simpa using a4.symm
 have hok:=qgH (t:=t) hb hn hkl ho;have h6:readP (pgs m i q)=some { pgOf bn kn t k with text:=(pgOf bn kn t k).text++List.replicate (51 - (pgOf bn kn t k).text.length) 0 }:=by
  unfold pgs;rw [e,qhr (Go.Nt.pageB_length _ hok.t)];exact qbQ hok
 exact mem_scanF.2 ⟨i,q,_,a1,a2,h6,rfl⟩
structure New (m:M):Prop where
 wf:WF m
 life:m.life = -1
 fail:m.fail<0
 pg:∀ i p,m.pg i p=[]
 nx:∀ i,m.nx i=0
theorem New.era {m:M} (h:New m) (b:Nat) (hb:b<m.nb):eraA m (b:Nat)=(!m.bd b,m):=by
 cases hbd:m.bd b with
 | true=>exact qgB hbd
 | false =>
   have ht:tick m=m:=by
    unfold tick callF;have h1:=h.life;have h2:=h.fail;cases m
    simp only at h1 h2;subst h1;simp [h2]
   have hn:=qer h.fail hb hbd;rcases qa1 m b with ⟨h1,_,_,_,e⟩ | ⟨h1,_⟩
   ·refine Prod.ext (by rw [h1];rfl) ?_;rw [e,ht];have h3:=h.pg;have h4:=h.nx;cases m
    simp only at h3 h4;simp only [setN,setE]
    congr 1
    ·funext a c
     split
     ·rw [h3]
     ·rfl
    ·funext a
     split
     ·rw [h4]
     ·rfl
   ·rcases hn.2.2 with h2 | h2
    ·rw [h1] at h2;cases h2
    ·have:=qe0 h.life b
     rw [h2] at this;cases this
theorem New.eraAll {m:M} (h:New m):∀ k,k≤m.nb→S1.eraAll m k=(m,fun j=>decide (j<k) && !m.bd j)
 | 0,_=>by
   rw [S1.eraAll];refine Prod.ext rfl ?_
   funext j
   simp
 | k+1,hk=>by
   have ih:=New.eraAll h k (by omega);rw [S1.eraAll,ih];simp only [];rw [h.era k (by omega)];refine Prod.ext rfl ?_
   funext j
   simp only [];cases hb:m.bd k with
   | true =>
     simp only [Bool.not_true,Bool.false_eq_true,if_false];by_cases e:j=k
     ·subst e;simp [hb]
     ·have:decide (j<k+1)=decide (j<k):=by simp;omega
      rw [this]
   | false =>
     simp only [Bool.not_false,if_true];by_cases e:j=k
     ·subst e;simp [hb]
     ·have h1:decide (j<k+1)=decide (j<k):=by simp;omega
      have h2:(j==k)=false:=by simp [e]
      rw [h1,h2,Bool.false_or]
theorem New.scan {m:M} (h:New m) (np:Nat):∀ k,scanF (pgs m) np k=[]:=by
 intro k;cases hs:scanF (pgs m) np k with
 | nil=>rfl
 | cons f fs =>
   obtain ⟨i,p,q,_,_,hr,_⟩:=mem_scanF.1 (show f∈scanF (pgs m) np k by rw [hs];simp);unfold pgs at hr;rw [h.pg,qdB (by decide)] at hr;cases hr
theorem New.renew {m:M} (h:New m) {t:List UInt8} (ht:0<t.length) (hm:mayE m t.length=0) :
 (renA m t).1=0∧WF (renA m t).2∧(renA m t).2.life = -1∧∃ blk:Nat→Nat,(∀ k,k<pagesN t.length→lookF (scanF (pgs (renA m t).2) (renA m t).2.np (renA m t).2.nb) (badN m) 1 k=some (fpR (badN m) 1 t k (blk k)))∧(∀ f∈scanF (pgs (renA m t).2) (renA m t).2.np (renA m t).2.nb,f.bad=badN m∧f.num=1)∧(renA m t).2.fail<0∧(renA m t).2.bd=m.bd∧(renA m t).2.nb=m.nb∧(renA m t).2.np=m.np∧∃ S,cntB m.nb S≤good m/2∧∀ k,k<pagesN t.length→S (blk k)=true∧blk k<m.nb:=by
 have hw:=h.wf;have he:=h.eraAll m.nb (Nat.le_refl _);have hroom:pagesN t.length≤roomP m:=by
  unfold mayE at hm
  split at hm
  ·omega
  ·split at hm<;>omega
 have hr256:=roomP_le hw;have hbn:=badN_le m;have h32:=hw.nb2;have h4:=hw.nb1;have hpn:0<pagesN t.length:=by unfold pagesN;omega
 have hnum:numN m ⟨0,0,none⟩ (hasL (scanF (pgs m) m.np m.nb))=1:=by
  unfold numN;rw [h.scan];exact Go.Nt.nxt_here (by decide) rfl
 obtain ⟨Q1,hQ1⟩:∃ Q1,Q1=fun j=>decide (j<m.nb) && !m.bd j:=⟨_,rfl⟩
 obtain ⟨s0,hs0⟩:∃ s0:LS,s0=⟨splitR (badN m) 1 t,m,Q1,m.nb - 1,m.np,fun _=>false⟩:=⟨_,rfl⟩;have hS:renS m Q1 t=layN (fun _=>false) m.nb s0:=by
  unfold renS addS;rw [hnum];unfold layF lay0;rw [if_neg (by show ¬(splitR (badN m) 1 t).length+m.np≤m.np;rw [Go.Nt.splitR_length];omega),hs0]
 have hSd:Snd m (fun _=>false) Q1 (m.nb - 1) m.np:=⟨hw,h.life,h.fail,Rdy.shut m Q1 _ (fun i hi=>by
  rw [hQ1] at hi;simp only [Bool.and_eq_true,decide_eq_true_eq,Bool.not_eq_true'] at hi;exact ⟨hi.1,hi.2,h.nx i⟩),by rw [qb5];exact Nat.zero_le _,by omega,Nat.le_refl _⟩
 have hlf0:layF (fun _=>false) ⟨splitR (badN m) 1 t,m,Q1,m.nb - 1,m.np,fun _=>false⟩=layN (fun _=>false) m.nb s0:=by
  unfold layF lay0;rw [if_neg (by show ¬(splitR (badN m) 1 t).length+m.np≤m.np;rw [Go.Nt.splitR_length];omega),hs0]
 obtain ⟨hall,hSn,hnbN,hnpN,hbdN⟩:=hSd.lay (split_len (badN m) 1 t) (by rw [Go.Nt.splitR_length];exact hpn) (by rw [Go.Nt.splitR_length];exact hroom) _ hlf0.symm;have hren:renA m t=(0,(layN (fun _=>false) m.nb s0).m):=by
  unfold renA;rw [if_neg (by simp [hm]),he];simp only [];rw [if_neg (by simp [hm]),←hQ1,hS,if_pos hall]
 have hV:LayV m (fun _=>false) (splitR (badN m) 1 t) (m.nb - 1) 0 s0 []:=by
  rw [hs0];refine ⟨LayI.start hw _ _,?_,fun i hi=>(by cases hi),Nat.le_refl _⟩;show m.nb - 1=(m.nb - 1+0)%m.nb;rw [Nat.add_zero,Nat.mod_eq_of_lt (by omega)]
 obtain ⟨v,ps,_,hL⟩:=LayV.rounds (by omega) m.nb 0 s0 [] hV (by omega);obtain ⟨m',hm'⟩:∃ m',m'=(layN (fun _=>false) m.nb s0).m:=⟨_,rfl⟩;have hI:=hL.lay;rw [hall,←hm'] at hI;rw [hren];simp only [←hm'];have hb256:badN m<256:=by omega
 have ho:pagesN t.length<65536:=by omega
 have hpl:ps.length=pagesN t.length:=by
  have h1:=hI.part;have h2:=congrArg List.length h1;rw [List.length_drop,Go.Nt.splitR_length] at h2;have h3:=hI.le;rw [Go.Nt.splitR_length] at h3;simp at h2;omega
 have honly:∀ f∈scanF (pgs m') m'.np m'.nb,∃ k i q,ps[k]? = some (i,q)∧f=fpR (badN m) 1 t k i:=fun f hf=>by
  rcases hI.found hb256 (by decide) ho hf with ⟨k,i,q,h1,_,h2⟩ | h1
  ·exact ⟨k,i,q,h1,h2⟩
  ·rw [h.scan] at h1;cases h1
 refine ⟨by simp,by rw [hm'];exact hSn.wf,by rw [hm'];exact hSn.life,fun k=>(ps.getD k (0,0)).1,fun k hk => ?_,fun f hf => ?_,by rw [hm'];exact hSn.fail,by rw [hm'];exact hbdN,by rw [hm'];exact hnbN,by rw [hm'];exact hnpN,(layN (fun _=>false) m.nb s0).S,by have:=hSn.few;rw [good_congr hnbN hbdN,hnbN] at this;exact this,fun k hk => ?_⟩
 ·obtain ⟨x,hx⟩:∃ x,ps[k]? = some x:=⟨_,List.getElem?_eq_getElem (by omega)⟩;obtain ⟨i,q⟩:=x;have hmem:=hI.there hb256 (by decide) ho hx;have e:(ps.getD k (0,0)).1=i:=by rw [List.getD_eq_getElem?_getD,hx];rfl
  show lookF (scanF (pgs m') m'.np m'.nb) (badN m) 1 k=some (fpR (badN m) 1 t k (ps.getD k (0,0)).1);rw [e];exact qbw hmem (fun y hy h1 h2 h3=>by
   obtain ⟨k',i',q',hx',rfl⟩:=honly y hy;have hkk:k'=k:=h3;subst hkk;rw [hx] at hx';cases hx'
   rfl)
 ·obtain ⟨k,i,q,_,rfl⟩:=honly f hf;exact ⟨rfl,rfl⟩
 ·obtain ⟨x,hx⟩:∃ x,ps[k]? = some x:=⟨_,List.getElem?_eq_getElem (by omega)⟩;obtain ⟨i,q⟩:=x;have e:(ps.getD k (0,0)).1=i:=by rw [List.getD_eq_getElem?_getD,hx];rfl
  obtain ⟨a1,_,_,_,a5⟩:=hI.posn k i q hx;show (layN (fun _=>false) m.nb s0).S (ps.getD k (0,0)).1=true∧(ps.getD k (0,0)).1<m.nb;rw [e];exact ⟨a5,by rw [←hnbN,←hm'];exact a1⟩
end Go.Proofs.YtodmdkhdbfbfgabGreatDoor.S1
namespace Go.Proofs.YtodmdkhdbfbfgabGreatDoor.S1
open Go.RowKit Pk
theorem Tryz.info4:(Tryz.prog.info? 4).map (fun i=>(i.zero,i.size,i.bytes))=some (some (.bool false),1,1):=by kernel_rfl
end Go.Proofs.YtodmdkhdbfbfgabGreatDoor.S1
