/- Lemmas. -/
import Derived.Lib.SliceRun
import Derived.Laws.OwnMore
import Derived.Test.YtodmdkhdbfbfgabGreatDoorM24
set_option linter.unusedVariables false
set_option linter.unusedSimpArgs false
set_option maxRecDepth 100000
set_option maxHeartbeats 8000000
namespace Go.Proofs.YtodmdkhdbfbfgabGreatDoor
open Go.RowKit Go.Nt
theorem qjs:∀ q:Bs,q.contains 47=true→(par q++[47]) <+: q
 | [],h=>by cases h
 | c :: cs,h=>by
   unfold par;by_cases hc:cs.contains 47=true
   ·rw [if_pos hc];obtain ⟨r,hr⟩:=qjs cs hc;exact ⟨r,by rw [List.cons_append,List.cons_append,hr]⟩
   rw [if_neg hc];have e:c=47:=by
    rw [List.contains_cons] at h;rcases Bool.or_eq_true_iff.1 h with h1 | h1
    ·exact (beq_iff_eq.1 h1).symm
    exact absurd h1 hc
   rw [e];exact ⟨cs,rfl⟩
theorem qos {q p:Bs} (h:par q=p) (hp:p≠[]):inB q p=true:=by
 have hc:q.contains 47=true:=by
  cases q with
  | nil=>exact absurd h.symm hp
  | cons c cs =>
    unfold par at h;by_cases hc:cs.contains 47=true
    ·rw [List.contains_cons,hc,Bool.or_true]
    rw [if_neg hc] at h;exact absurd h.symm hp
 unfold inB;rw [←h];exact List.isPrefixOf_iff_prefix.2 (qjs q hc)
theorem TreeP.remove {l:List It} (h:TreeP l) {p:Bs} (he:removeE l p=0):TreeP (l.filter fun y=>decide (y.path≠p)):=by
 refine h.drop p fun y hy e => ?_
 unfold removeE at he;by_cases hf:findE l p=0
 ·rw [if_pos hf] at he;have hp:p≠[]:=by
   rintro rfl;unfold findE reachE at hf;rw [show okPath []=false from rfl] at hf;simp at hf
  have hi:=qos e hp;have ha:(l.map (·.path)).any (fun q=>inB q p)=true:=List.any_eq_true.2 ⟨y.path,List.mem_map.2 ⟨y,hy,rfl⟩,hi⟩;rw [ha,if_pos rfl] at he;cases he
 rw [if_neg hf] at he;exact hf he
theorem ChgP.new {u:Bs→Option Bs} {w W:World} {fb tb lo hi cb lb:Nat} {L:S1.Loc} {lv:S1.Lv} {kv qv:Option Nat} {nk nq:Nat} {m:S1.M} {K Q:Nat→Bool} {b p:Nat} {l l':List It} {E:Int} {e:Ending} {w':World} (h:ChgP u W fb tb lo hi cb lb L lv kv qv nk nq m K Q b p l l' E e w') (hb:Below w.heap.size w W) (hg:∀ g,lv.tk=some g→g<w.heap.size):ChgP u w fb tb lo hi cb lb L lv kv qv nk nq m K Q b p l l' E e w':=by
 obtain ⟨h1,h2⟩:=h;have hT:∀ S,TkS W lv m S→TkS w lv m S:=fun S h=>⟨h.1,fun g hg'=>by
  obtain ⟨n,h3,h4⟩:=h.2 g hg';exact ⟨n,h3.of_block (hb.block g (hg g hg')).symm,h4⟩⟩
 have hs:=hb.size;refine ⟨(S1.Fm.of_new hb).trans h1,?_⟩;rcases h2 with ⟨x,c,a1,a2,a3,a4⟩ | h2 | ⟨a1,a2,t,S,a3,a4,a5,a6,⟨ib,nk',g,a7,a8,a9,a10,a12,a11⟩ | ⟨c,a7,a8,a9,a10⟩⟩
 ·exact .inl ⟨x,c,a1,a2,Nat.le_trans hs a3,a4⟩
 ·exact .inr (.inl h2)
 ·exact .inr (.inr ⟨a1,a2,t,S,a3,a4,hT S a5,a6,.inl ⟨ib,nk',g,a7,a8,Nat.le_trans hs a9,a10.imp id (Nat.le_trans hs),a12,a11⟩⟩)
 exact .inr (.inr ⟨a1,a2,t,S,a3,a4,hT S a5,a6,.inr ⟨c,a7,a8,Nat.le_trans hs a9,a10⟩⟩)
theorem qjS {u:Bs→Option Bs} {w:World} {fb tb lo hi cb lb:Nat} {L:S1.Loc} {lv:S1.Lv} {kv qv:Option Nat} {nk nq:Nat} {m:S1.M} {K Q:Nat→Bool} {b p:Nat} {l l':List It} {E:Int} {e:Ending} {w':World} (h:ChgP u w fb tb lo hi cb lb L lv kv qv nk nq m K Q b p l l' E e w'):∃ x:Int,e=.returned (.int .i64 x):=by
 obtain ⟨_,h2⟩:=h;rcases h2 with ⟨x,c,a1,a2,a3,a4⟩ | ⟨_,_,_,a8,_⟩ | ⟨a1,a2,t,S,a3,a4,a5,a6,⟨ib,nk',g,a7,a8,a9,a10,a12,a11⟩ | ⟨c,a7,a8,a9,a10⟩⟩
 ·exact ⟨_,a2⟩
 ·exact ⟨_,a8⟩
 ·exact ⟨_,a8⟩
 exact ⟨_,a8⟩
theorem qmo {u:Bs→Option Bs} (hP:PackC u) (q d:Bs) (w:World) (fb tb lo hi cb lb:Nat) (L:S1.Loc) (lv:S1.Lv) (kv qv:Option Nat) (nk nq:Nat) (m:S1.M) (K Q:Nat→Bool) (b p:Nat) (l:List It)
 (h:FsM w fb tb lo hi cb lb L lv kv qv nk nq m K Q b p l) (ht:TreeP l) (hml:ML w) (h0:¬FsS fb tb lo hi lb kv qv 0) (hb:b<1000) (hp:p≤m.np) (hq:q.length≤1048576) (hd:d.length≤1048576) :
 Calls Tryz.prog 13 #[.pointer (some ⟨fb,0,none⟩),.string (txt q),.string (txt d)] w fun e w'=>ChgP u w fb tb lo hi cb lb L lv kv qv nk nq m K Q b p l (setIt l (putI l q d)) (putE l q d) e w':=by
 have hmf:∀ (fn:Fn) (first cap:Array Value) (w:World),(Instr.makeFunc fn first cap).run Tryz.prog w=.ok (.func fn first cap) w:=fun _ _ _ _=>rfl
 obtain ⟨z,hz⟩:∃ z,z=w.heap.size:=⟨_,rfl⟩;obtain ⟨W1,hW1⟩:∃ W1,W1=(w.alloc (.cells #[.string (txt q)] 9)).alloc (.cells #[.string (txt d)] 9):=⟨_,rfl⟩;have hB1:Below w.heap.size w W1:=by rw [hW1];exact ((Below.refl _ w).alloc (Nat.le_refl _) _).alloc (by simp) _
 have hA1:W1.heap[z]? = some (.cells #[.string (txt q)] 9 (0,0)):=by rw [hW1,hz];exact (Below.heap_alloc _ _ _ (by simp)).trans (heap_alloc_new _ _)
 have hE1:W1.heap[z+1]? = some (.cells #[.string (txt d)] 9 (0,0)):=by rw [hW1,hz];have:=heap_alloc_new (w.alloc (.cells #[.string (txt q)] 9)) (.cells #[.string (txt d)] 9);simpa using this
 have hM1:=h.below hB1;have hml1:ML W1:=hml.below hB1 hml.lt;have A:=hidI (qdX hP 29 #[.pointer (some ⟨z,0,none⟩),.pointer (some ⟨z+1,0,none⟩)] W1 fb tb lo hi cb lb L lv kv qv nk nq m K Q b p l (setIt l (putI l q d)) (putE l q d) hM1 ht ht.put hml1 h0 hb hp (enters_of Tryz.func29 (by kernel_rfl) rfl) (fun W hW=>ql2 tb z (z+1) l q d W (hM1.tree.below hW hM1.tree.lt) ht (hml1.below hW hml1.lt) hq hd (by rw [cell_of_row W z 0 _ 9 (0,0) ((hW.block z (lt_of_heap hA1)).trans hA1)];rfl) (by rw [cell_of_row W (z+1) 0 _ 9 (0,0) ((hW.block (z+1) (lt_of_heap hE1)).trans hE1)];rfl)));obtain ⟨X,hX⟩:∃ X,X=txt q:=⟨_,rfl⟩;obtain ⟨Y,hY⟩:∃ Y,Y=txt d:=⟨_,rfl⟩;rw [←hX,←hY] at hW1;rw [←hX,←hY];have HW1:=hidI hW1;have Hz:=hidI hz;have HB1:=hidI hB1;have Htk:Hid (∀ g,lv.tk=some g→g<w.heap.size):=hidI (fun g hg=>by
  obtain ⟨_,_,_,n,S,h5,_⟩:=h.tk g hg;exact h5.lt)
 clear hW1 hz hB1 hA1 hE1 hM1 hml1 h ht hml hX hY;go_enter Tryz.func13,Tryz.ntmps13
 go_wp2_with (first | (rw [←HW1.out,←Hz.out]) | fail);refine A.out.mono ?_;rintro e W2 hpost;obtain ⟨x,rfl⟩:=qjS hpost;have HP:=hidI (hpost.new HB1.out Htk.out);clear hpost A;go_wp2_with fail;go_ret
 exact HP.out
theorem qgr {u:Bs→Option Bs} (hP:PackC u) (q:Bs) (w:World) (fb tb lo hi cb lb:Nat) (L:S1.Loc) (lv:S1.Lv) (kv qv:Option Nat) (nk nq:Nat) (m:S1.M) (K Q:Nat→Bool) (b p:Nat) (l:List It)
 (h:FsM w fb tb lo hi cb lb L lv kv qv nk nq m K Q b p l) (ht:TreeP l) (hml:ML w) (h0:¬FsS fb tb lo hi lb kv qv 0) (hb:b<1000) (hp:p≤m.np) (hq:q.length≤1048576) :
 Calls Tryz.prog 15 #[.pointer (some ⟨fb,0,none⟩),.string (txt q)] w fun e w'=>ChgP u w fb tb lo hi cb lb L lv kv qv nk nq m K Q b p l (l.filter fun y=>decide (y.path≠q)) (removeE l q) e w':=by
 have hmf:∀ (fn:Fn) (first cap:Array Value) (w:World),(Instr.makeFunc fn first cap).run Tryz.prog w=.ok (.func fn first cap) w:=fun _ _ _ _=>rfl
 obtain ⟨z,hz⟩:∃ z,z=w.heap.size:=⟨_,rfl⟩;obtain ⟨W1,hW1⟩:∃ W1,W1=w.alloc (.cells #[.string (txt q)] 9):=⟨_,rfl⟩;have hB1:Below w.heap.size w W1:=by rw [hW1];exact (Below.refl _ w).alloc (Nat.le_refl _) _
 have hA1:W1.heap[z]? = some (.cells #[.string (txt q)] 9 (0,0)):=by rw [hW1,hz];exact heap_alloc_new _ _
 have hM1:=h.below hB1;have hml1:ML W1:=hml.below hB1 hml.lt;have A:=hidI (qdX hP 32 #[.pointer (some ⟨z,0,none⟩)] W1 fb tb lo hi cb lb L lv kv qv nk nq m K Q b p l (l.filter fun y=>decide (y.path≠q)) (removeE l q) hM1 ht ht.remove hml1 h0 hb hp (enters_of Tryz.func32 (by kernel_rfl) rfl) (fun W hW=>qgR tb z l q W (hM1.tree.below hW hM1.tree.lt) ht (hml1.below hW hml1.lt) hq (by rw [cell_of_row W z 0 _ 9 (0,0) ((hW.block z (lt_of_heap hA1)).trans hA1)];rfl)));obtain ⟨X,hX⟩:∃ X,X=txt q:=⟨_,rfl⟩;rw [←hX] at hW1;rw [←hX];have HW1:=hidI hW1;have Hz:=hidI hz;have HB1:=hidI hB1;have Htk:Hid (∀ g,lv.tk=some g→g<w.heap.size):=hidI (fun g hg=>by
  obtain ⟨_,_,_,n,S,h5,_⟩:=h.tk g hg;exact h5.lt)
 clear hW1 hz hB1 hA1 hM1 hml1 h ht hml hX;go_enter Tryz.func15,Tryz.ntmps15
 go_wp2_with (first | (rw [←HW1.out,←Hz.out]) | fail);refine A.out.mono ?_;rintro e W2 hpost;obtain ⟨x,rfl⟩:=qjS hpost;have HP:=hidI (hpost.new HB1.out Htk.out);clear hpost A;go_wp2_with fail;go_ret
 exact HP.out
end Go.Proofs.YtodmdkhdbfbfgabGreatDoor
namespace Go.Proofs.YtodmdkhdbfbfgabGreatDoor.S1
open Go.RowKit Pk
theorem qfp {m:M} (h:m.life = -1):(tick m).life = -1:=by
 unfold tick callF;show (if m.life=0 then _ else _:Int × Int × Int).2.1 = -1;rw [h];simp
 repeat' split
 all_goals rfl
theorem qev {m:M} (hw:WF m) (h:m.life = -1) (b p:Nat) (x:List UInt8):(progA m (b:Nat) (p:Nat) x).2.life = -1:=by
 have ht:=qfp h;rcases qaD m b p x hw with ⟨_,_,_,_,_,_,_,e⟩ | ⟨_,e | ⟨e,_⟩ | ⟨_,_,_,_,_,c,_,⟨e,_⟩ | ⟨e,_⟩⟩⟩
 all_goals rw [e]
 ·exact ht
 ·exact h
 ·exact ht
 ·exact ht
 exact ht
theorem qfv {m:M} (h:m.life = -1) (b:Nat):(eraA m (b:Nat)).2.life = -1:=by
 have ht:=qfp h;rcases qa1 m b with ⟨_,_,_,_,e⟩ | ⟨_,⟨e,_⟩ | ⟨e,_⟩ | ⟨_,_,⟨e,_⟩ | ⟨⟨k,e⟩,_⟩⟩⟩
 all_goals rw [e]
 ·exact ht
 ·exact h
 ·exact ht
 ·exact ht
 exact ht
theorem qbl (b:Nat):∀ (l:List (List UInt8)) (m:M) (p:Nat) (S:Nat→Bool),WF m→m.life = -1→(progL b l m p S).2.1.life = -1
 | [],m,p,S,_,h=>h
 | x :: xs,m,p,S,hw,h=>by
   rw [progL]
   split
   ·split
    ·exact qbl b xs _ _ _ (qaY hw _ _ _) (qev hw h _ _ _)
    exact qev hw h _ _ _
   exact h
theorem qcA {m:M} (h:m.life = -1) (K Q:Nat→Bool) (b:Nat):(openF m K Q b).2.1.life = -1:=by
 unfold openF
 repeat' split
 all_goals first | exact h | exact qfv h _
theorem qfl {s:LS} (hw:WF s.m) (h:s.m.life = -1) (K:Nat→Bool):(lay1 K s).m.life = -1∧WF (lay1 K s).m:=by
 unfold lay1
 split
 ·exact ⟨qbl _ _ _ _ _ (qbL hw K s.Q s.b) (qcA h K s.Q s.b),qbb _ _ _ _ _ (qbL hw K s.Q s.b)⟩
 exact ⟨qcA h K s.Q s.b,qbL hw K s.Q s.b⟩
theorem qdp (K:Nat→Bool):∀ (k:Nat) (s:LS),WF s.m→s.m.life = -1→(layN K k s).m.life = -1∧WF (layN K k s).m
 | 0,s,hw,h=>⟨h,hw⟩
 | k+1,s,hw,h=>by
   rw [layN]
   split
   ·exact ⟨h,hw⟩
   have:=qfl hw h K
   exact qdp K k _ this.2 this.1
theorem qdr {α:Type} (p q:α→Bool):∀ l:List α,l.countP (fun x=>p x||q x)≤l.countP p+l.countP q
 | []=>Nat.le_refl _
 | x :: l=>by
   have:=qdr p q l
   simp only [List.countP_cons];cases p x<;>cases q x<;>simp<;>omega
theorem qeu (f:Nat→Bool):∀ l:List Nat,l.countP (fun i => !f i)+l.countP f=l.length
 | []=>rfl
 | x :: l=>by
   have:=qeu f l
   simp only [List.countP_cons,List.length_cons];cases f x<;>simp<;>omega
def cntB (n:Nat) (S:Nat→Bool):Nat:=(List.range n).countP S
theorem qb7 (n:Nat):cntB n (fun _=>false)=0:=by unfold cntB;simp
theorem cntB_mono {n:Nat} {S R:Nat→Bool} (h:∀ i,S i=true→R i=true):cntB n S≤cntB n R:=List.countP_mono_left fun i _ hi=>h i hi
theorem qho (b:Nat):∀ n,cntB n (fun j=>j==b)≤1∧(n≤b→cntB n (fun j=>j==b)=0)
 | 0=>⟨by simp [cntB],fun _=>rfl⟩
 | n+1=>by
   obtain ⟨h1,h2⟩:=qho b n;have e:cntB (n+1) (fun j=>j==b)=cntB n (fun j=>j==b)+if n=b then 1 else 0:=by
    unfold cntB;rw [List.range_succ,List.countP_append];simp [List.countP_cons]
   rw [e]
   split
   ·rename_i hb
    have:=h2 (by omega)
    exact ⟨by omega,fun h=>by omega⟩
   exact ⟨by omega,fun h=>by have:=h2 (by omega);omega⟩
theorem qmK (n b:Nat) (S:Nat→Bool):cntB n (fun j=>j==b||S j)≤cntB n S+1:=by
 have h1:=qdr (fun j=>j==b) S (List.range n);have h2:=(qho b n).1;unfold cntB at *;omega
theorem qks (b:Nat):∀ (l:List (List UInt8)) (m:M) (p:Nat) (S:Nat→Bool) (i:Nat),(progL b l m p S).2.2.2 i=true→(i==b||S i)=true
 | [],m,p,S,i,h=>by rw [progL] at h;simp only [] at h;rw [h,Bool.or_true]
 | x :: xs,m,p,S,i,h=>by
   rw [progL] at h
   split at h
   ·split at h
    ·have:=qks b xs _ _ _ i h
     simp only [Bool.or_eq_true] at this ⊢;rcases this with h1 | h1 | h1
     ·exact .inl h1
     ·exact .inl h1
     exact .inr h1
    simp only [] at h;rw [h,Bool.or_true]
   simp only [] at h;rw [h,Bool.or_true]
theorem qdt (n b:Nat) (l:List (List UInt8)) (m:M) (p:Nat) (S:Nat→Bool):cntB n (progL b l m p S).2.2.2≤cntB n S+1:=
 Nat.le_trans (cntB_mono fun i h=>qks b l m p S i h) (qmK n b S)
theorem qm0 {m0:M} {K:Nat→Bool} {xs:List (List UInt8)} {b0 v:Nat} {s:LS} (h:LayG m0 K xs b0 v s) (hl:s.m.life = -1) (ho:(openF s.m K s.Q s.b).1=true):(LS.opn K s).prog.left.length≤s.left.length - m0.np:=by
 have hn1:=h.wf.nb1;have hlt:(s.b+1)%s.m.nb<s.m.nb:=Nat.mod_lt _ (by omega);obtain ⟨k1,k2,k3⟩:=qaQ s.m K s.Q s.b;have hro:=qdy h.wf K h.rdy;have hwo:=qbL h.wf K s.Q s.b;have hlo:=qcA hl K s.Q s.b;have hof:(openF s.m K s.Q s.b).2.1.fail<0:=by
  unfold openF
  split
  ·exact h.fail
  split
  ·exact h.fail
  cases hbd:s.m.bd ((s.b+1)%s.m.nb) with
  | true=>rw [qg3 hbd];exact h.fail
  | false =>
    have:=qeJ h.fail hlt hbd
    split<;>exact this.1
 have hp0:(openF s.m K s.Q s.b).2.2.2=0:=by
  unfold openF at ho ⊢
  repeat' split at ho
  all_goals first | cases ho | skip
  all_goals simp_all
 obtain ⟨a1,a2,a3⟩:=qcT (Q:=(openF s.m K s.Q s.b).2.2.1) ((s.b+1)%s.m.nb) s.left (openF s.m K s.Q s.b).2.1 (openF s.m K s.Q s.b).2.2.2 s.S hwo hof hro h.lens;have a4:=qbl ((s.b+1)%s.m.nb) s.left (openF s.m K s.Q s.b).2.1 (openF s.m K s.Q s.b).2.2.2 s.S hwo hlo;rcases a3 with a3 | a3
 ·rw [a4] at a3;cases a3
 rw [hp0,k2,h.np,Nat.sub_zero] at a3;rw [hp0] at a4;show (progL _ s.left _ (openF s.m K s.Q s.b).2.2.2 s.S).1.length≤_;rw [hp0];exact a3
structure LayC (m0:M) (K:Nat→Bool) (xs:List (List UInt8)) (b0 v:Nat) (s:LS):Prop where
 g:LayG m0 K xs b0 v s
 life:s.m.life = -1
 part:s.left≠[]→cntB m0.nb s.S*m0.np+s.left.length≤xs.length
 all:cntB m0.nb s.S*m0.np<xs.length+m0.np
theorem LayC.round {m0:M} {K:Nat→Bool} {xs:List (List UInt8)} {b0 v:Nat} {s:LS} (h:LayC m0 K xs b0 v s) (hl:s.left≠[]):LayC m0 K xs b0 (v+1) (lay1 K s):=by
 have hg:=h.g.round (by rw [h.life];decide);have hlf:=(qfl h.g.wf h.life K).1;refine ⟨hg,hlf,?_,?_⟩
 all_goals
  have hp:=h.part hl;have hl1:0<s.left.length:=List.length_pos_iff.2 hl;unfold lay1
  split
 ·rename_i ho;intro hne;have hf:=qm0 h.g h.life ho;have hc:=qdt m0.nb ((s.b+1)%s.m.nb) s.left (openF s.m K s.Q s.b).2.1 (openF s.m K s.Q s.b).2.2.2 s.S;have hm:cntB m0.nb (LS.opn K s).prog.S*m0.np≤(cntB m0.nb s.S+1)*m0.np:=Nat.mul_le_mul_right m0.np hc;rw [Nat.add_mul,Nat.one_mul] at hm;have h1:0<(LS.opn K s).prog.left.length:=List.length_pos_iff.2 hne;omega
 ·exact fun _=>hp
 ·rename_i ho;have hc:=qdt m0.nb ((s.b+1)%s.m.nb) s.left (openF s.m K s.Q s.b).2.1 (openF s.m K s.Q s.b).2.2.2 s.S;have hm:cntB m0.nb (LS.opn K s).prog.S*m0.np≤(cntB m0.nb s.S+1)*m0.np:=Nat.mul_le_mul_right m0.np hc;rw [Nat.add_mul,Nat.one_mul] at hm;omega
 exact h.all
theorem LayC.rounds {m0:M} {K:Nat→Bool} {xs:List (List UInt8)} {b0:Nat}:∀ (k v:Nat) (s:LS),LayC m0 K xs b0 v s→∃ v',LayC m0 K xs b0 v' (layN K k s)
 | 0,v,s,h=>⟨v,h⟩
 | k+1,v,s,h=>by
   rw [layN]
   split
   ·exact ⟨v,h⟩
   rename_i hc;exact LayC.rounds k (v+1) _ (h.round fun e=>hc (.inl e))
theorem good_congr {m m':M} (h1:m'.nb=m.nb) (h2:m'.bd=m.bd):good m'=good m:=by
 unfold good badN;rw [h1,h2]
theorem qjd (m:M):(List.range m.nb).countP (fun i => !m.bd i)=good m:=by
 have h1:=qeu m.bd (List.range m.nb);rw [List.length_range] at h1;have h2:(List.range m.nb).countP m.bd=badN m:=rfl;unfold good;omega
theorem qoz (K:Nat→Bool) {s:LS} (h:s.p≤s.m.np):(lay1 K s).p≤(lay1 K s).m.np:=by
 obtain ⟨k1,k2,k3⟩:=qaQ s.m K s.Q s.b;unfold lay1
 split
 ·obtain ⟨q1,q2,q3,q4⟩:=qax ((s.b+1)%s.m.nb) s.left (openF s.m K s.Q s.b).2.1 (openF s.m K s.Q s.b).2.2.2 s.S;have q5:(LS.opn K s).prog.m.np=(openF s.m K s.Q s.b).2.1.np:=q2;rw [q5];exact q4 (by rw [k2];exact k3)
 show (openF s.m K s.Q s.b).2.2.2≤(openF s.m K s.Q s.b).2.1.np;rw [k2];exact k3
theorem qnj {K:Nat→Bool}:∀ {k:Nat} {s:LS},s.p≤s.m.np→(layN K k s).p≤(layN K k s).m.np
 | 0,s,h=>h
 | k+1,s,h=>by
   rw [layN]
   split
   ·exact h
   exact qnj (qoz K h)
structure Snd (m:M) (K Q:Nat→Bool) (b p:Nat):Prop where
 wf:WF m
 life:m.life = -1
 fail:m.fail<0
 rdy:Rdy m Q b p
 few:cntB m.nb K≤good m/2
 b:b<m.nb
 p:p≤m.np
theorem Snd.lay {m:M} {K Q:Nat→Bool} {b p:Nat} (h:Snd m K Q b p) {xs:List (List UInt8)} (hx:∀ x∈xs,x.length=64) (h1:0<xs.length) (h2:xs.length≤roomP m) (s:LS) (hs:s=layF K ⟨xs,m,Q,b,p,fun _=>false⟩) :
 s.left=[]∧Snd s.m s.S s.Q s.b s.p∧s.m.nb=m.nb∧s.m.np=m.np∧s.m.bd=m.bd:=by
 have hg1:1≤good m/2:=by
  unfold roomP at h2;rcases Nat.eq_zero_or_pos (good m/2) with e | e
  ·rw [e,Nat.zero_mul] at h2;omega
  exact e
 have hnp:=h.wf.np1;unfold layF lay0 at hs;by_cases hc:xs.length+p≤m.np
 ·rw [if_pos (show (LS.mk xs m Q b p fun _=>false).left.length+(LS.mk xs m Q b p fun _=>false).p≤(LS.mk xs m Q b p fun _=>false).m.np from hc)] at hs;obtain ⟨a1,a2,a3⟩:=qcT (Q:=Q) b xs m p (fun _=>false) h.wf h.fail h.rdy hx;have a4:=qbl b xs m p (fun _=>false) h.wf h.life;have hleft:(progL b xs m p (fun _=>false)).1=[]:=by
   rcases a3 with a3 | a3
   ·rw [a4] at a3;cases a3
   exact List.eq_nil_of_length_eq_zero (by omega)
  rw [qdv K (.inl hleft)] at hs;obtain ⟨k1,k2,k3,k4⟩:=qax b xs m p (fun _=>false);have hcn:=qdt m.nb b xs m p (fun _=>false);rw [qb7] at hcn;subst hs;refine ⟨hleft,⟨qbb b xs m p _ h.wf,a4,a1,qbC b xs m p _ h.wf h.rdy,?_,?_,?_⟩,k1,k2,a2⟩
  ·show cntB (progL b xs m p (fun _=>false)).2.1.nb (progL b xs m p (fun _=>false)).2.2.2≤good (progL b xs m p (fun _=>false)).2.1/2;rw [good_congr k1 a2,k1];omega
  ·show b<(progL b xs m p (fun _=>false)).2.1.nb;rw [k1];exact h.b
  show (progL b xs m p (fun _=>false)).2.2.1≤(progL b xs m p (fun _=>false)).2.1.np;rw [k2];exact k4 h.p
 rw [if_neg (show ¬(LS.mk xs m Q b p fun _=>false).left.length+(LS.mk xs m Q b p fun _=>false).p≤(LS.mk xs m Q b p fun _=>false).m.np from hc)] at hs;have hG:LayG m K xs b 0 ⟨xs,m,Q,b,p,fun _=>false⟩:=⟨h.wf,rfl,rfl,by show b=(b+0)%m.nb;rw [Nat.add_zero,Nat.mod_eq_of_lt h.b],h.fail,rfl,h.rdy,hx,.inr (by simp [cntF])⟩;have hC:LayC m K xs b 0 ⟨xs,m,Q,b,p,fun _=>false⟩:=⟨hG,h.life,fun _=>by show cntB m.nb (fun _=>false)*m.np+xs.length≤_;rw [qb7];omega,by show cntB m.nb (fun _=>false)*m.np<_;rw [qb7];omega⟩;obtain ⟨v,hV⟩:=LayC.rounds m.nb 0 _ hC;rw [←hs] at hV;have hall:=qlE hG (by
  have e1:good m≤(List.range m.nb).countP (fun i => !K i && !m.bd i)+cntB m.nb K:=by
   rw [←qjd];refine Nat.le_trans (List.countP_mono_left fun i _ hi => ?_) (qdr _ K (List.range m.nb))
   revert hi
   cases K i<;>cases m.bd i<;>simp
  have e2:good m/2≤(List.range m.nb).countP (fun i => !K i && !m.bd i):=by have:=h.few;omega
  refine Nat.le_trans h2 ?_;unfold roomP;rw [Nat.mul_comm];exact Nat.mul_le_mul_left _ e2)
 have hleft:s.left=[]:=by
  have e:s=layN K m.nb ⟨xs,m,Q,b,p,fun _=>false⟩:=hs;rw [←e] at hall;rcases hall with h3 | h3
  ·rw [hV.life] at h3;cases h3
  exact h3
 have hgd:=good_congr hV.g.nb hV.g.bd;have hn1:=h.wf.nb1;refine ⟨hleft,⟨hV.g.wf,hV.life,hV.g.fail,hV.g.rdy,?_,?_,?_⟩,hV.g.nb,hV.g.np,hV.g.bd⟩
 ·rw [hgd,hV.g.nb];have e1:=hV.all;unfold roomP at h2;have e2:cntB m.nb s.S*m.np<(good m/2+1)*m.np:=by rw [Nat.add_mul,Nat.one_mul];omega
  have:=Nat.lt_of_mul_lt_mul_right e2
  omega
 ·rw [hV.g.b,hV.g.nb];exact Nat.mod_lt _ (by omega)
 by_cases hp:s.p≤s.m.np
 ·exact hp
 exact absurd hp (by
  have:=qnj (K:=K) (k:=m.nb) (s:=⟨xs,m,Q,b,p,fun _=>false⟩) h.p
  have e:s=layN K m.nb ⟨xs,m,Q,b,p,fun _=>false⟩:=hs;rw [←e] at this;exact fun h=>h this)
end Go.Proofs.YtodmdkhdbfbfgabGreatDoor.S1
namespace Go.Proofs.YtodmdkhdbfbfgabGreatDoor
open Go.RowKit Go.Nt
def Alike' (m m':S1.M):Prop:=m'.nb=m.nb∧m'.np=m.np∧m'.bd=m.bd
theorem Alike'.room {m m':S1.M} (h:Alike' m m'):S1.roomP m'=S1.roomP m:=by
 unfold S1.roomP;rw [S1.good_congr h.1 h.2.2,h.2.1]
theorem FsM.lt {w:World} {fb tb lo hi cb lb:Nat} {L:S1.Loc} {lv:S1.Lv} {kv qv:Option Nat} {nk nq:Nat} {m:S1.M} {K Q:Nat→Bool} {b p:Nat} {l:List It} (h:FsM w fb tb lo hi cb lb L lv kv qv nk nq m K Q b p l) (k:Nat) (hk:FsS fb tb lo hi lb kv qv k∨lv.tk=some k):k<w.heap.size:=by
 rcases hk with (hk | hk | hk) | hk
 ·exact S1.logS_lt h.log hk
 ·rw [hk];exact lt_of_heap h.fs
 ·rw [hk];exact h.tree.lt
 obtain ⟨_,_,_,n,S,h4,_⟩:=h.tk k hk;exact h4.lt
theorem qon (x y:It) (w:World):(binOp .eql 53 (itv x) (itv y)).run Tryz.prog w=.ok (.bool (decide (x=y))) w:=by
 have h:=qoF x y w;unfold itv at *;rw [run_eql_struct,h];rfl
theorem qbT {B:Nat} {w W:World} (h:Below B w W) (q:Nat):Below B w (W.drewN q):=below_drewN h q
theorem qm6 (a:Option Addr) (c:Nat) (l:List It) (x:It) (w:World) (ha:ItsIn w a l) (hn:l.length≤1048576) :
 Calls Tryz.prog 43 #[.slice a l.length c,itv x] w fun e w'=>e=.returned (.bool (decide (x∈l)))∧Below w.heap.size w w':=by
 obtain ⟨W,hW⟩:∃ W,W=boxed w x:=⟨_,rfl⟩;have hbW:Below w.heap.size w W:=by rw [hW];exact (Below.refl _ w).alloc (Nat.le_refl _) _
 have hat:ItAt W w.heap.size 0 x:=by rw [hW];exact qbJ w x
 have Ha:Hid (ItsIn W a l):=hidI (ha.below hbW);have HW:Hid (W=w.alloc (.cells #[.string (txt x.path),.bool x.dir,.string (txt x.data),.int .i64 x.mode,.int .i64 x.time] 53)):=hidI hW;have HB:=hidI hbW;obtain ⟨N,hN⟩:∃ N,N=l.length:=⟨_,rfl⟩;rw [←hN] at hn ⊢;have HN:=hidI hN;obtain ⟨g,hg⟩:∃ g,g=w.heap.size:=⟨_,rfl⟩;obtain ⟨y0,y1,y2,y3,y4⟩:=hat;rw [←hg] at y0 y1 y2 y3 y4;have Hg:=hidI hg;rw [Nat.zero_add] at y1 y2 y3 y4;clear hN hW ha hbW;unfold itv;go_enter Tryz.func43,Tryz.ntmps43
 go_wp2_with (first | (rw [←HW.out,←hg]) | fail);clear hg
 go_loopw [5] (fun i wr=>∃ k:Nat,k≤N∧i=.int .i64 k∧(∃ q,wr=W.drewN q)∧Hid (x∉l.take k)) (fun i _=>N - (intOf i).toNat)
 case atStart=>exact ⟨0,Nat.zero_le _,rfl,⟨0,rfl⟩,hidI (by simp)⟩
 case round =>
  obtain ⟨k,hk,rfl,⟨q,rfl⟩,Hn⟩:=hrel;by_cases hlt:k<N
  ·have hkl:k<l.length:=by have:=HN.out;omega
   obtain ⟨b1,o1,rfl,h1⟩:=Ha.out (fun h=>by rw [h] at hkl;simp at hkl);obtain ⟨y,hy⟩:∃ y,l[k]? = some y:=⟨_,List.getElem?_eq_getElem hkl⟩;obtain ⟨x0,x1,x2,x3,x4⟩:=h1 k y hy;have Hy:=hidI hy;have htk:l.take (k+1)=l.take k++[y]:=by rw [List.take_add_one,hy];rfl
   have heql:=fun w=>qon y x w
   unfold itv at heql;have hge:=eqg;by_cases e:y=x
   ·have ed:decide (y=x)=true:=by simp [e]
    rw [ed] at heql;have Hr:Hid (decide (x∈l)=true):=hidI (decide_eq_true (by rw [←e];exact List.mem_of_getElem? hy));clear e ed h1 hy hkl htk;go_wp2
    go_quiet (fail)
    go_wp2;go_ret
    exact ⟨qai Hr.out.symm,qbT (qbT HB.out _) _⟩
   have ed:decide (y=x)=false:=by simp [e]
   rw [ed] at heql;have Hn2:Hid (x∉l.take (k+1)):=hidI (by
    rw [htk,List.mem_append];rintro (h | h)
    ·exact Hn.out h
    simp at h;exact e h.symm)
   clear e ed h1 hy hkl htk;go_wp2
   go_quiet (fail)
   go_wp2;go_roundw
   case rel=>exact ⟨k+1,by omega,by go_num,⟨_,rfl⟩,Hn2⟩
   case measure=>simp [intOf];omega
  have Hr:Hid (decide (x∈l)=false):=hidI (decide_eq_false fun h=>Hn.out (by rw [List.take_of_length_le (by have:=HN.out;omega)];exact h));go_wp2;go_ret
  exact ⟨qai Hr.out.symm,qbT HB.out _⟩
def sameB (l m:List It):Bool:=decide (l.length=m.length)&&l.all fun x=>decide (x∈m)
theorem qb9 (a b:Option Addr) (c d:Nat) (l m:List It) (w:World) (ha:ItsIn w a l) (hb:ItsIn w b m) (hn:l.length≤1048576) (hm:m.length≤1048576) :
 Calls Tryz.prog 23 #[.slice a l.length c,.slice b m.length d] w fun e w'=>e=.returned (.bool (sameB l m))∧Below w.heap.size w w':=by
 by_cases hlen:l.length=m.length
 ·obtain ⟨N,hN⟩:∃ N,N=m.length:=⟨_,rfl⟩;rw [hlen,←hN];have Hl:=hidI (hlen.trans hN.symm);have Hm:=hidI hN.symm;have hN9:N≤1048576:=by omega
  have Ha:=hidI ha;have Hb:=hidI hb;have HH:=hidI (fun (V:World) (x:It) (h:Below w.heap.size w V)=>qm6 b d m x V (hb.below h) hm);rw [←hN] at HH;clear hlen hN hn hm ha hb;go_enter Tryz.func23,Tryz.ntmps23
  go_wp2
  go_loopw [5] (fun i wr=>∃ k:Nat,k≤N∧i=.int .i64 k∧Hid (Below w.heap.size w wr)∧Hid (∀ x∈l.take k,x∈m)) (fun i _=>N - (intOf i).toNat)
  case atStart=>exact ⟨0,Nat.zero_le _,rfl,hidI (Below.refl _ _),hidI (by simp)⟩
  obtain ⟨k,hk,rfl,HB,Hn⟩:=hrel;by_cases hlt:k<N
  ·have hkl:k<l.length:=by have:=Hl.out;omega
   obtain ⟨b1,o1,rfl,h1⟩:=(Ha.out.below HB.out) (fun h=>by rw [h] at hkl;simp at hkl);obtain ⟨x,hx⟩:∃ x,l[k]? = some x:=⟨_,List.getElem?_eq_getElem hkl⟩;obtain ⟨x0,x1,x2,x3,x4⟩:=h1 k x hx;have Hx:=hidI hx;have htk:l.take (k+1)=l.take k++[x]:=by rw [List.take_add_one,hx];rfl
   have Htk:=hidI htk;have A:=hidI (HH.out wr x HB.out);unfold itv at A;obtain ⟨r,hr⟩:∃ r,r=decide (x∈m):=⟨_,rfl⟩;rw [←hr] at A;have Hr:=hidI hr;have hsz:=HB.out.size;clear h1 hx hkl htk hr;go_wp2_with fail;refine A.out.mono ?_;rintro e w1 ⟨rfl,hb1⟩;have HB1:=hidI (HB.out.trans (hb1.mono hsz));clear hb1 A x0 x1 x2 x3 x4 HB;cases r with
   | true =>
     go_wp2;go_roundw
     case rel=>exact ⟨k+1,by omega,by go_num,HB1,hidI (by
      rw [Htk.out];intro y hy;rcases List.mem_append.1 hy with hy | hy
      ·exact Hn.out y hy
      simp at hy;subst hy;exact of_decide_eq_true Hr.out.symm)⟩
     case measure=>simp [intOf];omega
   | false =>
     have HS:Hid (sameB l m=false):=hidI (by
      unfold sameB
      have:l.all (fun x=>decide (x∈m))=false:=List.all_eq_false.2 ⟨x,List.mem_of_getElem? Hx.out,by rw [←Hr.out];simp⟩
      rw [this,Bool.and_false])
     go_wp2;go_ret
     exact ⟨qai HS.out.symm,HB1.out⟩
  have HS:Hid (sameB l m=true):=hidI (by
   unfold sameB;have h2:=Hl.out;have h3:=Hm.out;rw [decide_eq_true (by omega),Bool.true_and,List.all_eq_true];intro x hx
   have:=Hn.out
   rw [List.take_of_length_le (by omega)] at this;exact decide_eq_true (this x hx))
  go_wp2;go_ret
  exact ⟨qai HS.out.symm,HB.out⟩
 have HS:Hid (sameB l m=false):=hidI (by unfold sameB;rw [decide_eq_false hlen,Bool.false_and]);have hlen':((l.length:Int) != (m.length:Int))=true:=bne_iff_ne.2 (by omega);go_enter Tryz.func23,Tryz.ntmps23
 go_wp2;go_ret
 exact ⟨qai HS.out.symm,Below.refl _ _⟩
def wo (l:List It) (p:Bs):List It:=l.filter fun y => !decide (y.path=p)
theorem qjU {l:List It} {p:Bs} {k:Nat} {x:It} (h:l[k]? = some x):wo (l.take (k+1)) p=wo (l.take k) p++(if x.path=p then [] else [x]):=by
 rw [List.take_add_one,h];unfold wo;rw [List.filter_append]
 congr 1
 by_cases e:x.path=p<;>simp [e]
theorem qfF (l:List It) (p:Bs):(wo l p).length≤l.length:=List.length_filter_le _ _
theorem qdN (a:Option Addr) (c:Nat) (l:List It) (p:Bs) (w:World) (ha:ItsIn w a l) (hn:l.length≤1000) :
 Calls Tryz.prog 42 #[.slice a l.length c,.string (txt p)] w fun e w'=>∃ v,e=.returned v∧w'.ownsRow w.heap.size 53 5 v (wo l p).length (its (wo l p))∧Below w.heap.size w w':=by
 obtain ⟨i0,hi,hz0,hz1,hz2⟩:=info_parts Tryz.info24;obtain ⟨N,hN⟩:∃ N,N=l.length:=⟨_,rfl⟩;rw [←hN] at hn ⊢;have HN:=hidI hN;have Ha:=hidI ha;obtain ⟨P,hP⟩:∃ P,P=txt p:=⟨_,rfl⟩;rw [←hP];have HP:=hidI hP;clear hN ha hP;go_enter Tryz.func42,Tryz.ntmps42
 go_wp2
 go_loopw [5,6] (fun v i wr=>∃ k:Nat,k≤N∧i=.int .i64 k∧Hid (wr.ownsRow w.heap.size 53 5 v (wo (l.take k) p).length (its (wo (l.take k) p)))∧Hid (Below w.heap.size w wr)) (fun _ i _=>N - (intOf i).toNat)
 case atStart=>exact ⟨0,Nat.zero_le _,rfl,hidI (World.ownsRow_nil _ _ _ _),hidI (Below.refl _ _)⟩
 case round =>
  obtain ⟨k,hk,rfl,HO,HB⟩:=hrel;obtain ⟨aL,cL,rfl,hits⟩:=qa9 HO.out;clear hits;by_cases hlt:k<N
  ·have hkl:k<l.length:=by have:=HN.out;omega
   obtain ⟨b1,o1,rfl,h1⟩:=(Ha.out.below HB.out) (fun h=>by rw [h] at hkl;simp at hkl);obtain ⟨x,hx⟩:∃ x,l[k]? = some x:=⟨_,List.getElem?_eq_getElem hkl⟩;obtain ⟨x0,x1,x2,x3,x4⟩:=h1 k x hx;have Hw:=hidI (qjU (p:=p) hx);obtain ⟨L,hL⟩:∃ L,L=(wo (l.take k) p).length:=⟨_,rfl⟩;have hL9:L≤1000:=by have:=qfF (l.take k) p;rw [List.length_take] at this;omega
   rw [←hL] at HO ⊢;have HL:=hidI hL;have hsz:=HB.out.size;obtain ⟨X,hX⟩:∃ X,X=txt x.path:=⟨_,rfl⟩;have hcmp:(X.toList != P.toList) = !decide (x.path=p):=by
    rw [hX,HP.out,qaf,qaf];by_cases e:x.path=p<;>simp [e]
   rw [←hX] at x0;have HX:=hidI hX;clear hkl h1 hx hL hX;by_cases e:x.path=p
   ·have hc2:(X.toList==P.toList)=true:=by rw [HX.out,HP.out,qaf,qaf];simp [e]
    rw [decide_eq_true e,Bool.not_true] at hcmp;rw [if_pos e,List.append_nil] at Hw;clear e;go_wp2;go_roundw
    case rel=>exact ⟨k+1,by omega,by go_num,hidI (by rw [Hw.out,←HL.out];exact HO.out),HB⟩
    case measure=>simp [intOf];omega
   have hc2:(X.toList==P.toList)=false:=by rw [HX.out,HP.out,qaf,qaf];simp [e]
   rw [decide_eq_false e,Bool.not_false] at hcmp;rw [if_neg e] at Hw;clear e;go_wp2_with (at_builtin;refine wpList_append_own _ rfl (.tmp 20) (.tmp 25) 42 rfl w.heap.size 53 i0 _ 5 56 Tryz.underlying42 hi hz0 hz1 hz2 rfl (by decide) _ _ _ rfl (HO.out.alloc _) ⟨wr.heap.size,0,none⟩ 1 1 (itl x) rfl ?e1 ?e2 ?e3 ?e4 ?e5 ?e6 ?_)
   case e1=>rfl
   case e2 =>
    intro j v hv;rw [addr_add];have h:=(qbJ wr x).cell hv;unfold boxed at h;rw [HX.out];simpa using h
   case e3=>intro v hv;exact qa6 (l:=[x]) v (by rw [qbc];exact hv)
   case e4=>unfold maxLen;omega
   case e5=>omega
   case e6=>simp;omega
   intro v4 w4 hown4 hgrow4 _;have hb4:Below w.heap.size w w4:=(HB.out.alloc (by omega) _).grown hgrow4 (by simp;omega) (fun q hq=>(HO.out.lt q hq).1);have HO4:Hid (w4.ownsRow w.heap.size 53 5 v4 (wo (l.take (k+1)) p).length (its (wo (l.take (k+1)) p))):=hidI (by rw [Hw.out,qaZ,qbc,List.length_append,←HL.out];exact hown4);have HB4:=hidI hb4;clear hown4 hgrow4 hb4;go_wp2;go_roundw
   case rel=>exact ⟨k+1,by omega,by go_num,HO4,HB4⟩
   case measure=>simp [intOf];omega
  have hkN:k=N:=by omega
  subst hkN;have HO2:Hid (wr.ownsRow w.heap.size 53 5 (.slice aL (wo (l.take k) p).length cL) (wo l p).length (its (wo l p))):=hidI (by have h:=HO.out;rw [HN.out,List.take_length] at h ⊢;exact h);go_wp2;go_ret
  exact ⟨_,rfl,HO2.out,HB.out⟩
theorem qmQ (l:List It) (p:Bs):decide ((wo l p).length<l.length)=(at? l p).isSome:=by
 rw [Bool.eq_iff_iff,decide_eq_true_eq];cases h:at? l p with
 | none =>
   have h1:=at_none.1 h
   have:wo l p=l:=List.filter_eq_self.2 fun x hx=>by simp [h1 x hx]
   rw [this];simp
 | some x =>
   obtain ⟨hx,hp⟩:=qau h;refine ⟨fun _=>rfl,fun _ => ?_⟩;have h1:=qfF l p;rcases Nat.lt_or_ge (wo l p).length l.length with h2 | h2
   ·exact h2
   have h3:wo l p=l:=List.filter_sublist.eq_of_length_le h2;rw [←h3] at hx
   have:=(List.mem_filter.1 hx).2
   simp [hp] at this
theorem qkf (a:Option Addr) (c:Nat) (l:List It) (p:Bs) (w:World) (ha:ItsIn w a l) (hn:l.length≤1000) :
 Calls Tryz.prog 41 #[.slice a l.length c,.string (txt p)] w fun e w'=>e=.returned (.bool (at? l p).isSome)∧Below w.heap.size w w':=by
 have A:=hidI (qdN a c l p w ha hn);have Hr:=hidI (qmQ l p);have hw9:=qfF l p;obtain ⟨N,hN⟩:∃ N,N=l.length:=⟨_,rfl⟩;rw [←hN] at A hn Hr hw9 ⊢;clear hN ha;go_enter Tryz.func41,Tryz.ntmps41
 go_wp2_with fail;refine A.out.mono ?_;rintro e w1 ⟨v,rfl,ho,hb⟩;obtain ⟨aL,cL,rfl,_⟩:=qa9 ho;obtain ⟨L,hL⟩:∃ L,L=(wo l p).length:=⟨_,rfl⟩;rw [←hL] at Hr hw9 ⊢;have HB:=hidI hb;clear ho hb hL A;go_wp2;go_ret
 exact ⟨qai (by rw [←Hr.out]),HB.out⟩
end Go.Proofs.YtodmdkhdbfbfgabGreatDoor
