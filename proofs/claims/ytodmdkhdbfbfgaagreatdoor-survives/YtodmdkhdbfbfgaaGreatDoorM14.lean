/- Lemmas. -/
import Derived.Laws.OwnMore
import Derived.Lib.SliceRun
import Derived.Deep.AppendLies
import Derived.RangeFuncGives
import Derived.RangeFuncSeq
import Derived.Test.YtodmdkhdbfbfgaaGreatDoorM13
set_option linter.unusedVariables false
set_option linter.unusedSimpArgs false
set_option maxRecDepth 100000
set_option maxHeartbeats 8000000
namespace Go.Proofs.YtodmdkhdbfbfgaaGreatDoor
namespace S1
open Go.RowKit Pk
theorem qfm {m:M} (h:m.life = -1):(tick m).life = -1:=by
 unfold tick callF;show (if m.life=0 then _ else _:Int × Int × Int).2.1 = -1;rw [h];simp
 repeat' split
 all_goals rfl
theorem qes {m:M} (hw:WF m) (h:m.life = -1) (b p:Nat) (x:List UInt8):(progA m (b:Nat) (p:Nat) x).2.life = -1:=by
 have ht:=qfm h;rcases qaE m b p x hw with ⟨_,_,_,_,_,_,_,e⟩ | ⟨_,e | ⟨e,_⟩ | ⟨_,_,_,_,_,c,_,⟨e,_⟩ | ⟨e,_⟩⟩⟩
 all_goals rw [e]
 ·exact ht
 ·exact h
 ·exact ht
 ·exact ht
 exact ht
theorem qfS {m:M} (h:m.life = -1) (b:Nat):(eraA m (b:Nat)).2.life = -1:=by
 have ht:=qfm h;rcases qaZ m b with ⟨_,_,_,_,e⟩ | ⟨_,⟨e,_⟩ | ⟨e,_⟩ | ⟨_,_,⟨e,_⟩ | ⟨⟨k,e⟩,_⟩⟩⟩
 all_goals rw [e]
 ·exact ht
 ·exact h
 ·exact ht
 ·exact ht
 exact ht
theorem qep (b:Nat):∀ (l:List (List UInt8)) (m:M) (p:Nat) (S:Nat→Bool),WF m→m.life = -1→(progL b l m p S).2.1.life = -1
 | [],m,p,S,_,h=>h
 | x :: xs,m,p,S,hw,h=>by
   rw [progL]
   split
   ·split
    ·exact qep b xs _ _ _ (qaY hw _ _ _) (qes hw h _ _ _)
    exact qes hw h _ _ _
   exact h
theorem qd8 {m:M} (h:m.life = -1) (K Q:Nat→Bool) (b:Nat):(openF m K Q b).2.1.life = -1:=by
 unfold openF
 repeat' split
 all_goals first | exact h | exact qfS h _
theorem lay1_life {s:LS} (hw:WF s.m) (h:s.m.life = -1) (K:Nat→Bool):(lay1 K s).m.life = -1∧WF (lay1 K s).m:=by
 unfold lay1
 split
 ·exact ⟨qep _ _ _ _ _ (qbF hw K s.Q s.b) (qd8 h K s.Q s.b),qbk _ _ _ _ _ (qbF hw K s.Q s.b)⟩
 exact ⟨qd8 h K s.Q s.b,qbF hw K s.Q s.b⟩
theorem qdI {α:Type} (p q:α→Bool):∀ l:List α,l.countP (fun x=>p x||q x)≤l.countP p+l.countP q
 | []=>Nat.le_refl _
 | x :: l=>by
   have:=qdI p q l
   simp only [List.countP_cons];cases p x<;>cases q x<;>simp<;>omega
theorem qej (f:Nat→Bool):∀ l:List Nat,l.countP (fun i => !f i)+l.countP f=l.length
 | []=>rfl
 | x :: l=>by
   have:=qej f l
   simp only [List.countP_cons,List.length_cons];cases f x<;>simp<;>omega
def cntB (n:Nat) (S:Nat→Bool):Nat:=(List.range n).countP S
theorem qcl (n:Nat):cntB n (fun _=>false)=0:=by unfold cntB;simp
theorem cntB_mono {n:Nat} {S R:Nat→Bool} (h:∀ i,S i=true→R i=true):cntB n S≤cntB n R:=List.countP_mono_left fun i _ hi=>h i hi
theorem qhB (b:Nat):∀ n,cntB n (fun j=>j==b)≤1∧(n≤b→cntB n (fun j=>j==b)=0)
 | 0=>⟨by simp [cntB],fun _=>rfl⟩
 | n+1=>by
   obtain ⟨h1,h2⟩:=qhB b n;have e:cntB (n+1) (fun j=>j==b)=cntB n (fun j=>j==b)+if n=b then 1 else 0:=by
    unfold cntB;rw [List.range_succ,List.countP_append];simp [List.countP_cons]
   rw [e]
   split
   ·rename_i hb
    have:=h2 (by omega)
    exact ⟨by omega,fun h=>by omega⟩
   exact ⟨by omega,fun h=>by have:=h2 (by omega);omega⟩
theorem qmw (n b:Nat) (S:Nat→Bool):cntB n (fun j=>j==b||S j)≤cntB n S+1:=by
 have h1:=qdI (fun j=>j==b) S (List.range n);have h2:=(qhB b n).1;unfold cntB at *;omega
theorem qkL (b:Nat):∀ (l:List (List UInt8)) (m:M) (p:Nat) (S:Nat→Bool) (i:Nat),(progL b l m p S).2.2.2 i=true→(i==b||S i)=true
 | [],m,p,S,i,h=>by rw [progL] at h;simp only [] at h;rw [h,Bool.or_true]
 | x :: xs,m,p,S,i,h=>by
   rw [progL] at h
   split at h
   ·split at h
    ·have:=qkL b xs _ _ _ i h
     simp only [Bool.or_eq_true] at this ⊢;rcases this with h1 | h1 | h1
     ·exact .inl h1
     ·exact .inl h1
     exact .inr h1
    simp only [] at h;rw [h,Bool.or_true]
   simp only [] at h;rw [h,Bool.or_true]
theorem qdJ (n b:Nat) (l:List (List UInt8)) (m:M) (p:Nat) (S:Nat→Bool):cntB n (progL b l m p S).2.2.2≤cntB n S+1:=
 Nat.le_trans (cntB_mono fun i h=>qkL b l m p S i h) (qmw n b S)
theorem good_congr {m m':M} (h1:m'.nb=m.nb) (h2:m'.bd=m.bd):good m'=good m:=by
 unfold good badN;rw [h1,h2]
theorem qjd (m:M):(List.range m.nb).countP (fun i => !m.bd i)=good m:=by
 have h1:=qej m.bd (List.range m.nb);rw [List.length_range] at h1;have h2:(List.range m.nb).countP m.bd=badN m:=rfl;unfold good;omega
theorem qou (K:Nat→Bool) {s:LS} (h:s.p≤s.m.np):(lay1 K s).p≤(lay1 K s).m.np:=by
 obtain ⟨k1,k2,k3⟩:=qaT s.m K s.Q s.b;unfold lay1
 split
 ·obtain ⟨q1,q2,q3,q4⟩:=qau ((s.b+1)%s.m.nb) s.left (openF s.m K s.Q s.b).2.1 (openF s.m K s.Q s.b).2.2.2 s.S;have q5:(LS.opn K s).prog.m.np=(openF s.m K s.Q s.b).2.1.np:=q2;rw [q5];exact q4 (by rw [k2];exact k3)
 show (openF s.m K s.Q s.b).2.2.2≤(openF s.m K s.Q s.b).2.1.np;rw [k2];exact k3
theorem qni {K:Nat→Bool}:∀ {k:Nat} {s:LS},s.p≤s.m.np→(layN K k s).p≤(layN K k s).m.np
 | 0,s,h=>h
 | k+1,s,h=>by
   rw [layN]
   split
   ·exact h
   exact qni (qou K h)
structure Snd (m:M) (K Q:Nat→Bool) (b p:Nat):Prop where
 wf:WF m
 life:m.life = -1
 fail:m.fail<0
 rdy:Rdy m Q b p
 few:cntB m.nb K≤good m/2
 b:b<m.nb
 p:p≤m.np
end S1
section
open Go.RowKit Go.Nt
def Alike' (m m':S1.M):Prop:=m'.nb=m.nb∧m'.np=m.np∧m'.bd=m.bd
theorem Alike'.room {m m':S1.M} (h:Alike' m m'):S1.roomP m'=S1.roomP m:=by
 unfold S1.roomP;rw [S1.good_congr h.1 h.2.2,h.2.1]
theorem FsM.lt {w:World} {fb tb lo hi cb lb:Nat} {L:S1.Loc} {lv:S1.Lv} {kv qv:Option Nat} {nk nq:Nat} {m:S1.M} {K Q:Nat→Bool} {b p:Nat} {l:List It} (h:FsM w fb tb lo hi cb lb L lv kv qv nk nq m K Q b p l) (k:Nat) (hk:FsS fb tb lo hi lb kv qv k∨lv.tk=some k):k<w.heap.size:=by
 rcases hk with (hk | hk | hk) | hk
 ·exact S1.logS_lt h.log hk
 ·rw [hk];exact lt_of_heap h.fs
 ·rw [hk];exact h.tree.lt
 obtain ⟨_,_,_,n,S,h4,_⟩:=h.tk k hk;exact h4.lt
theorem qoG (x y:It) (w:World):(binOp .eql 39 (itv x) (itv y)).run Tryz.prog w=.ok (.bool (decide (x=y))) w:=by
 have h:=qoM x y w;unfold itv at *;rw [run_eql_struct,h];rfl
theorem qbS {B:Nat} {w W:World} (h:Below B w W) (q:Nat):Below B w (W.drewN q):=below_drewN h q
theorem qlD (a:Option Addr) (c:Nat) (l:List It) (x:It) (w:World) (ha:ItsIn w a l) (hn:l.length≤1048576) :
 Calls Tryz.prog 38 #[.slice a l.length c,itv x] w fun e w'=>e=.returned (.bool (decide (x∈l)))∧Below w.heap.size w w':=by
 obtain ⟨W,hW⟩:∃ W,W=boxed w x:=⟨_,rfl⟩;have hbW:Below w.heap.size w W:=by rw [hW];exact (Below.refl _ w).alloc (Nat.le_refl _) _
 have hat:ItAt W w.heap.size 0 x:=by rw [hW];exact qbM w x
 have Ha:Hid (ItsIn W a l):=hidI (ha.below hbW);have HW:Hid (W=w.alloc (.cells #[.string (txt x.path),.bool x.dir,.string (txt x.data),.int .i64 x.mode,.int .i64 x.time] 39)):=hidI hW;have HB:=hidI hbW;obtain ⟨N,hN⟩:∃ N,N=l.length:=⟨_,rfl⟩;rw [←hN] at hn ⊢;have HN:=hidI hN;obtain ⟨g,hg⟩:∃ g,g=w.heap.size:=⟨_,rfl⟩;obtain ⟨y0,y1,y2,y3,y4⟩:=hat;rw [←hg] at y0 y1 y2 y3 y4;have Hg:=hidI hg;rw [Nat.zero_add] at y1 y2 y3 y4;clear hN hW ha hbW;unfold itv;go_enter Tryz.func38,Tryz.ntmps38
 go_wp2_with (first | (rw [←HW.out,←hg]) | fail);clear hg
 go_loopw [5] (fun i wr=>∃ k:Nat,k≤N∧i=.int .i64 k∧(∃ q,wr=W.drewN q)∧Hid (x∉l.take k)) (fun i _=>N - (intOf i).toNat)
 case atStart=>exact ⟨0,Nat.zero_le _,rfl,⟨0,rfl⟩,hidI (by simp)⟩
 case round =>
  obtain ⟨k,hk,rfl,⟨q,rfl⟩,Hn⟩:=hrel;by_cases hlt:k<N
  ·have hkl:k<l.length:=by have:=HN.out;omega
   obtain ⟨b1,o1,rfl,h1⟩:=Ha.out (fun h=>by rw [h] at hkl;simp at hkl);obtain ⟨y,hy⟩:∃ y,l[k]? = some y:=⟨_,List.getElem?_eq_getElem hkl⟩;obtain ⟨x0,x1,x2,x3,x4⟩:=h1 k y hy;have Hy:=hidI hy;have htk:l.take (k+1)=l.take k++[y]:=by rw [List.take_add_one,hy];rfl
   have heql:=fun w=>qoG y x w
   unfold itv at heql;have hge:=eqg;by_cases e:y=x
   ·have ed:decide (y=x)=true:=by simp [e]
    rw [ed] at heql;have Hr:Hid (decide (x∈l)=true):=hidI (decide_eq_true (by rw [←e];exact List.mem_of_getElem? hy));clear e ed h1 hy hkl htk;go_wp2
    go_quiet (fail)
    go_wp2;go_ret
    exact ⟨qai Hr.out.symm,qbS (qbS HB.out _) _⟩
   have ed:decide (y=x)=false:=by simp [e]
   rw [ed] at heql;have Hn2:Hid (x∉l.take (k+1)):=hidI (by
    rw [htk,List.mem_append];rintro (h | h)
    ·exact Hn.out h
    simp at h;exact e h.symm)
   clear e ed h1 hy hkl htk;go_wp2
   go_quiet (fail)
   go_wp2;go_roundw
   case rel=>exact ⟨k+1,by omega,by go_num,⟨_,rfl⟩,Hn2⟩
   case measure=>simp [intOf];omega
  have Hr:Hid (decide (x∈l)=false):=hidI (decide_eq_false fun h=>Hn.out (by rw [List.take_of_length_le (by have:=HN.out;omega)];exact h));go_wp2;go_ret
  exact ⟨qai Hr.out.symm,qbS HB.out _⟩
def sameB (l m:List It):Bool:=decide (l.length=m.length)&&l.all fun x=>decide (x∈m)
theorem qkp (a b:Option Addr) (c d:Nat) (l m:List It) (w:World) (ha:ItsIn w a l) (hb:ItsIn w b m) (hn:l.length≤1048576) (hm:m.length≤1048576) :
 Calls Tryz.prog 13 #[.slice a l.length c,.slice b m.length d] w fun e w'=>e=.returned (.bool (sameB l m))∧Below w.heap.size w w':=by
 by_cases hlen:l.length=m.length
 ·obtain ⟨N,hN⟩:∃ N,N=m.length:=⟨_,rfl⟩;rw [hlen,←hN];have Hl:=hidI (hlen.trans hN.symm);have Hm:=hidI hN.symm;have hN9:N≤1048576:=by omega
  have Ha:=hidI ha;have Hb:=hidI hb;have HH:=hidI (fun (V:World) (x:It) (h:Below w.heap.size w V)=>qlD b d m x V (hb.below h) hm);rw [←hN] at HH;clear hlen hN hn hm ha hb;go_enter Tryz.func13,Tryz.ntmps13
  go_wp2
  go_loopw [5] (fun i wr=>∃ k:Nat,k≤N∧i=.int .i64 k∧Hid (Below w.heap.size w wr)∧Hid (∀ x∈l.take k,x∈m)) (fun i _=>N - (intOf i).toNat)
  case atStart=>exact ⟨0,Nat.zero_le _,rfl,hidI (Below.refl _ _),hidI (by simp)⟩
  obtain ⟨k,hk,rfl,HB,Hn⟩:=hrel;by_cases hlt:k<N
  ·have hkl:k<l.length:=by have:=Hl.out;omega
   obtain ⟨b1,o1,rfl,h1⟩:=(Ha.out.below HB.out) (fun h=>by rw [h] at hkl;simp at hkl);obtain ⟨x,hx⟩:∃ x,l[k]? = some x:=⟨_,List.getElem?_eq_getElem hkl⟩;obtain ⟨x0,x1,x2,x3,x4⟩:=h1 k x hx;have Hx:=hidI hx;have htk:l.take (k+1)=l.take k++[x]:=by rw [List.take_add_one,hx];rfl
   have Htk:=hidI htk;have A:=hidI (HH.out wr x HB.out);unfold itv at A;obtain ⟨r,hr⟩:∃ r,r=decide (x∈m):=⟨_,rfl⟩;rw [←hr] at A;have Hr:=hidI hr;have hsz:=HB.out.size;clear h1 hx hkl htk hr;go_wp2_with fail;refine A.out.mono ?_;rintro e w1 ⟨rfl,hb1⟩;have HB1:=hidI (HB.out.trans (hb1.mono hsz));clear hb1 A x0 x1 x2 x3 x4 HB;cases r with
   | true =>
     go_wp2;go_roundw
     case rel=>exact ⟨k+1,by omega,by go_num,HB1,hidI (by
      rw [Htk.out];intro y hy;rcases List.mem_append.1 hy with hy | hy
      ·exact Hn.out y hy
      simp at hy;subst hy;exact of_decide_eq_true Hr.out.symm)⟩
     case measure=>simp [intOf];omega
   | false =>
     have HS:Hid (sameB l m=false):=hidI (by
      unfold sameB
      have:l.all (fun x=>decide (x∈m))=false:=List.all_eq_false.2 ⟨x,List.mem_of_getElem? Hx.out,by rw [←Hr.out];simp⟩
      rw [this,Bool.and_false])
     go_wp2;go_ret
     exact ⟨qai HS.out.symm,HB1.out⟩
  have HS:Hid (sameB l m=true):=hidI (by
   unfold sameB;have h2:=Hl.out;have h3:=Hm.out;rw [decide_eq_true (by omega),Bool.true_and,List.all_eq_true];intro x hx
   have:=Hn.out
   rw [List.take_of_length_le (by omega)] at this;exact decide_eq_true (this x hx))
  go_wp2;go_ret
  exact ⟨qai HS.out.symm,HB.out⟩
 have HS:Hid (sameB l m=false):=hidI (by unfold sameB;rw [decide_eq_false hlen,Bool.false_and]);have hlen':((l.length:Int) != (m.length:Int))=true:=bne_iff_ne.2 (by omega);go_enter Tryz.func13,Tryz.ntmps13
 go_wp2;go_ret
 exact ⟨qai HS.out.symm,Below.refl _ _⟩
def wo (l:List It) (p:Bs):List It:=l.filter fun y => !decide (y.path=p)
theorem qkY {l:List It} {p:Bs} {k:Nat} {x:It} (h:l[k]? = some x):wo (l.take (k+1)) p=wo (l.take k) p++(if x.path=p then [] else [x]):=by
 rw [List.take_add_one,h];unfold wo;rw [List.filter_append]
 congr 1
 by_cases e:x.path=p<;>simp [e]
theorem qfQ (l:List It) (p:Bs):(wo l p).length≤l.length:=List.length_filter_le _ _
theorem qc9 (a:Option Addr) (c:Nat) (l:List It) (p:Bs) (w:World) (ha:ItsIn w a l) (hn:l.length≤1000) :
 Calls Tryz.prog 50 #[.slice a l.length c,.string (txt p)] w fun e w'=>∃ v,e=.returned v∧w'.ownsRow w.heap.size 39 5 v (wo l p).length (its (wo l p))∧Below w.heap.size w w':=by
 obtain ⟨i0,hi,hz0,hz1,hz2⟩:=info_parts Tryz.info24;obtain ⟨N,hN⟩:∃ N,N=l.length:=⟨_,rfl⟩;rw [←hN] at hn ⊢;have HN:=hidI hN;have Ha:=hidI ha;obtain ⟨P,hP⟩:∃ P,P=txt p:=⟨_,rfl⟩;rw [←hP];have HP:=hidI hP;clear hN ha hP;go_enter Tryz.func50,Tryz.ntmps50
 go_wp2
 go_loopw [5,6] (fun v i wr=>∃ k:Nat,k≤N∧i=.int .i64 k∧Hid (wr.ownsRow w.heap.size 39 5 v (wo (l.take k) p).length (its (wo (l.take k) p)))∧Hid (Below w.heap.size w wr)) (fun _ i _=>N - (intOf i).toNat)
 case atStart=>exact ⟨0,Nat.zero_le _,rfl,hidI (World.ownsRow_nil _ _ _ _),hidI (Below.refl _ _)⟩
 case round =>
  obtain ⟨k,hk,rfl,HO,HB⟩:=hrel;obtain ⟨aL,cL,rfl,hits⟩:=qbO HO.out;clear hits;by_cases hlt:k<N
  ·have hkl:k<l.length:=by have:=HN.out;omega
   obtain ⟨b1,o1,rfl,h1⟩:=(Ha.out.below HB.out) (fun h=>by rw [h] at hkl;simp at hkl);obtain ⟨x,hx⟩:∃ x,l[k]? = some x:=⟨_,List.getElem?_eq_getElem hkl⟩;obtain ⟨x0,x1,x2,x3,x4⟩:=h1 k x hx;have Hw:=hidI (qkY (p:=p) hx);obtain ⟨L,hL⟩:∃ L,L=(wo (l.take k) p).length:=⟨_,rfl⟩;have hL9:L≤1000:=by have:=qfQ (l.take k) p;rw [List.length_take] at this;omega
   rw [←hL] at HO ⊢;have HL:=hidI hL;have hsz:=HB.out.size;obtain ⟨X,hX⟩:∃ X,X=txt x.path:=⟨_,rfl⟩;have hcmp:(X.toList != P.toList) = !decide (x.path=p):=by
    rw [hX,HP.out,qaf,qaf];by_cases e:x.path=p<;>simp [e]
   rw [←hX] at x0;have HX:=hidI hX;clear hkl h1 hx hL hX;by_cases e:x.path=p
   ·have hc2:(X.toList==P.toList)=true:=by rw [HX.out,HP.out,qaf,qaf];simp [e]
    rw [decide_eq_true e,Bool.not_true] at hcmp;rw [if_pos e,List.append_nil] at Hw;clear e;go_wp2;go_roundw
    case rel=>exact ⟨k+1,by omega,by go_num,hidI (by rw [Hw.out,←HL.out];exact HO.out),HB⟩
    case measure=>simp [intOf];omega
   have hc2:(X.toList==P.toList)=false:=by rw [HX.out,HP.out,qaf,qaf];simp [e]
   rw [decide_eq_false e,Bool.not_false] at hcmp;rw [if_neg e] at Hw;clear e;go_wp2_with (at_builtin;refine wpList_append_own _ rfl (.tmp 20) (.tmp 25) 26 rfl w.heap.size 39 i0 _ 5 56 Tryz.underlying26 hi hz0 hz1 hz2 rfl (by decide) _ _ _ rfl (HO.out.alloc _) ⟨wr.heap.size,0,none⟩ 1 1 (itl x) rfl ?e1 ?e2 ?e3 ?e4 ?e5 ?e6 ?_)
   case e1=>rfl
   case e2 =>
    intro j v hv;rw [addr_add];have h:=(qbM wr x).cell hv;unfold boxed at h;rw [HX.out];simpa using h
   case e3=>intro v hv;exact qa8 (l:=[x]) v (by rw [qba];exact hv)
   case e4=>unfold maxLen;omega
   case e5=>omega
   case e6=>simp;omega
   intro v4 w4 hown4 hgrow4 _;have hb4:Below w.heap.size w w4:=(HB.out.alloc (by omega) _).grown hgrow4 (by simp;omega) (fun q hq=>(HO.out.lt q hq).1);have HO4:Hid (w4.ownsRow w.heap.size 39 5 v4 (wo (l.take (k+1)) p).length (its (wo (l.take (k+1)) p))):=hidI (by rw [Hw.out,qa0,qba,List.length_append,←HL.out];exact hown4);have HB4:=hidI hb4;clear hown4 hgrow4 hb4;go_wp2;go_roundw
   case rel=>exact ⟨k+1,by omega,by go_num,HO4,HB4⟩
   case measure=>simp [intOf];omega
  have hkN:k=N:=by omega
  subst hkN;have HO2:Hid (wr.ownsRow w.heap.size 39 5 (.slice aL (wo (l.take k) p).length cL) (wo l p).length (its (wo l p))):=hidI (by have h:=HO.out;rw [HN.out,List.take_length] at h ⊢;exact h);go_wp2;go_ret
  exact ⟨_,rfl,HO2.out,HB.out⟩
theorem qlT (l:List It) (p:Bs):decide ((wo l p).length<l.length)=(at? l p).isSome:=by
 rw [Bool.eq_iff_iff,decide_eq_true_eq];cases h:at? l p with
 | none =>
   have h1:=at_none.1 h
   have:wo l p=l:=List.filter_eq_self.2 fun x hx=>by simp [h1 x hx]
   rw [this];simp
 | some x =>
   obtain ⟨hx,hp⟩:=qas h;refine ⟨fun _=>rfl,fun _ => ?_⟩;have h1:=qfQ l p;rcases Nat.lt_or_ge (wo l p).length l.length with h2 | h2
   ·exact h2
   have h3:wo l p=l:=List.filter_sublist.eq_of_length_le h2;rw [←h3] at hx
   have:=(List.mem_filter.1 hx).2
   simp [hp] at this
theorem qle (a:Option Addr) (c:Nat) (l:List It) (p:Bs) (w:World) (ha:ItsIn w a l) (hn:l.length≤1000) :
 Calls Tryz.prog 49 #[.slice a l.length c,.string (txt p)] w fun e w'=>e=.returned (.bool (at? l p).isSome)∧Below w.heap.size w w':=by
 have A:=hidI (qc9 a c l p w ha hn);have Hr:=hidI (qlT l p);have hw9:=qfQ l p;obtain ⟨N,hN⟩:∃ N,N=l.length:=⟨_,rfl⟩;rw [←hN] at A hn Hr hw9 ⊢;clear hN ha;go_enter Tryz.func49,Tryz.ntmps49
 go_wp2_with fail;refine A.out.mono ?_;rintro e w1 ⟨v,rfl,ho,hb⟩;obtain ⟨aL,cL,rfl,_⟩:=qbO ho;obtain ⟨L,hL⟩:∃ L,L=(wo l p).length:=⟨_,rfl⟩;rw [←hL] at Hr hw9 ⊢;have HB:=hidI hb;clear ho hb hL A;go_wp2;go_ret
 exact ⟨qai (by rw [←Hr.out]),HB.out⟩
def mtOf (l:List It) (p:Bs):Int × Int:=l.foldl (fun s y=>if y.path=p then (y.mode,y.time) else s) (0,0)
theorem qn9 {l:List It} {p:Bs} {k:Nat} {x:It} (h:l[k]? = some x):mtOf (l.take (k+1)) p=if x.path=p then (x.mode,x.time) else mtOf (l.take k) p:=by
 rw [List.take_add_one,h];unfold mtOf;rw [List.foldl_append];rfl
def putK (l:List It) (p d:Bs):List It:=wo l p++[⟨p,false,d,(mtOf l p).1,(mtOf l p).2⟩]
theorem qbC {w:World} {B B':Nat} {e:TypeId} {size:Nat} {v:Value} {n:Nat} {xs:List Value} (h:w.ownsRow B e size v n xs) (hb:B'≤B):w.ownsRow B' e size v n xs:=by
 refine ⟨h.1,?_⟩;rcases h.2 with h2 | ⟨g,cap,cur,h3,h4,h5⟩
 ·exact .inl h2
 exact .inr ⟨g,cap,cur,h3,Nat.le_trans hb h4,h5⟩
def PutBox (w:World) (r:Nat) (P D:ByteArray) (mt:Int × Int):Prop:=w.heap[r]? = some (.cells #[.string P,.bool false,.string D,.int .i64 mt.1,.int .i64 mt.2] 39 (0,0))
theorem PutBox.set {w:World} {r:Nat} {P D:ByteArray} {mt:Int × Int} (h:PutBox w r P D mt) (m t:Int):PutBox ((w.setCell ⟨r,3,none⟩ (.int .i64 m)).setCell ⟨r,4,none⟩ (.int .i64 t)) r P D (m,t):=by
 have h1:=heap_setCell_same w r 3 _ 39 (.int .i64 m) h;have h2:=heap_setCell_same _ r 4 _ 39 (.int .i64 t) h1;exact h2
theorem ql6 (a:Option Addr) (c:Nat) (l:List It) (p d:Bs) (w:World) (ha:ItsIn w a l) (hn:l.length≤1000) :
 Calls Tryz.prog 52 #[.slice a l.length c,.string (txt p),.string (txt d)] w fun e w'=>∃ v,e=.returned v∧w'.ownsRow w.heap.size 39 5 v (putK l p d).length (its (putK l p d))∧Below w.heap.size w w':=by
 obtain ⟨i0,hi,hz0,hz1,hz2⟩:=info_parts Tryz.info24;obtain ⟨N,hN⟩:∃ N,N=l.length:=⟨_,rfl⟩;rw [←hN] at hn ⊢;have HN:=hidI hN;have Ha:=hidI ha;obtain ⟨P,hP⟩:∃ P,P=txt p:=⟨_,rfl⟩;obtain ⟨D,hD⟩:∃ D,D=txt d:=⟨_,rfl⟩;rw [←hP,←hD];have HP:=hidI hP;have HD:=hidI hD;clear hN ha hP hD;go_enter Tryz.func52,Tryz.ntmps52
 go_wp2;obtain ⟨W0,hW0⟩:∃ W0,W0=w.alloc (.cells #[.string P,.bool false,.string D,.int .i64 0,.int .i64 0] 39):=⟨_,rfl⟩;rw [←hW0];have HB0:Hid (Below w.heap.size w W0):=hidI (by rw [hW0];exact (Below.refl _ w).alloc (Nat.le_refl _) _);have HP0:Hid (PutBox W0 w.heap.size P D (0,0)):=hidI (by rw [hW0];exact heap_alloc_new w _);obtain ⟨r,hr⟩:∃ r,r=w.heap.size:=⟨_,rfl⟩;rw [←hr] at HB0 HP0 ⊢;have Hr:=hidI hr;clear hW0 hr
 go_loopw [7,9] (fun v i wr=>∃ k:Nat,k≤N∧i=.int .i64 k∧Hid (PutBox wr r P D (mtOf (l.take k) p))∧Hid (wr.ownsRow (r+1) 39 5 v (wo (l.take k) p).length (its (wo (l.take k) p)))∧Hid (Below r w wr)) (fun _ i _=>N - (intOf i).toNat)
 case atStart=>exact ⟨0,Nat.zero_le _,rfl,HP0,hidI (World.ownsRow_nil _ _ _ _),HB0⟩
 case round =>
  clear HB0 HP0 W0;obtain ⟨k,hk,rfl,HX,HO,HB⟩:=hrel;obtain ⟨aL,cL,rfl,hits⟩:=qbO HO.out;clear hits;have hrlt:r<wr.heap.size:=lt_of_heap HX.out;by_cases hlt:k<N
  ·have hkl:k<l.length:=by have:=HN.out;omega
   obtain ⟨b1,o1,rfl,h1⟩:=(Ha.out.below (by rw [←Hr.out];exact HB.out)) (fun h=>by rw [h] at hkl;simp at hkl);obtain ⟨x,hx⟩:∃ x,l[k]? = some x:=⟨_,List.getElem?_eq_getElem hkl⟩;obtain ⟨x0,x1,x2,x3,x4⟩:=h1 k x hx;have Hw:=hidI (qkY (p:=p) hx);have Hm:=hidI (qn9 (p:=p) hx);obtain ⟨L,hL⟩:∃ L,L=(wo (l.take k) p).length:=⟨_,rfl⟩;have hL9:L≤1000:=by have:=qfQ (l.take k) p;rw [List.length_take] at this;omega
   rw [←hL] at HO ⊢;have HL:=hidI hL;obtain ⟨X,hX⟩:∃ X,X=txt x.path:=⟨_,rfl⟩;rw [←hX] at x0;have HXp:=hidI hX;have hb1:b1<r:=by
    obtain ⟨b',o',e,h'⟩:=Ha.out (fun h=>by rw [h] at hkl;simp at hkl);cases e
    rw [Hr.out];exact World.block_lt_of_cell? w _ (h' k x hx).1
   clear hkl h1 hx hL hX;by_cases e:x.path=p
   ·have hc2:(X.toList==P.toList)=true:=by rw [HXp.out,HP.out,qaf,qaf];simp [e]
    rw [if_pos e,List.append_nil] at Hw;rw [if_pos e] at Hm;clear e;obtain ⟨mt,hmt⟩:∃ mt,mt=mtOf (l.take k) p:=⟨_,rfl⟩;rw [←hmt] at HX;have y3:wr.cell? ⟨r,3,none⟩=some (.int .i64 mt.1):=by rw [cell_of_row wr r 3 _ 39 (0,0) HX.out];rfl
    have y4:wr.cell? ⟨r,4,none⟩=some (.int .i64 mt.2):=by rw [cell_of_row wr r 4 _ 39 (0,0) HX.out];rfl
    have f3:=frozen_of_row wr r 3 _ 39 HX.out;have f4:=frozen_of_row wr r 4 _ 39 HX.out;have HX2:=hidI (HX.out.set x.mode x.time);rw [←Hm.out] at HX2;have HO2:Hid (((wr.setCell ⟨r,3,none⟩ (.int .i64 x.mode)).setCell ⟨r,4,none⟩ (.int .i64 x.time)).ownsRow (r+1) 39 5 (.slice aL L cL) L (its (wo (l.take k) p))):=hidI (ownsRow_setCell_below (ownsRow_setCell_below HO.out (a:=⟨r,3,none⟩) (Nat.lt_succ_self r) _) (a:=⟨r,4,none⟩) (Nat.lt_succ_self r) _);have HB2:=hidI ((HB.out.setCell (p:=⟨r,3,none⟩) (Nat.le_refl _) (.int .i64 x.mode)).setCell (p:=⟨r,4,none⟩) (Nat.le_refl _) (.int .i64 x.time));clear hmt HO HX HB;go_wp2;go_roundw
    case rel=>exact ⟨k+1,by omega,by go_num,HX2,hidI (by rw [Hw.out,←HL.out];exact HO2.out),HB2⟩
    case measure=>simp [intOf];omega
   have hc2:(X.toList==P.toList)=false:=by rw [HXp.out,HP.out,qaf,qaf];simp [e]
   rw [if_neg e] at Hw;rw [if_neg e] at Hm;clear e;go_wp2_with (at_builtin;refine wpList_append_own _ rfl (.tmp 38) (.tmp 43) 26 rfl (r+1) 39 i0 _ 5 56 Tryz.underlying26 hi hz0 hz1 hz2 rfl (by decide) _ _ _ rfl (HO.out.alloc _) ⟨wr.heap.size,0,none⟩ 1 1 (itl x) rfl ?e1 ?e2 ?e3 ?e4 ?e5 ?e6 ?_)
   case e1=>rfl
   case e2 =>
    intro j v hv;rw [addr_add];have h:=(qbM wr x).cell hv;unfold boxed at h;rw [HXp.out];simpa using h
   case e3=>intro v hv;exact qa8 (l:=[x]) v (by rw [qba];exact hv)
   case e4=>unfold maxLen;omega
   case e5=>omega
   case e6=>simp;omega
   intro v4 w4 hown4 hgrow4 _;have hb4:Below r w w4:=(HB.out.alloc (by omega) _).grown hgrow4 (by simp;omega) (fun q hq=>by have:=(HO.out.lt q hq).1;omega);have HX4:Hid (PutBox w4 r P D (mtOf (l.take (k+1)) p)):=hidI (by
    rw [Hm.out];unfold PutBox;rw [hgrow4.block r (by simp;omega) (fun h=>by have:=(HO.out.lt r h.symm).1;omega),Below.heap_alloc wr _ r hrlt];exact HX.out)
   have HO4:Hid (w4.ownsRow (r+1) 39 5 v4 (wo (l.take (k+1)) p).length (its (wo (l.take (k+1)) p))):=hidI (by rw [Hw.out,qa0,qba,List.length_append,←HL.out];exact hown4);have HB4:=hidI hb4;clear hown4 hgrow4 hb4;go_wp2;go_roundw
   case rel=>exact ⟨k+1,by omega,by go_num,HX4,HO4,HB4⟩
   case measure=>simp [intOf];omega
  have hkN:k=N:=by omega
  subst hkN;have HX2:Hid (PutBox wr r P D (mtOf l p)):=hidI (by have h:=HX.out;rwa [HN.out,List.take_length] at h);have HO2:Hid (wr.ownsRow (r+1) 39 5 (.slice aL (wo (l.take k) p).length cL) (wo l p).length (its (wo l p))):=hidI (by have h:=HO.out;rw [HN.out,List.take_length] at h ⊢;exact h);have e1:(wo (l.take k) p).length=(wo l p).length:=by rw [HN.out,List.take_length]
  rw [e1] at HO2 ⊢;have hL9:(wo l p).length≤1000:=by have:=qfQ l p;have:=HN.out;omega
  obtain ⟨L,hL⟩:∃ L,L=(wo l p).length:=⟨_,rfl⟩;rw [←hL] at HO2 hL9 ⊢;have HL:=hidI hL;obtain ⟨m,hm⟩:∃ m,m=(mtOf l p).1:=⟨_,rfl⟩;obtain ⟨t,ht⟩:∃ t,t=(mtOf l p).2:=⟨_,rfl⟩;have HX3:Hid (wr.heap[r]? = some (.cells #[.string P,.bool false,.string D,.int .i64 m,.int .i64 t] 39 (0,0))):=hidI (by rw [hm,ht];exact HX2.out);have HR:Hid (putK l p d=wo l p++[⟨p,false,d,m,t⟩]):=hidI (by rw [hm,ht];rfl);have y0:wr.cell? ⟨r,0,none⟩=some (.string P):=by rw [cell_of_row wr r 0 _ 39 (0,0) HX3.out];rfl
  have y1:wr.cell? ⟨r,1,none⟩=some (.bool false):=by rw [cell_of_row wr r 1 _ 39 (0,0) HX3.out];rfl
  have y2:wr.cell? ⟨r,2,none⟩=some (.string D):=by rw [cell_of_row wr r 2 _ 39 (0,0) HX3.out];rfl
  have y3:wr.cell? ⟨r,3,none⟩=some (.int .i64 m):=by rw [cell_of_row wr r 3 _ 39 (0,0) HX3.out];rfl
  have y4:wr.cell? ⟨r,4,none⟩=some (.int .i64 t):=by rw [cell_of_row wr r 4 _ 39 (0,0) HX3.out];rfl
  clear hL hm ht e1 HO HX HX2;go_wp2_with (at_builtin;refine wpList_append_own _ rfl (.tmp 45) (.tmp 47) 26 rfl (r+1) 39 i0 _ 5 56 Tryz.underlying26 hi hz0 hz1 hz2 rfl (by decide) _ _ _ rfl (HO2.out.alloc _) ⟨wr.heap.size,0,none⟩ 1 1 [.string P,.bool false,.string D,.int .i64 m,.int .i64 t] rfl ?e1 ?e2 ?e3 ?e4 ?e5 ?e6 ?_)
  case e1=>rfl
  case e2=>exact World.news_of_block (heap_alloc_new wr _)
  case e3=>intro u hu;simp at hu;rcases hu with rfl | rfl | rfl | rfl | rfl<;>rfl
  case e4=>unfold maxLen;omega
  case e5=>omega
  case e6=>simp;omega
  intro v4 w4 hown4 hgrow4 _;have HB4:Hid (Below w.heap.size w w4):=hidI (by rw [←Hr.out];exact (HB.out.alloc (by omega) _).grown hgrow4 (by simp;omega) (fun q hq=>by have:=(HO2.out.lt q hq).1;omega));have HO4:Hid (w4.ownsRow w.heap.size 39 5 v4 (putK l p d).length (its (putK l p d))):=hidI (by
   refine qbC (B:=r+1) ?_ (by rw [←Hr.out];omega);rw [HR.out,qa0,qba,List.length_append,←HL.out];have h:=hown4;rw [HP.out,HD.out] at h;exact h)
  clear hown4 hgrow4;go_wp2;go_ret
  exact ⟨_,rfl,HO4.out,HB4.out⟩
variable {l:List It} {w w':World} {T T':Nat→Prop} {v:Value}
theorem qnL {p:Bs} (h:∀ y∈l,y.path≠p):mtOf l p=(0,0):=by
 unfold mtOf
 induction l with
 | nil=>rfl
 | cons y l ih =>
   rw [List.foldl_cons,if_neg (h y (by simp))];exact ih fun z hz=>h z (by simp [hz])
theorem qkJ {now:List It} (h:l.Perm now):sameB now (qab l)=true:=by
 unfold sameB;rw [Bool.and_eq_true,decide_eq_true_eq,qaA,List.all_eq_true];exact ⟨h.length_eq.symm,fun x hx=>decide_eq_true (order_mem.2 (h.mem_iff.2 hx))⟩
def RowK (w:World) (T:Nat→Prop) (v:Value) (l:List It):Prop:=w.ownsRow 0 39 5 v l.length (its l)∧∀ g,v.ownBlock=some g→¬T g
theorem RowK.blocks (h:RowK w T v l) (e:∀ g,g<w.heap.size→¬T g→w'.heap[g]? = w.heap[g]?) (hT:∀ k,T' k→T k∨w.heap.size≤k):RowK w' T' v l:=by
 obtain ⟨⟨h1,h2⟩,h3⟩:=h;rcases h2 with ⟨rfl,h0⟩ | ⟨g,cap,cur,rfl,a1,a2,a3⟩
 ·exact ⟨⟨h1,.inl ⟨rfl,h0⟩⟩,fun g hg=>by cases hg⟩
 have hng:=h3 g rfl;have hlt:=lt_of_heap a2;refine ⟨⟨h1,.inr ⟨g,cap,cur,rfl,a1,(e g hlt hng).trans a2,a3⟩⟩,fun g' hg' ht => ?_⟩;cases hg'
 rcases hT g ht with h | h
 ·exact hng h
 omega
theorem RowK.fm (h:RowK w T v l) (hF:S1.Fm T w w') (hT:∀ k,T' k→T k∨w.heap.size≤k):RowK w' T' v l:=h.blocks (fun g hg hn=>hF.block g hg hn) hT
theorem RowK.below (h:RowK w T v l) (hb:Below w.heap.size w w'):RowK w' T v l:=h.blocks (fun g hg _=>hb.block g hg) fun k hk=>.inl hk
theorem RowK.new (h:w'.ownsRow w.heap.size 39 5 v l.length (its l)) (hT:∀ k,T k→k<w.heap.size):RowK w' T v l:=by
 refine ⟨qbC h (Nat.zero_le _),fun g hg ht => ?_⟩;obtain ⟨_,⟨rfl,_⟩ | ⟨g',cap,cur,rfl,a1,_⟩⟩:=h
 ·cases hg
 have e:g'=g:=Option.some.inj hg
 have:=hT g ht
 omega
def pickF (c:Int) (n:Nat):Nat:=((if c<0 then -(c+1) else c)%(n:Int)).toNat
theorem qbn (c:Int) (n:Nat) (hn:0<n):pickF c n<n:=by
 unfold pickF;have h1:=Int.emod_nonneg (if c<0 then -(c+1) else c) (by omega:(n:Int)≠0);have h2:=Int.emod_lt_of_pos (if c<0 then -(c+1) else c) (by omega:0<(n:Int));omega
theorem qaV (c:Int) (n:Nat) (w:World) (h1:-9223372036854775808≤c) (h2:c≤9223372036854775807) (hn:0<n) (hn2:n≤4611686018427387904) :
 Calls Tryz.prog 18 #[.int .i64 c,.int .i64 n] w fun e w'=>e=.returned (.int .i64 (pickF c n:Nat))∧w'=w:=by
 have hne:(n:Int)≠0:=by omega
 have hp:=qbn c n hn;by_cases hc:c<0
 ·have e:((pickF c n:Nat):Int)=(-(c+1))%(n:Int):=by
   unfold pickF;rw [if_pos hc];exact Int.toNat_of_nonneg (Int.emod_nonneg _ hne)
  have ht:(-(c+1)).tmod (n:Int)=(-(c+1))%(n:Int):=Int.tmod_eq_emod_of_nonneg (by omega);go_enter Tryz.func18,Tryz.ntmps18
  go_wp2;go_ret
  exact ⟨by rw [e];rfl,rfl⟩
 have e:((pickF c n:Nat):Int)=c%(n:Int):=by
  unfold pickF;rw [if_neg hc];exact Int.toNat_of_nonneg (Int.emod_nonneg _ hne)
 have ht:c.tmod (n:Int)=c%(n:Int):=Int.tmod_eq_emod_of_nonneg (by omega);have He:=hidI e;clear e;go_enter Tryz.func18,Tryz.ntmps18
 go_wp2;go_ret
 exact ⟨by rw [He.out];rfl,rfl⟩
def names:List Bs:=[[97],[98],[99],[100],[100,47,97],[100,47,98],[100,47,101],[100,47,101,47,97],[100,47,101,47,98],[102],[102,47,97],[100,46,120]]
def qaJ (p:Bs):Bool:=decide (p=[100])||decide (p=[100,47,101])||decide (p=[102])
theorem qhN (c:Int) (w:World) (h1:-9223372036854775808≤c) (h2:c≤9223372036854775807) :
 Calls Tryz.prog 33 #[.int .i64 c] w fun e w'=>∃ p,e=.returned (.string (txt p))∧p∈names∧Below w.heap.size w w':=by
 obtain ⟨R,hR⟩:∃ R:Array Value,R=#[.string ⟨#[97]⟩,.string ⟨#[98]⟩,.string ⟨#[99]⟩,.string ⟨#[100]⟩,.string ⟨#[100,47,97]⟩,.string ⟨#[100,47,98]⟩,.string ⟨#[100,47,101]⟩,.string ⟨#[100,47,101,47,97]⟩,.string ⟨#[100,47,101,47,98]⟩,.string ⟨#[102]⟩,.string ⟨#[102,47,97]⟩,.string ⟨#[100,46,120]⟩]:=⟨_,rfl⟩;have hP:=qaV c 12 (w.alloc (.cells R 9)) h1 h2 (by decide) (by decide);have hk:=qbn c 12 (by decide);obtain ⟨k,hkk⟩:∃ k,k=pickF c 12:=⟨_,rfl⟩;rw [←hkk] at hP hk;have hcell:(w.alloc (.cells R 9)).cell? ⟨w.heap.size,k,none⟩=some (.string (txt (names.getD k []))):=by
  rw [cell_of_row _ w.heap.size k _ 9 (0,0) (heap_alloc_new _ _),hR]
  have:∀ j,j<12→(#[.string ⟨#[97]⟩,.string ⟨#[98]⟩,.string ⟨#[99]⟩,.string ⟨#[100]⟩,.string ⟨#[100,47,97]⟩,.string ⟨#[100,47,98]⟩,.string ⟨#[100,47,101]⟩,.string ⟨#[100,47,101,47,97]⟩,.string ⟨#[100,47,101,47,98]⟩,.string ⟨#[102]⟩,.string ⟨#[102,47,97]⟩,.string ⟨#[100,46,120]⟩]:Array Value)[j]? = some (.string (txt (names.getD j []))):=fun j hj=>by
   match j,hj with
   | 0,_=>rfl
   | 1,_=>rfl
   | 2,_=>rfl
   | 3,_=>rfl
   | 4,_=>rfl
   | 5,_=>rfl
   | 6,_=>rfl
   | 7,_=>rfl
   | 8,_=>rfl
   | 9,_=>rfl
   | 10,_=>rfl
   | 11,_=>rfl
  exact this k hk
 have hmem:names.getD k []∈names:=by
  have:k<names.length:=hk
  rw [List.getD,List.getElem?_eq_getElem this];exact List.getElem_mem this
 obtain ⟨p,hp⟩:∃ p,p=names.getD k []:=⟨_,rfl⟩;rw [←hp] at hcell hmem;have Hm:=hidI hmem;have HP:=hidI hP;have HC:=hidI hcell;obtain ⟨W,hW⟩:∃ W,W=w.alloc (.cells R 9):=⟨_,rfl⟩;have hB:Below w.heap.size w W:=by rw [hW];exact (Below.refl _ w).alloc (Nat.le_refl _) _
 rw [←hW] at HP HC;rw [hR] at hW;have HW:=hidI hW;have HB:=hidI hB;have hcell':=HC.out;clear hP hkk hcell hmem hp hR hW hB;go_enter Tryz.func33,Tryz.ntmps33
 go_wp2_with (first | (rw [←HW.out]) | fail);refine HP.out.mono ?_;rintro e w' ⟨rfl,hw⟩;have hw':=hw.symm;subst hw';clear hw;go_wp2;go_ret
 exact ⟨p,rfl,Hm.out,HB.out⟩
theorem qeT {p:Bs} (h:p∈names):p.length≤5:=by
 have:∀ q∈names,q.length≤5:=by decide
 exact this p h
theorem qdX (p:Bs) (w:World):Calls Tryz.prog 34 #[.string (txt p)] w fun e w'=>e=.returned (.bool (qaJ p))∧w'=w:=by
 have hx:(txt p).toList=p:=qaf p;obtain ⟨X,hX⟩:∃ X,X=txt p:=⟨_,rfl⟩;rw [←hX] at hx ⊢;clear hX;unfold qaJ;by_cases a:p=[100]
 ·subst a;go_enter Tryz.func34,Tryz.ntmps34
  go_wp2;go_ret
  exact ⟨rfl,rfl⟩
 by_cases b:p=[100,47,101]
 ·subst b;go_enter Tryz.func34,Tryz.ntmps34
  go_wp2;go_ret
  exact ⟨rfl,rfl⟩
 by_cases c:p=[102]
 ·subst c;go_enter Tryz.func34,Tryz.ntmps34
  go_wp2;go_ret
  exact ⟨rfl,rfl⟩
 have Ha:¬X.toList=[100]:=by rw [hx];exact a
 have Hb:¬X.toList=[100,47,101]:=by rw [hx];exact b
 have Hc:¬X.toList=[102]:=by rw [hx];exact c
 have Hd:Hid ((decide (p=[100])||decide (p=[100,47,101])||decide (p=[102]))=false):=hidI (by simp [a,b,c]);rw [Hd.out];clear a b c hx Hd;go_enter Tryz.func34,Tryz.ntmps34
 go_wp2;go_ret
 exact ⟨by simp [Ha,Hb,Hc],rfl⟩
theorem madeN (n:Nat) (h:n≤1000000):∃ M:Array Value,(∀ W:World,(Instr.makeSlice 111 (.int .i64 n) (.int .i64 n)).run Tryz.prog W=.ok (.slice (some ⟨W.heap.size,0,none⟩) n n) (W.alloc (.cells M 5)))∧∀ W:World,(W.alloc (.cells M 5)).rowIs W.heap.size 5 n (fun _=>.int .u8 0):=
 ⟨madeCells #[Value.int .u8 0] n,fun W=>run_make_row' (P:=Tryz.prog) 111 5 (.int .u8 0) 1 Tryz.underlying111 Tryz.info5 rfl .i64 .i64 n (by omega) (by omega) W,fun W=>World.rowIs_made W (.int .u8 0) n 5⟩
theorem qfU (c n:Int) (w:World) (h1:-9223372036854775808≤c) (h2:c≤9223372036854775807) (h3:-9223372036854775808≤n) (h4:n≤9223372036854775807) :
 Calls Tryz.prog 35 #[.int .i64 c,.int .i64 n] w fun e w'=>∃ d:Bs,e=.returned (.string (txt d))∧d.length≤99∧Below w.heap.size w w':=by
 have hP1:=fun w=>qaV n 100 w h3 h4 (by decide) (by decide)
 have hP2:=fun w=>qaV c 1073741824 w h1 h2 (by decide) (by decide)
 have hP3:=fun w=>qaV c 26 w h1 h2 (by decide) (by decide)
 have hk1:=qbn n 100 (by decide);have hk2:=qbn c 1073741824 (by decide);have hk3:=qbn c 26 (by decide);obtain ⟨m,hm⟩:∃ m,m=pickF n 100:=⟨_,rfl⟩;obtain ⟨x0,hx0⟩:∃ x,x=pickF c 1073741824:=⟨_,rfl⟩;obtain ⟨p,hp⟩:∃ x,x=pickF c 26:=⟨_,rfl⟩;rw [←hm] at hP1 hk1;rw [←hx0] at hP2 hk2;rw [←hp] at hP3 hk3;clear hm hx0 hp;have HP1:=hidI hP1;have HP2:=hidI hP2;have HP3:=hidI hP3;clear hP1 hP2 hP3;obtain ⟨M,hmk,hM⟩:=madeN m (by omega);have h0:=hM w;have hb0:Below w.heap.size w (w.alloc (.cells M 5)):=(Below.refl _ _).alloc (Nat.le_refl _) _;clear hM;go_enter Tryz.func35,Tryz.ntmps35
 go_wp2_with fail;refine (HP1.out _).mono ?_;rintro e w' ⟨rfl,hw⟩;have hw':=hw.symm;subst hw';clear hw;go_wp2_with fail;refine (HP2.out _).mono ?_;rintro e w' ⟨rfl,hw⟩;have hw':=hw.symm;subst hw';clear hw hmk;go_wp2_with fail
 go_loopw [7,8] (fun x i wr=>∃ (k y:Nat) (l:Bs),k≤m∧y<2147483648∧l.length=m∧x=.int .i64 y∧i=.int .i64 k∧wr.rowIs w.heap.size 5 m (fun j=>.int .u8 ((l.getD j 0).toNat:Nat))∧Below w.heap.size w wr) (fun _ i _=>m - (intOf i).toNat)
 case atStart=>exact ⟨0,x0,List.replicate m 0,by omega,by omega,by simp,rfl,rfl,h0.congr fun j hj=>by simp [List.getD,hj],hb0⟩
 case round =>
  clear h0 hb0;obtain ⟨k,y,l,hk,hy,hl,rfl,rfl,hrow,hb⟩:=hrel;by_cases hlt:k<m
  ·have hc:=hrow.cell hlt;have hf:=hrow.frozen k;obtain ⟨y',hy'⟩:∃ y':Nat,y'=(y*1103515245+12345)%2147483648:=⟨_,rfl⟩;have hyl:y'<2147483648:=by omega
   have e1:((y:Int)*1103515245+12345).tmod 2147483648=(y':Nat):=by
    rw [Int.tmod_eq_emod_of_nonneg (by omega),hy'];omega
   obtain ⟨q,hq⟩:∃ q:Nat,q=y'/65536:=⟨_,rfl⟩;have e2:((y':Nat):Int).tdiv 65536=(q:Nat):=by
    rw [Int.tdiv_eq_ediv_of_nonneg (by omega),hq];omega
   obtain ⟨z,hz⟩:∃ z:Nat,z=q%(1+p):=⟨_,rfl⟩;have hzl:z<26:=by have:=Nat.mod_lt q (show 1+p > 0 by omega);omega
   have e3:((q:Nat):Int).tmod (1+(p:Int))=(z:Nat):=by
    rw [Int.tmod_eq_emod_of_nonneg (by omega),hz];push_cast;rfl
   have hq0:0≤(q:Int):=by omega
   have hq1:(q:Int)≤32768:=by omega
   have hrow':(wr.setCell ⟨w.heap.size,k,none⟩ (.int .u8 (97+(z:Nat)))).rowIs w.heap.size 5 m (fun j=>.int .u8 (((l.set k (UInt8.ofNat (97+z))).getD j 0).toNat:Nat)):=(hrow.set k _).congr fun j hj=>by
    by_cases e:j=k
    ·subst e;rw [if_pos rfl]
     have:j<l.length:=by omega
     simp only [List.getD,List.getElem?_set_self this,Option.getD_some,UInt8.toNat_ofNat']
     congr 1;omega
    rw [if_neg e];simp only [List.getD];rw [List.getElem?_set_ne (by omega)]
   have hb':=hb.setCell (p:=⟨w.heap.size,k,none⟩) (Nat.le_refl _) (.int .u8 (97+(z:Nat)));clear hrow hb hz hq hy';go_wp2_with fail;refine (HP3.out _).mono ?_;rintro e w' ⟨rfl,hw⟩;have hw':=hw.symm;subst hw';clear hw;go_wp2;go_roundw
   case rel=>exact ⟨k+1,y',l.set k (UInt8.ofNat (97+z)),by omega,hyl,by simpa using hl,rfl,by go_num,hrow',hb'⟩
   case measure=>simp [intOf];omega
  have hkm:k=m:=by omega
  subst hkm;have hcv:=S1.row_str (c:=k) hrow hl;clear hrow;go_wp2;go_ret
  exact ⟨l,rfl,by omega,hb⟩
variable {l:List It}
structure KT (l:List It):Prop where
 item:∀ x∈l,x.path∈names∧x.dir=qaJ x.path∧x.data.length≤99∧okItem x=true
 nodup:(l.map (·.path)).Nodup
 dirs:∀ p∈names,qaJ p=true→∃ x∈l,x.path=p
theorem qjh:∀ p∈names,par p=[]∨(par p∈names∧qaJ (par p)=true):=by decide
theorem qhk:∀ p∈names,okPath p=true:=by decide
theorem qfl:∀ {l m:List Bs},l.Nodup→(∀ x∈l,x∈m)→l.length≤m.length
 | [],m,_,_=>Nat.zero_le _
 | x :: l,m,hn,hs=>by
   have hx:=hs x (by simp);have hn':=List.nodup_cons.1 hn;have h1:=qfl (l:=l) (m:=m.erase x) hn'.2 fun y hy=>(List.mem_erase_of_ne (fun e:y=x=>hn'.1 (by rw [←e];exact hy))).2 (hs y (by simp [hy]))
   rw [List.length_erase_of_mem hx] at h1
   have:0<m.length:=List.length_pos_of_mem hx
   simp only [List.length_cons];omega
theorem KT.len (h:KT l):l.length≤12:=by
 have h1:(l.map (·.path)).length≤names.length:=qfl h.nodup fun p hp=>by
  obtain ⟨x,hx,rfl⟩:=List.mem_map.1 hp;exact (h.item x hx).1
 simpa [names] using h1
theorem KT.tree (h:KT l):TreeP l:=by
 refine ⟨by have:=h.len;omega,fun x hx=>(h.item x hx).2.2.2,h.nodup,fun x hx => ?_⟩;rcases qjh _ (h.item x hx).1 with h1 | ⟨h1,h2⟩
 ·exact .inl h1
 obtain ⟨y,hy,hp⟩:=h.dirs _ h1 h2;exact .inr (dirAt_iff.2 ⟨y,hy,hp,by rw [(h.item y hy).2.1,hp,h2]⟩)
theorem qib {n:Nat} (h:∀ x∈l,16+x.path.length+x.data.length≤n):weigh l≤l.length*n:=by
 unfold weigh
 induction l with
 | nil=>simp
 | cons x t ih =>
   have h1:=h x (by simp);have h2:=ih fun y hy=>h y (by simp [hy])
   simp only [List.map_cons,List.sum_cons,List.length_cons,Nat.succ_mul];omega
theorem KT.weighs (h:KT l):weigh l≤1440:=by
 have h1:=qib (l:=l) (n:=120) fun x hx=>by have:=qeT (h.item x hx).1;have:=(h.item x hx).2.2.1;omega
 have:=h.len
 omega
theorem KT.add {p d:Bs} {m t:Int} (h:KT l) (hp:p∈names) (hf:qaJ p=false) (hn:∀ x∈l,x.path≠p) (hd:d.length≤99) (m0:0≤m) (m1:m≤4095) (t0:0≤t) (t1:t≤2147483647):KT (l++[⟨p,false,d,m,t⟩]):=by
 refine ⟨fun x hx => ?_,?_,fun q hq hqf => ?_⟩
 ·rcases List.mem_append.1 hx with hx | hx
  ·exact h.item x hx
  simp at hx;subst hx;refine ⟨hp,hf.symm,hd,?_⟩;unfold okItem;simp [qhk p hp,m0,m1,t0,t1];omega
 ·rw [List.map_append,List.nodup_append];refine ⟨h.nodup,by simp,fun a ha b hb => ?_⟩;obtain ⟨y,hy,rfl⟩:=List.mem_map.1 ha;simp at hb;subst hb;exact hn y hy
 obtain ⟨x,hx,e⟩:=h.dirs q hq hqf;exact ⟨x,List.mem_append_left _ hx,e⟩
def kt0:List It:=[⟨[100],true,[],5,0⟩,⟨[100,47,101],true,[],0,0⟩,⟨[102],true,[],0,9⟩]
theorem qon:KT kt0:=⟨by decide,by decide,by decide⟩
theorem qnD (w:World):(w.alloc (.cells (its kt0).toArray 39)).ownsRow w.heap.size 39 5 (.slice (some ⟨w.heap.size,0,none⟩) 3 3) 3 (its kt0):=
 ⟨by decide,.inr ⟨w.heap.size,3,_,rfl,Nat.le_refl _,heap_alloc_new w _,by decide,by decide,by decide,by rfl⟩⟩
def TreeR (w:World) (e:Ending) (w':World):Prop:=∃ v l,e=.returned v∧KT l∧w'.ownsRow w.heap.size 39 5 v l.length (its l)∧Below w.heap.size w w'
theorem qmC (a:Option Addr) (n cap:Nat) (z:Nat→Int) (w:World) (hn:n≤9223372036854775807) (hin:S1.IntsIn w a n z) (hz:∀ k,k<n → -9223372036854775808≤z k∧z k≤9223372036854775807) :
 Calls Tryz.prog 9 #[.slice a n cap] w fun e w'=>TreeR w e w':=by
 obtain ⟨i0,hi,hz0,hz1,hz2⟩:=info_parts Tryz.info24;have Hin:=hidI hin;have Hz:=hidI hz;clear hin hz;have Hown0:=hidI (qnD w);have Hb0:Hid (Below w.heap.size w (w.alloc (.cells (its kt0).toArray 39))):=hidI ((Below.refl _ w).alloc (Nat.le_refl _) _);obtain ⟨W0,hW0⟩:∃ W0,W0=w.alloc (.cells (its kt0).toArray 39):=⟨_,rfl⟩;rw [←hW0] at Hown0 Hb0;have HW0:Hid (W0=w.alloc (.cells #[.string ⟨#[100]⟩,.bool true,.string ⟨#[]⟩,.int .i64 5,.int .i64 0,.string ⟨#[100,47,101]⟩,.bool true,.string ⟨#[]⟩,.int .i64 0,.int .i64 0,.string ⟨#[102]⟩,.bool true,.string ⟨#[]⟩,.int .i64 0,.int .i64 9] 39)):=hidI hW0;clear hW0;go_enter Tryz.func9,Tryz.ntmps9
 go_wp2_with (first | (rw [←HW0.out]) | fail)
 go_loopw [3,4] (fun v i wr=>∃ (k:Nat) (l:List It),k≤30∧i=.int .i64 k∧Hid (KT l)∧Hid (wr.ownsRow w.heap.size 39 5 v l.length (its l))∧Hid (Below w.heap.size w wr)) (fun _ i _=>40 - (intOf i).toNat)
 case atStart=>exact ⟨0,kt0,by omega,rfl,hidI qon,Hown0,Hb0⟩
 case round =>
  clear Hown0 Hb0 HW0 W0;obtain ⟨k,l,hk,rfl,HK,HO,HB⟩:=hrel;by_cases hlt:k+2<n∧k<27
  ·obtain ⟨h1,h2⟩:=hlt;have h1':(k:Int)+2<(n:Int):=by omega
   have h2':(k:Int)<27:=by omega
   obtain ⟨b,off,rfl,hc⟩:=(Hin.out.below HB.out) (by omega);have c0:=hc k (by omega);have c1:=hc (k+1) (by omega);have c2:=hc (k+2) (by omega);have hbw:b<w.heap.size:=by
    obtain ⟨b',off',e,hc'⟩:=Hin.out (by omega);cases e
    exact World.block_lt_of_cell? w _ (hc' 0 (by omega))
   obtain ⟨z00,z01⟩:=Hz.out k (by omega);obtain ⟨z10,z11⟩:=Hz.out (k+1) (by omega);obtain ⟨z20,z21⟩:=Hz.out (k+2) (by omega);obtain ⟨x0,hx0⟩:∃ x,x=z k:=⟨_,rfl⟩;obtain ⟨x1,hx1⟩:∃ x,x=z (k+1):=⟨_,rfl⟩;obtain ⟨x2,hx2⟩:∃ x,x=z (k+2):=⟨_,rfl⟩;rw [←hx0] at c0 z00 z01;rw [←hx1] at c1 z10 z11;rw [←hx2] at c2 z20 z21;clear hc hx0 hx1 hx2;have HN:=hidI (qhN x0 wr z00 z01);obtain ⟨aL,cL,rfl,hits⟩:=qbO HO.out;have hl12:=HK.out.len;obtain ⟨L,hL⟩:∃ L,L=l.length:=⟨_,rfl⟩;rw [←hL] at HO hl12 ⊢;have HL:=hidI hL;have Hits:=hidI hits;have hwsz:=HB.out.size;clear hL hits;go_wp2_with fail;refine HN.out.mono ?_;rintro e w1 ⟨p,rfl,hp,hb1⟩;have Hp:=hidI hp;have HF:=hidI (qdX p w1);obtain ⟨f,hf⟩:∃ f,f=qaJ p:=⟨_,rfl⟩;rw [←hf] at HF;have Hf:=hidI hf;have HO1:Hid (w1.ownsRow w.heap.size 39 5 (.slice aL L cL) L (its l)):=hidI (own_below HO.out hb1 fun q hq=>(HO.out.lt q hq).2)
   have HB1:Hid (Below w.heap.size w w1):=hidI (HB.out.trans (hb1.mono hwsz));have Hits1:Hid (ItsIn w1 aL l):=hidI (Hits.out.below hb1);have d1:w1.cell? ⟨b,off+(k+1),none⟩=some (.int .i64 x1):=by rw [hb1.cell (p:=⟨b,off+(k+1),none⟩) (Nat.lt_of_lt_of_le hbw hwsz)];exact c1
   have d2:w1.cell? ⟨b,off+(k+2),none⟩=some (.int .i64 x2):=by rw [hb1.cell (p:=⟨b,off+(k+2),none⟩) (Nat.lt_of_lt_of_le hbw hwsz)];exact c2
   have hs1:=HB1.out.size;clear hp hf hb1 HN c0 c1 c2 HO HB Hits hwsz;go_wp2_with fail;refine HF.out.mono ?_;rintro e w' ⟨rfl,hw⟩;have hw':=hw.symm;subst hw';clear hw HF;obtain ⟨X,hX⟩:∃ X,X=txt p:=⟨_,rfl⟩;have HX:=hidI hX;rw [←hX];clear hX;go_wp2_with fail
   go_loopw [6,7] (fun t i wx=>wx=w1∧∃ (j:Nat) (y:Bool),j≤L∧i=.int .i64 j∧t=.bool y∧Hid (y=true↔f=true∨∃ q∈l.take j,q.path=p)) (fun _ i _=>L - (intOf i).toNat)
   case atStart=>exact ⟨rfl,0,f,by omega,rfl,rfl,hidI (by simp)⟩
   obtain ⟨rfl,j,y,hj,rfl,rfl,Hy⟩:=hrel;by_cases hjl:j<L
   ·obtain ⟨q,hq⟩:∃ q,l[j]? = some q:=⟨_,List.getElem?_eq_getElem (by have:=HL.out;omega)⟩;have Hq:=hidI hq;have htk:l.take (j+1)=l.take j++[q]:=by rw [List.take_add_one,hq];rfl
    cases y with
    | true =>
      have Hy2:Hid (true=true↔f=true∨∃ q∈l.take (j+1),q.path=p):=hidI ⟨fun _=>(Hy.out.1 rfl).imp id (fun ⟨q',h,e⟩=>⟨q',by rw [htk];exact List.mem_append_left _ h,e⟩),fun _=>rfl⟩;clear hq htk;go_wp2;go_roundw
      case rel=>exact ⟨trivial,j+1,true,by omega,by go_num,rfl,Hy2⟩
      case measure=>simp [intOf];omega
    | false =>
      obtain ⟨g,o,rfl,hc⟩:=Hits1.out (fun h=>by rw [h] at hq;simp at hq);obtain ⟨q0,_,_,_,_⟩:=hc j q hq;obtain ⟨Y,hY⟩:∃ Y,Y=txt q.path:=⟨_,rfl⟩;have hcmp:(Y.toList==X.toList)=decide (q.path=p):=by rw [hY,HX.out,qaf,qaf];exact (by rw [Bool.eq_iff_iff];simp)
      rw [←hY] at q0;obtain ⟨t,ht⟩:∃ t,t=decide (q.path=p):=⟨_,rfl⟩;rw [←ht] at hcmp;have Hy2:Hid (t=true↔f=true∨∃ q∈l.take (j+1),q.path=p):=hidI (by
       have h:=Hy.out;rw [htk,ht]
       constructor
       ·intro e;exact .inr ⟨q,by simp,by simpa using e⟩
       rintro (e | ⟨q',h1,e⟩)
       ·exact absurd (h.2 (.inl e)) (by simp)
       rcases List.mem_append.1 h1 with h1 | h1
       ·exact absurd (h.2 (.inr ⟨q',h1,e⟩)) (by simp)
       simp at h1;subst h1;simpa using e)
      clear hq htk hc hY ht Hy;go_wp2;go_roundw
      case rel=>exact ⟨trivial,j+1,t,by omega,by go_num,rfl,Hy2⟩
      case measure=>simp [intOf];omega
   have hjL:j=L:=by omega
   subst hjL;have Hy2:Hid (y=true↔f=true∨∃ q∈l,q.path=p):=hidI (by have h:=Hy.out;rwa [HL.out,List.take_length] at h);clear Hy;cases y with
   | true =>
     go_wp2;go_roundw
     case rel=>exact ⟨k+3,l,by omega,by go_num,HK,by rw [←HL.out];exact HO1,HB1⟩
     case measure=>simp [intOf];omega
   | false =>
     have HBt:=hidI (fun V:World=>qfU x1 x2 V z10 z11 z20 z21);have HPa:=hidI (fun V:World=>qaV x1 4096 V z10 z11 (by decide) (by decide));have HPb:=hidI (fun V:World=>qaV x2 2147483647 V z20 z21 (by decide) (by decide));have ha1:=qbn x1 4096 (by decide);have hb1:=qbn x2 2147483647 (by decide);obtain ⟨m,hm⟩:∃ m,m=pickF x1 4096:=⟨_,rfl⟩;obtain ⟨t,ht⟩:∃ t,t=pickF x2 2147483647:=⟨_,rfl⟩;rw [←hm] at HPa ha1;rw [←ht] at HPb hb1;have hbr:b<wr.heap.size:=by omega
     have e1:(k:Int)+1<(n:Int):=by omega
     have g1:IntKind.i64.wrap ((k:Int)+1)=(k:Int)+1:=by rw [IntKind.wrap_i64];omega
     have g2:IntKind.i64.wrap ((k:Int)+2)=(k:Int)+2:=by rw [IntKind.wrap_i64];omega
     have g3:(0:Int)≤(k:Int)+1:=by omega
     have g4:(0:Int)≤(k:Int)+2:=by omega
     have g5:((k:Int)+1).toNat=k+1:=by omega
     have g6:((k:Int)+2).toNat=k+2:=by omega
     have HBd:Hid (Below w.heap.size w wr.drew):=hidI HB1.out.drew;clear hm ht;go_wp2_with fail;go_region_held3 (fun V=>Hid (Below w.heap.size w V)∧V.cell? ⟨b,off+(k+1),none⟩=some (.int .i64 x1)∧V.cell? ⟨b,off+(k+2),none⟩=some (.int .i64 x2)) (first | go_keep | fail) (first
      | (go_at_call 35;refine (HBt.out _).mono ?_;rintro e V ⟨d,rfl,hd,hbV⟩;have HBV:Hid (Below w.heap.size w V):=hidI (HBd.out.trans (hbV.mono hs1));have f1:V.cell? ⟨b,off+(k+1),none⟩=some (.int .i64 x1):=(by rw [hbV.cell (p:=⟨b,off+(k+1),none⟩) hbr];exact d1);have f2:V.cell? ⟨b,off+(k+2),none⟩=some (.int .i64 x2):=(by rw [hbV.cell (p:=⟨b,off+(k+2),none⟩) hbr];exact d2);have HOV:Hid (V.ownsRow w.heap.size 39 5 (.slice aL j cL) j (its l)):=hidI (own_below HO1.out.drew hbV fun q hq=>(HO1.out.lt q hq).2);have hsV:wr.heap.size≤V.heap.size:=hbV.size;have HBVa:∀ o,Hid (Below w.heap.size w (V.alloc o)):=(fun o=>hidI (HBV.out.alloc (by omega) o));have f1a:∀ o,(V.alloc o).cell? ⟨b,off+(k+1),none⟩=some (.int .i64 x1):=(fun o=>(World.cell?_of_block (w:=V) (a:=⟨b,off+(k+1),none⟩) (Below.heap_alloc V o b (by omega))).trans f1);have f2a:∀ o,(V.alloc o).cell? ⟨b,off+(k+2),none⟩=some (.int .i64 x2):=(fun o=>(World.cell?_of_block (w:=V) (a:=⟨b,off+(k+2),none⟩) (Below.heap_alloc V o b (by omega))).trans f2);have Hd:=hidI hd;clear hd hbV)
      | (go_at_call_of 18 (Value.int .i64 x1);refine (HPa.out _).mono ?_;rintro e w' ⟨rfl,hw⟩;have hw':=hw.symm;subst hw';clear hw)
      | (go_at_call_of 18 (Value.int .i64 x2);refine (HPb.out _).mono ?_;rintro e w' ⟨rfl,hw⟩;have hw':=hw.symm;subst hw';clear hw)
      | (refine step_append_lies _ (by rfl) _ _ _ (by rfl) w.heap.size 39 i0 _ 5 56 Tryz.underlying26 hi hz0 hz1 hz2 rfl (by omega) (.slice aL j cL) j _ (by rfl) (HOV.out.alloc _) ⟨V.heap.size,0,none⟩ 1 1 [.string X,.bool false,.string (txt d),.int .i64 (m:Nat),.int .i64 (t:Nat)] (by rfl) rfl (World.news_of_block (heap_alloc_new V _)) (by intro u hu;simp at hu;rcases hu with rfl | rfl | rfl | rfl | rfl<;>rfl) (by omega) (by unfold maxLen;omega) (by omega) (by simp;omega) (V.heap.size+1) (by simp) ?_;intro g2 cap2 w2 hown2 hgrow2 hat2 hlt2;have HB2:Hid (Below w.heap.size w w2):=hidI ((HBVa _).out.grown hgrow2 (by simp;omega) (fun q hq=>(HOV.out.lt q hq).1));have k1:w2.cell? ⟨b,off+(k+1),none⟩=some (.int .i64 x1):=(by rw [hgrow2.cell_far ⟨b,off+(k+1),none⟩ (by simp;omega) (by intro h;have:=(HOV.out.lt b h.symm).1;omega)];exact f1a _);have k2:w2.cell? ⟨b,off+(k+2),none⟩=some (.int .i64 x2):=(by rw [hgrow2.cell_far ⟨b,off+(k+2),none⟩ (by simp;omega) (by intro h;have:=(HOV.out.lt b h.symm).1;omega)];exact f2a _);have HO2:=hidI hown2;clear hown2 hgrow2 hat2 hlt2))
     rename_i hHeld;clear hHeld f1 f2 f1a f2a k1 k2 d1 d2;have HK2:Hid (KT (l++[⟨p,false,d,(m:Nat),(t:Nat)⟩])):=hidI (HK.out.add Hp.out (by rw [←Hf.out];cases f with | false=>rfl | true=>exact absurd (Hy2.out.2 (.inl rfl)) (by simp)) (fun x hx e=>absurd (Hy2.out.2 (.inr ⟨x,hx,e⟩)) (by simp)) Hd.out (by omega) (by omega) (by omega) (by omega));have HO3:Hid (w2.ownsRow w.heap.size 39 5 (.slice (some ⟨g2,0,none⟩) (j+1) cap2) (l++[(⟨p,false,d,(m:Nat),(t:Nat)⟩:It)]).length (its (l++[⟨p,false,d,(m:Nat),(t:Nat)⟩]))):=hidI (by
      have h:=HO2.out;rw [HX.out] at h;rw [qa0,qba,List.length_append,←HL.out];exact h)
     clear HO2;go_wp2;go_roundw
     case rel=>exact ⟨k+3,_,by omega,by go_num,HK2,HO3,HB2⟩
     case measure=>simp [intOf];omega
  obtain ⟨aL,cL,rfl,hits⟩:=qbO HO.out;clear hits;by_cases hq:k+2<n
  ·have h2':¬(k:Int)<27:=by omega
   have h1':(k:Int)+2<(n:Int):=by omega
   go_wp2;go_ret
   exact ⟨_,l,rfl,HK.out,HO.out,HB.out⟩
  have h1':¬(k:Int)+2<(n:Int):=by omega
  go_wp2;go_ret
  exact ⟨_,l,rfl,HK.out,HO.out,HB.out⟩
end
namespace S1
open Go.RowKit Pk
def anyOf:Value→Option (DataW Value × List MemPlace):=fun v=>some (.held v,[])
theorem qj8 {v u:Value} {ps:List MemPlace} (h:anyOf v=some (.held u,ps)):v=u:=by
 unfold anyOf at h;simp at h;exact h.1
theorem qn8 (w:World):(zeroValue 201).run Tryz.prog w=.ok (.slice none 0 0) w:=by kernel_rfl
theorem qn4 (w:World):(Instr.makeMap 200 none).run Tryz.prog w=.ok (.map (some w.heap.size)) (w.alloc (.map #[] 0)):=by
 simp [Instr.makeMap,Result.andThen]
theorem qbe {w w':World} {T:TypeId} {H:Type} {R:Value→Option (DataW H × List MemPlace)} {g n:Nat} {D:DataW H} (h:w.ownsMap Tryz.prog T R g n D) (hb:w'.heap[g]? = w.heap[g]?):w'.ownsMap Tryz.prog T R g n D:=by
 obtain ⟨es,clock,h1,h2⟩:=h;exact ⟨es,clock,hb.trans h1,h2⟩
end S1
section
open Go.RowKit
def qla {α:Type} (B:Nat) (I:List α→World→Prop) (xs:List α) (W:World):Exit→Act→World→Prop
 | .normal,_,W'=>KeepsFrom B W W'∧I xs W'∧KeepsWalks W W'
 | _,_,_=>False
variable {F:Fence} {n:Nat} {P:Program}
theorem qdp {α:Type} {g:Operand} {ps:Array Tmp} {assign body:Code} {Q:Exit→Act→World→Prop} {a:Act} {w:World}
 (hro:F.round=none) (h1:1≤n) {gf:Nat} {lb:Array Value} (hg:a.eval g=.func (.func gf) #[] lb) (hFg:F.fn gf) (eg:∀ args w,(callFunc gf args).run P w=.ok (.enter gf args) w)
 {enc:α→Value} {S:List α→Prop} {N:Nat} (hseq:SeqGives F (n - 1) P gf lb enc S N w) (hps:ps.size=1)
 (I:List α→World→Prop) (hI:OwnFrom w.heap.size I) (hIa:AbidesFrom w.heap.size I) (h0:I [] w) (a₁:α→World→Act) (as1:α→World→World)
 (has1:∀ x W,Below W.heap.size W (as1 x W)) (has2:∀ pre x W,I pre W→I pre (as1 x W)) (has3:∀ x W,KeepsWalks W (as1 x W))
 (hassign:∀ (l:Nat) (x:α) (W:World) (K:Act→World→Prop),K (a₁ x W) (as1 x W) →
   assign.wpIn (F.inRound l) (n - 1 - 1) P (Exit.then K (fun _ _ _=>False)) { tmps:=(ps.zip #[enc x]).foldl (fun t (p,v)=>t.setIfInBounds p v) a.tmps,defers:=[] } W)
 (hbody:∀ (l:Nat) (pre:List α) (x:α) (W V:World),(∀ k,W.heap.size≤k→k<(as1 x W).heap.size→V.heap[k]? = (as1 x W).heap[k]?)→I pre V→pre.length<N→w.heap.size≤W.heap.size→(as1 x W).heap.size≤V.heap.size→body.wpIn (F.inRound l) (n - 1 - 1) P (qla w.heap.size I (pre++[x]) V) (a₁ x W) V)
 (hdone:∀ (D:Nat) (xs:List α) (W:World),S xs→w.heap.size≤D→I xs W→W.heap[D]? = some (.deferred (some []))→Q .normal { a with defers:={ target:=.collected D,args:=#[] } :: a.defers } W) :
 (Code.rangeFunc g ps assign body).wpIn F n P Q a w:=by
 refine wpIn_rangeFunc fun fn hfn => ?_
 rw [hro];obtain ⟨r,hr⟩:∃ r:LoopState→Option Code→Loop,r=fun st pe=>{ state:=st,pending:=pe,fn,tmps:=a.tmps,params:=ps,assign,body,defers:=w.heap.size }:=⟨_,rfl⟩
 obtain ⟨V,hV⟩:∃ V,V=(w.alloc (.deferred (some []))).alloc (.loop (r .ready none)):=⟨_,rfl⟩;have hL:LoopAt w (r .ready none) V:=by
  rw [hV];refine ⟨?_,(Below.heap_alloc _ _ _ (by simp)).trans (World.alloc_heap_new w _)⟩
  have:=World.alloc_heap_new (w.alloc (.deferred (some []))) (.loop (r .ready none))
  rwa [World.size_alloc] at this
 have hIV:I [] V:=by rw [hV];exact hI.alloc _ (hI.alloc _ h0)
 have hBV:Below w.heap.size w V:=by rw [hV];exact ((Below.refl _ w).alloc (Nat.le_refl _) _).alloc (by simp) _
 have hsV:V.heap.size=w.heap.size+2:=by rw [hV];simp
 refine ⟨w.heap.size+1,[{ target:=.collected w.heap.size,args:=#[] }],V,{ target:=.fn (.func gf) lb,args:=#[.func (.yield (w.heap.size+1)) #[] #[]] },V,gf,
  #[.func (.yield (w.heap.size+1)) #[] #[]]++lb,V,?_,?_,?_,?_,fun _=>h1,?_⟩
 ·rw [hV,hr];exact run_enterLoop_outer _ _ _ _ _
 ·simp only [resolve,hg];simp [go_sem]
 ·intro f' hf';simp [Target.leads] at hf';subst hf';exact hFg
 ·simp [invoke,go_sem,eg]
 refine (hseq (w.heap.size+1) (fun pre W=>I pre W∧LoopAt w (r .ready none) W) V hBV (fun s A B row h hg' hrow=>⟨hIa s A B row h.1 hg' (fun k e=>⟨by have:=(hrow k e).1;omega,(hrow k e).2⟩),?_⟩) ?_ ⟨hIV,hL⟩).mono ?_
 ·refine ⟨(hg'.block _ (Array.getElem?_eq_some_iff.1 h.2.1).1 (fun e=>by have:=(hrow _ e.symm).1;omega)).trans h.2.1,(hg'.block _ (Array.getElem?_eq_some_iff.1 h.2.2).1 (fun e=>by have:=(hrow _ e.symm).1;omega)).trans h.2.2⟩
 ·rintro pre x W ⟨hi,hl⟩ hpre;have hlt:=(Array.getElem?_eq_some_iff.1 hl.1).1;have hy:=run_yield (P:=P) (args:=#[enc x]) hl.1 (by rw [hr];simp [hps]);rw [hr] at hy;have hla:LoopAt w (r .ready none) (as1 x W):=⟨((has1 x W).block _ hlt).trans hl.1,((has1 x W).block _ (by omega)).trans hl.2⟩;have hsz:=(has1 x W).size;refine ⟨fn,_,assign,body,hy,roundIn_of_wpIn hfn (hassign _ x W _ ⟨_,run_beginRound hla.1 (by rw [hr]),?_⟩)⟩;clear hy;have hl2:LoopAt w { r .ready none with state:=.busy } ((as1 x W).putObj (w.heap.size+1) (.loop { r .ready none with state:=.busy })):=hla.turn _;have hb2:Below w.heap.size (as1 x W) ((as1 x W).putObj (w.heap.size+1) (.loop { r .ready none with state:=.busy })):=belowK_b (w:=w) (Nat.le_refl _) (as1 x W) _ _ _ (by omega) hla.1 rfl rfl
  refine wpIn_mono (hbody _ pre x W _ (fun k h1 h2=>World.putObj_heap_other (by omega)) (hI.putObj _ (has2 pre x W hi) (by omega) hla.1 rfl) hpre (by omega) hb2.size) ?_;rintro e a3 W3 hp;cases e with
  | normal =>
    obtain ⟨hk,hi3,hkw⟩:=hp;have hl3:=hl2.kept hk;have he:=run_endRound (P:=P) none hl3.1;rw [hr] at he;refine ⟨_,_,he,rfl,⟨hI.putObj _ hi3 (by omega) hl3.1 rfl,?_⟩,?_⟩
    ·have:=hl3.turn (r .ready none)
     rw [hr] at this ⊢;exact this
    exact (((has3 x W).trans (KeepsWalks.putObj _ hla.1 rfl)).trans hkw).trans (KeepsWalks.putObj _ hl3.1 rfl)
  | ret=>exact hp.elim
  | exit id=>exact hp.elim
  | goto t=>exact hp.elim
  | panic ch=>exact hp.elim
  | outgrown=>exact hp.elim
 rintro e W2 ⟨⟨v,rfl⟩,xs,hS,hi,hl⟩;exact ⟨none,_,by have:=run_endLoop (P:=P) hl.1 (by rw [hr];simp);rw [hr] at this;exact this,hdone _ xs _ hS (Nat.le_refl _) (hI.putObj _ hi (by omega) hl.1 rfl) ((World.putObj_heap_other (by omega)).trans hl.2)⟩
end
end Go.Proofs.YtodmdkhdbfbfgaaGreatDoor
