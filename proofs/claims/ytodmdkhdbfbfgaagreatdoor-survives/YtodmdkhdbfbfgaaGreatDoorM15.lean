/- Lemmas. -/
import Derived.Sort.MapsRangeIn
import Derived.RegionIn
import Derived.Shelf.SlIter.Collect
import Derived.Test.YtodmdkhdbfbfgaaGreatDoorM14
set_option linter.unusedVariables false
set_option linter.unusedSimpArgs false
set_option maxRecDepth 100000
set_option maxHeartbeats 8000000
namespace Go.Proofs.YtodmdkhdbfbfgaaGreatDoor
namespace S1
open Go.RowKit Pk Go.Shelf
attribute [local go_sem] Oper.semAt_some
def encLb (x:Nat × Nat):Value:=.agg #[.int .i64 (x.1:Nat),.int .u32 (x.2:Nat)]
def okLb (x:Nat × Nat):Prop:=x.1≤1000000∧x.2≤4294967295
structure LbCame {H:Type} (D:DataW H) (left:Lit→Bool) (xs:List (Nat × Nat)):Prop where
 nd:xs.Nodup
 ok:∀ x∈xs,okLb x
 mem:∀ x,okLb x→(x∈xs↔Maps.has D (lk x.1 x.2)=true∧left (lk x.1 x.2)=false)
theorem qg0 {H:Type} {R:Value→Option (DataW H × List MemPlace)} (n:Nat) (hn:1≤n) (Bm b nn:Nat) (D0:DataW H) (w:World) (hBm:Bm<w.heap.size) (hm:w.cell? ⟨Bm,0,none⟩=some (.map (some b))) (hown:w.ownsMap Tryz.prog 90 R b nn D0) (hk:∀ kl,Maps.has D0 kl=true→∃ x,okLb x∧kl=lk x.1 x.2) :
 SeqGives Fence.wide n Tryz.prog 143 #[.pointer (some ⟨Bm,0,none⟩)] encLb (fun xs=>xs.Nodup∧(∀ x∈xs,okLb x)∧∀ x,okLb x→(x∈xs↔Maps.has D0 (lk x.1 x.2)=true)) (Maps.size D0) w:=by
 intro l J W hbW hJ hY h0;have hmW:W.cell? ⟨Bm,0,none⟩=some (.map (some b)):=by rw [hbW.cell (p:=⟨Bm,0,none⟩) hBm];exact hm
 have hownW:W.ownsMap Tryz.prog 90 R b nn D0:=by
  have hl:=hown.lt;obtain ⟨es,clock,h1,h2⟩:=hown;exact ⟨es,clock,(hbW.block b hl).trans h1,h2⟩
 clear hm hown;refine callsIn_of_wp Tryz.func143 rfl trivial ?_ rfl;simp only [Tryz.ntmps143,List.size_toArray,List.length_cons,List.length_nil,Nat.reduceAdd,Nat.reduceSub,Array.replicate_succ,Array.replicate_zero,List.push_toArray,List.append_toArray,List.nil_append,List.cons_append];gi_wp2_with (first | (gi_at_range;refine wpListIn_range_own _ rfl _ 137 rfl 90 94 law90 Tryz.underlying137 _ b nn _ rfl hownW ?_;intro w0 hrg0 hg0 hs0) | gi_in)
 go_frame
 have hsz0:=hs0
 gi_loopw [3] (fun _ wr=>∃ (left:Lit→Bool) (cnt:Nat) (xs:List (Nat × Nat)),wr.ranges Tryz.prog 90 R b W.heap.size nn D0 left cnt∧LbCame D0 left xs∧xs.length+cnt≤Maps.size D0∧J xs wr∧W.heap.size<wr.heap.size)
  (fun _ wr=>wr.rangeLeft b W.heap.size)
 case atStart =>
  exact ⟨_,_,[],hrg0,⟨List.nodup_nil,fun x hx=>(by cases hx),fun x hx=>⟨fun h=>(by cases h),fun h=>(by rw [h.1] at h;cases h.2)⟩⟩,by simp,hJ [] W w0 none h0 hg0 (fun r e=>by cases e),by omega⟩
 case round =>
  obtain ⟨left,cnt,xs,hrg,hC,hlen,hJs,hsw⟩:=hrel;gi_wp2_with (first | (gi_at_next;refine wpListIn_next_ranges _ rfl _ rfl 90 law90 R id id (fun key kl hk=>⟨key,rfl⟩) (fun v _ _=>⟨v,rfl⟩) b W.heap.size nn _ _ _ rfl hrg ?_ ?_) | gi_in)
  ·intro _ hl0;gi_wp2;go_end0
   exact ⟨⟨_,rfl⟩,xs,⟨hC.nd,hC.ok,fun x hx=>⟨fun h=>((hC.mem x hx).1 h).1,fun h=>(hC.mem x hx).2 ⟨h,hl0 _⟩⟩⟩,hJs⟩
  intro x cv kl yd yp w2 cnt2 hkey hlk hv hat hrg2 hlt hg2 hs2 hen;have hhas:Maps.has D0 kl=true:=Maps.has_true_of_atKey hat;obtain ⟨y,hy,rfl⟩:=hk kl hhas;have hx:x=encLb y:=law90.inj (hkey.trans rfl) (key90 hy.1 hy.2);subst hx;have hJ2:J xs w2:=hJ xs wr w2 (some W.heap.size) hJs hg2 (fun r e=>by cases e;exact ⟨Nat.le_refl _,hrg.iter_walk⟩);obtain ⟨W3,hW3⟩:∃ W3,W3=w2.alloc (.cells #[.int .i64 (y.1:Nat),.int .u32 (y.2:Nat)] 90):=⟨_,rfl⟩;obtain ⟨kb,hkb⟩:∃ kb,kb=w2.heap.size:=⟨_,rfl⟩;have hr3:W3.heap[kb]? = some (.cells #[.int .i64 (y.1:Nat),.int .u32 (y.2:Nat)] 90 (0,0)):=by rw [hW3,hkb];exact heap_alloc_new _ _
  have c0:W3.cell? ⟨kb,0,none⟩=some (.int .i64 (y.1:Nat)):=by rw [cell_of_row W3 kb 0 _ 90 (0,0) hr3];rfl
  have c1:W3.cell? ⟨kb,1,none⟩=some (.int .u32 (y.2:Nat)):=by rw [cell_of_row W3 kb 1 _ 90 (0,0) hr3];rfl
  have hJ3:J xs W3:=hJ xs w2 W3 none hJ2 (by rw [hW3];exact World.grownBy_alloc w2 _ none) (fun r e=>by cases e);have hrg3:W3.ranges Tryz.prog 90 R b W.heap.size nn D0 (fun z=>left z && !z.sameKey (lk y.1 y.2)) cnt2:=by rw [hW3];exact hrg2.alloc _
  obtain ⟨fn,tmps,assign,body,hyy,hR⟩:=hY xs y W3 hJ3 (by omega);have hsz3:W.heap.size<W3.heap.size:=by rw [hW3];simp;omega
  have HJ:Hid True:=hidI trivial;have Hrg3:=hidI hrg3;have Hrg:=hidI hrg;have HW3:=hidI hW3;have Hkb:=hidI hkb;have HR:=hidI hR;have Hlk:=hidI hlk;have Hhas:=hidI hhas
  try simp only [id] at hen
  unfold encLb at hen hyy
  try simp only [id]
  unfold encLb;clear hW3 hkb hr3 hat hv hkey hlk hg2 hs2 hrg2 hrg hrg3 hhas hJ2 hJs hR;gi_wp2_with (first | (rw [←HW3.out,←Hkb.out]) | gi_in);refine HR.out.mono ?_;rintro e W4 ⟨rfl,hJ4,hk4⟩;have hrg4:=Hrg3.out.of_walks hk4;have Hrg4:=hidI hrg4;have Hsz4:Hid (W.heap.size<W4.heap.size):=hidI (Nat.lt_of_lt_of_le hsz3 hk4.size);have HJ4:=hidI hJ4;clear hrg4 hJ4 hk4 HR hyy hen c0 c1;gi_wp2;go_roundw
  case rel =>
   have hlk:=Hlk.out;refine ⟨_,cnt2,xs++[y],Hrg4.out,⟨?_,?_,?_⟩,by simp;omega,HJ4.out,Hsz4.out⟩
   ·rw [List.nodup_append];refine ⟨hC.nd,by simp,fun a ha c hc => ?_⟩;simp at hc;subst hc;rintro rfl
    have:=((hC.mem _ hy).1 ha).2
    rw [hlk] at this;cases this
   ·intro z hz;rcases List.mem_append.1 hz with hz | hz
    ·exact hC.ok z hz
    simp at hz;subst hz;exact hy
   intro z hz;by_cases e:z=y
   ·subst e;have hs:Lit.sameKey (lk z.1 z.2) (lk z.1 z.2)=true:=by simp [Lit.sameKey,lk]
    refine ⟨fun _=>⟨Hhas.out,by rw [hs];simp⟩,fun _=>by simp⟩
   have hs:Lit.sameKey (lk z.1 z.2) (lk y.1 y.2)=false:=Maps.sameKey_ne (fun h=>e (by have:=qd2 hz.1 hz.2 hy.1 hy.2 h;exact Prod.ext this.1 this.2));rw [hs];simp only [Bool.not_false,Bool.and_true];rw [←hC.mem z hz];simp [e]
  case measure=>rw [Hrg4.out.left_eq,Hrg.out.left_eq];exact hlt
end S1
namespace S1
open Go.RowKit Pk Go.Shelf
attribute [local go_sem] Oper.semAt_some
def lbs (xs:List (Nat × Nat)):List Value:=xs.flatMap fun x=>[.int .i64 (x.1:Nat),.int .u32 (x.2:Nat)]
theorem qhr (xs:List (Nat × Nat)) (x:Nat × Nat):lbs (xs++[x])=lbs xs++[.int .i64 (x.1:Nat),.int .u32 (x.2:Nat)]:=by simp [lbs]
theorem Tryz.info90:(Tryz.prog.info? 90).map (fun i=>(i.zero,i.size,i.bytes))=some (some (.agg #[.int .i64 0,.int .u32 0]),2,16):=by kernel_rfl
def ApI (w:World) (bx:Nat) (pre:List (Nat × Nat)) (W:World):Prop:=∃ v,W.heap[bx]? = some (.cells #[v] 144 (0,0))∧W.ownsRow (bx+1) 90 2 v pre.length (lbs pre)∧Below bx w W∧(v=.slice none 0 0↔pre=[])
theorem ApI.grown {w:World} {bx:Nat} {pre:List (Nat × Nat)} {W W':World} {row:Option Nat} (h:ApI w bx pre W) (hg:W.grownBy W' row) (hr:∀ r,row=some r→bx+1≤r∧∃ o:Obj,W.heap[r]? = some o∧o.isCells=false) (hw:w.heap.size=bx):ApI w bx pre W':=by
 obtain ⟨v,h1,h2,h3,h4⟩:=h;refine ⟨v,(hg.block bx (lt_of_heap h1) (fun e=>by have:=(hr bx e.symm).1;omega)).trans h1,?_,h3.grown hg (by have:=h3.size;omega) (fun k e=>by have:=(hr k e).1;omega),h4⟩;refine ⟨h2.1,?_⟩;rcases h2.2 with h5 | ⟨g,cap,cur,e,h5,h6,h7⟩
 ·exact .inl h5
 exact .inr ⟨g,cap,cur,e,h5,(hg.block g (lt_of_heap h6) (fun e'=>by
  obtain ⟨_,o,ho,hc⟩:=hr g e'.symm;rw [h6] at ho;cases ho
  cases hc)).trans h6,h7⟩
theorem qdz {o:Obj} (h:o.isWalk=true):o.isCells=false:=by
 cases o<;>first | rfl | cases h
theorem qe3 (n:Nat) (hn:2≤n) (g:Nat) (lb:Array Value) (eg:∀ args w,(callFunc g args).run Tryz.prog w=.ok (.enter g args) w) (S:List (Nat × Nat)→Prop) (N:Nat) (hN:N≤100000) (w:World) (hseq:SeqGives Fence.wide (n - 1) Tryz.prog g lb encLb S N w) :
 CallsIn Fence.wide n Tryz.prog 142 #[.slice none 0 0,.func (.func g) #[] lb] w fun e w'=>∃ (v:Value) (xs:List (Nat × Nat)),e=.returned v∧S xs∧w'.ownsRow w.heap.size 90 2 v xs.length (lbs xs)∧(v=.slice none 0 0↔xs=[])∧Below w.heap.size w w':=by
 obtain ⟨i0,hi,hz0,hz1,hz2⟩:=info_parts Tryz.info90;refine callsIn_of_wp_marks Tryz.func142 rfl trivial ?_ rfl;simp only [Tryz.ntmps142,List.size_toArray,List.length_cons,List.length_nil,Nat.reduceAdd,Nat.reduceSub,Array.replicate_succ,Array.replicate_zero,List.push_toArray,List.append_toArray,List.nil_append,List.cons_append];gi_wp2;obtain ⟨W0,hW0⟩:∃ W0,W0=w.alloc (.cells #[.slice none 0 0] 144):=⟨_,rfl⟩;obtain ⟨bx,hbx⟩:∃ bx,bx=w.heap.size:=⟨_,rfl⟩;have hs0:W0.heap.size=bx+1:=by rw [hW0,hbx];simp
 have hv0:W0.heap[bx]? = some (.cells #[.slice none 0 0] 144 (0,0)):=by rw [hW0,hbx];exact heap_alloc_new _ _
 have hb0:Below w.heap.size w W0:=by rw [hW0];exact (Below.refl _ w).alloc (Nat.le_refl _) _
 rw [←hW0]
 try simp only [←hbx]
 refine qdp rfl (by omega) (gf:=g) (lb:=lb) rfl trivial eg (hseq.later hb0) rfl (ApI w bx)
  (fun s A C row hs hg hr=>hs.grown hg (fun r e=>⟨by have:=(hr r e).1;omega,(hr r e).2⟩) hbx.symm)
  (fun s A C row hs hg hr=>hs.grown hg (fun r e=>⟨by have:=(hr r e).1;omega,by obtain ⟨_,o,h1,h2⟩:=hr r e;exact ⟨o,h1,qdz h2⟩⟩) hbx.symm)
  ⟨_,hv0,World.ownsRow_nil _ _ _ _,by rw [hbx];exact hb0,by simp⟩
  (fun x W=>{ tmps:=#[.slice none 0 0,.func (.func g) #[] lb,.pointer (some ⟨bx,0,none⟩),undef,.slice none 0 0,.pointer (some ⟨W.heap.size,0,none⟩),.func (.func g) #[] lb,encLb x,undef,undef,undef,undef,undef],defers:=[] })
  (fun x W=>W.alloc (.cells #[.int .i64 (x.1:Nat),.int .u32 (x.2:Nat)] 90))
  (fun x W=>(Below.refl _ W).alloc (Nat.le_refl _) _) ?has2 (fun x W=>KeepsWalks.alloc W _) ?assign ?body ?done
 case has2=>exact fun pre x W h=>h.grown (World.grownBy_alloc W _ none) (fun r e=>by cases e) hbx.symm
 case assign =>
  intro l x W K hK;unfold encLb at hK ⊢;rw [hbx] at hK;gi_wp2;exact hK
 case body =>
  intro l pre x W V hV hI hpre hWs hVs;subst hbx;obtain ⟨v,hv,hrow,hbl,hnil⟩:=hI;have hx0:V.heap[W.heap.size]? = some (.cells #[.int .i64 (x.1:Nat),.int .u32 (x.2:Nat)] 90 (0,0)):=by
   rw [hV _ (Nat.le_refl _) (by simp)];exact heap_alloc_new _ _
  have hbV:w.heap.size<V.heap.size:=lt_of_heap hv;have hWV:W.heap.size<V.heap.size:=lt_of_heap hx0;obtain ⟨hc2,hf2⟩:=cell_of_box_a hv;have hx1:V.cell? ⟨W.heap.size,0,none⟩=some (.int .i64 (x.1:Nat)):=by simp [World.cell?,hx0]
  have hx2:V.cell? ⟨W.heap.size,1,none⟩=some (.int .u32 (x.2:Nat)):=by simp [World.cell?,hx0]
  have ne_of:∀ {j:Nat} {o:Obj},V.heap[j]? = some o→(∀ cur,o≠.cells cur 90 (0,0))→some j≠v.ownBlock:=fun hj hno=>by
   rcases ownsRow_ne_a hrow hj hno with e | e
   ·rw [e];simp
   exact fun e'=>e e'.symm
  gi_wp2_with (first
   | (gi_at_builtin;refine wpListIn_append_own _ rfl _ _ 144 rfl (w.heap.size+1) 90 i0 _ 2 16 Tryz.underlying144 hi hz0 hz1 hz2 rfl (by decide) _ _ _ rfl (hrow.alloc _) ⟨V.heap.size,0,none⟩ 1 1 [.int .i64 (x.1:Nat),.int .u32 (x.2:Nat)] rfl rfl ?_ (by simp [Value.oneCell']) (by simp [maxLen];omega) (by omega) (by simp;omega) ?_
      rotate_left
      intro v' w3 hown' hg3 hnil3;have hv3:w3.heap[w.heap.size]? = some (.cells #[v] 144 (0,0)):=(hg3.block w.heap.size (by simp;omega) (ne_of hv (fun cur e=>by cases e))).trans ((Below.heap_alloc _ _ w.heap.size hbV).trans hv);obtain ⟨hc3,hf3⟩:=cell_of_box_a hv3;obtain ⟨g',cap',cur',rfl,hbase',hgb',hr1,hr2,hr3,hr4⟩:∃ g' cap' cur',v'=.slice (some ⟨g',0,none⟩) (pre.length+1) cap'∧w.heap.size+1≤g'∧w3.heap[g']? = some (.cells cur' 90 (0,0))∧pre.length+1≤cap'∧cap'≤maxLen∧cur'.size=cap'*2∧cur'.toList.take ((pre.length+1)*2)=lbs pre++[.int .i64 (x.1:Nat),.int .u32 (x.2:Nat)]:=by
       rcases hown'.2 with ⟨_,h0⟩ | h'
       ·exact absurd h0 (by omega)
       exact h'
      go_frame)
   | gi_round_op_a)
  ·have hg3':(V.alloc (.cells #[.int .i64 (x.1:Nat),.int .u32 (x.2:Nat)] 90)).grownBy w3 v.ownBlock:=hg3;obtain ⟨w4,hw4⟩:∃ w4,w3.setCell ⟨w.heap.size,0,none⟩ (.slice (some ⟨g',0,none⟩) (pre.length+1) cap')=w4:=⟨_,rfl⟩;rw [hw4];have hg4:w3.grownBy w4 (some w.heap.size):=by rw [←hw4];exact grownBy_setCell0_a _ _ _
   have hv4:w4.heap[w.heap.size]? = some (.cells #[.slice (some ⟨g',0,none⟩) (pre.length+1) cap'] 144 (0,0)):=by rw [←hw4];exact heap_setCell_box_a _ hv3
   have hrow4:=hown'.kept hg4 (ownsRow_ne_a hown' hv3 (fun cur e=>by cases e));have hb3:Below w.heap.size w w3:=(hbl.alloc hbl.size _).grown hg3' (by have:=hbl.size;simp;omega) (fun k e=>by have:=(hrow.lt k e).1;omega);have hb4:Below w.heap.size w w4:=hb3.grown hg4 hb3.size (fun k e=>by cases e;omega);refine ⟨?_,⟨_,hv4,by rw [qhr];simpa using hrow4,hb4,by simp⟩,((KeepsWalks.alloc _ _).trans (KeepsWalks.of_grownBy hg3' (ownsRow_not_walk_a (hrow.alloc _)))).trans (by rw [←hw4];exact KeepsWalks.setCell _ _ _)⟩;refine ((KeepsOthers.alloc _ (.cells #[.int .i64 (x.1:Nat),.int .u32 (x.2:Nat)] 90)).from _).trans (KeepsFrom.trans (?_:KeepsFrom _ _ w3) (KeepsFrom.of_grownBy hg4 (fun j e=>by cases e;omega)));exact ⟨hg3'.size,fun k o hB hk ho=>(hg3'.block k (lt_of_heap hk) (fun e=>by
    rcases hrow.2 with ⟨e',_⟩ | ⟨q,cap,cur,e',_,hq,_⟩
    ·rw [e'] at e;cases e
    rw [e'] at e;simp [Value.ownBlock] at e;subst e;rw [Below.heap_alloc _ _ _ (lt_of_heap hq),hq] at hk;cases hk
    cases ho)).trans hk⟩
  intro j u hj
  have:=heap_alloc_new V (.cells #[.int .i64 (x.1:Nat),.int .u32 (x.2:Nat)] 90)
  rcases j with _ | _ | j
  ·simp at hj;subst hj;unfold World.cell? Addr.add;simp only [Nat.reduceAdd,Nat.reduceEqDiff,if_true,if_false,this,Nat.zero_add,Nat.one_ne_zero];rfl
  ·simp at hj;subst hj;unfold World.cell? Addr.add;simp only [Nat.reduceAdd,Nat.reduceEqDiff,if_true,if_false,this,Nat.zero_add,Nat.one_ne_zero];rfl
  simp at hj
 case done =>
  intro D xs W hS hD hI hK;subst hbx;obtain ⟨v,hv,hrow,hbl,hnil⟩:=hI;obtain ⟨hc3,hf3⟩:=cell_of_box_a hv;gi_wp2;refine ⟨by simp,.inl ⟨_,_,rfl,run_takeDeferred hK,?_⟩⟩;exact ⟨_,results_tmp rfl _ _ _,v,xs,rfl,hS,(ownsRow_base_a hrow (by omega)).kept (grownBy_putObj_a _ _ _) (ownsRow_ne_a hrow hK (fun cur e=>by cases e)),hnil,hbl.grown (grownBy_putObj_a _ _ _) hbl.size (fun k e=>by cases e;omega)⟩
theorem qgU (n:Nat) (hn:3≤n) (g:Nat) (lb:Array Value) (eg:∀ args w,(callFunc g args).run Tryz.prog w=.ok (.enter g args) w) (S:List (Nat × Nat)→Prop) (N:Nat) (hN:N≤100000) (w:World) (hseq:SeqGives Fence.wide (n - 1 - 1) Tryz.prog g lb encLb S N w) :
 CallsIn Fence.wide n Tryz.prog 85 #[.func (.func g) #[] lb] w fun e w'=>∃ (v:Value) (xs:List (Nat × Nat)),e=.returned v∧S xs∧w'.ownsRow w.heap.size 90 2 v xs.length (lbs xs)∧(v=.slice none 0 0↔xs=[])∧Below w.heap.size w w':=by
 refine callsIn_of_wp Tryz.func85 rfl trivial ?_ rfl;simp only [Tryz.ntmps85,List.size_toArray,List.length_cons,List.length_nil,Nat.reduceAdd,Nat.reduceSub,Array.replicate_succ,Array.replicate_zero,List.push_toArray,List.append_toArray,List.nil_append,List.cons_append];gi_wp2_with fail;refine ⟨trivial,fun _=>by omega,(qe3 (n - 1) (by omega) g lb eg S N hN _ hseq).mono ?_⟩;rintro e w' ⟨v,xs,rfl,hS,hrow,hnil,hb⟩;gi_wp2;go_ret
 exact ⟨v,xs,rfl,hS,hrow,hnil,hb⟩
end S1
section
open Go.RowKit
def Keep (S:Nat→Prop) (W W':World):Prop:=∀ k,S k→W'.heap[k]? = W.heap[k]?
theorem Keep.trans {S:Nat→Prop} {A B C:World} (h:Keep S A B) (k:Keep S B C):Keep S A C:=fun i hi=>(k i hi).trans (h i hi)
theorem Keep.of_below {S:Nat→Prop} {A B:World} {n:Nat} (h:Below n A B) (hS:∀ k,S k→k<n):Keep S A B:=fun i hi=>h.block i (hS i hi)
def SeqRow {α:Type} (F:Fence) (n:Nat) (P:Program) (g:Nat) (lb:Array Value) (encs:α→Array Value) (xs:List α) (n₀:Nat) (S:Nat→Prop) (w:World):Prop:=
 ∀ (l:Nat) (J:List α→World→Prop) (W:World),Below n₀ w W →
  (∀ pre x W1,J pre W1→pre++[x] <+: xs→YieldAt F (n - 1) P l (encs x) W1 fun e W'=>e=.returned (.bool true)∧J (pre++[x]) W'∧Keep S W1 W') →
  J [] W→CallsIn F n P g (#[.func (.yield l) #[] #[]]++lb) W fun e W'=>(∃ v,e=.returned v)∧J xs W'
theorem SeqRow.later {α:Type} {F:Fence} {n:Nat} {P:Program} {g:Nat} {lb:Array Value} {encs:α→Array Value} {xs:List α} {n₀:Nat} {S:Nat→Prop} {w w':World} (h:SeqRow F n P g lb encs xs n₀ S w) (hb:Below n₀ w w'):SeqRow F n P g lb encs xs n₀ S w':=
 fun l J W hW=>h l J W (hb.trans hW)
def qjC {α:Type} (B:Nat) (S:Nat→Prop) (I:List α→World→Prop) (xs:List α) (W:World):Exit→Act→World→Prop
 | .normal,_,W'=>KeepsFrom B W W'∧Keep S W W'∧I xs W'
 | _,_,_=>False
variable {F:Fence} {n:Nat} {P:Program}
theorem qcm {α:Type} {g:Operand} {ps:Array Tmp} {assign body:Code} {Q:Exit→Act→World→Prop} {a:Act} {w:World}
 (hro:F.round=none) (h1:1≤n) {gf:Nat} {lb:Array Value} (hg:a.eval g=.func (.func gf) #[] lb) (hFg:F.fn gf) (eg:∀ args w,(callFunc gf args).run P w=.ok (.enter gf args) w)
 {encs:α→Array Value} {xs:List α} {n₀:Nat} {S:Nat→Prop} (hseq:SeqRow F (n - 1) P gf lb encs xs n₀ S w) (hn₀:n₀≤w.heap.size) (hS:∀ k,S k→k<w.heap.size) (hps:∀ x,ps.size=(encs x).size)
 (I:List α→World→Prop) (hI:OwnFrom w.heap.size I) (h0:I [] w) (a₁:α→World→Act) (as1:α→World→World)
 (has1:∀ x W,Below W.heap.size W (as1 x W)) (has2:∀ pre x W,I pre W→I pre (as1 x W))
 (hassign:∀ (l:Nat) (x:α) (W:World) (K:Act→World→Prop),K (a₁ x W) (as1 x W) →
   assign.wpIn (F.inRound l) (n - 1 - 1) P (Exit.then K (fun _ _ _=>False)) { tmps:=(ps.zip (encs x)).foldl (fun t (p,v)=>t.setIfInBounds p v) a.tmps,defers:=[] } W)
 (hbody:∀ (l:Nat) (pre:List α) (x:α) (W V:World),(∀ k,W.heap.size≤k→k<(as1 x W).heap.size→V.heap[k]? = (as1 x W).heap[k]?)→I pre V→pre++[x] <+: xs→w.heap.size≤W.heap.size→(as1 x W).heap.size≤V.heap.size→body.wpIn (F.inRound l) (n - 1 - 1) P (qjC w.heap.size S I (pre++[x]) V) (a₁ x W) V)
 (hdone:∀ (D:Nat) (W:World),w.heap.size≤D→I xs W→W.heap[D]? = some (.deferred (some []))→Q .normal { a with defers:={ target:=.collected D,args:=#[] } :: a.defers } W) :
 (Code.rangeFunc g ps assign body).wpIn F n P Q a w:=by
 refine wpIn_rangeFunc fun fn hfn => ?_
 rw [hro];obtain ⟨r,hr⟩:∃ r:LoopState→Option Code→Loop,r=fun st pe=>{ state:=st,pending:=pe,fn,tmps:=a.tmps,params:=ps,assign,body,defers:=w.heap.size }:=⟨_,rfl⟩
 obtain ⟨V,hV⟩:∃ V,V=(w.alloc (.deferred (some []))).alloc (.loop (r .ready none)):=⟨_,rfl⟩;have hL:LoopAt w (r .ready none) V:=by
  rw [hV];refine ⟨?_,(Below.heap_alloc _ _ _ (by simp)).trans (World.alloc_heap_new w _)⟩
  have:=World.alloc_heap_new (w.alloc (.deferred (some []))) (.loop (r .ready none))
  rwa [World.size_alloc] at this
 have hIV:I [] V:=by rw [hV];exact hI.alloc _ (hI.alloc _ h0)
 have hBV:Below w.heap.size w V:=by rw [hV];exact ((Below.refl _ w).alloc (Nat.le_refl _) _).alloc (by simp) _
 have hsV:V.heap.size=w.heap.size+2:=by rw [hV];simp
 refine ⟨w.heap.size+1,[{ target:=.collected w.heap.size,args:=#[] }],V,{ target:=.fn (.func gf) lb,args:=#[.func (.yield (w.heap.size+1)) #[] #[]] },V,gf,
  #[.func (.yield (w.heap.size+1)) #[] #[]]++lb,V,?_,?_,?_,?_,fun _=>h1,?_⟩
 ·rw [hV,hr];exact run_enterLoop_outer _ _ _ _ _
 ·simp only [resolve,hg];simp [go_sem]
 ·intro f' hf';simp [Target.leads] at hf';subst hf';exact hFg
 ·simp [invoke,go_sem,eg]
 refine (hseq (w.heap.size+1) (fun pre W=>I pre W∧LoopAt w (r .ready none) W) V (hBV.mono hn₀) ?_ ⟨hIV,hL⟩).mono ?_
 ·rintro pre x W ⟨hi,hl⟩ hpre;have hlt:=(Array.getElem?_eq_some_iff.1 hl.1).1;have hy:=run_yield (P:=P) (args:=encs x) hl.1 (by rw [hr];simp [hps x]);rw [hr] at hy;have hla:LoopAt w (r .ready none) (as1 x W):=⟨((has1 x W).block _ hlt).trans hl.1,((has1 x W).block _ (by omega)).trans hl.2⟩;have hsz:=(has1 x W).size;refine ⟨fn,_,assign,body,hy,roundIn_of_wpIn hfn (hassign _ x W _ ⟨_,run_beginRound hla.1 (by rw [hr]),?_⟩)⟩;clear hy;have hl2:LoopAt w { r .ready none with state:=.busy } ((as1 x W).putObj (w.heap.size+1) (.loop { r .ready none with state:=.busy })):=hla.turn _;have hb2:Below w.heap.size (as1 x W) ((as1 x W).putObj (w.heap.size+1) (.loop { r .ready none with state:=.busy })):=belowK_b (w:=w) (Nat.le_refl _) (as1 x W) _ _ _ (by omega) hla.1 rfl rfl
  refine wpIn_mono (hbody _ pre x W _ (fun k h1 h2=>World.putObj_heap_other (by omega)) (hI.putObj _ (has2 pre x W hi) (by omega) hla.1 rfl) hpre (by omega) hb2.size) ?_;rintro e a3 W3 hp;cases e with
  | normal =>
    obtain ⟨hk,hb,hi3⟩:=hp;have hl3:=hl2.kept hk;have he:=run_endRound (P:=P) none hl3.1;rw [hr] at he;refine ⟨_,_,he,rfl,⟨hI.putObj _ hi3 (by omega) hl3.1 rfl,?_⟩,?_⟩
    ·have:=hl3.turn (r .ready none)
     rw [hr] at this ⊢;exact this
    have hb3:=belowK_b (w:=w) (Nat.le_refl _) W3 (w.heap.size+1) _ (.loop (r .ready none)) (by omega) hl3.1 rfl rfl;rw [hr] at hb3;exact (((Keep.of_below ((has1 x W).mono (by omega)) hS).trans (Keep.of_below hb2 hS)).trans hb).trans (Keep.of_below hb3 hS)
  | ret=>exact hp.elim
  | exit id=>exact hp.elim
  | goto t=>exact hp.elim
  | panic ch=>exact hp.elim
  | outgrown=>exact hp.elim
 rintro e W2 ⟨⟨v,rfl⟩,hi,hl⟩;exact ⟨none,_,by have:=run_endLoop (P:=P) hl.1 (by rw [hr];simp);rw [hr] at this;exact this,hdone _ _ (Nat.le_refl _) (hI.putObj _ hi (by omega) hl.1 rfl) ((World.putObj_heap_other (by omega)).trans hl.2)⟩
end
namespace S1
open Go.RowKit Pk Go.Shelf
attribute [local go_sem] Oper.semAt_some
def rec0:Value:=.agg #[.string ⟨#[]⟩,.int .i64 0,.int .u32 0,.map none,.int .i64 0]
theorem zero94 (w:World):(zeroValue 94).run Tryz.prog w=.ok rec0 w:=by kernel_rfl
theorem qnz (w:World):(Instr.makeMap 137 none).run Tryz.prog w=.ok (.map (some w.heap.size)) (w.alloc (.map #[] 0)):=by
 simp [Instr.makeMap,Result.andThen]
theorem qjA (q:Option Nat) (w:World) :
 Calls Tryz.prog 86 #[.map q] w fun e w'=>e=.returned (.func (.func 143) #[] #[.pointer (some ⟨w.heap.size,0,none⟩)])∧w'=w.alloc (.cells #[.map q] 137):=by
 go_enter Tryz.func86,Tryz.ntmps86
 go_wp2;go_ret
 exact ⟨rfl,rfl⟩
theorem qfK (p:Option Addr) (k c:Nat) (w:World) :
 Calls Tryz.prog 83 #[.slice p k c] w fun e w'=>e=.returned (.func (.func 138) #[] #[.pointer (some ⟨w.heap.size,0,none⟩)])∧w'=w.alloc (.cells #[.slice p k c] 144):=by
 go_enter Tryz.func83,Tryz.ntmps83
 go_wp2;go_ret
 exact ⟨rfl,rfl⟩
def encIL (x:Nat × (Nat × Nat)):Array Value:=#[.int .i64 (x.1:Nat),.agg #[.int .i64 (x.2.1:Nat),.int .u32 (x.2.2:Nat)]]
end S1
namespace S1
open Go.RowKit Pk Go.Shelf
attribute [local go_sem] Oper.semAt_some
def encU (x:Nat):Value:=.int .u32 (x:Nat)
theorem Tryz.info88:(Tryz.prog.info? 88).map (fun i=>(i.zero,i.size,i.bytes))=some (some (.int .u32 0),1,4):=by kernel_rfl
theorem qis (n:Nat) (hn:1≤n) (w:World) (B g cap:Nat) (xs:List Nat) (n₀:Nat) (S:Nat→Prop) (hB:B<n₀) (hg:g<n₀) (hSg:S g) (hlen:xs.length≤100000) (hb:w.cell? ⟨B,0,none⟩=some (.slice (some ⟨g,0,none⟩) xs.length cap)) (cur:Array Value) (hrow:w.heap[g]? = some (.cells cur 88 (0,0))) (hc:cur.toList.take xs.length=xs.map encU) :
 SeqRow Fence.wide n Tryz.prog 256 #[.pointer (some ⟨B,0,none⟩)] (fun x=>#[encU x]) xs n₀ S w:=by
 intro l J W hW hY h0;have hbW:W.cell? ⟨B,0,none⟩=some (.slice (some ⟨g,0,none⟩) xs.length cap):=by rw [hW.cell (p:=⟨B,0,none⟩) hB];exact hb
 have hcur:∀ k (h:k<xs.length),cur[k]? = some (encU xs[k]):=by
  intro k h;have h2:(cur.toList.take xs.length)[k]? = some (encU xs[k]):=by rw [hc];simp [h]
  rw [List.getElem?_take_of_lt h] at h2;simpa using h2
 have hrowW:W.heap[g]? = some (.cells cur 88 (0,0)):=(hW.block g hg).trans hrow;clear hb hrow hc;refine callsIn_of_wp Tryz.func256 rfl trivial ?_ rfl;simp only [Tryz.ntmps256,List.size_toArray,List.length_cons,List.length_nil,Nat.reduceAdd,Nat.reduceSub,Array.replicate_succ,Array.replicate_zero,List.push_toArray,List.append_toArray,List.nil_append,List.cons_append];gi_wp2
 gi_loopw [7] (fun i wr=>∃ k:Nat,k≤xs.length∧i=.int .i64 (k:Nat)∧J (xs.take k) wr∧Hid (Keep S W wr)) (fun i _=>xs.length - (intOf i).toNat)
 case atStart=>exact ⟨0,Nat.zero_le _,rfl,by simpa using h0,hidI (fun _ _=>rfl)⟩
 case round =>
  obtain ⟨k,hk,rfl,hJ,HB⟩:=hrel;by_cases hlt:k<xs.length
  ·have hcell:wr.cell? ⟨g,k,none⟩=some (.int .u32 (xs[k]:Nat)):=by
    rw [cell_of_row wr g k _ 88 (0,0) ((HB.out g hSg).trans hrowW)];exact hcur k hlt
   obtain ⟨fn,tmps,assign,body,hyy,hR⟩:=hY (xs.take k) xs[k] wr hJ (by rw [List.take_append_getElem hlt];exact List.take_prefix _ _);unfold encU at hyy;have HR:=hidI hR;have i1:((k:Nat):Int)<(xs.length:Nat):=by omega
   have i2:(0:Int)≤(k:Nat):=by omega
   obtain ⟨x,hx⟩:∃ x,x=xs[k]:=⟨_,rfl⟩;have Hx:=hidI hx;rw [←hx] at hcell hyy;clear hR hx hJ;gi_wp2_with gi_in;refine HR.out.mono ?_;rintro e W4 ⟨rfl,hJ4,hB4⟩;have HB4:=hidI (HB.out.trans hB4);have HJ4:=hidI hJ4;clear hJ4 hB4 HR hyy hcell;gi_wp2;go_roundw
   case rel=>exact ⟨k+1,by omega,rfl,by rw [←List.take_append_getElem hlt];exact HJ4.out,HB4⟩
   case measure=>simp [intOf];omega
  have hke:k=xs.length:=by omega
  subst hke;have i1:¬((xs.length:Nat):Int)<(xs.length:Nat):=by omega
  gi_wp2;go_end0
  exact ⟨⟨_,rfl⟩,by simpa using hJ⟩
theorem qje (n:Nat) (p:Option Addr) (k c:Nat) (w:World) :
 CallsIn Fence.wide n Tryz.prog 204 #[.slice p k c] w fun e w'=>e=.returned (.func (.func 256) #[] #[.pointer (some ⟨w.heap.size,0,none⟩)])∧w'=w.alloc (.cells #[.slice p k c] 201):=by
 refine callsIn_of_wp Tryz.func204 rfl trivial ?_ rfl;simp only [Tryz.ntmps204,List.size_toArray,List.length_cons,List.length_nil,Nat.reduceAdd,Nat.reduceSub,Array.replicate_succ,Array.replicate_zero,List.push_toArray,List.append_toArray,List.nil_append,List.cons_append];gi_wp2;go_ret
 exact ⟨rfl,rfl⟩
def ApU (w:World) (bx:Nat) (pre:List Nat) (W:World):Prop:=∃ v,W.heap[bx]? = some (.cells #[v] 201 (0,0))∧W.ownsRow (bx+1) 88 1 v pre.length (pre.map encU)∧Below bx w W∧(v=.slice none 0 0↔pre=[])
theorem ApU.grown {w:World} {bx:Nat} {pre:List Nat} {W W':World} {row:Option Nat} (h:ApU w bx pre W) (hg:W.grownBy W' row) (hr:∀ r,row=some r→bx+1≤r∧∃ o:Obj,W.heap[r]? = some o∧o.isCells=false) (hw:w.heap.size=bx):ApU w bx pre W':=by
 obtain ⟨v,h1,h2,h3,h4⟩:=h;refine ⟨v,(hg.block bx (lt_of_heap h1) (fun e=>by have:=(hr bx e.symm).1;omega)).trans h1,?_,h3.grown hg (by have:=h3.size;omega) (fun k e=>by have:=(hr k e).1;omega),h4⟩;refine ⟨h2.1,?_⟩;rcases h2.2 with h5 | ⟨g,cap,cur,e,h5,h6,h7⟩
 ·exact .inl h5
 exact .inr ⟨g,cap,cur,e,h5,(hg.block g (lt_of_heap h6) (fun e'=>by
  obtain ⟨_,o,ho,hc⟩:=hr g e'.symm;rw [h6] at ho;cases ho
  cases hc)).trans h6,h7⟩
theorem qeO (n:Nat) (hn:2≤n) (g:Nat) (lb:Array Value) (eg:∀ args w,(callFunc g args).run Tryz.prog w=.ok (.enter g args) w) (xs:List Nat) (hN:xs.length≤100000) (w:World) (n₀:Nat) (S:Nat→Prop) (hn₀:n₀≤w.heap.size) (hS:∀ k,S k→k<w.heap.size) (hseq:SeqRow Fence.wide (n - 1) Tryz.prog g lb (fun x=>#[encU x]) xs n₀ S w) :
 CallsIn Fence.wide n Tryz.prog 291 #[.slice none 0 0,.func (.func g) #[] lb] w fun e w'=>∃ v:Value,e=.returned v∧w'.ownsRow w.heap.size 88 1 v xs.length (xs.map encU)∧(v=.slice none 0 0↔xs=[])∧Below w.heap.size w w':=by
 obtain ⟨i0,hi,hz0,hz1,hz2⟩:=info_parts Tryz.info88;refine callsIn_of_wp_marks Tryz.func291 rfl trivial ?_ rfl;simp only [Tryz.ntmps291,List.size_toArray,List.length_cons,List.length_nil,Nat.reduceAdd,Nat.reduceSub,Array.replicate_succ,Array.replicate_zero,List.push_toArray,List.append_toArray,List.nil_append,List.cons_append];gi_wp2;obtain ⟨W0,hW0⟩:∃ W0,W0=w.alloc (.cells #[.slice none 0 0] 201):=⟨_,rfl⟩;have hs0:W0.heap.size=w.heap.size+1:=by rw [hW0];simp
 have hv0:W0.heap[w.heap.size]? = some (.cells #[.slice none 0 0] 201 (0,0)):=by rw [hW0];exact heap_alloc_new _ _
 have hb0:Below w.heap.size w W0:=by rw [hW0];exact (Below.refl _ w).alloc (Nat.le_refl _) _
 rw [←hW0];refine qcm rfl (by omega) (gf:=g) (lb:=lb) rfl trivial eg (hseq.later (hb0.mono hn₀)) (by omega) (fun k hk=>by have:=hS k hk;omega) (fun _=>rfl) (ApU w w.heap.size)
  (fun s A C row hs hg hr=>hs.grown hg (fun r e=>⟨by have:=(hr r e).1;omega,(hr r e).2⟩) rfl)
  ⟨_,hv0,World.ownsRow_nil _ _ _ _,hb0,by simp⟩
  (fun x W=>{ tmps:=#[.slice none 0 0,.func (.func g) #[] lb,.pointer (some ⟨w.heap.size,0,none⟩),undef,.slice none 0 0,encU x,.func (.func g) #[] lb,encU x,undef,undef,undef,undef,undef],defers:=[] })
  (fun x W=>W) (fun x W=>Below.refl _ W) (fun pre x W h=>h) ?assign ?body ?done
 case assign =>
  intro l x W K hK;unfold encU at hK ⊢;gi_wp2;exact hK
 case body =>
  intro l pre x W V hV hI hpre hWs hVs;have hpl:pre.length<xs.length:=by have:=hpre.length_le;simp at this;omega
  obtain ⟨v,hv,hrow,hbl,hnil⟩:=hI;have hbV:w.heap.size<V.heap.size:=lt_of_heap hv;obtain ⟨hc2,hf2⟩:=cell_of_box_a hv;have ne_of:∀ {j:Nat} {o:Obj},V.heap[j]? = some o→(∀ cur,o≠.cells cur 88 (0,0))→some j≠v.ownBlock:=fun hj hno=>by
   rcases ownsRow_ne_a hrow hj hno with e | e
   ·rw [e];simp
   exact fun e'=>e e'.symm
  unfold encU;gi_wp2_with (first
   | (gi_at_builtin;refine wpListIn_append_own _ rfl _ _ 201 rfl (w.heap.size+1) 88 i0 _ 1 4 Tryz.underlying201 hi hz0 hz1 hz2 rfl (by decide) _ _ _ rfl (hrow.alloc _) ⟨V.heap.size,0,none⟩ 1 1 [.int .u32 (x:Nat)] rfl rfl (cell_one_new _ _ _) (by simp [Value.oneCell']) (by simp [maxLen];omega) (by omega) (by simp;omega) ?_
      intro v' w3 hown' hg3 hnil3;have hv3:w3.heap[w.heap.size]? = some (.cells #[v] 201 (0,0)):=(hg3.block w.heap.size (by simp;omega) (ne_of hv (fun cur e=>by cases e))).trans ((Below.heap_alloc _ _ w.heap.size hbV).trans hv);obtain ⟨hc3,hf3⟩:=cell_of_box_a hv3;obtain ⟨g',cap',cur',rfl,hbase',hgb',hr1,hr2,hr3,hr4⟩:∃ g' cap' cur',v'=.slice (some ⟨g',0,none⟩) (pre.length+1) cap'∧w.heap.size+1≤g'∧w3.heap[g']? = some (.cells cur' 88 (0,0))∧pre.length+1≤cap'∧cap'≤maxLen∧cur'.size=cap'*1∧cur'.toList.take ((pre.length+1)*1)=pre.map encU++[.int .u32 (x:Nat)]:=by
       rcases hown'.2 with ⟨_,h0⟩ | h'
       ·exact absurd h0 (by omega)
       exact h'
      go_frame)
   | gi_round_op_a)
  have hg3':(V.alloc (.cells #[.int .u32 (x:Nat)] 88)).grownBy w3 v.ownBlock:=hg3;obtain ⟨w4,hw4⟩:∃ w4,w3.setCell ⟨w.heap.size,0,none⟩ (.slice (some ⟨g',0,none⟩) (pre.length+1) cap')=w4:=⟨_,rfl⟩;rw [hw4];have hg4:w3.grownBy w4 (some w.heap.size):=by rw [←hw4];exact grownBy_setCell0_a _ _ _
  have hv4:w4.heap[w.heap.size]? = some (.cells #[.slice (some ⟨g',0,none⟩) (pre.length+1) cap'] 201 (0,0)):=by rw [←hw4];exact heap_setCell_box_a _ hv3
  have hrow4:=hown'.kept hg4 (ownsRow_ne_a hown' hv3 (fun cur e=>by cases e));have hb3':Below w.heap.size V w3:=((Below.refl _ V).alloc (by omega) _).grown hg3' (by simp;omega) (fun k e=>by have:=(hrow.lt k e).1;omega);have hb4':Below w.heap.size V w4:=hb3'.grown hg4 (by have:=hg3'.size;simp at this;omega) (fun k e=>by cases e;omega);refine ⟨?_,Keep.of_below hb4' hS,⟨_,hv4,by simpa [encU] using hrow4,hbl.trans hb4',by simp⟩⟩;refine ((KeepsOthers.alloc _ (.cells #[.int .u32 (x:Nat)] 88)).from _).trans (KeepsFrom.trans (?_:KeepsFrom _ _ w3) (KeepsFrom.of_grownBy hg4 (fun j e=>by cases e;omega)));exact ⟨hg3'.size,fun k o hB hk ho=>(hg3'.block k (lt_of_heap hk) (fun e=>by
   rcases hrow.2 with ⟨e',_⟩ | ⟨q,cap,cur,e',_,hq,_⟩
   ·rw [e'] at e;cases e
   rw [e'] at e;simp [Value.ownBlock] at e;subst e;rw [Below.heap_alloc _ _ _ (lt_of_heap hq),hq] at hk;cases hk
   cases ho)).trans hk⟩
 case done =>
  intro D W hD hI hK;obtain ⟨v,hv,hrow,hbl,hnil⟩:=hI;obtain ⟨hc3,hf3⟩:=cell_of_box_a hv;gi_wp2;refine ⟨by simp,.inl ⟨_,_,rfl,run_takeDeferred hK,?_⟩⟩;exact ⟨_,results_tmp rfl _ _ _,v,rfl,(ownsRow_base_a hrow (by omega)).kept (grownBy_putObj_a _ _ _) (ownsRow_ne_a hrow hK (fun cur e=>by cases e)),hnil,hbl.grown (grownBy_putObj_a _ _ _) hbl.size (fun k e=>by cases e;omega)⟩
theorem qgX (n:Nat) (hn:3≤n) (g:Nat) (lb:Array Value) (eg:∀ args w,(callFunc g args).run Tryz.prog w=.ok (.enter g args) w) (xs:List Nat) (hN:xs.length≤100000) (w:World) (n₀:Nat) (S:Nat→Prop) (hn₀:n₀≤w.heap.size) (hS:∀ k,S k→k<w.heap.size) (hseq:SeqRow Fence.wide (n - 1 - 1) Tryz.prog g lb (fun x=>#[encU x]) xs n₀ S w) :
 CallsIn Fence.wide n Tryz.prog 254 #[.func (.func g) #[] lb] w fun e w'=>∃ v:Value,e=.returned v∧w'.ownsRow w.heap.size 88 1 v xs.length (xs.map encU)∧(v=.slice none 0 0↔xs=[])∧Below w.heap.size w w':=by
 refine callsIn_of_wp Tryz.func254 rfl trivial ?_ rfl;simp only [Tryz.ntmps254,List.size_toArray,List.length_cons,List.length_nil,Nat.reduceAdd,Nat.reduceSub,Array.replicate_succ,Array.replicate_zero,List.push_toArray,List.append_toArray,List.nil_append,List.cons_append];gi_wp2_with fail;refine ⟨trivial,fun _=>by omega,(qeO (n - 1) (by omega) g lb eg xs hN _ n₀ S hn₀ hS hseq).mono ?_⟩;rintro e w' ⟨v,rfl,hrow,hnil,hb⟩;gi_wp2;go_ret
 exact ⟨v,rfl,hrow,hnil,hb⟩
end S1
namespace S1.Pk
structure Wr (b:List UInt8) (pos:Nat):Prop where
 lo:pos≤8*b.length
 hi:8*b.length<pos+8
 zero:∀ i,pos≤i→bt b i=0
structure Ag (b f:List UInt8) (pos:Nat):Prop where
 len:b.length≤f.length
 bit:∀ i,i<pos→bt f i=bt b i
theorem Ag.refl (b:List UInt8) (pos:Nat):Ag b b pos:=⟨Nat.le_refl _,fun _ _=>rfl⟩
theorem Ag.trans {a b c:List UInt8} {p q:Nat} (h:Ag a b p) (k:Ag b c q) (hpq:p≤q):Ag a c p:=⟨Nat.le_trans h.len k.len,fun i hi=>(k.bit i (by omega)).trans (h.bit i hi)⟩
theorem Ag.mono {a b:List UInt8} {p q:Nat} (h:Ag a b q) (hpq:p≤q):Ag a b p:=⟨h.len,fun i hi=>h.bit i (by omega)⟩
theorem Ag.val {b f:List UInt8} {pos:Nat} (h:Ag b f pos) (p d:Nat) (hp:p+d≤pos):val f p d=val b p d:=by
 induction d with
 | zero=>rfl
 | succ d ih=>rw [qaH,qaH,ih (by omega),h.bit _ (by omega)]
theorem qmt (c x r:Nat) (hc:c<256) (hx:x<2) (hr:r<8) (hz:∀ j,r≤j→j<8→c/2^(7 - j)%2=0) :
 c%2^(8 - r)=0∧c+x*2^(7 - r)<256∧∀ j,j<8→(c+x*2^(7 - r))/2^(7 - j)%2=if j<r then c/2^(7 - j)%2 else if j=r then x else 0:=by
 have hm:c%2^(8 - r)=0:=by
  have key:∀ k,k≤8 - r→c%2^k=0:=by
   intro k
   induction k with
   | zero=>intro _;simp [Nat.mod_one]
   | succ k ih =>
     intro hk;have h1:=ih (by omega);have h2:=hz (7 - k) (by omega) (by omega);rw [show 7 - (7 - k)=k by omega] at h2;rw [Nat.pow_succ,Nat.mod_mul,h1,h2];simp
  exact key _ (Nat.le_refl _)
 obtain ⟨q,hq⟩:∃ q,c=2^(8 - r)*q:=⟨c/2^(8 - r),by have:=Nat.div_add_mod c (2^(8 - r));omega⟩;have hp:(2:Nat)^(8 - r)=2^(7 - r)*2:=by rw [←Nat.pow_succ];congr 1;omega
 have hc2:c+x*2^(7 - r)=2^(7 - r)*(2*q+x):=by rw [hq,hp,Nat.mul_add,Nat.mul_assoc,Nat.mul_comm x]
 have h256:(256:Nat)=2^(7 - r)*2^(r+1):=by rw [←Nat.pow_add,show 7 - r+(r+1)=8 by omega]
 have hq2:2*q<2^(r+1):=by
  have:2^(7 - r)*(2*q)<2^(7 - r)*2^(r+1):=by rw [←h256,←Nat.mul_assoc,←hp,←hq];exact hc
  exact Nat.lt_of_mul_lt_mul_left this
 have he:2^(r+1)%2=0:=by rw [Nat.pow_succ];omega
 refine ⟨hm,?_,fun j hj => ?_⟩
 ·rw [hc2,h256];exact (Nat.mul_lt_mul_left (Nat.pow_pos (by omega))).2 (by omega)
 rw [hc2];by_cases h1:j≤r
 ·have e:(2:Nat)^(7 - j)=2^(7 - r)*2^(r - j):=by rw [←Nat.pow_add];congr 1;omega
  rw [e,Nat.mul_div_mul_left _ _ (Nat.pow_pos (by omega))];by_cases h2:j=r
  ·subst h2;simp;omega
  rw [if_pos (by omega),hq,hp,Nat.mul_assoc,Nat.mul_div_mul_left _ _ (Nat.pow_pos (by omega))];rw [show r - j=(r - j - 1)+1 by omega,Nat.pow_succ,Nat.mul_comm (2^(r - j - 1)) 2,←Nat.div_div_eq_div_mul,←Nat.div_div_eq_div_mul];rw [show (2*q+x)/2=q by omega,show 2*q/2=q by omega]
 rw [if_neg (by omega),if_neg (by omega)];have e:(2:Nat)^(7 - r)=2^(7 - j)*2^(j - r):=by rw [←Nat.pow_add];congr 1;omega
 rw [e,Nat.mul_assoc,Nat.mul_div_cancel_left _ (Nat.pow_pos (by omega)),show j - r=(j - r - 1)+1 by omega,Nat.pow_succ,Nat.mul_comm (2^(j - r - 1)) 2,Nat.mul_assoc,Nat.mul_mod_right]
theorem qb9 (b e:List UInt8) (i:Nat) (h:i<8*b.length):bt (b++e) i=bt b i:=by
 unfold bt;rw [List.getD_eq_getElem?_getD,List.getElem?_append_left (by omega),List.getD_eq_getElem?_getD]
theorem qnj (b:List UInt8) (i:Nat) (h:8*b.length≤i):bt b i=0:=by
 unfold bt;rw [List.getD_eq_getElem?_getD,List.getElem?_eq_none (by omega)];simp
theorem qjJ (b:List UInt8) (i:Nat) (h:8*b.length≤i):bt (b++[0]) i=0:=by
 by_cases e:i<8*b.length+8
 ·unfold bt;rw [List.getD_eq_getElem?_getD,List.getElem?_append_right (by omega),show i/8 - b.length=0 by omega];simp
 exact qnj _ _ (by simp;omega)
theorem qkt (b:List UInt8) (pos x:Nat) (h1:pos<8*b.length) (h2:8*b.length≤pos+8) (hz:∀ i,pos≤i→bt b i=0) (hx:x<2) :
 (b.getD (b.length - 1) 0).toNat%2^(8*b.length - pos)=0∧(b.getD (b.length - 1) 0).toNat+x*2^(8*b.length - pos - 1)<256 ∧
 ∀ c':UInt8,c'.toNat=(b.getD (b.length - 1) 0).toNat+x*2^(8*b.length - pos - 1)→Wr (b.set (b.length - 1) c') (pos+1)∧Ag b (b.set (b.length - 1) c') pos∧bt (b.set (b.length - 1) c') pos=x:=by
 have hl:pos/8=b.length - 1:=by omega
 have hb:=qmt (b.getD (b.length - 1) 0).toNat x (pos%8) (UInt8.toNat_lt _) hx (by omega) (fun j hj hj8=>by
  have:=hz (8*(b.length - 1)+j) (by omega)
  unfold bt at this;rw [show (8*(b.length - 1)+j)/8=b.length - 1 by omega,show (8*(b.length - 1)+j)%8=j by omega] at this;exact this)
 rw [show 8 - pos%8=8*b.length - pos by omega,show 7 - pos%8=8*b.length - pos - 1 by omega] at hb;obtain ⟨hb1,hb2,hb3⟩:=hb;refine ⟨hb1,hb2,fun c' hc' => ?_⟩;have key:∀ i,bt (b.set (b.length - 1) c') i=if i<pos then bt b i else if i=pos then x else 0:=by
  intro i;by_cases hi:i/8=b.length - 1
  ·have e:(b.set (b.length - 1) c').getD (i/8) 0=c':=by
    rw [hi,List.getD_eq_getElem?_getD,List.getElem?_set_self (by omega)];rfl
   have:=hb3 (i%8) (by omega)
   unfold bt;rw [e,hc',this,hi];by_cases g1:i<pos
   ·rw [if_pos (by omega),if_pos g1]
   rw [if_neg (by omega),if_neg g1];by_cases g2:i=pos
   ·rw [if_pos (by omega),if_pos g2]
   rw [if_neg (by omega),if_neg g2]
  have e:(b.set (b.length - 1) c').getD (i/8) 0=b.getD (i/8) 0:=by
   rw [List.getD_eq_getElem?_getD,List.getElem?_set_ne (fun h=>hi h.symm),List.getD_eq_getElem?_getD]
  have e2:bt (b.set (b.length - 1) c') i=bt b i:=by unfold bt;rw [e]
  rw [e2];by_cases g1:i<pos
  ·rw [if_pos g1]
  rw [if_neg g1,if_neg (by omega)];exact hz i (by omega)
 refine ⟨⟨by rw [List.length_set];omega,by rw [List.length_set];omega,fun i hi=>by rw [key,if_neg (by omega),if_neg (by omega)]⟩,⟨by rw [List.length_set];exact Nat.le_refl _,fun i hi=>by rw [key,if_pos hi]⟩,by rw [key,if_neg (by omega),if_pos rfl]⟩
theorem qcT (n k j:Nat) (hj:j<k):2*(n/2^(k - j))+n/2^(k - 1 - j)%2=n/2^(k - (j+1)):=by
 rw [show k - j=(k - 1 - j)+1 by omega,show k - (j+1)=k - 1 - j by omega,Nat.pow_succ,←Nat.div_div_eq_div_mul];omega
end S1.Pk
namespace S1
open Go.RowKit Pk
def put {α:Type} (f:Nat→α) (p:Nat) (x:α):Nat→α:=fun j=>if j=p then x else f j
def Keeps (t:TypeId) (w w':World):Prop:=∀ (k:Nat) (c:Array Value) (fz:Nat × Nat),w.heap[k]? = some (.cells c t fz)→w'.heap[k]? = w.heap[k]?
namespace Keeps
variable {t:TypeId} {a b c w w':World}
theorem refl (t:TypeId) (w:World):Keeps t w w:=fun _ _ _ _=>rfl
theorem trans (h:Keeps t a b) (k:Keeps t b c):Keeps t a c:=fun i x f e=>(k i x f ((h i x f e).trans e)).trans (h i x f e)
theorem drew (h:Keeps t a b):Keeps t a b.drew:=h
theorem alloc (h:Keeps t a b) (o:Obj):Keeps t a (b.alloc o):=h.trans fun k _ _ e=>Below.heap_alloc b o k (lt_of_heap e)
theorem below (h:Keeps t a b) (hb:Below b.heap.size b c):Keeps t a c:=h.trans fun k _ _ e=>hb.block k (lt_of_heap e)
theorem set (h:Keeps t a b) {g o:Nat} {v:Value} {x:Array Value} {T:TypeId} {f:Nat × Nat} (hg:b.heap[g]? = some (.cells x T f)) (hT:T≠t):Keeps t a (b.setCell ⟨g,o,none⟩ v):=
 h.trans fun k _ _ e=>Below.heap_setCell b ⟨g,o,none⟩ v k (qah e hg (fun h=>hT h.symm))
theorem grown (h:Keeps t a b) {base n:Nat} {e:TypeId} {v:Value} {xs:List Value} (hown:b.ownsRow base e 1 v n xs) (he:e≠t) (hg:b.grownBy c v.ownBlock):Keeps t a c:=by
 refine h.trans fun k x f hk=>hg.block k (lt_of_heap hk) ?_
 rcases hown.2 with ⟨rfl,_⟩ | ⟨g,cap,cur,rfl,_,hh,_⟩
 ·simp [Value.ownBlock]
 intro e2;simp [Value.ownBlock] at e2;subst e2;rw [hk] at hh;simp at hh;exact he hh.2.1.symm
theorem block (h:Keeps t w w') {k:Nat} {x:Array Value} {f:Nat × Nat} (e:w.heap[k]? = some (.cells x t f)):w'.heap[k]? = some (.cells x t f):=(h k x f e).trans e
theorem rw (h:Keeps t w w') {g n:Nat} {f:Nat→Value} (r:Rw w g t n f):Rw w' g t n f:=by
 obtain ⟨c,hb,hc⟩:=r;exact ⟨c,h.block hb,hc⟩
theorem own (h:Keeps t w w') {base n:Nat} {v:Value} {xs:List Value} (o:w.ownsRow base t 1 v n xs):w'.ownsRow base t 1 v n xs:=by
 refine ⟨o.1,?_⟩;rcases o.2 with h1 | ⟨g,cap,cur,h1,h2,h3,h4⟩
 ·exact .inl h1
 exact .inr ⟨g,cap,cur,h1,h2,h.block h3,h4⟩
end Keeps
theorem Rw.news {w:World} {b n:Nat} {t:TypeId} {f:Nat→Value} (h:Rw w b t n f):∀ j u,((List.range n).map f)[j]? = some u→w.cell? ((⟨b,0,none⟩:Addr).add j)=some u:=by
 intro j u hu;have hj:j<n:=by
  rcases Nat.lt_or_ge j n with h | h
  ·exact h
  rw [List.getElem?_eq_none (by simpa using h)] at hu;cases hu
 have hadd:(⟨b,0,none⟩:Addr).add j=⟨b,j,none⟩:=by unfold Addr.add;split<;>simp_all
 rw [hadd,h.cell hj,←hu];simp [hj]
theorem qkW (n:Nat) (f:Nat→Value) (x:Value):(List.range n).map f++[x]=(List.range (n+1)).map (put f n x):=by
 rw [List.range_succ,List.map_append]
 congr 1
 ·apply List.map_congr_left
  intro i hi
  have:i<n:=by simpa using hi
  show f i=put f n x i;unfold put;rw [if_neg (by omega)]
 simp [put]
structure Data (w:World) (base:Nat) (v:Value) (k np:Nat) (rw cr:Nat→Nat) (pg:Nat→Nat→List UInt8):Prop where
 own:w.ownsRow base 40 1 v k ((List.range k).map fun i=>.slice (some ⟨rw i,0,none⟩) np (cr i))
 row:∀ i,i<k→base≤rw i∧Rw w (rw i) 9 np (fun p=>.string (txt (pg i p)))
 inj:∀ i j,i<k→j<k→rw i=rw j→i=j
namespace Data
variable {w w':World} {base:Nat} {v v':Value} {k np:Nat} {rw cr:Nat→Nat} {pg:Nat→Nat→List UInt8}
theorem nil (w:World) (base np:Nat) (rw cr:Nat→Nat) (pg:Nat→Nat→List UInt8):Data w base (.slice none 0 0) 0 np rw cr pg:=
 ⟨World.ownsRow_nil _ _ _ _,fun i h=>by omega,fun i j h=>by omega⟩
theorem keep (h:Data w base v k np rw cr pg) (k9:Keeps 9 w w') (k23:Keeps 40 w w'):Data w' base v k np rw cr pg:=
 ⟨k23.own h.own,fun i hi=>⟨(h.row i hi).1,k9.rw (h.row i hi).2⟩,h.inj⟩
theorem push (h:Data w base v k np rw cr pg) (k9:Keeps 9 w w') {r c:Nat} {f:Nat→List UInt8} (hr:base≤r) (hnew:w.heap.size≤r) (hrw:Rw w' r 9 np (fun p=>.string (txt (f p))))
 (ho:w'.ownsRow base 40 1 v' (k+1) ((List.range k).map (fun i=>.slice (some ⟨rw i,0,none⟩) np (cr i))++[.slice (some ⟨r,0,none⟩) np c])):Data w' base v' (k+1) np (put rw k r) (put cr k c) (put pg k f):=by
 have hlt:∀ i,i<k→rw i<w.heap.size:=fun i hi=>(h.row i hi).2.lt
 refine ⟨?_,fun i hi => ?_,fun i j hi hj e => ?_⟩
 ·rw [qkW] at ho
  have:(List.range (k+1)).map (put (fun i=>Value.slice (some ⟨rw i,0,none⟩) np (cr i)) k (.slice (some ⟨r,0,none⟩) np c))=(List.range (k+1)).map (fun i=>Value.slice (some ⟨put rw k r i,0,none⟩) np (put cr k c i)):=by
   apply List.map_congr_left
   intro i _;unfold put;by_cases e:i=k
   ·rw [if_pos e,if_pos e,if_pos e]
   rw [if_neg e,if_neg e,if_neg e]
  rw [this] at ho;exact ho
 ·by_cases e:i=k
  ·unfold put;rw [if_pos e,if_pos e];exact ⟨hr,hrw⟩
  unfold put;rw [if_neg e,if_neg e]
  have:=h.row i (by omega)
  exact ⟨this.1,k9.rw this.2⟩
 unfold put at e;by_cases e1:i=k
 ·by_cases e2:j=k
  ·omega
  rw [if_pos e1,if_neg e2] at e
  have:=hlt j (by omega)
  omega
 by_cases e2:j=k
 ·rw [if_neg e1,if_pos e2] at e
  have:=hlt i (by omega)
  omega
 rw [if_neg e1,if_neg e2] at e;exact h.inj i j (by omega) (by omega) e
end Data
theorem MemX.built {w:World} {base g:Nat} {T:TypeId} {m:M} {enc:List UInt8→List UInt8} {dv nv bv:Value} {rw cr:Nat→Nat} {pg:Nat→Nat→List UInt8} {g4 g5 g6 g7:Int} (hn:0<m.nb)
 (hT:T≠40∧T≠3∧T≠4∧T≠9) (hg:base≤g)
 (hst:w.heap[g]? = some (.cells #[.int .i64 (m.np:Nat),dv,nv,bv,.int .i64 g4,.int .i64 g5,.int .i64 g6,.int .i64 g7] T (0,0)))
 (hd:Data w base dv m.nb m.np rw cr pg) (hp:∀ i p,i<m.nb→p<m.np→pg i p=enc (m.pg i p))
 (hnx:w.ownsRow base 3 1 nv m.nb ((List.range m.nb).map fun i=>.int .i64 (m.nx i:Nat)))
 (hbd:w.ownsRow base 4 1 bv m.nb ((List.range m.nb).map fun i=>.bool (m.bd i))) :
 ∃ L,MemX w base w.heap.size g T L m enc g4 g5 g6 g7:=by
 obtain ⟨db,cd,rfl,hdb,hdr⟩:=qhu hd.own hn;obtain ⟨nk,cn,rfl,hnk,hnr⟩:=qhu hnx hn;obtain ⟨bk,ck,rfl,hbk,hbr⟩:=qhu hbd hn;refine ⟨⟨db,nk,bk,rw,cd,cn,ck,cr⟩,⟨hg,lt_of_heap hst⟩,⟨hdb,hdr.lt⟩,⟨hnk,hnr.lt⟩,⟨hbk,hbr.lt⟩,fun i hi=>⟨(hd.row i hi).1,(hd.row i hi).2.lt⟩,hd.inj,hT,hst,hdr,hnr,hbr,fun i hi => ?_⟩;exact (hd.row i hi).2.congr fun p hpp=>by rw [hp i p hi hpp]
end S1
end Go.Proofs.YtodmdkhdbfbfgaaGreatDoor
