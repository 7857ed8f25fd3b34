/- Lemmas. -/
import Derived.RangeFuncGives
import Derived.RangeFuncSeq
import Derived.Sort.MapsRangeIn
import Derived.RegionIn
import Derived.Shelf.SlIter.Collect
import Derived.Test.YtodmdkhdbfbfgabGreatDoorM26
set_option linter.unusedVariables false
set_option linter.unusedSimpArgs false
set_option maxRecDepth 100000
set_option maxHeartbeats 8000000
namespace Go.Proofs.YtodmdkhdbfbfgabGreatDoor
open Go.RowKit
def qjL {α:Type} (B:Nat) (I:List α→World→Prop) (xs:List α) (W:World):Exit→Act→World→Prop
 | .normal,_,W'=>KeepsFrom B W W'∧I xs W'∧KeepsWalks W W'
 | _,_,_=>False
variable {F:Fence} {n:Nat} {P:Program}
theorem qde {α:Type} {g:Operand} {ps:Array Tmp} {assign body:Code} {Q:Exit→Act→World→Prop} {a:Act} {w:World}
 (hro:F.round=none) (h1:1≤n) {gf:Nat} {lb:Array Value} (hg:a.eval g=.func (.func gf) #[] lb) (hFg:F.fn gf) (eg:∀ args w,(callFunc gf args).run P w=.ok (.enter gf args) w)
 {enc:α→Value} {S:List α→Prop} {N:Nat} (hseq:SeqGives F (n - 1) P gf lb enc S N w) (hps:ps.size=1)
 (I:List α→World→Prop) (hI:OwnFrom w.heap.size I) (hIa:AbidesFrom w.heap.size I) (h0:I [] w) (a₁:α→World→Act) (as1:α→World→World)
 (has1:∀ x W,Below W.heap.size W (as1 x W)) (has2:∀ pre x W,I pre W→I pre (as1 x W)) (has3:∀ x W,KeepsWalks W (as1 x W))
 (hassign:∀ (l:Nat) (x:α) (W:World) (K:Act→World→Prop),K (a₁ x W) (as1 x W) →
   assign.wpIn (F.inRound l) (n - 1 - 1) P (Exit.then K (fun _ _ _=>False)) { tmps:=(ps.zip #[enc x]).foldl (fun t (p,v)=>t.setIfInBounds p v) a.tmps,defers:=[] } W)
 (hbody:∀ (l:Nat) (pre:List α) (x:α) (W V:World),(∀ k,W.heap.size≤k→k<(as1 x W).heap.size→V.heap[k]? = (as1 x W).heap[k]?)→I pre V→pre.length<N→w.heap.size≤W.heap.size→(as1 x W).heap.size≤V.heap.size→body.wpIn (F.inRound l) (n - 1 - 1) P (qjL w.heap.size I (pre++[x]) V) (a₁ x W) V)
 (hdone:∀ (D:Nat) (xs:List α) (W:World),S xs→w.heap.size≤D→I xs W→W.heap[D]? = some (.deferred (some []))→Q .normal { a with defers:={ target:=.collected D,args:=#[] } :: a.defers } W) :
 (Code.rangeFunc g ps assign body).wpIn F n P Q a w:=by
 refine wpIn_rangeFunc fun fn hfn => ?_
 rw [hro];obtain ⟨r,hr⟩:∃ r:LoopState→Option Code→Loop,r=fun st pe=>{ state:=st,pending:=pe,fn,tmps:=a.tmps,params:=ps,assign,body,defers:=w.heap.size }:=⟨_,rfl⟩
 obtain ⟨V,hV⟩:∃ V,V=(w.alloc (.deferred (some []))).alloc (.loop (r .ready none)):=⟨_,rfl⟩;have hL:LoopAt w (r .ready none) V:=by
  rw [hV];refine ⟨?_,(Below.heap_alloc _ _ _ (by simp)).trans (World.alloc_heap_new w _)⟩
  have:=World.alloc_heap_new (w.alloc (.deferred (some []))) (.loop (r .ready none))
  rwa [World.size_alloc] at this
 have hIV:I [] V:=by rw [hV];exact hI.alloc _ (hI.alloc _ h0)
 have hBV:Below w.heap.size w V:=by rw [hV];exact ((Below.refl _ w).alloc (Nat.le_refl _) _).alloc (by simp) _
 have hsV:V.heap.size=w.heap.size+2:=by rw [hV];simp
 refine ⟨w.heap.size+1,[{ target:=.collected w.heap.size,args:=#[] }],V,{ target:=.fn (.func gf) lb,args:=#[.func (.yield (w.heap.size+1)) #[] #[]] },V,gf,
  #[.func (.yield (w.heap.size+1)) #[] #[]]++lb,V,?_,?_,?_,?_,fun _=>h1,?_⟩
 ·rw [hV,hr];exact run_enterLoop_outer _ _ _ _ _
 ·simp only [resolve,hg];simp [go_sem]
 ·intro f' hf';simp [Target.leads] at hf';subst hf';exact hFg
 ·simp [invoke,go_sem,eg]
 refine (hseq (w.heap.size+1) (fun pre W=>I pre W∧LoopAt w (r .ready none) W) V hBV (fun s A B row h hg' hrow=>⟨hIa s A B row h.1 hg' (fun k e=>⟨by have:=(hrow k e).1;omega,(hrow k e).2⟩),?_⟩) ?_ ⟨hIV,hL⟩).mono ?_
 ·refine ⟨(hg'.block _ (Array.getElem?_eq_some_iff.1 h.2.1).1 (fun e=>by have:=(hrow _ e.symm).1;omega)).trans h.2.1,(hg'.block _ (Array.getElem?_eq_some_iff.1 h.2.2).1 (fun e=>by have:=(hrow _ e.symm).1;omega)).trans h.2.2⟩
 ·rintro pre x W ⟨hi,hl⟩ hpre;have hlt:=(Array.getElem?_eq_some_iff.1 hl.1).1;have hy:=run_yield (P:=P) (args:=#[enc x]) hl.1 (by rw [hr];simp [hps]);rw [hr] at hy;have hla:LoopAt w (r .ready none) (as1 x W):=⟨((has1 x W).block _ hlt).trans hl.1,((has1 x W).block _ (by omega)).trans hl.2⟩;have hsz:=(has1 x W).size;refine ⟨fn,_,assign,body,hy,roundIn_of_wpIn hfn (hassign _ x W _ ⟨_,run_beginRound hla.1 (by rw [hr]),?_⟩)⟩;clear hy;have hl2:LoopAt w { r .ready none with state:=.busy } ((as1 x W).putObj (w.heap.size+1) (.loop { r .ready none with state:=.busy })):=hla.turn _;have hb2:Below w.heap.size (as1 x W) ((as1 x W).putObj (w.heap.size+1) (.loop { r .ready none with state:=.busy })):=belowK_b (w:=w) (Nat.le_refl _) (as1 x W) _ _ _ (by omega) hla.1 rfl rfl
  refine wpIn_mono (hbody _ pre x W _ (fun k h1 h2=>World.putObj_heap_other (by omega)) (hI.putObj _ (has2 pre x W hi) (by omega) hla.1 rfl) hpre (by omega) hb2.size) ?_;rintro e a3 W3 hp;cases e with
  | normal =>
    obtain ⟨hk,hi3,hkw⟩:=hp;have hl3:=hl2.kept hk;have he:=run_endRound (P:=P) none hl3.1;rw [hr] at he;refine ⟨_,_,he,rfl,⟨hI.putObj _ hi3 (by omega) hl3.1 rfl,?_⟩,?_⟩
    ·have:=hl3.turn (r .ready none)
     rw [hr] at this ⊢;exact this
    exact (((has3 x W).trans (KeepsWalks.putObj _ hla.1 rfl)).trans hkw).trans (KeepsWalks.putObj _ hl3.1 rfl)
  | ret=>exact hp.elim
  | exit id=>exact hp.elim
  | goto t=>exact hp.elim
  | panic ch=>exact hp.elim
  | outgrown=>exact hp.elim
 rintro e W2 ⟨⟨v,rfl⟩,xs,hS,hi,hl⟩;exact ⟨none,_,by have:=run_endLoop (P:=P) hl.1 (by rw [hr];simp);rw [hr] at this;exact this,hdone _ xs _ hS (Nat.le_refl _) (hI.putObj _ hi (by omega) hl.1 rfl) ((World.putObj_heap_other (by omega)).trans hl.2)⟩
end Go.Proofs.YtodmdkhdbfbfgabGreatDoor
namespace Go.Proofs.YtodmdkhdbfbfgabGreatDoor.S1
open Go.RowKit Pk Go.Shelf
attribute [local go_sem] Oper.semAt_some
def encLb (x:Nat × Nat):Value:=.agg #[.int .i64 (x.1:Nat),.int .u32 (x.2:Nat)]
def okLb (x:Nat × Nat):Prop:=x.1≤1000000∧x.2≤4294967295
structure LbCame {H:Type} (D:DataW H) (left:Lit→Bool) (xs:List (Nat × Nat)):Prop where
 nd:xs.Nodup
 ok:∀ x∈xs,okLb x
 mem:∀ x,okLb x→(x∈xs↔Maps.has D (lk x.1 x.2)=true∧left (lk x.1 x.2)=false)
theorem qg0 {H:Type} {R:Value→Option (DataW H × List MemPlace)} (n:Nat) (hn:1≤n) (Bm b nn:Nat) (D0:DataW H) (w:World) (hBm:Bm<w.heap.size) (hm:w.cell? ⟨Bm,0,none⟩=some (.map (some b))) (hown:w.ownsMap Tryz.prog 74 R b nn D0) (hk:∀ kl,Maps.has D0 kl=true→∃ x,okLb x∧kl=lk x.1 x.2) :
 SeqGives Fence.wide n Tryz.prog 95 #[.pointer (some ⟨Bm,0,none⟩)] encLb (fun xs=>xs.Nodup∧(∀ x∈xs,okLb x)∧∀ x,okLb x→(x∈xs↔Maps.has D0 (lk x.1 x.2)=true)) (Maps.size D0) w:=by
 intro l J W hbW hJ hY h0;have hmW:W.cell? ⟨Bm,0,none⟩=some (.map (some b)):=by rw [hbW.cell (p:=⟨Bm,0,none⟩) hBm];exact hm
 have hownW:W.ownsMap Tryz.prog 74 R b nn D0:=by
  have hl:=hown.lt;obtain ⟨es,clock,h1,h2⟩:=hown;exact ⟨es,clock,(hbW.block b hl).trans h1,h2⟩
 clear hm hown;refine callsIn_of_wp Tryz.func95 rfl trivial ?_ rfl;simp only [Tryz.ntmps95,List.size_toArray,List.length_cons,List.length_nil,Nat.reduceAdd,Nat.reduceSub,Array.replicate_succ,Array.replicate_zero,List.push_toArray,List.append_toArray,List.nil_append,List.cons_append];gi_wp2_with (first | (gi_at_range;refine wpListIn_range_own _ rfl _ 105 rfl 74 78 law90 Tryz.underlying105 _ b nn _ rfl hownW ?_;intro w0 hrg0 hg0 hs0) | gi_in)
 go_frame
 have hsz0:=hs0
 gi_loopw [3] (fun _ wr=>∃ (left:Lit→Bool) (cnt:Nat) (xs:List (Nat × Nat)),wr.ranges Tryz.prog 74 R b W.heap.size nn D0 left cnt∧LbCame D0 left xs∧xs.length+cnt≤Maps.size D0∧J xs wr∧W.heap.size<wr.heap.size)
  (fun _ wr=>wr.rangeLeft b W.heap.size)
 case atStart =>
  exact ⟨_,_,[],hrg0,⟨List.nodup_nil,fun x hx=>(by cases hx),fun x hx=>⟨fun h=>(by cases h),fun h=>(by rw [h.1] at h;cases h.2)⟩⟩,by simp,hJ [] W w0 none h0 hg0 (fun r e=>by cases e),by omega⟩
 case round =>
  obtain ⟨left,cnt,xs,hrg,hC,hlen,hJs,hsw⟩:=hrel;gi_wp2_with (first | (gi_at_next;refine wpListIn_next_ranges _ rfl _ rfl 74 law90 R id id (fun key kl hk=>⟨key,rfl⟩) (fun v _ _=>⟨v,rfl⟩) b W.heap.size nn _ _ _ rfl hrg ?_ ?_) | gi_in)
  ·intro _ hl0;gi_wp2;go_end0
   exact ⟨⟨_,rfl⟩,xs,⟨hC.nd,hC.ok,fun x hx=>⟨fun h=>((hC.mem x hx).1 h).1,fun h=>(hC.mem x hx).2 ⟨h,hl0 _⟩⟩⟩,hJs⟩
  intro x cv kl yd yp w2 cnt2 hkey hlk hv hat hrg2 hlt hg2 hs2 hen;have hhas:Maps.has D0 kl=true:=Maps.has_true_of_atKey hat;obtain ⟨y,hy,rfl⟩:=hk kl hhas;have hx:x=encLb y:=law90.inj (hkey.trans rfl) (key90 hy.1 hy.2);subst hx;have hJ2:J xs w2:=hJ xs wr w2 (some W.heap.size) hJs hg2 (fun r e=>by cases e;exact ⟨Nat.le_refl _,hrg.iter_walk⟩);obtain ⟨W3,hW3⟩:∃ W3,W3=w2.alloc (.cells #[.int .i64 (y.1:Nat),.int .u32 (y.2:Nat)] 74):=⟨_,rfl⟩;obtain ⟨kb,hkb⟩:∃ kb,kb=w2.heap.size:=⟨_,rfl⟩;have hr3:W3.heap[kb]? = some (.cells #[.int .i64 (y.1:Nat),.int .u32 (y.2:Nat)] 74 (0,0)):=by rw [hW3,hkb];exact heap_alloc_new _ _
  have c0:W3.cell? ⟨kb,0,none⟩=some (.int .i64 (y.1:Nat)):=by rw [cell_of_row W3 kb 0 _ 74 (0,0) hr3];rfl
  have c1:W3.cell? ⟨kb,1,none⟩=some (.int .u32 (y.2:Nat)):=by rw [cell_of_row W3 kb 1 _ 74 (0,0) hr3];rfl
  have hJ3:J xs W3:=hJ xs w2 W3 none hJ2 (by rw [hW3];exact World.grownBy_alloc w2 _ none) (fun r e=>by cases e);have hrg3:W3.ranges Tryz.prog 74 R b W.heap.size nn D0 (fun z=>left z && !z.sameKey (lk y.1 y.2)) cnt2:=by rw [hW3];exact hrg2.alloc _
  obtain ⟨fn,tmps,assign,body,hyy,hR⟩:=hY xs y W3 hJ3 (by omega);have hsz3:W.heap.size<W3.heap.size:=by rw [hW3];simp;omega
  have HJ:Hid True:=hidI trivial;have Hrg3:=hidI hrg3;have Hrg:=hidI hrg;have HW3:=hidI hW3;have Hkb:=hidI hkb;have HR:=hidI hR;have Hlk:=hidI hlk;have Hhas:=hidI hhas
  try simp only [id] at hen
  unfold encLb at hen hyy
  try simp only [id]
  unfold encLb;clear hW3 hkb hr3 hat hv hkey hlk hg2 hs2 hrg2 hrg hrg3 hhas hJ2 hJs hR;gi_wp2_with (first | (rw [←HW3.out,←Hkb.out]) | gi_in);refine HR.out.mono ?_;rintro e W4 ⟨rfl,hJ4,hk4⟩;have hrg4:=Hrg3.out.of_walks hk4;have Hrg4:=hidI hrg4;have Hsz4:Hid (W.heap.size<W4.heap.size):=hidI (Nat.lt_of_lt_of_le hsz3 hk4.size);have HJ4:=hidI hJ4;clear hrg4 hJ4 hk4 HR hyy hen c0 c1;gi_wp2;go_roundw
  case rel =>
   have hlk:=Hlk.out;refine ⟨_,cnt2,xs++[y],Hrg4.out,⟨?_,?_,?_⟩,by simp;omega,HJ4.out,Hsz4.out⟩
   ·rw [List.nodup_append];refine ⟨hC.nd,by simp,fun a ha c hc => ?_⟩;simp at hc;subst hc;rintro rfl
    have:=((hC.mem _ hy).1 ha).2
    rw [hlk] at this;cases this
   ·intro z hz;rcases List.mem_append.1 hz with hz | hz
    ·exact hC.ok z hz
    simp at hz;subst hz;exact hy
   intro z hz;by_cases e:z=y
   ·subst e;have hs:Lit.sameKey (lk z.1 z.2) (lk z.1 z.2)=true:=by simp [Lit.sameKey,lk]
    refine ⟨fun _=>⟨Hhas.out,by rw [hs];simp⟩,fun _=>by simp⟩
   have hs:Lit.sameKey (lk z.1 z.2) (lk y.1 y.2)=false:=Maps.sameKey_ne (fun h=>e (by have:=qex hz.1 hz.2 hy.1 hy.2 h;exact Prod.ext this.1 this.2));rw [hs];simp only [Bool.not_false,Bool.and_true];rw [←hC.mem z hz];simp [e]
  case measure=>rw [Hrg4.out.left_eq,Hrg.out.left_eq];exact hlt
end Go.Proofs.YtodmdkhdbfbfgabGreatDoor.S1
namespace Go.Proofs.YtodmdkhdbfbfgabGreatDoor.S1
open Go.RowKit Pk Go.Shelf
attribute [local go_sem] Oper.semAt_some
def lbs (xs:List (Nat × Nat)):List Value:=xs.flatMap fun x=>[.int .i64 (x.1:Nat),.int .u32 (x.2:Nat)]
theorem qhJ (xs:List (Nat × Nat)) (x:Nat × Nat):lbs (xs++[x])=lbs xs++[.int .i64 (x.1:Nat),.int .u32 (x.2:Nat)]:=by simp [lbs]
theorem Tryz.info90:(Tryz.prog.info? 74).map (fun i=>(i.zero,i.size,i.bytes))=some (some (.agg #[.int .i64 0,.int .u32 0]),2,16):=by kernel_rfl
def ApI (w:World) (bx:Nat) (pre:List (Nat × Nat)) (W:World):Prop:=∃ v,W.heap[bx]? = some (.cells #[v] 114 (0,0))∧W.ownsRow (bx+1) 74 2 v pre.length (lbs pre)∧Below bx w W∧(v=.slice none 0 0↔pre=[])
theorem ApI.grown {w:World} {bx:Nat} {pre:List (Nat × Nat)} {W W':World} {row:Option Nat} (h:ApI w bx pre W) (hg:W.grownBy W' row) (hr:∀ r,row=some r→bx+1≤r∧∃ o:Obj,W.heap[r]? = some o∧o.isCells=false) (hw:w.heap.size=bx):ApI w bx pre W':=by
 obtain ⟨v,h1,h2,h3,h4⟩:=h;refine ⟨v,(hg.block bx (lt_of_heap h1) (fun e=>by have:=(hr bx e.symm).1;omega)).trans h1,?_,h3.grown hg (by have:=h3.size;omega) (fun k e=>by have:=(hr k e).1;omega),h4⟩;refine ⟨h2.1,?_⟩;rcases h2.2 with h5 | ⟨g,cap,cur,e,h5,h6,h7⟩
 ·exact .inl h5
 exact .inr ⟨g,cap,cur,e,h5,(hg.block g (lt_of_heap h6) (fun e'=>by
  obtain ⟨_,o,ho,hc⟩:=hr g e'.symm;rw [h6] at ho;cases ho
  cases hc)).trans h6,h7⟩
theorem qcY {o:Obj} (h:o.isWalk=true):o.isCells=false:=by
 cases o<;>first | rfl | cases h
theorem qeE (n:Nat) (hn:2≤n) (g:Nat) (lb:Array Value) (eg:∀ args w,(callFunc g args).run Tryz.prog w=.ok (.enter g args) w) (S:List (Nat × Nat)→Prop) (N:Nat) (hN:N≤100000) (w:World) (hseq:SeqGives Fence.wide (n - 1) Tryz.prog g lb encLb S N w) :
 CallsIn Fence.wide n Tryz.prog 94 #[.slice none 0 0,.func (.func g) #[] lb] w fun e w'=>∃ (v:Value) (xs:List (Nat × Nat)),e=.returned v∧S xs∧w'.ownsRow w.heap.size 74 2 v xs.length (lbs xs)∧(v=.slice none 0 0↔xs=[])∧Below w.heap.size w w':=by
 obtain ⟨i0,hi,hz0,hz1,hz2⟩:=info_parts Tryz.info90;refine callsIn_of_wp_marks Tryz.func94 rfl trivial ?_ rfl;simp only [Tryz.ntmps94,List.size_toArray,List.length_cons,List.length_nil,Nat.reduceAdd,Nat.reduceSub,Array.replicate_succ,Array.replicate_zero,List.push_toArray,List.append_toArray,List.nil_append,List.cons_append];gi_wp2;obtain ⟨W0,hW0⟩:∃ W0,W0=w.alloc (.cells #[.slice none 0 0] 114):=⟨_,rfl⟩;obtain ⟨bx,hbx⟩:∃ bx,bx=w.heap.size:=⟨_,rfl⟩;have hs0:W0.heap.size=bx+1:=by rw [hW0,hbx];simp
 have hv0:W0.heap[bx]? = some (.cells #[.slice none 0 0] 114 (0,0)):=by rw [hW0,hbx];exact heap_alloc_new _ _
 have hb0:Below w.heap.size w W0:=by rw [hW0];exact (Below.refl _ w).alloc (Nat.le_refl _) _
 rw [←hW0]
 try simp only [←hbx]
 refine qde rfl (by omega) (gf:=g) (lb:=lb) rfl trivial eg (hseq.later hb0) rfl (ApI w bx)
  (fun s A C row hs hg hr=>hs.grown hg (fun r e=>⟨by have:=(hr r e).1;omega,(hr r e).2⟩) hbx.symm)
  (fun s A C row hs hg hr=>hs.grown hg (fun r e=>⟨by have:=(hr r e).1;omega,by obtain ⟨_,o,h1,h2⟩:=hr r e;exact ⟨o,h1,qcY h2⟩⟩) hbx.symm)
  ⟨_,hv0,World.ownsRow_nil _ _ _ _,by rw [hbx];exact hb0,by simp⟩
  (fun x W=>{ tmps:=#[.slice none 0 0,.func (.func g) #[] lb,.pointer (some ⟨bx,0,none⟩),undef,.slice none 0 0,.pointer (some ⟨W.heap.size,0,none⟩),.func (.func g) #[] lb,encLb x,undef,undef,undef,undef,undef],defers:=[] })
  (fun x W=>W.alloc (.cells #[.int .i64 (x.1:Nat),.int .u32 (x.2:Nat)] 74))
  (fun x W=>(Below.refl _ W).alloc (Nat.le_refl _) _) ?has2 (fun x W=>KeepsWalks.alloc W _) ?assign ?body ?done
 case has2=>exact fun pre x W h=>h.grown (World.grownBy_alloc W _ none) (fun r e=>by cases e) hbx.symm
 case assign =>
  intro l x W K hK;unfold encLb at hK ⊢;rw [hbx] at hK;gi_wp2;exact hK
 case body =>
  intro l pre x W V hV hI hpre hWs hVs;subst hbx;obtain ⟨v,hv,hrow,hbl,hnil⟩:=hI;have hx0:V.heap[W.heap.size]? = some (.cells #[.int .i64 (x.1:Nat),.int .u32 (x.2:Nat)] 74 (0,0)):=by
   rw [hV _ (Nat.le_refl _) (by simp)];exact heap_alloc_new _ _
  have hbV:w.heap.size<V.heap.size:=lt_of_heap hv;have hWV:W.heap.size<V.heap.size:=lt_of_heap hx0;obtain ⟨hc2,hf2⟩:=cell_of_box_a hv;have hx1:V.cell? ⟨W.heap.size,0,none⟩=some (.int .i64 (x.1:Nat)):=by simp [World.cell?,hx0]
  have hx2:V.cell? ⟨W.heap.size,1,none⟩=some (.int .u32 (x.2:Nat)):=by simp [World.cell?,hx0]
  have ne_of:∀ {j:Nat} {o:Obj},V.heap[j]? = some o→(∀ cur,o≠.cells cur 74 (0,0))→some j≠v.ownBlock:=fun hj hno=>by
   rcases ownsRow_ne_a hrow hj hno with e | e
   ·rw [e];simp
   exact fun e'=>e e'.symm
  gi_wp2_with (first
   | (gi_at_builtin;refine wpListIn_append_own _ rfl _ _ 114 rfl (w.heap.size+1) 74 i0 _ 2 16 Tryz.underlying114 hi hz0 hz1 hz2 rfl (by decide) _ _ _ rfl (hrow.alloc _) ⟨V.heap.size,0,none⟩ 1 1 [.int .i64 (x.1:Nat),.int .u32 (x.2:Nat)] rfl rfl ?_ (by simp [Value.oneCell']) (by simp [maxLen];omega) (by omega) (by simp;omega) ?_
      rotate_left
      intro v' w3 hown' hg3 hnil3;have hv3:w3.heap[w.heap.size]? = some (.cells #[v] 114 (0,0)):=(hg3.block w.heap.size (by simp;omega) (ne_of hv (fun cur e=>by cases e))).trans ((Below.heap_alloc _ _ w.heap.size hbV).trans hv);obtain ⟨hc3,hf3⟩:=cell_of_box_a hv3;obtain ⟨g',cap',cur',rfl,hbase',hgb',hr1,hr2,hr3,hr4⟩:∃ g' cap' cur',v'=.slice (some ⟨g',0,none⟩) (pre.length+1) cap'∧w.heap.size+1≤g'∧w3.heap[g']? = some (.cells cur' 74 (0,0))∧pre.length+1≤cap'∧cap'≤maxLen∧cur'.size=cap'*2∧cur'.toList.take ((pre.length+1)*2)=lbs pre++[.int .i64 (x.1:Nat),.int .u32 (x.2:Nat)]:=by
       rcases hown'.2 with ⟨_,h0⟩ | h'
       ·exact absurd h0 (by omega)
       exact h'
      go_frame)
   | gi_round_op_a)
  ·have hg3':(V.alloc (.cells #[.int .i64 (x.1:Nat),.int .u32 (x.2:Nat)] 74)).grownBy w3 v.ownBlock:=hg3;obtain ⟨w4,hw4⟩:∃ w4,w3.setCell ⟨w.heap.size,0,none⟩ (.slice (some ⟨g',0,none⟩) (pre.length+1) cap')=w4:=⟨_,rfl⟩;rw [hw4];have hg4:w3.grownBy w4 (some w.heap.size):=by rw [←hw4];exact grownBy_setCell0_a _ _ _
   have hv4:w4.heap[w.heap.size]? = some (.cells #[.slice (some ⟨g',0,none⟩) (pre.length+1) cap'] 114 (0,0)):=by rw [←hw4];exact heap_setCell_box_a _ hv3
   have hrow4:=hown'.kept hg4 (ownsRow_ne_a hown' hv3 (fun cur e=>by cases e));have hb3:Below w.heap.size w w3:=(hbl.alloc hbl.size _).grown hg3' (by have:=hbl.size;simp;omega) (fun k e=>by have:=(hrow.lt k e).1;omega);have hb4:Below w.heap.size w w4:=hb3.grown hg4 hb3.size (fun k e=>by cases e;omega);refine ⟨?_,⟨_,hv4,by rw [qhJ];simpa using hrow4,hb4,by simp⟩,((KeepsWalks.alloc _ _).trans (KeepsWalks.of_grownBy hg3' (ownsRow_not_walk_a (hrow.alloc _)))).trans (by rw [←hw4];exact KeepsWalks.setCell _ _ _)⟩;refine ((KeepsOthers.alloc _ (.cells #[.int .i64 (x.1:Nat),.int .u32 (x.2:Nat)] 74)).from _).trans (KeepsFrom.trans (?_:KeepsFrom _ _ w3) (KeepsFrom.of_grownBy hg4 (fun j e=>by cases e;omega)));exact ⟨hg3'.size,fun k o hB hk ho=>(hg3'.block k (lt_of_heap hk) (fun e=>by
    rcases hrow.2 with ⟨e',_⟩ | ⟨q,cap,cur,e',_,hq,_⟩
    ·rw [e'] at e;cases e
    rw [e'] at e;simp [Value.ownBlock] at e;subst e;rw [Below.heap_alloc _ _ _ (lt_of_heap hq),hq] at hk;cases hk
    cases ho)).trans hk⟩
  intro j u hj
  have:=heap_alloc_new V (.cells #[.int .i64 (x.1:Nat),.int .u32 (x.2:Nat)] 74)
  rcases j with _ | _ | j
  ·simp at hj;subst hj;unfold World.cell? Addr.add;simp only [Nat.reduceAdd,Nat.reduceEqDiff,if_true,if_false,this,Nat.zero_add,Nat.one_ne_zero];rfl
  ·simp at hj;subst hj;unfold World.cell? Addr.add;simp only [Nat.reduceAdd,Nat.reduceEqDiff,if_true,if_false,this,Nat.zero_add,Nat.one_ne_zero];rfl
  simp at hj
 case done =>
  intro D xs W hS hD hI hK;subst hbx;obtain ⟨v,hv,hrow,hbl,hnil⟩:=hI;obtain ⟨hc3,hf3⟩:=cell_of_box_a hv;gi_wp2;refine ⟨by simp,.inl ⟨_,_,rfl,run_takeDeferred hK,?_⟩⟩;exact ⟨_,results_tmp rfl _ _ _,v,xs,rfl,hS,(ownsRow_base_a hrow (by omega)).kept (grownBy_putObj_a _ _ _) (ownsRow_ne_a hrow hK (fun cur e=>by cases e)),hnil,hbl.grown (grownBy_putObj_a _ _ _) hbl.size (fun k e=>by cases e;omega)⟩
theorem qgY (n:Nat) (hn:3≤n) (g:Nat) (lb:Array Value) (eg:∀ args w,(callFunc g args).run Tryz.prog w=.ok (.enter g args) w) (S:List (Nat × Nat)→Prop) (N:Nat) (hN:N≤100000) (w:World) (hseq:SeqGives Fence.wide (n - 1 - 1) Tryz.prog g lb encLb S N w) :
 CallsIn Fence.wide n Tryz.prog 63 #[.func (.func g) #[] lb] w fun e w'=>∃ (v:Value) (xs:List (Nat × Nat)),e=.returned v∧S xs∧w'.ownsRow w.heap.size 74 2 v xs.length (lbs xs)∧(v=.slice none 0 0↔xs=[])∧Below w.heap.size w w':=by
 refine callsIn_of_wp Tryz.func63 rfl trivial ?_ rfl;simp only [Tryz.ntmps63,List.size_toArray,List.length_cons,List.length_nil,Nat.reduceAdd,Nat.reduceSub,Array.replicate_succ,Array.replicate_zero,List.push_toArray,List.append_toArray,List.nil_append,List.cons_append];gi_wp2_with fail;refine ⟨trivial,fun _=>by omega,(qeE (n - 1) (by omega) g lb eg S N hN _ hseq).mono ?_⟩;rintro e w' ⟨v,xs,rfl,hS,hrow,hnil,hb⟩;gi_wp2;go_ret
 exact ⟨v,xs,rfl,hS,hrow,hnil,hb⟩
end Go.Proofs.YtodmdkhdbfbfgabGreatDoor.S1
namespace Go.Proofs.YtodmdkhdbfbfgabGreatDoor
open Go.RowKit
def Keep (S:Nat→Prop) (W W':World):Prop:=∀ k,S k→W'.heap[k]? = W.heap[k]?
theorem Keep.trans {S:Nat→Prop} {A B C:World} (h:Keep S A B) (k:Keep S B C):Keep S A C:=fun i hi=>(k i hi).trans (h i hi)
theorem Keep.of_below {S:Nat→Prop} {A B:World} {n:Nat} (h:Below n A B) (hS:∀ k,S k→k<n):Keep S A B:=fun i hi=>h.block i (hS i hi)
def SeqRow {α:Type} (F:Fence) (n:Nat) (P:Program) (g:Nat) (lb:Array Value) (encs:α→Array Value) (xs:List α) (n₀:Nat) (S:Nat→Prop) (w:World):Prop:=
 ∀ (l:Nat) (J:List α→World→Prop) (W:World),Below n₀ w W →
  (∀ pre x W1,J pre W1→pre++[x] <+: xs→YieldAt F (n - 1) P l (encs x) W1 fun e W'=>e=.returned (.bool true)∧J (pre++[x]) W'∧Keep S W1 W') →
  J [] W→CallsIn F n P g (#[.func (.yield l) #[] #[]]++lb) W fun e W'=>(∃ v,e=.returned v)∧J xs W'
theorem SeqRow.later {α:Type} {F:Fence} {n:Nat} {P:Program} {g:Nat} {lb:Array Value} {encs:α→Array Value} {xs:List α} {n₀:Nat} {S:Nat→Prop} {w w':World} (h:SeqRow F n P g lb encs xs n₀ S w) (hb:Below n₀ w w'):SeqRow F n P g lb encs xs n₀ S w':=
 fun l J W hW=>h l J W (hb.trans hW)
def qkc {α:Type} (B:Nat) (S:Nat→Prop) (I:List α→World→Prop) (xs:List α) (W:World):Exit→Act→World→Prop
 | .normal,_,W'=>KeepsFrom B W W'∧Keep S W W'∧I xs W'
 | _,_,_=>False
variable {F:Fence} {n:Nat} {P:Program}
theorem qcl {α:Type} {g:Operand} {ps:Array Tmp} {assign body:Code} {Q:Exit→Act→World→Prop} {a:Act} {w:World}
 (hro:F.round=none) (h1:1≤n) {gf:Nat} {lb:Array Value} (hg:a.eval g=.func (.func gf) #[] lb) (hFg:F.fn gf) (eg:∀ args w,(callFunc gf args).run P w=.ok (.enter gf args) w)
 {encs:α→Array Value} {xs:List α} {n₀:Nat} {S:Nat→Prop} (hseq:SeqRow F (n - 1) P gf lb encs xs n₀ S w) (hn₀:n₀≤w.heap.size) (hS:∀ k,S k→k<w.heap.size) (hps:∀ x,ps.size=(encs x).size)
 (I:List α→World→Prop) (hI:OwnFrom w.heap.size I) (h0:I [] w) (a₁:α→World→Act) (as1:α→World→World)
 (has1:∀ x W,Below W.heap.size W (as1 x W)) (has2:∀ pre x W,I pre W→I pre (as1 x W))
 (hassign:∀ (l:Nat) (x:α) (W:World) (K:Act→World→Prop),K (a₁ x W) (as1 x W) →
   assign.wpIn (F.inRound l) (n - 1 - 1) P (Exit.then K (fun _ _ _=>False)) { tmps:=(ps.zip (encs x)).foldl (fun t (p,v)=>t.setIfInBounds p v) a.tmps,defers:=[] } W)
 (hbody:∀ (l:Nat) (pre:List α) (x:α) (W V:World),(∀ k,W.heap.size≤k→k<(as1 x W).heap.size→V.heap[k]? = (as1 x W).heap[k]?)→I pre V→pre++[x] <+: xs→w.heap.size≤W.heap.size→(as1 x W).heap.size≤V.heap.size→body.wpIn (F.inRound l) (n - 1 - 1) P (qkc w.heap.size S I (pre++[x]) V) (a₁ x W) V)
 (hdone:∀ (D:Nat) (W:World),w.heap.size≤D→I xs W→W.heap[D]? = some (.deferred (some []))→Q .normal { a with defers:={ target:=.collected D,args:=#[] } :: a.defers } W) :
 (Code.rangeFunc g ps assign body).wpIn F n P Q a w:=by
 refine wpIn_rangeFunc fun fn hfn => ?_
 rw [hro];obtain ⟨r,hr⟩:∃ r:LoopState→Option Code→Loop,r=fun st pe=>{ state:=st,pending:=pe,fn,tmps:=a.tmps,params:=ps,assign,body,defers:=w.heap.size }:=⟨_,rfl⟩
 obtain ⟨V,hV⟩:∃ V,V=(w.alloc (.deferred (some []))).alloc (.loop (r .ready none)):=⟨_,rfl⟩;have hL:LoopAt w (r .ready none) V:=by
  rw [hV];refine ⟨?_,(Below.heap_alloc _ _ _ (by simp)).trans (World.alloc_heap_new w _)⟩
  have:=World.alloc_heap_new (w.alloc (.deferred (some []))) (.loop (r .ready none))
  rwa [World.size_alloc] at this
 have hIV:I [] V:=by rw [hV];exact hI.alloc _ (hI.alloc _ h0)
 have hBV:Below w.heap.size w V:=by rw [hV];exact ((Below.refl _ w).alloc (Nat.le_refl _) _).alloc (by simp) _
 have hsV:V.heap.size=w.heap.size+2:=by rw [hV];simp
 refine ⟨w.heap.size+1,[{ target:=.collected w.heap.size,args:=#[] }],V,{ target:=.fn (.func gf) lb,args:=#[.func (.yield (w.heap.size+1)) #[] #[]] },V,gf,
  #[.func (.yield (w.heap.size+1)) #[] #[]]++lb,V,?_,?_,?_,?_,fun _=>h1,?_⟩
 ·rw [hV,hr];exact run_enterLoop_outer _ _ _ _ _
 ·simp only [resolve,hg];simp [go_sem]
 ·intro f' hf';simp [Target.leads] at hf';subst hf';exact hFg
 ·simp [invoke,go_sem,eg]
 refine (hseq (w.heap.size+1) (fun pre W=>I pre W∧LoopAt w (r .ready none) W) V (hBV.mono hn₀) ?_ ⟨hIV,hL⟩).mono ?_
 ·rintro pre x W ⟨hi,hl⟩ hpre;have hlt:=(Array.getElem?_eq_some_iff.1 hl.1).1;have hy:=run_yield (P:=P) (args:=encs x) hl.1 (by rw [hr];simp [hps x]);rw [hr] at hy;have hla:LoopAt w (r .ready none) (as1 x W):=⟨((has1 x W).block _ hlt).trans hl.1,((has1 x W).block _ (by omega)).trans hl.2⟩;have hsz:=(has1 x W).size;refine ⟨fn,_,assign,body,hy,roundIn_of_wpIn hfn (hassign _ x W _ ⟨_,run_beginRound hla.1 (by rw [hr]),?_⟩)⟩;clear hy;have hl2:LoopAt w { r .ready none with state:=.busy } ((as1 x W).putObj (w.heap.size+1) (.loop { r .ready none with state:=.busy })):=hla.turn _;have hb2:Below w.heap.size (as1 x W) ((as1 x W).putObj (w.heap.size+1) (.loop { r .ready none with state:=.busy })):=belowK_b (w:=w) (Nat.le_refl _) (as1 x W) _ _ _ (by omega) hla.1 rfl rfl
  refine wpIn_mono (hbody _ pre x W _ (fun k h1 h2=>World.putObj_heap_other (by omega)) (hI.putObj _ (has2 pre x W hi) (by omega) hla.1 rfl) hpre (by omega) hb2.size) ?_;rintro e a3 W3 hp;cases e with
  | normal =>
    obtain ⟨hk,hb,hi3⟩:=hp;have hl3:=hl2.kept hk;have he:=run_endRound (P:=P) none hl3.1;rw [hr] at he;refine ⟨_,_,he,rfl,⟨hI.putObj _ hi3 (by omega) hl3.1 rfl,?_⟩,?_⟩
    ·have:=hl3.turn (r .ready none)
     rw [hr] at this ⊢;exact this
    have hb3:=belowK_b (w:=w) (Nat.le_refl _) W3 (w.heap.size+1) _ (.loop (r .ready none)) (by omega) hl3.1 rfl rfl;rw [hr] at hb3;exact (((Keep.of_below ((has1 x W).mono (by omega)) hS).trans (Keep.of_below hb2 hS)).trans hb).trans (Keep.of_below hb3 hS)
  | ret=>exact hp.elim
  | exit id=>exact hp.elim
  | goto t=>exact hp.elim
  | panic ch=>exact hp.elim
  | outgrown=>exact hp.elim
 rintro e W2 ⟨⟨v,rfl⟩,hi,hl⟩;exact ⟨none,_,by have:=run_endLoop (P:=P) hl.1 (by rw [hr];simp);rw [hr] at this;exact this,hdone _ _ (Nat.le_refl _) (hI.putObj _ hi (by omega) hl.1 rfl) ((World.putObj_heap_other (by omega)).trans hl.2)⟩
end Go.Proofs.YtodmdkhdbfbfgabGreatDoor
namespace Go.Proofs.YtodmdkhdbfbfgabGreatDoor.S1
open Go.RowKit Pk Go.Shelf
attribute [local go_sem] Oper.semAt_some
def rec0:Value:=.agg #[.string ⟨#[]⟩,.int .i64 0,.int .u32 0,.map none,.int .i64 0]
theorem zero94 (w:World):(zeroValue 78).run Tryz.prog w=.ok rec0 w:=by kernel_rfl
theorem qnJ (w:World):(Instr.makeMap 105 none).run Tryz.prog w=.ok (.map (some w.heap.size)) (w.alloc (.map #[] 0)):=by
 simp [Instr.makeMap,Result.andThen]
theorem qke (q:Option Nat) (w:World) :
 Calls Tryz.prog 64 #[.map q] w fun e w'=>e=.returned (.func (.func 95) #[] #[.pointer (some ⟨w.heap.size,0,none⟩)])∧w'=w.alloc (.cells #[.map q] 105):=by
 go_enter Tryz.func64,Tryz.ntmps64
 go_wp2;go_ret
 exact ⟨rfl,rfl⟩
theorem qfe (p:Option Addr) (k c:Nat) (w:World) :
 Calls Tryz.prog 61 #[.slice p k c] w fun e w'=>e=.returned (.func (.func 90) #[] #[.pointer (some ⟨w.heap.size,0,none⟩)])∧w'=w.alloc (.cells #[.slice p k c] 114):=by
 go_enter Tryz.func61,Tryz.ntmps61
 go_wp2;go_ret
 exact ⟨rfl,rfl⟩
def encIL (x:Nat × (Nat × Nat)):Array Value:=#[.int .i64 (x.1:Nat),.agg #[.int .i64 (x.2.1:Nat),.int .u32 (x.2.2:Nat)]]
end Go.Proofs.YtodmdkhdbfbfgabGreatDoor.S1
