/- Lemmas. -/
import Derived.RangeFuncNested
import Derived.RangeFuncBound
import Derived.RangeFuncCalls
import Derived.RangeFuncLeaves
import Derived.Shelf.Abstract
import Derived.OwnWalkIn
import Derived.TacticsInMore
import Derived.LoopNIn
import Derived.LoopIn
import Derived.Shelf.Strings.Count
import Derived.Test.YtodmdkhdbfbfgabGreatDoorM15
import Derived.Test.YtodmdkhdbfbfgabGreatDoorM16
set_option linter.unusedVariables false
set_option linter.unusedSimpArgs false
set_option maxRecDepth 100000
set_option maxHeartbeats 8000000
namespace Go.Proofs.YtodmdkhdbfbfgabGreatDoor
open Go.RowKit Go.Nt Go.Shelf
attribute [local go_sem] Oper.semAt_some
theorem idxB47 (p:Bs):((47:UInt8)∉p∧Lib.indexByte p 47 = -1)∨∃ c r,p=c++47 :: r∧(47:UInt8)∉c∧Lib.indexByte p 47=(c.length:Int):=by
 have:=idx47 p
 rw [Lib.index_one] at this;exact this
theorem qfm (s:ByteArray) (w:World):Calls Tryz.prog 170 #[.string s,.string ⟨#[47]⟩] w fun e w'=>e=.returned (.int .i64 (Lib.indexByte s.data.toList 47))∧w'=w:=
 Any.strings_Index_one ({ Tryz.lays146 with }:Lays.n143 Tryz.prog Tryz.lays146_ren) s 47 w
theorem qb6 (s:ByteArray) (w:World):Calls Tryz.prog 142 #[.string s,.string ⟨#[47]⟩] w fun e w'=>e=.returned (.int .i64 (Lib.countByte s.data.toList 47))∧w'=w:=
 Any.strings_Count_one ({ Tryz.lays146 with }:Lays.n138 Tryz.prog Tryz.lays146_ren) s 47 w
theorem qk1 (p:Bs):(split p).length=p.count 47+1:=by
 induction p with
 | nil=>rfl
 | cons c cs ih =>
   obtain ⟨n,ns,e⟩:=qaz cs;by_cases h:c=47
   ·subst h;rw [qal];simp [ih]
   rw [qam h e];rw [e] at ih;simp at ih;simp [h,ih]
def boxLen (b:Nat) (w:World):Nat:=match w.cell? ⟨b,0,none⟩ with | some (.string s)=>s.size | _=>0
theorem qfS (n b0 n₀:Nat) (p:Bs) (w:World) (hp:p.length≤1048576) (hn0:b0+2<n₀) (hsz:n₀≤w.heap.size)
 (h0:w.heap[b0]? = some (.cells #[.string (txt p)] 9 (0,0))) (h1:w.heap[b0+1]? = some (.cells #[.string ⟨#[47]⟩] 9 (0,0))) (h2:w.heap[b0+2]? = some (.cells #[.int .i64 0] 3 (0,0))) :
 SeqBox Fence.wide n Tryz.prog 179 #[.pointer (some ⟨b0+1,0,none⟩),.pointer (some ⟨b0,0,none⟩),.pointer (some ⟨b0+2,0,none⟩)] (fun x:Bs=>.string (txt x)) n₀ b0 (split p) w:=by
 intro l J Jx W hW hJ hJx hY hJ0;refine callsIn_of_wp Tryz.func179 rfl trivial ?_ rfl;simp only [Tryz.ntmps179,List.size_toArray,List.length_cons,List.length_nil,Nat.reduceAdd,Nat.reduceSub,Array.replicate_succ,Array.replicate_zero,List.push_toArray,List.append_toArray,List.nil_append,List.cons_append];have e0:W.heap[b0]? = some (.cells #[.string (txt p)] 9 (0,0)):=(hW.block b0 (by omega)).trans h0;have e1:W.heap[b0+1]? = some (.cells #[.string ⟨#[47]⟩] 9 (0,0)):=(hW.block (b0+1) (by omega)).trans h1;have e2:W.heap[b0+2]? = some (.cells #[.int .i64 0] 3 (0,0)):=(hW.block (b0+2) (by omega)).trans h2;have c1:W.cell? ⟨b0+1,0,none⟩=some (.string ⟨#[47]⟩):=by rw [cell_of_row W (b0+1) 0 _ 9 (0,0) e1];rfl
 gi_wp2;clear c1
 gi_loopw [] (fun wr=>∃ (pre:List Bs) (rest:Bs),Hid (split p=pre++split rest)∧rest.length≤1048576∧Hid (wr.heap[b0]? = some (.cells #[.string (txt rest)] 9 (0,0)))∧Hid (wr.heap[b0+1]? = some (.cells #[.string ⟨#[47]⟩] 9 (0,0)))∧Hid (wr.heap[b0+2]? = some (.cells #[.int .i64 0] 3 (0,0)))∧Hid (J pre wr)) (fun wr=>boxLen b0 wr)
 case atStart=>exact ⟨[],p,hidI rfl,hp,hidI e0,hidI e1,hidI e2,hidI hJ0⟩
 case round =>
  obtain ⟨pre,rest,Hs,hr,H0,H1,H2,HJ⟩:=hrel;have c0:wr.cell? ⟨b0,0,none⟩=some (.string (txt rest)):=by rw [cell_of_row wr b0 0 _ 9 (0,0) H0.out];rfl
  have c1:wr.cell? ⟨b0+1,0,none⟩=some (.string ⟨#[47]⟩):=by rw [cell_of_row wr (b0+1) 0 _ 9 (0,0) H1.out];rfl
  have c2:wr.cell? ⟨b0+2,0,none⟩=some (.int .i64 0):=by rw [cell_of_row wr (b0+2) 0 _ 3 (0,0) H2.out];rfl
  rcases idxB47 rest with ⟨h47,hix⟩ | ⟨a,r,hrest,h47,hix⟩
  ·have HI:Hid (Calls Tryz.prog 170 #[.string (txt rest),.string ⟨#[47]⟩] wr fun e w'=>e=.returned (.int .i64 (-1))∧w'=wr):=hidI (by have:=qfm (txt rest) wr;rw [qhM,hix] at this;exact this);obtain ⟨fn,tmps,assign,body,hy,hR⟩:=hY pre rest wr HJ.out (by rw [Hs.out,qbK h47];exact List.prefix_refl _);have HR:=hidI hR;have Hn:=hidI (qbK h47);clear hix hR h47;gi_wp2;refine ⟨trivial,fun h=>(by cases h),(callsIn_wide.2 HI.out).mono ?_⟩;rintro e w' ⟨rfl,hw⟩;have hw':=hw.symm;subst hw';clear hw;gi_wp2;refine ⟨fun h=>(by cases h),HR.out.mono ?_⟩;rintro e W3 (⟨rfl,hJ3,hk3⟩ | ⟨rfl,hJx3⟩)
   ·gi_wp2;go_end0
    refine ⟨⟨_,rfl⟩,.inl ?_⟩;rw [Hs.out,Hn.out];exact hJ3
   gi_wp2;go_end0
   exact ⟨⟨_,rfl⟩,.inr ⟨_,by rw [Hs.out,Hn.out];exact List.prefix_refl _,hJx3⟩⟩
  subst hrest;have HI:Hid (Calls Tryz.prog 170 #[.string (txt (a++47 :: r)),.string ⟨#[47]⟩] wr fun e w'=>e=.returned (.int .i64 a.length)∧w'=wr):=hidI (by have:=qfm (txt (a++47 :: r)) wr;rw [qhM,hix] at this;exact this);have hsp:=qdQ (r:=r) h47;have hpre:pre++[a] <+: split p:=by rw [Hs.out,hsp];exact ⟨split r,by simp⟩
  obtain ⟨fn,tmps,assign,body,hy,hR⟩:=hY pre a wr HJ.out hpre;have HR:=hidI hR;have Hsp:Hid (split p=(pre++[a])++split r):=hidI (by rw [Hs.out,hsp];simp);have Hpre:=hidI hpre;obtain ⟨X,hX⟩:∃ X,X=txt (a++47 :: r):=⟨_,rfl⟩;have Sx:X.size=a.length+1+r.length:=by rw [hX,qaa];simp;omega
  have hxa:X.extract 0 a.length=txt a:=by rw [hX,qah];simp
  have hxr:X.extract (a.length+1) X.size=txt r:=by
   rw [Sx,hX,qah]
   congr 1
   rw [←List.drop_drop];simp
  rw [←hX] at HI c0 H0;obtain ⟨k,hk⟩:∃ k,k=a.length:=⟨_,rfl⟩;have Hk:=hidI hk;rw [←hk] at HI hxa hxr Sx;rw [←hxa] at hy;have Hxr:=hidI hxr;have hrl:r.length≤1048576:=by simp at hr;omega
  have hXl:X.size≤1048576:=by simp at hr;omega
  have hkX:k+1≤X.size:=by omega
  clear hix hR h47 hsp hpre hX hxa hxr hk Hs hr;gi_wp2;refine ⟨trivial,fun h=>(by cases h),(callsIn_wide.2 HI.out).mono ?_⟩;rintro e w' ⟨rfl,hw⟩;have hw':=hw.symm;subst hw';clear hw;gi_wp2;refine ⟨fun h=>(by cases h),HR.out.mono ?_⟩;rintro e W3 (⟨rfl,hJ3,hk3⟩ | ⟨rfl,hJx3⟩)
  ·have r0:W3.heap[b0]? = some (.cells #[.string X] 9 (0,0)):=(hk3.block b0 (by omega)).trans H0.out;have r1:W3.heap[b0+1]? = some (.cells #[.string ⟨#[47]⟩] 9 (0,0)):=(hk3.block (b0+1) (by omega)).trans H1.out;have R2:Hid (W3.heap[b0+2]? = some (.cells #[.int .i64 0] 3 (0,0))):=hidI ((hk3.block (b0+2) (by omega)).trans H2.out);have c0':W3.cell? ⟨b0,0,none⟩=some (.string X):=by rw [cell_of_row W3 b0 0 _ 9 (0,0) r0];rfl
   have c1':W3.cell? ⟨b0+1,0,none⟩=some (.string ⟨#[47]⟩):=by rw [cell_of_row W3 (b0+1) 0 _ 9 (0,0) r1];rfl
   have f0':W3.frozen? ⟨b0,0,none⟩=false:=frozen_of_row W3 b0 0 _ 9 r0;have R0:=hidI r0;have R1:=hidI r1;have HJ3:=hidI hJ3;clear hJ3 hk3 hy HR HI r0 r1;gi_wp2;have hx:X.extract (k+1) (k+1+r.length)=txt r:=by have:=Hxr.out;rw [Sx] at this;exact this
   rw [hx];have hs0:=heap_setCell_same W3 b0 0 #[.string X] 9 (.string (txt r)) R0.out;refine ⟨⟨pre++[a],r,Hsp,hrl,hidI hs0,hidI ((Below.heap_setCell W3 ⟨b0,0,none⟩ _ (b0+1) (by simp)).trans R1.out),hidI ((Below.heap_setCell W3 ⟨b0,0,none⟩ _ (b0+2) (by simp)).trans R2.out),hidI (hJ.set _ _ _ HJ3.out)⟩,?_⟩;unfold boxLen;rw [c0,cell_of_row _ b0 0 _ 9 (0,0) hs0];show (txt r).size<X.size;rw [qaa];omega
  gi_wp2;refine bodyPost_ret (results_none rfl _ _ _) rfl ?_;exact ⟨⟨_,rfl⟩,.inr ⟨_,Hpre.out,hJx3⟩⟩
end Go.Proofs.YtodmdkhdbfbfgabGreatDoor
namespace Go.Proofs.YtodmdkhdbfbfgabGreatDoor
open Go.RowKit Go.Nt
theorem below_drewN {B:Nat} {w W:World} (h:Below B w W) (q:Nat):Below B w (W.drewN q):=by
 induction q with
 | zero=>exact h
 | succ q ih=>exact ih.drew
def boxed (w:World) (x:It):World:=w.alloc (.cells #[.string (txt x.path),.bool x.dir,.string (txt x.data),.int .i64 x.mode,.int .i64 x.time] 53)
theorem qbJ (w:World) (x:It):ItAt (boxed w x) w.heap.size 0 x:=by
 refine ItAt.of_cells fun j u hu => ?_
 rw [cell_of_row (boxed w x) w.heap.size (0+j) _ 53 (0,0) (heap_alloc_new _ _)];simpa [itl] using hu
end Go.Proofs.YtodmdkhdbfbfgabGreatDoor
namespace Go.Proofs.YtodmdkhdbfbfgabGreatDoor
open Go.RowKit Go.Nt Go.Shelf
attribute [local go_sem] Oper.semAt_some
def ML (w:World):Prop:=∃ m:Int,w.cell? ⟨0,0,none⟩=some (.int .i64 m)
theorem ML.lt {w:World} (h:ML w):0<w.heap.size:=by obtain ⟨m,hm⟩:=h;exact World.block_lt_of_cell? w _ hm
theorem ML.below {w w':World} {B:Nat} (h:ML w) (hb:Below B w w') (hB:0<B):ML w':=by
 obtain ⟨m,hm⟩:=h;exact ⟨m,(hb.cell (p:=⟨0,0,none⟩) hB).trans hm⟩
theorem qlM (p:Bs) (w:World) (hp:p.length≤1048576):Calls Tryz.prog 115 #[.string (txt p)] w fun e w'=>e=.returned (.int .i64 ((split p).length:Nat))∧w'=w:=by
 have HC:=hidI (qb6 (txt p) w);have hc:Lib.countByte (txt p).data.toList 47=p.count 47:=rfl;rw [hc] at HC;have hl:p.count 47≤p.length:=List.count_le_length;have Hs:=hidI (qk1 p);obtain ⟨k,hk⟩:∃ k,k=p.count 47:=⟨_,rfl⟩;rw [←hk] at HC Hs hl;clear hk hc;go_enter Tryz.func115,Tryz.ntmps115
 go_wp2_with (go_at_call 142;refine HC.out.mono ?_;rintro e w' ⟨rfl,hw⟩;have hw':=hw.symm;subst hw';clear hw);go_ret
 rw [Hs.out];exact ⟨by go_num,rfl⟩
theorem qgf (s:ByteArray) (w:World):Calls Tryz.prog 143 #[.string s,.string ⟨#[47]⟩,.int .i64 0] w fun e w'=>e=.returned (.func (.func 179) #[] #[.pointer (some ⟨w.heap.size+1,0,none⟩),.pointer (some ⟨w.heap.size,0,none⟩),.pointer (some ⟨w.heap.size+2,0,none⟩)])∧w'=((w.alloc (.cells #[.string s] 9)).alloc (.cells #[.string ⟨#[47]⟩] 9)).alloc (.cells #[.int .i64 0] 3):=by
 go_enter Tryz.func143,Tryz.ntmps143
 go_wp2;go_ret
 exact ⟨rfl,rfl⟩
theorem qfO (s:ByteArray) (w:World):Calls Tryz.prog 116 #[.string s,.string ⟨#[47]⟩] w fun e w'=>e=.returned (.func (.func 179) #[] #[.pointer (some ⟨w.heap.size+1,0,none⟩),.pointer (some ⟨w.heap.size,0,none⟩),.pointer (some ⟨w.heap.size+2,0,none⟩)])∧w'=((w.alloc (.cells #[.string s] 9)).alloc (.cells #[.string ⟨#[47]⟩] 9)).alloc (.cells #[.int .i64 0] 3):=by
 go_enter Tryz.func116,Tryz.ntmps116
 go_wp2_with (go_at_call 143;refine (qgf _ _).mono ?_;rintro e w' ⟨rfl,hw⟩;have hw':=hw.symm;subst hw';clear hw);go_ret
 exact ⟨rfl,rfl⟩
theorem qd7 {p:Bs} (h6:(split p).length≤6):okPath p=(split p).all okName:=by
 unfold okPath;simp [h6]
theorem qet (p:Bs) (w:World) (hm:ML w) (hp:p.length≤1048576) :
 Calls Tryz.prog 80 #[.string (txt p)] w fun e w'=>Below w.heap.size w w'∧e=.returned (.bool (okPath p)):=by
 refine (callsIn_wide (n:=5)).1 ?_;refine callsIn_of_wp_marks Tryz.func80 rfl trivial ?_ rfl;simp only [Tryz.ntmps80,List.size_toArray,List.length_cons,List.length_nil,Nat.reduceAdd,Nat.reduceSub,Array.replicate_succ,Array.replicate_zero,List.push_toArray,List.append_toArray,List.nil_append,List.cons_append];have HD:=hidI (fun W=>qlM p W hp);gi_wp2;refine ⟨trivial,(callsIn_wide.2 (HD.out _)).mono ?_⟩;rintro e w' ⟨rfl,hw⟩;have hw':=hw.symm;subst hw';clear hw;obtain ⟨L,hL⟩:∃ L,L=(split p).length:=⟨_,rfl⟩;have HL:=hidI hL;rw [←hL];clear hL;by_cases h6:L≤6
 ·gi_wp2;refine ⟨trivial,(callsIn_wide.2 (qfO _ _)).mono ?_⟩;rintro e w' ⟨rfl,hw⟩;have hw':=hw.symm;subst hw';clear hw;gi_wp2;obtain ⟨W0,hW0⟩:∃ W0,W0=(((w.alloc (.cells #[.bool false] 4)).alloc (.cells #[.string (txt p)] 9)).alloc (.cells #[.string ⟨#[47]⟩] 9)).alloc (.cells #[.int .i64 0] 3):=⟨_,rfl⟩;have hs0:W0.heap.size=w.heap.size+4:=by rw [hW0];simp
  have b0:W0.heap[w.heap.size]? = some (.cells #[.bool false] 4 (0,0)):=by
   rw [hW0];exact (((Below.heap_alloc _ _ _ (by simp;omega)).trans (Below.heap_alloc _ _ _ (by simp;omega))).trans (Below.heap_alloc _ _ _ (by simp))).trans (World.alloc_heap_new w _)
  have b1:W0.heap[w.heap.size+1]? = some (.cells #[.string (txt p)] 9 (0,0)):=by
   rw [hW0];refine ((Below.heap_alloc _ _ _ (by simp)).trans (Below.heap_alloc _ _ _ (by simp))).trans ?_
   have:=World.alloc_heap_new (w.alloc (.cells #[.bool false] 4)) (.cells #[.string (txt p)] 9);rwa [World.size_alloc] at this
  have b2:W0.heap[w.heap.size+1+1]? = some (.cells #[.string ⟨#[47]⟩] 9 (0,0)):=by
   rw [hW0];refine (Below.heap_alloc _ _ _ (by simp)).trans ?_
   have:=World.alloc_heap_new ((w.alloc (.cells #[.bool false] 4)).alloc (.cells #[.string (txt p)] 9)) (.cells #[.string ⟨#[47]⟩] 9);rwa [World.size_alloc,World.size_alloc] at this
  have b3:W0.heap[w.heap.size+1+2]? = some (.cells #[.int .i64 0] 3 (0,0)):=by
   rw [hW0]
   have:=World.alloc_heap_new (((w.alloc (.cells #[.bool false] 4)).alloc (.cells #[.string (txt p)] 9)).alloc (.cells #[.string ⟨#[47]⟩] 9)) (.cells #[.int .i64 0] 3);rwa [World.size_alloc,World.size_alloc,World.size_alloc] at this
  have hB0:Below w.heap.size w W0:=by rw [hW0];exact ((((Below.refl _ w).alloc (Nat.le_refl _) _).alloc (by simp) _).alloc (by simp;omega) _).alloc (by simp;omega) _
  rw [←hW0];clear hW0;refine qeO rfl (by decide) (gf:=179) (lb:=#[.pointer (some ⟨w.heap.size+1+1,0,none⟩),.pointer (some ⟨w.heap.size+1,0,none⟩),.pointer (some ⟨w.heap.size+1+2,0,none⟩)]) rfl trivial (enters_of Tryz.func179 (by kernel_rfl) rfl)
   (qfS 4 (w.heap.size+1) W0.heap.size p W0 hp (by omega) (Nat.le_refl _) b1 b2 b3) (by omega) rfl
   (fun pre W=>(∀ y∈pre,okName y=true)∧W.heap[w.heap.size]? = some (.cells #[.bool false] 4 (0,0))∧Below w.heap.size w W)
   (fun pre W=>(∃ y∈pre,okName y=false)∧W.heap[w.heap.size]? = some (.cells #[.bool false] 4 (0,0))∧Below w.heap.size w W)
   (fun s A C row hs hg hr=>⟨hs.1,(hg.block _ (lt_of_heap hs.2.1) (fun e=>by have:=(hr _ e.symm).1;omega)).trans hs.2.1,hs.2.2.grown hg hs.2.2.size (fun k e=>by have:=(hr k e).1;omega)⟩)
   ⟨fun s A v hs=>⟨hs.1,(Below.heap_setCell A ⟨w.heap.size+1,0,none⟩ v _ (by simp)).trans hs.2.1,hs.2.2.setCell (p:=⟨w.heap.size+1,0,none⟩) (by simp) _⟩,fun s A q hs=>⟨hs.1,hs.2.1,⟨hs.2.2.os,hs.2.2.tape,hs.2.2.output,hs.2.2.size,hs.2.2.block⟩⟩⟩
   (fun s A C row hs hg hr=>⟨hs.1,(hg.block _ (lt_of_heap hs.2.1) (fun e=>by have:=(hr _ e.symm).1;omega)).trans hs.2.1,hs.2.2.grown hg hs.2.2.size (fun k e=>by have:=(hr k e).1;omega)⟩)
   ⟨fun s A v hs=>⟨hs.1,(Below.heap_setCell A ⟨w.heap.size+1,0,none⟩ v _ (by simp)).trans hs.2.1,hs.2.2.setCell (p:=⟨w.heap.size+1,0,none⟩) (by simp) _⟩,fun s A q hs=>⟨hs.1,hs.2.1,⟨hs.2.2.os,hs.2.2.tape,hs.2.2.output,hs.2.2.size,hs.2.2.block⟩⟩⟩
   ⟨by simp,b0,hB0⟩
   (fun x=>{ tmps:=#[.string (txt p),undef,.pointer (some ⟨w.heap.size,0,none⟩),.string (txt x),.string (txt p),.int .i64 L,.bool (decide (6<(L:Int))),.string (txt p),.func (.func 179) #[] #[.pointer (some ⟨w.heap.size+1+1,0,none⟩),.pointer (some ⟨w.heap.size+1,0,none⟩),.pointer (some ⟨w.heap.size+1+2,0,none⟩)],.string (txt x),undef,undef,undef],defers:=[] }) ?assign ?body ?done ?stop
  case assign =>
   intro l x W K hK;gi_wp2;exact hK
  case body =>
   rintro l pre x W ⟨hok,hblk,hB⟩ hpre hle;have hmem:x∈split p:=hpre.subset (by simp);have HN:=hidI (qh7 x W (qie p x hmem) (by have:=qms p x hmem;omega));have Hok:=hidI hok;clear hok hpre hmem;obtain ⟨o,ho⟩:∃ o,o=okName x:=⟨_,rfl⟩;rw [←ho] at HN;have Ho:=hidI ho;clear ho;gi_wp2;refine ⟨trivial,(CallsIn.inRound l (callsIn_wide.2 HN.out)).mono ?_⟩;rintro e W' ⟨hb,rfl⟩;have hblk':W'.heap[w.heap.size]? = some (.cells #[.bool false] 4 (0,0)):=(hb.block _ (lt_of_heap hblk)).trans hblk;have hc':W'.cell? ⟨w.heap.size,0,none⟩=some (.bool false):=by rw [cell_of_row W' w.heap.size 0 _ 4 (0,0) hblk'];rfl
   have hf':W'.frozen? ⟨w.heap.size,0,none⟩=false:=frozen_of_row W' w.heap.size 0 _ 4 hblk';have hb':Below w.heap.size w W':=hB.trans (hb.mono hB.size);have Hblk:=hidI hblk';have Hb:=hidI hb;have Hb':=hidI hb';clear hblk' hb hb' hblk;cases o with
   | true =>
     gi_wp2;exact ⟨⟨Hb.out.size,fun k o _ hk _=>(Hb.out.block k (lt_of_heap hk)).trans hk⟩,Hb.out.mono hle,fun y hy=>(List.mem_append.1 hy).elim (Hok.out y) (fun e=>by simp at e;subst e;exact Ho.out.symm),Hblk.out,Hb'.out⟩
   | false =>
     gi_wp2;refine ⟨⟨by simpa using Hb.out.size,fun k o hk0 hk ho=>(Below.heap_setCell W' ⟨w.heap.size,0,none⟩ _ k (by simp;omega)).trans ((Hb.out.block k (lt_of_heap hk)).trans hk)⟩,⟨x,by simp,Ho.out.symm⟩,heap_setCell_same W' w.heap.size 0 _ 4 (.bool false) Hblk.out,Hb'.out.setCell (p:=⟨w.heap.size,0,none⟩) (by simp) _⟩
  case done =>
   rintro D W hD ⟨hok,hblk,hB⟩ hK;have hc':W.cell? ⟨w.heap.size,0,none⟩=some (.bool false):=by rw [cell_of_row W w.heap.size 0 _ 4 (0,0) hblk];rfl
   have hf':W.frozen? ⟨w.heap.size,0,none⟩=false:=frozen_of_row W w.heap.size 0 _ 4 hblk;have HR:Hid (okPath p=true):=hidI (by rw [qd7 (by have:=HL.out;omega)];exact List.all_eq_true.2 hok);have Hblk:=hidI hblk;have HB:=hidI hB;have HK:=hidI hK;clear hok hblk hB hK;gi_wp2;have hK':(W.setCell ⟨w.heap.size,0,none⟩ (.bool true)).heap[D]? = some (.deferred (some [])):=(Below.heap_setCell W ⟨w.heap.size,0,none⟩ _ D (by simp;omega)).trans HK.out;refine ⟨by simp,.inl ⟨_,_,rfl,run_takeDeferred hK',?_⟩⟩;have hs:=heap_setCell_same W w.heap.size 0 _ 4 (.bool true) Hblk.out;have hc5:=cell_kept (World.cell?_setCell_same' W ⟨w.heap.size,0,none⟩ (.bool true) (by rw [hc'];rfl)) (grownBy_putObj' _ D (.deferred none)) (fun r e=>by cases e;exact ⟨_,hK',rfl⟩)
   refine ⟨.bool true,?_,(HB.out.setCell (p:=⟨w.heap.size,0,none⟩) (by simp) _).trans (belowK_b (w:=w) (Nat.le_refl _) _ D _ _ (by omega) hK' rfl rfl),by rw [HR.out]⟩;simp [results,Tryz.f80,go_sem,hc5]
  rintro D pre W hD hpre ⟨⟨y,hy,hno⟩,hblk,hB⟩ hK;have HR:Hid (okPath p=false):=hidI (by
   rw [qd7 (by have:=HL.out;omega)];cases h:(split p).all okName with
   | false=>rfl
   | true=>have:=List.all_eq_true.1 h y (hpre.subset hy);rw [hno] at this;cases this)
  have hc':W.cell? ⟨w.heap.size,0,none⟩=some (.bool false):=by rw [cell_of_row W w.heap.size 0 _ 4 (0,0) hblk];rfl
  have HB:=hidI hB;have HK:=hidI hK;clear hy hno hpre hblk hB hK;gi_wp2;refine ⟨by simp,.inl ⟨_,_,rfl,run_takeDeferred HK.out,?_⟩⟩;have hc5:=cell_kept hc' (grownBy_putObj' _ D (.deferred none)) (fun r e=>by cases e;exact ⟨_,HK.out,rfl⟩);refine ⟨.bool false,?_,HB.out.trans (belowK_b (w:=w) (Nat.le_refl _) W D _ _ (by omega) HK.out rfl rfl),by rw [HR.out]⟩;simp [results,Tryz.f80,go_sem,hc5]
 have HR:Hid (okPath p=false):=hidI (by unfold okPath;have:=HL.out;simp;intro h;omega);gi_wp2;refine ⟨.bool false,?_,(Below.refl _ w).alloc (Nat.le_refl _) _,by rw [HR.out]⟩;simp [results,Tryz.f80,go_sem]
end Go.Proofs.YtodmdkhdbfbfgabGreatDoor
namespace Go.Proofs.YtodmdkhdbfbfgabGreatDoor
open Go.RowKit Go.Nt
def modeB (n:Int):Bool:=decide (0≤n)&&decide (n≤4095)
def timeB (n:Int):Bool:=decide (0≤n)&&decide (n≤2147483647)
theorem qiT (n:Int) (w:World):Calls Tryz.prog 103 #[.int .i64 n] w fun e w'=>e=.returned (.bool (modeB n))∧w'=w:=by
 unfold modeB;by_cases h:0≤n
 ·by_cases h2:n≤4095
  ·go_enter Tryz.func103,Tryz.ntmps103
   go_wp2;go_ret
   exact ⟨by simp [h,h2],rfl⟩
  go_enter Tryz.func103,Tryz.ntmps103
  go_wp2;go_ret
  exact ⟨by simp [h2],rfl⟩
 go_enter Tryz.func103,Tryz.ntmps103
 go_wp2;go_ret
 exact ⟨by rw [decide_eq_false (by omega:¬0≤n)];rfl,rfl⟩
theorem qiE (n:Int) (w:World):Calls Tryz.prog 104 #[.int .i64 n] w fun e w'=>e=.returned (.bool (timeB n))∧w'=w:=by
 unfold timeB;by_cases h:0≤n
 ·by_cases h2:n≤2147483647
  ·go_enter Tryz.func104,Tryz.ntmps104
   go_wp2;go_ret
   exact ⟨by simp [h,h2],rfl⟩
  go_enter Tryz.func104,Tryz.ntmps104
  go_wp2;go_ret
  exact ⟨by simp [h2],rfl⟩
 go_enter Tryz.func104,Tryz.ntmps104
 go_wp2;go_ret
 exact ⟨by rw [decide_eq_false (by omega:¬0≤n)];rfl,rfl⟩
theorem qh2 (x:It) (D:ByteArray) (hD:D=txt x.data) (xd:Bool) (hxd:xd=x.dir) :
 (okItem x=false∧(modeB x.mode=false∨(modeB x.mode=true∧(timeB x.time=false∨(timeB x.time=true∧(4000<D.size∨(D.size≤4000∧xd=true∧D.toList.isEmpty=false))))))) ∨
 (okItem x=okPath x.path∧modeB x.mode=true∧timeB x.time=true∧D.size≤4000∧(xd=false∨(xd=true∧D.toList.isEmpty=true))):=by
 subst hxd;subst hD;rw [qaf,qaa];unfold okItem modeB timeB;by_cases h4:0≤x.mode
 ·by_cases h5:x.mode≤4095
  ·by_cases h6:0≤x.time
   ·by_cases h7:x.time≤2147483647
    ·by_cases h1:x.data.length≤4000
     ·by_cases h2:x.dir=true
      ·by_cases h3:x.data=[]
       ·exact .inr ⟨by simp [h2,h3,h4,h5,h6,h7],by simp [h4,h5],by simp [h6,h7],h1,.inr ⟨h2,by simp [h3]⟩⟩
       exact .inl ⟨by simp [h2,h3],.inr ⟨by simp [h4,h5],.inr ⟨by simp [h6,h7],.inr ⟨h1,h2,by simpa using h3⟩⟩⟩⟩
      have h2':x.dir=false:=by simpa using h2
      exact .inr ⟨by simp [h1,h2',h4,h5,h6,h7],by simp [h4,h5],by simp [h6,h7],h1,.inl h2'⟩
     exact .inl ⟨by simp [h1],.inr ⟨by simp [h4,h5],.inr ⟨by simp [h6,h7],.inl (by omega)⟩⟩⟩
    exact .inl ⟨by simp [h7],.inr ⟨by simp [h4,h5],.inl (by simp [h7])⟩⟩
   exact .inl ⟨by simp [h6],.inr ⟨by simp [h4,h5],.inl (by simp [h6])⟩⟩
  exact .inl ⟨by simp [h5],.inl (by simp [h5])⟩
 exact .inl ⟨by simp [h4],.inl (by simp [h4])⟩
theorem qiA (x:It) (w:World) (hm:ML w) (hp:x.path.length≤1048576) :
 Calls Tryz.prog 71 #[itv x] w fun e w'=>Below w.heap.size w w'∧e=.returned (.bool (okItem x)):=by
 have HP:=hidI (fun W (h:ML W)=>qet x.path W h hp);have Hm:=hidI hm;have HM:=hidI (fun W=>qiT x.mode W);have HT:=hidI (fun W=>qiE x.time W);unfold itv;obtain ⟨D,hD⟩:∃ o,o=txt x.data:=⟨_,rfl⟩;obtain ⟨xd,hxd⟩:∃ o,o=x.dir:=⟨_,rfl⟩;obtain ⟨X,hX⟩:∃ o,o=txt x.path:=⟨_,rfl⟩;have hc:=qh2 x D hD xd hxd;rw [←hD,←hxd,←hX];rw [←hX] at HP;clear hm hD hxd hX;rcases hc with ⟨hbad,hh⟩ | ⟨hgood,g1,g2,g5,g6⟩
 ·rw [hbad];clear HP hbad Hm;rcases hh with h1 | ⟨h1,h2 | ⟨h2,h5 | ⟨h5,h6,h7⟩⟩⟩
  all_goals (try subst h6)
  all_goals (rw [h1] at HM)
  all_goals (try rw [h2] at HT)
  all_goals
   go_enter Tryz.func71,Tryz.ntmps71
   go_wp2_with (first | (go_at_call 103;refine (HM.out _).mono ?_;rintro e w' ⟨rfl,hw⟩;have hw':=hw.symm;subst hw';clear hw) | (go_at_call 104;refine (HT.out _).mono ?_;rintro e w' ⟨rfl,hw⟩;have hw':=hw.symm;subst hw';clear hw));go_ret
   exact ⟨(Below.refl _ w).alloc (Nat.le_refl _) _,rfl⟩
 rw [hgood];have HP2:=hidI (HP.out (w.alloc (.cells #[.string X,.bool xd,.string D,.int .i64 x.mode,.int .i64 x.time] 53)) (Hm.out.below ((Below.refl _ w).alloc (Nat.le_refl _) _) Hm.out.lt));clear HP hgood;obtain ⟨o,ho⟩:∃ o,o=okPath x.path:=⟨_,rfl⟩;rw [←ho] at HP2 ⊢;rw [g1] at HM;rw [g2] at HT;clear ho;rcases g6 with g6 | ⟨g6,g7⟩<;>subst g6
 all_goals
  go_enter Tryz.func71,Tryz.ntmps71
  go_wp2_with (first | (go_at_call 103;refine (HM.out _).mono ?_;rintro e w' ⟨rfl,hw⟩;have hw':=hw.symm;subst hw';clear hw) | (go_at_call 104;refine (HT.out _).mono ?_;rintro e w' ⟨rfl,hw⟩;have hw':=hw.symm;subst hw';clear hw) | (go_at_call 80;refine HP2.out.mono ?_;rintro e W ⟨hb,rfl⟩;have hb':Below w.heap.size w W:=((Below.refl _ w).alloc (Nat.le_refl _) _).trans (hb.mono (by simp));clear hb));go_ret
  exact ⟨hb',rfl⟩
end Go.Proofs.YtodmdkhdbfbfgabGreatDoor
namespace Go.Proofs.YtodmdkhdbfbfgabGreatDoor
open Go.Nt
/-! ### What makes a list no tree -/
theorem qkC {l:List It} {x:It} (hx:x∈l) (h:okItem x=false):isTree l=false:=by
 have:l.all okItem=false:=by
  cases e:l.all okItem with
  | false=>rfl
  | true=>have:=List.all_eq_true.1 e x hx;rw [h] at this;cases this
 unfold isTree;rw [this];simp
theorem qjl {l:List It} (h:60<l.length):isTree l=false:=by
 unfold isTree
 have:decide (l.length≤60)=false:=by simp;omega
 rw [this];simp
theorem qiF {l:List It} (h:¬(l.map (·.path)).Nodup):isTree l=false:=by
 unfold isTree;simp [h]
theorem qlt {l:List It} {k j:Nat} {x y:It} (hx:l[k]? = some x) (hy:l[j]? = some y) (hj:j<k) (h:y.path=x.path):¬(l.map (·.path)).Nodup:=by
 intro hn;obtain ⟨hk,rfl⟩:=List.getElem?_eq_some_iff.1 hx;obtain ⟨hj',rfl⟩:=List.getElem?_eq_some_iff.1 hy;have h1:=List.pairwise_iff_getElem.1 hn j k (by simp;omega) (by simp;omega) hj;simp at h1;exact h1 h
end Go.Proofs.YtodmdkhdbfbfgabGreatDoor
namespace Go.Proofs.YtodmdkhdbfbfgabGreatDoor
open Go.RowKit Go.Nt
theorem own_below {w w':World} {B N:Nat} {e:TypeId} {size:Nat} {v:Value} {n:Nat} {xs:List Value} (h:w.ownsRow B e size v n xs) (hb:Below N w w') (hlt:∀ q,v.ownBlock=some q→q<N):w'.ownsRow B e size v n xs:=by
 refine ⟨h.1,?_⟩;rcases h.2 with h0 | ⟨g,cap,cur,rfl,h1,h2,h3⟩
 ·exact .inl h0
 exact .inr ⟨g,cap,cur,rfl,h1,(hb.block g (hlt g rfl)).trans h2,h3⟩
end Go.Proofs.YtodmdkhdbfbfgabGreatDoor
