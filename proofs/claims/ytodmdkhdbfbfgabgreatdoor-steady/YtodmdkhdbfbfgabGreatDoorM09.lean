/- Lemmas. -/
import Derived.Lib.AppendZerosOnto
import Derived.Lib.Walk
import Derived.Lib.SliceRun
import Derived.Shelf.SlIterI.Nil
import Derived.Shelf.SortM.Plain
import Derived.Shelf.SortM.SortNone
import Derived.Ground.GgzProg
import Derived.Ground.SlgmProg
import Derived.Maps.AppendAt
import Derived.Test.YtodmdkhdbfbfgabGreatDoorM08
import Derived.Test.YtodmdkhdbfbfgabGreatDoorM04
set_option linter.unusedVariables false
set_option linter.unusedSimpArgs false
set_option maxRecDepth 100000
set_option maxHeartbeats 8000000
namespace Go.Proofs.YtodmdkhdbfbfgabGreatDoor.S1
open Go.RowKit Pk
theorem Tryz.info3':(Tryz.prog.info? 3).map (fun i=>(i.zero,i.size,i.bytes))=some (some (.int .i64 0),1,8):=by kernel_rfl
theorem qnE (w:World) (b n c:Nat) (z:Nat→Int) (h0:0<n) (hn:n≤1000) (hz:∀ i,i<n→w.cell? ⟨b,i,none⟩=some (.int .i64 (z i))) :
 Calls Tryz.prog 207 #[.slice (some ⟨b,0,none⟩) n c] w fun e w'=>w'=w∧∃ m:Int,e=.returned (.int .i64 m)∧(∀ i,i<n→z i≤m)∧∃ i,i<n∧z i=m:=by
 have x0:=hz 0 h0;have hn1:¬(n:Int)<1:=by omega
 have Hz:=hidI hz;clear hz;go_enter Tryz.func207,Tryz.ntmps207
 go_wp2;clear x0
 go_loopw [4,3] (fun i m wr=>wr=w∧∃ k:Nat,∃ x:Int,i=.int .i64 (k:Nat)∧m=.int .i64 x∧1≤k∧k≤n∧Hid ((∀ j,j<k→z j≤x)∧∃ j,j<k∧z j=x)) (fun i _ _=>n - (intOf i).toNat)
 case atStart=>exact ⟨rfl,1,z 0,rfl,rfl,by omega,by omega,⟨fun j hj=>by rw [show j=0 by omega];exact Int.le_refl _,0,by omega,rfl⟩⟩
 case round =>
  obtain ⟨rfl,k,x,rfl,rfl,hk1,hk2,Hx⟩:=hrel;by_cases hlt:k<n
  ·have x1:=Hz.out k hlt;by_cases hm:x≤z k
   ·have Hx2:Hid ((∀ j,j<k+1→z j≤z k)∧∃ j,j<k+1∧z j=z k):=⟨fun j hj=>by
     by_cases e:j=k
     ·subst e;exact Int.le_refl _
     ·exact Int.le_trans (Hx.out.1 j (by omega)) hm,k,by omega,rfl⟩
    generalize z k=y at *
    have hmax:max x y=y:=by omega
    go_wp2;go_roundw
    case rel=>exact ⟨by trivial,k+1,y,by go_num,rfl,by omega,by omega,Hx2⟩
    case measure=>simp [intOf];omega
   ·have Hx2:Hid ((∀ j,j<k+1→z j≤x)∧∃ j,j<k+1∧z j=x):=⟨fun j hj=>by
     by_cases e:j=k
     ·subst e;omega
     ·exact Hx.out.1 j (by omega),by
     obtain ⟨j,hj,e⟩:=Hx.out.2;exact ⟨j,by omega,e⟩⟩
    generalize z k=y at *
    have hmax:max x y=x:=by omega
    go_wp2;go_roundw
    case rel=>exact ⟨by trivial,k+1,x,by go_num,rfl,by omega,by omega,Hx2⟩
    case measure=>simp [intOf];omega
  ·have hkn:k=n:=by omega
   subst hkn;go_wp2;go_ret
   exact ⟨rfl,x,rfl,Hx.out.1,Hx.out.2⟩
def intsV (l:List Nat):List Value:=l.map fun x=>.int .i64 (x:Nat)
theorem ql9 (w:World) (n:Nat) (h0:0<n) (hn:n≤1000) :
 Calls Tryz.prog 248 #[.slice none 0 0,.int .i64 (n:Nat)] w fun e w'=>∃ G,e=.returned (.slice (some ⟨w.heap.size,0,none⟩) 0 G)∧w'.ownsRow w.heap.size 3 1 (.slice (some ⟨w.heap.size,0,none⟩) 0 G) 0 []∧Below w.heap.size w w':=by
 obtain ⟨i0,hi,hz0,hz1,hz2⟩:=info_parts Tryz.info3';have hold:(Builtin.firstCells i0.size 0 (.slice none 0 0)).run Tryz.prog w.drew=.ok ([]:List Value).toArray w.drew:=run_firstCells_none w.drew i0.size 0 0 0;have hr:=fun ty=>Lib.run_append_grow_zeros w 22 3 ty 3 i0 (.int .i64 0) .i64 .i64 Tryz.underlying22 Tryz.underlying3 hi hz0 none 0 0 [] hold n (by omega) (by omega) (by omega) (by omega)
  (by rw [hz2];omega) (by rw [hz2,Nat.zero_add];exact growslice_fits h0 (by omega))
 rw [Nat.zero_add] at hr;obtain ⟨G,hG⟩:∃ G,G=grownCap w n 0 3:=⟨_,rfl⟩;have hGn:n≤G:=by rw [hG];exact grownCap_ge w _ _ _
 have hGm:G≤maxLen:=by rw [hG];exact grownCap_le_maxLen w n 0 3 (by unfold maxLen;omega)
 have hG63:G≤9223372036854775807:=by unfold maxLen at hGm;omega
 rw [←hG] at hr;obtain ⟨C,hC⟩:∃ C:Array Value,C=([]:List Value).toArray++Builtin.zeroCells (Value.int IntKind.i64 0).cells n++Builtin.zeroCells (Value.int IntKind.i64 0).cells (G - n):=⟨_,rfl⟩;rw [←hC] at hr;have hCs:C.size=G:=by
  rw [hC,Array.size_append,Array.size_append,size_zeroCells,size_zeroCells]
  have:(Value.int IntKind.i64 0).cells.size=1:=rfl
  rw [this];simp;omega
 have Hown:Hid ((w.drew.alloc (.cells C 3)).ownsRow w.heap.size 3 1 (.slice (some ⟨w.heap.size,0,none⟩) 0 G) 0 []):=⟨rfl,.inr ⟨_,G,C,rfl,Nat.le_refl _,heap_alloc_new _ _,by omega,hGm,by omega,by simp⟩⟩;have Hb:Hid (Below w.heap.size w (w.drew.alloc (.cells C 3))):=(Below.refl _ w).drew.alloc (Nat.le_refl _) _;clear hC hCs hG hold;go_enter Tryz.func248,Tryz.ntmps248
 go_wp2_with (at_builtin;refine Lib.wpList_append_run _ rfl _ _ _ _ rfl _ _ rfl rfl _ _ (hr _) ?_);go_ret
 exact ⟨G,rfl,Hown.out,Hb.out⟩
theorem qet {w:World} {B b n c:Nat} {l:List Nat} (h:w.ownsRow B 3 1 (.slice (some ⟨b,0,none⟩) n c) n (intsV l)):∀ j u,(intsV l)[j]? = some u→w.cell? ((⟨b,0,none⟩:Addr).add j)=some u:=by
 intro j u hu;have hj:j<n:=by
  rcases Nat.lt_or_ge j n with h2 | h2
  ·exact h2
  ·rw [List.getElem?_eq_none (by rw [h.1];omega)] at hu;cases hu
 have hadd:(⟨b,0,none⟩:Addr).add j=⟨b,j,none⟩:=by unfold Addr.add;split<;>simp_all
 rw [hadd,h.cellAt j (by omega),hu]
theorem qdd (l:List Nat):∀ u∈intsV l,u.oneCell'=true:=by
 intro u hu;unfold intsV at hu;simp at hu;obtain ⟨x,_,rfl⟩:=hu;rfl
theorem qdm {w w':World} {B K n:Nat} {e:TypeId} {size:Nat} {v:Value} {xs:List Value} (h:w.ownsRow B e size v n xs) (hb:Below K w w') (hK:w.heap.size≤K):w'.ownsRow B e size v n xs:=by
 refine ⟨h.1,?_⟩;rcases h.2 with h1 | ⟨g,cap,cur,h1,h2,h3,h4⟩
 ·exact .inl h1
 ·exact .inr ⟨g,cap,cur,h1,h2,(hb.block g (Nat.lt_of_lt_of_le (qaa h3) hK)).trans h3,h4⟩
theorem clone_ints (w:World) (b n c:Nat) (l:List Nat) (h0:0<n) (hn:n≤1000) (h:w.ownsRow 0 3 1 (.slice (some ⟨b,0,none⟩) n c) n (intsV l)) :
 Calls Tryz.prog 205 #[.slice (some ⟨b,0,none⟩) n c] w fun e w'=>∃ g cap,e=.returned (.slice (some ⟨g,0,none⟩) n cap)∧w'.ownsRow w.heap.size 3 1 (.slice (some ⟨g,0,none⟩) n cap) n (intsV l)∧Below w.heap.size w w':=by
 obtain ⟨i0,hi,hz0,hz1,hz2⟩:=info_parts Tryz.info3';have Hown:=hidI h;clear h;have q22:∀ (w:World) (a:Option Addr) (n c n' c':Nat),(binOp .eql 22 (.slice a n c) (.slice none n' c')).run Tryz.prog w=.ok (.bool a.isNone) w:=fun w a n c n' c'=>Lib.run_eql_slice_nil w _ _ a n c n' c' Tryz.underlying22
 go_enter Tryz.func205,Tryz.ntmps205
 go_wp2_with (at_builtin;refine wpList_append_lies _ rfl _ _ 22 rfl w.heap.size 3 i0 (.int .i64 0) 1 8 Tryz.underlying22 hi hz0 hz1 hz2 rfl (by decide) _ 0 [] rfl (World.ownsRow_made w #[] 0 (Nat.le_refl _) (Nat.zero_le _) rfl) ⟨b,0,none⟩ n c (intsV l) rfl ?qc1 ?qc2 ?qc3 ?qc7 ?qc4 ?qc5 ?qc6 (w.heap.size+1) ?qc8 ?_)
 case qc1=>exact Hown.out.1
 case qc2=>exact qet (Hown.out.alloc _)
 case qc3=>exact qdd l
 case qc4=>unfold maxLen;omega
 case qc5=>omega
 case qc6=>simp
 case qc7=>omega
 case qc8=>simp
 intro g cap w1 hown hgrow hat hlt;have Hown1:=hidI hown;have Hb:=hidI (((Below.refl _ w).alloc (Nat.le_refl _) _).grown hgrow (by simp) (by intro k hk;simp [Value.ownBlock] at hk;omega));clear hown hgrow hat
 try rw [Nat.zero_add]
 go_wp2;go_ret
 exact ⟨g,cap,rfl,Hown1.out,Hb.out⟩
theorem qiQ (w:World) (sb ab an ac bb bn bc:Nat) (A B:List Nat) (ha0:0<an) (hb0:0<bn) (hn:an+bn≤1000) (hs:w.heap[sb]? = some (.cells #[.slice (some ⟨ab,0,none⟩) an ac,.slice (some ⟨bb,0,none⟩) bn bc] 22 (0,0)))
 (ha:w.ownsRow 0 3 1 (.slice (some ⟨ab,0,none⟩) an ac) an (intsV A)) (hb:w.ownsRow 0 3 1 (.slice (some ⟨bb,0,none⟩) bn bc) bn (intsV B)) :
 Calls Tryz.prog 236 #[.slice (some ⟨sb,0,none⟩) 2 2] w fun e w'=>∃ g cap,e=.returned (.slice (some ⟨g,0,none⟩) (an+bn) cap)∧w'.ownsRow w.heap.size 3 1 (.slice (some ⟨g,0,none⟩) (an+bn) cap) (an+bn) (intsV (A++B))∧Below w.heap.size w w':=by
 obtain ⟨i0,hi,hz0,hz1,hz2⟩:=info_parts Tryz.info3';have x0:w.cell? ⟨sb,0,none⟩=some (.slice (some ⟨ab,0,none⟩) an ac):=by rw [cell_of_row w sb 0 _ 22 (0,0) hs];rfl
 have x1:w.cell? ⟨sb,1,none⟩=some (.slice (some ⟨bb,0,none⟩) bn bc):=by rw [cell_of_row w sb 1 _ 22 (0,0) hs];rfl
 have Hs:=hidI hs;have Ha:=hidI ha;have Hb:=hidI hb;clear hs ha hb;go_enter Tryz.func236,Tryz.ntmps236
 go_wp2
 go_loopw [11,3] (fun i s wr=>w=wr∧((i=.int .i64 0∧s=.int .i64 0)∨(i=.int .i64 1∧s=.int .i64 (an:Nat))∨(i=.int .i64 2∧s=.int .i64 ((an:Int)+(bn:Int))))) (fun i _ _=>2 - (intOf i).toNat)
 case atStart=>exact ⟨rfl,.inl ⟨rfl,rfl⟩⟩
 case round =>
  obtain ⟨rfl,⟨rfl,rfl⟩ | ⟨rfl,rfl⟩ | ⟨rfl,rfl⟩⟩:=hrel
  ·have h1:¬(an:Int)<0:=by omega
   go_wp2;go_roundw
   case rel=>exact ⟨by trivial,.inr (.inl ⟨rfl,rfl⟩)⟩
   case measure=>simp [intOf]
  ·have h1:¬(an:Int)+(bn:Int)<0:=by omega
   go_wp2;go_roundw
   case rel=>exact ⟨by trivial,.inr (.inr ⟨rfl,rfl⟩)⟩
   case measure=>simp [intOf]
  ·have hgr:=hidI (ql9 w (an+bn) (by omega) (by omega));rw [show ((an+bn:Nat):Int)=(an:Int)+(bn:Int) by omega] at hgr;go_wp2_with fail;refine hgr.out.mono ?_;rintro e w1 ⟨G,rfl,hown1,hbel1⟩;have Hown1:=hidI hown1;have Hbel1:=hidI hbel1;clear hown1 hbel1 hgr;go_wp2
   go_loopw [27,6] (fun i v wq=>Hid (Below w.heap.size w wq)∧((i=.int .i64 0∧∃ g c,v=.slice (some ⟨g,0,none⟩) 0 c∧Hid (wq.ownsRow w.heap.size 3 1 (.slice (some ⟨g,0,none⟩) 0 c) 0 []))∨(i=.int .i64 1∧∃ g c,v=.slice (some ⟨g,0,none⟩) an c∧Hid (wq.ownsRow w.heap.size 3 1 (.slice (some ⟨g,0,none⟩) an c) an (intsV A)))∨(i=.int .i64 2∧∃ g c,v=.slice (some ⟨g,0,none⟩) (an+bn) c∧Hid (wq.ownsRow w.heap.size 3 1 (.slice (some ⟨g,0,none⟩) (an+bn) c) (an+bn) (intsV (A++B)))))) (fun i _ _=>2 - (intOf i).toNat)
   case atStart=>exact ⟨Hbel1,.inl ⟨rfl,_,G,rfl,Hown1⟩⟩
   case round =>
    obtain ⟨Hbq,⟨rfl,g,cc,rfl,Hq⟩ | ⟨rfl,g,cc,rfl,Hq⟩ | ⟨rfl,g,cc,rfl,Hq⟩⟩:=hrel
    ·have hsb:=(Hbq.out.block sb (qaa Hs.out)).trans Hs.out;have y0:wr.cell? ⟨sb,0,none⟩=some (.slice (some ⟨ab,0,none⟩) an ac):=by rw [cell_of_row wr sb 0 _ 22 (0,0) hsb];rfl
     have Ha1:=hidI (qdm Ha.out Hbq.out (Nat.le_refl _));have hszq:=Hbq.out.size;clear hsb x0 x1;go_wp2_with (at_builtin;refine wpList_append_lies _ rfl _ _ 22 rfl w.heap.size 3 i0 (.int .i64 0) 1 8 Tryz.underlying22 hi hz0 hz1 hz2 rfl (by decide) _ 0 [] rfl Hq.out ⟨ab,0,none⟩ an ac (intsV A) rfl Ha1.out.1 (qet Ha1.out) (qdd A) (by omega) (by unfold maxLen;omega) (by omega) (by omega) wr.heap.size rfl ?_);intro g2 cap2 w2 hown hgrow hat hlt;have Hown2:Hid (w2.ownsRow w.heap.size 3 1 (.slice (some ⟨g2,0,none⟩) an cap2) an (intsV A)):=by
      show w2.ownsRow _ _ _ _ _ _;simpa using hown
     have Hb2:=hidI (Hbq.out.grown hgrow (by omega) (fun q hq=>(Hq.out.lt q hq).1));clear hown hgrow hat y0 hlt
     try rw [Nat.zero_add]
     go_wp2;go_roundw
     case rel=>exact ⟨Hb2,.inr (.inl ⟨rfl,g2,cap2,by simp,Hown2⟩)⟩
     case measure=>simp [intOf]
    ·have hsb:=(Hbq.out.block sb (qaa Hs.out)).trans Hs.out;have y0:wr.cell? ⟨sb,1,none⟩=some (.slice (some ⟨bb,0,none⟩) bn bc):=by rw [cell_of_row wr sb 1 _ 22 (0,0) hsb];rfl
     have Hb1:=hidI (qdm Hb.out Hbq.out (Nat.le_refl _));have hszq:=Hbq.out.size;clear hsb x0 x1;go_wp2_with (at_builtin;refine wpList_append_lies _ rfl _ _ 22 rfl w.heap.size 3 i0 (.int .i64 0) 1 8 Tryz.underlying22 hi hz0 hz1 hz2 rfl (by decide) _ an (intsV A) rfl Hq.out ⟨bb,0,none⟩ bn bc (intsV B) rfl Hb1.out.1 (qet Hb1.out) (qdd B) (by omega) (by unfold maxLen;omega) (by omega) (by omega) wr.heap.size rfl ?_);intro g2 cap2 w2 hown hgrow hat hlt;have Hown2:Hid (w2.ownsRow w.heap.size 3 1 (.slice (some ⟨g2,0,none⟩) (an+bn) cap2) (an+bn) (intsV (A++B))):=by
      show w2.ownsRow _ _ _ _ _ _;unfold intsV at hown ⊢;rw [List.map_append];exact hown
     have Hb2:=hidI (Hbq.out.grown hgrow (by omega) (fun q hq=>(Hq.out.lt q hq).1));clear hown hgrow hat y0 hlt;go_wp2;go_roundw
     case rel=>exact ⟨Hb2,.inr (.inr ⟨rfl,g2,cap2,rfl,Hown2⟩)⟩
     case measure=>simp [intOf]
    ·go_wp2;go_ret
     exact ⟨g,cc,rfl,Hq.out,Hbq.out⟩
end Go.Proofs.YtodmdkhdbfbfgabGreatDoor.S1
namespace Go.Proofs
open Go.RowKit Go.Maps Go.Sort Go.Shelf
shelf_lay_g SlLaysZI.n7 Ggz 7 at Tryz 92 as Tryz.keysA
shelf_lay_g SlLaysZI.n6 Ggz 6 at Tryz 91 as Tryz.sortedA
shelf_lay_g SlLaysM.n5 Slgm 5 at Tryz 125 as Tryz.sortA
theorem Tryz.sortsA (m:Nat):AnyZI.SortsIn Tryz.prog Tryz.sortedA_ren Fence.wide m:=
 ⟨fun blk off cap ss W hH hblk hsz=>callsIn_wide.2 (AnyM.slices_Sort_int Tryz.sortA blk off cap ss W hH hblk hsz),
  fun p cap W=>callsIn_wide.2 (AnyM.slices_Sort_int_none Tryz.sortA p cap W)⟩
namespace YtodmdkhdbfbfgabGreatDoor.S1
theorem qk1 (mb:Option Nat) (w:World):Calls Tryz.prog 92 #[.map mb] w fun e w'=>e=.returned (.func (.func 126) #[] #[.pointer (some ⟨w.heap.size,0,none⟩)])∧w'=w.alloc (.cells #[.map mb] 160):=
 (callsIn_wide (n:=5)).1 (AnyZI.keys_in Tryz.keysA Fence.wide 5 trivial rfl mb w)
theorem qgJ {H:Type} {R:Value→Option (DataW H × List MemPlace)} (w:World) (Bm g n:Nat) (D:DataW H) (hBm:Bm<w.heap.size) (hm:w.cell? ⟨Bm,0,none⟩=some (.map (some g))) (hown:w.ownsMap Tryz.prog 3 R g n D) (hn:Maps.size D≤100000) :
 Calls Tryz.prog 91 #[.func (.func 126) #[] #[.pointer (some ⟨Bm,0,none⟩)]] w fun e w'=>∃ (v:Value) (ss:List Int),e=.returned v∧ss.Perm (intKeys D)∧w'.ownsRow w.heap.size 3 1 v ss.length ((ss.mergeSort (fun x y=>decide (x≤y))).map encZ)∧(v=.slice none 0 0↔ss=[])∧Below w.heap.size w w':=by
 have hseq:SeqGives Fence.wide 2 Tryz.prog 126 #[.pointer (some ⟨Bm,0,none⟩)] encZ (fun ss=>ss.Perm (intKeys D)) (Maps.size D) w:=
  AnyZI.keys_gives (ρ:=Tryz.keysA_ren) { Tryz.keysA with } Fence.wide _ trivial rfl (by omega) Bm g n D _ hBm hm hown
 have cS:=AnyZI.sorted_in Tryz.sortedA Fence.wide 5 trivial trivial trivial trivial rfl (by omega) (Tryz.sortsA _) (enters_of Tryz.func125 (by kernel_rfl) rfl) 126 #[.pointer (some ⟨Bm,0,none⟩)] trivial (enters_of Tryz.func126 (by kernel_rfl) rfl) _ _ (by unfold maxLen;omega) (by omega) _ hseq;change CallsIn _ _ Tryz.prog 91 _ _ _ at cS;exact (callsIn_wide (n:=5)).1 cS
end YtodmdkhdbfbfgabGreatDoor.S1
end Go.Proofs
namespace Go.Proofs.YtodmdkhdbfbfgabGreatDoor.S1
open Go.RowKit Pk
structure Fm (S:Nat→Prop) (w w':World):Prop where
 os:w'.os=w.os
 tape:w'.tape=w.tape
 output:w'.output=w.output
 size:w.heap.size≤w'.heap.size
 block:∀ k,k<w.heap.size→¬S k→w'.heap[k]? = w.heap[k]?
namespace Fm
variable {S T:Nat→Prop} {a b c:World}
theorem refl (S:Nat→Prop) (w:World):Fm S w w:=⟨rfl,rfl,rfl,Nat.le_refl _,fun _ _ _=>rfl⟩
theorem trans (h:Fm S a b) (k:Fm S b c):Fm S a c:=
 ⟨k.os.trans h.os,k.tape.trans h.tape,k.output.trans h.output,Nat.le_trans h.size k.size,fun i hi hn=>(k.block i (Nat.lt_of_lt_of_le hi h.size) hn).trans (h.block i hi hn)⟩
theorem mono (h:Fm S a b) (e:∀ k,k<a.heap.size→S k→T k):Fm T a b:=⟨h.os,h.tape,h.output,h.size,fun k hk hn=>h.block k hk (fun hs=>hn (e k hk hs))⟩
theorem of_below {B:Nat} (h:Below B a b) (hB:∀ k,B≤k→k<a.heap.size→S k):Fm S a b:=
 ⟨h.os,h.tape,h.output,h.size,fun k hk hn=>h.block k (by
  rcases Nat.lt_or_ge k B with h1 | h1
  ·exact h1
  ·exact absurd (hB k h1 hk) hn)⟩
theorem of_new (h:Below a.heap.size a b):Fm S a b:=of_below h fun k h1 h2=>absurd h1 (by omega)
theorem of_only {lo hi:Nat} (h:Only lo hi a b) (e:∀ k,lo≤k→k<hi→S k):Fm S a b:=
 ⟨h.os,h.tape,h.output,h.size,fun k hk hn=>h.block k hk (fun hs=>hn (e k hs.1 hs.2))⟩
theorem only {lo hi:Nat} (h:Fm S a b) (e:∀ k,k<a.heap.size→S k→lo≤k∧k<hi):Only lo hi a b:=
 ⟨h.os,h.tape,h.output,h.size,fun k hk hn=>h.block k hk (fun hs=>hn (e k hk hs))⟩
theorem below {B:Nat} (h:Fm S a b) (e:∀ k,S k→B≤k) (hB:B≤a.heap.size):Below B a b:=
 ⟨h.os,h.tape,h.output,h.size,fun k hk=>h.block k (by omega) (fun hs=>by have:=e k hs;omega)⟩
theorem drew (h:Fm S a b):Fm S a b.drew:=h.trans ⟨rfl,rfl,rfl,Nat.le_refl _,fun _ _ _=>rfl⟩
theorem alloc (h:Fm S a b) (o:Obj):Fm S a (b.alloc o):=h.trans ⟨rfl,rfl,rfl,by simp,fun k hk _=>Below.heap_alloc b o k hk⟩
theorem set (h:Fm S a b) {g:Nat} (hg:g<a.heap.size→S g) (o:Nat) (v:Value):Fm S a (b.setCell ⟨g,o,none⟩ v):=
 ⟨h.os,h.tape,h.output,by have:=h.size;simpa using this,fun k hk hn=>(Below.heap_setCell b ⟨g,o,none⟩ v k (fun e=>hn (by have e':k=g:=e;subst e';exact hg hk))).trans (h.block k hk hn)⟩
theorem map (h:Fm S a b) {g:Nat} (hg:g<a.heap.size→S g) (hm:b.mapTurned c g):Fm S a c:=
 ⟨hm.grown.os.trans h.os,hm.grown.tape.trans h.tape,hm.grown.output.trans h.output,Nat.le_trans h.size hm.grown.size,fun k hk hn=>(hm.grown.block k (Nat.lt_of_lt_of_le hk h.size) (fun e=>by cases e;exact hn (hg hk))).trans (h.block k hk hn)⟩
end Fm
theorem make92 (w:World):(Instr.makeMap 76 none).run Tryz.prog w=.ok (.map (some w.heap.size)) (w.alloc (.map #[] 0)):=by
 simp [Instr.makeMap,Result.andThen]
def mayE (m:M) (n:Nat):Int:=if m.life=0 then 10 else if roomP m<Go.Nt.pagesN n then 9 else 0
theorem qkn (w:World) (lo hi cb:Nat) (L:Loc) (m:M) (t:List UInt8) (hw:WF m) (h:CP w lo hi cb L m) (ht:t.length≤1000000000) :
 Calls Tryz.prog 73 #[.pointer (some ⟨cb,0,none⟩),.string (txt t)] w fun e w'=>e=.returned (.int .i64 (mayE m t.length))∧w'=w:=by
 have HD:=hidI (dead_any w lo hi cb L m h);have HP:=hidI (pagesOf_any t w ht);have HR:=hidI (qmj w lo hi cb L m hw h);obtain ⟨X,hX⟩:∃ X,X=txt t:=⟨_,rfl⟩;rw [←hX] at HP ⊢;by_cases h0:m.life=0
 ·have e:mayE m t.length=10:=by unfold mayE;rw [if_pos h0]
  have hb:(m.life==0)=true:=beq_iff_eq.2 h0;rw [e];rw [hb] at HD;clear h hw hX e hb h0;go_enter Tryz.func73,Tryz.ntmps73
  go_wp2_with (go_at_call 31;refine HD.out.mono ?_;rintro e w' ⟨rfl,hw⟩;have hw':=hw.symm;subst hw';clear hw);go_ret
  exact ⟨rfl,rfl⟩
 ·have hb:(m.life==0)=false:=beq_eq_false_iff_ne.2 h0;rw [hb] at HD;have e:mayE m t.length=if roomP m<Go.Nt.pagesN t.length then 9 else 0:=by unfold mayE;rw [if_neg h0]
  rw [e];obtain ⟨p,hp⟩:∃ p,p=Go.Nt.pagesN t.length:=⟨_,rfl⟩;obtain ⟨r,hr⟩:∃ r,r=roomP m:=⟨_,rfl⟩;rw [←hp] at HP ⊢;rw [←hr] at HR ⊢;clear h hw hX e hb h0 hp hr;by_cases hlt:r<p
  ·have hlt':(r:Int)<(p:Int):=by omega
   rw [if_pos hlt];go_enter Tryz.func73,Tryz.ntmps73
   go_wp2_with (first | (go_at_call 31;refine HD.out.mono ?_;rintro e w' ⟨rfl,hw⟩;have hw':=hw.symm;subst hw';clear hw) | (go_at_call 105;refine HP.out.mono ?_;rintro e w' ⟨rfl,hw⟩;have hw':=hw.symm;subst hw';clear hw) | (go_at_call 106;refine HR.out.mono ?_;rintro e w' ⟨rfl,hw⟩;have hw':=hw.symm;subst hw';clear hw));go_ret
   exact ⟨rfl,rfl⟩
  ·have hlt':¬(r:Int)<(p:Int):=by omega
   rw [if_neg hlt];go_enter Tryz.func73,Tryz.ntmps73
   go_wp2_with (first | (go_at_call 31;refine HD.out.mono ?_;rintro e w' ⟨rfl,hw⟩;have hw':=hw.symm;subst hw';clear hw) | (go_at_call 105;refine HP.out.mono ?_;rintro e w' ⟨rfl,hw⟩;have hw':=hw.symm;subst hw';clear hw) | (go_at_call 106;refine HR.out.mono ?_;rintro e w' ⟨rfl,hw⟩;have hw':=hw.symm;subst hw';clear hw));go_ret
   exact ⟨rfl,rfl⟩
theorem qjk (m:M) (b:Int):(eraA m b).2.nb=m.nb:=by
 unfold eraA eraF
 repeat' split
 all_goals rfl
theorem qjx (m:M) (b:Int):(eraA m b).2.np=m.np:=by
 unfold eraA eraF
 repeat' split
 all_goals rfl
theorem qhE (m:M) (b p:Int) (s:List UInt8):(progA m b p s).2.nb=m.nb:=by
 unfold progA progF
 repeat' split
 all_goals rfl
theorem qcL (m:M) (b p:Int) (s:List UInt8):(progA m b p s).2.np=m.np:=by
 unfold progA progF
 repeat' split
 all_goals rfl
def eraAll (m:M):Nat→M × (Nat→Bool)
 | 0=>(m,fun _=>false)
 | k+1=>((eraA (eraAll m k).1 (k:Nat)).2,if (eraA (eraAll m k).1 (k:Nat)).1 then (fun j=>j==k||(eraAll m k).2 j) else (eraAll m k).2)
theorem qgf (m:M):∀ k,(eraAll m k).1.nb=m.nb
 | 0=>rfl
 | k+1=>by rw [eraAll];exact (qjk _ _).trans (qgf m k)
theorem qdy {m:M} (h:WF m):∀ k,WF (eraAll m k).1
 | 0=>h
 | k+1=>by rw [eraAll];exact qes (qdy h k) _
theorem qkK (w:World) (lo hi cb:Nat) (L:Loc) (m:M) (hw:WF m) (h:CP w lo hi cb L m) (hsz:hi≤w.heap.size) :
 Calls Tryz.prog 74 #[.pointer (some ⟨cb,0,none⟩)] w fun e w'=>e=.returned (.map (some w.heap.size))∧CP w' lo hi cb L (eraAll m m.nb).1∧BlAt w' w.heap.size m.nb (eraAll m m.nb).2∧Only lo hi w w':=by
 have h32:=hw.nb2;obtain ⟨W0,hW0⟩:∃ W0,W0=w.alloc (.map #[] 0):=⟨_,rfl⟩;have hbW:Below w.heap.size w W0:=by rw [hW0];exact (Below.refl _ w).alloc (Nat.le_refl _) _
 have hC0:CP W0 lo hi cb L m:=MemX.below h hsz hbW;have hS0:BlAt W0 w.heap.size 0 (fun _=>false):=by rw [hW0];exact qg0 w
 have HBl:=hidI (blocks_any W0 lo hi cb L m hC0);have HC0:=hidI hC0;have HS0:=hidI hS0;have HO0:Hid (Only lo hi w W0):=hidI (Only.of_below hbW);have HW0:=hidI hW0;have HW:=hidI hw;have hmk:=make92 w;rw [←hW0] at hmk;obtain ⟨g,hg⟩:∃ g,g=w.heap.size:=⟨_,rfl⟩;rw [←hg] at HS0 hsz hmk ⊢;have Hg:=hidI hg;obtain ⟨nb,hnb⟩:∃ nb,nb=m.nb:=⟨_,rfl⟩;rw [←hnb] at HBl h32 ⊢;have Hnb:=hidI hnb;clear h hw hbW hC0 hS0 hW0 hnb hg;go_enter Tryz.func74,Tryz.ntmps74
 go_wp2_with fail;refine HBl.out.mono ?_;rintro e w' ⟨rfl,hw⟩;have hw':=hw.symm;subst hw';clear hw;go_wp2_with fail
 go_loopw [8] (fun i wr=>∃ k:Nat,k≤nb∧i=.int .i64 k∧Hid (CP wr lo hi cb L (eraAll m k).1)∧Hid (BlAt wr g k (eraAll m k).2)∧Hid (Only lo hi w wr)) (fun i _=>nb - (intOf i).toNat)
 case atStart=>exact ⟨0,Nat.zero_le _,rfl,HC0,HS0,HO0⟩
 case round =>
  clear HC0 HS0 HO0 HW0 HBl;obtain ⟨k,hk,rfl,HC,HS,HO⟩:=hrel;have hgs:g<wr.heap.size:=HS.out.lt;by_cases hlt:k<nb
  ·have A:=hidI (qkT wr lo hi cb L (eraAll m k).1 (k:Nat) (qdy HW.out k) HC.out (by omega));obtain ⟨r,hr⟩:∃ r,r=(eraA (eraAll m k).1 (k:Nat)).1:=⟨_,rfl⟩;have Hst:Hid (eraAll m (k+1)=((eraA (eraAll m k).1 (k:Nat)).2,if r then (fun j=>j==k||(eraAll m k).2 j) else (eraAll m k).2)):=hidI (by rw [hr];rfl);rw [←hr] at A;clear hr;go_wp2_with fail;refine A.out.mono ?_;rintro e w1 ⟨rfl,hC1,hO1⟩;have hS1:BlAt w1 g k (eraAll m k).2:=HS.out.of_block (hO1.block g hgs (by omega));have HC1:Hid (CP w1 lo hi cb L (eraAll m (k+1)).1):=hidI (by rw [Hst.out];exact hC1);have HO1:=hidI (HO.out.trans hO1);have hgs1:=Nat.lt_of_lt_of_le hgs hO1.size;have HS1:=hidI hS1;clear A hC1 hO1 HC HS HO hS1;cases r with
   | true =>
     have A2:=hidI (qeE g k k _ w1 HS1.out (by omega) (by omega));go_wp2_with fail;refine A2.out.mono ?_;rintro e V ⟨rfl,hSV,hmV⟩;have HCV:Hid (CP V lo hi cb L (eraAll m (k+1)).1):=hidI (MemX.of_blocks HC1.out fun j _ h2=>hmV.grown.block j (by omega) (fun e=>by cases e;omega));have HSV:Hid (BlAt V g (k+1) (eraAll m (k+1)).2):=hidI (by rw [Hst.out];exact hSV);have HOV:Hid (Only lo hi w V):=hidI ⟨hmV.grown.os.trans HO1.out.os,hmV.grown.tape.trans HO1.out.tape,hmV.grown.output.trans HO1.out.output,Nat.le_trans HO1.out.size hmV.grown.size,fun j hj hn=>(hmV.grown.block j (Nat.lt_of_lt_of_le hj HO1.out.size) (fun e=>by cases e;have:=Hg.out;omega)).trans (HO1.out.block j hj hn)⟩;clear hSV hmV HS1 HC1 HO1 A2;go_wp2;go_roundw
     case rel=>exact ⟨k+1,by omega,by go_num,HCV,HSV,HOV⟩
     case measure=>simp [intOf];omega
   | false =>
     have HSV:Hid (BlAt w1 g (k+1) (eraAll m (k+1)).2):=hidI (by rw [Hst.out];exact HS1.out.mono (by omega));go_wp2;go_roundw
     case rel=>exact ⟨k+1,by omega,by go_num,HC1,HSV,HO1⟩
     case measure=>simp [intOf];omega
  ·have hkn:k=nb:=by omega
   subst hkn;go_wp2;go_ret
   exact ⟨rfl,HC.out,HS.out,HO.out⟩
end Go.Proofs.YtodmdkhdbfbfgabGreatDoor.S1
namespace Go.Proofs.YtodmdkhdbfbfgabGreatDoor
open Go.RowKit Go.Nt
theorem hidI {p:Prop} (h:p):Hid p:=h
def txt (l:List UInt8):ByteArray:=⟨l.toArray⟩
theorem qab (l:List UInt8):(txt l).size=l.length:=by simp [txt,ByteArray.size]
theorem qhD (l:List UInt8):(txt l).data.toList=l:=rfl
theorem qm3 (s:ByteArray):s=txt s.data.toList:=(Lib.mk_data s).symm
theorem qaV (s:List UInt8) (k:Nat) (h:k<(txt s).size):(txt s)[k]'h=s.getD k 0:=by
 have h':k<s.length:=by rw [qab] at h;exact h
 show s.toArray[k]=_;simp [List.getD,h']
theorem qah (l:List UInt8) (a b:Nat):(txt l).extract a b=txt ((l.drop a).take (b - a)):=by
 rw [Lib.extract_eq];rfl
theorem qaH (l:List UInt8):(txt l).toList=l:=by rw [Lib.toList_data];rfl
theorem qgI (a b:List UInt8):((txt a).toList==(txt b).toList)=decide (a=b):=by
 rw [qaH,qaH];by_cases h:a=b<;>simp [h]
theorem qaB {k:IntKind} {a b:Int} (h:a=b):Ending.returned (.int k a)=.returned (.int k b):=by rw [h]
theorem qaa {w:World} {g:Nat} {o:Obj} (h:w.heap[g]? = some o):g<w.heap.size:=(Array.getElem?_eq_some_iff.1 h).1
def ItAt (w:World) (b o:Nat) (x:It):Prop:=
 w.cell? ⟨b,o,none⟩=some (.string (txt x.path))∧w.cell? ⟨b,o+1,none⟩=some (.bool x.dir)∧w.cell? ⟨b,o+2,none⟩=some (.string (txt x.data)) ∧
 w.cell? ⟨b,o+3,none⟩=some (.int .i64 x.mode)∧w.cell? ⟨b,o+4,none⟩=some (.int .i64 x.time)
theorem ItAt.lt {w:World} {b o:Nat} {x:It} (h:ItAt w b o x):b<w.heap.size:=World.block_lt_of_cell? w _ h.1
theorem ItAt.of_block {w w':World} {b o:Nat} {x:It} (h:ItAt w b o x) (hb:w'.heap[b]? = w.heap[b]?):ItAt w' b o x:=
 ⟨(World.cell?_of_block hb).trans h.1,(World.cell?_of_block hb).trans h.2.1,(World.cell?_of_block hb).trans h.2.2.1,(World.cell?_of_block hb).trans h.2.2.2.1,(World.cell?_of_block hb).trans h.2.2.2.2⟩
theorem ItAt.below {w w':World} {B b o:Nat} {x:It} (h:ItAt w b o x) (hb:Below B w w') (hlt:b<B):ItAt w' b o x:=h.of_block (hb.block b hlt)
def ItsIn (w:World) (a:Option Addr) (l:List It):Prop:=
 l≠[]→∃ b off,a=some ⟨b,off,none⟩∧∀ k (x:It),l[k]? = some x→ItAt w b (off+k*5) x
theorem ItsIn.below {w w':World} {a:Option Addr} {l:List It} (h:ItsIn w a l) (hb:Below w.heap.size w w'):ItsIn w' a l:=by
 intro hn;obtain ⟨b,off,rfl,hc⟩:=h hn;exact ⟨b,off,rfl,fun k x hk=>(hc k x hk).below hb (hc k x hk).lt⟩
theorem Tryz.info9:(Tryz.prog.info? 9).map (fun i=>(i.zero,i.size,i.bytes))=some (some (.string ByteArray.empty),1,16):=by kernel_rfl
theorem qeu {w:World} {base:Nat} {e:TypeId} {size:Nat} {v:Value} {n:Nat} {xs:List Value} (h:w.ownsRow base e size v (n+1) xs):∃ g cap,v=.slice (some ⟨g,0,none⟩) (n+1) cap:=by
 rcases h.2 with ⟨_,h0⟩ | ⟨g,cap,cur,rfl,_⟩
 ·exact absurd h0 (by omega)
 ·exact ⟨g,cap,rfl⟩
end Go.Proofs.YtodmdkhdbfbfgabGreatDoor
namespace Go.Proofs.YtodmdkhdbfbfgabGreatDoor
open Go.RowKit Go.Nt
def isOf (t:TypeId):Obj→Bool
 | .cells _ t' _=>t'==t
 | _=>false
structure But (t:TypeId) (w w':World):Prop where
 size:w.heap.size≤w'.heap.size
 block:∀ (k:Nat) (o:Obj),w.heap[k]? = some o→isOf t o=false→w'.heap[k]? = some o
namespace But
variable {t:TypeId} {a b c:World}
theorem refl (t:TypeId) (w:World):But t w w:=⟨Nat.le_refl _,fun _ _ h _=>h⟩
theorem trans (h:But t a b) (k:But t b c):But t a c:=⟨Nat.le_trans h.size k.size,fun i o e n=>k.block i o (h.block i o e n) n⟩
theorem alloc (h:But t a b) (o:Obj):But t a (b.alloc o):=h.trans ⟨by simp,fun k _ e _=>(Below.heap_alloc b o k (qaa e)).trans e⟩
theorem below (h:But t a b) (hb:Below b.heap.size b c):But t a c:=h.trans ⟨hb.size,fun k _ e _=>(hb.block k (qaa e)).trans e⟩
theorem grown (h:But t a b) {base n s:Nat} {v:Value} {xs:List Value} (hown:b.ownsRow base t s v n xs) (hg:b.grownBy c v.ownBlock):But t a c:=by
 refine h.trans ⟨hg.size,fun k o e hn=>(hg.block k (qaa e) (fun he => ?_)).trans e⟩;rcases hown.2 with ⟨rfl,_⟩ | ⟨g,cap,cur,rfl,_,hh,_⟩
 ·simp [Value.ownBlock] at he
 ·simp [Value.ownBlock] at he;subst he;rw [hh] at e;cases e
  simp [isOf] at hn
theorem cells (h:But t a b) {k:Nat} {x:Array Value} {t':TypeId} {f:Nat × Nat} (e:a.heap[k]? = some (.cells x t' f)) (hne:t'≠t):b.heap[k]? = some (.cells x t' f):=
 h.block k _ e (by simp [isOf,hne])
end But
end Go.Proofs.YtodmdkhdbfbfgabGreatDoor
namespace Go.Proofs.YtodmdkhdbfbfgabGreatDoor
open Go.RowKit Go.Nt
def bv (l:Bs):List Value:=l.map fun b=>Value.int .u8 b.toNat
theorem qaW (l:Bs):(bv l).length=l.length:=by simp [bv]
theorem qaL (a b:Bs):bv (a++b)=bv a++bv b:=by simp [bv]
theorem qfe (l:Bs):Lib.strCells (txt l)=bv l:=rfl
theorem Tryz.info5:(Tryz.prog.info? 5).map (fun i=>(i.zero,i.size,i.bytes))=some (some (.int .u8 0),1,1):=by kernel_rfl
theorem qbZ (n:Int) (h₀:0≤n) (h₁:n<2^62):IntKind.i64.wrap n=n:=by rw [IntKind.wrap_i64];omega
theorem or15 (n:Int) (h0:0≤n) (h1:n≤4095):bits .or .i64 n 32768=n+32768:=by
 obtain ⟨k,rfl⟩:=Int.eq_ofNat_of_zero_le h0;rw [show (32768:Int)=((32768:Nat):Int) from rfl,(bits_nat .i64 62 (by decide) qbZ k 32768 (by omega) (by omega)).2]
 have:k ||| 32768=k+32768:=by
  rw [Nat.or_comm,show (32768:Nat)=2^15*1 from rfl,←Nat.two_pow_add_eq_or_of_lt (by omega:k<2^15) 1];omega
 rw [this];rfl
theorem or8 (n:Nat) (b:Nat) (hn:n<1099511627776) (hb:b<256):bits .or .i64 ((n:Int)*256) (b:Int)=((n*256+b:Nat):Int):=by
 rw [bits_join .i64 62 (by decide) qbZ 8 _ _ (by omega) (by omega) (by omega) (by omega) (by omega) (by omega)];simp
def Bytes (w:World) (B:Nat) (v:Value) (l:Bs):Prop:=w.ownsRow B 5 1 v l.length (bv l)
theorem Bytes.slice {w:World} {B:Nat} {v:Value} {l:Bs} (h:Bytes w B v l):∃ a c,v=.slice a l.length c:=by
 rcases h.2 with ⟨rfl,h0⟩ | ⟨g,cap,cur,rfl,_⟩
 ·exact ⟨none,0,by rw [h0]⟩
 ·exact ⟨_,_,rfl⟩
theorem qhJ (k j n:Nat) (h:j<k):enc (j+1) (n/256^(k - (j+1)))=enc j (n/256^(k - j))++[UInt8.ofNat (n/256^(k - (j+1)))]:=by
 rw [enc,Nat.div_div_eq_div_mul,←Nat.pow_succ,show (k - (j+1)).succ=k - j by omega]
theorem qas (B:Nat) (v:Value) (l:Bs) (k n:Nat) (w:World) (hB:B≤w.heap.size) (hv:Bytes w B v l) (hk:k≤4) (hl:l.length≤1000000) (hn:n<1099511627776) :
 Calls Tryz.prog 108 #[v,.int .i64 k,.int .i64 n] w fun e w'=>∃ v',e=.returned v'∧Bytes w' B v' (l++enc k n)∧Below B w w'∧But 5 w w':=by
 obtain ⟨i0,hi,hz0,hz1,hz2⟩:=info_parts Tryz.info5;have Hv:=hidI hv;clear hv;go_enter Tryz.func108,Tryz.ntmps108
 go_wp2
 go_loopw [0,7] (fun b i wr=>∃ j:Nat,j≤k∧i=.int .i64 ((k:Int) - j - 1)∧Hid (Bytes wr B b (l++enc j (n/256^(k - j))))∧Hid (Below B w wr)∧Hid (But 5 w wr)) (fun _ i _=>((intOf i)+1).toNat)
 case atStart=>exact ⟨0,Nat.zero_le _,by go_num,hidI (by simpa [enc] using Hv.out),hidI (Below.refl _ _),hidI (But.refl _ _)⟩
 case round =>
  obtain ⟨j,hj,rfl,Hb,Hbel,Hbut⟩:=hrel;rcases Nat.lt_or_ge j k with hlt | hge
  ·obtain ⟨m,hm⟩:∃ m,m=k - (j+1):=⟨_,rfl⟩;have hmi:(k:Int) - j - 1=(m:Nat):=by omega
   have hm4:m≤3:=by omega
   have Hs:=hidI (qhJ k j n hlt);rw [←hm] at Hs;have Hj:=hidI hmi;have Hm:=hidI hm;rw [hmi];clear hmi hm;obtain ⟨a,c,rfl⟩:=Hb.out.slice;obtain ⟨L,hL⟩:∃ L,L=(l++enc j (n/256^(k - j))).length:=⟨_,rfl⟩;have hLl:L≤1000004:=by rw [hL,List.length_append,qac];omega
   rw [←hL] at Hb ⊢;have HL:=hidI hL;have Ho:Hid (wr.ownsRow B 5 1 (.slice a L c) L (bv (l++enc j (n/256^(k - j))))):=hidI (by have:=Hb.out;unfold Bytes at this;rwa [←hL] at this);have hsz:=Hbel.out.size;clear hL;go_wp2_with (at_builtin;refine wpList_append_own _ rfl (.tmp 14) (.tmp 20) 50 rfl B 5 i0 _ 1 1 Tryz.underlying50 hi hz0 hz1 hz2 rfl (by decide) _ _ _ rfl (Ho.out.alloc _) ⟨wr.heap.size,0,none⟩ 1 1 [.int .u8 ((n:Int)/2^(8*m)%256)] rfl rfl ?c1 ?c2 ?c3 ?c4 ?c5 ?_)
   case c1=>exact cell_one_new _ _ _
   case c2=>intro u hu;simp at hu;subst hu;rfl
   case c3=>unfold maxLen;omega
   case c4=>omega
   case c5=>simp;omega
   intro v3 w3 hown3 hgrow _;have hbel3:Below B w w3:=(Hbel.out.alloc (by omega) _).grown hgrow (by simp;omega) (fun q hq=>(Ho.out.lt q hq).1);have hbut3:But 5 w w3:=(Hbut.out.alloc _).grown (Ho.out.alloc _) hgrow;have hB3:Hid (Bytes w3 B v3 (l++enc (j+1) (n/256^(k - (j+1))))):=by
    have h1:=HL.out;have h2:=Hs.out;have h3:=Hm.out;refine hidI ?_;unfold Bytes;rw [←h3,h2,←List.append_assoc,qaL,List.length_append,←h1];have h4:bv [UInt8.ofNat (n/256^m)]=[.int .u8 ((n:Int)/2^(8*m)%256)]:=by
     simp only [bv,List.map_cons,List.map_nil,UInt8.toNat_ofNat'];rw [show (256:Nat)=2^8 from rfl,←Nat.pow_mul]
     congr 2
    rw [h4];exact hown3
   go_wp2;go_roundw
   case rel=>exact ⟨j+1,by omega,by have:=Hj.out;go_num,hB3,hidI hbel3,hidI hbut3⟩
   case measure=>simp [intOf]
  ·have hjk:j=k:=by omega
   subst hjk;have e1:(j:Int) - j - 1 = -1:=by omega
   rw [e1];go_wp2;go_ret
   refine ⟨_,rfl,?_,Hbel.out,Hbut.out⟩
   have:=Hb.out
   simpa using this
end Go.Proofs.YtodmdkhdbfbfgabGreatDoor
