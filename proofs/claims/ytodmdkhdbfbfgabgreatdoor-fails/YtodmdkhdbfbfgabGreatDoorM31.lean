/- Lemmas. -/
import Derived.Lib.Walk
import Derived.Shelf.SlIterI.Nil
import Derived.Shelf.SortM.Plain
import Derived.Shelf.SortM.SortNone
import Derived.Ground.GgzProg
import Derived.Ground.SlgmProg
import Derived.Ground.Names2Prog
import Derived.Ground.SlgnProg
import Derived.Ground.SlsfProg
import Derived.Shelf.Strings.BuilderK
import Derived.Test.YtodmdkhdbfbfgabGreatDoorM30
set_option linter.unusedVariables false
set_option linter.unusedSimpArgs false
set_option maxRecDepth 100000
set_option maxHeartbeats 8000000
namespace Go.Proofs.YtodmdkhdbfbfgabGreatDoor.S1
open Go.RowKit Pk
theorem Tryz.info3':(Tryz.prog.info? 3).map (fun i=>(i.zero,i.size,i.bytes))=some (some (.int .i64 0),1,8):=by kernel_rfl
theorem qnr (w:World) (b n c:Nat) (z:Nat→Int) (h0:0<n) (hn:n≤1000) (hz:∀ i,i<n→w.cell? ⟨b,i,none⟩=some (.int .i64 (z i))) :
 Calls Tryz.prog 207 #[.slice (some ⟨b,0,none⟩) n c] w fun e w'=>w'=w∧∃ m:Int,e=.returned (.int .i64 m)∧(∀ i,i<n→z i≤m)∧∃ i,i<n∧z i=m:=by
 have x0:=hz 0 h0;have hn1:¬(n:Int)<1:=by omega
 have Hz:=hidI hz;clear hz;go_enter Tryz.func207,Tryz.ntmps207
 go_wp2;clear x0
 go_loopw [4,3] (fun i m wr=>wr=w∧∃ k:Nat,∃ x:Int,i=.int .i64 (k:Nat)∧m=.int .i64 x∧1≤k∧k≤n∧Hid ((∀ j,j<k→z j≤x)∧∃ j,j<k∧z j=x)) (fun i _ _=>n - (intOf i).toNat)
 case atStart=>exact ⟨rfl,1,z 0,rfl,rfl,by omega,by omega,⟨fun j hj=>by rw [show j=0 by omega];exact Int.le_refl _,0,by omega,rfl⟩⟩
 case round =>
  obtain ⟨rfl,k,x,rfl,rfl,hk1,hk2,Hx⟩:=hrel;by_cases hlt:k<n
  ·have x1:=Hz.out k hlt;by_cases hm:x≤z k
   ·have Hx2:Hid ((∀ j,j<k+1→z j≤z k)∧∃ j,j<k+1∧z j=z k):=⟨fun j hj=>by
     by_cases e:j=k
     ·subst e;exact Int.le_refl _
     exact Int.le_trans (Hx.out.1 j (by omega)) hm,k,by omega,rfl⟩
    generalize z k=y at *
    have hmax:max x y=y:=by omega
    go_wp2;go_roundw
    case rel=>exact ⟨by trivial,k+1,y,by go_num,rfl,by omega,by omega,Hx2⟩
    case measure=>simp [intOf];omega
   have Hx2:Hid ((∀ j,j<k+1→z j≤x)∧∃ j,j<k+1∧z j=x):=⟨fun j hj=>by
    by_cases e:j=k
    ·subst e;omega
    ·exact Hx.out.1 j (by omega),by
    obtain ⟨j,hj,e⟩:=Hx.out.2;exact ⟨j,by omega,e⟩⟩
   generalize z k=y at *
   have hmax:max x y=x:=by omega
   go_wp2;go_roundw
   case rel=>exact ⟨by trivial,k+1,x,by go_num,rfl,by omega,by omega,Hx2⟩
   case measure=>simp [intOf];omega
  have hkn:k=n:=by omega
  subst hkn;go_wp2;go_ret
  exact ⟨rfl,x,rfl,Hx.out.1,Hx.out.2⟩
def intsV (l:List Nat):List Value:=l.map fun x=>.int .i64 (x:Nat)
theorem qlV (w:World) (n:Nat) (h0:0<n) (hn:n≤1000) :
 Calls Tryz.prog 248 #[.slice none 0 0,.int .i64 (n:Nat)] w fun e w'=>∃ G,e=.returned (.slice (some ⟨w.heap.size,0,none⟩) 0 G)∧w'.ownsRow w.heap.size 3 1 (.slice (some ⟨w.heap.size,0,none⟩) 0 G) 0 []∧Below w.heap.size w w':=by
 obtain ⟨i0,hi,hz0,hz1,hz2⟩:=info_parts Tryz.info3';have hold:(Builtin.firstCells i0.size 0 (.slice none 0 0)).run Tryz.prog w.drew=.ok ([]:List Value).toArray w.drew:=run_firstCells_none w.drew i0.size 0 0 0;have hr:=fun ty=>Lib.run_append_grow_zeros w 22 3 ty 3 i0 (.int .i64 0) .i64 .i64 Tryz.underlying22 Tryz.underlying3 hi hz0 none 0 0 [] hold n (by omega) (by omega) (by omega) (by omega)
  (by rw [hz2];omega) (by rw [hz2,Nat.zero_add];exact growslice_fits h0 (by omega))
 rw [Nat.zero_add] at hr;obtain ⟨G,hG⟩:∃ G,G=grownCap w n 0 3:=⟨_,rfl⟩;have hGn:n≤G:=by rw [hG];exact grownCap_ge w _ _ _
 have hGm:G≤maxLen:=by rw [hG];exact grownCap_le_maxLen w n 0 3 (by unfold maxLen;omega)
 have hG63:G≤9223372036854775807:=by unfold maxLen at hGm;omega
 rw [←hG] at hr;obtain ⟨C,hC⟩:∃ C:Array Value,C=([]:List Value).toArray++Builtin.zeroCells (Value.int IntKind.i64 0).cells n++Builtin.zeroCells (Value.int IntKind.i64 0).cells (G - n):=⟨_,rfl⟩;rw [←hC] at hr;have hCs:C.size=G:=by
  rw [hC,Array.size_append,Array.size_append,size_zeroCells,size_zeroCells]
  have:(Value.int IntKind.i64 0).cells.size=1:=rfl
  rw [this];simp;omega
 have Hown:Hid ((w.drew.alloc (.cells C 3)).ownsRow w.heap.size 3 1 (.slice (some ⟨w.heap.size,0,none⟩) 0 G) 0 []):=⟨rfl,.inr ⟨_,G,C,rfl,Nat.le_refl _,heap_alloc_new _ _,by omega,hGm,by omega,by simp⟩⟩;have Hb:Hid (Below w.heap.size w (w.drew.alloc (.cells C 3))):=(Below.refl _ w).drew.alloc (Nat.le_refl _) _;clear hC hCs hG hold;go_enter Tryz.func248,Tryz.ntmps248
 go_wp2_with (at_builtin;refine Lib.wpList_append_run _ rfl _ _ _ _ rfl _ _ rfl rfl _ _ (hr _) ?_);go_ret
 exact ⟨G,rfl,Hown.out,Hb.out⟩
theorem qeW {w:World} {B b n c:Nat} {l:List Nat} (h:w.ownsRow B 3 1 (.slice (some ⟨b,0,none⟩) n c) n (intsV l)):∀ j u,(intsV l)[j]? = some u→w.cell? ((⟨b,0,none⟩:Addr).add j)=some u:=by
 intro j u hu;have hj:j<n:=by
  rcases Nat.lt_or_ge j n with h2 | h2
  ·exact h2
  rw [List.getElem?_eq_none (by rw [h.1];omega)] at hu;cases hu
 have hadd:(⟨b,0,none⟩:Addr).add j=⟨b,j,none⟩:=by unfold Addr.add;split<;>simp_all
 rw [hadd,h.cellAt j (by omega),hu]
theorem qdz (l:List Nat):∀ u∈intsV l,u.oneCell'=true:=by
 intro u hu;unfold intsV at hu;simp at hu;obtain ⟨x,_,rfl⟩:=hu;rfl
theorem qdg {w w':World} {B K n:Nat} {e:TypeId} {size:Nat} {v:Value} {xs:List Value} (h:w.ownsRow B e size v n xs) (hb:Below K w w') (hK:w.heap.size≤K):w'.ownsRow B e size v n xs:=by
 refine ⟨h.1,?_⟩;rcases h.2 with h1 | ⟨g,cap,cur,h1,h2,h3,h4⟩
 ·exact .inl h1
 exact .inr ⟨g,cap,cur,h1,h2,(hb.block g (Nat.lt_of_lt_of_le (lt_of_heap h3) hK)).trans h3,h4⟩
theorem clone_ints (w:World) (b n c:Nat) (l:List Nat) (h0:0<n) (hn:n≤1000) (h:w.ownsRow 0 3 1 (.slice (some ⟨b,0,none⟩) n c) n (intsV l)) :
 Calls Tryz.prog 205 #[.slice (some ⟨b,0,none⟩) n c] w fun e w'=>∃ g cap,e=.returned (.slice (some ⟨g,0,none⟩) n cap)∧w'.ownsRow w.heap.size 3 1 (.slice (some ⟨g,0,none⟩) n cap) n (intsV l)∧Below w.heap.size w w':=by
 obtain ⟨i0,hi,hz0,hz1,hz2⟩:=info_parts Tryz.info3';have Hown:=hidI h;clear h;have q22:∀ (w:World) (a:Option Addr) (n c n' c':Nat),(binOp .eql 22 (.slice a n c) (.slice none n' c')).run Tryz.prog w=.ok (.bool a.isNone) w:=fun w a n c n' c'=>Lib.run_eql_slice_nil w _ _ a n c n' c' Tryz.underlying22
 go_enter Tryz.func205,Tryz.ntmps205
 go_wp2_with (at_builtin;refine wpList_append_lies _ rfl _ _ 22 rfl w.heap.size 3 i0 (.int .i64 0) 1 8 Tryz.underlying22 hi hz0 hz1 hz2 rfl (by decide) _ 0 [] rfl (World.ownsRow_made w #[] 0 (Nat.le_refl _) (Nat.zero_le _) rfl) ⟨b,0,none⟩ n c (intsV l) rfl ?qc1 ?qc2 ?qc3 ?qc7 ?qc4 ?qc5 ?qc6 (w.heap.size+1) ?qc8 ?_)
 case qc1=>exact Hown.out.1
 case qc2=>exact qeW (Hown.out.alloc _)
 case qc3=>exact qdz l
 case qc4=>unfold maxLen;omega
 case qc5=>omega
 case qc6=>simp
 case qc7=>omega
 case qc8=>simp
 intro g cap w1 hown hgrow hat hlt;have Hown1:=hidI hown;have Hb:=hidI (((Below.refl _ w).alloc (Nat.le_refl _) _).grown hgrow (by simp) (by intro k hk;simp [Value.ownBlock] at hk;omega));clear hown hgrow hat
 try rw [Nat.zero_add]
 go_wp2;go_ret
 exact ⟨g,cap,rfl,Hown1.out,Hb.out⟩
theorem qir (w:World) (sb ab an ac bb bn bc:Nat) (A B:List Nat) (ha0:0<an) (hb0:0<bn) (hn:an+bn≤1000) (hs:w.heap[sb]? = some (.cells #[.slice (some ⟨ab,0,none⟩) an ac,.slice (some ⟨bb,0,none⟩) bn bc] 22 (0,0)))
 (ha:w.ownsRow 0 3 1 (.slice (some ⟨ab,0,none⟩) an ac) an (intsV A)) (hb:w.ownsRow 0 3 1 (.slice (some ⟨bb,0,none⟩) bn bc) bn (intsV B)) :
 Calls Tryz.prog 236 #[.slice (some ⟨sb,0,none⟩) 2 2] w fun e w'=>∃ g cap,e=.returned (.slice (some ⟨g,0,none⟩) (an+bn) cap)∧w'.ownsRow w.heap.size 3 1 (.slice (some ⟨g,0,none⟩) (an+bn) cap) (an+bn) (intsV (A++B))∧Below w.heap.size w w':=by
 obtain ⟨i0,hi,hz0,hz1,hz2⟩:=info_parts Tryz.info3';have x0:w.cell? ⟨sb,0,none⟩=some (.slice (some ⟨ab,0,none⟩) an ac):=by rw [cell_of_row w sb 0 _ 22 (0,0) hs];rfl
 have x1:w.cell? ⟨sb,1,none⟩=some (.slice (some ⟨bb,0,none⟩) bn bc):=by rw [cell_of_row w sb 1 _ 22 (0,0) hs];rfl
 have Hs:=hidI hs;have Ha:=hidI ha;have Hb:=hidI hb;clear hs ha hb;go_enter Tryz.func236,Tryz.ntmps236
 go_wp2
 go_loopw [11,3] (fun i s wr=>w=wr∧((i=.int .i64 0∧s=.int .i64 0)∨(i=.int .i64 1∧s=.int .i64 (an:Nat))∨(i=.int .i64 2∧s=.int .i64 ((an:Int)+(bn:Int))))) (fun i _ _=>2 - (intOf i).toNat)
 case atStart=>exact ⟨rfl,.inl ⟨rfl,rfl⟩⟩
 case round =>
  obtain ⟨rfl,⟨rfl,rfl⟩ | ⟨rfl,rfl⟩ | ⟨rfl,rfl⟩⟩:=hrel
  ·have h1:¬(an:Int)<0:=by omega
   go_wp2;go_roundw
   case rel=>exact ⟨by trivial,.inr (.inl ⟨rfl,rfl⟩)⟩
   case measure=>simp [intOf]
  ·have h1:¬(an:Int)+(bn:Int)<0:=by omega
   go_wp2;go_roundw
   case rel=>exact ⟨by trivial,.inr (.inr ⟨rfl,rfl⟩)⟩
   case measure=>simp [intOf]
  have hgr:=hidI (qlV w (an+bn) (by omega) (by omega));rw [show ((an+bn:Nat):Int)=(an:Int)+(bn:Int) by omega] at hgr;go_wp2_with fail;refine hgr.out.mono ?_;rintro e w1 ⟨G,rfl,hown1,hbel1⟩;have Hown1:=hidI hown1;have Hbel1:=hidI hbel1;clear hown1 hbel1 hgr;go_wp2
  go_loopw [27,6] (fun i v wq=>Hid (Below w.heap.size w wq)∧((i=.int .i64 0∧∃ g c,v=.slice (some ⟨g,0,none⟩) 0 c∧Hid (wq.ownsRow w.heap.size 3 1 (.slice (some ⟨g,0,none⟩) 0 c) 0 []))∨(i=.int .i64 1∧∃ g c,v=.slice (some ⟨g,0,none⟩) an c∧Hid (wq.ownsRow w.heap.size 3 1 (.slice (some ⟨g,0,none⟩) an c) an (intsV A)))∨(i=.int .i64 2∧∃ g c,v=.slice (some ⟨g,0,none⟩) (an+bn) c∧Hid (wq.ownsRow w.heap.size 3 1 (.slice (some ⟨g,0,none⟩) (an+bn) c) (an+bn) (intsV (A++B)))))) (fun i _ _=>2 - (intOf i).toNat)
  case atStart=>exact ⟨Hbel1,.inl ⟨rfl,_,G,rfl,Hown1⟩⟩
  obtain ⟨Hbq,⟨rfl,g,cc,rfl,Hq⟩ | ⟨rfl,g,cc,rfl,Hq⟩ | ⟨rfl,g,cc,rfl,Hq⟩⟩:=hrel
  ·have hsb:=(Hbq.out.block sb (lt_of_heap Hs.out)).trans Hs.out;have y0:wr.cell? ⟨sb,0,none⟩=some (.slice (some ⟨ab,0,none⟩) an ac):=by rw [cell_of_row wr sb 0 _ 22 (0,0) hsb];rfl
   have Ha1:=hidI (qdg Ha.out Hbq.out (Nat.le_refl _));have hszq:=Hbq.out.size;clear hsb x0 x1;go_wp2_with (at_builtin;refine wpList_append_lies _ rfl _ _ 22 rfl w.heap.size 3 i0 (.int .i64 0) 1 8 Tryz.underlying22 hi hz0 hz1 hz2 rfl (by decide) _ 0 [] rfl Hq.out ⟨ab,0,none⟩ an ac (intsV A) rfl Ha1.out.1 (qeW Ha1.out) (qdz A) (by omega) (by unfold maxLen;omega) (by omega) (by omega) wr.heap.size rfl ?_);intro g2 cap2 w2 hown hgrow hat hlt;have Hown2:Hid (w2.ownsRow w.heap.size 3 1 (.slice (some ⟨g2,0,none⟩) an cap2) an (intsV A)):=by
    show w2.ownsRow _ _ _ _ _ _;simpa using hown
   have Hb2:=hidI (Hbq.out.grown hgrow (by omega) (fun q hq=>(Hq.out.lt q hq).1));clear hown hgrow hat y0 hlt
   try rw [Nat.zero_add]
   go_wp2;go_roundw
   case rel=>exact ⟨Hb2,.inr (.inl ⟨rfl,g2,cap2,by simp,Hown2⟩)⟩
   case measure=>simp [intOf]
  ·have hsb:=(Hbq.out.block sb (lt_of_heap Hs.out)).trans Hs.out;have y0:wr.cell? ⟨sb,1,none⟩=some (.slice (some ⟨bb,0,none⟩) bn bc):=by rw [cell_of_row wr sb 1 _ 22 (0,0) hsb];rfl
   have Hb1:=hidI (qdg Hb.out Hbq.out (Nat.le_refl _));have hszq:=Hbq.out.size;clear hsb x0 x1;go_wp2_with (at_builtin;refine wpList_append_lies _ rfl _ _ 22 rfl w.heap.size 3 i0 (.int .i64 0) 1 8 Tryz.underlying22 hi hz0 hz1 hz2 rfl (by decide) _ an (intsV A) rfl Hq.out ⟨bb,0,none⟩ bn bc (intsV B) rfl Hb1.out.1 (qeW Hb1.out) (qdz B) (by omega) (by unfold maxLen;omega) (by omega) (by omega) wr.heap.size rfl ?_);intro g2 cap2 w2 hown hgrow hat hlt;have Hown2:Hid (w2.ownsRow w.heap.size 3 1 (.slice (some ⟨g2,0,none⟩) (an+bn) cap2) (an+bn) (intsV (A++B))):=by
    show w2.ownsRow _ _ _ _ _ _;unfold intsV at hown ⊢;rw [List.map_append];exact hown
   have Hb2:=hidI (Hbq.out.grown hgrow (by omega) (fun q hq=>(Hq.out.lt q hq).1));clear hown hgrow hat y0 hlt;go_wp2;go_roundw
   case rel=>exact ⟨Hb2,.inr (.inr ⟨rfl,g2,cap2,rfl,Hown2⟩)⟩
   case measure=>simp [intOf]
  go_wp2;go_ret
  exact ⟨g,cc,rfl,Hq.out,Hbq.out⟩
end Go.Proofs.YtodmdkhdbfbfgabGreatDoor.S1
namespace Go.Proofs
open Go.RowKit Go.Maps Go.Sort Go.Shelf
shelf_lay_g SlLaysZI.n7 Ggz 7 at Tryz 92 as Tryz.keysA
shelf_lay_g SlLaysZI.n6 Ggz 6 at Tryz 91 as Tryz.sortedA
shelf_lay_g SlLaysM.n5 Slgm 5 at Tryz 125 as Tryz.sortA
theorem Tryz.sortsA (m:Nat):AnyZI.SortsIn Tryz.prog Tryz.sortedA_ren Fence.wide m:=
 ⟨fun blk off cap ss W hH hblk hsz=>callsIn_wide.2 (AnyM.slices_Sort_int Tryz.sortA blk off cap ss W hH hblk hsz),
  fun p cap W=>callsIn_wide.2 (AnyM.slices_Sort_int_none Tryz.sortA p cap W)⟩
namespace YtodmdkhdbfbfgabGreatDoor.S1
theorem qkl (mb:Option Nat) (w:World):Calls Tryz.prog 92 #[.map mb] w fun e w'=>e=.returned (.func (.func 126) #[] #[.pointer (some ⟨w.heap.size,0,none⟩)])∧w'=w.alloc (.cells #[.map mb] 160):=
 (callsIn_wide (n:=5)).1 (AnyZI.keys_in Tryz.keysA Fence.wide 5 trivial rfl mb w)
theorem qgD {H:Type} {R:Value→Option (DataW H × List MemPlace)} (w:World) (Bm g n:Nat) (D:DataW H) (hBm:Bm<w.heap.size) (hm:w.cell? ⟨Bm,0,none⟩=some (.map (some g))) (hown:w.ownsMap Tryz.prog 3 R g n D) (hn:Maps.size D≤100000) :
 Calls Tryz.prog 91 #[.func (.func 126) #[] #[.pointer (some ⟨Bm,0,none⟩)]] w fun e w'=>∃ (v:Value) (ss:List Int),e=.returned v∧ss.Perm (intKeys D)∧w'.ownsRow w.heap.size 3 1 v ss.length ((ss.mergeSort (fun x y=>decide (x≤y))).map encZ)∧(v=.slice none 0 0↔ss=[])∧Below w.heap.size w w':=by
 have hseq:SeqGives Fence.wide 2 Tryz.prog 126 #[.pointer (some ⟨Bm,0,none⟩)] encZ (fun ss=>ss.Perm (intKeys D)) (Maps.size D) w:=
  AnyZI.keys_gives (ρ:=Tryz.keysA_ren) { Tryz.keysA with } Fence.wide _ trivial rfl (by omega) Bm g n D _ hBm hm hown
 have cS:=AnyZI.sorted_in Tryz.sortedA Fence.wide 5 trivial trivial trivial trivial rfl (by omega) (Tryz.sortsA _) (enters_of Tryz.func125 (by kernel_rfl) rfl) 126 #[.pointer (some ⟨Bm,0,none⟩)] trivial (enters_of Tryz.func126 (by kernel_rfl) rfl) _ _ (by unfold maxLen;omega) (by omega) _ hseq;change CallsIn _ _ Tryz.prog 91 _ _ _ at cS;exact (callsIn_wide (n:=5)).1 cS
end YtodmdkhdbfbfgabGreatDoor.S1
end Go.Proofs
namespace Go.Proofs
open Go.Shelf
def Tryz.lays169_ren:Go.Shelf.Ren:=⟨fun | 169=>89 | n=>n,fun | 70=>150 | 9=>9 | 0=>0 | 72=>152 | 37=>50 | 127=>181 | 3=>3 | 5=>5 | n=>n,fun | n=>n⟩
theorem Tryz.lays169:Go.Proofs.Lays.n169 Tryz.prog Tryz.lays169_ren:={
 mixed:=by kernel_rfl
 f169:=Tryz.func89.trans (congrArg some (by kernel_rfl))
 t0:=Tryz.underlying0
 a0:=Tryz.isAgg0
 z0:=Tryz.sizeOf0
 v0:=Tryz.zeroValue0
 t3:=Tryz.underlying3
 a3:=Tryz.isAgg3
 z3:=Tryz.sizeOf3
 v3:=Tryz.zeroValue3
 t9:=Tryz.underlying9
 a9:=Tryz.isAgg9
 z9:=Tryz.sizeOf9
 v9:=Tryz.zeroValue9
 t37:=Tryz.underlying50
 a37:=Tryz.isAgg50
 z37:=Tryz.sizeOf50
 v37:=Tryz.zeroValue50
 t70:=Tryz.underlying150
 a70:=Tryz.isAgg150
 z70:=Tryz.sizeOf150
 v70:=Tryz.zeroValue150
 t72:=Tryz.underlying152
 a72:=Tryz.isAgg152
 z72:=Tryz.sizeOf152
 v72:=Tryz.zeroValue152
 t127:=Tryz.underlying181
 a127:=Tryz.isAgg181
 z127:=Tryz.sizeOf181
 v127:=Tryz.zeroValue181 }
theorem Tryz.Builder_Extra_169:Builder.Extra Tryz.prog Tryz.lays169_ren:={
 sizeBuilder:=by kernel_rfl
 liesBuilder:=by kernel_rfl
 t5:=Tryz.underlying5
 a5:=Tryz.isAgg5
 z5:=Tryz.sizeOf5
 v5:=Tryz.zeroValue5
 infoByte:=by kernel_rfl
 cellsByte:=by kernel_rfl
 sizeByte:=by kernel_rfl
 neB5:=by decide }
open Go.RowKit in
theorem Tryz.Builder_String_any_k (B b:Nat) (l:List UInt8) (w:World) (h:Lib.IsBuilderF 152 5 B b (Lib.byteCells l) w) (hBw:B≤w.heap.size) :
 Calls Tryz.prog 89 #[.pointer (some ⟨b,0,none⟩)] w fun e w'=>e=.returned (.string ⟨l.toArray⟩)∧(Lib.IsBuilderF 152 5 B b (Lib.byteCells l) w'∧Below B w w'∧Lib.OthersKept 5 (some b) w w'):=Any.Builder_String_any_k Tryz.lays169 Tryz.Builder_Extra_169 B b l w h hBw
end Go.Proofs
namespace Go.Proofs.YtodmdkhdbfbfgabGreatDoor
open Go.RowKit Go.Nt
theorem sizeB:(Tryz.prog.info? 152).map (·.size)=some 2:=by kernel_rfl
theorem liesB:liesAt Tryz.prog Tryz.prog.depth 152 (2/Tryz.prog.cellsOf 152) 0 152 1=true:=by kernel_rfl
theorem qc0 (b:Nat) (w:World) (h0:w.cell? ⟨b,0,none⟩=some (.pointer none)) (hf:w.frozen? ⟨b,0,none⟩=false) (hsh:w.shape? b=some (152,2)) :
 Calls Tryz.prog 123 #[.pointer (some ⟨b,0,none⟩)] w fun e w'=>e=.returned (.tuple #[])∧w'=w.setCell ⟨b,0,none⟩ (.pointer (some ⟨b,0,none⟩)):=by
 obtain ⟨j,hj,hjs⟩:=Option.map_eq_some_iff.1 sizeB;have k1:=Lib.run_to_unsafe (P:=Tryz.prog) w ⟨b,0,none⟩ Tryz.underlying150 Tryz.underlying199 hj (by rw [hjs];decide) hsh (Nat.zero_lt_succ 1);have k2:=Lib.run_from_unsafe (P:=Tryz.prog) w ⟨b,0,none⟩ Tryz.underlying199 Tryz.underlying150 hj hsh liesB;clear hj hjs;go_enter Tryz.func123,Tryz.ntmps123
 go_wp2;rw [run_callFunc_extern Tryz.func146 (by kernel_rfl) (by kernel_rfl) (by kernel_rfl) (e:=Extern.AbiNoEscape.same) (by kernel_rfl)];rw [Lib.run_noEscape];simp only [Result.andThen];rw [Oper.upon_value];go_wp2;go_end0
 exact ⟨rfl,rfl⟩
theorem qdT (b:Nat) (w:World) (h0:w.cell? ⟨b,0,none⟩=some (.pointer (some ⟨b,0,none⟩))) :
 Calls Tryz.prog 123 #[.pointer (some ⟨b,0,none⟩)] w fun e w'=>e=.returned (.tuple #[])∧w'=w:=by
 obtain ⟨j,hj,hjs⟩:=Option.map_eq_some_iff.1 sizeB;have k1:=Lib.run_neq_ptr_same (P:=Tryz.prog) w ⟨b,0,none⟩ Tryz.underlying150 hj;clear hj hjs;go_enter Tryz.func123,Tryz.ntmps123
 go_wp2;go_end0
 exact ⟨rfl,rfl⟩
def BdAt (w:World) (b:Nat) (l:Bs):Prop:=∃ p v,w.heap[b]? = some (.cells #[p,v] 152 (0,0))∧(p=.pointer none∨p=.pointer (some ⟨b,0,none⟩))∧Bytes w (b+1) v l
theorem BdAt.lib {w:World} {b:Nat} {l:Bs} (h:BdAt w b l):Lib.IsBuilderF 152 5 b b (Lib.byteCells l) w:=by
 obtain ⟨p,v,hb,hp,hv⟩:=h;have hown:w.ownsRow b 5 1 v (bv l).length (bv l):=by
  have h1:=hv;unfold Bytes at h1;rw [qaW];refine ⟨h1.1,?_⟩;rcases h1.2 with h2 | ⟨g,cap,cur,e,hg,h3⟩
  ·exact .inl h2
  exact .inr ⟨g,cap,cur,e,by omega,h3⟩
 have hne:v.ownBlock≠some b:=by
  intro e
  have:=(World.ownsRow.lt hv b e).1
  omega
 have hB:Lib.byteCells l=bv l:=rfl;rw [hB];rcases hp with rfl | rfl
 ·exact .inl ⟨Nat.le_refl _,v,hb,World.ownsRowF_of hown,hne⟩
 exact .inr ⟨Nat.le_refl _,v,hb,World.ownsRowF_of hown,hne⟩
theorem BdAt.of_blocks {w w':World} {b:Nat} {l:Bs} (h:BdAt w b l) (hk:But 74 w w'∨∀ k,k<w.heap.size→w'.heap[k]? = w.heap[k]?):BdAt w' b l:=by
 obtain ⟨p,v,hb,hp,hv⟩:=h;rcases hk with hk | hk
 ·refine ⟨p,v,hk.cells hb (by decide),hp,hv.1,?_⟩;rcases hv.2 with h2 | ⟨g,cap,cur,e,hg,h3,h4⟩
  ·exact .inl h2
  exact .inr ⟨g,cap,cur,e,hg,hk.cells h3 (by decide),h4⟩
 refine ⟨p,v,(hk b (lt_of_heap hb)).trans hb,hp,hv.1,?_⟩;rcases hv.2 with h2 | ⟨g,cap,cur,e,hg,h3,h4⟩
 ·exact .inl h2
 exact .inr ⟨g,cap,cur,e,hg,(hk g (lt_of_heap h3)).trans h3,h4⟩
def BdKept (b:Nat) (w w':World):Prop:=w'.os=w.os∧w'.tape=w.tape∧w'.output=w.output∧w.heap.size≤w'.heap.size∧∀ (k:Nat) (o:Obj),w.heap[k]? = some o→k≠b→isOf 5 o=false→w'.heap[k]? = some o
theorem qdM (b:Nat) (l:Bs) (s:Bs) (w:World) (h:BdAt w b l) (hl:l.length≤100000000) (hs:s.length≤100000000) :
 Calls Tryz.prog 87 #[.pointer (some ⟨b,0,none⟩),.string (txt s)] w fun e w'=>(∃ v,e=.returned v)∧BdAt w' b (l++s)∧BdKept b w w'∧Below b w w':=by
 obtain ⟨i0,hi,hz0,hz1,hz2⟩:=info_parts Tryz.info5;obtain ⟨p,v,hb,hp,hv⟩:=h;have hbl:=lt_of_heap hb;obtain ⟨X,hX⟩:∃ X,X=txt s:=⟨_,rfl⟩;have Sx:X.size=s.length:=by rw [hX,qaa]
 rw [←hX];have HX:=hidI hX;have HS:=hidI Sx;have hX9:X.size≤100000000:=by omega
 have A:Hid (Calls Tryz.prog 123 #[.pointer (some ⟨b,0,none⟩)] w fun e w'=>e=.returned (.tuple #[])∧w'.heap[b]? = some (.cells #[.pointer (some ⟨b,0,none⟩),v] 152 (0,0))∧(∀ k,k≠b→w'.heap[k]? = w.heap[k]?)∧w'.heap.size=w.heap.size∧w'.os=w.os∧w'.tape=w.tape∧w'.output=w.output):=by
  refine hidI ?_;rcases hp with rfl | rfl
  ·refine (qc0 b w (by rw [cell_of_row w b 0 _ 152 (0,0) hb];rfl) (frozen_of_row w b 0 _ 152 hb) (by simp [World.shape?,hb])).mono ?_;rintro e w' ⟨rfl,rfl⟩;exact ⟨rfl,heap_setCell_same w b 0 _ 152 _ hb,fun k hk=>Below.heap_setCell w ⟨b,0,none⟩ _ k hk,by simp,rfl,rfl,rfl⟩
  refine (qdT b w (by rw [cell_of_row w b 0 _ 152 (0,0) hb];rfl)).mono ?_;rintro e w' ⟨rfl,rfl⟩;exact ⟨rfl,hb,fun _ _=>rfl,rfl,rfl,rfl,rfl⟩
 obtain ⟨n,hn⟩:∃ n,n=l.length:=⟨_,rfl⟩;have Hn:=hidI hn;have Hv:=hidI hv;have hn9:n≤100000000:=by omega
 clear hb hp hv hX Sx hn;go_enter Tryz.func87,Tryz.ntmps87
 go_wp2_with fail;refine A.out.mono ?_;rintro e W1 ⟨rfl,hb1,hk1,hs1,ho1,ht1,hu1⟩;have hv1:W1.ownsRow (b+1) 5 1 v n (bv l):=by
  have h1:=Hv.out;unfold Bytes at h1;rw [←Hn.out] at h1;refine ⟨h1.1,?_⟩;rcases h1.2 with h2 | ⟨g,cap,cur,e,hg,h3,h4⟩
  ·exact .inl h2
  exact .inr ⟨g,cap,cur,e,hg,(hk1 g (by omega)).trans h3,h4⟩
 have c1:W1.cell? ⟨b,1,none⟩=some v:=by rw [cell_of_row W1 b 1 _ 152 (0,0) hb1];rfl
 have Ho:=hidI hv1;have Hb1:=hidI hb1;obtain ⟨a9,c9,rfl⟩:=Bytes.slice (w:=W1) (B:=b+1) (v:=v) (l:=l) (by unfold Bytes;rw [←Hn.out];exact hv1);rw [←Hn.out] at Ho c1 Hb1;have hK1:=hidI (And.intro hk1 (And.intro hs1 (And.intro ho1 (And.intro ht1 hu1))));clear A hk1 hb1 hv1 hs1 ho1 ht1 hu1;go_wp2_with (at_builtin;refine Lib.wpList_append_own_string _ rfl (.tmp 12) (.tmp 13) 50 9 rfl (b+1) 5 i0 Tryz.underlying50 Tryz.underlying9 hi hz0 hz1 hz2 _ _ _ rfl Ho.out X rfl ?c3 ?c4 ?c5 ?_)
 case c3=>unfold maxLen;omega
 case c4=>omega
 case c5=>have:=hK1.out.2.1;omega
 intro v2 W2 hown2 hgrow2 _;have hbl1:b<W1.heap.size:=lt_of_heap Hb1.out;have hne:b≠b+1:=by omega
 have hb2:W2.heap[b]? = some (.cells #[.pointer (some ⟨b,0,none⟩),.slice a9 n c9] 152 (0,0)):=(hgrow2.block b hbl1 (fun e=>by have:=(World.ownsRow.lt Ho.out b e.symm).1;omega)).trans Hb1.out;have hY2:Bytes W2 (b+1) v2 (l++s):=by
  unfold Bytes;have h1:=HX.out;have h2:=Hn.out;have h3:=HS.out;rw [qaM,List.length_append,←h2,←h3,←qfs s,←h1];exact hown2
 obtain ⟨a2,c2,rfl⟩:=hY2.slice;have d1:W2.cell? ⟨b,1,none⟩=some (.slice a9 n c9):=by rw [cell_of_row W2 b 1 _ 152 (0,0) hb2];rfl
 have f1:=frozen_of_row W2 b 1 _ 152 hb2;obtain ⟨ns,hns⟩:∃ ns,ns=(l++s).length:=⟨_,rfl⟩;rw [←hns] at hY2;rw [show (l++s).length=ns from hns.symm] at hown2 ⊢;obtain ⟨W3,hW3⟩:∃ W3,W3=W2.setCell ⟨b,1,none⟩ (.slice a2 ns c2):=⟨_,rfl⟩;have hb3:W3.heap[b]? = some (.cells #[.pointer (some ⟨b,0,none⟩),.slice a2 ns c2] 152 (0,0)):=by rw [hW3];exact heap_setCell_same _ b 1 _ 152 _ hb2
 have eo:∀ k,k≠b→W3.heap[k]? = W2.heap[k]? := fun k hk=>by rw [hW3];exact Below.heap_setCell W2 ⟨b,1,none⟩ _ k hk
 have HB3:Hid (BdAt W3 b (l++s)):=hidI ⟨_,_,hb3,.inr rfl,hY2.1,by
  rcases hY2.2 with h2 | ⟨g,cap,cur,e,hg,h3,h4⟩
  ·exact .inl h2
  exact .inr ⟨g,cap,cur,e,hg,(eo g (by omega)).trans h3,h4⟩⟩
 obtain ⟨q1,q2,q3,q4,q5⟩:=hK1.out;have hsz3:w.heap.size≤W3.heap.size:=by rw [hW3];have:=hgrow2.size;simp;omega
 have HK3:Hid (BdKept b w W3):=hidI ⟨by rw [hW3];exact hgrow2.os.trans q3,by rw [hW3];exact hgrow2.tape.trans q4,by rw [hW3];exact hgrow2.output.trans q5,hsz3,fun k o hk hkb ho=>by
  rw [eo k hkb];have hk1:=(q1 k hkb).trans hk;refine (hgrow2.block k (lt_of_heap hk1) (fun e => ?_)).trans hk1;rcases Ho.out.2 with ⟨hv,_⟩ | ⟨g,cap,cur,hv,_,hh,_⟩
  ·cases hv;cases e
  cases hv
  cases e
  rw [hh] at hk1;cases hk1
  simp [isOf] at ho⟩
 have HL3:Hid (Below b w W3):=hidI ⟨HK3.out.1,HK3.out.2.1,HK3.out.2.2.1,hsz3,fun k hk=>by
  rw [eo k (by omega)];refine (hgrow2.block k (by omega) (fun e => ?_)).trans (q1 k (by omega))
  have:=(World.ownsRow.lt Ho.out k e.symm).1
  omega⟩
 have HW3:=hidI hW3;clear hown2 hgrow2 hY2 hb2 hb3 eo q1 q2 q3 q4 q5 hW3 hsz3 hns;go_wp2_with (first | (rw [←HW3.out]) | fail);go_ret2
 exact ⟨⟨_,rfl⟩,HB3.out,HK3.out,HL3.out⟩
end Go.Proofs.YtodmdkhdbfbfgabGreatDoor
