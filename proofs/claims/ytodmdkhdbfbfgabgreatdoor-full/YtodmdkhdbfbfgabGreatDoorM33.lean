/- Lemmas and contracts for full. -/
import Derived.Lib.AppendZerosOnto
import Derived.Lib.Walk
import Derived.Lib.SliceRun
import Derived.LoopN
import Derived.Deep.RegionHeld3
import Derived.Shelf.SlIterI.Nil
import Derived.Shelf.SortM.Plain
import Derived.Shelf.SortM.SortNone
import Derived.Ground.GgzProg
import Derived.Ground.SlgmProg
import Derived.Deep.AppendLies
import Derived.Test.YtodmdkhdbfbfgabGreatDoorM32
import Derived.Test.YtodmdkhdbfbfgabGreatDoorM29
import Derived.Test.YtodmdkhdbfbfgabGreatDoorM00
import Derived.Test.YtodmdkhdbfbfgabGreatDoorM28
set_option maxRecDepth 100000
set_option maxHeartbeats 8000000
namespace Go.Proofs.YtodmdkhdbfbfgabGreatDoor.S1
open Go.RowKit Pk
set_option linter.unusedVariables false
set_option linter.unusedSimpArgs false
theorem Tryz.info3':(Tryz.prog.info? 3).map (fun i=>(i.zero,i.size,i.bytes))=some (some (.int .i64 0),1,8):=by kernel_rfl
theorem max_any (w:World) (b n c:Nat) (z:Nat→Int) (h0:0<n) (hn:n≤1000) (hz:∀ i,i<n→w.cell? ⟨b,i,none⟩=some (.int .i64 (z i))) :
 Calls Tryz.prog 207 #[.slice (some ⟨b,0,none⟩) n c] w fun e w'=>w'=w∧∃ m:Int,e=.returned (.int .i64 m)∧(∀ i,i<n→z i≤m)∧∃ i,i<n∧z i=m:=by
 have x0:=hz 0 h0
 have hn1:¬(n:Int)<1:=by omega
 have Hz:=hidI hz
 clear hz
 go_enter Tryz.func207,Tryz.ntmps207
 go_wp2
 clear x0
 go_loopw [4,3] (fun i m wr=>wr=w∧∃ k:Nat,∃ x:Int,i=.int .i64 (k:Nat)∧m=.int .i64 x∧1≤k∧k≤n∧Hid ((∀ j,j<k→z j≤x)∧∃ j,j<k∧z j=x)) (fun i _ _=>n - (intOf i).toNat)
 case atStart=>exact ⟨rfl,1,z 0,rfl,rfl,by omega,by omega,⟨fun j hj=>by rw [show j=0 by omega];exact Int.le_refl _,0,by omega,rfl⟩⟩
 case round =>
  obtain ⟨rfl,k,x,rfl,rfl,hk1,hk2,Hx⟩:=hrel
  by_cases hlt:k<n
  ·have x1:=Hz.out k hlt
   by_cases hm:x≤z k
   ·have Hx2:Hid ((∀ j,j<k+1→z j≤z k)∧∃ j,j<k+1∧z j=z k):=⟨fun j hj=>by
     by_cases e:j=k
     ·subst e;exact Int.le_refl _
     ·exact Int.le_trans (Hx.out.1 j (by omega)) hm,k,by omega,rfl⟩
    generalize z k=y at *
    have hmax:max x y=y:=by omega
    go_wp2
    go_roundw
    case rel=>exact ⟨by trivial,k+1,y,by go_num,rfl,by omega,by omega,Hx2⟩
    case measure=>simp [intOf];omega
   ·have Hx2:Hid ((∀ j,j<k+1→z j≤x)∧∃ j,j<k+1∧z j=x):=⟨fun j hj=>by
     by_cases e:j=k
     ·subst e;omega
     ·exact Hx.out.1 j (by omega),by
     obtain ⟨j,hj,e⟩:=Hx.out.2
     exact ⟨j,by omega,e⟩⟩
    generalize z k=y at *
    have hmax:max x y=x:=by omega
    go_wp2
    go_roundw
    case rel=>exact ⟨by trivial,k+1,x,by go_num,rfl,by omega,by omega,Hx2⟩
    case measure=>simp [intOf];omega
  ·have hkn:k=n:=by omega
   subst hkn
   go_wp2
   go_ret
   exact ⟨rfl,x,rfl,Hx.out.1,Hx.out.2⟩
def intsV (l:List Nat):List Value:=l.map fun x=>.int .i64 (x:Nat)
theorem grow_nil (w:World) (n:Nat) (h0:0<n) (hn:n≤1000) :
 Calls Tryz.prog 248 #[.slice none 0 0,.int .i64 (n:Nat)] w fun e w'=>∃ G,e=.returned (.slice (some ⟨w.heap.size,0,none⟩) 0 G)∧w'.ownsRow w.heap.size 3 1 (.slice (some ⟨w.heap.size,0,none⟩) 0 G) 0 []∧Below w.heap.size w w':=by
 obtain ⟨i0,hi,hz0,hz1,hz2⟩:=info_parts Tryz.info3'
 have hold:(Builtin.firstCells i0.size 0 (.slice none 0 0)).run Tryz.prog w.drew=.ok ([]:List Value).toArray w.drew:=run_firstCells_none w.drew i0.size 0 0 0
 have hr:=fun ty=>Lib.run_append_grow_zeros w 22 3 ty 3 i0 (.int .i64 0) .i64 .i64 Tryz.underlying22 Tryz.underlying3 hi hz0 none 0 0 [] hold n (by omega) (by omega) (by omega) (by omega)
  (by rw [hz2];omega) (by rw [hz2,Nat.zero_add];exact growslice_fits h0 (by omega))
 rw [Nat.zero_add] at hr
 obtain ⟨G,hG⟩:∃ G,G=grownCap w n 0 3:=⟨_,rfl⟩
 have hGn:n≤G:=by rw [hG];exact grownCap_ge w _ _ _
 have hGm:G≤maxLen:=by rw [hG];exact grownCap_le_maxLen w n 0 3 (by unfold maxLen;omega)
 have hG63:G≤9223372036854775807:=by unfold maxLen at hGm;omega
 rw [←hG] at hr
 obtain ⟨C,hC⟩:∃ C:Array Value,C=([]:List Value).toArray++Builtin.zeroCells (Value.int IntKind.i64 0).cells n++Builtin.zeroCells (Value.int IntKind.i64 0).cells (G - n):=⟨_,rfl⟩
 rw [←hC] at hr
 have hCs:C.size=G:=by
  rw [hC,Array.size_append,Array.size_append,size_zeroCells,size_zeroCells]
  have:(Value.int IntKind.i64 0).cells.size=1:=rfl
  rw [this];simp;omega
 have Hown:Hid ((w.drew.alloc (.cells C 3)).ownsRow w.heap.size 3 1 (.slice (some ⟨w.heap.size,0,none⟩) 0 G) 0 []):=⟨rfl,.inr ⟨_,G,C,rfl,Nat.le_refl _,heap_alloc_new _ _,by omega,hGm,by omega,by simp⟩⟩
 have Hb:Hid (Below w.heap.size w (w.drew.alloc (.cells C 3))):=(Below.refl _ w).drew.alloc (Nat.le_refl _) _
 clear hC hCs hG hold
 go_enter Tryz.func248,Tryz.ntmps248
 go_wp2_with (at_builtin;refine Lib.wpList_append_run _ rfl _ _ _ _ rfl _ _ rfl rfl _ _ (hr _) ?_)
 go_ret
 exact ⟨G,rfl,Hown.out,Hb.out⟩
theorem own_news {w:World} {B b n c:Nat} {l:List Nat} (h:w.ownsRow B 3 1 (.slice (some ⟨b,0,none⟩) n c) n (intsV l)):∀ j u,(intsV l)[j]? = some u→w.cell? ((⟨b,0,none⟩:Addr).add j)=some u:=by
 intro j u hu
 have hj:j<n:=by
  rcases Nat.lt_or_ge j n with h2 | h2
  ·exact h2
  ·rw [List.getElem?_eq_none (by rw [h.1];omega)] at hu;cases hu
 have hadd:(⟨b,0,none⟩:Addr).add j=⟨b,j,none⟩:=by unfold Addr.add;split<;>simp_all
 rw [hadd,h.cellAt j (by omega),hu]
theorem intsV_one (l:List Nat):∀ u∈intsV l,u.oneCell'=true:=by
 intro u hu
 unfold intsV at hu
 simp at hu
 obtain ⟨x,_,rfl⟩:=hu
 rfl
theorem own_under {w w':World} {B K n:Nat} {e:TypeId} {size:Nat} {v:Value} {xs:List Value} (h:w.ownsRow B e size v n xs) (hb:Below K w w') (hK:w.heap.size≤K):w'.ownsRow B e size v n xs:=by
 refine ⟨h.1,?_⟩
 rcases h.2 with h1 | ⟨g,cap,cur,h1,h2,h3,h4⟩
 ·exact .inl h1
 ·exact .inr ⟨g,cap,cur,h1,h2,(hb.block g (Nat.lt_of_lt_of_le (lt_of_heap h3) hK)).trans h3,h4⟩
theorem clone_ints (w:World) (b n c:Nat) (l:List Nat) (h0:0<n) (hn:n≤1000) (h:w.ownsRow 0 3 1 (.slice (some ⟨b,0,none⟩) n c) n (intsV l)) :
 Calls Tryz.prog 205 #[.slice (some ⟨b,0,none⟩) n c] w fun e w'=>∃ g cap,e=.returned (.slice (some ⟨g,0,none⟩) n cap)∧w'.ownsRow w.heap.size 3 1 (.slice (some ⟨g,0,none⟩) n cap) n (intsV l)∧Below w.heap.size w w':=by
 obtain ⟨i0,hi,hz0,hz1,hz2⟩:=info_parts Tryz.info3'
 have Hown:=hidI h
 clear h
 have q22:∀ (w:World) (a:Option Addr) (n c n' c':Nat),(binOp .eql 22 (.slice a n c) (.slice none n' c')).run Tryz.prog w=.ok (.bool a.isNone) w:=fun w a n c n' c'=>Lib.run_eql_slice_nil w _ _ a n c n' c' Tryz.underlying22
 go_enter Tryz.func205,Tryz.ntmps205
 go_wp2_with (at_builtin;refine wpList_append_lies _ rfl _ _ 22 rfl w.heap.size 3 i0 (.int .i64 0) 1 8 Tryz.underlying22 hi hz0 hz1 hz2 rfl (by decide) _ 0 [] rfl (World.ownsRow_made w #[] 0 (Nat.le_refl _) (Nat.zero_le _) rfl) ⟨b,0,none⟩ n c (intsV l) rfl ?qc1 ?qc2 ?qc3 ?qc7 ?qc4 ?qc5 ?qc6 (w.heap.size+1) ?qc8 ?_)
 case qc1=>exact Hown.out.1
 case qc2=>exact own_news (Hown.out.alloc _)
 case qc3=>exact intsV_one l
 case qc4=>unfold maxLen;omega
 case qc5=>omega
 case qc6=>simp
 case qc7=>omega
 case qc8=>simp
 intro g cap w1 hown hgrow hat hlt
 have Hown1:=hidI hown
 have Hb:=hidI (((Below.refl _ w).alloc (Nat.le_refl _) _).grown hgrow (by simp) (by intro k hk;simp [Value.ownBlock] at hk;omega))
 clear hown hgrow hat
 try rw [Nat.zero_add]
 go_wp2
 go_ret
 exact ⟨g,cap,rfl,Hown1.out,Hb.out⟩
theorem concat_two (w:World) (sb ab an ac bb bn bc:Nat) (A B:List Nat) (ha0:0<an) (hb0:0<bn) (hn:an+bn≤1000) (hs:w.heap[sb]? = some (.cells #[.slice (some ⟨ab,0,none⟩) an ac,.slice (some ⟨bb,0,none⟩) bn bc] 22 (0,0)))
 (ha:w.ownsRow 0 3 1 (.slice (some ⟨ab,0,none⟩) an ac) an (intsV A)) (hb:w.ownsRow 0 3 1 (.slice (some ⟨bb,0,none⟩) bn bc) bn (intsV B)) :
 Calls Tryz.prog 236 #[.slice (some ⟨sb,0,none⟩) 2 2] w fun e w'=>∃ g cap,e=.returned (.slice (some ⟨g,0,none⟩) (an+bn) cap)∧w'.ownsRow w.heap.size 3 1 (.slice (some ⟨g,0,none⟩) (an+bn) cap) (an+bn) (intsV (A++B))∧Below w.heap.size w w':=by
 obtain ⟨i0,hi,hz0,hz1,hz2⟩:=info_parts Tryz.info3'
 have x0:w.cell? ⟨sb,0,none⟩=some (.slice (some ⟨ab,0,none⟩) an ac):=by rw [cell_of_row w sb 0 _ 22 (0,0) hs];rfl
 have x1:w.cell? ⟨sb,1,none⟩=some (.slice (some ⟨bb,0,none⟩) bn bc):=by rw [cell_of_row w sb 1 _ 22 (0,0) hs];rfl
 have Hs:=hidI hs
 have Ha:=hidI ha
 have Hb:=hidI hb
 clear hs ha hb
 go_enter Tryz.func236,Tryz.ntmps236
 go_wp2
 go_loopw [11,3] (fun i s wr=>w=wr∧((i=.int .i64 0∧s=.int .i64 0)∨(i=.int .i64 1∧s=.int .i64 (an:Nat))∨(i=.int .i64 2∧s=.int .i64 ((an:Int)+(bn:Int))))) (fun i _ _=>2 - (intOf i).toNat)
 case atStart=>exact ⟨rfl,.inl ⟨rfl,rfl⟩⟩
 case round =>
  obtain ⟨rfl,⟨rfl,rfl⟩ | ⟨rfl,rfl⟩ | ⟨rfl,rfl⟩⟩:=hrel
  ·have h1:¬(an:Int)<0:=by omega
   go_wp2
   go_roundw
   case rel=>exact ⟨by trivial,.inr (.inl ⟨rfl,rfl⟩)⟩
   case measure=>simp [intOf]
  ·have h1:¬(an:Int)+(bn:Int)<0:=by omega
   go_wp2
   go_roundw
   case rel=>exact ⟨by trivial,.inr (.inr ⟨rfl,rfl⟩)⟩
   case measure=>simp [intOf]
  ·have hgr:=hidI (grow_nil w (an+bn) (by omega) (by omega))
   rw [show ((an+bn:Nat):Int)=(an:Int)+(bn:Int) by omega] at hgr
   go_wp2_with fail
   refine hgr.out.mono ?_
   rintro e w1 ⟨G,rfl,hown1,hbel1⟩
   have Hown1:=hidI hown1
   have Hbel1:=hidI hbel1
   clear hown1 hbel1 hgr
   go_wp2
   go_loopw [27,6] (fun i v wq=>Hid (Below w.heap.size w wq)∧((i=.int .i64 0∧∃ g c,v=.slice (some ⟨g,0,none⟩) 0 c∧Hid (wq.ownsRow w.heap.size 3 1 (.slice (some ⟨g,0,none⟩) 0 c) 0 []))∨(i=.int .i64 1∧∃ g c,v=.slice (some ⟨g,0,none⟩) an c∧Hid (wq.ownsRow w.heap.size 3 1 (.slice (some ⟨g,0,none⟩) an c) an (intsV A)))∨(i=.int .i64 2∧∃ g c,v=.slice (some ⟨g,0,none⟩) (an+bn) c∧Hid (wq.ownsRow w.heap.size 3 1 (.slice (some ⟨g,0,none⟩) (an+bn) c) (an+bn) (intsV (A++B)))))) (fun i _ _=>2 - (intOf i).toNat)
   case atStart=>exact ⟨Hbel1,.inl ⟨rfl,_,G,rfl,Hown1⟩⟩
   case round =>
    obtain ⟨Hbq,⟨rfl,g,cc,rfl,Hq⟩ | ⟨rfl,g,cc,rfl,Hq⟩ | ⟨rfl,g,cc,rfl,Hq⟩⟩:=hrel
    ·have hsb:=(Hbq.out.block sb (lt_of_heap Hs.out)).trans Hs.out
     have y0:wr.cell? ⟨sb,0,none⟩=some (.slice (some ⟨ab,0,none⟩) an ac):=by rw [cell_of_row wr sb 0 _ 22 (0,0) hsb];rfl
     have Ha1:=hidI (own_under Ha.out Hbq.out (Nat.le_refl _))
     have hszq:=Hbq.out.size
     clear hsb x0 x1
     go_wp2_with (at_builtin;refine wpList_append_lies _ rfl _ _ 22 rfl w.heap.size 3 i0 (.int .i64 0) 1 8 Tryz.underlying22 hi hz0 hz1 hz2 rfl (by decide) _ 0 [] rfl Hq.out ⟨ab,0,none⟩ an ac (intsV A) rfl Ha1.out.1 (own_news Ha1.out) (intsV_one A) (by omega) (by unfold maxLen;omega) (by omega) (by omega) wr.heap.size rfl ?_)
     intro g2 cap2 w2 hown hgrow hat hlt
     have Hown2:Hid (w2.ownsRow w.heap.size 3 1 (.slice (some ⟨g2,0,none⟩) an cap2) an (intsV A)):=by
      show w2.ownsRow _ _ _ _ _ _
      simpa using hown
     have Hb2:=hidI (Hbq.out.grown hgrow (by omega) (fun q hq=>(Hq.out.lt q hq).1))
     clear hown hgrow hat y0 hlt
     try rw [Nat.zero_add]
     go_wp2
     go_roundw
     case rel=>exact ⟨Hb2,.inr (.inl ⟨rfl,g2,cap2,by simp,Hown2⟩)⟩
     case measure=>simp [intOf]
    ·have hsb:=(Hbq.out.block sb (lt_of_heap Hs.out)).trans Hs.out
     have y0:wr.cell? ⟨sb,1,none⟩=some (.slice (some ⟨bb,0,none⟩) bn bc):=by rw [cell_of_row wr sb 1 _ 22 (0,0) hsb];rfl
     have Hb1:=hidI (own_under Hb.out Hbq.out (Nat.le_refl _))
     have hszq:=Hbq.out.size
     clear hsb x0 x1
     go_wp2_with (at_builtin;refine wpList_append_lies _ rfl _ _ 22 rfl w.heap.size 3 i0 (.int .i64 0) 1 8 Tryz.underlying22 hi hz0 hz1 hz2 rfl (by decide) _ an (intsV A) rfl Hq.out ⟨bb,0,none⟩ bn bc (intsV B) rfl Hb1.out.1 (own_news Hb1.out) (intsV_one B) (by omega) (by unfold maxLen;omega) (by omega) (by omega) wr.heap.size rfl ?_)
     intro g2 cap2 w2 hown hgrow hat hlt
     have Hown2:Hid (w2.ownsRow w.heap.size 3 1 (.slice (some ⟨g2,0,none⟩) (an+bn) cap2) (an+bn) (intsV (A++B))):=by
      show w2.ownsRow _ _ _ _ _ _
      unfold intsV at hown ⊢
      rw [List.map_append];exact hown
     have Hb2:=hidI (Hbq.out.grown hgrow (by omega) (fun q hq=>(Hq.out.lt q hq).1))
     clear hown hgrow hat y0 hlt
     go_wp2
     go_roundw
     case rel=>exact ⟨Hb2,.inr (.inr ⟨rfl,g2,cap2,rfl,Hown2⟩)⟩
     case measure=>simp [intOf]
    ·go_wp2
     go_ret
     exact ⟨g,cc,rfl,Hq.out,Hbq.out⟩
end Go.Proofs.YtodmdkhdbfbfgabGreatDoor.S1
namespace Go.Proofs.YtodmdkhdbfbfgabGreatDoor.S1
open Go.RowKit Pk Go.Shelf
set_option linter.unusedVariables false
set_option linter.unusedSimpArgs false
theorem growU_nil (w:World) (n:Nat) (h0:0<n) (hn:n≤1000) :
 Calls Tryz.prog 152 #[.slice none 0 0,.int .i64 (n:Nat)] w fun e w'=>∃ G,e=.returned (.slice (some ⟨w.heap.size,0,none⟩) 0 G)∧w'.ownsRow w.heap.size 72 1 (.slice (some ⟨w.heap.size,0,none⟩) 0 G) 0 []∧Below w.heap.size w w':=by
 obtain ⟨i0,hi,hz0,hz1,hz2⟩:=info_parts Tryz.info88
 have hold:(Builtin.firstCells i0.size 0 (.slice none 0 0)).run Tryz.prog w.drew=.ok ([]:List Value).toArray w.drew:=run_firstCells_none w.drew i0.size 0 0 0
 have hr:=fun ty=>Lib.run_append_grow_zeros w 161 3 ty 72 i0 (.int .u32 0) .i64 .i64 Tryz.underlying161 Tryz.underlying3 hi hz0 none 0 0 [] hold n (by omega) (by omega) (by omega) (by omega)
  (by rw [hz2];omega) (by rw [hz2,Nat.zero_add];exact growslice_fits h0 (by omega))
 rw [Nat.zero_add] at hr
 obtain ⟨G,hG⟩:∃ G,G=grownCap w n 0 72:=⟨_,rfl⟩
 have hGn:n≤G:=by rw [hG];exact grownCap_ge w _ _ _
 have hGm:G≤maxLen:=by rw [hG];exact grownCap_le_maxLen w n 0 72 (by unfold maxLen;omega)
 have hG63:G≤9223372036854775807:=by unfold maxLen at hGm;omega
 rw [←hG] at hr
 obtain ⟨C,hC⟩:∃ C:Array Value,C=([]:List Value).toArray++Builtin.zeroCells (Value.int IntKind.u32 0).cells n++Builtin.zeroCells (Value.int IntKind.u32 0).cells (G - n):=⟨_,rfl⟩
 rw [←hC] at hr
 have hCs:C.size=G:=by
  rw [hC,Array.size_append,Array.size_append,size_zeroCells,size_zeroCells]
  have:(Value.int IntKind.u32 0).cells.size=1:=rfl
  rw [this];simp;omega
 have Hown:Hid ((w.drew.alloc (.cells C 72)).ownsRow w.heap.size 72 1 (.slice (some ⟨w.heap.size,0,none⟩) 0 G) 0 []):=⟨rfl,.inr ⟨_,G,C,rfl,Nat.le_refl _,heap_alloc_new _ _,by omega,hGm,by omega,by simp⟩⟩
 have Hb:Hid (Below w.heap.size w (w.drew.alloc (.cells C 72))):=(Below.refl _ w).drew.alloc (Nat.le_refl _) _
 clear hC hCs hG hold
 go_enter Tryz.func152,Tryz.ntmps152
 go_wp2_with (at_builtin;refine Lib.wpList_append_run _ rfl _ _ _ _ rfl _ _ rfl rfl _ _ (hr _) ?_)
 go_ret
 exact ⟨G,rfl,Hown.out,Hb.out⟩
theorem concat1 (w:World) (rb g cap x:Nat) (hr:w.heap[rb]? = some (.cells #[.slice (some ⟨g,0,none⟩) 1 cap,.slice (some ⟨g,0,none⟩) 0 cap] 161 (0,0))) (hx:w.cell? ⟨g,0,none⟩=some (encU x)) (hg:g<w.heap.size) :
 Calls Tryz.prog 129 #[.slice (some ⟨rb,0,none⟩) 2 2] w fun e w'=>∃ v,e=.returned v∧w'.ownsRow w.heap.size 72 1 v 1 [encU x]∧Below w.heap.size w w':=by
 obtain ⟨i0,hi,hz0,hz1,hz2⟩:=info_parts Tryz.info88
 have c0:w.cell? ⟨rb,0,none⟩=some (.slice (some ⟨g,0,none⟩) 1 cap):=by rw [cell_of_row w rb 0 _ 161 (0,0) hr];rfl
 have c1:w.cell? ⟨rb,1,none⟩=some (.slice (some ⟨g,0,none⟩) 0 cap):=by rw [cell_of_row w rb 1 _ 161 (0,0) hr];rfl
 have hrl:=lt_of_heap hr
 clear hr
 go_enter Tryz.func129,Tryz.ntmps129
 go_wp2
 refine wp_loop_rounds 3 ?_
 rw [rounds_succ]
 go_wp2
 rw [rounds_succ]
 go_wp2
 rw [rounds_succ]
 go_wp2_with fail
 refine (growU_nil w 1 (by omega) (by omega)).mono ?_
 rintro e w1 ⟨G,rfl,hown,hb⟩
 have d0:w1.cell? ⟨rb,0,none⟩=some (.slice (some ⟨g,0,none⟩) 1 cap):=by rw [hb.cell (p:=⟨rb,0,none⟩) hrl];exact c0
 have d1:w1.cell? ⟨rb,1,none⟩=some (.slice (some ⟨g,0,none⟩) 0 cap):=by rw [hb.cell (p:=⟨rb,1,none⟩) hrl];exact c1
 have dx:w1.cell? ⟨g,0,none⟩=some (encU x):=by rw [hb.cell (p:=⟨g,0,none⟩) hg];exact hx
 have Hown:=hidI hown
 have Hb:=hidI hb
 clear hown hb c0 c1
 go_wp2
 refine wp_loop_rounds 3 ?_
 rw [rounds_succ]
 go_wp2_with (at_builtin;refine wpList_append_own _ rfl _ _ 161 rfl w.heap.size 72 i0 (.int .u32 0) 1 4 Tryz.underlying161 hi hz0 hz1 hz2 rfl (by decide) _ _ _ rfl Hown.out ⟨g,0,none⟩ 1 cap [encU x] rfl rfl ?q1 ?q2 ?q3 ?q4 ?q5 ?_)
 case q1 =>
  intro j u hj
  rcases j with _ | j
  ·simp at hj;subst hj;exact dx
  ·simp at hj
 case q2=>simp [encU,Value.oneCell']
 case q3=>simp [maxLen]
 case q4=>omega
 case q5=>exact Hb.out.size
 intro v2 w2 hown2 hg2 hnil2
 have hb2:Below w.heap.size w w2:=Hb.out.grown hg2 Hb.out.size (fun k e=>by have:=(Hown.out.lt k e).1;omega)
 have f1:w2.cell? ⟨rb,1,none⟩=some (.slice (some ⟨g,0,none⟩) 0 cap):=by
  rw [←d1];exact World.cell?_of_block (hg2.block rb (by have:=Hb.out.size;omega) (fun e=>by have:=(Hown.out.lt rb e.symm).1;omega))
 try simp only [Nat.zero_add,List.nil_append] at hown2
 have Hown2:=hidI hown2
 have Hb2:=hidI hb2
 clear Hown Hb hown2 hb2 hg2 d0 d1 dx
 go_wp2
 rw [rounds_succ]
 go_wp2_with (at_builtin;refine wpList_append_own _ rfl _ _ 161 rfl w.heap.size 72 i0 (.int .u32 0) 1 4 Tryz.underlying161 hi hz0 hz1 hz2 rfl (by decide) _ _ _ rfl Hown2.out ⟨g,0,none⟩ 0 cap [] rfl rfl ?q1 ?q2 ?q3 ?q4 ?q5 ?_)
 case q1=>intro j u hj;simp at hj
 case q2=>simp
 case q3=>simp [maxLen]
 case q4=>omega
 case q5=>exact Hb2.out.size
 intro v3 w3 hown3 hg3 hnil3
 have hb3:Below w.heap.size w w3:=Hb2.out.grown hg3 Hb2.out.size (fun k e=>by have:=(Hown2.out.lt k e).1;omega)
 have Hown3:=hidI hown3
 have Hb3:=hidI hb3
 clear Hown2 Hb2 hown3 hb3 hg3 f1 hnil3 hnil2
 go_wp2
 rw [rounds_succ]
 go_wp2
 go_ret
 exact ⟨v3,rfl,by simpa using Hown3.out,Hb3.out⟩
end Go.Proofs.YtodmdkhdbfbfgabGreatDoor.S1
namespace Go.Proofs.YtodmdkhdbfbfgabGreatDoor.S1
open Go.RowKit Pk Go.Shelf
set_option linter.unusedVariables false
set_option linter.unusedSimpArgs false
theorem round1 (w:World) (g cap x:Nat) (cur:Array Value) (hg:w.heap[g]? = some (.cells cur 72 (0,0))) (hx:cur[0]? = some (encU x)) (hxr:x≤4294967295) :
 Calls Tryz.prog 93 #[.slice (some ⟨g,0,none⟩) 1 cap] w fun e w'=>∃ v,e=.returned v∧w'.ownsRow w.heap.size 72 1 v 1 [encU x]∧Below w.heap.size w w':=by
 have hgl:=lt_of_heap hg
 obtain ⟨W0,hW0⟩:∃ W0,W0=w.alloc (.cells #[.slice (some ⟨g,0,none⟩) 1 cap] 161):=⟨_,rfl⟩
 have hs0:W0.heap.size=w.heap.size+1:=by rw [hW0];simp
 have hb0:Below w.heap.size w W0:=by rw [hW0];exact (Below.refl _ w).alloc (Nat.le_refl _) _
 have hc0:W0.cell? ⟨w.heap.size,0,none⟩=some (.slice (some ⟨g,0,none⟩) 1 cap):=by rw [hW0];simp
 have hg0:W0.heap[g]? = some (.cells cur 72 (0,0)):=(hb0.block g hgl).trans hg
 have hv:SeqRow Fence.wide 1 Tryz.prog 151 #[.pointer (some ⟨w.heap.size,0,none⟩)] (fun x=>#[encU x]) [x] W0.heap.size (fun k=>k<W0.heap.size) W0:=values_row 1 (by omega) W0 w.heap.size g cap [x] W0.heap.size _ (by omega) (by omega) (show g<W0.heap.size by omega) (by simp) hc0 cur hg0 (by
  cases h:cur.toList with
  | nil=>have:=congrArg Array.size (Array.toList_inj.1 (h.trans (rfl:([]:List Value)=(#[]:Array Value).toList)));rw [Array.getElem?_eq_none (by simp at this;simp [this])] at hx;cases hx
  | cons a l=>rw [←Array.getElem?_toList,h] at hx;simp at hx;simp [hx])
 have B:=hidI ((callsIn_wide (n:=4)).1 (sorted1_in 4 (by omega) 151 _ (enters_of Tryz.func151 (by kernel_rfl) rfl) x W0 W0.heap.size _ (Nat.le_refl _) (fun k hk=>hk) hv))
 have A:=hidI ((callsIn_wide (n:=4)).1 (values_any 4 (some ⟨g,0,none⟩) 1 cap w))
 have HW0:=hidI hW0
 have HB0:=hidI hb0
 have Hs0:=hidI hs0
 clear hv hc0 hg0 hg hW0 hb0 hs0
 go_enter Tryz.func93,Tryz.ntmps93
 go_wp2_with fail
 refine A.out.mono ?_
 rintro e w1 ⟨rfl,hw1⟩
 rw [←HW0.out] at hw1
 subst hw1
 go_wp2_with fail
 refine B.out.mono ?_
 rintro e w2 ⟨v,rfl,hrow,hb2⟩
 rcases hrow.2 with ⟨_,h0⟩ | ⟨g',cap',cur',rfl,hbase',hgb',hr1,hr2,hr3,hr4⟩
 ·omega
 have hc2:w2.cell? ⟨g',0,none⟩=some (.int .u32 (x:Nat)):=by
  rw [cell_of_row w2 g' 0 _ 72 (0,0) hgb']
  cases h:cur'.toList with
  | nil=>rw [h] at hr4;simp at hr4
  | cons a l =>
    rw [h] at hr4
    simp at hr4
    rw [←Array.getElem?_toList,h]
    simp [hr4,encU]
 have hgl2:=lt_of_heap hgb'
 have HB2:Hid (Below w.heap.size w w2):=hidI (HB0.out.trans (hb2.mono (by have:=Hs0.out;omega)))
 have hcm:cap'≤9223372036854775807:=by unfold maxLen at hr2;omega
 have hci:(1:Int)≤(cap':Nat):=by omega
 have hsub:IntKind.u32.wrap ((x:Int) - x)=0:=by rw [Int.sub_self];rfl
 clear hrow hb2 hr4 hr3 hr2 hgb' hbase' A B
 go_wp2
 refine wp_loop_rounds 2 ?_
 rw [rounds_succ]
 go_wp2
 rw [rounds_succ]
 go_wp2_with fail
 refine wp_region_held_drew (S:=fun V=>True) (by kernel_rfl) trivial (fun hHeld => ?_)
 refine tk 0 ⟨some 36,.move (.tmp 3),161, "label.go:53",#[],none⟩ (.slice (some ⟨g',0,none⟩) 1 cap') rfl (by kernel_rfl) (fun _ _ _ h=>h) (fun w h=>by (try dsimp only at h);go_simp) hHeld ?_
 simp only [Act.put,List.setIfInBounds_toArray,List.set]
 refine tk 1 ⟨some 37,.move (.tmp 4),3, "label.go:53",#[],none⟩ (.int .i64 0) rfl (by kernel_rfl) (fun _ _ _ h=>h) (fun w h=>by (try dsimp only at h);go_simp) hHeld ?_
 simp only [Act.put,List.setIfInBounds_toArray,List.set]
 refine tk 2 ⟨some 38,.slice 161 (.tmp 36) (some (.tmp 37)) none none,161, "label.go:53",#[⟨0,.data⟩,⟨1,.data⟩],none⟩ (.slice (some ⟨g',0,none⟩) 1 cap') rfl (by kernel_rfl) (fun _ _ _ h=>h) (fun w h=>by (try dsimp only at h);go_simp) hHeld ?_
 simp only [Act.put,List.setIfInBounds_toArray,List.set]
 refine tk 3 ⟨some 39,.move (.tmp 3),161, "label.go:53",#[],none⟩ (.slice (some ⟨g',0,none⟩) 1 cap') rfl (by kernel_rfl) (fun _ _ _ h=>h) (fun w h=>by (try dsimp only at h);go_simp) hHeld ?_
 simp only [Act.put,List.setIfInBounds_toArray,List.set]
 refine tk 4 ⟨some 40,.move (.tmp 4),3, "label.go:53",#[],none⟩ (.int .i64 0) rfl (by kernel_rfl) (fun _ _ _ h=>h) (fun w h=>by (try dsimp only at h);go_simp) hHeld ?_
 simp only [Act.put,List.setIfInBounds_toArray,List.set]
 refine tk 5 ⟨some 41,.slice 161 (.tmp 39) none (some (.tmp 40)) none,161, "label.go:53",#[⟨3,.data⟩,⟨4,.data⟩],none⟩ (.slice (some ⟨g',0,none⟩) 0 cap') rfl (by kernel_rfl) (fun _ _ _ h=>h) (fun w h=>by (try dsimp only at h);go_simp) hHeld ?_
 simp only [Act.put,List.setIfInBounds_toArray,List.set]
 refine rd 6 (by kernel_rfl) rfl (fun K hK => ?_)
 go_simp
 obtain ⟨W3,hW3⟩:∃ W3,W3=(w2.alloc (.cells #[.slice (some ⟨g',0,none⟩) 1 cap',.slice (some ⟨g',0,none⟩) 0 cap'] 161)).drew:=⟨_,rfl⟩
 obtain ⟨rb,hrb⟩:∃ rb,rb=w2.heap.size:=⟨_,rfl⟩
 have hr3:W3.heap[rb]? = some (.cells #[.slice (some ⟨g',0,none⟩) 1 cap',.slice (some ⟨g',0,none⟩) 0 cap'] 161 (0,0)):=by rw [hW3,hrb];exact heap_alloc_new _ _
 have hB3:Below w2.heap.size w2 W3:=by rw [hW3];exact ((Below.refl _ w2).alloc (Nat.le_refl _) _).drew
 have hx3:W3.cell? ⟨g',0,none⟩=some (encU x):=by rw [hB3.cell (p:=⟨g',0,none⟩) hgl2];exact hc2
 have C:=hidI (concat1 W3 rb g' cap' x hr3 hx3 (Nat.lt_of_lt_of_le hgl2 hB3.size))
 have HB3:=hidI (HB2.out.trans (hB3.mono HB2.out.size))
 refine hK.out _ _ trivial (fun hHeld => ?_)
 rw [←hW3]
 simp only [←hrb]
 clear hK K hW3 hrb hr3 hB3 hx3
 refine rd 7 (by kernel_rfl) rfl (fun K hK => ?_)
 go_simp
 refine C.out.mono ?_
 rintro e w4 ⟨v4,rfl,hrow4,hb4⟩
 have HB4:=hidI (HB3.out.trans (hb4.mono HB3.out.size))
 have HR4:=hidI (ownsRow_base_a hrow4 HB3.out.size)
 rcases hrow4.2 with ⟨_,h0⟩ | ⟨g4,cap4,cur4,rfl,_⟩
 ·omega
 clear hrow4 hb4
 refine hK.out _ _ trivial (fun hHeld => ?_)
 clear hK K
 refine tk 8 ⟨some 2,.assign (.tmp 43),161, "label.go:53",#[⟨7,.data⟩,⟨7,.chain⟩,⟨0,.phase⟩,⟨1,.phase⟩,⟨2,.phase⟩,⟨3,.phase⟩,⟨4,.phase⟩,⟨5,.phase⟩,⟨6,.phase⟩,⟨7,.phase⟩],none⟩ (.slice (some ⟨g4,0,none⟩) 1 cap4) rfl (by kernel_rfl) (fun _ _ _ h=>h) (fun w h=>by (try dsimp only at h);go_simp) hHeld ?_
 simp only [Act.put,List.setIfInBounds_toArray,List.set]
 refine wpAnyH_done (by kernel_rfl) ?_ _
 clear hHeld
 go_wp2_with fail
 go_ret
 exact ⟨_,rfl,HR4.out,HB4.out⟩
end Go.Proofs.YtodmdkhdbfbfgabGreatDoor.S1
namespace Go.Proofs
open Go.RowKit Go.Maps Go.Sort Go.Shelf
shelf_lay_g SlLaysZI.n7 Ggz 7 at Tryz 92 as Tryz.keysA
shelf_lay_g SlLaysZI.n6 Ggz 6 at Tryz 91 as Tryz.sortedA
shelf_lay_g SlLaysM.n5 Slgm 5 at Tryz 125 as Tryz.sortA
theorem Tryz.sortsA (m:Nat):AnyZI.SortsIn Tryz.prog Tryz.sortedA_ren Fence.wide m:=
 ⟨fun blk off cap ss W hH hblk hsz=>callsIn_wide.2 (AnyM.slices_Sort_int Tryz.sortA blk off cap ss W hH hblk hsz),
  fun p cap W=>callsIn_wide.2 (AnyM.slices_Sort_int_none Tryz.sortA p cap W)⟩
namespace YtodmdkhdbfbfgabGreatDoor.S1
theorem keysI_any (mb:Option Nat) (w:World):Calls Tryz.prog 92 #[.map mb] w fun e w'=>e=.returned (.func (.func 126) #[] #[.pointer (some ⟨w.heap.size,0,none⟩)])∧w'=w.alloc (.cells #[.map mb] 160):=
 (callsIn_wide (n:=5)).1 (AnyZI.keys_in Tryz.keysA Fence.wide 5 trivial rfl mb w)
theorem sortedI_any {H:Type} {R:Value→Option (DataW H × List MemPlace)} (w:World) (Bm g n:Nat) (D:DataW H) (hBm:Bm<w.heap.size) (hm:w.cell? ⟨Bm,0,none⟩=some (.map (some g))) (hown:w.ownsMap Tryz.prog 3 R g n D) (hn:Maps.size D≤100000) :
 Calls Tryz.prog 91 #[.func (.func 126) #[] #[.pointer (some ⟨Bm,0,none⟩)]] w fun e w'=>∃ (v:Value) (ss:List Int),e=.returned v∧ss.Perm (intKeys D)∧w'.ownsRow w.heap.size 3 1 v ss.length ((ss.mergeSort (fun x y=>decide (x≤y))).map encZ)∧(v=.slice none 0 0↔ss=[])∧Below w.heap.size w w':=by
 have hseq:SeqGives Fence.wide 2 Tryz.prog 126 #[.pointer (some ⟨Bm,0,none⟩)] encZ (fun ss=>ss.Perm (intKeys D)) (Maps.size D) w:=
  AnyZI.keys_gives (ρ:=Tryz.keysA_ren) { Tryz.keysA with } Fence.wide _ trivial rfl (by omega) Bm g n D _ hBm hm hown
 have cS:=AnyZI.sorted_in Tryz.sortedA Fence.wide 5 trivial trivial trivial trivial rfl (by omega) (Tryz.sortsA _) (enters_of Tryz.func125 (by kernel_rfl) rfl) 126 #[.pointer (some ⟨Bm,0,none⟩)] trivial (enters_of Tryz.func126 (by kernel_rfl) rfl) _ _ (by unfold maxLen;omega) (by omega) _ hseq
 change CallsIn _ _ Tryz.prog 91 _ _ _ at cS
 exact (callsIn_wide (n:=5)).1 cS
end YtodmdkhdbfbfgabGreatDoor.S1
end Go.Proofs
namespace Go.Proofs.YtodmdkhdbfbfgabGreatDoor.S1
open Go.RowKit Pk Go.Shelf Go.Sort Go.Maps
set_option linter.unusedVariables false
set_option linter.unusedSimpArgs false
theorem inTurn1 (w:World) (g0 cap b r:Nat) (cur:Array Value) (hg0:w.heap[g0]? = some (.cells cur 74 (0,0))) (h0:cur[0]? = some (.int .i64 (b:Nat))) (h1:cur[1]? = some (.int .u32 (r:Nat))) (hb:b≤1000000) (hr:r≤4294967295) :
 Calls Tryz.prog 62 #[.slice (some ⟨g0,0,none⟩) 1 cap] w fun e w'=>∃ v,e=.returned v∧w'.ownsRow w.heap.size 74 2 v 1 (lbs [(b,r)])∧Below w.heap.size w w':=by
 obtain ⟨i0,hi,hz0,hz1,hz2⟩:=info_parts Tryz.info88
 obtain ⟨j0,hj,hy0,hy1,hy2⟩:=info_parts Tryz.info90
 have hgl:=lt_of_heap hg0
 obtain ⟨z0,hz⟩:∃ z0,z0=w.heap.size:=⟨_,rfl⟩
 obtain ⟨W1,hW1⟩:∃ W1,W1=w.alloc (.map #[] 0):=⟨_,rfl⟩
 obtain ⟨W2,hW2⟩:∃ W2,W2=W1.alloc (.cells #[.int .i64 (b:Nat),.int .u32 (r:Nat)] 74):=⟨_,rfl⟩
 have s1:W1.heap.size=z0+1:=by rw [hW1,hz];simp
 have s2:W2.heap.size=z0+2:=by rw [hW2];simp [s1]
 have b1:Below z0 w W1:=by rw [hW1,hz];exact (Below.refl _ w).alloc (Nat.le_refl _) _
 have b2:Below z0 w W2:=by rw [hW2];exact b1.alloc (by omega) _
 have hmk:=make200 w
 rw [←hW1,←hz] at hmk
 have o1:W1.ownsMap Tryz.prog 3 anyOf z0 0 (.map []):=by rw [hW1,hz];exact World.ownsMap_made w _ _ _
 have o2:W2.ownsMap Tryz.prog 3 anyOf z0 0 (.map []):=owns_block o1 (by rw [hW2];exact Below.heap_alloc _ _ _ (by omega))
 have c0:W1.cell? ⟨g0,0,none⟩=some (.int .i64 (b:Nat)):=by rw [cell_of_row W1 g0 0 _ 74 (0,0) ((b1.block g0 (by omega)).trans hg0)];exact h0
 have c1:W1.cell? ⟨g0,1,none⟩=some (.int .u32 (r:Nat)):=by rw [cell_of_row W1 g0 1 _ 74 (0,0) ((b1.block g0 (by omega)).trans hg0)];exact h1
 have hr2:W2.heap[z0+1]? = some (.cells #[.int .i64 (b:Nat),.int .u32 (r:Nat)] 74 (0,0)):=by rw [hW2,←s1];exact heap_alloc_new _ _
 have k0:W2.drew.cell? ⟨z0+1,0,none⟩=some (.int .i64 (b:Nat)):=by rw [World.cell?_of_block (w:=W2) (w':=W2.drew) rfl,cell_of_row W2 (z0+1) 0 _ 74 (0,0) hr2];rfl
 have k1:W2.drew.cell? ⟨z0+1,1,none⟩=some (.int .u32 (r:Nat)):=by rw [World.cell?_of_block (w:=W2) (w':=W2.drew) rfl,cell_of_row W2 (z0+1) 1 _ 74 (0,0) hr2];rfl
 have hlk:(Instr.lookup 160 (.map (some z0)) (.int .i64 (b:Nat)) false).run Tryz.prog W2.drew=.ok (.slice none 0 0) W2.drew:=look200_none (owns_block (w':=W2.drew) o2 rfl) hb
 -- a row of one number is laid
 obtain ⟨W3,hW3⟩:∃ W3,W3=(W2.alloc (.cells #[.int .u32 (r:Nat)] 72)).drew:=⟨_,rfl⟩
 have s3:W3.heap.size=z0+3:=by rw [hW3];show (W2.alloc _).heap.size=_;simp [s2]
 have b3:Below z0 w W3:=by rw [hW3];exact (b2.alloc (by omega) _).drew
 have hr3:W3.heap[z0+2]? = some (.cells #[.int .u32 (r:Nat)] 72 (0,0)):=by rw [hW3,←s2];exact heap_alloc_new _ _
 have up3:∀ k,k<z0+2→W3.heap[k]? = W2.heap[k]? := fun k hk=>by rw [hW3];exact Below.heap_alloc W2 _ k (by omega)
 have m0:W3.cell? ⟨z0+1,0,none⟩=some (.int .i64 (b:Nat)):=by rw [cell_of_row W3 (z0+1) 0 _ 74 (0,0) ((up3 _ (by omega)).trans hr2)];rfl
 have m1:W3.cell? ⟨z0+1,1,none⟩=some (.int .u32 (r:Nat)):=by rw [cell_of_row W3 (z0+1) 1 _ 74 (0,0) ((up3 _ (by omega)).trans hr2)];rfl
 have o3:W3.ownsMap Tryz.prog 3 anyOf z0 0 (.map []):=owns_block o2 (up3 _ (by omega))
 have hlk3:(Instr.lookup 160 (.map (some z0)) (.int .i64 (b:Nat)) false).run Tryz.prog W3=.ok (.slice none 0 0) W3:=look200_none o3 hb
 have HW1:=hidI hW1
 have HW2:=hidI hW2
 have HW3:=hidI hW3
 have Hz:=hidI hz
 have Hs1:=hidI s1
 have Hs2:=hidI s2
 have Hs3:=hidI s3
 have HB3:=hidI b3
 have Ho3:=hidI o3
 have Hr3:=hidI hr3
 have Hr2:=hidI hr2
 have Hup:=hidI up3
 rw [←hz]
 clear hg0 h0 h1 hW1 hW2 hW3 hz s1 s2 s3 b1 b2 b3 o1 o2 o3 hr2 hr3 up3
 go_enter Tryz.func62,Tryz.ntmps62
 go_wp2_with (first | (rw [←HW1.out,←Hz.out]) | fail)
 refine wp_loop_rounds 2 ?_
 rw [rounds_succ]
 go_wp2_with (first | (rw [←HW2.out,Hs1.out]) | fail)
 refine wp_region_held_drew (S:=fun V=>V.cell? ⟨z0+1,0,none⟩=some (.int .i64 (b:Nat))∧V.cell? ⟨z0+1,1,none⟩=some (.int .u32 (r:Nat))) (by kernel_rfl) ⟨k0,k1⟩ (fun hHeld => ?_)
 refine tk 0 ⟨some 18,.move (.tmp 3),160, "label.go:31",#[],none⟩ (.map (some z0)) rfl (by kernel_rfl) (fun _ _ _ h=>h) (fun w h=>by (try dsimp only at h);go_simp) hHeld ?_
 simp only [Act.put,List.setIfInBounds_toArray,List.set]
 refine tk 1 ⟨some 19,.fieldAddr 74 (.tmp 5) 0,0, "label.go:31",#[],none⟩ (.pointer (some ⟨z0+1,0,none⟩)) rfl (by kernel_rfl) (fun _ _ _ h=>h) (fun w h=>by (try dsimp only at h);go_simp) hHeld ?_
 simp only [Act.put,List.setIfInBounds_toArray,List.set]
 refine tk 2 ⟨some 20,.load 3 (.tmp 19),3, "label.go:31",#[⟨1,.data⟩],none⟩ (.int .i64 (b:Nat)) rfl (by kernel_rfl) (fun _ _ _ h=>h) (fun w h=>by (try dsimp only at h);go_simp) hHeld ?_
 simp only [Act.put,List.setIfInBounds_toArray,List.set]
 refine tk 3 ⟨some 21,.move (.tmp 3),160, "label.go:31",#[],none⟩ (.map (some z0)) rfl (by kernel_rfl) (fun _ _ _ h=>h) (fun w h=>by (try dsimp only at h);go_simp) hHeld ?_
 simp only [Act.put,List.setIfInBounds_toArray,List.set]
 refine tk 4 ⟨some 22,.fieldAddr 74 (.tmp 5) 0,0, "label.go:31",#[],none⟩ (.pointer (some ⟨z0+1,0,none⟩)) rfl (by kernel_rfl) (fun _ _ _ h=>h) (fun w h=>by (try dsimp only at h);go_simp) hHeld ?_
 simp only [Act.put,List.setIfInBounds_toArray,List.set]
 refine tk 5 ⟨some 23,.load 3 (.tmp 22),3, "label.go:31",#[⟨4,.data⟩],none⟩ (.int .i64 (b:Nat)) rfl (by kernel_rfl) (fun _ _ _ h=>h) (fun w h=>by (try dsimp only at h);go_simp) hHeld ?_
 simp only [Act.put,List.setIfInBounds_toArray,List.set]
 refine tk 7 ⟨some 25,.fieldAddr 74 (.tmp 5) 1,0, "label.go:31",#[],none⟩ (.pointer (some ⟨z0+1,1,none⟩)) rfl (by kernel_rfl) (fun _ _ _ h=>h) (fun w h=>by (try dsimp only at h);go_simp) hHeld ?_
 simp only [Act.put,List.setIfInBounds_toArray,List.set]
 refine tk 8 ⟨some 26,.load 72 (.tmp 25),72, "label.go:31",#[⟨7,.data⟩],none⟩ (.int .u32 (r:Nat)) rfl (by kernel_rfl) (fun _ _ _ h=>h) (fun w h=>by (try dsimp only at h);go_simp) hHeld ?_
 simp only [Act.put,List.setIfInBounds_toArray,List.set]
 refine wpAnyH_ready (rs:=[6,9]) (by kernel_rfl) (by simp) ?_
 refine AllReadyH.cons rfl (fun K hK => ?_) (AllReadyH.cons rfl (fun K hK => ?_) AllReadyH.nil)
 case' refine_1 =>
  go_simp
  refine hK.out _ _ ⟨k0,k1⟩ (fun hHeld => ?_)
  clear hK K
  refine rd 9 (by kernel_rfl) rfl (fun K hK => ?_)
  go_simp
  refine hK.out _ _ (by rw [←HW3.out];exact ⟨m0,m1⟩) (fun hHeld => ?_)
  rw [←HW3.out] at hHeld ⊢
  simp only [Hs2.out]
  clear hK K
 case' refine_2 =>
  go_simp
  refine hK.out _ _ (by rw [←HW3.out];exact ⟨m0,m1⟩) (fun hHeld => ?_)
  rw [←HW3.out] at hHeld ⊢
  simp only [Hs2.out]
  clear hK K
  refine rd 6 (by kernel_rfl) rfl (fun K hK => ?_)
  go_simp
  refine hK.out _ _ ⟨m0,m1⟩ (fun hHeld => ?_)
  clear hK K
 all_goals
  refine rd 10 (by kernel_rfl) rfl (fun K hK => ?_)
  refine step_append_lies _ rfl _ _ 161 rfl (z0+2) 72 i0 (.int .u32 0) 1 4 Tryz.underlying161 hi hz0 hz1 hz2 rfl (by decide) (.slice none 0 0) 0 [] rfl (World.ownsRow_nil _ _ _ _) ⟨z0+2,0,none⟩ 1 1 [.int .u32 (r:Nat)] rfl rfl ?q1 ?q2 (by omega) (by simp [maxLen]) (by omega) (by rw [Hs3.out];omega) _ rfl ?_
  case q1=>exact World.news_of_block (cs:=#[.int .u32 (r:Nat)]) Hr3.out
  case q2=>simp [Value.oneCell']
  intro g4 cap4 w4 hown4 hg4 hat4 hlt4
  replace hg4:W3.grownBy w4 none:=hg4
  have up4:∀ k,k<z0+3→w4.heap[k]? = W3.heap[k]? := fun k hk=>hg4.block k (by rw [Hs3.out];omega) (fun e=>by cases e)
  have n0:w4.cell? ⟨z0+1,0,none⟩=some (.int .i64 (b:Nat)):=(World.cell?_of_block (up4 (z0+1) (by omega))).trans m0
  have n1:w4.cell? ⟨z0+1,1,none⟩=some (.int .u32 (r:Nat)):=(World.cell?_of_block (up4 (z0+1) (by omega))).trans m1
  obtain ⟨w5,hu,o5,hm5⟩:=store200 (owns_block (w':=w4) Ho3.out (up4 _ (by omega))) hb (by omega) (.slice (some ⟨g4,0,none⟩) (0+1) cap4)
  refine hK.out _ _ ⟨n0,n1⟩ (fun hHeld => ?_)
  clear hK K
  simp only [Act.put,List.setIfInBounds_toArray,List.set]
  refine rd 11 (by kernel_rfl) rfl (fun K hK => ?_)
  go_simp
  have hg5:=hm5.grown
  have s4:=hg4.size
  have s4':z0+3≤w4.heap.size:=by rw [Hs3.out] at s4;exact s4
  have p0:w5.cell? ⟨z0+1,0,none⟩=some (.int .i64 (b:Nat)):=(World.cell?_of_block (hg5.block (z0+1) (by omega) (fun e=>by simp at e))).trans n0
  have p1:w5.cell? ⟨z0+1,1,none⟩=some (.int .u32 (r:Nat)):=(World.cell?_of_block (hg5.block (z0+1) (by omega) (fun e=>by simp at e))).trans n1
  have HB5:Hid (Below z0 w w5):=hidI ((HB3.out.grown hg4 (by rw [Hs3.out];omega) (fun k e=>by cases e)).grown hg5 (by omega) (fun k e=>by cases e;exact Nat.le_refl _))
  have HR5:Hid (∃ cur4,w5.heap[g4]? = some (.cells cur4 72 (0,0))∧cur4[0]? = some (encU r)):=hidI (by
   rcases hown4.2 with ⟨e,_⟩ | ⟨g',cap',cur',e,q1,q2,q3,q4,q5,q6⟩
   ·cases e
   ·cases e
    refine ⟨cur',(hg5.block g4 hlt4 (fun e=>by cases e;omega)).trans q2,?_⟩
    cases h:cur'.toList with
    | nil=>rw [h] at q6;simp at q6
    | cons a l =>
      rw [h] at q6
      simp at q6
      rw [←Array.getElem?_toList,h]
      simp [q6,encU])
  have Ho5:=hidI o5
  have hz5:z0+3≤w5.heap.size:=by have:=hg5.size;omega
  have hg45:g4<w5.heap.size:=by have:=hg5.size;omega
  refine hK.out _ _ ⟨p0,p1⟩ (fun hHeld => ?_)
  clear hK K hHeld
  refine wpAnyH_done (by kernel_rfl) ?_ _
  clear hown4 hg4 hat4 hlt4 up4 n0 n1 hu o5 hm5 hg5 p0 p1 s4 s4' hmk hlk hlk3 k0 k1 m0 m1 c0 c1 hHeld
  go_wp2_with fail
  rw [rounds_succ]
  go_wp2_with fail
  refine (keysI_any (some z0) w5).mono ?_
  rintro e w6 ⟨rfl,hw6⟩
  have hs6:w6.heap.size=w5.heap.size+1:=by rw [hw6];simp
  have hb6:Below w5.heap.size w5 w6:=by rw [hw6];exact (Below.refl _ _).alloc (Nat.le_refl _) _
  have hc6:w6.cell? ⟨w5.heap.size,0,none⟩=some (.map (some z0)):=by rw [hw6];simp
  have B6:=hidI (sortedI_any w6 w5.heap.size z0 1 _ (by omega) hc6 (owns_block (w':=w6) Ho5.out (hb6.block z0 (by omega))) (by simp [Maps.size]))
  have Hb6:=hidI hb6
  have Hs6:=hidI hs6
  obtain ⟨z5,hz5e⟩:∃ z5,z5=w5.heap.size:=⟨_,rfl⟩
  have Hz5e:=hidI hz5e
  rw [←hz5e] at B6
  simp only [←hz5e]
  clear hb6 hc6 hw6 hs6 hz5e
  go_wp2_with fail
  refine B6.out.mono ?_
  rintro e w7 ⟨v7,ss,rfl,hperm,hrow7,hnil7,hb7⟩
  have hss:ss=[(b:Int)]:=by
   have:intKeys (DataW.map [(Lit.int .i64 (b:Nat),DataW.held (Value.slice (some ⟨g4,0,none⟩) (0+1) cap4))])=[(b:Int)]:=rfl
   exact List.perm_singleton.1 (this ▸ hperm)
  subst hss
  rcases hrow7.2 with ⟨_,h0⟩ | ⟨g7,cap7,cur7,rfl,q1,q2,q3,q4,q5,q6⟩
  ·simp at h0
  have hb57:Below w5.heap.size w5 w7:=Hb6.out.trans (hb7.mono (by have:=Hs6.out;omega))
  have HB7:Hid (Below z0 w w7):=hidI (HB5.out.trans (hb57.mono (by omega)))
  have k7:w7.cell? ⟨g7,0,none⟩=some (.int .i64 (b:Nat)):=by
   rw [cell_of_row w7 g7 0 _ 3 (0,0) q2]
   cases h:cur7.toList with
   | nil=>rw [h] at q6;simp at q6
   | cons a l =>
     rw [h] at q6
     simp [List.mergeSort] at q6
     rw [←Array.getElem?_toList,h]
     simp [q6,encZ]
  have hlk7:(Instr.lookup 160 (.map (some z0)) (.int .i64 (b:Nat)) false).run Tryz.prog w7=.ok (.slice (some ⟨g4,0,none⟩) 1 cap4) w7:=look200_some (owns_block (w':=w7) Ho5.out (hb57.block z0 (by omega))) hb
  obtain ⟨cur4,r1,r2⟩:=HR5.out
  have A7:=hidI (round1 w7 g4 cap4 r cur4 ((hb57.block g4 hg45).trans r1) r2 hr)
  have hz7:w5.heap.size≤w7.heap.size:=hb57.size
  clear hrow7 hnil7 hb7 hperm q1 q2 q3 q4 q5 q6 hb57 r1 r2 B6
  simp only [List.length_cons,List.length_nil,Nat.zero_add]
  go_wp2
  refine wp_loop_rounds 2 ?_
  rw [rounds_succ]
  go_wp2_with fail
  refine A7.out.mono ?_
  rintro e w8 ⟨v8,rfl,hrow8,hb8⟩
  rcases hrow8.2 with ⟨_,h0⟩ | ⟨g8,cap8,cur8,rfl,q1,q2,q3,q4,q5,q6⟩
  ·omega
  have HB8:Hid (Below z0 w w8):=hidI (HB7.out.trans (hb8.mono (by omega)))
  have k8:w8.cell? ⟨g8,0,none⟩=some (.int .u32 (r:Nat)):=by
   rw [cell_of_row w8 g8 0 _ 72 (0,0) q2]
   cases h:cur8.toList with
   | nil=>rw [h] at q6;simp at q6
   | cons a l =>
     rw [h] at q6
     simp at q6
     rw [←Array.getElem?_toList,h]
     simp [q6,encU]
  have hz8:z0≤w8.heap.size:=by have:=hb8.size;omega
  clear hrow8 hb8 q1 q2 q3 q4 q5 q6 hlk7 k7 A7
  go_wp2
  refine wp_loop_rounds 2 ?_
  rw [rounds_succ]
  go_wp2_with (at_builtin;refine wpList_append_own _ rfl _ _ 114 rfl z0 74 j0 (.agg #[.int .i64 0,.int .u32 0]) 2 16 Tryz.underlying114 hj hy0 hy1 hy2 rfl (by decide) _ 0 [] rfl (World.ownsRow_nil _ _ _ _) ⟨w8.heap.size,0,none⟩ 1 1 [.int .i64 (b:Nat),.int .u32 (r:Nat)] rfl rfl ?q1 ?q2 ?q3 ?q4 ?q5 ?_)
  case q1=>exact World.news_of_block (cs:=#[.int .i64 (b:Nat),.int .u32 (r:Nat)]) (heap_alloc_new _ _)
  case q2=>simp [Value.oneCell']
  case q3=>simp [maxLen]
  case q4=>omega
  case q5=>simp;omega
  intro v9 w9 hown9 hg9 hnil9
  have HB9:Hid (Below z0 w w9):=hidI ((HB8.out.alloc hz8 _).grown hg9 (by simp;omega) (fun k e=>by cases e))
  have HO9:Hid (w9.ownsRow z0 74 2 v9 1 (lbs [(b,r)])):=hidI (by simpa [lbs] using hown9)
  clear hown9 hg9 hnil9
  go_wp2
  rw [rounds_succ]
  go_wp2
  rw [rounds_succ]
  go_wp2
  go_ret
  exact ⟨v9,rfl,HO9.out,HB9.out⟩
end Go.Proofs.YtodmdkhdbfbfgabGreatDoor.S1
