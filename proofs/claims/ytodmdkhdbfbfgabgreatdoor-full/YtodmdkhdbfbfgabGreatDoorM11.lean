/- Lemmas and contracts for full. -/
import Derived.Deep.RegionHeld3
import Derived.BigRegion
import Derived.Test.YtodmdkhdbfbfgabGreatDoorM10
import Derived.Test.YtodmdkhdbfbfgabGreatDoorM00
set_option maxRecDepth 100000
set_option maxHeartbeats 8000000
namespace Go.Proofs.YtodmdkhdbfbfgabGreatDoor
open Go.RowKit Go.Nt
set_option linter.unusedVariables false
set_option linter.unusedSimpArgs false
def ReadP (s:Bs) (w:World) (e:Ending) (w':World):Prop:=
 ∃ p:Pg,e=.returned (.tuple #[pgv p,.bool (readP s).isSome])∧(∀ q,readP s=some q→p=q)∧Below w.heap.size w w'
theorem below_drew {B:Nat} {a b:World} (h:Below B a b):Below B a b.drew:=⟨h.os,h.tape,h.output,h.size,h.block⟩
theorem readPage_any (s:Bs) (w:World) (hs:s.length=64) :
 Calls Tryz.prog 84 #[.string (txt s)] w fun e w'=>ReadP s w e w':=by
 have HN1:=hidI (fun W=>number32_any (s.drop 60) W (by simp;omega))
 have HS1:=hidI (fun W=>sum_any (s.take 60) W (by simp;omega))
 have HN3:=hidI (fun W=>number32_any ((s.drop 1).take 4) W (by simp;omega))
 have HN4:=hidI (fun W=>number32_any ((s.drop 5).take 2) W (by simp;omega))
 have HN5:=hidI (fun W=>number32_any ((s.drop 7).take 2) W (by simp;omega))
 obtain ⟨X,hX⟩:∃ X,X=txt s:=⟨_,rfl⟩
 have Sx:X.size=64:=by rw [hX,txt_size,hs]
 have e1:X.extract 60 64=txt (s.drop 60):=by rw [hX,txt_extract];congr 1;exact List.take_of_length_le (by simp;omega)
 have e2:X.extract 0 60=txt (s.take 60):=by rw [hX,txt_extract];simp
 have e3:X.extract 1 5=txt ((s.drop 1).take 4):=by rw [hX,txt_extract]
 have e4:X.extract 5 7=txt ((s.drop 5).take 2):=by rw [hX,txt_extract]
 have e5:X.extract 7 9=txt ((s.drop 7).take 2):=by rw [hX,txt_extract]
 have e6:X.extract 9 60=txt ((s.take 60).drop 9):=by rw [hX,txt_extract,List.drop_take]
 have e0:∀ h:0<X.size,X[0]'h=s.getD 0 0:=fun h=>by subst hX;exact txt_getD s 0 h
 rw [←hX]
 obtain ⟨Y1,hY1⟩:∃ Y1,Y1=txt (s.drop 60):=⟨_,rfl⟩
 obtain ⟨Y2,hY2⟩:∃ Y2,Y2=txt (s.take 60):=⟨_,rfl⟩
 obtain ⟨Y3,hY3⟩:∃ Y,Y=txt ((s.drop 1).take 4):=⟨_,rfl⟩
 obtain ⟨Y4,hY4⟩:∃ Y,Y=txt ((s.drop 5).take 2):=⟨_,rfl⟩
 obtain ⟨Y5,hY5⟩:∃ Y,Y=txt ((s.drop 7).take 2):=⟨_,rfl⟩
 obtain ⟨Y6,hY6⟩:∃ Y,Y=txt ((s.take 60).drop 9):=⟨_,rfl⟩
 rw [←hY1] at HN1 e1
 rw [←hY2] at HS1 e2
 rw [←hY3] at HN3 e3
 rw [←hY4] at HN4 e4
 rw [←hY5] at HN5 e5
 rw [←hY6] at e6
 have HY6:=hidI hY6
 obtain ⟨n1,hn1⟩:∃ n1,n1=num (s.drop 60):=⟨_,rfl⟩
 obtain ⟨n2,hn2⟩:∃ n2,n2=sumP (s.take 60):=⟨_,rfl⟩
 obtain ⟨n3,hn3⟩:∃ n,n=num ((s.drop 1).take 4):=⟨_,rfl⟩
 obtain ⟨n4,hn4⟩:∃ n,n=num ((s.drop 5).take 2):=⟨_,rfl⟩
 obtain ⟨n5,hn5⟩:∃ n,n=num ((s.drop 7).take 2):=⟨_,rfl⟩
 have l4:n4<65536:=by rw [hn4];exact num_le (k:=2) (by simp;omega)
 have l5:n5<65536:=by rw [hn5];exact num_le (k:=2) (by simp;omega)
 obtain ⟨c0,hc0⟩:∃ c,c=s.getD 0 0:=⟨_,rfl⟩
 have hc256:c0.toNat<256:=c0.toNat_lt
 have hwr:IntKind.i64.wrap ((c0.toNat:Nat):Int)=(c0.toNat:Nat):=by rw [IntKind.wrap_i64];omega
 rw [←hn1] at HN1
 rw [←hn2] at HS1
 rw [←hn3] at HN3
 rw [←hn4] at HN4
 rw [←hn5] at HN5
 rw [←hc0] at e0
 have e0':X[0]'(by omega)=c0:=e0 (by omega)
 have hw4:IntKind.i64.wrap ((n4:Nat):Int)=(n4:Nat):=by rw [IntKind.wrap_i64];omega
 have hw5:IntKind.i64.wrap ((n5:Nat):Int)=(n5:Nat):=by rw [IntKind.wrap_i64];omega
 have Hn1:=hidI hn1;have Hn2:=hidI hn2;have Hn3:=hidI hn3;have Hn4:=hidI hn4;have Hn5:=hidI hn5;have Hc0:=hidI hc0
 obtain ⟨W1,hW1⟩:∃ W1,W1=w.alloc (.cells #[.int .i64 0,.int .u32 0,.int .i64 0,.int .i64 0,.string ⟨#[]⟩] 141):=⟨_,rfl⟩
 obtain ⟨g,hg⟩:∃ g,g=w.heap.size:=⟨_,rfl⟩
 have hG1:W1.heap[g]? = some (.cells #[.int .i64 0,.int .u32 0,.int .i64 0,.int .i64 0,.string ⟨#[]⟩] 141 (0,0)):=by rw [hW1,hg];exact heap_alloc_new _ _
 have hB1:Below w.heap.size w W1:=by rw [hW1];exact (Below.refl _ w).alloc (Nat.le_refl _) _
 have hgs1:g<W1.heap.size:=lt_of_heap hG1
 rw [←hg] at hB1
 have HW1:=hidI hW1
 have Hg:=hidI hg
 have HG1:=hidI hG1
 have HB1:=hidI hB1
 unfold ReadP
 rw [←hg]
 clear hW1 hY1 hY2 hY3 hY4 hY5 hY6 hn1 hn2 hn3 hn4 hn5 hc0 hG1 hB1 hX hg
 by_cases heq:n1=n2
 ·go_enter Tryz.func84,Tryz.ntmps84
  go_wp2_with (first | (rw [←HW1.out]) | (rw [←Hg.out]) | fail)
  refine wp_region_held_drew (S:=fun _=>True) (by kernel_rfl) trivial (fun hHeld => ?_)
  refine tk 0 ⟨some 7,.move (.tmp 0),9, "page.go:37",#[],none⟩ (.string X) rfl (by kernel_rfl) (fun _ _ _ h=>h) (fun w h=>by (try dsimp only at h);go_simp) hHeld ?_
  simp only [Act.put,List.setIfInBounds_toArray,List.set]
  refine tk 1 ⟨some 8,.call { callee:=Callee.builtin Builtin.len,args:=#[.tmp 7],argTypes:=#[9] },3, "page.go:37",#[⟨0,.data⟩],none⟩ (.int .i64 64) rfl (by kernel_rfl) (fun _ _ _ h=>h) (fun w h=>by (try dsimp only at h);go_simp) hHeld ?_
  simp only [Act.put,List.setIfInBounds_toArray,List.set]
  refine tk 2 ⟨some 9,.binOp .neq 3 (.tmp 8) (.const (.int .i64 64)) 3,4, "page.go:37",#[⟨1,.data⟩],none⟩ (.bool false) rfl (by kernel_rfl) (fun _ _ _ h=>h) (fun w h=>by (try dsimp only at h);go_simp) hHeld ?_
  simp only [Act.put,List.setIfInBounds_toArray,List.set]
  refine tk 3 ⟨some 10,.move (.tmp 9),4, "page.go:37",#[⟨2,.data⟩],none⟩ (.bool false) rfl (by kernel_rfl) (fun _ _ _ h=>h) (fun w h=>by (try dsimp only at h);go_simp) hHeld ?_
  simp only [Act.put,List.setIfInBounds_toArray,List.set]
  refine tk 4 ⟨some 11,.move (.tmp 0),9, "page.go:37",#[⟨3,.guard⟩],some (3,false)⟩ (.string X) rfl (by kernel_rfl) (fun _ _ _ h=>h) (fun w h=>by (try dsimp only at h);go_simp) hHeld ?_
  simp only [Act.put,List.setIfInBounds_toArray,List.set]
  refine tk 5 ⟨some 12,.move (.tmp 4),3, "page.go:37",#[⟨3,.guard⟩],some (3,false)⟩ (.int .i64 60) rfl (by kernel_rfl) (fun _ _ _ h=>h) (fun w h=>by (try dsimp only at h);go_simp) hHeld ?_
  simp only [Act.put,List.setIfInBounds_toArray,List.set]
  refine tk 6 ⟨some 13,.slice 9 (.tmp 11) (some (.tmp 12)) none none,9, "page.go:37",#[⟨4,.data⟩,⟨5,.data⟩,⟨3,.guard⟩],some (3,false)⟩ (.string Y1) rfl (by kernel_rfl) (fun _ _ _ h=>h) (fun w h=>by (try dsimp only at h);go_simp) hHeld ?_
  simp only [Act.put,List.setIfInBounds_toArray,List.set]
  refine tk 8 ⟨some 15,.move (.tmp 0),9, "page.go:37",#[⟨3,.guard⟩],some (3,false)⟩ (.string X) rfl (by kernel_rfl) (fun _ _ _ h=>h) (fun w h=>by (try dsimp only at h);go_simp) hHeld ?_
  simp only [Act.put,List.setIfInBounds_toArray,List.set]
  refine tk 9 ⟨some 16,.move (.tmp 4),3, "page.go:37",#[⟨3,.guard⟩],some (3,false)⟩ (.int .i64 60) rfl (by kernel_rfl) (fun _ _ _ h=>h) (fun w h=>by (try dsimp only at h);go_simp) hHeld ?_
  simp only [Act.put,List.setIfInBounds_toArray,List.set]
  refine tk 10 ⟨some 17,.slice 9 (.tmp 15) none (some (.tmp 16)) none,9, "page.go:37",#[⟨8,.data⟩,⟨9,.data⟩,⟨3,.guard⟩],some (3,false)⟩ (.string Y2) rfl (by kernel_rfl) (fun _ _ _ h=>h) (fun w h=>by (try dsimp only at h);go_simp) hHeld ?_
  simp only [Act.put,List.setIfInBounds_toArray,List.set]
  refine rd 7 (by kernel_rfl) rfl (fun K hK => ?_)
  go_simp
  refine (HN1.out _).mono ?_
  rintro e V1 ⟨rfl,hV1⟩
  refine hK.out _ _ trivial (fun hHeld => ?_)
  clear hK K
  refine rd 11 (by kernel_rfl) rfl (fun K hK => ?_)
  go_simp
  refine (HS1.out _).mono ?_
  rintro e V2 ⟨rfl,hV2⟩
  refine hK.out _ _ trivial (fun hHeld => ?_)
  clear hK K
  refine tk 12 ⟨some 19,.binOp .neq 72 (.tmp 14) (.tmp 18) 72,4, "page.go:37",#[⟨7,.data⟩,⟨11,.data⟩,⟨3,.guard⟩],some (3,false)⟩ (.bool false) rfl (by kernel_rfl) (fun _ _ _ h=>h) (fun w h=>by (try dsimp only at h);go_simp) hHeld ?_
  simp only [Act.put,List.setIfInBounds_toArray,List.set]
  refine tk 13 ⟨some 20,.pick (.tmp 10) (.const (.bool true)) (.tmp 19),4, "page.go:37",#[⟨3,.data⟩,⟨12,.data⟩],none⟩ (.bool false) rfl (by kernel_rfl) (fun _ _ _ h=>h) (fun w h=>by (try dsimp only at h);go_simp) hHeld ?_
  simp only [Act.put,List.setIfInBounds_toArray,List.set]
  refine wpAnyH_done (by kernel_rfl) ?_ _
  clear hHeld
  have hB2:Below W1.heap.size W1 V2:=(below_drew (Below.refl _ W1)).trans (hV1.trans (hV2.mono hV1.size))
  have hG2:=(hB2.block g hgs1).trans HG1.out
  have HG2:=hidI hG2
  have HB2:=hidI (HB1.out.trans (hB2.mono (by omega)))
  have hgs2:=lt_of_heap hG2
  clear hV1 hV2 hB2 HG1 HB1 hgs1 V1
  go_wp2_with fail
  refine wp_region_held_drew (S:=fun _=>True) (by kernel_rfl) trivial (fun hHeld => ?_)
  refine tk 0 ⟨some 22,.move (.tmp 0),9, "page.go:40",#[],none⟩ (.string X) rfl (by kernel_rfl) (fun _ _ _ h=>h) (fun w h=>by (try dsimp only at h);go_simp) hHeld ?_
  simp only [Act.put,List.setIfInBounds_toArray,List.set]
  refine tk 1 ⟨some 23,.index 9 (.tmp 22) (.const (.int .i64 0)),5, "page.go:40",#[⟨0,.data⟩],none⟩ (.int .u8 (c0.toNat:Nat)) rfl (by kernel_rfl) (fun _ _ _ h=>h) (fun w h=>by (try dsimp only at h);go_simp) hHeld ?_
  simp only [Act.put,List.setIfInBounds_toArray,List.set]
  refine tk 2 ⟨some 24,.convert 5 3 (.tmp 23),3, "page.go:40",#[⟨1,.data⟩],none⟩ (.int .i64 (c0.toNat:Nat)) rfl (by kernel_rfl) (fun _ _ _ h=>h) (fun w h=>by (try dsimp only at h);go_simp) hHeld ?_
  simp only [Act.put,List.setIfInBounds_toArray,List.set]
  refine tk 3 ⟨some 25,.move (.tmp 0),9, "page.go:40",#[],none⟩ (.string X) rfl (by kernel_rfl) (fun _ _ _ h=>h) (fun w h=>by (try dsimp only at h);go_simp) hHeld ?_
  simp only [Act.put,List.setIfInBounds_toArray,List.set]
  refine tk 4 ⟨some 26,.slice 9 (.tmp 25) (some (.const (.int .i64 1))) (some (.const (.int .i64 5))) none,9, "page.go:40",#[⟨3,.data⟩],none⟩ (.string Y3) rfl (by kernel_rfl) (fun _ _ _ h=>h) (fun w h=>by (try dsimp only at h);go_simp) hHeld ?_
  simp only [Act.put,List.setIfInBounds_toArray,List.set]
  refine wpAnyH_ready (rs:=[5,7]) (by kernel_rfl) (by simp) ?_
  refine AllReadyH.cons rfl (fun K hK => ?_) (AllReadyH.cons rfl (fun K hK => ?_) AllReadyH.nil)
  ·go_simp
   refine (HN3.out _).mono ?_
   rintro e V3 ⟨rfl,hV3⟩
   refine hK.out _ _ trivial (fun hHeld => ?_)
   clear hK K
   refine tk 6 ⟨some 28,.build 74 #[(0,.tmp 24),(1,.tmp 27)],74, "page.go:40",#[⟨2,.data⟩,⟨5,.data⟩],none⟩ (.agg #[.int .i64 (c0.toNat:Nat),.int .u32 (n3:Nat)]) rfl (by kernel_rfl) (fun _ _ _ h=>h) (fun w h=>by (try dsimp only at h);go_simp) hHeld ?_
   simp only [Act.put,List.setIfInBounds_toArray,List.set]
   refine rd 7 (by kernel_rfl) rfl (fun K hK => ?_)
   go_simp
   refine hK.out _ _ trivial (fun hHeld => ?_)
   clear hK K
   refine rd 8 (by kernel_rfl) rfl (fun K hK => ?_)
   go_simp
   refine hK.out _ _ trivial (fun hHeld => ?_)
   clear hK K
   refine wpAnyH_done (by kernel_rfl) ?_ _
   clear hHeld
   obtain ⟨W4,hW4⟩:∃ W4,W4=V3.alloc (.cells #[.int .i64 (c0.toNat:Nat),.int .u32 (n3:Nat)] 74):=⟨_,rfl⟩
   obtain ⟨rb,hrb⟩:∃ rb,rb=V3.heap.size:=⟨_,rfl⟩
   rw [←hW4]
   simp only [←hrb]
   have Hrb:Hid (W4.heap[rb]? = some (.cells #[.int .i64 (c0.toNat:Nat),.int .u32 (n3:Nat)] 74 (0,0))):=hidI (by rw [hW4,hrb];exact heap_alloc_new _ _)
   have hB4:Below V2.heap.size V2 W4:=by rw [hW4];exact ((below_drew (Below.refl _ V2)).trans hV3).alloc hV3.size _
   have hrg:g<rb:=by rw [hrb];have:=hV3.size;exact Nat.lt_of_lt_of_le hgs2 this
   clear hrb hW4 hV3
   have HGe4:=hidI ((hB4.block g hgs2).trans HG2.out)
   have HBe4:=hidI (HB2.out.trans (hB4.mono (by omega)))
   have hgs4:=lt_of_heap HGe4.out
   clear hB4 HG2 HB2
   have r0:W4.drew.cell? ⟨rb,0,none⟩=some (.int .i64 (c0.toNat:Nat)):=by rw [World.cell?_of_block (w:=W4) (w':=W4.drew) rfl,cell_of_row W4 rb 0 _ 74 (0,0) Hrb.out];rfl
   have r1:W4.drew.cell? ⟨rb,1,none⟩=some (.int .u32 (n3:Nat)):=by rw [World.cell?_of_block (w:=W4) (w':=W4.drew) rfl,cell_of_row W4 rb 1 _ 74 (0,0) Hrb.out];rfl
   have HK:Hid (∀ V:World,Below W4.heap.size W4 V→V.cell? ⟨rb,0,none⟩=some (.int .i64 (c0.toNat:Nat))∧V.cell? ⟨rb,1,none⟩=some (.int .u32 (n3:Nat))):=hidI (fun V hV=>⟨by rw [World.cell?_of_block (hV.block rb (lt_of_heap Hrb.out))];exact r0,by rw [World.cell?_of_block (hV.block rb (lt_of_heap Hrb.out))];exact r1⟩)
   go_wp2_with fail
   refine wp_region_held_drew (S:=(fun V=>V.cell? ⟨rb,0,none⟩=some (.int .i64 (c0.toNat:Nat))∧V.cell? ⟨rb,1,none⟩=some (.int .u32 (n3:Nat)))) (by kernel_rfl) ⟨r0,r1⟩ (fun hHeld => ?_)
   refine tk 0 ⟨some 29,.load 74 (.tmp 5),74, "page.go:41",#[],none⟩ (.agg #[.int .i64 (c0.toNat:Nat),.int .u32 (n3:Nat)]) rfl (by kernel_rfl) (fun _ _ _ h=>h) (fun w h=>by (try dsimp only at h);go_simp) hHeld ?_
   simp only [Act.put,List.setIfInBounds_toArray,List.set]
   refine tk 1 ⟨some 30,.move (.tmp 0),9, "page.go:41",#[],none⟩ (.string X) rfl (by kernel_rfl) (fun _ _ _ h=>h) (fun w h=>by (try dsimp only at h);go_simp) hHeld ?_
   simp only [Act.put,List.setIfInBounds_toArray,List.set]
   refine tk 2 ⟨some 31,.slice 9 (.tmp 30) (some (.const (.int .i64 5))) (some (.const (.int .i64 7))) none,9, "page.go:41",#[⟨1,.data⟩],none⟩ (.string Y4) rfl (by kernel_rfl) (fun _ _ _ h=>h) (fun w h=>by (try dsimp only at h);go_simp) hHeld ?_
   simp only [Act.put,List.setIfInBounds_toArray,List.set]
   refine tk 5 ⟨some 34,.move (.tmp 0),9, "page.go:41",#[],none⟩ (.string X) rfl (by kernel_rfl) (fun _ _ _ h=>h) (fun w h=>by (try dsimp only at h);go_simp) hHeld ?_
   simp only [Act.put,List.setIfInBounds_toArray,List.set]
   refine tk 6 ⟨some 35,.slice 9 (.tmp 34) (some (.const (.int .i64 7))) (some (.const (.int .i64 9))) none,9, "page.go:41",#[⟨5,.data⟩],none⟩ (.string Y5) rfl (by kernel_rfl) (fun _ _ _ h=>h) (fun w h=>by (try dsimp only at h);go_simp) hHeld ?_
   simp only [Act.put,List.setIfInBounds_toArray,List.set]
   refine tk 9 ⟨some 38,.move (.tmp 0),9, "page.go:41",#[],none⟩ (.string X) rfl (by kernel_rfl) (fun _ _ _ h=>h) (fun w h=>by (try dsimp only at h);go_simp) hHeld ?_
   simp only [Act.put,List.setIfInBounds_toArray,List.set]
   refine tk 10 ⟨some 39,.move (.tmp 4),3, "page.go:41",#[],none⟩ (.int .i64 60) rfl (by kernel_rfl) (fun _ _ _ h=>h) (fun w h=>by (try dsimp only at h);go_simp) hHeld ?_
   simp only [Act.put,List.setIfInBounds_toArray,List.set]
   refine tk 11 ⟨some 40,.slice 9 (.tmp 38) (some (.const (.int .i64 9))) (some (.tmp 39)) none,9, "page.go:41",#[⟨9,.data⟩,⟨10,.data⟩],none⟩ (.string Y6) rfl (by kernel_rfl) (fun _ _ _ h=>h) (fun w h=>by (try dsimp only at h);go_simp) hHeld ?_
   simp only [Act.put,List.setIfInBounds_toArray,List.set]
   refine wpAnyH_ready (rs:=[3,13]) (by kernel_rfl) (by simp) ?_
   refine AllReadyH.cons rfl (fun K hK => ?_) (AllReadyH.cons rfl (fun K hK => ?_) AllReadyH.nil)
   ·skip
    go_simp
    refine (HN4.out _).mono ?_
    rintro e V5 ⟨rfl,hV5⟩
    have bV5:Below W4.heap.size W4 V5:=(below_drew (Below.refl _ W4)).trans hV5
    refine hK.out _ _ (HK.out _ bV5) (fun hHeld => ?_)
    clear hK K
    refine tk 4 ⟨some 33,.convert 72 3 (.tmp 32),3, "page.go:41",#[⟨3,.data⟩],none⟩ (.int .i64 (n4:Nat)) rfl (by kernel_rfl) (fun _ _ _ h=>h) (fun w h=>by (try dsimp only at h);go_simp) hHeld ?_
    simp only [Act.put,List.setIfInBounds_toArray,List.set]
    refine wpAnyH_ready (rs:=[7,13]) (by kernel_rfl) (by simp) ?_
    refine AllReadyH.cons rfl (fun K hK => ?_) (AllReadyH.cons rfl (fun K hK => ?_) AllReadyH.nil)
    ·skip
     go_simp
     refine (HN5.out _).mono ?_
     rintro e V6 ⟨rfl,hV6⟩
     have bV6:Below W4.heap.size W4 V6:=bV5.trans (hV6.mono bV5.size)
     refine hK.out _ _ (HK.out _ bV6) (fun hHeld => ?_)
     clear hK K
     refine tk 8 ⟨some 37,.convert 72 3 (.tmp 36),3, "page.go:41",#[⟨7,.data⟩],none⟩ (.int .i64 (n5:Nat)) rfl (by kernel_rfl) (fun _ _ _ h=>h) (fun w h=>by (try dsimp only at h);go_simp) hHeld ?_
     simp only [Act.put,List.setIfInBounds_toArray,List.set]
     refine tk 12 ⟨some 41,.build 141 #[(0,.tmp 29),(1,.tmp 33),(2,.tmp 37),(3,.tmp 40)],141, "page.go:41",#[⟨0,.data⟩,⟨4,.data⟩,⟨8,.data⟩,⟨11,.data⟩],none⟩ (.agg #[.int .i64 (c0.toNat:Nat),.int .u32 (n3:Nat),.int .i64 (n4:Nat),.int .i64 (n5:Nat),.string Y6]) rfl (by kernel_rfl) (fun _ _ _ h=>h) (fun w h=>by (try dsimp only at h);go_simp) hHeld ?_
     simp only [Act.put,List.setIfInBounds_toArray,List.set]
     refine rd 13 (by kernel_rfl) rfl (fun K hK => ?_)
     go_simp
     refine hK.out _ _ (HK.out _ (bV6.alloc bV6.size _)) (fun hHeld => ?_)
     clear hK K
     refine rd 14 (by kernel_rfl) rfl (fun K hK => ?_)
     go_simp
     refine hK.out _ _ (HK.out _ (bV6.alloc bV6.size _)) (fun hHeld => ?_)
     clear hK K
     refine wpAnyH_done (by kernel_rfl) ?_ _
     clear hHeld
     obtain ⟨W6,hW6⟩:∃ W6,W6=V6.alloc (.cells #[.int .i64 (c0.toNat:Nat),.int .u32 (n3:Nat),.int .i64 (n4:Nat),.int .i64 (n5:Nat),.string Y6] 141):=⟨_,rfl⟩
     obtain ⟨pb,hpb⟩:∃ pb,pb=V6.heap.size:=⟨_,rfl⟩
     rw [←hW6]
     simp only [←hpb]
     have hgpb:g≠pb:=by have:=bV6.size;omega
     have Hpb:Hid (W6.heap[pb]? = some (.cells #[.int .i64 (c0.toNat:Nat),.int .u32 (n3:Nat),.int .i64 (n4:Nat),.int .i64 (n5:Nat),.string Y6] 141 (0,0))):=hidI (by rw [hW6,hpb];exact heap_alloc_new _ _)
     have hB6:Below W4.heap.size W4 W6:=by rw [hW6];exact bV6.alloc bV6.size _
     have HGe:=hidI ((hB6.block g hgs4).trans HGe4.out)
     have HBe:=hidI (HBe4.out.trans (hB6.mono (by omega)))
     have hpg:g≠pb:=hgpb
     clear hB6 hgpb r0 r1 HK bV5 bV6 hV5 hV6 hW6 hpb
     have p0:W6.cell? ⟨pb,0,none⟩=some (.int .i64 (c0.toNat:Nat)):=by rw [cell_of_row W6 pb 0 _ 141 (0,0) Hpb.out];rfl
     have p1:W6.cell? ⟨pb,1,none⟩=some (.int .u32 (n3:Nat)):=by rw [cell_of_row W6 pb 1 _ 141 (0,0) Hpb.out];rfl
     have p2:W6.cell? ⟨pb,2,none⟩=some (.int .i64 (n4:Nat)):=by rw [cell_of_row W6 pb 2 _ 141 (0,0) Hpb.out];rfl
     have p3:W6.cell? ⟨pb,3,none⟩=some (.int .i64 (n5:Nat)):=by rw [cell_of_row W6 pb 3 _ 141 (0,0) Hpb.out];rfl
     have p4:W6.cell? ⟨pb,4,none⟩=some (.string Y6):=by rw [cell_of_row W6 pb 4 _ 141 (0,0) Hpb.out];rfl
     have q0:W6.cell? ⟨g,0,none⟩=some (.int .i64 0):=by rw [cell_of_row W6 g 0 _ 141 (0,0) HGe.out];rfl
     have f0:=frozen_of_row W6 g 0 _ 141 HGe.out
     have q1:W6.cell? ⟨g,1,none⟩=some (.int .u32 0):=by rw [cell_of_row W6 g 1 _ 141 (0,0) HGe.out];rfl
     have f1:=frozen_of_row W6 g 1 _ 141 HGe.out
     have q2:W6.cell? ⟨g,2,none⟩=some (.int .i64 0):=by rw [cell_of_row W6 g 2 _ 141 (0,0) HGe.out];rfl
     have f2:=frozen_of_row W6 g 2 _ 141 HGe.out
     have q3:W6.cell? ⟨g,3,none⟩=some (.int .i64 0):=by rw [cell_of_row W6 g 3 _ 141 (0,0) HGe.out];rfl
     have f3:=frozen_of_row W6 g 3 _ 141 HGe.out
     have q4:W6.cell? ⟨g,4,none⟩=some (.string ⟨#[]⟩):=by rw [cell_of_row W6 g 4 _ 141 (0,0) HGe.out];rfl
     have f4:=frozen_of_row W6 g 4 _ 141 HGe.out
     by_cases hlt:n4<n5
     ·have hlt':(n4:Int)<(n5:Int):=by omega
      have HR:Hid (readP s=some (sayP s)):=hidI (by unfold readP okP;rw [hs,←Hn1.out,←Hn2.out];simp [heq,sayP,←Hn4.out,←Hn5.out,hlt])
      clear e1 e2 e3 e4 e5 e6 e0 e0' Sx heq
      go_wp2_with fail
      go_region
      go_wp2_with fail
      have hPv:pgv (sayP s)=.agg #[.int .i64 (c0.toNat:Nat),.int .u32 (n3:Nat),.int .i64 (n4:Nat),.int .i64 (n5:Nat),.string Y6]:=by unfold pgv sayP;rw [Hn3.out,Hn4.out,Hn5.out,Hc0.out,HY6.out]
      refine bodyPost_ret (v:=.tuple #[.agg #[.int .i64 (c0.toNat:Nat),.int .u32 (n3:Nat),.int .i64 (n4:Nat),.int .i64 (n5:Nat),.string Y6],.bool true]) ?_ rfl ⟨sayP s,?_,?_,?_⟩
      ·simp [results,go_sem,q0,q1,q2,q3,q4]
      ·rw [hPv,HR.out];rfl
      ·intro q hq;rw [HR.out] at hq;cases hq;rfl
      ·exact below_drew (((((HBe.out.setCell (by simp) _).setCell (by simp) _).setCell (by simp) _).setCell (by simp) _).setCell (by simp) _)
     ·have hlt':¬(n4:Int)<(n5:Int):=by omega
      have HR:Hid (readP s=none):=hidI (by unfold readP okP;rw [hs,←Hn1.out,←Hn2.out];simp [heq,sayP,←Hn4.out,←Hn5.out,hlt])
      clear e1 e2 e3 e4 e5 e6 e0 e0' Sx heq
      go_wp2_with fail
      go_region
      go_wp2_with fail
      have hPv:pgv (sayP s)=.agg #[.int .i64 (c0.toNat:Nat),.int .u32 (n3:Nat),.int .i64 (n4:Nat),.int .i64 (n5:Nat),.string Y6]:=by unfold pgv sayP;rw [Hn3.out,Hn4.out,Hn5.out,Hc0.out,HY6.out]
      refine bodyPost_ret (v:=.tuple #[.agg #[.int .i64 (c0.toNat:Nat),.int .u32 (n3:Nat),.int .i64 (n4:Nat),.int .i64 (n5:Nat),.string Y6],.bool false]) ?_ rfl ⟨sayP s,?_,?_,?_⟩
      ·simp [results,go_sem,q0,q1,q2,q3,q4]
      ·rw [hPv,HR.out];rfl
      ·intro q hq;rw [HR.out] at hq;cases hq
      ·exact below_drew (((((HBe.out.setCell (by simp) _).setCell (by simp) _).setCell (by simp) _).setCell (by simp) _).setCell (by simp) _)
    ·go_simp
     obtain ⟨V6,hV6e⟩:∃ V6,V6=V5.alloc (.cells #[.int .i64 0,.int .u32 0,.int .i64 0,.int .i64 0,.string ⟨#[]⟩] 141):=⟨_,rfl⟩
     obtain ⟨pb,hpb⟩:∃ pb,pb=V5.heap.size:=⟨_,rfl⟩
     have bV6:Below W4.heap.size W4 V6:=by rw [hV6e];exact bV5.alloc bV5.size _
     have hr6:V6.heap[pb]? = some (.cells #[.int .i64 0,.int .u32 0,.int .i64 0,.int .i64 0,.string ⟨#[]⟩] 141 (0,0)):=by rw [hV6e,hpb];exact heap_alloc_new _ _
     have hpW:W4.heap.size≤pb:=by rw [hpb];exact bV5.size
     rw [←hV6e]
     simp only [←hpb]
     refine hK.out _ _ (HK.out _ bV6) (fun hHeld => ?_)
     clear hK K hV6e hpb
     refine rd 7 (by kernel_rfl) rfl (fun K hK => ?_)
     go_simp
     refine (HN5.out _).mono ?_
     rintro e V7 ⟨rfl,hV7⟩
     have bV7:Below W4.heap.size W4 V7:=bV6.trans (hV7.mono bV6.size)
     refine hK.out _ _ (HK.out _ bV7) (fun hHeld => ?_)
     clear hK K
     have hrow:=(hV7.block pb (lt_of_heap hr6)).trans hr6
     refine tk 8 ⟨some 37,.convert 72 3 (.tmp 36),3, "page.go:41",#[⟨7,.data⟩],none⟩ (.int .i64 (n5:Nat)) rfl (by kernel_rfl) (fun _ _ _ h=>h) (fun w h=>by (try dsimp only at h);go_simp) hHeld ?_
     simp only [Act.put,List.setIfInBounds_toArray,List.set]
     refine tk 12 ⟨some 41,.build 141 #[(0,.tmp 29),(1,.tmp 33),(2,.tmp 37),(3,.tmp 40)],141, "page.go:41",#[⟨0,.data⟩,⟨4,.data⟩,⟨8,.data⟩,⟨11,.data⟩],none⟩ (.agg #[.int .i64 (c0.toNat:Nat),.int .u32 (n3:Nat),.int .i64 (n4:Nat),.int .i64 (n5:Nat),.string Y6]) rfl (by kernel_rfl) (fun _ _ _ h=>h) (fun w h=>by (try dsimp only at h);go_simp) hHeld ?_
     simp only [Act.put,List.setIfInBounds_toArray,List.set]
     have s0:V7.cell? ⟨pb,0,none⟩=some (.int .i64 0):=by rw [cell_of_row V7 pb 0 _ 141 (0,0) hrow];rfl
     have z0:=frozen_of_row V7 pb 0 _ 141 hrow
     have s1:V7.cell? ⟨pb,1,none⟩=some (.int .u32 0):=by rw [cell_of_row V7 pb 1 _ 141 (0,0) hrow];rfl
     have z1:=frozen_of_row V7 pb 1 _ 141 hrow
     have s2:V7.cell? ⟨pb,2,none⟩=some (.int .i64 0):=by rw [cell_of_row V7 pb 2 _ 141 (0,0) hrow];rfl
     have z2:=frozen_of_row V7 pb 2 _ 141 hrow
     have s3:V7.cell? ⟨pb,3,none⟩=some (.int .i64 0):=by rw [cell_of_row V7 pb 3 _ 141 (0,0) hrow];rfl
     have z3:=frozen_of_row V7 pb 3 _ 141 hrow
     have s4:V7.cell? ⟨pb,4,none⟩=some (.string ⟨#[]⟩):=by rw [cell_of_row V7 pb 4 _ 141 (0,0) hrow];rfl
     have z4:=frozen_of_row V7 pb 4 _ 141 hrow
     refine rd 14 (by kernel_rfl) rfl (fun K hK => ?_)
     go_simp
     obtain ⟨W6,hW6⟩:∃ W6,W6=(((((V7.setCell ⟨pb,0,none⟩ (.int .i64 (c0.toNat:Nat))).setCell ⟨pb,1,none⟩ (.int .u32 (n3:Nat))).setCell ⟨pb,2,none⟩ (.int .i64 (n4:Nat))).setCell ⟨pb,3,none⟩ (.int .i64 (n5:Nat))).setCell ⟨pb,4,none⟩ (.string Y6)):=⟨_,rfl⟩
     have bW6:Below W4.heap.size W4 W6:=by rw [hW6];exact (((((bV7.setCell (by simp;omega) _).setCell (by simp;omega) _).setCell (by simp;omega) _).setCell (by simp;omega) _).setCell (by simp;omega) _)
     rw [←hW6]
     refine hK.out _ _ (HK.out _ bW6) (fun hHeld => ?_)
     clear hK K
     refine wpAnyH_done (by kernel_rfl) ?_ _
     clear hHeld s0 s1 s2 s3 s4 z0 z1 z2 z3 z4
     have hgpb:g≠pb:=by omega
     have Hpb:Hid (W6.heap[pb]? = some (.cells #[.int .i64 (c0.toNat:Nat),.int .u32 (n3:Nat),.int .i64 (n4:Nat),.int .i64 (n5:Nat),.string Y6] 141 (0,0))):=hidI (by rw [hW6];exact (heap_setCell_same _ pb 4 _ 141 _ (heap_setCell_same _ pb 3 _ 141 _ (heap_setCell_same _ pb 2 _ 141 _ (heap_setCell_same _ pb 1 _ 141 _ (heap_setCell_same _ pb 0 _ 141 _ hrow))))))
     have hB6:Below W4.heap.size W4 W6:=bW6
     have HGe:=hidI ((hB6.block g hgs4).trans HGe4.out)
     have HBe:=hidI (HBe4.out.trans (hB6.mono (by omega)))
     have hpg:g≠pb:=hgpb
     clear hB6 hgpb r0 r1 HK bV5 bV6 bV7 hV5 hV7 hr6 hW6 bW6 hrow
     have p0:W6.cell? ⟨pb,0,none⟩=some (.int .i64 (c0.toNat:Nat)):=by rw [cell_of_row W6 pb 0 _ 141 (0,0) Hpb.out];rfl
     have p1:W6.cell? ⟨pb,1,none⟩=some (.int .u32 (n3:Nat)):=by rw [cell_of_row W6 pb 1 _ 141 (0,0) Hpb.out];rfl
     have p2:W6.cell? ⟨pb,2,none⟩=some (.int .i64 (n4:Nat)):=by rw [cell_of_row W6 pb 2 _ 141 (0,0) Hpb.out];rfl
     have p3:W6.cell? ⟨pb,3,none⟩=some (.int .i64 (n5:Nat)):=by rw [cell_of_row W6 pb 3 _ 141 (0,0) Hpb.out];rfl
     have p4:W6.cell? ⟨pb,4,none⟩=some (.string Y6):=by rw [cell_of_row W6 pb 4 _ 141 (0,0) Hpb.out];rfl
     have q0:W6.cell? ⟨g,0,none⟩=some (.int .i64 0):=by rw [cell_of_row W6 g 0 _ 141 (0,0) HGe.out];rfl
     have f0:=frozen_of_row W6 g 0 _ 141 HGe.out
     have q1:W6.cell? ⟨g,1,none⟩=some (.int .u32 0):=by rw [cell_of_row W6 g 1 _ 141 (0,0) HGe.out];rfl
     have f1:=frozen_of_row W6 g 1 _ 141 HGe.out
     have q2:W6.cell? ⟨g,2,none⟩=some (.int .i64 0):=by rw [cell_of_row W6 g 2 _ 141 (0,0) HGe.out];rfl
     have f2:=frozen_of_row W6 g 2 _ 141 HGe.out
     have q3:W6.cell? ⟨g,3,none⟩=some (.int .i64 0):=by rw [cell_of_row W6 g 3 _ 141 (0,0) HGe.out];rfl
     have f3:=frozen_of_row W6 g 3 _ 141 HGe.out
     have q4:W6.cell? ⟨g,4,none⟩=some (.string ⟨#[]⟩):=by rw [cell_of_row W6 g 4 _ 141 (0,0) HGe.out];rfl
     have f4:=frozen_of_row W6 g 4 _ 141 HGe.out
     by_cases hlt:n4<n5
     ·have hlt':(n4:Int)<(n5:Int):=by omega
      have HR:Hid (readP s=some (sayP s)):=hidI (by unfold readP okP;rw [hs,←Hn1.out,←Hn2.out];simp [heq,sayP,←Hn4.out,←Hn5.out,hlt])
      clear e1 e2 e3 e4 e5 e6 e0 e0' Sx heq
      go_wp2_with fail
      go_region
      go_wp2_with fail
      have hPv:pgv (sayP s)=.agg #[.int .i64 (c0.toNat:Nat),.int .u32 (n3:Nat),.int .i64 (n4:Nat),.int .i64 (n5:Nat),.string Y6]:=by unfold pgv sayP;rw [Hn3.out,Hn4.out,Hn5.out,Hc0.out,HY6.out]
      refine bodyPost_ret (v:=.tuple #[.agg #[.int .i64 (c0.toNat:Nat),.int .u32 (n3:Nat),.int .i64 (n4:Nat),.int .i64 (n5:Nat),.string Y6],.bool true]) ?_ rfl ⟨sayP s,?_,?_,?_⟩
      ·simp [results,go_sem,q0,q1,q2,q3,q4]
      ·rw [hPv,HR.out];rfl
      ·intro q hq;rw [HR.out] at hq;cases hq;rfl
      ·exact below_drew (((((HBe.out.setCell (by simp) _).setCell (by simp) _).setCell (by simp) _).setCell (by simp) _).setCell (by simp) _)
     ·have hlt':¬(n4:Int)<(n5:Int):=by omega
      have HR:Hid (readP s=none):=hidI (by unfold readP okP;rw [hs,←Hn1.out,←Hn2.out];simp [heq,sayP,←Hn4.out,←Hn5.out,hlt])
      clear e1 e2 e3 e4 e5 e6 e0 e0' Sx heq
      go_wp2_with fail
      go_region
      go_wp2_with fail
      have hPv:pgv (sayP s)=.agg #[.int .i64 (c0.toNat:Nat),.int .u32 (n3:Nat),.int .i64 (n4:Nat),.int .i64 (n5:Nat),.string Y6]:=by unfold pgv sayP;rw [Hn3.out,Hn4.out,Hn5.out,Hc0.out,HY6.out]
      refine bodyPost_ret (v:=.tuple #[.agg #[.int .i64 (c0.toNat:Nat),.int .u32 (n3:Nat),.int .i64 (n4:Nat),.int .i64 (n5:Nat),.string Y6],.bool false]) ?_ rfl ⟨sayP s,?_,?_,?_⟩
      ·simp [results,go_sem,q0,q1,q2,q3,q4]
      ·rw [hPv,HR.out];rfl
      ·intro q hq;rw [HR.out] at hq;cases hq
      ·exact below_drew (((((HBe.out.setCell (by simp) _).setCell (by simp) _).setCell (by simp) _).setCell (by simp) _).setCell (by simp) _)
   ·go_simp
    obtain ⟨V5,hV5e⟩:∃ V5,V5=(W4.alloc (.cells #[.int .i64 0,.int .u32 0,.int .i64 0,.int .i64 0,.string ⟨#[]⟩] 141)).drew:=⟨_,rfl⟩
    obtain ⟨pb,hpb⟩:∃ pb,pb=W4.heap.size:=⟨_,rfl⟩
    have bV5:Below W4.heap.size W4 V5:=by rw [hV5e];exact below_drew ((Below.refl _ W4).alloc (Nat.le_refl _) _)
    have hr6:V5.heap[pb]? = some (.cells #[.int .i64 0,.int .u32 0,.int .i64 0,.int .i64 0,.string ⟨#[]⟩] 141 (0,0)):=by rw [hV5e,hpb];exact heap_alloc_new _ _
    have hpW:W4.heap.size≤pb:=Nat.le_of_eq hpb.symm
    refine hK.out _ _ (HK.out _ (by rw [←hV5e];exact bV5)) (fun hHeld => ?_)
    rw [←hV5e]
    simp only [←hpb]
    clear hK K hV5e
    have HPb:=hidI hpb
    clear hpb
    refine rd 3 (by kernel_rfl) rfl (fun K hK => ?_)
    go_simp
    refine (HN4.out _).mono ?_
    rintro e V6 ⟨rfl,hV6⟩
    have bV6:Below W4.heap.size W4 V6:=bV5.trans (hV6.mono bV5.size)
    refine hK.out _ _ (HK.out _ bV6) (fun hHeld => ?_)
    clear hK K
    refine tk 4 ⟨some 33,.convert 72 3 (.tmp 32),3, "page.go:41",#[⟨3,.data⟩],none⟩ (.int .i64 (n4:Nat)) rfl (by kernel_rfl) (fun _ _ _ h=>h) (fun w h=>by (try dsimp only at h);go_simp) hHeld ?_
    simp only [Act.put,List.setIfInBounds_toArray,List.set]
    refine rd 7 (by kernel_rfl) rfl (fun K hK => ?_)
    go_simp
    refine (HN5.out _).mono ?_
    rintro e V7 ⟨rfl,hV7⟩
    have bV7:Below W4.heap.size W4 V7:=bV6.trans (hV7.mono bV6.size)
    refine hK.out _ _ (HK.out _ bV7) (fun hHeld => ?_)
    clear hK K
    have hrow:=(hV7.block pb (Nat.lt_of_lt_of_le (lt_of_heap hr6) hV6.size)).trans ((hV6.block pb (lt_of_heap hr6)).trans hr6)
    refine tk 8 ⟨some 37,.convert 72 3 (.tmp 36),3, "page.go:41",#[⟨7,.data⟩],none⟩ (.int .i64 (n5:Nat)) rfl (by kernel_rfl) (fun _ _ _ h=>h) (fun w h=>by (try dsimp only at h);go_simp) hHeld ?_
    simp only [Act.put,List.setIfInBounds_toArray,List.set]
    refine tk 12 ⟨some 41,.build 141 #[(0,.tmp 29),(1,.tmp 33),(2,.tmp 37),(3,.tmp 40)],141, "page.go:41",#[⟨0,.data⟩,⟨4,.data⟩,⟨8,.data⟩,⟨11,.data⟩],none⟩ (.agg #[.int .i64 (c0.toNat:Nat),.int .u32 (n3:Nat),.int .i64 (n4:Nat),.int .i64 (n5:Nat),.string Y6]) rfl (by kernel_rfl) (fun _ _ _ h=>h) (fun w h=>by (try dsimp only at h);go_simp) hHeld ?_
    simp only [Act.put,List.setIfInBounds_toArray,List.set]
    have s0:V7.cell? ⟨pb,0,none⟩=some (.int .i64 0):=by rw [cell_of_row V7 pb 0 _ 141 (0,0) hrow];rfl
    have z0:=frozen_of_row V7 pb 0 _ 141 hrow
    have s1:V7.cell? ⟨pb,1,none⟩=some (.int .u32 0):=by rw [cell_of_row V7 pb 1 _ 141 (0,0) hrow];rfl
    have z1:=frozen_of_row V7 pb 1 _ 141 hrow
    have s2:V7.cell? ⟨pb,2,none⟩=some (.int .i64 0):=by rw [cell_of_row V7 pb 2 _ 141 (0,0) hrow];rfl
    have z2:=frozen_of_row V7 pb 2 _ 141 hrow
    have s3:V7.cell? ⟨pb,3,none⟩=some (.int .i64 0):=by rw [cell_of_row V7 pb 3 _ 141 (0,0) hrow];rfl
    have z3:=frozen_of_row V7 pb 3 _ 141 hrow
    have s4:V7.cell? ⟨pb,4,none⟩=some (.string ⟨#[]⟩):=by rw [cell_of_row V7 pb 4 _ 141 (0,0) hrow];rfl
    have z4:=frozen_of_row V7 pb 4 _ 141 hrow
    refine rd 14 (by kernel_rfl) rfl (fun K hK => ?_)
    go_simp
    obtain ⟨W6,hW6⟩:∃ W6,W6=(((((V7.setCell ⟨pb,0,none⟩ (.int .i64 (c0.toNat:Nat))).setCell ⟨pb,1,none⟩ (.int .u32 (n3:Nat))).setCell ⟨pb,2,none⟩ (.int .i64 (n4:Nat))).setCell ⟨pb,3,none⟩ (.int .i64 (n5:Nat))).setCell ⟨pb,4,none⟩ (.string Y6)):=⟨_,rfl⟩
    have bW6:Below W4.heap.size W4 W6:=by rw [hW6];exact (((((bV7.setCell (by simp;omega) _).setCell (by simp;omega) _).setCell (by simp;omega) _).setCell (by simp;omega) _).setCell (by simp;omega) _)
    rw [←hW6]
    refine hK.out _ _ (HK.out _ bW6) (fun hHeld => ?_)
    clear hK K
    refine wpAnyH_done (by kernel_rfl) ?_ _
    clear hHeld s0 s1 s2 s3 s4 z0 z1 z2 z3 z4
    have hgpb:g≠pb:=by omega
    have Hpb:Hid (W6.heap[pb]? = some (.cells #[.int .i64 (c0.toNat:Nat),.int .u32 (n3:Nat),.int .i64 (n4:Nat),.int .i64 (n5:Nat),.string Y6] 141 (0,0))):=hidI (by rw [hW6];exact (heap_setCell_same _ pb 4 _ 141 _ (heap_setCell_same _ pb 3 _ 141 _ (heap_setCell_same _ pb 2 _ 141 _ (heap_setCell_same _ pb 1 _ 141 _ (heap_setCell_same _ pb 0 _ 141 _ hrow))))))
    have hB6:Below W4.heap.size W4 W6:=bW6
    have HGe:=hidI ((hB6.block g hgs4).trans HGe4.out)
    have HBe:=hidI (HBe4.out.trans (hB6.mono (by omega)))
    have hpg:g≠pb:=hgpb
    clear hB6 hgpb r0 r1 HK bV5 bV6 bV7 hV6 hV7 hr6 hW6 bW6 hrow
    have p0:W6.cell? ⟨pb,0,none⟩=some (.int .i64 (c0.toNat:Nat)):=by rw [cell_of_row W6 pb 0 _ 141 (0,0) Hpb.out];rfl
    have p1:W6.cell? ⟨pb,1,none⟩=some (.int .u32 (n3:Nat)):=by rw [cell_of_row W6 pb 1 _ 141 (0,0) Hpb.out];rfl
    have p2:W6.cell? ⟨pb,2,none⟩=some (.int .i64 (n4:Nat)):=by rw [cell_of_row W6 pb 2 _ 141 (0,0) Hpb.out];rfl
    have p3:W6.cell? ⟨pb,3,none⟩=some (.int .i64 (n5:Nat)):=by rw [cell_of_row W6 pb 3 _ 141 (0,0) Hpb.out];rfl
    have p4:W6.cell? ⟨pb,4,none⟩=some (.string Y6):=by rw [cell_of_row W6 pb 4 _ 141 (0,0) Hpb.out];rfl
    have q0:W6.cell? ⟨g,0,none⟩=some (.int .i64 0):=by rw [cell_of_row W6 g 0 _ 141 (0,0) HGe.out];rfl
    have f0:=frozen_of_row W6 g 0 _ 141 HGe.out
    have q1:W6.cell? ⟨g,1,none⟩=some (.int .u32 0):=by rw [cell_of_row W6 g 1 _ 141 (0,0) HGe.out];rfl
    have f1:=frozen_of_row W6 g 1 _ 141 HGe.out
    have q2:W6.cell? ⟨g,2,none⟩=some (.int .i64 0):=by rw [cell_of_row W6 g 2 _ 141 (0,0) HGe.out];rfl
    have f2:=frozen_of_row W6 g 2 _ 141 HGe.out
    have q3:W6.cell? ⟨g,3,none⟩=some (.int .i64 0):=by rw [cell_of_row W6 g 3 _ 141 (0,0) HGe.out];rfl
    have f3:=frozen_of_row W6 g 3 _ 141 HGe.out
    have q4:W6.cell? ⟨g,4,none⟩=some (.string ⟨#[]⟩):=by rw [cell_of_row W6 g 4 _ 141 (0,0) HGe.out];rfl
    have f4:=frozen_of_row W6 g 4 _ 141 HGe.out
    by_cases hlt:n4<n5
    ·have hlt':(n4:Int)<(n5:Int):=by omega
     have HR:Hid (readP s=some (sayP s)):=hidI (by unfold readP okP;rw [hs,←Hn1.out,←Hn2.out];simp [heq,sayP,←Hn4.out,←Hn5.out,hlt])
     clear e1 e2 e3 e4 e5 e6 e0 e0' Sx heq
     go_wp2_with fail
     go_region
     go_wp2_with fail
     have hPv:pgv (sayP s)=.agg #[.int .i64 (c0.toNat:Nat),.int .u32 (n3:Nat),.int .i64 (n4:Nat),.int .i64 (n5:Nat),.string Y6]:=by unfold pgv sayP;rw [Hn3.out,Hn4.out,Hn5.out,Hc0.out,HY6.out]
     refine bodyPost_ret (v:=.tuple #[.agg #[.int .i64 (c0.toNat:Nat),.int .u32 (n3:Nat),.int .i64 (n4:Nat),.int .i64 (n5:Nat),.string Y6],.bool true]) ?_ rfl ⟨sayP s,?_,?_,?_⟩
     ·simp [results,go_sem,q0,q1,q2,q3,q4]
     ·rw [hPv,HR.out];rfl
     ·intro q hq;rw [HR.out] at hq;cases hq;rfl
     ·exact below_drew (((((HBe.out.setCell (by simp) _).setCell (by simp) _).setCell (by simp) _).setCell (by simp) _).setCell (by simp) _)
    ·have hlt':¬(n4:Int)<(n5:Int):=by omega
     have HR:Hid (readP s=none):=hidI (by unfold readP okP;rw [hs,←Hn1.out,←Hn2.out];simp [heq,sayP,←Hn4.out,←Hn5.out,hlt])
     clear e1 e2 e3 e4 e5 e6 e0 e0' Sx heq
     go_wp2_with fail
     go_region
     go_wp2_with fail
     have hPv:pgv (sayP s)=.agg #[.int .i64 (c0.toNat:Nat),.int .u32 (n3:Nat),.int .i64 (n4:Nat),.int .i64 (n5:Nat),.string Y6]:=by unfold pgv sayP;rw [Hn3.out,Hn4.out,Hn5.out,Hc0.out,HY6.out]
     refine bodyPost_ret (v:=.tuple #[.agg #[.int .i64 (c0.toNat:Nat),.int .u32 (n3:Nat),.int .i64 (n4:Nat),.int .i64 (n5:Nat),.string Y6],.bool false]) ?_ rfl ⟨sayP s,?_,?_,?_⟩
     ·simp [results,go_sem,q0,q1,q2,q3,q4]
     ·rw [hPv,HR.out];rfl
     ·intro q hq;rw [HR.out] at hq;cases hq
     ·exact below_drew (((((HBe.out.setCell (by simp) _).setCell (by simp) _).setCell (by simp) _).setCell (by simp) _).setCell (by simp) _)
  ·go_simp
   obtain ⟨V3,hV3e⟩:∃ V3,V3=(V2.alloc (.cells #[.int .i64 0,.int .u32 0] 74)).drew:=⟨_,rfl⟩
   obtain ⟨rb,hrb⟩:∃ rb,rb=V2.heap.size:=⟨_,rfl⟩
   refine hK.out _ _ trivial (fun hHeld => ?_)
   clear hK K
   rw [←hV3e]
   simp only [←hrb]
   have HV3e:=hidI hV3e
   have HRb:=hidI hrb
   clear hV3e hrb
   refine rd 5 (by kernel_rfl) rfl (fun K hK => ?_)
   go_simp
   refine (HN3.out _).mono ?_
   rintro e V4 ⟨rfl,hV4⟩
   have hr3:V3.heap[rb]? = some (.cells #[.int .i64 0,.int .u32 0] 74 (0,0)):=by rw [HV3e.out,HRb.out];exact heap_alloc_new _ _
   have hrow:=(hV4.block rb (lt_of_heap hr3)).trans hr3
   refine hK.out _ _ trivial (fun hHeld => ?_)
   clear hK K
   refine tk 6 ⟨some 28,.build 74 #[(0,.tmp 24),(1,.tmp 27)],74, "page.go:40",#[⟨2,.data⟩,⟨5,.data⟩],none⟩ (.agg #[.int .i64 (c0.toNat:Nat),.int .u32 (n3:Nat)]) rfl (by kernel_rfl) (fun _ _ _ h=>h) (fun w h=>by (try dsimp only at h);go_simp) hHeld ?_
   simp only [Act.put,List.setIfInBounds_toArray,List.set]
   have s0:V4.cell? ⟨rb,0,none⟩=some (.int .i64 0):=by rw [cell_of_row V4 rb 0 _ 74 (0,0) hrow];rfl
   have z0:=frozen_of_row V4 rb 0 _ 74 hrow
   have s1:V4.cell? ⟨rb,1,none⟩=some (.int .u32 0):=by rw [cell_of_row V4 rb 1 _ 74 (0,0) hrow];rfl
   have z1:=frozen_of_row V4 rb 1 _ 74 hrow
   refine rd 8 (by kernel_rfl) rfl (fun K hK => ?_)
   go_simp
   refine hK.out _ _ trivial (fun hHeld => ?_)
   clear hK K
   refine wpAnyH_done (by kernel_rfl) ?_ _
   clear hHeld s0 z0 s1 z1
   obtain ⟨W4,hW4⟩:∃ W4,W4=(V4.setCell ⟨rb,0,none⟩ (.int .i64 (c0.toNat:Nat))).setCell ⟨rb,1,none⟩ (.int .u32 (n3:Nat)):=⟨_,rfl⟩
   rw [←hW4]
   have Hrb:Hid (W4.heap[rb]? = some (.cells #[.int .i64 (c0.toNat:Nat),.int .u32 (n3:Nat)] 74 (0,0))):=hidI (by rw [hW4];exact heap_setCell_same _ rb 1 _ 74 _ (heap_setCell_same _ rb 0 _ 74 _ hrow))
   have hB4:Below V2.heap.size V2 W4:=by rw [hW4];exact (((below_drew ((Below.refl _ V2).alloc (Nat.le_refl _) _)).trans (by rw [←HV3e.out];exact hV4.mono (by rw [HV3e.out];simp))).setCell (by simp [HRb.out]) _).setCell (by simp [HRb.out]) _
   have hrg:g<rb:=by rw [HRb.out];exact hgs2
   clear hW4 hV4 hrow hr3
   have HGe4:=hidI ((hB4.block g hgs2).trans HG2.out)
   have HBe4:=hidI (HB2.out.trans (hB4.mono (by omega)))
   have hgs4:=lt_of_heap HGe4.out
   clear hB4 HG2 HB2
   have r0:W4.drew.cell? ⟨rb,0,none⟩=some (.int .i64 (c0.toNat:Nat)):=by rw [World.cell?_of_block (w:=W4) (w':=W4.drew) rfl,cell_of_row W4 rb 0 _ 74 (0,0) Hrb.out];rfl
   have r1:W4.drew.cell? ⟨rb,1,none⟩=some (.int .u32 (n3:Nat)):=by rw [World.cell?_of_block (w:=W4) (w':=W4.drew) rfl,cell_of_row W4 rb 1 _ 74 (0,0) Hrb.out];rfl
   have HK:Hid (∀ V:World,Below W4.heap.size W4 V→V.cell? ⟨rb,0,none⟩=some (.int .i64 (c0.toNat:Nat))∧V.cell? ⟨rb,1,none⟩=some (.int .u32 (n3:Nat))):=hidI (fun V hV=>⟨by rw [World.cell?_of_block (hV.block rb (lt_of_heap Hrb.out))];exact r0,by rw [World.cell?_of_block (hV.block rb (lt_of_heap Hrb.out))];exact r1⟩)
   go_wp2_with fail
   refine wp_region_held_drew (S:=(fun V=>V.cell? ⟨rb,0,none⟩=some (.int .i64 (c0.toNat:Nat))∧V.cell? ⟨rb,1,none⟩=some (.int .u32 (n3:Nat)))) (by kernel_rfl) ⟨r0,r1⟩ (fun hHeld => ?_)
   refine tk 0 ⟨some 29,.load 74 (.tmp 5),74, "page.go:41",#[],none⟩ (.agg #[.int .i64 (c0.toNat:Nat),.int .u32 (n3:Nat)]) rfl (by kernel_rfl) (fun _ _ _ h=>h) (fun w h=>by (try dsimp only at h);go_simp) hHeld ?_
   simp only [Act.put,List.setIfInBounds_toArray,List.set]
   refine tk 1 ⟨some 30,.move (.tmp 0),9, "page.go:41",#[],none⟩ (.string X) rfl (by kernel_rfl) (fun _ _ _ h=>h) (fun w h=>by (try dsimp only at h);go_simp) hHeld ?_
   simp only [Act.put,List.setIfInBounds_toArray,List.set]
   refine tk 2 ⟨some 31,.slice 9 (.tmp 30) (some (.const (.int .i64 5))) (some (.const (.int .i64 7))) none,9, "page.go:41",#[⟨1,.data⟩],none⟩ (.string Y4) rfl (by kernel_rfl) (fun _ _ _ h=>h) (fun w h=>by (try dsimp only at h);go_simp) hHeld ?_
   simp only [Act.put,List.setIfInBounds_toArray,List.set]
   refine tk 5 ⟨some 34,.move (.tmp 0),9, "page.go:41",#[],none⟩ (.string X) rfl (by kernel_rfl) (fun _ _ _ h=>h) (fun w h=>by (try dsimp only at h);go_simp) hHeld ?_
   simp only [Act.put,List.setIfInBounds_toArray,List.set]
   refine tk 6 ⟨some 35,.slice 9 (.tmp 34) (some (.const (.int .i64 7))) (some (.const (.int .i64 9))) none,9, "page.go:41",#[⟨5,.data⟩],none⟩ (.string Y5) rfl (by kernel_rfl) (fun _ _ _ h=>h) (fun w h=>by (try dsimp only at h);go_simp) hHeld ?_
   simp only [Act.put,List.setIfInBounds_toArray,List.set]
   refine tk 9 ⟨some 38,.move (.tmp 0),9, "page.go:41",#[],none⟩ (.string X) rfl (by kernel_rfl) (fun _ _ _ h=>h) (fun w h=>by (try dsimp only at h);go_simp) hHeld ?_
   simp only [Act.put,List.setIfInBounds_toArray,List.set]
   refine tk 10 ⟨some 39,.move (.tmp 4),3, "page.go:41",#[],none⟩ (.int .i64 60) rfl (by kernel_rfl) (fun _ _ _ h=>h) (fun w h=>by (try dsimp only at h);go_simp) hHeld ?_
   simp only [Act.put,List.setIfInBounds_toArray,List.set]
   refine tk 11 ⟨some 40,.slice 9 (.tmp 38) (some (.const (.int .i64 9))) (some (.tmp 39)) none,9, "page.go:41",#[⟨9,.data⟩,⟨10,.data⟩],none⟩ (.string Y6) rfl (by kernel_rfl) (fun _ _ _ h=>h) (fun w h=>by (try dsimp only at h);go_simp) hHeld ?_
   simp only [Act.put,List.setIfInBounds_toArray,List.set]
   refine wpAnyH_ready (rs:=[3,13]) (by kernel_rfl) (by simp) ?_
   refine AllReadyH.cons rfl (fun K hK => ?_) (AllReadyH.cons rfl (fun K hK => ?_) AllReadyH.nil)
   ·skip
    go_simp
    refine (HN4.out _).mono ?_
    rintro e V5 ⟨rfl,hV5⟩
    have bV5:Below W4.heap.size W4 V5:=(below_drew (Below.refl _ W4)).trans hV5
    refine hK.out _ _ (HK.out _ bV5) (fun hHeld => ?_)
    clear hK K
    refine tk 4 ⟨some 33,.convert 72 3 (.tmp 32),3, "page.go:41",#[⟨3,.data⟩],none⟩ (.int .i64 (n4:Nat)) rfl (by kernel_rfl) (fun _ _ _ h=>h) (fun w h=>by (try dsimp only at h);go_simp) hHeld ?_
    simp only [Act.put,List.setIfInBounds_toArray,List.set]
    refine wpAnyH_ready (rs:=[7,13]) (by kernel_rfl) (by simp) ?_
    refine AllReadyH.cons rfl (fun K hK => ?_) (AllReadyH.cons rfl (fun K hK => ?_) AllReadyH.nil)
    ·skip
     go_simp
     refine (HN5.out _).mono ?_
     rintro e V6 ⟨rfl,hV6⟩
     have bV6:Below W4.heap.size W4 V6:=bV5.trans (hV6.mono bV5.size)
     refine hK.out _ _ (HK.out _ bV6) (fun hHeld => ?_)
     clear hK K
     refine tk 8 ⟨some 37,.convert 72 3 (.tmp 36),3, "page.go:41",#[⟨7,.data⟩],none⟩ (.int .i64 (n5:Nat)) rfl (by kernel_rfl) (fun _ _ _ h=>h) (fun w h=>by (try dsimp only at h);go_simp) hHeld ?_
     simp only [Act.put,List.setIfInBounds_toArray,List.set]
     refine tk 12 ⟨some 41,.build 141 #[(0,.tmp 29),(1,.tmp 33),(2,.tmp 37),(3,.tmp 40)],141, "page.go:41",#[⟨0,.data⟩,⟨4,.data⟩,⟨8,.data⟩,⟨11,.data⟩],none⟩ (.agg #[.int .i64 (c0.toNat:Nat),.int .u32 (n3:Nat),.int .i64 (n4:Nat),.int .i64 (n5:Nat),.string Y6]) rfl (by kernel_rfl) (fun _ _ _ h=>h) (fun w h=>by (try dsimp only at h);go_simp) hHeld ?_
     simp only [Act.put,List.setIfInBounds_toArray,List.set]
     refine rd 13 (by kernel_rfl) rfl (fun K hK => ?_)
     go_simp
     refine hK.out _ _ (HK.out _ (bV6.alloc bV6.size _)) (fun hHeld => ?_)
     clear hK K
     refine rd 14 (by kernel_rfl) rfl (fun K hK => ?_)
     go_simp
     refine hK.out _ _ (HK.out _ (bV6.alloc bV6.size _)) (fun hHeld => ?_)
     clear hK K
     refine wpAnyH_done (by kernel_rfl) ?_ _
     clear hHeld
     obtain ⟨W6,hW6⟩:∃ W6,W6=V6.alloc (.cells #[.int .i64 (c0.toNat:Nat),.int .u32 (n3:Nat),.int .i64 (n4:Nat),.int .i64 (n5:Nat),.string Y6] 141):=⟨_,rfl⟩
     obtain ⟨pb,hpb⟩:∃ pb,pb=V6.heap.size:=⟨_,rfl⟩
     rw [←hW6]
     simp only [←hpb]
     have hgpb:g≠pb:=by have:=bV6.size;omega
     have Hpb:Hid (W6.heap[pb]? = some (.cells #[.int .i64 (c0.toNat:Nat),.int .u32 (n3:Nat),.int .i64 (n4:Nat),.int .i64 (n5:Nat),.string Y6] 141 (0,0))):=hidI (by rw [hW6,hpb];exact heap_alloc_new _ _)
     have hB6:Below W4.heap.size W4 W6:=by rw [hW6];exact bV6.alloc bV6.size _
     have HGe:=hidI ((hB6.block g hgs4).trans HGe4.out)
     have HBe:=hidI (HBe4.out.trans (hB6.mono (by omega)))
     have hpg:g≠pb:=hgpb
     clear hB6 hgpb r0 r1 HK bV5 bV6 hV5 hV6 hW6 hpb
     have p0:W6.cell? ⟨pb,0,none⟩=some (.int .i64 (c0.toNat:Nat)):=by rw [cell_of_row W6 pb 0 _ 141 (0,0) Hpb.out];rfl
     have p1:W6.cell? ⟨pb,1,none⟩=some (.int .u32 (n3:Nat)):=by rw [cell_of_row W6 pb 1 _ 141 (0,0) Hpb.out];rfl
     have p2:W6.cell? ⟨pb,2,none⟩=some (.int .i64 (n4:Nat)):=by rw [cell_of_row W6 pb 2 _ 141 (0,0) Hpb.out];rfl
     have p3:W6.cell? ⟨pb,3,none⟩=some (.int .i64 (n5:Nat)):=by rw [cell_of_row W6 pb 3 _ 141 (0,0) Hpb.out];rfl
     have p4:W6.cell? ⟨pb,4,none⟩=some (.string Y6):=by rw [cell_of_row W6 pb 4 _ 141 (0,0) Hpb.out];rfl
     have q0:W6.cell? ⟨g,0,none⟩=some (.int .i64 0):=by rw [cell_of_row W6 g 0 _ 141 (0,0) HGe.out];rfl
     have f0:=frozen_of_row W6 g 0 _ 141 HGe.out
     have q1:W6.cell? ⟨g,1,none⟩=some (.int .u32 0):=by rw [cell_of_row W6 g 1 _ 141 (0,0) HGe.out];rfl
     have f1:=frozen_of_row W6 g 1 _ 141 HGe.out
     have q2:W6.cell? ⟨g,2,none⟩=some (.int .i64 0):=by rw [cell_of_row W6 g 2 _ 141 (0,0) HGe.out];rfl
     have f2:=frozen_of_row W6 g 2 _ 141 HGe.out
     have q3:W6.cell? ⟨g,3,none⟩=some (.int .i64 0):=by rw [cell_of_row W6 g 3 _ 141 (0,0) HGe.out];rfl
     have f3:=frozen_of_row W6 g 3 _ 141 HGe.out
     have q4:W6.cell? ⟨g,4,none⟩=some (.string ⟨#[]⟩):=by rw [cell_of_row W6 g 4 _ 141 (0,0) HGe.out];rfl
     have f4:=frozen_of_row W6 g 4 _ 141 HGe.out
     by_cases hlt:n4<n5
     ·have hlt':(n4:Int)<(n5:Int):=by omega
      have HR:Hid (readP s=some (sayP s)):=hidI (by unfold readP okP;rw [hs,←Hn1.out,←Hn2.out];simp [heq,sayP,←Hn4.out,←Hn5.out,hlt])
      clear e1 e2 e3 e4 e5 e6 e0 e0' Sx heq
      go_wp2_with fail
      go_region
      go_wp2_with fail
      have hPv:pgv (sayP s)=.agg #[.int .i64 (c0.toNat:Nat),.int .u32 (n3:Nat),.int .i64 (n4:Nat),.int .i64 (n5:Nat),.string Y6]:=by unfold pgv sayP;rw [Hn3.out,Hn4.out,Hn5.out,Hc0.out,HY6.out]
      refine bodyPost_ret (v:=.tuple #[.agg #[.int .i64 (c0.toNat:Nat),.int .u32 (n3:Nat),.int .i64 (n4:Nat),.int .i64 (n5:Nat),.string Y6],.bool true]) ?_ rfl ⟨sayP s,?_,?_,?_⟩
      ·simp [results,go_sem,q0,q1,q2,q3,q4]
      ·rw [hPv,HR.out];rfl
      ·intro q hq;rw [HR.out] at hq;cases hq;rfl
      ·exact below_drew (((((HBe.out.setCell (by simp) _).setCell (by simp) _).setCell (by simp) _).setCell (by simp) _).setCell (by simp) _)
     ·have hlt':¬(n4:Int)<(n5:Int):=by omega
      have HR:Hid (readP s=none):=hidI (by unfold readP okP;rw [hs,←Hn1.out,←Hn2.out];simp [heq,sayP,←Hn4.out,←Hn5.out,hlt])
      clear e1 e2 e3 e4 e5 e6 e0 e0' Sx heq
      go_wp2_with fail
      go_region
      go_wp2_with fail
      have hPv:pgv (sayP s)=.agg #[.int .i64 (c0.toNat:Nat),.int .u32 (n3:Nat),.int .i64 (n4:Nat),.int .i64 (n5:Nat),.string Y6]:=by unfold pgv sayP;rw [Hn3.out,Hn4.out,Hn5.out,Hc0.out,HY6.out]
      refine bodyPost_ret (v:=.tuple #[.agg #[.int .i64 (c0.toNat:Nat),.int .u32 (n3:Nat),.int .i64 (n4:Nat),.int .i64 (n5:Nat),.string Y6],.bool false]) ?_ rfl ⟨sayP s,?_,?_,?_⟩
      ·simp [results,go_sem,q0,q1,q2,q3,q4]
      ·rw [hPv,HR.out];rfl
      ·intro q hq;rw [HR.out] at hq;cases hq
      ·exact below_drew (((((HBe.out.setCell (by simp) _).setCell (by simp) _).setCell (by simp) _).setCell (by simp) _).setCell (by simp) _)
    ·go_simp
     obtain ⟨V6,hV6e⟩:∃ V6,V6=V5.alloc (.cells #[.int .i64 0,.int .u32 0,.int .i64 0,.int .i64 0,.string ⟨#[]⟩] 141):=⟨_,rfl⟩
     obtain ⟨pb,hpb⟩:∃ pb,pb=V5.heap.size:=⟨_,rfl⟩
     have bV6:Below W4.heap.size W4 V6:=by rw [hV6e];exact bV5.alloc bV5.size _
     have hr6:V6.heap[pb]? = some (.cells #[.int .i64 0,.int .u32 0,.int .i64 0,.int .i64 0,.string ⟨#[]⟩] 141 (0,0)):=by rw [hV6e,hpb];exact heap_alloc_new _ _
     have hpW:W4.heap.size≤pb:=by rw [hpb];exact bV5.size
     rw [←hV6e]
     simp only [←hpb]
     refine hK.out _ _ (HK.out _ bV6) (fun hHeld => ?_)
     clear hK K hV6e hpb
     refine rd 7 (by kernel_rfl) rfl (fun K hK => ?_)
     go_simp
     refine (HN5.out _).mono ?_
     rintro e V7 ⟨rfl,hV7⟩
     have bV7:Below W4.heap.size W4 V7:=bV6.trans (hV7.mono bV6.size)
     refine hK.out _ _ (HK.out _ bV7) (fun hHeld => ?_)
     clear hK K
     have hrow:=(hV7.block pb (lt_of_heap hr6)).trans hr6
     refine tk 8 ⟨some 37,.convert 72 3 (.tmp 36),3, "page.go:41",#[⟨7,.data⟩],none⟩ (.int .i64 (n5:Nat)) rfl (by kernel_rfl) (fun _ _ _ h=>h) (fun w h=>by (try dsimp only at h);go_simp) hHeld ?_
     simp only [Act.put,List.setIfInBounds_toArray,List.set]
     refine tk 12 ⟨some 41,.build 141 #[(0,.tmp 29),(1,.tmp 33),(2,.tmp 37),(3,.tmp 40)],141, "page.go:41",#[⟨0,.data⟩,⟨4,.data⟩,⟨8,.data⟩,⟨11,.data⟩],none⟩ (.agg #[.int .i64 (c0.toNat:Nat),.int .u32 (n3:Nat),.int .i64 (n4:Nat),.int .i64 (n5:Nat),.string Y6]) rfl (by kernel_rfl) (fun _ _ _ h=>h) (fun w h=>by (try dsimp only at h);go_simp) hHeld ?_
     simp only [Act.put,List.setIfInBounds_toArray,List.set]
     have s0:V7.cell? ⟨pb,0,none⟩=some (.int .i64 0):=by rw [cell_of_row V7 pb 0 _ 141 (0,0) hrow];rfl
     have z0:=frozen_of_row V7 pb 0 _ 141 hrow
     have s1:V7.cell? ⟨pb,1,none⟩=some (.int .u32 0):=by rw [cell_of_row V7 pb 1 _ 141 (0,0) hrow];rfl
     have z1:=frozen_of_row V7 pb 1 _ 141 hrow
     have s2:V7.cell? ⟨pb,2,none⟩=some (.int .i64 0):=by rw [cell_of_row V7 pb 2 _ 141 (0,0) hrow];rfl
     have z2:=frozen_of_row V7 pb 2 _ 141 hrow
     have s3:V7.cell? ⟨pb,3,none⟩=some (.int .i64 0):=by rw [cell_of_row V7 pb 3 _ 141 (0,0) hrow];rfl
     have z3:=frozen_of_row V7 pb 3 _ 141 hrow
     have s4:V7.cell? ⟨pb,4,none⟩=some (.string ⟨#[]⟩):=by rw [cell_of_row V7 pb 4 _ 141 (0,0) hrow];rfl
     have z4:=frozen_of_row V7 pb 4 _ 141 hrow
     refine rd 14 (by kernel_rfl) rfl (fun K hK => ?_)
     go_simp
     obtain ⟨W6,hW6⟩:∃ W6,W6=(((((V7.setCell ⟨pb,0,none⟩ (.int .i64 (c0.toNat:Nat))).setCell ⟨pb,1,none⟩ (.int .u32 (n3:Nat))).setCell ⟨pb,2,none⟩ (.int .i64 (n4:Nat))).setCell ⟨pb,3,none⟩ (.int .i64 (n5:Nat))).setCell ⟨pb,4,none⟩ (.string Y6)):=⟨_,rfl⟩
     have bW6:Below W4.heap.size W4 W6:=by rw [hW6];exact (((((bV7.setCell (by simp;omega) _).setCell (by simp;omega) _).setCell (by simp;omega) _).setCell (by simp;omega) _).setCell (by simp;omega) _)
     rw [←hW6]
     refine hK.out _ _ (HK.out _ bW6) (fun hHeld => ?_)
     clear hK K
     refine wpAnyH_done (by kernel_rfl) ?_ _
     clear hHeld s0 s1 s2 s3 s4 z0 z1 z2 z3 z4
     have hgpb:g≠pb:=by omega
     have Hpb:Hid (W6.heap[pb]? = some (.cells #[.int .i64 (c0.toNat:Nat),.int .u32 (n3:Nat),.int .i64 (n4:Nat),.int .i64 (n5:Nat),.string Y6] 141 (0,0))):=hidI (by rw [hW6];exact (heap_setCell_same _ pb 4 _ 141 _ (heap_setCell_same _ pb 3 _ 141 _ (heap_setCell_same _ pb 2 _ 141 _ (heap_setCell_same _ pb 1 _ 141 _ (heap_setCell_same _ pb 0 _ 141 _ hrow))))))
     have hB6:Below W4.heap.size W4 W6:=bW6
     have HGe:=hidI ((hB6.block g hgs4).trans HGe4.out)
     have HBe:=hidI (HBe4.out.trans (hB6.mono (by omega)))
     have hpg:g≠pb:=hgpb
     clear hB6 hgpb r0 r1 HK bV5 bV6 bV7 hV5 hV7 hr6 hW6 bW6 hrow
     have p0:W6.cell? ⟨pb,0,none⟩=some (.int .i64 (c0.toNat:Nat)):=by rw [cell_of_row W6 pb 0 _ 141 (0,0) Hpb.out];rfl
     have p1:W6.cell? ⟨pb,1,none⟩=some (.int .u32 (n3:Nat)):=by rw [cell_of_row W6 pb 1 _ 141 (0,0) Hpb.out];rfl
     have p2:W6.cell? ⟨pb,2,none⟩=some (.int .i64 (n4:Nat)):=by rw [cell_of_row W6 pb 2 _ 141 (0,0) Hpb.out];rfl
     have p3:W6.cell? ⟨pb,3,none⟩=some (.int .i64 (n5:Nat)):=by rw [cell_of_row W6 pb 3 _ 141 (0,0) Hpb.out];rfl
     have p4:W6.cell? ⟨pb,4,none⟩=some (.string Y6):=by rw [cell_of_row W6 pb 4 _ 141 (0,0) Hpb.out];rfl
     have q0:W6.cell? ⟨g,0,none⟩=some (.int .i64 0):=by rw [cell_of_row W6 g 0 _ 141 (0,0) HGe.out];rfl
     have f0:=frozen_of_row W6 g 0 _ 141 HGe.out
     have q1:W6.cell? ⟨g,1,none⟩=some (.int .u32 0):=by rw [cell_of_row W6 g 1 _ 141 (0,0) HGe.out];rfl
     have f1:=frozen_of_row W6 g 1 _ 141 HGe.out
     have q2:W6.cell? ⟨g,2,none⟩=some (.int .i64 0):=by rw [cell_of_row W6 g 2 _ 141 (0,0) HGe.out];rfl
     have f2:=frozen_of_row W6 g 2 _ 141 HGe.out
     have q3:W6.cell? ⟨g,3,none⟩=some (.int .i64 0):=by rw [cell_of_row W6 g 3 _ 141 (0,0) HGe.out];rfl
     have f3:=frozen_of_row W6 g 3 _ 141 HGe.out
     have q4:W6.cell? ⟨g,4,none⟩=some (.string ⟨#[]⟩):=by rw [cell_of_row W6 g 4 _ 141 (0,0) HGe.out];rfl
     have f4:=frozen_of_row W6 g 4 _ 141 HGe.out
     by_cases hlt:n4<n5
     ·have hlt':(n4:Int)<(n5:Int):=by omega
      have HR:Hid (readP s=some (sayP s)):=hidI (by unfold readP okP;rw [hs,←Hn1.out,←Hn2.out];simp [heq,sayP,←Hn4.out,←Hn5.out,hlt])
      clear e1 e2 e3 e4 e5 e6 e0 e0' Sx heq
      go_wp2_with fail
      go_region
      go_wp2_with fail
      have hPv:pgv (sayP s)=.agg #[.int .i64 (c0.toNat:Nat),.int .u32 (n3:Nat),.int .i64 (n4:Nat),.int .i64 (n5:Nat),.string Y6]:=by unfold pgv sayP;rw [Hn3.out,Hn4.out,Hn5.out,Hc0.out,HY6.out]
      refine bodyPost_ret (v:=.tuple #[.agg #[.int .i64 (c0.toNat:Nat),.int .u32 (n3:Nat),.int .i64 (n4:Nat),.int .i64 (n5:Nat),.string Y6],.bool true]) ?_ rfl ⟨sayP s,?_,?_,?_⟩
      ·simp [results,go_sem,q0,q1,q2,q3,q4]
      ·rw [hPv,HR.out];rfl
      ·intro q hq;rw [HR.out] at hq;cases hq;rfl
      ·exact below_drew (((((HBe.out.setCell (by simp) _).setCell (by simp) _).setCell (by simp) _).setCell (by simp) _).setCell (by simp) _)
     ·have hlt':¬(n4:Int)<(n5:Int):=by omega
      have HR:Hid (readP s=none):=hidI (by unfold readP okP;rw [hs,←Hn1.out,←Hn2.out];simp [heq,sayP,←Hn4.out,←Hn5.out,hlt])
      clear e1 e2 e3 e4 e5 e6 e0 e0' Sx heq
      go_wp2_with fail
      go_region
      go_wp2_with fail
      have hPv:pgv (sayP s)=.agg #[.int .i64 (c0.toNat:Nat),.int .u32 (n3:Nat),.int .i64 (n4:Nat),.int .i64 (n5:Nat),.string Y6]:=by unfold pgv sayP;rw [Hn3.out,Hn4.out,Hn5.out,Hc0.out,HY6.out]
      refine bodyPost_ret (v:=.tuple #[.agg #[.int .i64 (c0.toNat:Nat),.int .u32 (n3:Nat),.int .i64 (n4:Nat),.int .i64 (n5:Nat),.string Y6],.bool false]) ?_ rfl ⟨sayP s,?_,?_,?_⟩
      ·simp [results,go_sem,q0,q1,q2,q3,q4]
      ·rw [hPv,HR.out];rfl
      ·intro q hq;rw [HR.out] at hq;cases hq
      ·exact below_drew (((((HBe.out.setCell (by simp) _).setCell (by simp) _).setCell (by simp) _).setCell (by simp) _).setCell (by simp) _)
   ·go_simp
    obtain ⟨V5,hV5e⟩:∃ V5,V5=(W4.alloc (.cells #[.int .i64 0,.int .u32 0,.int .i64 0,.int .i64 0,.string ⟨#[]⟩] 141)).drew:=⟨_,rfl⟩
    obtain ⟨pb,hpb⟩:∃ pb,pb=W4.heap.size:=⟨_,rfl⟩
    have bV5:Below W4.heap.size W4 V5:=by rw [hV5e];exact below_drew ((Below.refl _ W4).alloc (Nat.le_refl _) _)
    have hr6:V5.heap[pb]? = some (.cells #[.int .i64 0,.int .u32 0,.int .i64 0,.int .i64 0,.string ⟨#[]⟩] 141 (0,0)):=by rw [hV5e,hpb];exact heap_alloc_new _ _
    have hpW:W4.heap.size≤pb:=Nat.le_of_eq hpb.symm
    refine hK.out _ _ (HK.out _ (by rw [←hV5e];exact bV5)) (fun hHeld => ?_)
    rw [←hV5e]
    simp only [←hpb]
    clear hK K hV5e
    have HPb:=hidI hpb
    clear hpb
    refine rd 3 (by kernel_rfl) rfl (fun K hK => ?_)
    go_simp
    refine (HN4.out _).mono ?_
    rintro e V6 ⟨rfl,hV6⟩
    have bV6:Below W4.heap.size W4 V6:=bV5.trans (hV6.mono bV5.size)
    refine hK.out _ _ (HK.out _ bV6) (fun hHeld => ?_)
    clear hK K
    refine tk 4 ⟨some 33,.convert 72 3 (.tmp 32),3, "page.go:41",#[⟨3,.data⟩],none⟩ (.int .i64 (n4:Nat)) rfl (by kernel_rfl) (fun _ _ _ h=>h) (fun w h=>by (try dsimp only at h);go_simp) hHeld ?_
    simp only [Act.put,List.setIfInBounds_toArray,List.set]
    refine rd 7 (by kernel_rfl) rfl (fun K hK => ?_)
    go_simp
    refine (HN5.out _).mono ?_
    rintro e V7 ⟨rfl,hV7⟩
    have bV7:Below W4.heap.size W4 V7:=bV6.trans (hV7.mono bV6.size)
    refine hK.out _ _ (HK.out _ bV7) (fun hHeld => ?_)
    clear hK K
    have hrow:=(hV7.block pb (Nat.lt_of_lt_of_le (lt_of_heap hr6) hV6.size)).trans ((hV6.block pb (lt_of_heap hr6)).trans hr6)
    refine tk 8 ⟨some 37,.convert 72 3 (.tmp 36),3, "page.go:41",#[⟨7,.data⟩],none⟩ (.int .i64 (n5:Nat)) rfl (by kernel_rfl) (fun _ _ _ h=>h) (fun w h=>by (try dsimp only at h);go_simp) hHeld ?_
    simp only [Act.put,List.setIfInBounds_toArray,List.set]
    refine tk 12 ⟨some 41,.build 141 #[(0,.tmp 29),(1,.tmp 33),(2,.tmp 37),(3,.tmp 40)],141, "page.go:41",#[⟨0,.data⟩,⟨4,.data⟩,⟨8,.data⟩,⟨11,.data⟩],none⟩ (.agg #[.int .i64 (c0.toNat:Nat),.int .u32 (n3:Nat),.int .i64 (n4:Nat),.int .i64 (n5:Nat),.string Y6]) rfl (by kernel_rfl) (fun _ _ _ h=>h) (fun w h=>by (try dsimp only at h);go_simp) hHeld ?_
    simp only [Act.put,List.setIfInBounds_toArray,List.set]
    have s0:V7.cell? ⟨pb,0,none⟩=some (.int .i64 0):=by rw [cell_of_row V7 pb 0 _ 141 (0,0) hrow];rfl
    have z0:=frozen_of_row V7 pb 0 _ 141 hrow
    have s1:V7.cell? ⟨pb,1,none⟩=some (.int .u32 0):=by rw [cell_of_row V7 pb 1 _ 141 (0,0) hrow];rfl
    have z1:=frozen_of_row V7 pb 1 _ 141 hrow
    have s2:V7.cell? ⟨pb,2,none⟩=some (.int .i64 0):=by rw [cell_of_row V7 pb 2 _ 141 (0,0) hrow];rfl
    have z2:=frozen_of_row V7 pb 2 _ 141 hrow
    have s3:V7.cell? ⟨pb,3,none⟩=some (.int .i64 0):=by rw [cell_of_row V7 pb 3 _ 141 (0,0) hrow];rfl
    have z3:=frozen_of_row V7 pb 3 _ 141 hrow
    have s4:V7.cell? ⟨pb,4,none⟩=some (.string ⟨#[]⟩):=by rw [cell_of_row V7 pb 4 _ 141 (0,0) hrow];rfl
    have z4:=frozen_of_row V7 pb 4 _ 141 hrow
    refine rd 14 (by kernel_rfl) rfl (fun K hK => ?_)
    go_simp
    obtain ⟨W6,hW6⟩:∃ W6,W6=(((((V7.setCell ⟨pb,0,none⟩ (.int .i64 (c0.toNat:Nat))).setCell ⟨pb,1,none⟩ (.int .u32 (n3:Nat))).setCell ⟨pb,2,none⟩ (.int .i64 (n4:Nat))).setCell ⟨pb,3,none⟩ (.int .i64 (n5:Nat))).setCell ⟨pb,4,none⟩ (.string Y6)):=⟨_,rfl⟩
    have bW6:Below W4.heap.size W4 W6:=by rw [hW6];exact (((((bV7.setCell (by simp;omega) _).setCell (by simp;omega) _).setCell (by simp;omega) _).setCell (by simp;omega) _).setCell (by simp;omega) _)
    rw [←hW6]
    refine hK.out _ _ (HK.out _ bW6) (fun hHeld => ?_)
    clear hK K
    refine wpAnyH_done (by kernel_rfl) ?_ _
    clear hHeld s0 s1 s2 s3 s4 z0 z1 z2 z3 z4
    have hgpb:g≠pb:=by omega
    have Hpb:Hid (W6.heap[pb]? = some (.cells #[.int .i64 (c0.toNat:Nat),.int .u32 (n3:Nat),.int .i64 (n4:Nat),.int .i64 (n5:Nat),.string Y6] 141 (0,0))):=hidI (by rw [hW6];exact (heap_setCell_same _ pb 4 _ 141 _ (heap_setCell_same _ pb 3 _ 141 _ (heap_setCell_same _ pb 2 _ 141 _ (heap_setCell_same _ pb 1 _ 141 _ (heap_setCell_same _ pb 0 _ 141 _ hrow))))))
    have hB6:Below W4.heap.size W4 W6:=bW6
    have HGe:=hidI ((hB6.block g hgs4).trans HGe4.out)
    have HBe:=hidI (HBe4.out.trans (hB6.mono (by omega)))
    have hpg:g≠pb:=hgpb
    clear hB6 hgpb r0 r1 HK bV5 bV6 bV7 hV6 hV7 hr6 hW6 bW6 hrow
    have p0:W6.cell? ⟨pb,0,none⟩=some (.int .i64 (c0.toNat:Nat)):=by rw [cell_of_row W6 pb 0 _ 141 (0,0) Hpb.out];rfl
    have p1:W6.cell? ⟨pb,1,none⟩=some (.int .u32 (n3:Nat)):=by rw [cell_of_row W6 pb 1 _ 141 (0,0) Hpb.out];rfl
    have p2:W6.cell? ⟨pb,2,none⟩=some (.int .i64 (n4:Nat)):=by rw [cell_of_row W6 pb 2 _ 141 (0,0) Hpb.out];rfl
    have p3:W6.cell? ⟨pb,3,none⟩=some (.int .i64 (n5:Nat)):=by rw [cell_of_row W6 pb 3 _ 141 (0,0) Hpb.out];rfl
    have p4:W6.cell? ⟨pb,4,none⟩=some (.string Y6):=by rw [cell_of_row W6 pb 4 _ 141 (0,0) Hpb.out];rfl
    have q0:W6.cell? ⟨g,0,none⟩=some (.int .i64 0):=by rw [cell_of_row W6 g 0 _ 141 (0,0) HGe.out];rfl
    have f0:=frozen_of_row W6 g 0 _ 141 HGe.out
    have q1:W6.cell? ⟨g,1,none⟩=some (.int .u32 0):=by rw [cell_of_row W6 g 1 _ 141 (0,0) HGe.out];rfl
    have f1:=frozen_of_row W6 g 1 _ 141 HGe.out
    have q2:W6.cell? ⟨g,2,none⟩=some (.int .i64 0):=by rw [cell_of_row W6 g 2 _ 141 (0,0) HGe.out];rfl
    have f2:=frozen_of_row W6 g 2 _ 141 HGe.out
    have q3:W6.cell? ⟨g,3,none⟩=some (.int .i64 0):=by rw [cell_of_row W6 g 3 _ 141 (0,0) HGe.out];rfl
    have f3:=frozen_of_row W6 g 3 _ 141 HGe.out
    have q4:W6.cell? ⟨g,4,none⟩=some (.string ⟨#[]⟩):=by rw [cell_of_row W6 g 4 _ 141 (0,0) HGe.out];rfl
    have f4:=frozen_of_row W6 g 4 _ 141 HGe.out
    by_cases hlt:n4<n5
    ·have hlt':(n4:Int)<(n5:Int):=by omega
     have HR:Hid (readP s=some (sayP s)):=hidI (by unfold readP okP;rw [hs,←Hn1.out,←Hn2.out];simp [heq,sayP,←Hn4.out,←Hn5.out,hlt])
     clear e1 e2 e3 e4 e5 e6 e0 e0' Sx heq
     go_wp2_with fail
     go_region
     go_wp2_with fail
     have hPv:pgv (sayP s)=.agg #[.int .i64 (c0.toNat:Nat),.int .u32 (n3:Nat),.int .i64 (n4:Nat),.int .i64 (n5:Nat),.string Y6]:=by unfold pgv sayP;rw [Hn3.out,Hn4.out,Hn5.out,Hc0.out,HY6.out]
     refine bodyPost_ret (v:=.tuple #[.agg #[.int .i64 (c0.toNat:Nat),.int .u32 (n3:Nat),.int .i64 (n4:Nat),.int .i64 (n5:Nat),.string Y6],.bool true]) ?_ rfl ⟨sayP s,?_,?_,?_⟩
     ·simp [results,go_sem,q0,q1,q2,q3,q4]
     ·rw [hPv,HR.out];rfl
     ·intro q hq;rw [HR.out] at hq;cases hq;rfl
     ·exact below_drew (((((HBe.out.setCell (by simp) _).setCell (by simp) _).setCell (by simp) _).setCell (by simp) _).setCell (by simp) _)
    ·have hlt':¬(n4:Int)<(n5:Int):=by omega
     have HR:Hid (readP s=none):=hidI (by unfold readP okP;rw [hs,←Hn1.out,←Hn2.out];simp [heq,sayP,←Hn4.out,←Hn5.out,hlt])
     clear e1 e2 e3 e4 e5 e6 e0 e0' Sx heq
     go_wp2_with fail
     go_region
     go_wp2_with fail
     have hPv:pgv (sayP s)=.agg #[.int .i64 (c0.toNat:Nat),.int .u32 (n3:Nat),.int .i64 (n4:Nat),.int .i64 (n5:Nat),.string Y6]:=by unfold pgv sayP;rw [Hn3.out,Hn4.out,Hn5.out,Hc0.out,HY6.out]
     refine bodyPost_ret (v:=.tuple #[.agg #[.int .i64 (c0.toNat:Nat),.int .u32 (n3:Nat),.int .i64 (n4:Nat),.int .i64 (n5:Nat),.string Y6],.bool false]) ?_ rfl ⟨sayP s,?_,?_,?_⟩
     ·simp [results,go_sem,q0,q1,q2,q3,q4]
     ·rw [hPv,HR.out];rfl
     ·intro q hq;rw [HR.out] at hq;cases hq
     ·exact below_drew (((((HBe.out.setCell (by simp) _).setCell (by simp) _).setCell (by simp) _).setCell (by simp) _).setCell (by simp) _)
 ·have HR:Hid (readP s=none):=hidI (by unfold readP okP;rw [←Hn1.out,←Hn2.out];simp [heq])
  have heq':¬(n1:Int)=(n2:Int):=by omega
  go_enter Tryz.func84,Tryz.ntmps84
  go_wp2_with (first | (rw [←HW1.out]) | (rw [←Hg.out]) | fail)
  refine wp_region_held_drew (S:=fun _=>True) (by kernel_rfl) trivial (fun hHeld => ?_)
  refine tk 0 ⟨some 7,.move (.tmp 0),9, "page.go:37",#[],none⟩ (.string X) rfl (by kernel_rfl) (fun _ _ _ h=>h) (fun w h=>by (try dsimp only at h);go_simp) hHeld ?_
  simp only [Act.put,List.setIfInBounds_toArray,List.set]
  refine tk 1 ⟨some 8,.call { callee:=Callee.builtin Builtin.len,args:=#[.tmp 7],argTypes:=#[9] },3, "page.go:37",#[⟨0,.data⟩],none⟩ (.int .i64 64) rfl (by kernel_rfl) (fun _ _ _ h=>h) (fun w h=>by (try dsimp only at h);go_simp) hHeld ?_
  simp only [Act.put,List.setIfInBounds_toArray,List.set]
  refine tk 2 ⟨some 9,.binOp .neq 3 (.tmp 8) (.const (.int .i64 64)) 3,4, "page.go:37",#[⟨1,.data⟩],none⟩ (.bool false) rfl (by kernel_rfl) (fun _ _ _ h=>h) (fun w h=>by (try dsimp only at h);go_simp) hHeld ?_
  simp only [Act.put,List.setIfInBounds_toArray,List.set]
  refine tk 3 ⟨some 10,.move (.tmp 9),4, "page.go:37",#[⟨2,.data⟩],none⟩ (.bool false) rfl (by kernel_rfl) (fun _ _ _ h=>h) (fun w h=>by (try dsimp only at h);go_simp) hHeld ?_
  simp only [Act.put,List.setIfInBounds_toArray,List.set]
  refine tk 4 ⟨some 11,.move (.tmp 0),9, "page.go:37",#[⟨3,.guard⟩],some (3,false)⟩ (.string X) rfl (by kernel_rfl) (fun _ _ _ h=>h) (fun w h=>by (try dsimp only at h);go_simp) hHeld ?_
  simp only [Act.put,List.setIfInBounds_toArray,List.set]
  refine tk 5 ⟨some 12,.move (.tmp 4),3, "page.go:37",#[⟨3,.guard⟩],some (3,false)⟩ (.int .i64 60) rfl (by kernel_rfl) (fun _ _ _ h=>h) (fun w h=>by (try dsimp only at h);go_simp) hHeld ?_
  simp only [Act.put,List.setIfInBounds_toArray,List.set]
  refine tk 6 ⟨some 13,.slice 9 (.tmp 11) (some (.tmp 12)) none none,9, "page.go:37",#[⟨4,.data⟩,⟨5,.data⟩,⟨3,.guard⟩],some (3,false)⟩ (.string Y1) rfl (by kernel_rfl) (fun _ _ _ h=>h) (fun w h=>by (try dsimp only at h);go_simp) hHeld ?_
  simp only [Act.put,List.setIfInBounds_toArray,List.set]
  refine tk 8 ⟨some 15,.move (.tmp 0),9, "page.go:37",#[⟨3,.guard⟩],some (3,false)⟩ (.string X) rfl (by kernel_rfl) (fun _ _ _ h=>h) (fun w h=>by (try dsimp only at h);go_simp) hHeld ?_
  simp only [Act.put,List.setIfInBounds_toArray,List.set]
  refine tk 9 ⟨some 16,.move (.tmp 4),3, "page.go:37",#[⟨3,.guard⟩],some (3,false)⟩ (.int .i64 60) rfl (by kernel_rfl) (fun _ _ _ h=>h) (fun w h=>by (try dsimp only at h);go_simp) hHeld ?_
  simp only [Act.put,List.setIfInBounds_toArray,List.set]
  refine tk 10 ⟨some 17,.slice 9 (.tmp 15) none (some (.tmp 16)) none,9, "page.go:37",#[⟨8,.data⟩,⟨9,.data⟩,⟨3,.guard⟩],some (3,false)⟩ (.string Y2) rfl (by kernel_rfl) (fun _ _ _ h=>h) (fun w h=>by (try dsimp only at h);go_simp) hHeld ?_
  simp only [Act.put,List.setIfInBounds_toArray,List.set]
  refine rd 7 (by kernel_rfl) rfl (fun K hK => ?_)
  go_simp
  refine (HN1.out _).mono ?_
  rintro e V1 ⟨rfl,hV1⟩
  refine hK.out _ _ trivial (fun hHeld => ?_)
  clear hK K
  refine rd 11 (by kernel_rfl) rfl (fun K hK => ?_)
  go_simp
  refine (HS1.out _).mono ?_
  rintro e V2 ⟨rfl,hV2⟩
  refine hK.out _ _ trivial (fun hHeld => ?_)
  clear hK K
  refine tk 12 ⟨some 19,.binOp .neq 72 (.tmp 14) (.tmp 18) 72,4, "page.go:37",#[⟨7,.data⟩,⟨11,.data⟩,⟨3,.guard⟩],some (3,false)⟩ (.bool true) rfl (by kernel_rfl) (fun _ _ _ h=>h) (fun w h=>by (try dsimp only at h);go_simp) hHeld ?_
  simp only [Act.put,List.setIfInBounds_toArray,List.set]
  refine tk 13 ⟨some 20,.pick (.tmp 10) (.const (.bool true)) (.tmp 19),4, "page.go:37",#[⟨3,.data⟩,⟨12,.data⟩],none⟩ (.bool true) rfl (by kernel_rfl) (fun _ _ _ h=>h) (fun w h=>by (try dsimp only at h);go_simp) hHeld ?_
  simp only [Act.put,List.setIfInBounds_toArray,List.set]
  refine wpAnyH_done (by kernel_rfl) ?_ _
  clear hHeld
  have hB2:Below W1.heap.size W1 V2:=(below_drew (Below.refl _ W1)).trans (hV1.trans (hV2.mono hV1.size))
  have hG2:=(hB2.block g hgs1).trans HG1.out
  have HG2:=hidI hG2
  have HB2:=hidI (HB1.out.trans (hB2.mono (by omega)))
  have hgs2:=lt_of_heap hG2
  clear hV1 hV2 hB2 HG1 HB1 hgs1 V1
  have q0:V2.cell? ⟨g,0,none⟩=some (.int .i64 0):=by rw [cell_of_row V2 g 0 _ 141 (0,0) HG2.out];rfl
  have q1:V2.cell? ⟨g,1,none⟩=some (.int .u32 0):=by rw [cell_of_row V2 g 1 _ 141 (0,0) HG2.out];rfl
  have q2:V2.cell? ⟨g,2,none⟩=some (.int .i64 0):=by rw [cell_of_row V2 g 2 _ 141 (0,0) HG2.out];rfl
  have q3:V2.cell? ⟨g,3,none⟩=some (.int .i64 0):=by rw [cell_of_row V2 g 3 _ 141 (0,0) HG2.out];rfl
  have q4:V2.cell? ⟨g,4,none⟩=some (.string ⟨#[]⟩):=by rw [cell_of_row V2 g 4 _ 141 (0,0) HG2.out];rfl
  have f0:=frozen_of_row V2 g 0 _ 141 HG2.out
  have f1:=frozen_of_row V2 g 1 _ 141 HG2.out
  have f2:=frozen_of_row V2 g 2 _ 141 HG2.out
  have f3:=frozen_of_row V2 g 3 _ 141 HG2.out
  have f4:=frozen_of_row V2 g 4 _ 141 HG2.out
  clear e1 e2 e3 e4 e5 e6 e0 e0' Sx heq heq'
  go_wp2_with fail
  refine bodyPost_ret (v:=.tuple #[.agg #[.int .i64 0,.int .u32 0,.int .i64 0,.int .i64 0,.string ⟨#[]⟩],.bool false]) ?_ rfl ⟨⟨0,0,0,0,[]⟩,?_,?_,?_⟩
  ·simp [results,go_sem,q0,q1,q2,q3,q4]
  ·rw [HR.out];rfl
  ·intro q hq;rw [HR.out] at hq;cases hq
  ·exact ((((HB2.out.setCell (by simp) _).setCell (by simp) _).setCell (by simp) _).setCell (by simp) _).setCell (by simp) _
end Go.Proofs.YtodmdkhdbfbfgabGreatDoor
