/- Lemmas. -/
import Derived.Test.YtodmdkhdbfbfgaaGreatDoorM10
set_option linter.unusedVariables false
set_option linter.unusedSimpArgs false
set_option maxRecDepth 100000
set_option maxHeartbeats 8000000
namespace Go.Proofs.YtodmdkhdbfbfgaaGreatDoor
open Go.RowKit Go.Nt
def ReadP (s:Bs) (w:World) (e:Ending) (w':World):Prop:=
 ∃ p:Pg,e=.returned (.tuple #[pgv p,.bool (readP s).isSome])∧(∀ q,readP s=some q→p=q)∧Below w.heap.size w w'
theorem qas {B:Nat} {a b:World} (h:Below B a b):Below B a b.drew:=⟨h.os,h.tape,h.output,h.size,h.block⟩
theorem qfv (s:Bs) (w:World) (hs:s.length=64) :
 Calls Tryz.prog 133 #[.string (txt s)] w fun e w'=>ReadP s w e w':=by
 have HN1:=hidI (fun W=>qa0 (s.drop 60) W (by simp;omega));have HS1:=hidI (fun W=>qjV (s.take 60) W (by simp;omega));have HN3:=hidI (fun W=>qa0 ((s.drop 1).take 4) W (by simp;omega));have HN4:=hidI (fun W=>qa0 ((s.drop 5).take 2) W (by simp;omega));have HN5:=hidI (fun W=>qa0 ((s.drop 7).take 2) W (by simp;omega));obtain ⟨X,hX⟩:∃ X,X=txt s:=⟨_,rfl⟩;have Sx:X.size=64:=by rw [hX,qaa,hs]
 have e1:X.extract 60 64=txt (s.drop 60):=by rw [hX,qae];congr 1;exact List.take_of_length_le (by simp;omega)
 have e2:X.extract 0 60=txt (s.take 60):=by rw [hX,qae];simp
 have e3:X.extract 1 5=txt ((s.drop 1).take 4):=by rw [hX,qae]
 have e4:X.extract 5 7=txt ((s.drop 5).take 2):=by rw [hX,qae]
 have e5:X.extract 7 9=txt ((s.drop 7).take 2):=by rw [hX,qae]
 have e6:X.extract 9 60=txt ((s.take 60).drop 9):=by rw [hX,qae,List.drop_take]
 have e0:∀ h:0<X.size,X[0]'h=s.getD 0 0:=fun h=>by subst hX;exact qaR s 0 h
 rw [←hX];obtain ⟨Y1,hY1⟩:∃ Y1,Y1=txt (s.drop 60):=⟨_,rfl⟩;obtain ⟨Y2,hY2⟩:∃ Y2,Y2=txt (s.take 60):=⟨_,rfl⟩;obtain ⟨Y3,hY3⟩:∃ Y,Y=txt ((s.drop 1).take 4):=⟨_,rfl⟩;obtain ⟨Y4,hY4⟩:∃ Y,Y=txt ((s.drop 5).take 2):=⟨_,rfl⟩;obtain ⟨Y5,hY5⟩:∃ Y,Y=txt ((s.drop 7).take 2):=⟨_,rfl⟩;obtain ⟨Y6,hY6⟩:∃ Y,Y=txt ((s.take 60).drop 9):=⟨_,rfl⟩;rw [←hY1] at HN1 e1;rw [←hY2] at HS1 e2;rw [←hY3] at HN3 e3;rw [←hY4] at HN4 e4;rw [←hY5] at HN5 e5;rw [←hY6] at e6;have HY6:=hidI hY6;obtain ⟨n1,hn1⟩:∃ n1,n1=num (s.drop 60):=⟨_,rfl⟩;obtain ⟨n2,hn2⟩:∃ n2,n2=sumP (s.take 60):=⟨_,rfl⟩;obtain ⟨n3,hn3⟩:∃ n,n=num ((s.drop 1).take 4):=⟨_,rfl⟩;obtain ⟨n4,hn4⟩:∃ n,n=num ((s.drop 5).take 2):=⟨_,rfl⟩;obtain ⟨n5,hn5⟩:∃ n,n=num ((s.drop 7).take 2):=⟨_,rfl⟩;have l4:n4<65536:=by rw [hn4];exact qeX (k:=2) (by simp;omega)
 have l5:n5<65536:=by rw [hn5];exact qeX (k:=2) (by simp;omega)
 obtain ⟨c0,hc0⟩:∃ c,c=s.getD 0 0:=⟨_,rfl⟩;have hc256:c0.toNat<256:=c0.toNat_lt;have hwr:IntKind.i64.wrap ((c0.toNat:Nat):Int)=(c0.toNat:Nat):=by rw [IntKind.wrap_i64];omega
 rw [←hn1] at HN1;rw [←hn2] at HS1;rw [←hn3] at HN3;rw [←hn4] at HN4;rw [←hn5] at HN5;rw [←hc0] at e0;have e0':X[0]'(by omega)=c0:=e0 (by omega);have hw4:IntKind.i64.wrap ((n4:Nat):Int)=(n4:Nat):=by rw [IntKind.wrap_i64];omega
 have hw5:IntKind.i64.wrap ((n5:Nat):Int)=(n5:Nat):=by rw [IntKind.wrap_i64];omega
 have Hn1:=hidI hn1;have Hn2:=hidI hn2;have Hn3:=hidI hn3;have Hn4:=hidI hn4;have Hn5:=hidI hn5;have Hc0:=hidI hc0;obtain ⟨W1,hW1⟩:∃ W1,W1=w.alloc (.cells #[.int .i64 0,.int .u32 0,.int .i64 0,.int .i64 0,.string ⟨#[]⟩] 182):=⟨_,rfl⟩;obtain ⟨g,hg⟩:∃ g,g=w.heap.size:=⟨_,rfl⟩;have hG1:W1.heap[g]? = some (.cells #[.int .i64 0,.int .u32 0,.int .i64 0,.int .i64 0,.string ⟨#[]⟩] 182 (0,0)):=by rw [hW1,hg];exact heap_alloc_new _ _
 have hB1:Below w.heap.size w W1:=by rw [hW1];exact (Below.refl _ w).alloc (Nat.le_refl _) _
 have hgs1:g<W1.heap.size:=lt_of_heap hG1;rw [←hg] at hB1;have HW1:=hidI hW1;have Hg:=hidI hg;have HG1:=hidI hG1;have HB1:=hidI hB1;unfold ReadP;rw [←hg];clear hW1 hY1 hY2 hY3 hY4 hY5 hY6 hn1 hn2 hn3 hn4 hn5 hc0 hG1 hB1 hX hg;by_cases heq:n1=n2
 ·go_enter Tryz.func133,Tryz.ntmps133
  go_wp2_with (first | (rw [←HW1.out]) | (rw [←Hg.out]) | fail);refine wp_region_held_drew (S:=fun _=>True) (by kernel_rfl) trivial (fun hHeld => ?_);refine tk 0 ⟨some 7,.move (.tmp 0),_,_,_,none⟩ (.string X) rfl (fun w h=>by go_simp) hHeld ?_;simp only [zP,List.set];refine tk 1 ⟨some 8,.call { callee:=Callee.builtin Builtin.len,args:=#[.tmp 7],argTypes:=#[9] },_,_,_,none⟩ (.int .i64 64) rfl (fun w h=>by go_simp) hHeld ?_;simp only [zP,List.set];refine tk 2 ⟨some 9,.binOp .neq 3 (.tmp 8) (.const (.int .i64 64)) 3,_,_,_,none⟩ (.bool false) rfl (fun w h=>by go_simp) hHeld ?_;simp only [zP,List.set]
  refine tk 3 ⟨some 10,.move (.tmp 9),_,_,_,none⟩ (.bool false) rfl (fun w h=>by go_simp) hHeld ?_;simp only [zP,List.set];refine tk 4 ⟨some 11,.move (.tmp 0),_,_,_,some (3,false)⟩ (.string X) rfl (fun w h=>by go_simp) hHeld ?_;simp only [zP,List.set];refine tk 5 ⟨some 12,.move (.tmp 4),_,_,_,some (3,false)⟩ (.int .i64 60) rfl (fun w h=>by go_simp) hHeld ?_;simp only [zP,List.set];refine tk 6 ⟨some 13,.slice 9 (.tmp 11) (some (.tmp 12)) none none,_,_,_,some (3,false)⟩ (.string Y1) rfl (fun w h=>by go_simp) hHeld ?_;simp only [zP,List.set]
  refine tk 8 ⟨some 15,.move (.tmp 0),_,_,_,some (3,false)⟩ (.string X) rfl (fun w h=>by go_simp) hHeld ?_;simp only [zP,List.set];refine tk 9 ⟨some 16,.move (.tmp 4),_,_,_,some (3,false)⟩ (.int .i64 60) rfl (fun w h=>by go_simp) hHeld ?_;simp only [zP,List.set];refine tk 10 ⟨some 17,.slice 9 (.tmp 15) none (some (.tmp 16)) none,_,_,_,some (3,false)⟩ (.string Y2) rfl (fun w h=>by go_simp) hHeld ?_;simp only [zP,List.set];refine rd 7 rfl (fun K hK => ?_);go_simp;refine (HN1.out _).mono ?_;rintro e V1 ⟨rfl,hV1⟩;refine hK.out _ _ trivial (fun hHeld => ?_);clear hK K;refine rd 11 rfl (fun K hK => ?_)
  go_simp;refine (HS1.out _).mono ?_;rintro e V2 ⟨rfl,hV2⟩;refine hK.out _ _ trivial (fun hHeld => ?_);clear hK K;refine tk 12 ⟨some 19,.binOp .neq 88 (.tmp 14) (.tmp 18) 88,_,_,_,some (3,false)⟩ (.bool false) rfl (fun w h=>by go_simp) hHeld ?_;simp only [zP,List.set];refine tk 13 ⟨some 20,.pick (.tmp 10) (.const (.bool true)) (.tmp 19),_,_,_,none⟩ (.bool false) rfl (fun w h=>by go_simp) hHeld ?_;simp only [zP,List.set];refine wpAnyH_done (by kernel_rfl) ?_ _;clear hHeld;have hB2:Below W1.heap.size W1 V2:=(qas (Below.refl _ W1)).trans (hV1.trans (hV2.mono hV1.size));have hG2:=(hB2.block g hgs1).trans HG1.out;have HG2:=hidI hG2;have HB2:=hidI (HB1.out.trans (hB2.mono (by omega)))
  have hgs2:=lt_of_heap hG2;clear hV1 hV2 hB2 HG1 HB1 hgs1 V1;go_wp2_with fail;refine wp_region_held_drew (S:=fun _=>True) (by kernel_rfl) trivial (fun hHeld => ?_);refine tk 0 ⟨some 22,.move (.tmp 0),_,_,_,none⟩ (.string X) rfl (fun w h=>by go_simp) hHeld ?_;simp only [zP,List.set];refine tk 1 ⟨some 23,.index 9 (.tmp 22) (.const (.int .i64 0)),_,_,_,none⟩ (.int .u8 (c0.toNat:Nat)) rfl (fun w h=>by go_simp) hHeld ?_;simp only [zP,List.set];refine tk 2 ⟨some 24,.convert 5 3 (.tmp 23),_,_,_,none⟩ (.int .i64 (c0.toNat:Nat)) rfl (fun w h=>by go_simp) hHeld ?_;simp only [zP,List.set]
  refine tk 3 ⟨some 25,.move (.tmp 0),_,_,_,none⟩ (.string X) rfl (fun w h=>by go_simp) hHeld ?_;simp only [zP,List.set];refine tk 4 ⟨some 26,.slice 9 (.tmp 25) (some (.const (.int .i64 1))) (some (.const (.int .i64 5))) none,_,_,_,none⟩ (.string Y3) rfl (fun w h=>by go_simp) hHeld ?_;simp only [zP,List.set];refine wpAnyH_ready (rs:=[5,7]) (by kernel_rfl) (by simp) ?_;refine AllReadyH.cons rfl (fun K hK => ?_) (AllReadyH.cons rfl (fun K hK => ?_) AllReadyH.nil)
  focus
   go_simp;refine (HN3.out _).mono ?_;rintro e V3 ⟨rfl,hV3⟩;refine hK.out _ _ trivial (fun hHeld => ?_);clear hK K;refine tk 6 ⟨some 28,.build 90 #[(0,.tmp 24),(1,.tmp 27)],_,_,_,none⟩ (.agg #[.int .i64 (c0.toNat:Nat),.int .u32 (n3:Nat)]) rfl (fun w h=>by go_simp) hHeld ?_;simp only [zP,List.set];refine rd 7 rfl (fun K hK => ?_);go_simp;refine hK.out _ _ trivial (fun hHeld => ?_);clear hK K;refine rd 8 rfl (fun K hK => ?_);go_simp;refine hK.out _ _ trivial (fun hHeld => ?_);clear hK K;refine wpAnyH_done (by kernel_rfl) ?_ _;clear hHeld;obtain ⟨W4,hW4⟩:∃ W4,W4=V3.alloc (.cells #[.int .i64 (c0.toNat:Nat),.int .u32 (n3:Nat)] 90):=⟨_,rfl⟩;obtain ⟨rb,hrb⟩:∃ rb,rb=V3.heap.size:=⟨_,rfl⟩;rw [←hW4];simp only [←hrb]
   have Hrb:Hid (W4.heap[rb]? = some (.cells #[.int .i64 (c0.toNat:Nat),.int .u32 (n3:Nat)] 90 (0,0))):=hidI (by rw [hW4,hrb];exact heap_alloc_new _ _);have hB4:Below V2.heap.size V2 W4:=by rw [hW4];exact ((qas (Below.refl _ V2)).trans hV3).alloc hV3.size _
   have hrg:g<rb:=by rw [hrb];have:=hV3.size;exact Nat.lt_of_lt_of_le hgs2 this
   clear hrb hW4 hV3
  rotate_left
  focus
   go_simp;obtain ⟨V3,hV3e⟩:∃ V3,V3=(V2.alloc (.cells #[.int .i64 0,.int .u32 0] 90)).drew:=⟨_,rfl⟩;obtain ⟨rb,hrb⟩:∃ rb,rb=V2.heap.size:=⟨_,rfl⟩;refine hK.out _ _ trivial (fun hHeld => ?_);clear hK K;rw [←hV3e];simp only [←hrb];have HV3e:=hidI hV3e;have HRb:=hidI hrb;clear hV3e hrb;refine rd 5 rfl (fun K hK => ?_);go_simp;refine (HN3.out _).mono ?_;rintro e V4 ⟨rfl,hV4⟩;have hr3:V3.heap[rb]? = some (.cells #[.int .i64 0,.int .u32 0] 90 (0,0)):=by rw [HV3e.out,HRb.out];exact heap_alloc_new _ _
   have hrow:=(hV4.block rb (lt_of_heap hr3)).trans hr3;refine hK.out _ _ trivial (fun hHeld => ?_);clear hK K;refine tk 6 ⟨some 28,.build 90 #[(0,.tmp 24),(1,.tmp 27)],_,_,_,none⟩ (.agg #[.int .i64 (c0.toNat:Nat),.int .u32 (n3:Nat)]) rfl (fun w h=>by go_simp) hHeld ?_;simp only [zP,List.set];have s0:V4.cell? ⟨rb,0,none⟩=some (.int .i64 0):=by rw [cell_of_row V4 rb 0 _ 90 (0,0) hrow];rfl
   have z0:=frozen_of_row V4 rb 0 _ 90 hrow;have s1:V4.cell? ⟨rb,1,none⟩=some (.int .u32 0):=by rw [cell_of_row V4 rb 1 _ 90 (0,0) hrow];rfl
   have z1:=frozen_of_row V4 rb 1 _ 90 hrow;refine rd 8 rfl (fun K hK => ?_);go_simp;refine hK.out _ _ trivial (fun hHeld => ?_);clear hK K;refine wpAnyH_done (by kernel_rfl) ?_ _;clear hHeld s0 z0 s1 z1;obtain ⟨W4,hW4⟩:∃ W4,W4=(V4.setCell ⟨rb,0,none⟩ (.int .i64 (c0.toNat:Nat))).setCell ⟨rb,1,none⟩ (.int .u32 (n3:Nat)):=⟨_,rfl⟩;rw [←hW4];have Hrb:Hid (W4.heap[rb]? = some (.cells #[.int .i64 (c0.toNat:Nat),.int .u32 (n3:Nat)] 90 (0,0))):=hidI (by rw [hW4];exact heap_setCell_same _ rb 1 _ 90 _ (heap_setCell_same _ rb 0 _ 90 _ hrow));have hB4:Below V2.heap.size V2 W4:=by rw [hW4];exact (((qas ((Below.refl _ V2).alloc (Nat.le_refl _) _)).trans (by rw [←HV3e.out];exact hV4.mono (by rw [HV3e.out];simp))).setCell (by simp [HRb.out]) _).setCell (by simp [HRb.out]) _
   have hrg:g<rb:=by rw [HRb.out];exact hgs2
   clear hW4 hV4 hrow hr3
  rotate_left
  all_goals
   have HGe4:=hidI ((hB4.block g hgs2).trans HG2.out);have HBe4:=hidI (HB2.out.trans (hB4.mono (by omega)));have hgs4:=lt_of_heap HGe4.out;clear hB4 HG2 HB2;have r0:W4.drew.cell? ⟨rb,0,none⟩=some (.int .i64 (c0.toNat:Nat)):=by rw [World.cell?_of_block (w:=W4) (w':=W4.drew) rfl,cell_of_row W4 rb 0 _ 90 (0,0) Hrb.out];rfl
   have r1:W4.drew.cell? ⟨rb,1,none⟩=some (.int .u32 (n3:Nat)):=by rw [World.cell?_of_block (w:=W4) (w':=W4.drew) rfl,cell_of_row W4 rb 1 _ 90 (0,0) Hrb.out];rfl
   have HK:Hid (∀ V:World,Below W4.heap.size W4 V→V.cell? ⟨rb,0,none⟩=some (.int .i64 (c0.toNat:Nat))∧V.cell? ⟨rb,1,none⟩=some (.int .u32 (n3:Nat))):=hidI (fun V hV=>⟨by rw [World.cell?_of_block (hV.block rb (lt_of_heap Hrb.out))];exact r0,by rw [World.cell?_of_block (hV.block rb (lt_of_heap Hrb.out))];exact r1⟩);go_wp2_with fail;refine wp_region_held_drew (S:=(fun V=>V.cell? ⟨rb,0,none⟩=some (.int .i64 (c0.toNat:Nat))∧V.cell? ⟨rb,1,none⟩=some (.int .u32 (n3:Nat)))) (by kernel_rfl) ⟨r0,r1⟩ (fun hHeld => ?_);refine tk 0 ⟨some 29,.load 90 (.tmp 5),_,_,_,none⟩ (.agg #[.int .i64 (c0.toNat:Nat),.int .u32 (n3:Nat)]) rfl (fun w h=>by go_simp) hHeld ?_;simp only [zP,List.set]
   refine tk 1 ⟨some 30,.move (.tmp 0),_,_,_,none⟩ (.string X) rfl (fun w h=>by go_simp) hHeld ?_;simp only [zP,List.set];refine tk 2 ⟨some 31,.slice 9 (.tmp 30) (some (.const (.int .i64 5))) (some (.const (.int .i64 7))) none,_,_,_,none⟩ (.string Y4) rfl (fun w h=>by go_simp) hHeld ?_;simp only [zP,List.set];refine tk 5 ⟨some 34,.move (.tmp 0),_,_,_,none⟩ (.string X) rfl (fun w h=>by go_simp) hHeld ?_;simp only [zP,List.set];refine tk 6 ⟨some 35,.slice 9 (.tmp 34) (some (.const (.int .i64 7))) (some (.const (.int .i64 9))) none,_,_,_,none⟩ (.string Y5) rfl (fun w h=>by go_simp) hHeld ?_
   simp only [zP,List.set];refine tk 9 ⟨some 38,.move (.tmp 0),_,_,_,none⟩ (.string X) rfl (fun w h=>by go_simp) hHeld ?_;simp only [zP,List.set];refine tk 10 ⟨some 39,.move (.tmp 4),_,_,_,none⟩ (.int .i64 60) rfl (fun w h=>by go_simp) hHeld ?_;simp only [zP,List.set];refine tk 11 ⟨some 40,.slice 9 (.tmp 38) (some (.const (.int .i64 9))) (some (.tmp 39)) none,_,_,_,none⟩ (.string Y6) rfl (fun w h=>by go_simp) hHeld ?_;simp only [zP,List.set];refine wpAnyH_ready (rs:=[3,13]) (by kernel_rfl) (by simp) ?_;refine AllReadyH.cons rfl (fun K hK => ?_) (AllReadyH.cons rfl (fun K hK => ?_) AllReadyH.nil)
   focus
    skip
    go_simp;refine (HN4.out _).mono ?_;rintro e V5 ⟨rfl,hV5⟩;have bV5:Below W4.heap.size W4 V5:=(qas (Below.refl _ W4)).trans hV5;refine hK.out _ _ (HK.out _ bV5) (fun hHeld => ?_);clear hK K;refine tk 4 ⟨some 33,.convert 88 3 (.tmp 32),_,_,_,none⟩ (.int .i64 (n4:Nat)) rfl (fun w h=>by go_simp) hHeld ?_;simp only [zP,List.set];refine wpAnyH_ready (rs:=[7,13]) (by kernel_rfl) (by simp) ?_;refine AllReadyH.cons rfl (fun K hK => ?_) (AllReadyH.cons rfl (fun K hK => ?_) AllReadyH.nil)
    focus
     skip
     go_simp;refine (HN5.out _).mono ?_;rintro e V6 ⟨rfl,hV6⟩;have bV6:Below W4.heap.size W4 V6:=bV5.trans (hV6.mono bV5.size);refine hK.out _ _ (HK.out _ bV6) (fun hHeld => ?_);clear hK K;refine tk 8 ⟨some 37,.convert 88 3 (.tmp 36),_,_,_,none⟩ (.int .i64 (n5:Nat)) rfl (fun w h=>by go_simp) hHeld ?_;simp only [zP,List.set];refine tk 12 ⟨some 41,.build 182 #[(0,.tmp 29),(1,.tmp 33),(2,.tmp 37),(3,.tmp 40)],_,_,_,none⟩ (.agg #[.int .i64 (c0.toNat:Nat),.int .u32 (n3:Nat),.int .i64 (n4:Nat),.int .i64 (n5:Nat),.string Y6]) rfl (fun w h=>by go_simp) hHeld ?_;simp only [zP,List.set];refine rd 13 rfl (fun K hK => ?_);go_simp
     refine hK.out _ _ (HK.out _ (bV6.alloc bV6.size _)) (fun hHeld => ?_);clear hK K;refine rd 14 rfl (fun K hK => ?_);go_simp;refine hK.out _ _ (HK.out _ (bV6.alloc bV6.size _)) (fun hHeld => ?_);clear hK K;refine wpAnyH_done (by kernel_rfl) ?_ _;clear hHeld;obtain ⟨W6,hW6⟩:∃ W6,W6=V6.alloc (.cells #[.int .i64 (c0.toNat:Nat),.int .u32 (n3:Nat),.int .i64 (n4:Nat),.int .i64 (n5:Nat),.string Y6] 182):=⟨_,rfl⟩;obtain ⟨pb,hpb⟩:∃ pb,pb=V6.heap.size:=⟨_,rfl⟩;rw [←hW6];simp only [←hpb];have hgpb:g≠pb:=by have:=bV6.size;omega
     have Hpb:Hid (W6.heap[pb]? = some (.cells #[.int .i64 (c0.toNat:Nat),.int .u32 (n3:Nat),.int .i64 (n4:Nat),.int .i64 (n5:Nat),.string Y6] 182 (0,0))):=hidI (by rw [hW6,hpb];exact heap_alloc_new _ _);have hB6:Below W4.heap.size W4 W6:=by rw [hW6];exact bV6.alloc bV6.size _
     have HGe:=hidI ((hB6.block g hgs4).trans HGe4.out);have HBe:=hidI (HBe4.out.trans (hB6.mono (by omega)));have hpg:g≠pb:=hgpb;clear hB6 hgpb r0 r1 HK bV5 bV6 hV5 hV6 hW6 hpb
    rotate_left
    focus
     go_simp;obtain ⟨V6,hV6e⟩:∃ V6,V6=V5.alloc (.cells #[.int .i64 0,.int .u32 0,.int .i64 0,.int .i64 0,.string ⟨#[]⟩] 182):=⟨_,rfl⟩;obtain ⟨pb,hpb⟩:∃ pb,pb=V5.heap.size:=⟨_,rfl⟩;have bV6:Below W4.heap.size W4 V6:=by rw [hV6e];exact bV5.alloc bV5.size _
     have hr6:V6.heap[pb]? = some (.cells #[.int .i64 0,.int .u32 0,.int .i64 0,.int .i64 0,.string ⟨#[]⟩] 182 (0,0)):=by rw [hV6e,hpb];exact heap_alloc_new _ _
     have hpW:W4.heap.size≤pb:=by rw [hpb];exact bV5.size
     rw [←hV6e];simp only [←hpb];refine hK.out _ _ (HK.out _ bV6) (fun hHeld => ?_);clear hK K hV6e hpb;refine rd 7 rfl (fun K hK => ?_);go_simp;refine (HN5.out _).mono ?_;rintro e V7 ⟨rfl,hV7⟩;have bV7:Below W4.heap.size W4 V7:=bV6.trans (hV7.mono bV6.size);refine hK.out _ _ (HK.out _ bV7) (fun hHeld => ?_);clear hK K;have hrow:=(hV7.block pb (lt_of_heap hr6)).trans hr6;refine tk 8 ⟨some 37,.convert 88 3 (.tmp 36),_,_,_,none⟩ (.int .i64 (n5:Nat)) rfl (fun w h=>by go_simp) hHeld ?_;simp only [zP,List.set]
     refine tk 12 ⟨some 41,.build 182 #[(0,.tmp 29),(1,.tmp 33),(2,.tmp 37),(3,.tmp 40)],_,_,_,none⟩ (.agg #[.int .i64 (c0.toNat:Nat),.int .u32 (n3:Nat),.int .i64 (n4:Nat),.int .i64 (n5:Nat),.string Y6]) rfl (fun w h=>by go_simp) hHeld ?_;simp only [zP,List.set];have s0:V7.cell? ⟨pb,0,none⟩=some (.int .i64 0):=by rw [cell_of_row V7 pb 0 _ 182 (0,0) hrow];rfl
     have z0:=frozen_of_row V7 pb 0 _ 182 hrow;have s1:V7.cell? ⟨pb,1,none⟩=some (.int .u32 0):=by rw [cell_of_row V7 pb 1 _ 182 (0,0) hrow];rfl
     have z1:=frozen_of_row V7 pb 1 _ 182 hrow;have s2:V7.cell? ⟨pb,2,none⟩=some (.int .i64 0):=by rw [cell_of_row V7 pb 2 _ 182 (0,0) hrow];rfl
     have z2:=frozen_of_row V7 pb 2 _ 182 hrow;have s3:V7.cell? ⟨pb,3,none⟩=some (.int .i64 0):=by rw [cell_of_row V7 pb 3 _ 182 (0,0) hrow];rfl
     have z3:=frozen_of_row V7 pb 3 _ 182 hrow;have s4:V7.cell? ⟨pb,4,none⟩=some (.string ⟨#[]⟩):=by rw [cell_of_row V7 pb 4 _ 182 (0,0) hrow];rfl
     have z4:=frozen_of_row V7 pb 4 _ 182 hrow;refine rd 14 rfl (fun K hK => ?_);go_simp;obtain ⟨W6,hW6⟩:∃ W6,W6=(((((V7.setCell ⟨pb,0,none⟩ (.int .i64 (c0.toNat:Nat))).setCell ⟨pb,1,none⟩ (.int .u32 (n3:Nat))).setCell ⟨pb,2,none⟩ (.int .i64 (n4:Nat))).setCell ⟨pb,3,none⟩ (.int .i64 (n5:Nat))).setCell ⟨pb,4,none⟩ (.string Y6)):=⟨_,rfl⟩;have bW6:Below W4.heap.size W4 W6:=by rw [hW6];exact (((((bV7.setCell (by simp;omega) _).setCell (by simp;omega) _).setCell (by simp;omega) _).setCell (by simp;omega) _).setCell (by simp;omega) _)
     rw [←hW6];refine hK.out _ _ (HK.out _ bW6) (fun hHeld => ?_);clear hK K;refine wpAnyH_done (by kernel_rfl) ?_ _;clear hHeld s0 s1 s2 s3 s4 z0 z1 z2 z3 z4;have hgpb:g≠pb:=by omega
     have Hpb:Hid (W6.heap[pb]? = some (.cells #[.int .i64 (c0.toNat:Nat),.int .u32 (n3:Nat),.int .i64 (n4:Nat),.int .i64 (n5:Nat),.string Y6] 182 (0,0))):=hidI (by rw [hW6];exact (heap_setCell_same _ pb 4 _ 182 _ (heap_setCell_same _ pb 3 _ 182 _ (heap_setCell_same _ pb 2 _ 182 _ (heap_setCell_same _ pb 1 _ 182 _ (heap_setCell_same _ pb 0 _ 182 _ hrow))))));have hB6:Below W4.heap.size W4 W6:=bW6;have HGe:=hidI ((hB6.block g hgs4).trans HGe4.out);have HBe:=hidI (HBe4.out.trans (hB6.mono (by omega)));have hpg:g≠pb:=hgpb;clear hB6 hgpb r0 r1 HK bV5 bV6 bV7 hV5 hV7 hr6 hW6 bW6 hrow
    rotate_left
   rotate_left 2
   focus
    go_simp;obtain ⟨V5,hV5e⟩:∃ V5,V5=(W4.alloc (.cells #[.int .i64 0,.int .u32 0,.int .i64 0,.int .i64 0,.string ⟨#[]⟩] 182)).drew:=⟨_,rfl⟩;obtain ⟨pb,hpb⟩:∃ pb,pb=W4.heap.size:=⟨_,rfl⟩;have bV5:Below W4.heap.size W4 V5:=by rw [hV5e];exact qas ((Below.refl _ W4).alloc (Nat.le_refl _) _)
    have hr6:V5.heap[pb]? = some (.cells #[.int .i64 0,.int .u32 0,.int .i64 0,.int .i64 0,.string ⟨#[]⟩] 182 (0,0)):=by rw [hV5e,hpb];exact heap_alloc_new _ _
    have hpW:W4.heap.size≤pb:=Nat.le_of_eq hpb.symm;refine hK.out _ _ (HK.out _ (by rw [←hV5e];exact bV5)) (fun hHeld => ?_);rw [←hV5e];simp only [←hpb];clear hK K hV5e;have HPb:=hidI hpb;clear hpb;refine rd 3 rfl (fun K hK => ?_);go_simp;refine (HN4.out _).mono ?_;rintro e V6 ⟨rfl,hV6⟩;have bV6:Below W4.heap.size W4 V6:=bV5.trans (hV6.mono bV5.size);refine hK.out _ _ (HK.out _ bV6) (fun hHeld => ?_);clear hK K;refine tk 4 ⟨some 33,.convert 88 3 (.tmp 32),_,_,_,none⟩ (.int .i64 (n4:Nat)) rfl (fun w h=>by go_simp) hHeld ?_;simp only [zP,List.set];refine rd 7 rfl (fun K hK => ?_);go_simp;refine (HN5.out _).mono ?_;rintro e V7 ⟨rfl,hV7⟩;have bV7:Below W4.heap.size W4 V7:=bV6.trans (hV7.mono bV6.size);refine hK.out _ _ (HK.out _ bV7) (fun hHeld => ?_);clear hK K
    have hrow:=(hV7.block pb (Nat.lt_of_lt_of_le (lt_of_heap hr6) hV6.size)).trans ((hV6.block pb (lt_of_heap hr6)).trans hr6);refine tk 8 ⟨some 37,.convert 88 3 (.tmp 36),_,_,_,none⟩ (.int .i64 (n5:Nat)) rfl (fun w h=>by go_simp) hHeld ?_;simp only [zP,List.set];refine tk 12 ⟨some 41,.build 182 #[(0,.tmp 29),(1,.tmp 33),(2,.tmp 37),(3,.tmp 40)],_,_,_,none⟩ (.agg #[.int .i64 (c0.toNat:Nat),.int .u32 (n3:Nat),.int .i64 (n4:Nat),.int .i64 (n5:Nat),.string Y6]) rfl (fun w h=>by go_simp) hHeld ?_;simp only [zP,List.set];have s0:V7.cell? ⟨pb,0,none⟩=some (.int .i64 0):=by rw [cell_of_row V7 pb 0 _ 182 (0,0) hrow];rfl
    have z0:=frozen_of_row V7 pb 0 _ 182 hrow;have s1:V7.cell? ⟨pb,1,none⟩=some (.int .u32 0):=by rw [cell_of_row V7 pb 1 _ 182 (0,0) hrow];rfl
    have z1:=frozen_of_row V7 pb 1 _ 182 hrow;have s2:V7.cell? ⟨pb,2,none⟩=some (.int .i64 0):=by rw [cell_of_row V7 pb 2 _ 182 (0,0) hrow];rfl
    have z2:=frozen_of_row V7 pb 2 _ 182 hrow;have s3:V7.cell? ⟨pb,3,none⟩=some (.int .i64 0):=by rw [cell_of_row V7 pb 3 _ 182 (0,0) hrow];rfl
    have z3:=frozen_of_row V7 pb 3 _ 182 hrow;have s4:V7.cell? ⟨pb,4,none⟩=some (.string ⟨#[]⟩):=by rw [cell_of_row V7 pb 4 _ 182 (0,0) hrow];rfl
    have z4:=frozen_of_row V7 pb 4 _ 182 hrow;refine rd 14 rfl (fun K hK => ?_);go_simp;obtain ⟨W6,hW6⟩:∃ W6,W6=(((((V7.setCell ⟨pb,0,none⟩ (.int .i64 (c0.toNat:Nat))).setCell ⟨pb,1,none⟩ (.int .u32 (n3:Nat))).setCell ⟨pb,2,none⟩ (.int .i64 (n4:Nat))).setCell ⟨pb,3,none⟩ (.int .i64 (n5:Nat))).setCell ⟨pb,4,none⟩ (.string Y6)):=⟨_,rfl⟩;have bW6:Below W4.heap.size W4 W6:=by rw [hW6];exact (((((bV7.setCell (by simp;omega) _).setCell (by simp;omega) _).setCell (by simp;omega) _).setCell (by simp;omega) _).setCell (by simp;omega) _)
    rw [←hW6];refine hK.out _ _ (HK.out _ bW6) (fun hHeld => ?_);clear hK K;refine wpAnyH_done (by kernel_rfl) ?_ _;clear hHeld s0 s1 s2 s3 s4 z0 z1 z2 z3 z4;have hgpb:g≠pb:=by omega
    have Hpb:Hid (W6.heap[pb]? = some (.cells #[.int .i64 (c0.toNat:Nat),.int .u32 (n3:Nat),.int .i64 (n4:Nat),.int .i64 (n5:Nat),.string Y6] 182 (0,0))):=hidI (by rw [hW6];exact (heap_setCell_same _ pb 4 _ 182 _ (heap_setCell_same _ pb 3 _ 182 _ (heap_setCell_same _ pb 2 _ 182 _ (heap_setCell_same _ pb 1 _ 182 _ (heap_setCell_same _ pb 0 _ 182 _ hrow))))));have hB6:Below W4.heap.size W4 W6:=bW6;have HGe:=hidI ((hB6.block g hgs4).trans HGe4.out);have HBe:=hidI (HBe4.out.trans (hB6.mono (by omega)));have hpg:g≠pb:=hgpb;clear hB6 hgpb r0 r1 HK bV5 bV6 bV7 hV6 hV7 hr6 hW6 bW6 hrow
   rotate_left
   all_goals
    have p0:W6.cell? ⟨pb,0,none⟩=some (.int .i64 (c0.toNat:Nat)):=by rw [cell_of_row W6 pb 0 _ 182 (0,0) Hpb.out];rfl
    have p1:W6.cell? ⟨pb,1,none⟩=some (.int .u32 (n3:Nat)):=by rw [cell_of_row W6 pb 1 _ 182 (0,0) Hpb.out];rfl
    have p2:W6.cell? ⟨pb,2,none⟩=some (.int .i64 (n4:Nat)):=by rw [cell_of_row W6 pb 2 _ 182 (0,0) Hpb.out];rfl
    have p3:W6.cell? ⟨pb,3,none⟩=some (.int .i64 (n5:Nat)):=by rw [cell_of_row W6 pb 3 _ 182 (0,0) Hpb.out];rfl
    have p4:W6.cell? ⟨pb,4,none⟩=some (.string Y6):=by rw [cell_of_row W6 pb 4 _ 182 (0,0) Hpb.out];rfl
    have q0:W6.cell? ⟨g,0,none⟩=some (.int .i64 0):=by rw [cell_of_row W6 g 0 _ 182 (0,0) HGe.out];rfl
    have f0:=frozen_of_row W6 g 0 _ 182 HGe.out;have q1:W6.cell? ⟨g,1,none⟩=some (.int .u32 0):=by rw [cell_of_row W6 g 1 _ 182 (0,0) HGe.out];rfl
    have f1:=frozen_of_row W6 g 1 _ 182 HGe.out;have q2:W6.cell? ⟨g,2,none⟩=some (.int .i64 0):=by rw [cell_of_row W6 g 2 _ 182 (0,0) HGe.out];rfl
    have f2:=frozen_of_row W6 g 2 _ 182 HGe.out;have q3:W6.cell? ⟨g,3,none⟩=some (.int .i64 0):=by rw [cell_of_row W6 g 3 _ 182 (0,0) HGe.out];rfl
    have f3:=frozen_of_row W6 g 3 _ 182 HGe.out;have q4:W6.cell? ⟨g,4,none⟩=some (.string ⟨#[]⟩):=by rw [cell_of_row W6 g 4 _ 182 (0,0) HGe.out];rfl
    have f4:=frozen_of_row W6 g 4 _ 182 HGe.out;by_cases hlt:n4<n5
    ·have hlt':(n4:Int)<(n5:Int):=by omega
     have HR:Hid (readP s=some (sayP s)):=hidI (by unfold readP okP;rw [hs,←Hn1.out,←Hn2.out];simp [heq,sayP,←Hn4.out,←Hn5.out,hlt]);clear e1 e2 e3 e4 e5 e6 e0 e0' Sx heq;go_wp2_with fail;go_region;go_wp2_with fail;have hPv:pgv (sayP s)=.agg #[.int .i64 (c0.toNat:Nat),.int .u32 (n3:Nat),.int .i64 (n4:Nat),.int .i64 (n5:Nat),.string Y6]:=by unfold pgv sayP;rw [Hn3.out,Hn4.out,Hn5.out,Hc0.out,HY6.out]
     refine bodyPost_ret (v:=.tuple #[.agg #[.int .i64 (c0.toNat:Nat),.int .u32 (n3:Nat),.int .i64 (n4:Nat),.int .i64 (n5:Nat),.string Y6],.bool true]) ?_ rfl ⟨sayP s,?_,?_,?_⟩
     ·simp [results,go_sem,q0,q1,q2,q3,q4]
     ·rw [hPv,HR.out];rfl
     ·intro q hq;rw [HR.out] at hq;cases hq;rfl
     exact qas (((((HBe.out.setCell (by simp) _).setCell (by simp) _).setCell (by simp) _).setCell (by simp) _).setCell (by simp) _)
    have hlt':¬(n4:Int)<(n5:Int):=by omega
    have HR:Hid (readP s=none):=hidI (by unfold readP okP;rw [hs,←Hn1.out,←Hn2.out];simp [heq,sayP,←Hn4.out,←Hn5.out,hlt]);clear e1 e2 e3 e4 e5 e6 e0 e0' Sx heq;go_wp2_with fail;go_region;go_wp2_with fail;have hPv:pgv (sayP s)=.agg #[.int .i64 (c0.toNat:Nat),.int .u32 (n3:Nat),.int .i64 (n4:Nat),.int .i64 (n5:Nat),.string Y6]:=by unfold pgv sayP;rw [Hn3.out,Hn4.out,Hn5.out,Hc0.out,HY6.out]
    refine bodyPost_ret (v:=.tuple #[.agg #[.int .i64 (c0.toNat:Nat),.int .u32 (n3:Nat),.int .i64 (n4:Nat),.int .i64 (n5:Nat),.string Y6],.bool false]) ?_ rfl ⟨sayP s,?_,?_,?_⟩
    ·simp [results,go_sem,q0,q1,q2,q3,q4]
    ·rw [hPv,HR.out];rfl
    ·intro q hq;rw [HR.out] at hq;cases hq
    exact qas (((((HBe.out.setCell (by simp) _).setCell (by simp) _).setCell (by simp) _).setCell (by simp) _).setCell (by simp) _)
 have HR:Hid (readP s=none):=hidI (by unfold readP okP;rw [←Hn1.out,←Hn2.out];simp [heq]);have heq':¬(n1:Int)=(n2:Int):=by omega
 go_enter Tryz.func133,Tryz.ntmps133
 go_wp2_with (first | (rw [←HW1.out]) | (rw [←Hg.out]) | fail);refine wp_region_held_drew (S:=fun _=>True) (by kernel_rfl) trivial (fun hHeld => ?_);refine tk 0 ⟨some 7,.move (.tmp 0),_,_,_,none⟩ (.string X) rfl (fun w h=>by go_simp) hHeld ?_;simp only [zP,List.set];refine tk 1 ⟨some 8,.call { callee:=Callee.builtin Builtin.len,args:=#[.tmp 7],argTypes:=#[9] },_,_,_,none⟩ (.int .i64 64) rfl (fun w h=>by go_simp) hHeld ?_;simp only [zP,List.set];refine tk 2 ⟨some 9,.binOp .neq 3 (.tmp 8) (.const (.int .i64 64)) 3,_,_,_,none⟩ (.bool false) rfl (fun w h=>by go_simp) hHeld ?_;simp only [zP,List.set]
 refine tk 3 ⟨some 10,.move (.tmp 9),_,_,_,none⟩ (.bool false) rfl (fun w h=>by go_simp) hHeld ?_;simp only [zP,List.set];refine tk 4 ⟨some 11,.move (.tmp 0),_,_,_,some (3,false)⟩ (.string X) rfl (fun w h=>by go_simp) hHeld ?_;simp only [zP,List.set];refine tk 5 ⟨some 12,.move (.tmp 4),_,_,_,some (3,false)⟩ (.int .i64 60) rfl (fun w h=>by go_simp) hHeld ?_;simp only [zP,List.set];refine tk 6 ⟨some 13,.slice 9 (.tmp 11) (some (.tmp 12)) none none,_,_,_,some (3,false)⟩ (.string Y1) rfl (fun w h=>by go_simp) hHeld ?_;simp only [zP,List.set]
 refine tk 8 ⟨some 15,.move (.tmp 0),_,_,_,some (3,false)⟩ (.string X) rfl (fun w h=>by go_simp) hHeld ?_;simp only [zP,List.set];refine tk 9 ⟨some 16,.move (.tmp 4),_,_,_,some (3,false)⟩ (.int .i64 60) rfl (fun w h=>by go_simp) hHeld ?_;simp only [zP,List.set];refine tk 10 ⟨some 17,.slice 9 (.tmp 15) none (some (.tmp 16)) none,_,_,_,some (3,false)⟩ (.string Y2) rfl (fun w h=>by go_simp) hHeld ?_;simp only [zP,List.set];refine rd 7 rfl (fun K hK => ?_);go_simp;refine (HN1.out _).mono ?_;rintro e V1 ⟨rfl,hV1⟩;refine hK.out _ _ trivial (fun hHeld => ?_);clear hK K;refine rd 11 rfl (fun K hK => ?_);go_simp
 refine (HS1.out _).mono ?_;rintro e V2 ⟨rfl,hV2⟩;refine hK.out _ _ trivial (fun hHeld => ?_);clear hK K;refine tk 12 ⟨some 19,.binOp .neq 88 (.tmp 14) (.tmp 18) 88,_,_,_,some (3,false)⟩ (.bool true) rfl (fun w h=>by go_simp) hHeld ?_;simp only [zP,List.set];refine tk 13 ⟨some 20,.pick (.tmp 10) (.const (.bool true)) (.tmp 19),_,_,_,none⟩ (.bool true) rfl (fun w h=>by go_simp) hHeld ?_;simp only [zP,List.set];refine wpAnyH_done (by kernel_rfl) ?_ _;clear hHeld;have hB2:Below W1.heap.size W1 V2:=(qas (Below.refl _ W1)).trans (hV1.trans (hV2.mono hV1.size));have hG2:=(hB2.block g hgs1).trans HG1.out;have HG2:=hidI hG2;have HB2:=hidI (HB1.out.trans (hB2.mono (by omega)));have hgs2:=lt_of_heap hG2
 clear hV1 hV2 hB2 HG1 HB1 hgs1 V1;have q0:V2.cell? ⟨g,0,none⟩=some (.int .i64 0):=by rw [cell_of_row V2 g 0 _ 182 (0,0) HG2.out];rfl
 have q1:V2.cell? ⟨g,1,none⟩=some (.int .u32 0):=by rw [cell_of_row V2 g 1 _ 182 (0,0) HG2.out];rfl
 have q2:V2.cell? ⟨g,2,none⟩=some (.int .i64 0):=by rw [cell_of_row V2 g 2 _ 182 (0,0) HG2.out];rfl
 have q3:V2.cell? ⟨g,3,none⟩=some (.int .i64 0):=by rw [cell_of_row V2 g 3 _ 182 (0,0) HG2.out];rfl
 have q4:V2.cell? ⟨g,4,none⟩=some (.string ⟨#[]⟩):=by rw [cell_of_row V2 g 4 _ 182 (0,0) HG2.out];rfl
 have f0:=frozen_of_row V2 g 0 _ 182 HG2.out;have f1:=frozen_of_row V2 g 1 _ 182 HG2.out;have f2:=frozen_of_row V2 g 2 _ 182 HG2.out;have f3:=frozen_of_row V2 g 3 _ 182 HG2.out;have f4:=frozen_of_row V2 g 4 _ 182 HG2.out;clear e1 e2 e3 e4 e5 e6 e0 e0' Sx heq heq';go_wp2_with fail;refine bodyPost_ret (v:=.tuple #[.agg #[.int .i64 0,.int .u32 0,.int .i64 0,.int .i64 0,.string ⟨#[]⟩],.bool false]) ?_ rfl ⟨⟨0,0,0,0,[]⟩,?_,?_,?_⟩
 ·simp [results,go_sem,q0,q1,q2,q3,q4]
 ·rw [HR.out];rfl
 ·intro q hq;rw [HR.out] at hq;cases hq
 exact ((((HB2.out.setCell (by simp) _).setCell (by simp) _).setCell (by simp) _).setCell (by simp) _).setCell (by simp) _
end Go.Proofs.YtodmdkhdbfbfgaaGreatDoor
namespace Go.Proofs.YtodmdkhdbfbfgaaGreatDoor.S1
open Go.RowKit Pk
open Go.Nt (Fp Pg readP lookF qdO isAt isAt_iff scanF rowF oneF FpOk scanF_ok)
theorem qkC (l:List Fp) (f:Fp) (b n a:Nat):lookF (l++[f]) b n a=if (lookF l f.bad f.num f.at_).isSome then lookF l b n a else putF (lookF l) f.bad f.num f.at_ f b n a:=by
 rw [qdO];unfold putF;by_cases e:b=f.bad∧n=f.num∧a=f.at_
 ·obtain ⟨rfl,rfl,rfl⟩:=e;have h1:isAt f.bad f.num f.at_ f=true:=isAt_iff.2 ⟨rfl,rfl,rfl⟩;rw [h1];simp
 have h1:isAt b n a f=false:=by
  cases h:isAt b n a f with
  | false=>rfl
  | true=>have:=isAt_iff.1 h;exact absurd ⟨this.1.symm,this.2.1.symm,this.2.2.symm⟩ e
 rw [h1,if_neg e]
 have:(if (lookF l b n a).isSome=true then lookF l b n a else if false=true then some f else none)=lookF l b n a:=by
  cases lookF l b n a<;>simp
 rw [this];simp
theorem qkX (w:World) (g n:Nat) (l:List Fp) (f:Fp) (hP:FAt w g n (lookF l)) (hn:n≤100000) (h0:f.bad≤1000000) (h1:f.num≤4294967295) (h2:f.at_≤1000000) :
 Calls Tryz.prog 134 #[.map (some g),fv f] w fun e w'=>e=.returned (.tuple #[])∧FAt w' g (n+1) (lookF (l++[f]))∧Fm (fun k=>k=g) w w':=by
 have hml:=hP.lt;have HL:=hidI (qkC l f);obtain ⟨b,hb⟩:∃ x,x=f.bad:=⟨_,rfl⟩;obtain ⟨r,hr⟩:∃ x,x=f.num:=⟨_,rfl⟩;obtain ⟨a,ha⟩:∃ x,x=f.at_:=⟨_,rfl⟩;have Hfv:Hid (fv f=.agg #[.int .i64 (b:Nat),.int .u32 (r:Nat),.int .i64 (a:Nat),.int .i64 (f.of_:Nat),.string (txt f.text),.int .i64 (f.blk:Nat)]):=hidI (by rw [hb,hr,ha];rfl);rw [Hfv.out];rw [←hb,←hr,←ha] at HL;rw [←hb] at h0;rw [←hr] at h1;rw [←ha] at h2;obtain ⟨o,ho⟩:∃ x,x=f.of_:=⟨_,rfl⟩;obtain ⟨X,hX⟩:∃ x,x=txt f.text:=⟨_,rfl⟩;obtain ⟨bk,hbk⟩:∃ x,x=f.blk:=⟨_,rfl⟩;rw [←ho,←hX,←hbk] at Hfv ⊢;clear hb hr ha ho hX hbk;obtain ⟨W1,hW1⟩:∃ W1,W1=w.alloc (.cells #[.int .i64 (b:Nat),.int .u32 (r:Nat),.int .i64 (a:Nat),.int .i64 (o:Nat),.string X,.int .i64 (bk:Nat)] 187):=⟨_,rfl⟩;obtain ⟨W2,hW2⟩:∃ W2,W2=W1.alloc (.cells #[.int .i64 (b:Nat),.int .u32 (r:Nat),.int .i64 (a:Nat)] 189):=⟨_,rfl⟩;have hs1:W1.heap.size=w.heap.size+1:=by rw [hW1];simp
 obtain ⟨g3,hg3⟩:∃ g,g=w.heap.size:=⟨_,rfl⟩;have hb3:W1.heap[g3]? = some (.cells #[.int .i64 (b:Nat),.int .u32 (r:Nat),.int .i64 (a:Nat),.int .i64 (o:Nat),.string X,.int .i64 (bk:Nat)] 187 (0,0)):=by rw [hW1,hg3];exact heap_alloc_new w _
 have hb3':W2.heap[g3]? = some (.cells #[.int .i64 (b:Nat),.int .u32 (r:Nat),.int .i64 (a:Nat),.int .i64 (o:Nat),.string X,.int .i64 (bk:Nat)] 187 (0,0)):=by rw [hW2,Below.heap_alloc W1 _ _ (by omega)];exact hb3
 have hb4:W2.heap[g3+1]? = some (.cells #[.int .i64 (b:Nat),.int .u32 (r:Nat),.int .i64 (a:Nat)] 189 (0,0)):=by rw [hW2,hg3,←hs1];exact heap_alloc_new W1 _
 have hP2:FAt W2 g n (lookF l):=hP.of_block (by rw [hW2,Below.heap_alloc W1 _ _ (by omega),hW1,Below.heap_alloc w _ _ hml]);have hFm2:Fm (fun k=>k=g) w W2:=by rw [hW2,hW1];exact ((Fm.refl _ w).alloc _).alloc _
 have d0:W1.cell? ⟨g3,0,none⟩=some (.int .i64 (b:Nat)):=by rw [cell_of_row W1 g3 0 _ 187 (0,0) hb3];rfl
 have d1:W1.cell? ⟨g3,1,none⟩=some (.int .u32 (r:Nat)):=by rw [cell_of_row W1 g3 1 _ 187 (0,0) hb3];rfl
 have d2:W1.cell? ⟨g3,2,none⟩=some (.int .i64 (a:Nat)):=by rw [cell_of_row W1 g3 2 _ 187 (0,0) hb3];rfl
 have k0:W2.cell? ⟨g3+1,0,none⟩=some (.int .i64 (b:Nat)):=by rw [cell_of_row W2 (g3+1) 0 _ 189 (0,0) hb4];rfl
 have k1:W2.cell? ⟨g3+1,1,none⟩=some (.int .u32 (r:Nat)):=by rw [cell_of_row W2 (g3+1) 1 _ 189 (0,0) hb4];rfl
 have k2:W2.cell? ⟨g3+1,2,none⟩=some (.int .i64 (a:Nat)):=by rw [cell_of_row W2 (g3+1) 2 _ 189 (0,0) hb4];rfl
 have hlk:=(hP2.look h0 h1 h2).1;obtain ⟨q,hq⟩:∃ q,q=(lookF l b r a).getD fp0:=⟨_,rfl⟩;obtain ⟨z,hz⟩:∃ z,z=(lookF l b r a).isSome:=⟨_,rfl⟩;rw [←hq,←hz] at hlk;rw [←hz] at HL;unfold fv pv at hlk;have HW1:=hidI hW1;have HW2:=hidI hW2;have HP2:=hidI hP2;have HFm2:=hidI hFm2;have Hb3:=hidI hb3';have Hb4:=hidI hb4;have Hs1:=hidI hs1;rw [←hg3] at Hs1;have Hg3:=hidI hg3;have Hml:=hidI hml;clear hW1 hW2 hs1 hb3 hb3' hb4 hP2 hFm2 hq hz hP hg3 hml;obtain ⟨W3,hW3⟩:∃ W3,W3=W2.alloc (.cells #[.int .i64 (q.bad:Nat),.int .u32 (q.num:Nat),.int .i64 (q.at_:Nat),.int .i64 (q.of_:Nat),.string (txt q.text),.int .i64 (q.blk:Nat)] 187):=⟨_,rfl⟩;have hk3:∀ k,k<W2.heap.size→W3.heap[k]? = W2.heap[k]? := fun k hk=>by rw [hW3];exact Below.heap_alloc W2 _ k hk
 have HFm3:Hid (Fm (fun k=>k=g) w W3):=hidI (by rw [hW3];exact HFm2.out.alloc _);have HP3:Hid (FAt W3 g n (lookF l)):=hidI (HP2.out.of_block (hk3 g HP2.out.lt));have hr3:=(hk3 g3 (lt_of_heap Hb3.out)).trans Hb3.out;have hr4:=(hk3 (g3+1) (lt_of_heap Hb4.out)).trans Hb4.out;have HW3:=hidI hW3;obtain ⟨V,hupd,hPV,hmV⟩:=HP3.out.store h0 h1 h2 (by omega) f;rw [Hfv.out] at hupd;unfold pv at hupd;have HPV:=hidI hPV;have HFV:=hidI (HFm3.out.map (fun _=>rfl) hmV);have c0:W3.cell? ⟨g3+1,0,none⟩=some (.int .i64 (b:Nat)):=by rw [cell_of_row W3 (g3+1) 0 _ 189 (0,0) hr4];rfl
 have c1:W3.cell? ⟨g3+1,1,none⟩=some (.int .u32 (r:Nat)):=by rw [cell_of_row W3 (g3+1) 1 _ 189 (0,0) hr4];rfl
 have c2:W3.cell? ⟨g3+1,2,none⟩=some (.int .i64 (a:Nat)):=by rw [cell_of_row W3 (g3+1) 2 _ 189 (0,0) hr4];rfl
 have e0:W3.cell? ⟨g3,0,none⟩=some (.int .i64 (b:Nat)):=by rw [cell_of_row W3 g3 0 _ 187 (0,0) hr3];rfl
 have e1:W3.cell? ⟨g3,1,none⟩=some (.int .u32 (r:Nat)):=by rw [cell_of_row W3 g3 1 _ 187 (0,0) hr3];rfl
 have e2:W3.cell? ⟨g3,2,none⟩=some (.int .i64 (a:Nat)):=by rw [cell_of_row W3 g3 2 _ 187 (0,0) hr3];rfl
 have e3:W3.cell? ⟨g3,3,none⟩=some (.int .i64 (o:Nat)):=by rw [cell_of_row W3 g3 3 _ 187 (0,0) hr3];rfl
 have e4:W3.cell? ⟨g3,4,none⟩=some (.string X):=by rw [cell_of_row W3 g3 4 _ 187 (0,0) hr3];rfl
 have e5:W3.cell? ⟨g3,5,none⟩=some (.int .i64 (bk:Nat)):=by rw [cell_of_row W3 g3 5 _ 187 (0,0) hr3];rfl
 clear hk3 hW3 hPV hmV hr3 hr4;cases z with
 | true =>
   have HR:Hid (∀ x y z,lookF l x y z=lookF (l++[f]) x y z):=hidI (fun x y z=>by rw [HL.out];rfl);go_enter Tryz.func134,Tryz.ntmps134
   go_wp2_with (first | (rw [←HW1.out,←Hg3.out]) | (rw [←HW2.out,Hs1.out]) | (rw [←HW3.out]) | fail);go_end0
   exact ⟨rfl,(HP3.out.congr HR.out).mono (by omega),HFm3.out⟩
 | false =>
   have HR:Hid (∀ x y z,putF (lookF l) b r a f x y z=lookF (l++[f]) x y z):=hidI (fun x y z=>by rw [HL.out];rfl);go_enter Tryz.func134,Tryz.ntmps134
   go_wp2_with (first | (rw [←HW1.out,←Hg3.out]) | (rw [←HW2.out,Hs1.out]) | (rw [←HW3.out]) | fail);go_end0
   exact ⟨rfl,HPV.out.congr HR.out,HFV.out⟩
theorem qmL (w:World):(Instr.makeMap 135 none).run Tryz.prog w=.ok (.map (some w.heap.size)) (w.alloc (.map #[] 0)):=by
 simp [Instr.makeMap,Result.andThen]
def pgs (m:M) (i p:Nat):List UInt8:=pad (m.pg i p)
theorem qio {m:M} (hw:WF m) {i p:Nat} (hi:i<m.nb) (hp:p<m.np):(pgs m i p).length=64:=by
 have:=hw.pg i p hi hp
 unfold pgs pad;simp;omega
def FindP (m:M) (w:World) (e:Ending) (w':World):Prop:=
 e=.returned (.map (some w.heap.size))∧FAt w' w.heap.size (m.nb*m.np) (lookF (scanF (pgs m) m.np m.nb))∧Below w.heap.size w w'
theorem qgI (w:World) (lo hi cb:Nat) (L:Loc) (m:M) (hw:WF m) (h:CP w lo hi cb L m) (hsz:hi≤w.heap.size) (hl:m.life≠0) :
 Calls Tryz.prog 80 #[.pointer (some ⟨cb,0,none⟩)] w fun e w'=>FindP m w e w':=by
 have h32:=hw.nb2;have h16:=hw.np2;obtain ⟨W0,hW0⟩:∃ W0,W0=w.alloc (.map #[] 0):=⟨_,rfl⟩;have hbW:Below w.heap.size w W0:=by rw [hW0];exact (Below.refl _ w).alloc (Nat.le_refl _) _
 have hS0:FAt W0 w.heap.size 0 (fun _ _ _=>none):=by rw [hW0];exact qnc w
 have HC:=hidI (fun (V:World) (hV:Below w.heap.size w V)=>(MemX.below h hsz hV:CP V lo hi cb L m));have hmk:=qmL w;rw [←hW0] at hmk;obtain ⟨g,hg⟩:∃ g,g=w.heap.size:=⟨_,rfl⟩;unfold FindP;rw [←hg] at hS0 hsz hmk hbW HC ⊢;have HBk:=hidI (fun V hV=>qaP V lo hi cb L m (HC.out V hV));have HPg:=hidI (fun V hV=>pages_any V lo hi cb L m (HC.out V hV));have HRd:Hid (∀ (V:World),Below g w V→∀ (i p:Nat),i<m.nb→p<m.np→Calls Tryz.prog 132 #[.pointer (some ⟨cb,0,none⟩),.int .i64 (i:Nat),.int .i64 (p:Nat)] V fun e w'=>e=.returned (.tuple #[.string (txt (pgs m i p)),.bool true])∧Below V.heap.size V w'):=hidI (fun V hV i p hi' hp'=>by
  have:=qkE V lo hi cb L m (i:Nat) (p:Nat) hw (HC.out V hV)
  have e:readF m (i:Nat) (p:Nat)=some (pgs m i p):=by
   unfold readF;rw [if_pos ⟨hl,by simp [hasB,hi'],by omega,by omega⟩];rfl
  rw [e] at this;exact this)
 have HRp:Hid (∀ (V:World) (i p:Nat),i<m.nb→p<m.np→Calls Tryz.prog 133 #[.string (txt (pgs m i p))] V fun e w'=>ReadP (pgs m i p) V e w'):=hidI (fun V i p hi' hp'=>qfv (pgs m i p) V (qio hw hi' hp'));obtain ⟨nb,hnb⟩:∃ nb,nb=m.nb:=⟨_,rfl⟩;obtain ⟨np,hnp⟩:∃ np,np=m.np:=⟨_,rfl⟩;rw [←hnb] at HBk HRd HRp h32 ⊢;rw [←hnp] at HPg HRd HRp h16 ⊢;have HS0:=hidI hS0;have HB0:=hidI hbW;have Hg:=hidI hg;obtain ⟨G,hG⟩:∃ G,G=pgs m:=⟨_,rfl⟩;rw [←hG] at HRd HRp ⊢;clear h hw hbW hS0 hW0 hnb hnp hg hl hG HC;go_enter Tryz.func80,Tryz.ntmps80
 go_wp2_with fail;refine (HBk.out _ HB0.out).mono ?_;rintro e w' ⟨rfl,hw⟩;have hw':=hw.symm;subst hw';clear hw;go_wp2_with fail
 go_loopw [13] (fun i wr=>∃ k n:Nat,k≤nb∧n≤k*np∧i=.int .i64 k∧Hid (FAt wr g n (lookF (scanF G np k)))∧Hid (Below g w wr)) (fun i _=>nb - (intOf i).toNat)
 case atStart=>exact ⟨0,0,Nat.zero_le _,Nat.zero_le _,rfl,hidI (HS0.out.congr fun b r a=>rfl),HB0⟩
 case round =>
  clear HS0 HB0 hmk;obtain ⟨k,n,hk,hn,rfl,HS,HB⟩:=hrel;by_cases hlt:k<nb
  ·go_wp2_with fail;refine (HPg.out _ HB.out).mono ?_;rintro e w' ⟨rfl,hw⟩;have hw':=hw.symm;subst hw';clear hw;go_wp2_with fail
   go_loopw [18] (fun i wr=>∃ p n':Nat,p≤np∧n'≤n+p∧i=.int .i64 p∧Hid (FAt wr g n' (lookF (scanF G np k++rowF G k p)))∧Hid (Below g w wr)) (fun i _=>np - (intOf i).toNat)
   case atStart=>exact ⟨0,n,Nat.zero_le _,Nat.le_refl _,rfl,hidI (HS.out.congr fun b r a=>by rw [rowF,List.append_nil]),HB⟩
   clear HS HB;obtain ⟨p,n',hp,hn',rfl,HS,HB⟩:=hrel;by_cases hlp:p<np
   ·have hgs:=HS.out.lt;have A1:=hidI (HRd.out wr HB.out k p hlt hlp);go_wp2_with fail;refine A1.out.mono ?_;rintro e V1 ⟨rfl,hV1⟩;have A2:=hidI (HRp.out V1 k p hlt hlp);have HB1:=hidI (HB.out.trans (hV1.mono (by omega)));have HS1:=hidI (HS.out.of_block (hV1.block g hgs));have hgs1:=HS1.out.lt;obtain ⟨Y,hY⟩:∃ Y,Y=txt (G k p):=⟨_,rfl⟩;rw [←hY] at A2;rw [←hY];clear A1 hV1 HS HB hY;go_wp2_with fail;refine A2.out.mono ?_;rintro e V2 ⟨q,rfl,hq,hV2⟩;have HB2:=hidI (HB1.out.trans (hV2.mono (by omega)));have HS2:=hidI (HS1.out.of_block (hV2.block g hgs1));have hgs2:=HS2.out.lt;unfold pgv;rw [show Go.Proofs.YtodmdkhdbfbfgaaGreatDoor.txt q.text=txt q.text from rfl];obtain ⟨W3,hW3⟩:∃ W3,W3=V2.alloc (.cells #[.int .i64 (q.bad:Nat),.int .u32 (q.num:Nat),.int .i64 (q.at_:Nat),.int .i64 (q.of_:Nat),.string (txt q.text)] 182):=⟨_,rfl⟩;have HW3:=hidI hW3;obtain ⟨pb,hpb⟩:∃ pb,pb=V2.heap.size:=⟨_,rfl⟩
    have Hpb:=hidI hpb;have hr3:W3.heap[pb]? = some (.cells #[.int .i64 (q.bad:Nat),.int .u32 (q.num:Nat),.int .i64 (q.at_:Nat),.int .i64 (q.of_:Nat),.string (txt q.text)] 182 (0,0)):=by rw [hW3,hpb];exact heap_alloc_new _ _
    have hb3:Below V2.heap.size V2 W3:=by rw [hW3];exact (Below.refl _ V2).alloc (Nat.le_refl _) _
    have HB3:=hidI (HB2.out.trans (hb3.mono (by omega)));have HS3:=hidI (HS2.out.of_block (hb3.block g hgs2));have hgs3:=HS3.out.lt;have c0:W3.cell? ⟨pb,0,none⟩=some (.int .i64 (q.bad:Nat)):=by rw [cell_of_row W3 pb 0 _ 182 (0,0) hr3];rfl
    have c1:W3.cell? ⟨pb,1,none⟩=some (.int .u32 (q.num:Nat)):=by rw [cell_of_row W3 pb 1 _ 182 (0,0) hr3];rfl
    have c2:W3.cell? ⟨pb,2,none⟩=some (.int .i64 (q.at_:Nat)):=by rw [cell_of_row W3 pb 2 _ 182 (0,0) hr3];rfl
    have c3:W3.cell? ⟨pb,3,none⟩=some (.int .i64 (q.of_:Nat)):=by rw [cell_of_row W3 pb 3 _ 182 (0,0) hr3];rfl
    have c4:W3.cell? ⟨pb,4,none⟩=some (.string (txt q.text)):=by rw [cell_of_row W3 pb 4 _ 182 (0,0) hr3];rfl
    have hpn:n'≤600:=by have:k*np≤32*16:=Nat.mul_le_mul (by omega) h16;omega
    cases hr:readP (G k p) with
    | none =>
      have hrow:Hid (rowF G k (p+1)=rowF G k p):=hidI (by rw [rowF,oneF,hr];simp);clear hW3 hpb hr3 hb3 hq HS1 HB1 A2 HS2 HB2 hV2;simp only [Option.isSome_none];go_wp2_with (first | (rw [←HW3.out,←Hpb.out]) | fail);go_roundw
      case rel=>exact ⟨p+1,n',by omega,by omega,by go_num,hidI (by rw [hrow.out];exact HS3.out),HB3⟩
      case measure=>simp [intOf];omega
    | some q' =>
      have hqq:q=q':=hq q' hr;subst hqq;have hfit:=Go.Nt.sayP_fit (G k p);have hsay:=(Go.Nt.readP_some hr).2.1;have hrow:Hid (scanF G np k++rowF G k (p+1)=(scanF G np k++rowF G k p)++[Fp.mk' q k]):=hidI (by rw [rowF,oneF,hr];simp);rw [←hsay] at hfit;have A3:=hidI (qkX W3 g n' (scanF G np k++rowF G k p) (Fp.mk' q k) HS3.out (by omega) (by show q.bad≤_;omega) (by show q.num≤_;omega) (by show q.at_≤_;omega));unfold fv Fp.mk' at A3;clear hW3 hpb hr3 hb3 hq HS1 HB1 A2 HS2 HB2 hV2 hr hsay hfit;simp only [Option.isSome_some];go_wp2_with (first | (rw [←HW3.out,←Hpb.out]) | fail);refine A3.out.mono ?_;rintro e V4 ⟨rfl,hF4,hm4⟩;have HF4:Hid (FAt V4 g (n'+1) (lookF (scanF G np k++rowF G k (p+1)))):=hidI (by rw [hrow.out];exact hF4);have HB4:=hidI (HB3.out.trans (hm4.below (B:=g) (fun k hk=>Nat.le_of_eq hk.symm) (by omega)));clear hF4 hm4 A3 HS3 HB3;go_wp2_with fail;go_roundw
      case rel=>exact ⟨p+1,n'+1,by omega,by omega,by go_num,HF4,HB4⟩
      case measure=>simp [intOf];omega
   have hpn:p=np:=by omega
   subst hpn;go_wp2_with fail;go_roundw
   case rel=>exact ⟨k+1,n',by omega,by rw [Nat.succ_mul];omega,by go_num,HS,HB⟩
   case measure=>simp [intOf];omega
  have hkn:k=nb:=by omega
  subst hkn;go_wp2;go_ret
  exact ⟨rfl,HS.out.mono hn,HB.out⟩
end Go.Proofs.YtodmdkhdbfbfgaaGreatDoor.S1
