/- Lemmas and contracts for kept. -/
import Derived.LoopN
import Derived.Deep.RegionHeld3
import Derived.Shelf.SlIterI.Nil
import Derived.Shelf.SortM.Plain
import Derived.Shelf.SortM.SortNone
import Derived.Ground.GgzProg
import Derived.Ground.SlgmProg
import Derived.Deep.AppendLies
import Derived.Ground.Names2Prog
import Derived.Ground.SlgnProg
import Derived.Ground.SlsfProg
import Derived.Shelf.Strings.BuilderK
import Derived.Test.YtodmdkhdbfbfgaaGreatDoorProg
import Derived.Test.YtodmdkhdbfbfgaaGreatDoorM24
import Derived.Test.YtodmdkhdbfbfgaaGreatDoorM27
import Derived.Test.YtodmdkhdbfbfgaaGreatDoorM00
import Derived.Test.YtodmdkhdbfbfgaaGreatDoorM22
set_option maxRecDepth 100000
set_option maxHeartbeats 8000000
namespace Go.Proofs.YtodmdkhdbfbfgaaGreatDoor.S1
open Go.RowKit Pk Go.Shelf
set_option linter.unusedVariables false
set_option linter.unusedSimpArgs false
theorem growU_nil (w : World) (n : Nat) (h0 : 0 < n) (hn : n ≤ 1000) :
 Calls Tryz.prog 257 #[.slice none 0 0, .int .i64 (n : Nat)] w fun e w' => ∃ G, e = .returned (.slice (some ⟨w.heap.size, 0, none⟩) 0 G) ∧ w'.ownsRow w.heap.size 88 1 (.slice (some ⟨w.heap.size, 0, none⟩) 0 G) 0 [] ∧ Below w.heap.size w w' := by
 obtain ⟨i0, hi, hz0, hz1, hz2⟩ := info_parts Tryz.info88
 have hold : (Builtin.firstCells i0.size 0 (.slice none 0 0)).run Tryz.prog w.drew = .ok ([] : List Value).toArray w.drew := run_firstCells_none w.drew i0.size 0 0 0
 have hr := fun ty => Lib.run_append_grow_zeros w 201 3 ty 88 i0 (.int .u32 0) .i64 .i64 Tryz.underlying201 Tryz.underlying3 hi hz0 none 0 0 [] hold n (by omega) (by omega) (by omega) (by omega)
  (by rw [hz2]; omega) (by rw [hz2, Nat.zero_add]; exact growslice_fits h0 (by omega))
 rw [Nat.zero_add] at hr
 obtain ⟨G, hG⟩ : ∃ G, G = grownCap w n 0 88 := ⟨_, rfl⟩
 have hGn : n ≤ G := by rw [hG]; exact grownCap_ge w _ _ _
 have hGm : G ≤ maxLen := by rw [hG]; exact grownCap_le_maxLen w n 0 88 (by unfold maxLen; omega)
 have hG63 : G ≤ 9223372036854775807 := by unfold maxLen at hGm; omega
 rw [← hG] at hr
 obtain ⟨C, hC⟩ : ∃ C : Array Value, C = ([] : List Value).toArray ++ Builtin.zeroCells (Value.int IntKind.u32 0).cells n ++ Builtin.zeroCells (Value.int IntKind.u32 0).cells (G - n) := ⟨_, rfl⟩
 rw [← hC] at hr
 have hCs : C.size = G := by
  rw [hC, Array.size_append, Array.size_append, size_zeroCells, size_zeroCells]
  have : (Value.int IntKind.u32 0).cells.size = 1 := rfl
  rw [this]; simp; omega
 have Hown : Hid ((w.drew.alloc (.cells C 88)).ownsRow w.heap.size 88 1 (.slice (some ⟨w.heap.size, 0, none⟩) 0 G) 0 []) := ⟨rfl, .inr ⟨_, G, C, rfl, Nat.le_refl _, heap_alloc_new _ _, by omega, hGm, by omega, by simp⟩⟩
 have Hb : Hid (Below w.heap.size w (w.drew.alloc (.cells C 88))) := (Below.refl _ w).drew.alloc (Nat.le_refl _) _
 clear hC hCs hG hold
 go_enter Tryz.func257, Tryz.ntmps257
 go_wp2_with (at_builtin; refine Lib.wpList_append_run _ rfl _ _ _ _ rfl _ _ rfl rfl _ _ (hr _) ?_)
 go_ret
 exact ⟨G, rfl, Hown.out, Hb.out⟩
theorem concat1 (w : World) (rb g cap x : Nat) (hr : w.heap[rb]? = some (.cells #[.slice (some ⟨g, 0, none⟩) 1 cap, .slice (some ⟨g, 0, none⟩) 0 cap] 201 (0, 0))) (hx : w.cell? ⟨g, 0, none⟩ = some (encU x)) (hg : g < w.heap.size) :
 Calls Tryz.prog 205 #[.slice (some ⟨rb, 0, none⟩) 2 2] w fun e w' => ∃ v, e = .returned v ∧ w'.ownsRow w.heap.size 88 1 v 1 [encU x] ∧ Below w.heap.size w w' := by
 obtain ⟨i0, hi, hz0, hz1, hz2⟩ := info_parts Tryz.info88
 have c0 : w.cell? ⟨rb, 0, none⟩ = some (.slice (some ⟨g, 0, none⟩) 1 cap) := by rw [cell_of_row w rb 0 _ 201 (0, 0) hr]; rfl
 have c1 : w.cell? ⟨rb, 1, none⟩ = some (.slice (some ⟨g, 0, none⟩) 0 cap) := by rw [cell_of_row w rb 1 _ 201 (0, 0) hr]; rfl
 have hrl := lt_of_heap hr
 clear hr
 go_enter Tryz.func205, Tryz.ntmps205
 go_wp2
 refine wp_loop_rounds 3 ?_
 rw [rounds_succ]
 go_wp2
 rw [rounds_succ]
 go_wp2
 rw [rounds_succ]
 go_wp2_with fail
 refine (growU_nil w 1 (by omega) (by omega)).mono ?_
 rintro e w1 ⟨G, rfl, hown, hb⟩
 have d0 : w1.cell? ⟨rb, 0, none⟩ = some (.slice (some ⟨g, 0, none⟩) 1 cap) := by rw [hb.cell (p := ⟨rb, 0, none⟩) hrl]; exact c0
 have d1 : w1.cell? ⟨rb, 1, none⟩ = some (.slice (some ⟨g, 0, none⟩) 0 cap) := by rw [hb.cell (p := ⟨rb, 1, none⟩) hrl]; exact c1
 have dx : w1.cell? ⟨g, 0, none⟩ = some (encU x) := by rw [hb.cell (p := ⟨g, 0, none⟩) hg]; exact hx
 have Hown := hidI hown
 have Hb := hidI hb
 clear hown hb c0 c1
 go_wp2
 refine wp_loop_rounds 3 ?_
 rw [rounds_succ]
 go_wp2_with (at_builtin; refine wpList_append_own _ rfl _ _ 201 rfl w.heap.size 88 i0 (.int .u32 0) 1 4 Tryz.underlying201 hi hz0 hz1 hz2 rfl (by decide) _ _ _ rfl Hown.out ⟨g, 0, none⟩ 1 cap [encU x] rfl rfl ?q1 ?q2 ?q3 ?q4 ?q5 ?_)
 case q1 =>
  intro j u hj
  rcases j with _ | j
  ·simp at hj; subst hj; exact dx
  ·simp at hj
 case q2 => simp [encU, Value.oneCell']
 case q3 => simp [maxLen]
 case q4 => omega
 case q5 => exact Hb.out.size
 intro v2 w2 hown2 hg2 hnil2
 have hb2 : Below w.heap.size w w2 := Hb.out.grown hg2 Hb.out.size (fun k e => by have := (Hown.out.lt k e).1; omega)
 have f1 : w2.cell? ⟨rb, 1, none⟩ = some (.slice (some ⟨g, 0, none⟩) 0 cap) := by
  rw [← d1]; exact World.cell?_of_block (hg2.block rb (by have := Hb.out.size; omega) (fun e => by have := (Hown.out.lt rb e.symm).1; omega))
 try simp only [Nat.zero_add, List.nil_append] at hown2
 have Hown2 := hidI hown2
 have Hb2 := hidI hb2
 clear Hown Hb hown2 hb2 hg2 d0 d1 dx
 go_wp2
 rw [rounds_succ]
 go_wp2_with (at_builtin; refine wpList_append_own _ rfl _ _ 201 rfl w.heap.size 88 i0 (.int .u32 0) 1 4 Tryz.underlying201 hi hz0 hz1 hz2 rfl (by decide) _ _ _ rfl Hown2.out ⟨g, 0, none⟩ 0 cap [] rfl rfl ?q1 ?q2 ?q3 ?q4 ?q5 ?_)
 case q1 => intro j u hj; simp at hj
 case q2 => simp
 case q3 => simp [maxLen]
 case q4 => omega
 case q5 => exact Hb2.out.size
 intro v3 w3 hown3 hg3 hnil3
 have hb3 : Below w.heap.size w w3 := Hb2.out.grown hg3 Hb2.out.size (fun k e => by have := (Hown2.out.lt k e).1; omega)
 have Hown3 := hidI hown3
 have Hb3 := hidI hb3
 clear Hown2 Hb2 hown3 hb3 hg3 f1 hnil3 hnil2
 go_wp2
 rw [rounds_succ]
 go_wp2
 go_ret
 exact ⟨v3, rfl, by simpa using Hown3.out, Hb3.out⟩
end Go.Proofs.YtodmdkhdbfbfgaaGreatDoor.S1
namespace Go.Proofs.YtodmdkhdbfbfgaaGreatDoor.S1
open Go.RowKit Pk Go.Shelf
set_option linter.unusedVariables false
set_option linter.unusedSimpArgs false
theorem round1 (w : World) (g cap x : Nat) (cur : Array Value) (hg : w.heap[g]? = some (.cells cur 88 (0, 0))) (hx : cur[0]? = some (encU x)) (hxr : x ≤ 4294967295) :
 Calls Tryz.prog 141 #[.slice (some ⟨g, 0, none⟩) 1 cap] w fun e w' => ∃ v, e = .returned v ∧ w'.ownsRow w.heap.size 88 1 v 1 [encU x] ∧ Below w.heap.size w w' := by
 have hgl := lt_of_heap hg
 obtain ⟨W0, hW0⟩ : ∃ W0, W0 = w.alloc (.cells #[.slice (some ⟨g, 0, none⟩) 1 cap] 201) := ⟨_, rfl⟩
 have hs0 : W0.heap.size = w.heap.size + 1 := by rw [hW0]; simp
 have hb0 : Below w.heap.size w W0 := by rw [hW0]; exact (Below.refl _ w).alloc (Nat.le_refl _) _
 have hc0 : W0.cell? ⟨w.heap.size, 0, none⟩ = some (.slice (some ⟨g, 0, none⟩) 1 cap) := by rw [hW0]; simp
 have hg0 : W0.heap[g]? = some (.cells cur 88 (0, 0)) := (hb0.block g hgl).trans hg
 have hv : SeqRow Fence.wide 1 Tryz.prog 256 #[.pointer (some ⟨w.heap.size, 0, none⟩)] (fun x => #[encU x]) [x] W0.heap.size (fun k => k < W0.heap.size) W0 := values_row 1 (by omega) W0 w.heap.size g cap [x] W0.heap.size _ (by omega) (by omega) (show g < W0.heap.size by omega) (by simp) hc0 cur hg0 (by
  cases h : cur.toList with
  | nil => have := congrArg Array.size (Array.toList_inj.1 (h.trans (rfl : ([] : List Value) = (#[] : Array Value).toList))); rw [Array.getElem?_eq_none (by simp at this; simp [this])] at hx; cases hx
  | cons a l => rw [← Array.getElem?_toList, h] at hx; simp at hx; simp [hx])
 have B := hidI ((callsIn_wide (n := 4)).1 (sorted1_in 4 (by omega) 256 _ (enters_of Tryz.func256 (by kernel_rfl) rfl) x W0 W0.heap.size _ (Nat.le_refl _) (fun k hk => hk) hv))
 have A := hidI ((callsIn_wide (n := 4)).1 (values_any 4 (some ⟨g, 0, none⟩) 1 cap w))
 have HW0 := hidI hW0
 have HB0 := hidI hb0
 have Hs0 := hidI hs0
 clear hv hc0 hg0 hg hW0 hb0 hs0
 go_enter Tryz.func141, Tryz.ntmps141
 go_wp2_with fail
 refine A.out.mono ?_
 rintro e w1 ⟨rfl, hw1⟩
 rw [← HW0.out] at hw1
 subst hw1
 go_wp2_with fail
 refine B.out.mono ?_
 rintro e w2 ⟨v, rfl, hrow, hb2⟩
 rcases hrow.2 with ⟨_, h0⟩ | ⟨g', cap', cur', rfl, hbase', hgb', hr1, hr2, hr3, hr4⟩
 ·omega
 have hc2 : w2.cell? ⟨g', 0, none⟩ = some (.int .u32 (x : Nat)) := by
  rw [cell_of_row w2 g' 0 _ 88 (0, 0) hgb']
  cases h : cur'.toList with
  | nil => rw [h] at hr4; simp at hr4
  | cons a l =>
    rw [h] at hr4
    simp at hr4
    rw [← Array.getElem?_toList, h]
    simp [hr4, encU]
 have hgl2 := lt_of_heap hgb'
 have HB2 : Hid (Below w.heap.size w w2) := hidI (HB0.out.trans (hb2.mono (by have := Hs0.out; omega)))
 have hcm : cap' ≤ 9223372036854775807 := by unfold maxLen at hr2; omega
 have hci : (1 : Int) ≤ (cap' : Nat) := by omega
 have hsub : IntKind.u32.wrap ((x : Int) - x) = 0 := by rw [Int.sub_self]; rfl
 clear hrow hb2 hr4 hr3 hr2 hgb' hbase' A B
 go_wp2
 refine wp_loop_rounds 2 ?_
 rw [rounds_succ]
 go_wp2
 rw [rounds_succ]
 go_wp2_with fail
 refine wp_region_held_drew (S := fun V => True) (by kernel_rfl) trivial (fun hHeld => ?_)
 refine tk 0 ⟨some 36, .move (.tmp 3), 201, "label.go:53", #[], none⟩ (.slice (some ⟨g', 0, none⟩) 1 cap') rfl (by kernel_rfl) (fun _ _ _ h => h) (fun w h => by (try dsimp only at h); go_simp) hHeld ?_
 simp only [Act.put, List.setIfInBounds_toArray, List.set]
 refine tk 1 ⟨some 37, .move (.tmp 4), 3, "label.go:53", #[], none⟩ (.int .i64 0) rfl (by kernel_rfl) (fun _ _ _ h => h) (fun w h => by (try dsimp only at h); go_simp) hHeld ?_
 simp only [Act.put, List.setIfInBounds_toArray, List.set]
 refine tk 2 ⟨some 38, .slice 201 (.tmp 36) (some (.tmp 37)) none none, 201, "label.go:53", #[⟨0, .data⟩, ⟨1, .data⟩], none⟩ (.slice (some ⟨g', 0, none⟩) 1 cap') rfl (by kernel_rfl) (fun _ _ _ h => h) (fun w h => by (try dsimp only at h); go_simp) hHeld ?_
 simp only [Act.put, List.setIfInBounds_toArray, List.set]
 refine tk 3 ⟨some 39, .move (.tmp 3), 201, "label.go:53", #[], none⟩ (.slice (some ⟨g', 0, none⟩) 1 cap') rfl (by kernel_rfl) (fun _ _ _ h => h) (fun w h => by (try dsimp only at h); go_simp) hHeld ?_
 simp only [Act.put, List.setIfInBounds_toArray, List.set]
 refine tk 4 ⟨some 40, .move (.tmp 4), 3, "label.go:53", #[], none⟩ (.int .i64 0) rfl (by kernel_rfl) (fun _ _ _ h => h) (fun w h => by (try dsimp only at h); go_simp) hHeld ?_
 simp only [Act.put, List.setIfInBounds_toArray, List.set]
 refine tk 5 ⟨some 41, .slice 201 (.tmp 39) none (some (.tmp 40)) none, 201, "label.go:53", #[⟨3, .data⟩, ⟨4, .data⟩], none⟩ (.slice (some ⟨g', 0, none⟩) 0 cap') rfl (by kernel_rfl) (fun _ _ _ h => h) (fun w h => by (try dsimp only at h); go_simp) hHeld ?_
 simp only [Act.put, List.setIfInBounds_toArray, List.set]
 refine rd 6 (by kernel_rfl) rfl (fun K hK => ?_)
 go_simp
 obtain ⟨W3, hW3⟩ : ∃ W3, W3 = (w2.alloc (.cells #[.slice (some ⟨g', 0, none⟩) 1 cap', .slice (some ⟨g', 0, none⟩) 0 cap'] 201)).drew := ⟨_, rfl⟩
 obtain ⟨rb, hrb⟩ : ∃ rb, rb = w2.heap.size := ⟨_, rfl⟩
 have hr3 : W3.heap[rb]? = some (.cells #[.slice (some ⟨g', 0, none⟩) 1 cap', .slice (some ⟨g', 0, none⟩) 0 cap'] 201 (0, 0)) := by rw [hW3, hrb]; exact heap_alloc_new _ _
 have hB3 : Below w2.heap.size w2 W3 := by rw [hW3]; exact ((Below.refl _ w2).alloc (Nat.le_refl _) _).drew
 have hx3 : W3.cell? ⟨g', 0, none⟩ = some (encU x) := by rw [hB3.cell (p := ⟨g', 0, none⟩) hgl2]; exact hc2
 have C := hidI (concat1 W3 rb g' cap' x hr3 hx3 (Nat.lt_of_lt_of_le hgl2 hB3.size))
 have HB3 := hidI (HB2.out.trans (hB3.mono HB2.out.size))
 refine hK.out _ _ trivial (fun hHeld => ?_)
 rw [← hW3]
 simp only [← hrb]
 clear hK K hW3 hrb hr3 hB3 hx3
 refine rd 7 (by kernel_rfl) rfl (fun K hK => ?_)
 go_simp
 refine C.out.mono ?_
 rintro e w4 ⟨v4, rfl, hrow4, hb4⟩
 have HB4 := hidI (HB3.out.trans (hb4.mono HB3.out.size))
 have HR4 := hidI (ownsRow_base_a hrow4 HB3.out.size)
 rcases hrow4.2 with ⟨_, h0⟩ | ⟨g4, cap4, cur4, rfl, _⟩
 ·omega
 clear hrow4 hb4
 refine hK.out _ _ trivial (fun hHeld => ?_)
 clear hK K
 refine tk 8 ⟨some 2, .assign (.tmp 43), 201, "label.go:53", #[⟨7, .data⟩, ⟨7, .chain⟩, ⟨0, .phase⟩, ⟨1, .phase⟩, ⟨2, .phase⟩, ⟨3, .phase⟩, ⟨4, .phase⟩, ⟨5, .phase⟩, ⟨6, .phase⟩, ⟨7, .phase⟩], none⟩ (.slice (some ⟨g4, 0, none⟩) 1 cap4) rfl (by kernel_rfl) (fun _ _ _ h => h) (fun w h => by (try dsimp only at h); go_simp) hHeld ?_
 simp only [Act.put, List.setIfInBounds_toArray, List.set]
 refine wpAnyH_done (by kernel_rfl) ?_ _
 clear hHeld
 go_wp2_with fail
 go_ret
 exact ⟨_, rfl, HR4.out, HB4.out⟩
end Go.Proofs.YtodmdkhdbfbfgaaGreatDoor.S1
namespace Go.Proofs
open Go.RowKit Go.Maps Go.Sort Go.Shelf
shelf_lay_g SlLaysZI.n7 Ggz 7 at Tryz 140 as Tryz.keysA
shelf_lay_g SlLaysZI.n6 Ggz 6 at Tryz 139 as Tryz.sortedA
shelf_lay_g SlLaysM.n5 Slgm 5 at Tryz 201 as Tryz.sortA
theorem Tryz.sortsA (m : Nat) : AnyZI.SortsIn Tryz.prog Tryz.sortedA_ren Fence.wide m :=
 ⟨fun blk off cap ss W hH hblk hsz => callsIn_wide.2 (AnyM.slices_Sort_int Tryz.sortA blk off cap ss W hH hblk hsz),
  fun p cap W => callsIn_wide.2 (AnyM.slices_Sort_int_none Tryz.sortA p cap W)⟩
namespace YtodmdkhdbfbfgaaGreatDoor.S1
theorem keysI_any (mb : Option Nat) (w : World) : Calls Tryz.prog 140 #[.map mb] w fun e w' => e = .returned (.func (.func 202) #[] #[.pointer (some ⟨w.heap.size, 0, none⟩)]) ∧ w' = w.alloc (.cells #[.map mb] 200) :=
 (callsIn_wide (n := 5)).1 (AnyZI.keys_in Tryz.keysA Fence.wide 5 trivial rfl mb w)
theorem sortedI_any {H : Type} {R : Value → Option (DataW H × List MemPlace)} (w : World) (Bm g n : Nat) (D : DataW H) (hBm : Bm < w.heap.size) (hm : w.cell? ⟨Bm, 0, none⟩ = some (.map (some g))) (hown : w.ownsMap Tryz.prog 3 R g n D) (hn : Maps.size D ≤ 100000) :
 Calls Tryz.prog 139 #[.func (.func 202) #[] #[.pointer (some ⟨Bm, 0, none⟩)]] w fun e w' => ∃ (v : Value) (ss : List Int), e = .returned v ∧ ss.Perm (intKeys D) ∧ w'.ownsRow w.heap.size 3 1 v ss.length ((ss.mergeSort (fun x y => decide (x ≤ y))).map encZ) ∧ (v = .slice none 0 0 ↔ ss = []) ∧ Below w.heap.size w w' := by
 have hseq : SeqGives Fence.wide 2 Tryz.prog 202 #[.pointer (some ⟨Bm, 0, none⟩)] encZ (fun ss => ss.Perm (intKeys D)) (Maps.size D) w :=
  AnyZI.keys_gives (ρ := Tryz.keysA_ren) { Tryz.keysA with } Fence.wide _ trivial rfl (by omega) Bm g n D _ hBm hm hown
 have cS := AnyZI.sorted_in Tryz.sortedA Fence.wide 5 trivial trivial trivial trivial rfl (by omega) (Tryz.sortsA _) (enters_of Tryz.func201 (by kernel_rfl) rfl) 202 #[.pointer (some ⟨Bm, 0, none⟩)] trivial (enters_of Tryz.func202 (by kernel_rfl) rfl) _ _ (by unfold maxLen; omega) (by omega) _ hseq
 change CallsIn _ _ Tryz.prog 139 _ _ _ at cS
 exact (callsIn_wide (n := 5)).1 cS
end YtodmdkhdbfbfgaaGreatDoor.S1
end Go.Proofs
namespace Go.Proofs.YtodmdkhdbfbfgaaGreatDoor.S1
open Go.RowKit Pk Go.Shelf Go.Sort Go.Maps
set_option linter.unusedVariables false
set_option linter.unusedSimpArgs false
theorem inTurn1 (w : World) (g0 cap b r : Nat) (cur : Array Value) (hg0 : w.heap[g0]? = some (.cells cur 90 (0, 0))) (h0 : cur[0]? = some (.int .i64 (b : Nat))) (h1 : cur[1]? = some (.int .u32 (r : Nat))) (hb : b ≤ 1000000) (hr : r ≤ 4294967295) :
 Calls Tryz.prog 84 #[.slice (some ⟨g0, 0, none⟩) 1 cap] w fun e w' => ∃ v, e = .returned v ∧ w'.ownsRow w.heap.size 90 2 v 1 (lbs [(b, r)]) ∧ Below w.heap.size w w' := by
 obtain ⟨i0, hi, hz0, hz1, hz2⟩ := info_parts Tryz.info88
 obtain ⟨j0, hj, hy0, hy1, hy2⟩ := info_parts Tryz.info90
 have hgl := lt_of_heap hg0
 obtain ⟨z0, hz⟩ : ∃ z0, z0 = w.heap.size := ⟨_, rfl⟩
 obtain ⟨W1, hW1⟩ : ∃ W1, W1 = w.alloc (.map #[] 0) := ⟨_, rfl⟩
 obtain ⟨W2, hW2⟩ : ∃ W2, W2 = W1.alloc (.cells #[.int .i64 (b : Nat), .int .u32 (r : Nat)] 90) := ⟨_, rfl⟩
 have s1 : W1.heap.size = z0 + 1 := by rw [hW1, hz]; simp
 have s2 : W2.heap.size = z0 + 2 := by rw [hW2]; simp [s1]
 have b1 : Below z0 w W1 := by rw [hW1, hz]; exact (Below.refl _ w).alloc (Nat.le_refl _) _
 have b2 : Below z0 w W2 := by rw [hW2]; exact b1.alloc (by omega) _
 have hmk := make200 w
 rw [← hW1, ← hz] at hmk
 have o1 : W1.ownsMap Tryz.prog 3 anyOf z0 0 (.map []) := by rw [hW1, hz]; exact World.ownsMap_made w _ _ _
 have o2 : W2.ownsMap Tryz.prog 3 anyOf z0 0 (.map []) := owns_block o1 (by rw [hW2]; exact Below.heap_alloc _ _ _ (by omega))
 have c0 : W1.cell? ⟨g0, 0, none⟩ = some (.int .i64 (b : Nat)) := by rw [cell_of_row W1 g0 0 _ 90 (0, 0) ((b1.block g0 (by omega)).trans hg0)]; exact h0
 have c1 : W1.cell? ⟨g0, 1, none⟩ = some (.int .u32 (r : Nat)) := by rw [cell_of_row W1 g0 1 _ 90 (0, 0) ((b1.block g0 (by omega)).trans hg0)]; exact h1
 have hr2 : W2.heap[z0 + 1]? = some (.cells #[.int .i64 (b : Nat), .int .u32 (r : Nat)] 90 (0, 0)) := by rw [hW2, ← s1]; exact heap_alloc_new _ _
 have k0 : W2.drew.cell? ⟨z0 + 1, 0, none⟩ = some (.int .i64 (b : Nat)) := by rw [World.cell?_of_block (w := W2) (w' := W2.drew) rfl, cell_of_row W2 (z0 + 1) 0 _ 90 (0, 0) hr2]; rfl
 have k1 : W2.drew.cell? ⟨z0 + 1, 1, none⟩ = some (.int .u32 (r : Nat)) := by rw [World.cell?_of_block (w := W2) (w' := W2.drew) rfl, cell_of_row W2 (z0 + 1) 1 _ 90 (0, 0) hr2]; rfl
 have hlk : (Instr.lookup 200 (.map (some z0)) (.int .i64 (b : Nat)) false).run Tryz.prog W2.drew = .ok (.slice none 0 0) W2.drew := look200_none (owns_block (w' := W2.drew) o2 rfl) hb
 -- a row of one number is laid
 obtain ⟨W3, hW3⟩ : ∃ W3, W3 = (W2.alloc (.cells #[.int .u32 (r : Nat)] 88)).drew := ⟨_, rfl⟩
 have s3 : W3.heap.size = z0 + 3 := by rw [hW3]; show (W2.alloc _).heap.size = _; simp [s2]
 have b3 : Below z0 w W3 := by rw [hW3]; exact (b2.alloc (by omega) _).drew
 have hr3 : W3.heap[z0 + 2]? = some (.cells #[.int .u32 (r : Nat)] 88 (0, 0)) := by rw [hW3, ← s2]; exact heap_alloc_new _ _
 have up3 : ∀ k, k < z0 + 2 → W3.heap[k]? = W2.heap[k]? := fun k hk => by rw [hW3]; exact Below.heap_alloc W2 _ k (by omega)
 have m0 : W3.cell? ⟨z0 + 1, 0, none⟩ = some (.int .i64 (b : Nat)) := by rw [cell_of_row W3 (z0 + 1) 0 _ 90 (0, 0) ((up3 _ (by omega)).trans hr2)]; rfl
 have m1 : W3.cell? ⟨z0 + 1, 1, none⟩ = some (.int .u32 (r : Nat)) := by rw [cell_of_row W3 (z0 + 1) 1 _ 90 (0, 0) ((up3 _ (by omega)).trans hr2)]; rfl
 have o3 : W3.ownsMap Tryz.prog 3 anyOf z0 0 (.map []) := owns_block o2 (up3 _ (by omega))
 have hlk3 : (Instr.lookup 200 (.map (some z0)) (.int .i64 (b : Nat)) false).run Tryz.prog W3 = .ok (.slice none 0 0) W3 := look200_none o3 hb
 have HW1 := hidI hW1
 have HW2 := hidI hW2
 have HW3 := hidI hW3
 have Hz := hidI hz
 have Hs1 := hidI s1
 have Hs2 := hidI s2
 have Hs3 := hidI s3
 have HB3 := hidI b3
 have Ho3 := hidI o3
 have Hr3 := hidI hr3
 have Hr2 := hidI hr2
 have Hup := hidI up3
 rw [← hz]
 clear hg0 h0 h1 hW1 hW2 hW3 hz s1 s2 s3 b1 b2 b3 o1 o2 o3 hr2 hr3 up3
 go_enter Tryz.func84, Tryz.ntmps84
 go_wp2_with (first | (rw [← HW1.out, ← Hz.out]) | fail)
 refine wp_loop_rounds 2 ?_
 rw [rounds_succ]
 go_wp2_with (first | (rw [← HW2.out, Hs1.out]) | fail)
 refine wp_region_held_drew (S := fun V => V.cell? ⟨z0 + 1, 0, none⟩ = some (.int .i64 (b : Nat)) ∧ V.cell? ⟨z0 + 1, 1, none⟩ = some (.int .u32 (r : Nat))) (by kernel_rfl) ⟨k0, k1⟩ (fun hHeld => ?_)
 refine tk 0 ⟨some 18, .move (.tmp 3), 200, "label.go:31", #[], none⟩ (.map (some z0)) rfl (by kernel_rfl) (fun _ _ _ h => h) (fun w h => by (try dsimp only at h); go_simp) hHeld ?_
 simp only [Act.put, List.setIfInBounds_toArray, List.set]
 refine tk 1 ⟨some 19, .fieldAddr 90 (.tmp 5) 0, 0, "label.go:31", #[], none⟩ (.pointer (some ⟨z0 + 1, 0, none⟩)) rfl (by kernel_rfl) (fun _ _ _ h => h) (fun w h => by (try dsimp only at h); go_simp) hHeld ?_
 simp only [Act.put, List.setIfInBounds_toArray, List.set]
 refine tk 2 ⟨some 20, .load 3 (.tmp 19), 3, "label.go:31", #[⟨1, .data⟩], none⟩ (.int .i64 (b : Nat)) rfl (by kernel_rfl) (fun _ _ _ h => h) (fun w h => by (try dsimp only at h); go_simp) hHeld ?_
 simp only [Act.put, List.setIfInBounds_toArray, List.set]
 refine tk 3 ⟨some 21, .move (.tmp 3), 200, "label.go:31", #[], none⟩ (.map (some z0)) rfl (by kernel_rfl) (fun _ _ _ h => h) (fun w h => by (try dsimp only at h); go_simp) hHeld ?_
 simp only [Act.put, List.setIfInBounds_toArray, List.set]
 refine tk 4 ⟨some 22, .fieldAddr 90 (.tmp 5) 0, 0, "label.go:31", #[], none⟩ (.pointer (some ⟨z0 + 1, 0, none⟩)) rfl (by kernel_rfl) (fun _ _ _ h => h) (fun w h => by (try dsimp only at h); go_simp) hHeld ?_
 simp only [Act.put, List.setIfInBounds_toArray, List.set]
 refine tk 5 ⟨some 23, .load 3 (.tmp 22), 3, "label.go:31", #[⟨4, .data⟩], none⟩ (.int .i64 (b : Nat)) rfl (by kernel_rfl) (fun _ _ _ h => h) (fun w h => by (try dsimp only at h); go_simp) hHeld ?_
 simp only [Act.put, List.setIfInBounds_toArray, List.set]
 refine tk 7 ⟨some 25, .fieldAddr 90 (.tmp 5) 1, 0, "label.go:31", #[], none⟩ (.pointer (some ⟨z0 + 1, 1, none⟩)) rfl (by kernel_rfl) (fun _ _ _ h => h) (fun w h => by (try dsimp only at h); go_simp) hHeld ?_
 simp only [Act.put, List.setIfInBounds_toArray, List.set]
 refine tk 8 ⟨some 26, .load 88 (.tmp 25), 88, "label.go:31", #[⟨7, .data⟩], none⟩ (.int .u32 (r : Nat)) rfl (by kernel_rfl) (fun _ _ _ h => h) (fun w h => by (try dsimp only at h); go_simp) hHeld ?_
 simp only [Act.put, List.setIfInBounds_toArray, List.set]
 refine wpAnyH_ready (rs := [6, 9]) (by kernel_rfl) (by simp) ?_
 refine AllReadyH.cons rfl (fun K hK => ?_) (AllReadyH.cons rfl (fun K hK => ?_) AllReadyH.nil)
 case' refine_1 =>
  go_simp
  refine hK.out _ _ ⟨k0, k1⟩ (fun hHeld => ?_)
  clear hK K
  refine rd 9 (by kernel_rfl) rfl (fun K hK => ?_)
  go_simp
  refine hK.out _ _ (by rw [← HW3.out]; exact ⟨m0, m1⟩) (fun hHeld => ?_)
  rw [← HW3.out] at hHeld ⊢
  simp only [Hs2.out]
  clear hK K
 case' refine_2 =>
  go_simp
  refine hK.out _ _ (by rw [← HW3.out]; exact ⟨m0, m1⟩) (fun hHeld => ?_)
  rw [← HW3.out] at hHeld ⊢
  simp only [Hs2.out]
  clear hK K
  refine rd 6 (by kernel_rfl) rfl (fun K hK => ?_)
  go_simp
  refine hK.out _ _ ⟨m0, m1⟩ (fun hHeld => ?_)
  clear hK K
 all_goals
  refine rd 10 (by kernel_rfl) rfl (fun K hK => ?_)
  refine step_append_lies _ rfl _ _ 201 rfl (z0 + 2) 88 i0 (.int .u32 0) 1 4 Tryz.underlying201 hi hz0 hz1 hz2 rfl (by decide) (.slice none 0 0) 0 [] rfl (World.ownsRow_nil _ _ _ _) ⟨z0 + 2, 0, none⟩ 1 1 [.int .u32 (r : Nat)] rfl rfl ?q1 ?q2 (by omega) (by simp [maxLen]) (by omega) (by rw [Hs3.out]; omega) _ rfl ?_
  case q1 => exact World.news_of_block (cs := #[.int .u32 (r : Nat)]) Hr3.out
  case q2 => simp [Value.oneCell']
  intro g4 cap4 w4 hown4 hg4 hat4 hlt4
  replace hg4 : W3.grownBy w4 none := hg4
  have up4 : ∀ k, k < z0 + 3 → w4.heap[k]? = W3.heap[k]? := fun k hk => hg4.block k (by rw [Hs3.out]; omega) (fun e => by cases e)
  have n0 : w4.cell? ⟨z0 + 1, 0, none⟩ = some (.int .i64 (b : Nat)) := (World.cell?_of_block (up4 (z0 + 1) (by omega))).trans m0
  have n1 : w4.cell? ⟨z0 + 1, 1, none⟩ = some (.int .u32 (r : Nat)) := (World.cell?_of_block (up4 (z0 + 1) (by omega))).trans m1
  obtain ⟨w5, hu, o5, hm5⟩ := store200 (owns_block (w' := w4) Ho3.out (up4 _ (by omega))) hb (by omega) (.slice (some ⟨g4, 0, none⟩) (0 + 1) cap4)
  refine hK.out _ _ ⟨n0, n1⟩ (fun hHeld => ?_)
  clear hK K
  simp only [Act.put, List.setIfInBounds_toArray, List.set]
  refine rd 11 (by kernel_rfl) rfl (fun K hK => ?_)
  go_simp
  have hg5 := hm5.grown
  have s4 := hg4.size
  have s4' : z0 + 3 ≤ w4.heap.size := by rw [Hs3.out] at s4; exact s4
  have p0 : w5.cell? ⟨z0 + 1, 0, none⟩ = some (.int .i64 (b : Nat)) := (World.cell?_of_block (hg5.block (z0 + 1) (by omega) (fun e => by simp at e))).trans n0
  have p1 : w5.cell? ⟨z0 + 1, 1, none⟩ = some (.int .u32 (r : Nat)) := (World.cell?_of_block (hg5.block (z0 + 1) (by omega) (fun e => by simp at e))).trans n1
  have HB5 : Hid (Below z0 w w5) := hidI ((HB3.out.grown hg4 (by rw [Hs3.out]; omega) (fun k e => by cases e)).grown hg5 (by omega) (fun k e => by cases e; exact Nat.le_refl _))
  have HR5 : Hid (∃ cur4, w5.heap[g4]? = some (.cells cur4 88 (0, 0)) ∧ cur4[0]? = some (encU r)) := hidI (by
   rcases hown4.2 with ⟨e, _⟩ | ⟨g', cap', cur', e, q1, q2, q3, q4, q5, q6⟩
   ·cases e
   ·cases e
    refine ⟨cur', (hg5.block g4 hlt4 (fun e => by cases e; omega)).trans q2, ?_⟩
    cases h : cur'.toList with
    | nil => rw [h] at q6; simp at q6
    | cons a l =>
      rw [h] at q6
      simp at q6
      rw [← Array.getElem?_toList, h]
      simp [q6, encU])
  have Ho5 := hidI o5
  have hz5 : z0 + 3 ≤ w5.heap.size := by have := hg5.size; omega
  have hg45 : g4 < w5.heap.size := by have := hg5.size; omega
  refine hK.out _ _ ⟨p0, p1⟩ (fun hHeld => ?_)
  clear hK K hHeld
  refine wpAnyH_done (by kernel_rfl) ?_ _
  clear hown4 hg4 hat4 hlt4 up4 n0 n1 hu o5 hm5 hg5 p0 p1 s4 s4' hmk hlk hlk3 k0 k1 m0 m1 c0 c1 hHeld
  go_wp2_with fail
  rw [rounds_succ]
  go_wp2_with fail
  refine (keysI_any (some z0) w5).mono ?_
  rintro e w6 ⟨rfl, hw6⟩
  have hs6 : w6.heap.size = w5.heap.size + 1 := by rw [hw6]; simp
  have hb6 : Below w5.heap.size w5 w6 := by rw [hw6]; exact (Below.refl _ _).alloc (Nat.le_refl _) _
  have hc6 : w6.cell? ⟨w5.heap.size, 0, none⟩ = some (.map (some z0)) := by rw [hw6]; simp
  have B6 := hidI (sortedI_any w6 w5.heap.size z0 1 _ (by omega) hc6 (owns_block (w' := w6) Ho5.out (hb6.block z0 (by omega))) (by simp [Maps.size]))
  have Hb6 := hidI hb6
  have Hs6 := hidI hs6
  obtain ⟨z5, hz5e⟩ : ∃ z5, z5 = w5.heap.size := ⟨_, rfl⟩
  have Hz5e := hidI hz5e
  rw [← hz5e] at B6
  simp only [← hz5e]
  clear hb6 hc6 hw6 hs6 hz5e
  go_wp2_with fail
  refine B6.out.mono ?_
  rintro e w7 ⟨v7, ss, rfl, hperm, hrow7, hnil7, hb7⟩
  have hss : ss = [(b : Int)] := by
   have : intKeys (DataW.map [(Lit.int .i64 (b : Nat), DataW.held (Value.slice (some ⟨g4, 0, none⟩) (0 + 1) cap4))]) = [(b : Int)] := rfl
   exact List.perm_singleton.1 (this ▸ hperm)
  subst hss
  rcases hrow7.2 with ⟨_, h0⟩ | ⟨g7, cap7, cur7, rfl, q1, q2, q3, q4, q5, q6⟩
  ·simp at h0
  have hb57 : Below w5.heap.size w5 w7 := Hb6.out.trans (hb7.mono (by have := Hs6.out; omega))
  have HB7 : Hid (Below z0 w w7) := hidI (HB5.out.trans (hb57.mono (by omega)))
  have k7 : w7.cell? ⟨g7, 0, none⟩ = some (.int .i64 (b : Nat)) := by
   rw [cell_of_row w7 g7 0 _ 3 (0, 0) q2]
   cases h : cur7.toList with
   | nil => rw [h] at q6; simp at q6
   | cons a l =>
     rw [h] at q6
     simp [List.mergeSort] at q6
     rw [← Array.getElem?_toList, h]
     simp [q6, encZ]
  have hlk7 : (Instr.lookup 200 (.map (some z0)) (.int .i64 (b : Nat)) false).run Tryz.prog w7 = .ok (.slice (some ⟨g4, 0, none⟩) 1 cap4) w7 := look200_some (owns_block (w' := w7) Ho5.out (hb57.block z0 (by omega))) hb
  obtain ⟨cur4, r1, r2⟩ := HR5.out
  have A7 := hidI (round1 w7 g4 cap4 r cur4 ((hb57.block g4 hg45).trans r1) r2 hr)
  have hz7 : w5.heap.size ≤ w7.heap.size := hb57.size
  clear hrow7 hnil7 hb7 hperm q1 q2 q3 q4 q5 q6 hb57 r1 r2 B6
  simp only [List.length_cons, List.length_nil, Nat.zero_add]
  go_wp2
  refine wp_loop_rounds 2 ?_
  rw [rounds_succ]
  go_wp2_with fail
  refine A7.out.mono ?_
  rintro e w8 ⟨v8, rfl, hrow8, hb8⟩
  rcases hrow8.2 with ⟨_, h0⟩ | ⟨g8, cap8, cur8, rfl, q1, q2, q3, q4, q5, q6⟩
  ·omega
  have HB8 : Hid (Below z0 w w8) := hidI (HB7.out.trans (hb8.mono (by omega)))
  have k8 : w8.cell? ⟨g8, 0, none⟩ = some (.int .u32 (r : Nat)) := by
   rw [cell_of_row w8 g8 0 _ 88 (0, 0) q2]
   cases h : cur8.toList with
   | nil => rw [h] at q6; simp at q6
   | cons a l =>
     rw [h] at q6
     simp at q6
     rw [← Array.getElem?_toList, h]
     simp [q6, encU]
  have hz8 : z0 ≤ w8.heap.size := by have := hb8.size; omega
  clear hrow8 hb8 q1 q2 q3 q4 q5 q6 hlk7 k7 A7
  go_wp2
  refine wp_loop_rounds 2 ?_
  rw [rounds_succ]
  go_wp2_with (at_builtin; refine wpList_append_own _ rfl _ _ 144 rfl z0 90 j0 (.agg #[.int .i64 0, .int .u32 0]) 2 16 Tryz.underlying144 hj hy0 hy1 hy2 rfl (by decide) _ 0 [] rfl (World.ownsRow_nil _ _ _ _) ⟨w8.heap.size, 0, none⟩ 1 1 [.int .i64 (b : Nat), .int .u32 (r : Nat)] rfl rfl ?q1 ?q2 ?q3 ?q4 ?q5 ?_)
  case q1 => exact World.news_of_block (cs := #[.int .i64 (b : Nat), .int .u32 (r : Nat)]) (heap_alloc_new _ _)
  case q2 => simp [Value.oneCell']
  case q3 => simp [maxLen]
  case q4 => omega
  case q5 => simp; omega
  intro v9 w9 hown9 hg9 hnil9
  have HB9 : Hid (Below z0 w w9) := hidI ((HB8.out.alloc hz8 _).grown hg9 (by simp; omega) (fun k e => by cases e))
  have HO9 : Hid (w9.ownsRow z0 90 2 v9 1 (lbs [(b, r)])) := hidI (by simpa [lbs] using hown9)
  clear hown9 hg9 hnil9
  go_wp2
  rw [rounds_succ]
  go_wp2
  rw [rounds_succ]
  go_wp2
  go_ret
  exact ⟨v9, rfl, HO9.out, HB9.out⟩
end Go.Proofs.YtodmdkhdbfbfgaaGreatDoor.S1
namespace Go.Proofs
open Go.Shelf
def Tryz.lays169_ren : Go.Shelf.Ren := ⟨fun | 169 => 137 | n => n, fun | 70 => 191 | 9 => 9 | 0 => 0 | 72 => 193 | 37 => 111 | 127 => 242 | 3 => 3 | 5 => 5 | n => n, fun | n => n⟩
theorem Tryz.lays169 : Go.Proofs.Lays.n169 Tryz.prog Tryz.lays169_ren := {
 mixed := by kernel_rfl
 f169 := Tryz.func137.trans (congrArg some (by kernel_rfl))
 t0 := Tryz.underlying0
 a0 := Tryz.isAgg0
 z0 := Tryz.sizeOf0
 v0 := Tryz.zeroValue0
 t3 := Tryz.underlying3
 a3 := Tryz.isAgg3
 z3 := Tryz.sizeOf3
 v3 := Tryz.zeroValue3
 t9 := Tryz.underlying9
 a9 := Tryz.isAgg9
 z9 := Tryz.sizeOf9
 v9 := Tryz.zeroValue9
 t37 := Tryz.underlying111
 a37 := Tryz.isAgg111
 z37 := Tryz.sizeOf111
 v37 := Tryz.zeroValue111
 t70 := Tryz.underlying191
 a70 := Tryz.isAgg191
 z70 := Tryz.sizeOf191
 v70 := Tryz.zeroValue191
 t72 := Tryz.underlying193
 a72 := Tryz.isAgg193
 z72 := Tryz.sizeOf193
 v72 := Tryz.zeroValue193
 t127 := Tryz.underlying242
 a127 := Tryz.isAgg242
 z127 := Tryz.sizeOf242
 v127 := Tryz.zeroValue242 }
theorem Tryz.Builder_Extra_169 : Builder.Extra Tryz.prog Tryz.lays169_ren := {
 sizeBuilder := by kernel_rfl
 liesBuilder := by kernel_rfl
 t5 := Tryz.underlying5
 a5 := Tryz.isAgg5
 z5 := Tryz.sizeOf5
 v5 := Tryz.zeroValue5
 infoByte := by kernel_rfl
 cellsByte := by kernel_rfl
 sizeByte := by kernel_rfl
 neB5 := by decide }
open Go.RowKit in
theorem Tryz.Builder_String_any_k (B b : Nat) (l : List UInt8) (w : World) (h : Lib.IsBuilderF 193 5 B b (Lib.byteCells l) w) (hBw : B ≤ w.heap.size) :
 Calls Tryz.prog 137 #[.pointer (some ⟨b, 0, none⟩)] w fun e w' => e = .returned (.string ⟨l.toArray⟩) ∧ (Lib.IsBuilderF 193 5 B b (Lib.byteCells l) w' ∧ Below B w w' ∧ Lib.OthersKept 5 (some b) w w') := Any.Builder_String_any_k Tryz.lays169 Tryz.Builder_Extra_169 B b l w h hBw
end Go.Proofs
namespace Go.Proofs.YtodmdkhdbfbfgaaGreatDoor
open Go.RowKit Go.Nt
set_option linter.unusedVariables false
set_option linter.unusedSimpArgs false
theorem sizeB : (Tryz.prog.info? 193).map (·.size) = some 2 := by kernel_rfl
theorem liesB : liesAt Tryz.prog Tryz.prog.depth 193 (2 / Tryz.prog.cellsOf 193) 0 193 1 = true := by kernel_rfl
theorem copyCheck_fresh (b : Nat) (w : World) (h0 : w.cell? ⟨b, 0, none⟩ = some (.pointer none)) (hf : w.frozen? ⟨b, 0, none⟩ = false) (hsh : w.shape? b = some (193, 2)) :
 Calls Tryz.prog 199 #[.pointer (some ⟨b, 0, none⟩)] w fun e w' => e = .returned (.tuple #[]) ∧ w' = w.setCell ⟨b, 0, none⟩ (.pointer (some ⟨b, 0, none⟩)) := by
 obtain ⟨j, hj, hjs⟩ := Option.map_eq_some_iff.1 sizeB
 have k1 := Lib.run_to_unsafe (P := Tryz.prog) w ⟨b, 0, none⟩ Tryz.underlying191 Tryz.underlying285 hj (by rw [hjs]; decide) hsh (Nat.zero_lt_succ 1)
 have k2 := Lib.run_from_unsafe (P := Tryz.prog) w ⟨b, 0, none⟩ Tryz.underlying285 Tryz.underlying191 hj hsh liesB
 clear hj hjs
 go_enter Tryz.func199, Tryz.ntmps199
 go_wp2
 rw [run_callFunc_extern Tryz.func251 (by kernel_rfl) (by kernel_rfl) (by kernel_rfl) (e := Extern.AbiNoEscape.same) (by kernel_rfl)]
 rw [Lib.run_noEscape]
 simp only [Result.andThen]
 rw [Oper.upon_value]
 go_wp2
 go_end0
 exact ⟨rfl, rfl⟩
theorem copyCheck_used (b : Nat) (w : World) (h0 : w.cell? ⟨b, 0, none⟩ = some (.pointer (some ⟨b, 0, none⟩))) :
 Calls Tryz.prog 199 #[.pointer (some ⟨b, 0, none⟩)] w fun e w' => e = .returned (.tuple #[]) ∧ w' = w := by
 obtain ⟨j, hj, hjs⟩ := Option.map_eq_some_iff.1 sizeB
 have k1 := Lib.run_neq_ptr_same (P := Tryz.prog) w ⟨b, 0, none⟩ Tryz.underlying191 hj
 clear hj hjs
 go_enter Tryz.func199, Tryz.ntmps199
 go_wp2
 go_end0
 exact ⟨rfl, rfl⟩
def BdAt (w : World) (b : Nat) (l : Bs) : Prop := ∃ p v, w.heap[b]? = some (.cells #[p, v] 193 (0, 0)) ∧ (p = .pointer none ∨ p = .pointer (some ⟨b, 0, none⟩)) ∧ Bytes w (b + 1) v l
theorem BdAt.lib {w : World} {b : Nat} {l : Bs} (h : BdAt w b l) : Lib.IsBuilderF 193 5 b b (Lib.byteCells l) w := by
 obtain ⟨p, v, hb, hp, hv⟩ := h
 have hown : w.ownsRow b 5 1 v (bv l).length (bv l) := by
  have h1 := hv
  unfold Bytes at h1
  rw [bv_length]
  refine ⟨h1.1, ?_⟩
  rcases h1.2 with h2 | ⟨g, cap, cur, e, hg, h3⟩
  ·exact .inl h2
  ·exact .inr ⟨g, cap, cur, e, by omega, h3⟩
 have hne : v.ownBlock ≠ some b := by
  intro e
  have := (World.ownsRow.lt hv b e).1
  omega
 have hB : Lib.byteCells l = bv l := rfl
 rw [hB]
 rcases hp with rfl | rfl
 ·exact .inl ⟨Nat.le_refl _, v, hb, World.ownsRowF_of hown, hne⟩
 ·exact .inr ⟨Nat.le_refl _, v, hb, World.ownsRowF_of hown, hne⟩
theorem BdAt.of_blocks {w w' : World} {b : Nat} {l : Bs} (h : BdAt w b l) (hk : But 90 w w' ∨ ∀ k, k < w.heap.size → w'.heap[k]? = w.heap[k]?) : BdAt w' b l := by
 obtain ⟨p, v, hb, hp, hv⟩ := h
 rcases hk with hk | hk
 ·refine ⟨p, v, hk.cells hb (by decide), hp, hv.1, ?_⟩
  rcases hv.2 with h2 | ⟨g, cap, cur, e, hg, h3, h4⟩
  ·exact .inl h2
  ·exact .inr ⟨g, cap, cur, e, hg, hk.cells h3 (by decide), h4⟩
 ·refine ⟨p, v, (hk b (lt_of_heap hb)).trans hb, hp, hv.1, ?_⟩
  rcases hv.2 with h2 | ⟨g, cap, cur, e, hg, h3, h4⟩
  ·exact .inl h2
  ·exact .inr ⟨g, cap, cur, e, hg, (hk g (lt_of_heap h3)).trans h3, h4⟩
def BdKept (b : Nat) (w w' : World) : Prop := w'.os = w.os ∧ w'.tape = w.tape ∧ w'.output = w.output ∧ w.heap.size ≤ w'.heap.size ∧ ∀ (k : Nat) (o : Obj), w.heap[k]? = some o → k ≠ b → isOf 5 o = false → w'.heap[k]? = some o
theorem writeString_any (b : Nat) (l : Bs) (s : Bs) (w : World) (h : BdAt w b l) (hl : l.length ≤ 100000000) (hs : s.length ≤ 100000000) :
 Calls Tryz.prog 136 #[.pointer (some ⟨b, 0, none⟩), .string (txt s)] w fun e w' => (∃ v, e = .returned v) ∧ BdAt w' b (l ++ s) ∧ BdKept b w w' ∧ Below b w w' := by
 obtain ⟨i0, hi, hz0, hz1, hz2⟩ := info_parts Tryz.info5
 obtain ⟨p, v, hb, hp, hv⟩ := h
 have hbl := lt_of_heap hb
 obtain ⟨X, hX⟩ : ∃ X, X = txt s := ⟨_, rfl⟩
 have Sx : X.size = s.length := by rw [hX, txt_size]
 rw [← hX]
 have HX := hidI hX
 have HS := hidI Sx
 have hX9 : X.size ≤ 100000000 := by omega
 have A : Hid (Calls Tryz.prog 199 #[.pointer (some ⟨b, 0, none⟩)] w fun e w' => e = .returned (.tuple #[]) ∧ w'.heap[b]? = some (.cells #[.pointer (some ⟨b, 0, none⟩), v] 193 (0, 0)) ∧ (∀ k, k ≠ b → w'.heap[k]? = w.heap[k]?) ∧ w'.heap.size = w.heap.size ∧ w'.os = w.os ∧ w'.tape = w.tape ∧ w'.output = w.output) := by
  refine hidI ?_
  rcases hp with rfl | rfl
  ·refine (copyCheck_fresh b w (by rw [cell_of_row w b 0 _ 193 (0, 0) hb]; rfl) (frozen_of_row w b 0 _ 193 hb) (by simp [World.shape?, hb])).mono ?_
   rintro e w' ⟨rfl, rfl⟩
   exact ⟨rfl, heap_setCell_same w b 0 _ 193 _ hb, fun k hk => Below.heap_setCell w ⟨b, 0, none⟩ _ k hk, by simp, rfl, rfl, rfl⟩
  ·refine (copyCheck_used b w (by rw [cell_of_row w b 0 _ 193 (0, 0) hb]; rfl)).mono ?_
   rintro e w' ⟨rfl, rfl⟩
   exact ⟨rfl, hb, fun _ _ => rfl, rfl, rfl, rfl, rfl⟩
 obtain ⟨n, hn⟩ : ∃ n, n = l.length := ⟨_, rfl⟩
 have Hn := hidI hn
 have Hv := hidI hv
 have hn9 : n ≤ 100000000 := by omega
 clear hb hp hv hX Sx hn
 go_enter Tryz.func136, Tryz.ntmps136
 go_wp2_with fail
 refine A.out.mono ?_
 rintro e W1 ⟨rfl, hb1, hk1, hs1, ho1, ht1, hu1⟩
 have hv1 : W1.ownsRow (b + 1) 5 1 v n (bv l) := by
  have h1 := Hv.out
  unfold Bytes at h1
  rw [← Hn.out] at h1
  refine ⟨h1.1, ?_⟩
  rcases h1.2 with h2 | ⟨g, cap, cur, e, hg, h3, h4⟩
  ·exact .inl h2
  ·exact .inr ⟨g, cap, cur, e, hg, (hk1 g (by omega)).trans h3, h4⟩
 have c1 : W1.cell? ⟨b, 1, none⟩ = some v := by rw [cell_of_row W1 b 1 _ 193 (0, 0) hb1]; rfl
 have Ho := hidI hv1
 have Hb1 := hidI hb1
 obtain ⟨a9, c9, rfl⟩ := Bytes.slice (w := W1) (B := b + 1) (v := v) (l := l) (by unfold Bytes; rw [← Hn.out]; exact hv1)
 rw [← Hn.out] at Ho c1 Hb1
 have hK1 := hidI (And.intro hk1 (And.intro hs1 (And.intro ho1 (And.intro ht1 hu1))))
 clear A hk1 hb1 hv1 hs1 ho1 ht1 hu1
 go_wp2_with (at_builtin; refine Lib.wpList_append_own_string _ rfl (.tmp 12) (.tmp 13) 111 9 rfl (b + 1) 5 i0 Tryz.underlying111 Tryz.underlying9 hi hz0 hz1 hz2 _ _ _ rfl Ho.out X rfl ?c3 ?c4 ?c5 ?_)
 case c3 => unfold maxLen; omega
 case c4 => omega
 case c5 => have := hK1.out.2.1; omega
 intro v2 W2 hown2 hgrow2 _
 have hbl1 : b < W1.heap.size := lt_of_heap Hb1.out
 have hne : b ≠ b + 1 := by omega
 have hb2 : W2.heap[b]? = some (.cells #[.pointer (some ⟨b, 0, none⟩), .slice a9 n c9] 193 (0, 0)) := (hgrow2.block b hbl1 (fun e => by have := (World.ownsRow.lt Ho.out b e.symm).1; omega)).trans Hb1.out
 have hY2 : Bytes W2 (b + 1) v2 (l ++ s) := by
  unfold Bytes
  have h1 := HX.out
  have h2 := Hn.out
  have h3 := HS.out
  rw [bv_append, List.length_append, ← h2, ← h3, ← bv_str s, ← h1]
  exact hown2
 obtain ⟨a2, c2, rfl⟩ := hY2.slice
 have d1 : W2.cell? ⟨b, 1, none⟩ = some (.slice a9 n c9) := by rw [cell_of_row W2 b 1 _ 193 (0, 0) hb2]; rfl
 have f1 := frozen_of_row W2 b 1 _ 193 hb2
 obtain ⟨ns, hns⟩ : ∃ ns, ns = (l ++ s).length := ⟨_, rfl⟩
 rw [← hns] at hY2
 rw [show (l ++ s).length = ns from hns.symm] at hown2 ⊢
 obtain ⟨W3, hW3⟩ : ∃ W3, W3 = W2.setCell ⟨b, 1, none⟩ (.slice a2 ns c2) := ⟨_, rfl⟩
 have hb3 : W3.heap[b]? = some (.cells #[.pointer (some ⟨b, 0, none⟩), .slice a2 ns c2] 193 (0, 0)) := by rw [hW3]; exact heap_setCell_same _ b 1 _ 193 _ hb2
 have eo : ∀ k, k ≠ b → W3.heap[k]? = W2.heap[k]? := fun k hk => by rw [hW3]; exact Below.heap_setCell W2 ⟨b, 1, none⟩ _ k hk
 have HB3 : Hid (BdAt W3 b (l ++ s)) := hidI ⟨_, _, hb3, .inr rfl, hY2.1, by
  rcases hY2.2 with h2 | ⟨g, cap, cur, e, hg, h3, h4⟩
  ·exact .inl h2
  ·exact .inr ⟨g, cap, cur, e, hg, (eo g (by omega)).trans h3, h4⟩⟩
 obtain ⟨q1, q2, q3, q4, q5⟩ := hK1.out
 have hsz3 : w.heap.size ≤ W3.heap.size := by rw [hW3]; have := hgrow2.size; simp; omega
 have HK3 : Hid (BdKept b w W3) := hidI ⟨by rw [hW3]; exact hgrow2.os.trans q3, by rw [hW3]; exact hgrow2.tape.trans q4, by rw [hW3]; exact hgrow2.output.trans q5, hsz3, fun k o hk hkb ho => by
  rw [eo k hkb]
  have hk1 := (q1 k hkb).trans hk
  refine (hgrow2.block k (lt_of_heap hk1) (fun e => ?_)).trans hk1
  rcases Ho.out.2 with ⟨hv, _⟩ | ⟨g, cap, cur, hv, _, hh, _⟩
  ·cases hv; cases e
  ·cases hv
   cases e
   rw [hh] at hk1
   cases hk1
   simp [isOf] at ho⟩
 have HL3 : Hid (Below b w W3) := hidI ⟨HK3.out.1, HK3.out.2.1, HK3.out.2.2.1, hsz3, fun k hk => by
  rw [eo k (by omega)]
  refine (hgrow2.block k (by omega) (fun e => ?_)).trans (q1 k (by omega))
  have := (World.ownsRow.lt Ho.out k e.symm).1
  omega⟩
 have HW3 := hidI hW3
 clear hown2 hgrow2 hY2 hb2 hb3 eo q1 q2 q3 q4 q5 hW3 hsz3 hns
 go_wp2_with (first | (rw [← HW3.out]) | fail)
 go_ret2
 exact ⟨⟨_, rfl⟩, HB3.out, HK3.out, HL3.out⟩
end Go.Proofs.YtodmdkhdbfbfgaaGreatDoor
