/- What isPath returns: whether a text is a path. -/
import Derived.Test.YtodmdkhdbfbfgaaDoorSeq
import Derived.Test.YtodmdkhdbfbfgaaDoorName
import Derived.Test.YtodmdkhdbfbfgaaDoorAdd
namespace Go.Proofs.YtodmdkhdbfbfgaaDoor
open Go.RowKit Go.Nt Go.Shelf
set_option linter.unusedVariables false
attribute [local go_sem] Oper.semAt_some

/-- The library's own number that its searches ask for is there. -/
def ML (w : World) : Prop := ∃ m : Int, w.cell? ⟨0, 0, none⟩ = some (.int .i64 m)
theorem ML.lt {w : World} (h : ML w) : 0 < w.heap.size := by obtain ⟨m, hm⟩ := h; exact World.block_lt_of_cell? w _ hm
theorem ML.below {w w' : World} {B : Nat} (h : ML w) (hb : Below B w w') (hB : 0 < B) : ML w' := by
  obtain ⟨m, hm⟩ := h
  exact ⟨m, (hb.cell (p := ⟨0, 0, none⟩) hB).trans hm⟩
theorem ML.drewN {w : World} (h : ML w) (q : Nat) : ML (w.drewN q) := by
  obtain ⟨m, hm⟩ := h
  exact ⟨m, by rw [← hm]; exact World.cell?_of_block (by simp)⟩

theorem cellsOf_get {ps : List ByteArray} {N k : Nat} {x : ByteArray} (h : ps[k]? = some x) : (Lib.cellsOf ps N)[k]? = some (.string x) := by
  unfold Lib.cellsOf
  have hk : k < ps.length := (List.getElem?_eq_some_iff.1 h).1
  rw [List.getElem?_toArray, List.getElem?_append_left (by simpa using hk), List.getElem?_map, h]
  rfl

theorem deep_any (p : Bs) (w : World) (hp : p.length ≤ 1048576) : Calls Tryd.prog 33 #[.string (txt p)] w fun e w' => e = .returned (.int .i64 ((split p).length : Nat)) ∧ w' = w := by
  have HC := hidI (count_any (txt p) w)
  have hc : Lib.countByte (txt p).data.toList 47 = p.count 47 := rfl
  rw [hc] at HC
  have hl : p.count 47 ≤ p.length := List.count_le_length
  have Hs := hidI (split_cnt p)
  obtain ⟨k, hk⟩ : ∃ k, k = p.count 47 := ⟨_, rfl⟩
  rw [← hk] at HC Hs hl
  clear hk hc
  go_enter Tryd.func33, Tryd.ntmps33
  go_wp2_with (go_at_call 41; refine HC.out.mono ?_; rintro e w' ⟨rfl, hw⟩; have hw' := hw.symm; subst hw'; clear hw)
  go_ret
  rw [Hs.out]
  exact ⟨by go_num, rfl⟩

theorem splitSeq_any (s : ByteArray) (w : World) : Calls Tryd.prog 42 #[.string s, .string ⟨#[47]⟩, .int .i64 0] w fun e w' => e = .returned (.func (.func 59) #[] #[.pointer (some ⟨w.heap.size + 1, 0, none⟩), .pointer (some ⟨w.heap.size, 0, none⟩), .pointer (some ⟨w.heap.size + 2, 0, none⟩)]) ∧ w' = ((w.alloc (.cells #[.string s] 9)).alloc (.cells #[.string ⟨#[47]⟩] 9)).alloc (.cells #[.int .i64 0] 3) := by
  go_enter Tryd.func42, Tryd.ntmps42
  go_wp2
  go_ret
  exact ⟨rfl, rfl⟩

theorem SplitSeq_any (s : ByteArray) (w : World) : Calls Tryd.prog 34 #[.string s, .string ⟨#[47]⟩] w fun e w' => e = .returned (.func (.func 59) #[] #[.pointer (some ⟨w.heap.size + 1, 0, none⟩), .pointer (some ⟨w.heap.size, 0, none⟩), .pointer (some ⟨w.heap.size + 2, 0, none⟩)]) ∧ w' = ((w.alloc (.cells #[.string s] 9)).alloc (.cells #[.string ⟨#[47]⟩] 9)).alloc (.cells #[.int .i64 0] 3) := by
  go_enter Tryd.func34, Tryd.ntmps34
  go_wp2_with (go_at_call 42; refine (splitSeq_any _ _).mono ?_; rintro e w' ⟨rfl, hw⟩; have hw' := hw.symm; subst hw'; clear hw)
  go_ret
  exact ⟨rfl, rfl⟩

theorem okPath_all {p : Bs} (h6 : (split p).length ≤ 6) : okPath p = (split p).all okName := by
  unfold okPath
  simp [h6]

set_option maxRecDepth 100000 in
set_option maxHeartbeats 2000000 in
theorem isPath_any (p : Bs) (w : World) (hm : ML w) (hp : p.length ≤ 1048576) :
    Calls Tryd.prog 26 #[.string (txt p)] w fun e w' => Below w.heap.size w w' ∧ e = .returned (.bool (okPath p)) := by
  refine (callsIn_wide (n := 5)).1 ?_
  refine callsIn_of_wp_marks Tryd.func26 rfl trivial ?_ rfl
  simp only [Tryd.ntmps26, List.size_toArray, List.length_cons, List.length_nil, Nat.reduceAdd, Nat.reduceSub, Array.replicate_succ, Array.replicate_zero, List.push_toArray, List.append_toArray, List.nil_append, List.cons_append]
  have HD := hidI (fun W => deep_any p W hp)
  gi_wp2
  refine ⟨trivial, (callsIn_wide.2 (HD.out _)).mono ?_⟩
  rintro e w' ⟨rfl, hw⟩
  have hw' := hw.symm
  subst hw'
  clear hw
  obtain ⟨L, hL⟩ : ∃ L, L = (split p).length := ⟨_, rfl⟩
  have HL := hidI hL
  rw [← hL]
  clear hL
  by_cases h6 : L ≤ 6
  · gi_wp2
    refine ⟨trivial, (callsIn_wide.2 (SplitSeq_any _ _)).mono ?_⟩
    rintro e w' ⟨rfl, hw⟩
    have hw' := hw.symm
    subst hw'
    clear hw
    gi_wp2
    obtain ⟨W0, hW0⟩ : ∃ W0, W0 = (((w.alloc (.cells #[.bool false] 4)).alloc (.cells #[.string (txt p)] 9)).alloc (.cells #[.string ⟨#[47]⟩] 9)).alloc (.cells #[.int .i64 0] 3) := ⟨_, rfl⟩
    have hs0 : W0.heap.size = w.heap.size + 4 := by rw [hW0]; simp
    have b0 : W0.heap[w.heap.size]? = some (.cells #[.bool false] 4 (0, 0)) := by
      rw [hW0]; exact (((Below.heap_alloc _ _ _ (by simp; omega)).trans (Below.heap_alloc _ _ _ (by simp; omega))).trans (Below.heap_alloc _ _ _ (by simp))).trans (World.alloc_heap_new w _)
    have b1 : W0.heap[w.heap.size + 1]? = some (.cells #[.string (txt p)] 9 (0, 0)) := by
      rw [hW0]; refine ((Below.heap_alloc _ _ _ (by simp)).trans (Below.heap_alloc _ _ _ (by simp))).trans ?_
      have := World.alloc_heap_new (w.alloc (.cells #[.bool false] 4)) (.cells #[.string (txt p)] 9); rwa [World.size_alloc] at this
    have b2 : W0.heap[w.heap.size + 1 + 1]? = some (.cells #[.string ⟨#[47]⟩] 9 (0, 0)) := by
      rw [hW0]; refine (Below.heap_alloc _ _ _ (by simp)).trans ?_
      have := World.alloc_heap_new ((w.alloc (.cells #[.bool false] 4)).alloc (.cells #[.string (txt p)] 9)) (.cells #[.string ⟨#[47]⟩] 9); rwa [World.size_alloc, World.size_alloc] at this
    have b3 : W0.heap[w.heap.size + 1 + 2]? = some (.cells #[.int .i64 0] 3 (0, 0)) := by
      rw [hW0]
      have := World.alloc_heap_new (((w.alloc (.cells #[.bool false] 4)).alloc (.cells #[.string (txt p)] 9)).alloc (.cells #[.string ⟨#[47]⟩] 9)) (.cells #[.int .i64 0] 3); rwa [World.size_alloc, World.size_alloc, World.size_alloc] at this
    have hB0 : Below w.heap.size w W0 := by rw [hW0]; exact ((((Below.refl _ w).alloc (Nat.le_refl _) _).alloc (by simp) _).alloc (by simp; omega) _).alloc (by simp; omega) _
    rw [← hW0]
    clear hW0
    refine wpIn_rangeBox rfl (by decide) (gf := 59) (lb := #[.pointer (some ⟨w.heap.size + 1 + 1, 0, none⟩), .pointer (some ⟨w.heap.size + 1, 0, none⟩), .pointer (some ⟨w.heap.size + 1 + 2, 0, none⟩)]) rfl trivial (enters_of Tryd.func59 (by kernel_rfl) rfl)
      (splitSeq_box 4 (w.heap.size + 1) W0.heap.size p W0 hp (by omega) (Nat.le_refl _) b1 b2 b3) (by omega) rfl
      (fun pre W => (∀ y ∈ pre, okName y = true) ∧ W.heap[w.heap.size]? = some (.cells #[.bool false] 4 (0, 0)) ∧ Below w.heap.size w W)
      (fun pre W => (∃ y ∈ pre, okName y = false) ∧ W.heap[w.heap.size]? = some (.cells #[.bool false] 4 (0, 0)) ∧ Below w.heap.size w W)
      (fun s A C row hs hg hr => ⟨hs.1, (hg.block _ (lt_of_heap hs.2.1) (fun e => by have := (hr _ e.symm).1; omega)).trans hs.2.1, hs.2.2.grown hg hs.2.2.size (fun k e => by have := (hr k e).1; omega)⟩)
      ⟨fun s A v hs => ⟨hs.1, (Below.heap_setCell A ⟨w.heap.size + 1, 0, none⟩ v _ (by simp)).trans hs.2.1, hs.2.2.setCell (p := ⟨w.heap.size + 1, 0, none⟩) (by simp) _⟩, fun s A q hs => ⟨hs.1, hs.2.1, ⟨hs.2.2.os, hs.2.2.tape, hs.2.2.output, hs.2.2.size, hs.2.2.block⟩⟩⟩
      (fun s A C row hs hg hr => ⟨hs.1, (hg.block _ (lt_of_heap hs.2.1) (fun e => by have := (hr _ e.symm).1; omega)).trans hs.2.1, hs.2.2.grown hg hs.2.2.size (fun k e => by have := (hr k e).1; omega)⟩)
      ⟨fun s A v hs => ⟨hs.1, (Below.heap_setCell A ⟨w.heap.size + 1, 0, none⟩ v _ (by simp)).trans hs.2.1, hs.2.2.setCell (p := ⟨w.heap.size + 1, 0, none⟩) (by simp) _⟩, fun s A q hs => ⟨hs.1, hs.2.1, ⟨hs.2.2.os, hs.2.2.tape, hs.2.2.output, hs.2.2.size, hs.2.2.block⟩⟩⟩
      ⟨by simp, b0, hB0⟩
      (fun x => { tmps := #[.string (txt p), undef, .pointer (some ⟨w.heap.size, 0, none⟩), .string (txt x), .string (txt p), .int .i64 L, .bool (decide (6 < (L : Int))), .string (txt p), .func (.func 59) #[] #[.pointer (some ⟨w.heap.size + 1 + 1, 0, none⟩), .pointer (some ⟨w.heap.size + 1, 0, none⟩), .pointer (some ⟨w.heap.size + 1 + 2, 0, none⟩)], .string (txt x), undef, undef, undef], defers := [] }) ?assign ?body ?done ?stop
    case assign =>
      intro l x W K hK
      gi_wp2
      exact hK
    case body =>
      rintro l pre x W ⟨hok, hblk, hB⟩ hpre hle
      have hmem : x ∈ split p := hpre.subset (by simp)
      have HN := hidI (isName_any x W (split_no47 p x hmem) (by have := split_le p x hmem; omega))
      have Hok := hidI hok
      clear hok hpre hmem
      obtain ⟨o, ho⟩ : ∃ o, o = okName x := ⟨_, rfl⟩
      rw [← ho] at HN
      have Ho := hidI ho
      clear ho
      gi_wp2
      refine ⟨trivial, (CallsIn.inRound l (callsIn_wide.2 HN.out)).mono ?_⟩
      rintro e W' ⟨hb, rfl⟩
      have hblk' : W'.heap[w.heap.size]? = some (.cells #[.bool false] 4 (0, 0)) := (hb.block _ (lt_of_heap hblk)).trans hblk
      have hc' : W'.cell? ⟨w.heap.size, 0, none⟩ = some (.bool false) := by rw [cell_of_row W' w.heap.size 0 _ 4 (0, 0) hblk']; rfl
      have hf' : W'.frozen? ⟨w.heap.size, 0, none⟩ = false := frozen_of_row W' w.heap.size 0 _ 4 hblk'
      have hb' : Below w.heap.size w W' := hB.trans (hb.mono hB.size)
      have Hblk := hidI hblk'
      have Hb := hidI hb
      have Hb' := hidI hb'
      clear hblk' hb hb' hblk
      cases o with
      | true =>
        gi_wp2
        exact ⟨⟨Hb.out.size, fun k o _ hk _ => (Hb.out.block k (lt_of_heap hk)).trans hk⟩, Hb.out.mono hle, fun y hy => (List.mem_append.1 hy).elim (Hok.out y) (fun e => by simp at e; subst e; exact Ho.out.symm), Hblk.out, Hb'.out⟩
      | false =>
        gi_wp2
        refine ⟨⟨by simpa using Hb.out.size, fun k o hk0 hk ho => (Below.heap_setCell W' ⟨w.heap.size, 0, none⟩ _ k (by simp; omega)).trans ((Hb.out.block k (lt_of_heap hk)).trans hk)⟩, ⟨x, by simp, Ho.out.symm⟩, heap_setCell_same W' w.heap.size 0 _ 4 (.bool false) Hblk.out, Hb'.out.setCell (p := ⟨w.heap.size, 0, none⟩) (by simp) _⟩
    case done =>
      rintro D W hD ⟨hok, hblk, hB⟩ hK
      have hc' : W.cell? ⟨w.heap.size, 0, none⟩ = some (.bool false) := by rw [cell_of_row W w.heap.size 0 _ 4 (0, 0) hblk]; rfl
      have hf' : W.frozen? ⟨w.heap.size, 0, none⟩ = false := frozen_of_row W w.heap.size 0 _ 4 hblk
      have HR : Hid (okPath p = true) := hidI (by rw [okPath_all (by have := HL.out; omega)]; exact List.all_eq_true.2 hok)
      have Hblk := hidI hblk
      have HB := hidI hB
      have HK := hidI hK
      clear hok hblk hB hK
      gi_wp2
      have hK' : (W.setCell ⟨w.heap.size, 0, none⟩ (.bool true)).heap[D]? = some (.deferred (some [])) := (Below.heap_setCell W ⟨w.heap.size, 0, none⟩ _ D (by simp; omega)).trans HK.out
      refine ⟨by simp, .inl ⟨_, _, rfl, run_takeDeferred hK', ?_⟩⟩
      have hs := heap_setCell_same W w.heap.size 0 _ 4 (.bool true) Hblk.out
      have hc5 := cell_kept (World.cell?_setCell_same' W ⟨w.heap.size, 0, none⟩ (.bool true) (by rw [hc']; rfl)) (grownBy_putObj' _ D (.deferred none)) (fun r e => by cases e; exact ⟨_, hK', rfl⟩)
      refine ⟨.bool true, ?_, (HB.out.setCell (p := ⟨w.heap.size, 0, none⟩) (by simp) _).trans (belowK_b (w := w) (Nat.le_refl _) _ D _ _ (by omega) hK' rfl rfl), by rw [HR.out]⟩
      simp [results, Tryd.f26, go_sem, hc5]
    case stop =>
      rintro D pre W hD hpre ⟨⟨y, hy, hno⟩, hblk, hB⟩ hK
      have HR : Hid (okPath p = false) := hidI (by
        rw [okPath_all (by have := HL.out; omega)]
        cases h : (split p).all okName with
        | false => rfl
        | true => have := List.all_eq_true.1 h y (hpre.subset hy); rw [hno] at this; cases this)
      have hc' : W.cell? ⟨w.heap.size, 0, none⟩ = some (.bool false) := by rw [cell_of_row W w.heap.size 0 _ 4 (0, 0) hblk]; rfl
      have HB := hidI hB
      have HK := hidI hK
      clear hy hno hpre hblk hB hK
      gi_wp2
      refine ⟨by simp, .inl ⟨_, _, rfl, run_takeDeferred HK.out, ?_⟩⟩
      have hc5 := cell_kept hc' (grownBy_putObj' _ D (.deferred none)) (fun r e => by cases e; exact ⟨_, HK.out, rfl⟩)
      refine ⟨.bool false, ?_, HB.out.trans (belowK_b (w := w) (Nat.le_refl _) W D _ _ (by omega) HK.out rfl rfl), by rw [HR.out]⟩
      simp [results, Tryd.f26, go_sem, hc5]
  · have HR : Hid (okPath p = false) := hidI (by unfold okPath; have := HL.out; simp; intro h; omega)
    gi_wp2
    refine ⟨.bool false, ?_, (Below.refl _ w).alloc (Nat.le_refl _) _, by rw [HR.out]⟩
    simp [results, Tryd.f26, go_sem]
end Go.Proofs.YtodmdkhdbfbfgaaDoor
