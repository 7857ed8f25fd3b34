/- Lemmas and contracts for kept. -/
import Derived.Laws.MakeOwn
import Derived.Maps.AppendAt
import Derived.RowKit
import Derived.Test.YtodmdkhdbfbfgaaGreatDoorM01
import Derived.Test.YtodmdkhdbfbfgaaGreatDoorM03
import Derived.Test.YtodmdkhdbfbfgaaGreatDoorM00
set_option maxRecDepth 100000
set_option maxHeartbeats 8000000
namespace Go.Proofs.YtodmdkhdbfbfgaaGreatDoor
open Go.RowKit Go.Nt Go.Sort Go.Lib Go.Shelf
set_option linter.unusedVariables false
abbrev Sh := { s : Bs // s.length ≤ 1048576 }
instance : Inhabited Sh := ⟨⟨[], by simp⟩⟩
def encSh : Sh → Value := fun s => encStr s.1
def cfSh (a b : Sh) : Int := cmpN (split a.1) (split b.1)
theorem lt_cf (a b : Sh) : ltOf cfSh a b = less a.1 b.1 := cmpN_less a.1 b.1
theorem swo_cf : SWO (ltOf cfSh) where
 irrefl x := by rw [lt_cf, less_irrefl]
 trans x y z h1 h2 := by rw [lt_cf] at *; exact less_trans _ _ _ h1 h2
 ntrans x y z h1 h2 := by
  rw [lt_cf] at *
  cases h : less x.1 z.1 with
  | false => rfl
  | true =>
    cases h3 : less y.1 x.1 with
    | true => have := less_trans _ _ _ h3 h; rw [h2] at this; cases this
    | false => have e := less_total _ _ h1 h3; rw [e, h2] at h; cases h
theorem tot_cf (x y : Sh) (h1 : ltOf cfSh x y = false) (h2 : ltOf cfSh y x = false) : x = y := by
 rw [lt_cf] at *
 exact Subtype.ext (less_total _ _ h1 h2)
theorem putRow_sh (w : World) (b o : Nat) (d : Array Sh) : putRow encSh w b o d = putRow encStr w b o (d.map (·.1)) := by
 unfold putRow
 congr 1
 funext c
 unfold putCells
 apply Array.ext
 ·simp
 ·intro i h1 h2
  simp only [Array.getElem_mapIdx, Array.size_map]
  split
  ·rename_i h
   have hi : i - o < d.size := by omega
   rw [getElem!_pos d _ hi, getElem!_pos (d.map (·.1)) _ (by simpa using hi)]
   simp [encSh]
  ·rfl
def sortP (ss : List Bs) : List Bs := ss.mergeSort fun x y => !less y x
theorem sort_sh (ds : List Sh) : (ds.mergeSort fun x y => !(ltOf cfSh) y x).map (·.1) = sortP (ds.map (·.1)) := by
 unfold sortP
 have h := List.map_mergeSort (f := fun s : Sh => s.1) (r := fun x y => !(ltOf cfSh) y x) (s := fun x y => !less y x) (l := ds) (fun a _ b _ => by rw [lt_cf])
 exact h
theorem ml_sorted {w : World} (h : ML w) (hd : ∀ c e fr, w.heap[0]? ≠ some (.cells c e fr) ∨ True) {g n : Nat} {d : Array Bs} {os : Array Obj} (hg : g ≠ 0) : ML (grow (putRow encStr (Sort.ahead w n) g 0 d) os) := by
 obtain ⟨m, hm⟩ := h
 have h0 : 0 < w.heap.size := World.block_lt_of_cell? w _ hm
 refine ⟨m, ?_⟩
 rw [← hm]
 refine World.cell?_of_block ?_
 exact (grownBy_sorted (w := w) (g := g) (n := n) (os := os) d).block 0 h0 (fun e => hg (by cases e; rfl))
theorem cmp_lays (w : World) (hm : ML w) (g : Nat) (hg : g ≠ 0) (N : Nat) : CmpLays1 Tryz.prog 66 #[] encSh cfSh g 0 N w := by
 intro m os dk hs x y
 have hml : ML (sortWorld encSh w g 0 m dk os) := by
  unfold sortWorld
  rw [putRow_sh]
  exact ml_sorted hm (fun _ _ _ => .inr trivial) hg
 refine (compare_any x.1 y.1 _ hml x.2 y.2).mono ?_
 rintro e w' ⟨rfl, rfl⟩
 refine ⟨rfl, 0, #[txrow x.1, txrow y.1], ?_⟩
 rw [alloc_eq_grow, alloc_eq_grow, grow_grow]
 rfl
theorem enters22 : ∀ args w, (callFunc 66 args).run Tryz.prog w = .ok (.enter 66 args) w := enters_of Tryz.func66 (by kernel_rfl) rfl
theorem enters28 : ∀ args w, (callFunc 112 args).run Tryz.prog w = .ok (.enter 112 args) w := enters_of Tryz.func112 (by kernel_rfl) rfl
theorem keys_any (mb : Option Nat) (w : World) : Calls Tryz.prog 65 #[.map mb] w fun e w' => e = .returned (.func (.func 112) #[] #[.pointer (some ⟨w.heap.size, 0, none⟩)]) ∧ w' = w.alloc (.cells #[.map mb] 77) :=
 (callsIn_wide (n := 6)).1 (AnyZ.keys_in Tryz.keys21 Fence.wide 6 trivial rfl mb w)
theorem collect_any (b Bm : Nat) (l : List It) (w : World) (hT : TreeAt w b l) (hn : (l.map (·.path)).Nodup) (hl : l.length ≤ 1000) (hBm : Bm < w.heap.size) (hm : w.cell? ⟨Bm, 0, none⟩ = some (.map (some b))) :
 Calls Tryz.prog 110 #[.func (.func 112) #[] #[.pointer (some ⟨Bm, 0, none⟩)]] w fun e w' => ∃ (v : Value) (ss : List Bs), e = .returned v ∧ ss.Perm (l.map (·.path)) ∧ w'.ownsRow w.heap.size 9 1 v ss.length (ss.map encStr) ∧ Below w.heap.size w w' := by
 obtain ⟨D, ho, hh⟩ := hT
 have hsz := size_tree ho hh hn
 have hk := keys_perm ho hh hn
 refine ((callsIn_wide (n := 6)).1 (AnyZ.collect_in Tryz.collect26 Fence.wide 6 trivial trivial rfl (by omega) 112 #[.pointer (some ⟨Bm, 0, none⟩)] trivial enters28 (fun ss => ss.Perm (strKeys D)) (Maps.size D) (by rw [hsz]; unfold maxLen; omega) (by rw [hsz]; omega) w
  (AnyZ.keys_gives Tryz.iter28 Fence.wide 4 trivial rfl (by omega) Bm b (Maps.size D) D w hBm hm ho))).mono ?_
 rintro e w' ⟨v, ss, rfl, hS, hrow, _, hb⟩
 exact ⟨v, ss, rfl, hS.trans hk.symm, hrow, hb⟩
def shs (ss : List Bs) (h : ∀ s ∈ ss, s.length ≤ 1048576) : List Sh := ss.pmap Subtype.mk h
theorem shs_map (ss : List Bs) (h : ∀ s ∈ ss, s.length ≤ 1048576) : (shs ss h).map (·.1) = ss := by simp [shs, List.map_pmap]
theorem shs_length (ss : List Bs) (h : ∀ s ∈ ss, s.length ≤ 1048576) : (shs ss h).length = ss.length := by simp [shs]
theorem holds_sh {w : World} {g : Nat} {ss : List Bs} (h : ∀ s ∈ ss, s.length ≤ 1048576) (hH : Holds encStr w g 0 ss.toArray) : Holds encSh w g 0 (shs ss h).toArray := by
 intro j hj
 have hj' : j < ss.length := by simpa [shs_length] using hj
 have := hH j (by simpa using hj')
 refine ⟨this.1.trans ?_, this.2⟩
 rw [getElem!_pos ss.toArray j (by simpa using hj'), getElem!_pos (shs ss h).toArray j (by simpa [shs_length] using hj')]
 simp [encSh, shs]
theorem sort_any (g cap : Nat) (ss : List Bs) (w : World) (hml : ML w) (hg : g ≠ 0) (hlt : g < w.heap.size) (h : ∀ s ∈ ss, s.length ≤ 1048576) (hl : ss.length ≤ 1000) (hH : Holds encStr w g 0 ss.toArray) :
 Calls Tryz.prog 111 #[.slice (some ⟨g, 0, none⟩) ss.length cap, .func (.func 66) #[] #[]] w fun e w' => e = .returned (.tuple #[]) ∧ ∃ n os, w' = grow (putRow encStr (Sort.ahead w n) g 0 (sortP ss).toArray) os := by
 have hd : (shs ss h).toArray.size = ss.length := by simp [shs_length]
 have := Any.slices_SortFunc_total Tryz.sort27 encSh (fun _ => rfl) cfSh swo_cf 66 #[] g 0 cap (shs ss h).toArray w enters22 (cmp_lays w hml g hg _) (holds_sh h hH) hlt (by rw [hd]; omega) tot_cf
 rw [hd] at this
 refine this.mono ?_
 rintro e w' ⟨rfl, n, os, rfl⟩
 refine ⟨rfl, n, os, ?_⟩
 unfold sortWorld
 rw [putRow_sh]
 congr 2
 rw [List.map_toArray, sort_sh, shs_map]
theorem sort_none (p : Option Addr) (cap : Nat) (fv : Value) (w : World) : Calls Tryz.prog 111 #[.slice p 0 cap, fv] w fun e w' => e = .returned (.tuple #[]) ∧ w' = w :=
 AnyF.slices_SortFunc_none (P := Tryz.prog) (ρ := Tryz.sort27_ren) { Tryz.sort27 with } p cap fv w
theorem sorted_any (b Bm : Nat) (l : List It) (w : World) (hT : TreeAt w b l) (hn : (l.map (·.path)).Nodup) (hl : l.length ≤ 1000) (hml : ML w) (hp : ∀ x ∈ l, x.path.length ≤ 1048576) (hBm : Bm < w.heap.size) (hm : w.cell? ⟨Bm, 0, none⟩ = some (.map (some b))) :
 Calls Tryz.prog 64 #[.func (.func 112) #[] #[.pointer (some ⟨Bm, 0, none⟩)], .func (.func 66) #[] #[]] w fun e w' => ∃ (v : Value), e = .returned v ∧ w'.ownsRow w.heap.size 9 1 v l.length ((sortP (l.map (·.path))).map encStr) ∧ Below w.heap.size w w' := by
 have HC := hidI (collect_any b Bm l w hT hn hl hBm hm)
 have h0 := hml.lt
 have Hml := hidI hml
 have Hp := hidI hp
 clear hT hml hm hp
 go_enter Tryz.func64, Tryz.ntmps64
 go_wp2_with fail
 refine HC.out.mono ?_
 rintro e W ⟨v, ss, rfl, hS, hrow, hb⟩
 have hlen : ss.length = l.length := by simpa using hS.length_eq
 have hsort : sortP ss = sortP (l.map (·.path)) := by
  unfold sortP
  refine List.Perm.eq_of_pairwise (le := fun a b : Bs => (!less b a) = true) (fun a b _ _ h1 h2 => ?_) (List.pairwise_mergeSort ?_ ?_ ss) (List.pairwise_mergeSort ?_ ?_ _) (((List.mergeSort_perm ss _).trans hS).trans (List.mergeSort_perm _ _).symm)
  ·simp at h1 h2; exact less_total a b h2 h1
  all_goals first
   | (intro a b c h1 h2
      simp at h1 h2 ⊢
      cases h : less c a with
      | false => rfl
      | true =>
        cases h3 : less c b with
        | true => rw [h2] at h3; cases h3
        | false => have := less_total b c (by
                    cases h4 : less b c with
                    | false => rfl
                    | true => have := less_trans _ _ _ h4 h; rw [h1] at this; cases this) h3
                   subst this; rw [h1] at h; cases h)
   | (intro a b
      simp
      cases h : less b a with
      | false => exact .inl rfl
      | true => exact .inr (less_asymm h))
 have hss : ∀ s ∈ ss, s.length ≤ 1048576 := fun s hs => by
  obtain ⟨x, hx, rfl⟩ := List.mem_map.1 (hS.mem_iff.1 hs)
  exact Hp.out x hx
 have hmlW := Hml.out.below hb h0
 have HS := hidI hsort
 clear hsort
 rcases hrow.2 with ⟨rfl, hz⟩ | ⟨gb, cap, cur, rfl, hbase, hgb, r1, r2, r3, r4⟩
 ·have HN := hidI (sort_none none 0 (.func (.func 66) #[] #[]) W)
  have hss0 : ss = [] := List.eq_nil_of_length_eq_zero hz
  have HF : Hid (W.ownsRow w.heap.size 9 1 (.slice none 0 0) l.length ((sortP (l.map (·.path))).map encStr)) := by
   have h := hrow
   rw [hlen] at h
   show W.ownsRow w.heap.size 9 1 (.slice none 0 0) l.length ((sortP (l.map (·.path))).map encStr)
   rw [← HS.out, hss0]
   have e0 : sortP [] = [] := by simp [sortP]
   rw [e0]
   rw [hss0] at h
   exact h
  clear hrow hlen hz hss0
  go_wp2_with fail
  refine HN.out.mono ?_
  rintro e w' ⟨rfl, hw⟩
  have hw' := hw.symm
  subst hw'
  go_wp2
  go_ret
  exact ⟨_, rfl, HF.out, hb⟩
 ·have hH : Holds encStr W gb 0 ss.toArray := holds_of_block hgb (by simpa using r4)
  have hgl : gb < W.heap.size := (Array.getElem?_eq_some_iff.1 hgb).1
  have HN := hidI (sort_any gb cap ss W hmlW (by omega) hgl hss (by omega) hH)
  have HF : Hid (∀ n os, (grow (putRow encStr (Sort.ahead W n) gb 0 (sortP ss).toArray) os).ownsRow w.heap.size 9 1 (.slice (some ⟨gb, 0, none⟩) ss.length cap) l.length ((sortP (l.map (·.path))).map encStr)) := fun n os => by
   rw [← hlen, ← HS.out]
   exact ownsRow_sorted (by simp [sortP]) hbase hgb r1 r2 r3
  clear hrow hH hmlW hss hlen r3 r4 hgb
  go_wp2_with fail
  refine HN.out.mono ?_
  rintro e w' ⟨rfl, n, os, hw⟩
  have HB : Hid (Below w.heap.size w w') := by rw [hw]; exact hb.grown (grownBy_sorted _) hb.size (fun j hj => by cases hj; exact hbase)
  have HF' := HF.out n os
  rw [← hw] at HF'
  clear hw HF HN
  go_wp2
  go_ret
  exact ⟨_, rfl, HF', HB.out⟩
end Go.Proofs.YtodmdkhdbfbfgaaGreatDoor
namespace Go.Proofs.YtodmdkhdbfbfgaaGreatDoor
open Go.RowKit Go.Nt Go.Sort Go.Lib Go.Shelf
set_option linter.unusedVariables false
theorem order_paths (l : List It) : (inOrder l).map (·.path) = sortP (l.map (·.path)) := by
 unfold inOrder sortP
 exact List.map_mergeSort (f := fun x : It => x.path) (r := fun x y : It => !less y.path x.path) (s := fun x y => !less y x) (l := l) (fun a _ b _ => rfl)
theorem order_length (l : List It) : (inOrder l).length = l.length := by simp [inOrder]
theorem order_mem {l : List It} {x : It} : x ∈ inOrder l ↔ x ∈ l := by simp [inOrder]
theorem wpList_len_tree {w : World} {ops : Array Oper} {rest : List Oper} {o : Oper} {a : Act} {Q : Exit → Act → World → Prop} (hg : o.guard = none) (m : Operand) (hop : o.op = Op.call { callee := Callee.builtin Builtin.len, args := #[m], argTypes := #[77] })
 (b : Nat) (l : List It) (hm : a.eval m = .map (some b)) (hT : TreeAt w b l) (hn : (l.map (·.path)).Nodup)
 (hK : wpList Tryz.prog ops Q rest (a.put o.dst (.int .i64 l.length)) w) :
 wpList Tryz.prog ops Q (o :: rest) a w := by
 refine wpList_plain hg fun K' hK' => ?_
 unfold Oper.wp
 simp [execOp, hop, resolve, invoke, builtin, hm, hT.len hn o.type, Result.andThen]
 exact hK' _ _ hK
theorem row_text {w : World} {B gk cap n : Nat} {ps : List Bs} (h : w.ownsRow B 9 1 (.slice (some ⟨gk, 0, none⟩) n cap) n (ps.map encStr)) {k : Nat} {p : Bs} (hk : ps[k]? = some p) : w.cell? ⟨gk, k, none⟩ = some (.string (txt p)) := by
 rcases h.2 with ⟨e, _⟩ | ⟨g, cap', cur, e, _, hb, h1, h2, h3, h4⟩
 ·cases e
 ·cases e
  rw [cell_of_row w gk k cur 9 (0, 0) hb]
  have hlt : k < ps.length := (List.getElem?_eq_some_iff.1 hk).1
  have hl := h.1
  simp at hl
  have h5 := congrArg (fun z : List Value => z[k]?) h4
  simp only [Nat.mul_one] at h5
  rw [List.getElem?_take_of_lt (by omega), List.getElem?_map, hk] at h5
  have h6 : cur[k]? = some (encStr p) := by simpa using h5
  exact h6
theorem items_any (b : Nat) (l : List It) (w : World) (hT : TreeAt w b l) (hn : (l.map (·.path)).Nodup) (hl : l.length ≤ 1000) (hml : ML w) (hp : ∀ x ∈ l, x.path.length ≤ 1048576) :
 Calls Tryz.prog 37 #[.map (some b)] w fun e w' => Below w.heap.size w w' ∧ ∃ v, e = .returned v ∧ w'.ownsRow w.heap.size 39 5 v l.length (its (inOrder l)) := by
 obtain ⟨i0, hi, hz0, hz1, hz2⟩ := info_parts Tryz.info24
 obtain ⟨w1, hmk, hown1, hg1⟩ := run_make_own (P := Tryz.prog) w w.heap.size 26 39 i0 _ 5 Tryz.underlying26 hi hz0 hz1 .i64 .i64 l.length (by rw [hz2]; omega) (by unfold maxLen; omega) (Nat.le_refl _)
 have hb1 : Below w.heap.size w w1 := (Below.refl _ w).grown hg1 (Nat.le_refl _) (fun q hq => by cases hq)
 have hblt := hT.lt
 have hs1 : w.heap.size < w1.heap.size := by
  rcases hown1.2 with ⟨e, _⟩ | ⟨g, cap, cur, e, _, hh, _⟩
  ·cases e
  ·cases e; exact lt_of_heap hh
 have hT1 : TreeAt (w1.alloc (.cells #[.map (some b)] 77)) b l := (hT.below hb1 hblt).of_block (Below.heap_alloc w1 _ b (by omega))
 have hml1 : ML (w1.alloc (.cells #[.map (some b)] 77)) := (hml.below hb1 hml.lt).below ((Below.refl _ w1).alloc (Nat.le_refl _) _) (by omega)
 have HK := hidI (keys_any (some b) w1)
 have HS := hidI (sorted_any b w1.heap.size l _ hT1 hn hl hml1 hp (by simp) (by simp))
 have HT := hidI hT
 have Hn := hidI hn
 have Hp := hidI hp
 have Hg1 := hidI hg1
 clear hT hn hml hp hT1 hml1 hg1
 go_enter Tryz.func37, Tryz.ntmps37
 go_wp2_with (first | (at_len; refine wpList_len_tree rfl _ rfl b l rfl HT.out Hn.out ?_) | (go_at_call 65; refine HK.out.mono ?_; rintro e w' ⟨rfl, rfl⟩) | fail)
 refine HS.out.mono ?_
 rintro e W ⟨v, rfl, hrow, hbW⟩
 have hszW := hbW.size
 rw [World.size_alloc] at hszW hbW
 have HbW : Hid (Below w.heap.size w W) := (hb1.alloc (by omega) _).trans (hbW.mono (by omega))
 have Hown1 : Hid (W.ownsRow w.heap.size 39 5 (.slice (some ⟨w.heap.size, 0, none⟩) 0 l.length) 0 []) := own_below (hown1.alloc _) hbW (fun q hq => (by simpa [Value.ownBlock] using hq : w.heap.size = q) ▸ (by omega))
 have Hrow := hidI hrow
 clear hrow hmk HK HS hbW hown1 Hg1 hb1
 obtain ⟨ak, ck, rfl, Hak⟩ : ∃ ak ck, v = .slice ak l.length ck ∧ Hid (l ≠ [] → ∃ gk, ak = some ⟨gk, 0, none⟩ ∧ w1.heap.size < gk ∧ gk < W.heap.size ∧ ∀ k x, (inOrder l)[k]? = some x → W.cell? ⟨gk, k, none⟩ = some (.string (txt x.path))) := by
  rcases Hrow.out.2 with ⟨rfl, h0⟩ | ⟨gk, cap, cur, rfl, hbase, hh, h1, h2, h3, h4⟩
  ·refine ⟨none, 0, by rw [h0], hidI (fun hne => absurd (List.eq_nil_of_length_eq_zero h0) hne)⟩
  ·refine ⟨some ⟨gk, 0, none⟩, cap, rfl, hidI (fun _ => ⟨gk, rfl, by simp at hbase; omega, lt_of_heap hh, fun k x hx => ?_⟩)⟩
   refine row_text Hrow.out ?_
   rw [← order_paths, List.getElem?_map, hx]
   rfl
 clear Hrow
 go_wp2
 go_loopw [3, 14] (fun v i wr => ∃ (k : Nat) (a' : Option Addr) (c' : Nat), v = .slice a' k c' ∧ k ≤ l.length ∧ i = .int .i64 k ∧ Hid (wr.ownsRow w.heap.size 39 5 v k (its ((inOrder l).take k))) ∧ Hid (Below w.heap.size w wr) ∧ Hid (∀ j, w1.heap.size < j → j < W.heap.size → wr.heap[j]? = W.heap[j]?) ∧ Hid (v.ownBlock = some w.heap.size ∨ ∃ q, v.ownBlock = some q ∧ W.heap.size ≤ q) ∧ W.heap.size ≤ wr.heap.size) (fun _ i _ => l.length - (intOf i).toNat)
 case atStart => exact ⟨0, _, _, rfl, Nat.zero_le _, rfl, Hown1, HbW, hidI (fun _ _ _ => rfl), hidI (.inl rfl), Nat.le_refl _⟩
 case round =>
  obtain ⟨k, a', c', rfl, hk, rfl, Hown, Hb, Hkeep, Hblk, hszr⟩ := hrel
  by_cases hlt : k < l.length
  ·obtain ⟨x, hx⟩ : ∃ x, (inOrder l)[k]? = some x := ⟨_, List.getElem?_eq_getElem (by rw [order_length]; exact hlt)⟩
   have hxl : x ∈ l := order_mem.1 (List.mem_of_getElem? hx)
   obtain ⟨gk, rfl, hgk1, hgk2, hcells⟩ := Hak.out (fun h => by rw [h] at hlt; simp at hlt)
   have hcell : wr.cell? ⟨gk, k, none⟩ = some (.string (txt x.path)) := (World.cell?_of_block (Hkeep.out gk hgk1 hgk2)).trans (hcells k x hx)
   have hT' := HT.out.below Hb.out hblt
   have hlook := (hT'.look_some (p := x.path) (by have := Hp.out x hxl; unfold maxLen; omega) (at_mem Hn.out hxl)).2
   have Hx := hidI hx
   have hszb := Hb.out.size
   unfold ndv nd at hlook
   simp only at hlook
   obtain ⟨X, hX⟩ : ∃ X, X = txt x.path := ⟨_, rfl⟩
   obtain ⟨D, hD⟩ : ∃ X, X = txt x.data := ⟨_, rfl⟩
   obtain ⟨xd, hxd⟩ : ∃ X, X = x.dir := ⟨_, rfl⟩
   rw [← hX] at hcell hlook
   rw [← hD, ← hxd] at hlook
   have HX := hidI hX
   have HD := hidI hD
   have Hxd := hidI hxd
   clear hx hX hD hxd hT' hcells hxl
   go_wp2_with (at_builtin; refine wpList_append_own_at _ rfl _ _ 26 rfl w.heap.size 39 i0 _ 5 56 Tryz.underlying26 hi hz0 hz1 hz2 rfl (by decide) _ _ _ rfl ((Hown.out.alloc _).alloc _) ⟨wr.heap.size + 1, 0, none⟩ 1 1 (itl x) rfl ?e1 ?e2 ?e3 ?e4 ?e5 ?e6 ?_)
   case e1 => rfl
   case e2 =>
    intro j u hu
    rw [addr_add]
    have h := (boxed_at (wr.alloc (.cells #[.bool xd, .string D, .int .i64 x.mode, .int .i64 x.time] 117)) x).cell hu
    unfold boxed at h
    rw [← HX.out, ← HD.out, ← Hxd.out] at h
    simpa using h
   case e3 => intro u hu; exact its_one_cell (l := [x]) u (by rw [its_one]; exact hu)
   case e4 => unfold maxLen; omega
   case e5 => omega
   case e6 => simp; omega
   intro v2 W2 hown2 hgrow2 _ hloc
   obtain ⟨g', cap', rfl⟩ := row_succ hown2
   have hg2 := (((World.grownBy_alloc wr _ (Value.slice a' k c').ownBlock).trans (World.grownBy_alloc _ _ _)).trans hgrow2)
   have Hown2 : Hid (W2.ownsRow w.heap.size 39 5 (.slice (some ⟨g', 0, none⟩) (k + 1) cap') (k + 1) (its ((inOrder l).take (k + 1)))) := by
    show W2.ownsRow w.heap.size 39 5 (.slice (some ⟨g', 0, none⟩) (k + 1) cap') (k + 1) (its ((inOrder l).take (k + 1)))
    rw [List.take_add_one, Hx.out, its_append]
    have e : its (some x).toList = itl x := its_one x
    rw [e]
    exact hown2
   have Hb2 : Hid (Below w.heap.size w W2) := Hb.out.grown hg2 hszb (fun q hq => by
    rcases Hblk.out with h | ⟨q', h, h'⟩
    ·rw [h] at hq; cases hq; exact Nat.le_refl _
    ·rw [h] at hq; cases hq; omega)
   have Hkeep2 : Hid (∀ j, w1.heap.size < j → j < W.heap.size → W2.heap[j]? = W.heap[j]?) := fun j h1 h2 => by
    rw [hg2.block j (by omega) (fun e => ?_)]
    ·exact Hkeep.out j h1 h2
    ·rcases Hblk.out with h | ⟨q', h, h'⟩
     ·rw [h] at e; cases e; omega
     ·rw [h] at e; cases e; omega
   have Hblk2 : Hid ((Value.slice (some ⟨g', 0, none⟩) (k + 1) cap').ownBlock = some w.heap.size ∨ ∃ q, (Value.slice (some ⟨g', 0, none⟩) (k + 1) cap').ownBlock = some q ∧ W.heap.size ≤ q) := by
    rcases hloc with h | h
    ·rw [h]; exact Hblk.out
    ·exact .inr ⟨_, h, by first | omega | (simp; omega)⟩
   have hsz2 : W.heap.size ≤ W2.heap.size := Nat.le_trans hszr hg2.size
   clear hown2 hgrow2 hg2 hloc hlook hcell Hblk Hkeep Hown
   go_wp2
   go_roundw
   case rel => exact ⟨k + 1, some ⟨g', 0, none⟩, cap', rfl, by omega, by go_num, Hown2, Hb2, Hkeep2, Hblk2, hsz2⟩
   case measure => simp [intOf]; omega
  ·have Hfin : Hid (wr.ownsRow w.heap.size 39 5 (.slice a' k c') l.length (its (inOrder l))) := by
    have h := Hown.out
    have e : k = l.length := by omega
    rw [e] at h ⊢
    rw [List.take_of_length_le (by rw [order_length]; exact Nat.le_refl _)] at h
    exact h
   clear Hown
   go_wp2
   go_ret
   exact ⟨Hb.out, _, rfl, Hfin.out⟩
end Go.Proofs.YtodmdkhdbfbfgaaGreatDoor
namespace Go.Proofs.YtodmdkhdbfbfgaaGreatDoor
open Go.RowKit Go.Nt
set_option linter.unusedVariables false
def enterAt (l : List It) (p : Bs) : Nat → Nat → Int
 | 0, _ => 0
 | n + 1, k => if p.getD k 0 = 47 then
    match at? l (p.take k) with
    | none => 4
    | some x => if x.dir then enterAt l p n (k + 1) else 6
   else enterAt l p n (k + 1)
def enterE (l : List It) (p : Bs) : Int := enterAt l p p.length 0
theorem enterAt_zero (l : List It) (p : Bs) (hn : (l.map (·.path)).Nodup) : ∀ n k, enterAt l p n k = 0 ↔ ∀ i, k ≤ i → i < k + n → p.getD i 0 = 47 → dirAt l (p.take i) = true
 | 0, k => by simp [enterAt]; intro i h1 h2; omega
 | n + 1, k => by
   unfold enterAt
   by_cases h : p.getD k 0 = 47
   ·rw [if_pos h]
    have hd := at_dir hn (p.take k)
    cases ha : at? l (p.take k) with
    | none =>
      rw [ha] at hd
      simp only
      constructor
      ·intro h'; cases h'
      ·intro h'
       have := h' k (Nat.le_refl _) (by omega) h
       rw [hd] at this
       cases this
    | some x =>
      rw [ha] at hd
      simp only
      simp only at hd
      by_cases hx : x.dir = true
      ·rw [if_pos hx, enterAt_zero l p hn n (k + 1)]
       constructor
       ·intro h' i h1 h2 h3
        by_cases e : i = k
        ·subst e; rw [hd, hx]
        ·exact h' i (by omega) (by omega) h3
       ·exact fun h' i h1 h2 h3 => h' i (by omega) (by omega) h3
      ·rw [if_neg hx]
       constructor
       ·intro h'; cases h'
       ·intro h'
        have := h' k (Nat.le_refl _) (by omega) h
        rw [hd] at this
        exact absurd this hx
   ·rw [if_neg h, enterAt_zero l p hn n (k + 1)]
    constructor
    ·intro h' i h1 h2 h3
     by_cases e : i = k
     ·subst e; exact absurd h3 h
     ·exact h' i (by omega) (by omega) h3
    ·exact fun h' i h1 h2 h3 => h' i (by omega) (by omega) h3
theorem enterE_zero (l : List It) (p : Bs) (hn : (l.map (·.path)).Nodup) : entered l p = decide (enterE l p = 0) := by
 unfold entered enterE
 rw [Bool.eq_iff_iff, decide_eq_true_iff, enterAt_zero l p hn, List.all_eq_true]
 constructor
 ·intro h i _ h2 h3
  have := h i (List.mem_range.2 (by omega))
  rw [h3] at this
  simpa using this
 ·intro h i hi
  have hi' := List.mem_range.1 hi
  by_cases e : p.getD i 0 = 47
  ·have := h i (Nat.zero_le _) (by omega) e
   simp [this]
  ·have e' : decide (p.getD i 0 ≠ 47) = true := by simpa using e
   rw [e']; rfl
theorem enter_any (b : Nat) (l : List It) (p : Bs) (w : World) (hT : TreeAt w b l) (hp : p.length ≤ 1048576) :
 Calls Tryz.prog 73 #[.map (some b), .string (txt p)] w fun e w' => Below w.heap.size w w' ∧ e = .returned (.int .i64 (enterE l p)) := by
 obtain ⟨X, hX⟩ : ∃ X, X = txt p := ⟨_, rfl⟩
 have Sx : X.size = p.length := by rw [hX, txt_size]
 have gx : Hid (∀ k (h : k < X.size), X[k]'h = p.getD k 0) := fun k h => by subst hX; exact txt_getD p k h
 have ex : Hid (∀ b, X.extract 0 b = txt (p.take b)) := fun b => by subst hX; rw [txt_extract]; simp
 rw [← hX]
 have Hx := hidI Sx
 have HT := hidI hT
 have hX9 : X.size ≤ 1048576 := by omega
 clear hX Sx hp hT
 go_enter Tryz.func73, Tryz.ntmps73
 go_wp2
 go_loopw [10] (fun i wr => ∃ k : Nat, k ≤ X.size ∧ i = .int .i64 k ∧ Hid (Below w.heap.size w wr) ∧ Hid (enterE l p = enterAt l p (X.size - k) k)) (fun i _ => X.size - (intOf i).toNat)
 case atStart => exact ⟨0, Nat.zero_le _, rfl, hidI (Below.refl _ _), by have := Hx.out; exact hidI (by rw [this]; rfl)⟩
 case round =>
  obtain ⟨k, hk, rfl, Hb, He⟩ := hrel
  by_cases hlt : k < X.size
  ·have hg := gx.out k hlt
   have hs : X.size - k = (X.size - (k + 1)) + 1 := by omega
   have He' := He.out
   rw [hs] at He'
   by_cases h47 : X[k]'hlt = 47
   ·have h47' : (((X[k]'hlt).toNat : Int) != 47) = false := by rw [h47]; rfl
    have hT' := HT.out.below Hb.out HT.out.lt
    have hkl : (p.take k).length ≤ maxLen := by rw [List.length_take]; unfold maxLen; have := Hx.out; omega
    have hu : enterAt l p (X.size - (k + 1) + 1) k = match at? l (p.take k) with | none => 4 | some x => if x.dir then enterAt l p (X.size - (k + 1)) (k + 1) else 6 := by
     show (if p.getD k 0 = 47 then _ else _) = _
     rw [if_pos (by rw [← hg]; exact h47)]
    rw [hu] at He'
    have hsz := Hb.out.size
    cases ha : at? l (p.take k) with
    | none =>
      rw [ha] at He'
      have hl := (hT'.look_none hkl ha).1
      rw [← ex.out] at hl
      have HE := hidI He'
      unfold ndv at hl
      clear He' hu hg h47 hs ha hT'
      go_wp2
      go_ret
      exact ⟨Hb.out.alloc hsz _, ret_int HE.out.symm⟩
    | some x =>
      rw [ha] at He'
      have hl := (hT'.look_some hkl ha).1
      rw [← ex.out] at hl
      unfold ndv nd at hl
      obtain ⟨xd, hxd⟩ : ∃ o, o = x.dir := ⟨_, rfl⟩
      simp only at He' hl
      rw [← hxd] at He' hl
      clear hu hg h47 hs ha hT' hxd
      cases xd with
      | true =>
        have HE : Hid (enterE l p = enterAt l p (X.size - (k + 1)) (k + 1)) := hidI (by simpa using He')
        clear He'
        go_wp2
        go_roundw
        case rel => exact ⟨k + 1, by omega, by go_num, hidI (Hb.out.alloc hsz _), HE⟩
        case measure => simp [intOf]; omega
      | false =>
        have HE : Hid (enterE l p = 6) := hidI (by simpa using He')
        clear He'
        go_wp2
        go_ret
        exact ⟨Hb.out.alloc hsz _, ret_int HE.out.symm⟩
   ·have h47' : (((X[k]'hlt).toNat : Int) != 47) = true := bne_iff_ne.2 fun h => h47 (UInt8.toNat_inj.1 (by have : (47 : UInt8).toNat = 47 := rfl; omega))
    have HE : Hid (enterE l p = enterAt l p (X.size - (k + 1)) (k + 1)) := by
     refine He'.trans ?_
     show (if p.getD k 0 = 47 then _ else _) = _
     rw [if_neg (by rw [← hg]; exact h47)]
    clear He' hg h47 hs
    go_wp2
    go_roundw
    case rel => exact ⟨k + 1, by omega, by go_num, Hb, HE⟩
    case measure => simp [intOf]; omega
  ·have HE : Hid (enterE l p = 0) := by
    have := He.out
    rw [show X.size - k = 0 by omega] at this
    exact this
   go_wp2
   go_ret
   exact ⟨Hb.out, ret_int HE.out.symm⟩
end Go.Proofs.YtodmdkhdbfbfgaaGreatDoor
namespace Go.Proofs.YtodmdkhdbfbfgaaGreatDoor
open Go.RowKit Go.Nt
set_option linter.unusedVariables false
structure TreeP (l : List It) : Prop where
 len : l.length ≤ 60
 ok : ∀ x ∈ l, okItem x = true
 nodup : (l.map (·.path)).Nodup
 up : ∀ x ∈ l, par x.path = [] ∨ dirAt l (par x.path) = true
theorem isTree_iff (l : List It) : isTree l = true ↔ TreeP l := by
 unfold isTree
 simp only [Bool.and_eq_true, decide_eq_true_eq, List.all_eq_true, Bool.or_eq_true]
 exact ⟨fun ⟨⟨⟨a, b⟩, c⟩, d⟩ => ⟨a, b, c, d⟩, fun ⟨a, b, c, d⟩ => ⟨⟨⟨a, b⟩, c⟩, d⟩⟩
theorem dirAt_iff {l : List It} {p : Bs} : dirAt l p = true ↔ ∃ y ∈ l, y.path = p ∧ y.dir = true := by
 unfold dirAt
 rw [List.any_eq_true]
 simp
def reachE (l : List It) (p : Bs) : Int := if okPath p then enterE l p else 1
def findE (l : List It) (p : Bs) : Int := if reachE l p = 0 then (if (at? l p).isSome then 0 else 4) else reachE l p
def fileE (l : List It) (p : Bs) : Int := if findE l p = 0 then (match at? l p with | some x => if x.dir then 6 else 0 | none => 0) else findE l p
end Go.Proofs.YtodmdkhdbfbfgaaGreatDoor
namespace Go.Proofs.YtodmdkhdbfbfgaaGreatDoor.S1.Pk
set_option linter.unusedVariables false
def wt (x : Int) : Int := if 0 < x then 2 ^ (12 - x).toNat else 0
def sumTo (z : Nat → Int) : Nat → Int
 | 0 => 0
 | k + 1 => sumTo z k + wt (z k)
def cnt (z : Nat → Int) (d : Nat) : Nat → Nat
 | 0 => 0
 | k + 1 => cnt z d k + if z k = (d : Int) then 1 else 0
def aft (z : Nat → Int) (n : Nat) : Nat → Nat
 | 0 => 0
 | d + 1 => 2 * aft z n d + cnt z (d + 1) n
def num (z : Nat → Int) (n s : Nat) : Nat := 2 * aft z n ((z s).toNat - 1) + cnt z (z s).toNat s
def part (z : Nat → Int) (d : Nat) : Nat → Nat
 | 0 => 0
 | k + 1 => part z d k + if 1 ≤ z k ∧ z k ≤ (d : Int) then 2 ^ (12 - (z k).toNat) else 0
theorem cnt_le (z : Nat → Int) (d n : Nat) : cnt z d n ≤ n := by
 induction n with
 | zero => simp [cnt]
 | succ n ih => simp only [cnt]; split <;> omega
theorem cnt_mono (z : Nat → Int) (d : Nat) {s n : Nat} (h : s ≤ n) : cnt z d s ≤ cnt z d n := by
 induction n with
 | zero => have : s = 0 := by omega
           subst this; exact Nat.le_refl _
 | succ n ih =>
   by_cases e : s = n + 1
   ·subst e; exact Nat.le_refl _
   ·have := ih (by omega)
    simp only [cnt]; omega
theorem cnt_lt (z : Nat → Int) (d : Nat) {s n : Nat} (h : s < n) (hz : z s = d) : cnt z d s < cnt z d n := by
 have h1 : cnt z d (s + 1) = cnt z d s + 1 := by simp [cnt, hz]
 have := cnt_mono z d (show s + 1 ≤ n by omega)
 omega
theorem part_zero (z : Nat → Int) (n : Nat) : part z 0 n = 0 := by
 induction n with
 | zero => rfl
 | succ n ih => simp only [part, ih]; rw [if_neg (by omega)]
theorem part_succ (z : Nat → Int) (d n : Nat) : part z (d + 1) n = part z d n + cnt z (d + 1) n * 2 ^ (12 - (d + 1)) := by
 induction n with
 | zero => simp [part, cnt]
 | succ n ih =>
   simp only [part, cnt, ih]
   by_cases e : z n = ((d + 1 : Nat) : Int)
   ·rw [if_pos (by omega), if_neg (by omega), if_pos e, e, Int.toNat_natCast, Nat.add_mul]; omega
   ·rw [if_neg e]
    by_cases e2 : 1 ≤ z n ∧ z n ≤ (d : Int)
    ·rw [if_pos (by omega), if_pos e2]; simp; omega
    ·rw [if_neg (by omega), if_neg e2]; simp
theorem part_aft (z : Nat → Int) (n d : Nat) (hd : d ≤ 12) : aft z n d * 2 ^ (12 - d) = part z d n := by
 induction d with
 | zero => simp [aft, part_zero]
 | succ d ih =>
   have h := ih (by omega)
   rw [part_succ, ← h, aft, Nat.add_mul]
   have e : 2 ^ (12 - d) = 2 * 2 ^ (12 - (d + 1)) := by
    rw [show 12 - d = (12 - (d + 1)) + 1 by omega, Nat.pow_succ]; omega
   rw [e, Nat.mul_comm 2 (aft z n d), Nat.mul_assoc]
theorem part_mono (z : Nat → Int) {d e : Nat} (n : Nat) (h : d ≤ e) : part z d n ≤ part z e n := by
 induction n with
 | zero => simp [part]
 | succ n ih =>
   simp only [part]
   by_cases h1 : 1 ≤ z n ∧ z n ≤ (d : Int)
   ·rw [if_pos h1, if_pos (by omega)]; omega
   ·rw [if_neg h1]; omega
theorem sumTo_part (z : Nat → Int) (n : Nat) (h : ∀ k, k < n → 0 ≤ z k ∧ z k ≤ 12) : sumTo z n = (part z 12 n : Nat) := by
 induction n with
 | zero => simp [sumTo, part]
 | succ n ih =>
   have hn := h n (by omega)
   simp only [sumTo, part, ih (fun k hk => h k (by omega)), wt]
   by_cases e : 0 < z n
   ·rw [if_pos e, if_pos (by omega)]
    have : (12 - z n).toNat = 12 - (z n).toNat := by omega
    rw [this]; simp
   ·rw [if_neg e, if_neg (by omega)]; simp
theorem sumTo_bounds (z : Nat → Int) (n : Nat) (h : ∀ k, k < n → 0 ≤ z k ∧ z k ≤ 12) : 0 ≤ sumTo z n ∧ sumTo z n ≤ 2048 * n := by
 induction n with
 | zero => simp [sumTo]
 | succ n ih =>
   have hn := h n (by omega)
   have hi := ih (fun k hk => h k (by omega))
   have hw : 0 ≤ wt (z n) ∧ wt (z n) ≤ 2048 := by
    unfold wt
    split
    ·have : (12 - z n).toNat ≤ 11 := by omega
     have h2 := Nat.pow_le_pow_right (show 0 < 2 by omega) this
     have h3 : ((2 : Int) ^ (12 - z n).toNat) = ((2 ^ (12 - z n).toNat : Nat) : Int) := by simp
     rw [h3]
     generalize 2 ^ (12 - z n).toNat = p at h2
     omega
    ·omega
   simp only [sumTo]; omega
structure Fits (z : Nat → Int) (n : Nat) : Prop where
 rng : ∀ k, k < n → 0 ≤ z k ∧ z k ≤ 12
 sum : sumTo z n ≤ 4096
theorem aft_le (z : Nat → Int) (n d : Nat) (hf : Fits z n) (hd : d ≤ 12) : aft z n d ≤ 2 ^ d := by
 have h1 := part_aft z n d hd
 have h2 := part_mono z n hd
 have h3 := sumTo_part z n hf.rng
 have h4 := hf.sum
 have h5 : part z 12 n ≤ 4096 := by omega
 have h6 : aft z n d * 2 ^ (12 - d) ≤ 2 ^ d * 2 ^ (12 - d) := by
  rw [← Nat.pow_add, show d + (12 - d) = 12 by omega]; simp; omega
 exact Nat.le_of_mul_le_mul_right h6 (Nat.two_pow_pos _)
theorem num_lt_aft (z : Nat → Int) (n s : Nat) (h1 : 1 ≤ z s) (hs : s < n) : num z n s < aft z n (z s).toNat := by
 obtain ⟨d, hd⟩ : ∃ d : Nat, (z s).toNat = d + 1 := ⟨(z s).toNat - 1, by omega⟩
 have := cnt_lt z (z s).toNat hs (by omega)
 unfold num
 rw [hd] at this ⊢
 simp only [aft, Nat.add_sub_cancel]; omega
theorem num_lt (z : Nat → Int) (n s : Nat) (hf : Fits z n) (hs : s < n) (h1 : 1 ≤ z s) : num z n s < 2 ^ (z s).toNat := by
 have h := num_lt_aft z n s h1 hs
 have := hf.rng s hs
 have := aft_le z n (z s).toNat hf (by omega)
 omega
theorem aft_shift (z : Nat → Int) (n d e : Nat) : aft z n d * 2 ^ e ≤ aft z n (d + e) := by
 induction e with
 | zero => simp
 | succ e ih =>
   rw [Nat.pow_succ, ← Nat.mul_assoc, ← Nat.add_assoc, aft]; omega
theorem num_prefix (z : Nat → Int) (n s t : Nat) (hs : s < n) (ht : t < n) (hst : s ≠ t) (h1 : 1 ≤ z s) (h2 : z s ≤ z t) :
 num z n s ≠ num z n t / 2 ^ ((z t).toNat - (z s).toNat) := by
 by_cases e : z s = z t
 ·rw [e, Nat.sub_self, Nat.pow_zero, Nat.div_one]
  unfold num
  rw [e]
  rcases Nat.lt_or_gt_of_ne hst with h | h
  ·have := cnt_lt z (z t).toNat h (by omega); omega
  ·have := cnt_lt z (z t).toNat h (by omega); omega
 ·have hlt := num_lt_aft z n s h1 hs
  obtain ⟨q, hq⟩ : ∃ q : Nat, (z t).toNat = (z s).toNat + q + 1 := ⟨(z t).toNat - (z s).toNat - 1, by omega⟩
  have hge : aft z n (z s).toNat * 2 ^ (q + 1) ≤ num z n t := by
   have h := aft_shift z n (z s).toNat q
   unfold num
   rw [hq, Nat.add_sub_cancel, Nat.pow_succ, ← Nat.mul_assoc]
   omega
  rw [show (z t).toNat - (z s).toNat = q + 1 by omega]
  have : aft z n (z s).toNat ≤ num z n t / 2 ^ (q + 1) := (Nat.le_div_iff_mul_le (Nat.two_pow_pos _)).2 hge
  omega
end Go.Proofs.YtodmdkhdbfbfgaaGreatDoor.S1.Pk
