/- What the library returns for a map's keys, sorted by compare: the paths in the order of trees. -/
import Derived.Test.YtodmdkhdbfbfgaaDoorMap
import Derived.Test.YtodmdkhdbfbfgaaDoorCompare
namespace Go.Proofs.YtodmdkhdbfbfgaaDoor
open Go.RowKit Go.Nt Go.Sort Go.Lib Go.Shelf
set_option linter.unusedVariables false

/-- Texts that are not too long for the library's searches. -/
abbrev Sh := { s : Bs // s.length ≤ 1048576 }
instance : Inhabited Sh := ⟨⟨[], by simp⟩⟩
def encSh : Sh → Value := fun s => encStr s.1
def cfSh (a b : Sh) : Int := cmpN (split a.1) (split b.1)

theorem lt_cf (a b : Sh) : ltOf cfSh a b = less a.1 b.1 := cmpN_less a.1 b.1
theorem swo_cf : SWO (ltOf cfSh) where
  irrefl x := by rw [lt_cf, less_irrefl]
  trans x y z h1 h2 := by rw [lt_cf] at *; exact less_trans _ _ _ h1 h2
  ntrans x y z h1 h2 := by
    rw [lt_cf] at *
    cases h : less x.1 z.1 with
    | false => rfl
    | true =>
      cases h3 : less y.1 x.1 with
      | true => have := less_trans _ _ _ h3 h; rw [h2] at this; cases this
      | false => have e := less_total _ _ h1 h3; rw [e, h2] at h; cases h
theorem tot_cf (x y : Sh) (h1 : ltOf cfSh x y = false) (h2 : ltOf cfSh y x = false) : x = y := by
  rw [lt_cf] at *
  exact Subtype.ext (less_total _ _ h1 h2)

theorem putRow_sh (w : World) (b o : Nat) (d : Array Sh) : putRow encSh w b o d = putRow encStr w b o (d.map (·.1)) := by
  unfold putRow
  congr 1
  funext c
  unfold putCells
  apply Array.ext
  · simp
  · intro i h1 h2
    simp only [Array.getElem_mapIdx, Array.size_map]
    split
    · rename_i h
      have hi : i - o < d.size := by omega
      rw [getElem!_pos d _ hi, getElem!_pos (d.map (·.1)) _ (by simpa using hi)]
      simp [encSh]
    · rfl

/-- Paths sorted. -/
def sortP (ss : List Bs) : List Bs := ss.mergeSort fun x y => !less y x

theorem sort_sh (ds : List Sh) : (ds.mergeSort fun x y => !(ltOf cfSh) y x).map (·.1) = sortP (ds.map (·.1)) := by
  unfold sortP
  have h := List.map_mergeSort (f := fun s : Sh => s.1) (r := fun x y => !(ltOf cfSh) y x) (s := fun x y => !less y x) (l := ds) (fun a _ b _ => by rw [lt_cf])
  exact h

theorem ml_sorted {w : World} (h : ML w) (hd : ∀ c e fr, w.heap[0]? ≠ some (.cells c e fr) ∨ True) {g n : Nat} {d : Array Bs} {os : Array Obj} (hg : g ≠ 0) : ML (grow (putRow encStr (Sort.ahead w n) g 0 d) os) := by
  obtain ⟨m, hm⟩ := h
  have h0 : 0 < w.heap.size := World.block_lt_of_cell? w _ hm
  refine ⟨m, ?_⟩
  rw [← hm]
  refine World.cell?_of_block ?_
  exact (grownBy_sorted (w := w) (g := g) (n := n) (os := os) d).block 0 h0 (fun e => hg (by cases e; rfl))

theorem cmp_lays (w : World) (hm : ML w) (g : Nat) (hg : g ≠ 0) (N : Nat) : CmpLays1 Tryd.prog 22 #[] encSh cfSh g 0 N w := by
  intro m os dk hs x y
  have hml : ML (sortWorld encSh w g 0 m dk os) := by
    unfold sortWorld
    rw [putRow_sh]
    exact ml_sorted hm (fun _ _ _ => .inr trivial) hg
  refine (compare_any x.1 y.1 _ hml x.2 y.2).mono ?_
  rintro e w' ⟨rfl, rfl⟩
  refine ⟨rfl, 0, #[txrow x.1, txrow y.1], ?_⟩
  rw [alloc_eq_grow, alloc_eq_grow, grow_grow]
  rfl

theorem enters22 : ∀ args w, (callFunc 22 args).run Tryd.prog w = .ok (.enter 22 args) w := enters_of Tryd.func22 (by kernel_rfl) rfl
theorem enters28 : ∀ args w, (callFunc 30 args).run Tryd.prog w = .ok (.enter 30 args) w := enters_of Tryd.func30 (by kernel_rfl) rfl

theorem keys_any (mb : Option Nat) (w : World) : Calls Tryd.prog 21 #[.map mb] w fun e w' => e = .returned (.func (.func 30) #[] #[.pointer (some ⟨w.heap.size, 0, none⟩)]) ∧ w' = w.alloc (.cells #[.map mb] 35) :=
  (callsIn_wide (n := 6)).1 (AnyZ.keys_in Tryd.keys21 Fence.wide 6 trivial rfl mb w)

theorem collect_any (b Bm : Nat) (l : List It) (w : World) (hT : TreeAt w b l) (hn : (l.map (·.path)).Nodup) (hl : l.length ≤ 1000) (hBm : Bm < w.heap.size) (hm : w.cell? ⟨Bm, 0, none⟩ = some (.map (some b))) :
    Calls Tryd.prog 28 #[.func (.func 30) #[] #[.pointer (some ⟨Bm, 0, none⟩)]] w fun e w' => ∃ (v : Value) (ss : List Bs), e = .returned v ∧ ss.Perm (l.map (·.path)) ∧ w'.ownsRow w.heap.size 9 1 v ss.length (ss.map encStr) ∧ Below w.heap.size w w' := by
  obtain ⟨D, ho, hh⟩ := hT
  have hsz := size_tree ho hh hn
  have hk := keys_perm ho hh hn
  refine ((callsIn_wide (n := 6)).1 (AnyZ.collect_in Tryd.collect26 Fence.wide 6 trivial trivial rfl (by omega) 30 #[.pointer (some ⟨Bm, 0, none⟩)] trivial enters28 (fun ss => ss.Perm (strKeys D)) (Maps.size D) (by rw [hsz]; unfold maxLen; omega) (by rw [hsz]; omega) w
    (AnyZ.keys_gives Tryd.iter28 Fence.wide 4 trivial rfl (by omega) Bm b (Maps.size D) D w hBm hm ho))).mono ?_
  rintro e w' ⟨v, ss, rfl, hS, hrow, _, hb⟩
  exact ⟨v, ss, rfl, hS.trans hk.symm, hrow, hb⟩

/-- A list of short texts as short texts. -/
def shs (ss : List Bs) (h : ∀ s ∈ ss, s.length ≤ 1048576) : List Sh := ss.pmap Subtype.mk h
theorem shs_map (ss : List Bs) (h : ∀ s ∈ ss, s.length ≤ 1048576) : (shs ss h).map (·.1) = ss := by simp [shs, List.map_pmap]
theorem shs_length (ss : List Bs) (h : ∀ s ∈ ss, s.length ≤ 1048576) : (shs ss h).length = ss.length := by simp [shs]

theorem holds_sh {w : World} {g : Nat} {ss : List Bs} (h : ∀ s ∈ ss, s.length ≤ 1048576) (hH : Holds encStr w g 0 ss.toArray) : Holds encSh w g 0 (shs ss h).toArray := by
  intro j hj
  have hj' : j < ss.length := by simpa [shs_length] using hj
  have := hH j (by simpa using hj')
  refine ⟨this.1.trans ?_, this.2⟩
  rw [getElem!_pos ss.toArray j (by simpa using hj'), getElem!_pos (shs ss h).toArray j (by simpa [shs_length] using hj')]
  simp [encSh, shs]

theorem sort_any (g cap : Nat) (ss : List Bs) (w : World) (hml : ML w) (hg : g ≠ 0) (hlt : g < w.heap.size) (h : ∀ s ∈ ss, s.length ≤ 1048576) (hl : ss.length ≤ 1000) (hH : Holds encStr w g 0 ss.toArray) :
    Calls Tryd.prog 29 #[.slice (some ⟨g, 0, none⟩) ss.length cap, .func (.func 22) #[] #[]] w fun e w' => e = .returned (.tuple #[]) ∧ ∃ n os, w' = grow (putRow encStr (Sort.ahead w n) g 0 (sortP ss).toArray) os := by
  have hd : (shs ss h).toArray.size = ss.length := by simp [shs_length]
  have := Any.slices_SortFunc_total Tryd.sort27 encSh (fun _ => rfl) cfSh swo_cf 22 #[] g 0 cap (shs ss h).toArray w enters22 (cmp_lays w hml g hg _) (holds_sh h hH) hlt (by rw [hd]; omega) tot_cf
  rw [hd] at this
  refine this.mono ?_
  rintro e w' ⟨rfl, n, os, rfl⟩
  refine ⟨rfl, n, os, ?_⟩
  unfold sortWorld
  rw [putRow_sh]
  congr 2
  rw [List.map_toArray, sort_sh, shs_map]

theorem sort_none (p : Option Addr) (cap : Nat) (fv : Value) (w : World) : Calls Tryd.prog 29 #[.slice p 0 cap, fv] w fun e w' => e = .returned (.tuple #[]) ∧ w' = w :=
  AnyF.slices_SortFunc_none (P := Tryd.prog) (ρ := Tryd.sort27_ren) { Tryd.sort27 with } p cap fv w

set_option maxRecDepth 100000 in
set_option maxHeartbeats 1000000 in
theorem sorted_any (b Bm : Nat) (l : List It) (w : World) (hT : TreeAt w b l) (hn : (l.map (·.path)).Nodup) (hl : l.length ≤ 1000) (hml : ML w) (hp : ∀ x ∈ l, x.path.length ≤ 1048576) (hBm : Bm < w.heap.size) (hm : w.cell? ⟨Bm, 0, none⟩ = some (.map (some b))) :
    Calls Tryd.prog 20 #[.func (.func 30) #[] #[.pointer (some ⟨Bm, 0, none⟩)], .func (.func 22) #[] #[]] w fun e w' => ∃ (v : Value), e = .returned v ∧ w'.ownsRow w.heap.size 9 1 v l.length ((sortP (l.map (·.path))).map encStr) ∧ Below w.heap.size w w' := by
  have HC := hidI (collect_any b Bm l w hT hn hl hBm hm)
  have h0 := hml.lt
  have Hml := hidI hml
  have Hp := hidI hp
  clear hT hml hm hp
  go_enter Tryd.func20, Tryd.ntmps20
  go_wp2_with fail
  refine HC.out.mono ?_
  rintro e W ⟨v, ss, rfl, hS, hrow, hb⟩
  have hlen : ss.length = l.length := by simpa using hS.length_eq
  have hsort : sortP ss = sortP (l.map (·.path)) := by
    unfold sortP
    refine List.Perm.eq_of_pairwise (le := fun a b : Bs => (!less b a) = true) (fun a b _ _ h1 h2 => ?_) (List.pairwise_mergeSort ?_ ?_ ss) (List.pairwise_mergeSort ?_ ?_ _) (((List.mergeSort_perm ss _).trans hS).trans (List.mergeSort_perm _ _).symm)
    · simp at h1 h2; exact less_total a b h2 h1
    all_goals first
      | (intro a b c h1 h2
         simp at h1 h2 ⊢
         cases h : less c a with
         | false => rfl
         | true =>
           cases h3 : less c b with
           | true => rw [h2] at h3; cases h3
           | false => have := less_total b c (by
                        cases h4 : less b c with
                        | false => rfl
                        | true => have := less_trans _ _ _ h4 h; rw [h1] at this; cases this) h3
                      subst this; rw [h1] at h; cases h)
      | (intro a b
         simp
         cases h : less b a with
         | false => exact .inl rfl
         | true => exact .inr (less_asymm h))
  have hss : ∀ s ∈ ss, s.length ≤ 1048576 := fun s hs => by
    obtain ⟨x, hx, rfl⟩ := List.mem_map.1 (hS.mem_iff.1 hs)
    exact Hp.out x hx
  have hmlW := Hml.out.below hb h0
  have HS := hidI hsort
  clear hsort
  rcases hrow.2 with ⟨rfl, hz⟩ | ⟨gb, cap, cur, rfl, hbase, hgb, r1, r2, r3, r4⟩
  · have HN := hidI (sort_none none 0 (.func (.func 22) #[] #[]) W)
    have hss0 : ss = [] := List.eq_nil_of_length_eq_zero hz
    have HF : Hid (W.ownsRow w.heap.size 9 1 (.slice none 0 0) l.length ((sortP (l.map (·.path))).map encStr)) := by
      have h := hrow
      rw [hlen] at h
      show W.ownsRow w.heap.size 9 1 (.slice none 0 0) l.length ((sortP (l.map (·.path))).map encStr)
      rw [← HS.out, hss0]
      have e0 : sortP [] = [] := by simp [sortP]
      rw [e0]
      rw [hss0] at h
      exact h
    clear hrow hlen hz hss0
    go_wp2_with fail
    refine HN.out.mono ?_
    rintro e w' ⟨rfl, hw⟩
    have hw' := hw.symm
    subst hw'
    go_wp2
    go_ret
    exact ⟨_, rfl, HF.out, hb⟩
  · have hH : Holds encStr W gb 0 ss.toArray := holds_of_block hgb (by simpa using r4)
    have hgl : gb < W.heap.size := (Array.getElem?_eq_some_iff.1 hgb).1
    have HN := hidI (sort_any gb cap ss W hmlW (by omega) hgl hss (by omega) hH)
    have HF : Hid (∀ n os, (grow (putRow encStr (Sort.ahead W n) gb 0 (sortP ss).toArray) os).ownsRow w.heap.size 9 1 (.slice (some ⟨gb, 0, none⟩) ss.length cap) l.length ((sortP (l.map (·.path))).map encStr)) := fun n os => by
      rw [← hlen, ← HS.out]
      exact ownsRow_sorted (by simp [sortP]) hbase hgb r1 r2 r3
    clear hrow hH hmlW hss hlen r3 r4 hgb
    go_wp2_with fail
    refine HN.out.mono ?_
    rintro e w' ⟨rfl, n, os, hw⟩
    have HB : Hid (Below w.heap.size w w') := by rw [hw]; exact hb.grown (grownBy_sorted _) hb.size (fun j hj => by cases hj; exact hbase)
    have HF' := HF.out n os
    rw [← hw] at HF'
    clear hw HF HN
    go_wp2
    go_ret
    exact ⟨_, rfl, HF', HB.out⟩

end Go.Proofs.YtodmdkhdbfbfgaaDoor
