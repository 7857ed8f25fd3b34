/- What Items returns: the tree as a list, in its order. -/
import Derived.Test.YtodmdkhdbfbfgaaDoorKeys
import Derived.Test.YtodmdkhdbfbfgaaDoorRefCheck
import Derived.Laws.MakeOwn
import Derived.Maps.AppendAt
namespace Go.Proofs.YtodmdkhdbfbfgaaDoor
open Go.RowKit Go.Nt Go.Sort Go.Lib Go.Shelf
set_option linter.unusedVariables false

/-- The order of a tree is that of its paths. -/
theorem order_paths (l : List It) : (inOrder l).map (·.path) = sortP (l.map (·.path)) := by
  unfold inOrder sortP
  exact List.map_mergeSort (f := fun x : It => x.path) (r := fun x y : It => !less y.path x.path) (s := fun x y => !less y x) (l := l) (fun a _ b _ => rfl)
theorem order_length (l : List It) : (inOrder l).length = l.length := by simp [inOrder]
theorem order_mem {l : List It} {x : It} : x ∈ inOrder l ↔ x ∈ l := by simp [inOrder]

theorem wpList_len_tree {w : World} {ops : Array Oper} {rest : List Oper} {o : Oper} {a : Act} {Q : Exit → Act → World → Prop} (hg : o.guard = none) (m : Operand) (hop : o.op = Op.call { callee := Callee.builtin Builtin.len, args := #[m], argTypes := #[35] })
    (b : Nat) (l : List It) (hm : a.eval m = .map (some b)) (hT : TreeAt w b l) (hn : (l.map (·.path)).Nodup)
    (hK : wpList Tryd.prog ops Q rest (a.put o.dst (.int .i64 l.length)) w) :
    wpList Tryd.prog ops Q (o :: rest) a w := by
  refine wpList_plain hg fun K' hK' => ?_
  unfold Oper.wp
  simp [execOp, hop, resolve, invoke, builtin, hm, hT.len hn o.type, Result.andThen]
  exact hK' _ _ hK

/-- Cells of a row of texts that is owned. -/
theorem row_text {w : World} {B gk cap n : Nat} {ps : List Bs} (h : w.ownsRow B 9 1 (.slice (some ⟨gk, 0, none⟩) n cap) n (ps.map encStr)) {k : Nat} {p : Bs} (hk : ps[k]? = some p) : w.cell? ⟨gk, k, none⟩ = some (.string (txt p)) := by
  rcases h.2 with ⟨e, _⟩ | ⟨g, cap', cur, e, _, hb, h1, h2, h3, h4⟩
  · cases e
  · cases e
    rw [cell_of_row w gk k cur 9 (0, 0) hb]
    have hlt : k < ps.length := (List.getElem?_eq_some_iff.1 hk).1
    have hl := h.1
    simp at hl
    have h5 := congrArg (fun z : List Value => z[k]?) h4
    simp only [Nat.mul_one] at h5
    rw [List.getElem?_take_of_lt (by omega), List.getElem?_map, hk] at h5
    have h6 : cur[k]? = some (encStr p) := by simpa using h5
    exact h6

set_option maxRecDepth 100000 in
set_option maxHeartbeats 1000000 in
theorem items_any (b : Nat) (l : List It) (w : World) (hT : TreeAt w b l) (hn : (l.map (·.path)).Nodup) (hl : l.length ≤ 1000) (hml : ML w) (hp : ∀ x ∈ l, x.path.length ≤ 1048576) :
    Calls Tryd.prog 12 #[.map (some b)] w fun e w' => Below w.heap.size w w' ∧ ∃ v, e = .returned v ∧ w'.ownsRow w.heap.size 24 5 v l.length (its (inOrder l)) := by
  obtain ⟨i0, hi, hz0, hz1, hz2⟩ := info_parts Tryd.info24
  obtain ⟨w1, hmk, hown1, hg1⟩ := run_make_own (P := Tryd.prog) w w.heap.size 22 24 i0 _ 5 Tryd.underlying22 hi hz0 hz1 .i64 .i64 l.length (by rw [hz2]; omega) (by unfold maxLen; omega) (Nat.le_refl _)
  have hb1 : Below w.heap.size w w1 := (Below.refl _ w).grown hg1 (Nat.le_refl _) (fun q hq => by cases hq)
  have hblt := hT.lt
  have hs1 : w.heap.size < w1.heap.size := by
    rcases hown1.2 with ⟨e, _⟩ | ⟨g, cap, cur, e, _, hh, _⟩
    · cases e
    · cases e; exact lt_of_heap hh
  have hT1 : TreeAt (w1.alloc (.cells #[.map (some b)] 35)) b l := (hT.below hb1 hblt).of_block (Below.heap_alloc w1 _ b (by omega))
  have hml1 : ML (w1.alloc (.cells #[.map (some b)] 35)) := (hml.below hb1 hml.lt).below ((Below.refl _ w1).alloc (Nat.le_refl _) _) (by omega)
  have HK := hidI (keys_any (some b) w1)
  have HS := hidI (sorted_any b w1.heap.size l _ hT1 hn hl hml1 hp (by simp) (by simp))
  have HT := hidI hT
  have Hn := hidI hn
  have Hp := hidI hp
  have Hg1 := hidI hg1
  clear hT hn hml hp hT1 hml1 hg1
  go_enter Tryd.func12, Tryd.ntmps12
  go_wp2_with (first | (at_len; refine wpList_len_tree rfl _ rfl b l rfl HT.out Hn.out ?_) | (go_at_call 21; refine HK.out.mono ?_; rintro e w' ⟨rfl, rfl⟩) | fail)
  refine HS.out.mono ?_
  rintro e W ⟨v, rfl, hrow, hbW⟩
  have hszW := hbW.size
  rw [World.size_alloc] at hszW hbW
  have HbW : Hid (Below w.heap.size w W) := (hb1.alloc (by omega) _).trans (hbW.mono (by omega))
  have Hown1 : Hid (W.ownsRow w.heap.size 24 5 (.slice (some ⟨w.heap.size, 0, none⟩) 0 l.length) 0 []) := own_below (hown1.alloc _) hbW (fun q hq => (by simpa [Value.ownBlock] using hq : w.heap.size = q) ▸ (by omega))
  have Hrow := hidI hrow
  clear hrow hmk HK HS hbW hown1 Hg1 hb1
  obtain ⟨ak, ck, rfl, Hak⟩ : ∃ ak ck, v = .slice ak l.length ck ∧ Hid (l ≠ [] → ∃ gk, ak = some ⟨gk, 0, none⟩ ∧ w1.heap.size < gk ∧ gk < W.heap.size ∧ ∀ k x, (inOrder l)[k]? = some x → W.cell? ⟨gk, k, none⟩ = some (.string (txt x.path))) := by
    rcases Hrow.out.2 with ⟨rfl, h0⟩ | ⟨gk, cap, cur, rfl, hbase, hh, h1, h2, h3, h4⟩
    · refine ⟨none, 0, by rw [h0], hidI (fun hne => absurd (List.eq_nil_of_length_eq_zero h0) hne)⟩
    · refine ⟨some ⟨gk, 0, none⟩, cap, rfl, hidI (fun _ => ⟨gk, rfl, by simp at hbase; omega, lt_of_heap hh, fun k x hx => ?_⟩)⟩
      refine row_text Hrow.out ?_
      rw [← order_paths, List.getElem?_map, hx]
      rfl
  clear Hrow
  go_wp2
  go_loopw [3, 14] (fun v i wr => ∃ (k : Nat) (a' : Option Addr) (c' : Nat), v = .slice a' k c' ∧ k ≤ l.length ∧ i = .int .i64 k ∧ Hid (wr.ownsRow w.heap.size 24 5 v k (its ((inOrder l).take k))) ∧ Hid (Below w.heap.size w wr) ∧ Hid (∀ j, w1.heap.size < j → j < W.heap.size → wr.heap[j]? = W.heap[j]?) ∧ Hid (v.ownBlock = some w.heap.size ∨ ∃ q, v.ownBlock = some q ∧ W.heap.size ≤ q) ∧ W.heap.size ≤ wr.heap.size) (fun _ i _ => l.length - (intOf i).toNat)
  case atStart => exact ⟨0, _, _, rfl, Nat.zero_le _, rfl, Hown1, HbW, hidI (fun _ _ _ => rfl), hidI (.inl rfl), Nat.le_refl _⟩
  case round =>
    obtain ⟨k, a', c', rfl, hk, rfl, Hown, Hb, Hkeep, Hblk, hszr⟩ := hrel
    by_cases hlt : k < l.length
    · obtain ⟨x, hx⟩ : ∃ x, (inOrder l)[k]? = some x := ⟨_, List.getElem?_eq_getElem (by rw [order_length]; exact hlt)⟩
      have hxl : x ∈ l := order_mem.1 (List.mem_of_getElem? hx)
      obtain ⟨gk, rfl, hgk1, hgk2, hcells⟩ := Hak.out (fun h => by rw [h] at hlt; simp at hlt)
      have hcell : wr.cell? ⟨gk, k, none⟩ = some (.string (txt x.path)) := (World.cell?_of_block (Hkeep.out gk hgk1 hgk2)).trans (hcells k x hx)
      have hT' := HT.out.below Hb.out hblt
      have hlook := (hT'.look_some (p := x.path) (by have := Hp.out x hxl; unfold maxLen; omega) (at_mem Hn.out hxl)).2
      have Hx := hidI hx
      have hszb := Hb.out.size
      unfold ndv nd at hlook
      simp only at hlook
      obtain ⟨X, hX⟩ : ∃ X, X = txt x.path := ⟨_, rfl⟩
      obtain ⟨D, hD⟩ : ∃ X, X = txt x.data := ⟨_, rfl⟩
      obtain ⟨xd, hxd⟩ : ∃ X, X = x.dir := ⟨_, rfl⟩
      rw [← hX] at hcell hlook
      rw [← hD, ← hxd] at hlook
      have HX := hidI hX
      have HD := hidI hD
      have Hxd := hidI hxd
      clear hx hX hD hxd hT' hcells hxl
      go_wp2_with (at_builtin; refine wpList_append_own_at _ rfl _ _ 22 rfl w.heap.size 24 i0 _ 5 56 Tryd.underlying22 hi hz0 hz1 hz2 rfl (by decide) _ _ _ rfl ((Hown.out.alloc _).alloc _) ⟨wr.heap.size + 1, 0, none⟩ 1 1 (itl x) rfl ?e1 ?e2 ?e3 ?e4 ?e5 ?e6 ?_)
      case e1 => rfl
      case e2 =>
        intro j u hu
        rw [addr_add]
        have h := (boxed_at (wr.alloc (.cells #[.bool xd, .string D, .int .i64 x.mode, .int .i64 x.time] 46)) x).cell hu
        unfold boxed at h
        rw [← HX.out, ← HD.out, ← Hxd.out] at h
        simpa using h
      case e3 => intro u hu; exact its_one_cell (l := [x]) u (by rw [its_one]; exact hu)
      case e4 => unfold maxLen; omega
      case e5 => omega
      case e6 => simp; omega
      intro v2 W2 hown2 hgrow2 _ hloc
      obtain ⟨g', cap', rfl⟩ := row_succ hown2
      have hg2 := (((World.grownBy_alloc wr _ (Value.slice a' k c').ownBlock).trans (World.grownBy_alloc _ _ _)).trans hgrow2)
      have Hown2 : Hid (W2.ownsRow w.heap.size 24 5 (.slice (some ⟨g', 0, none⟩) (k + 1) cap') (k + 1) (its ((inOrder l).take (k + 1)))) := by
        show W2.ownsRow w.heap.size 24 5 (.slice (some ⟨g', 0, none⟩) (k + 1) cap') (k + 1) (its ((inOrder l).take (k + 1)))
        rw [List.take_add_one, Hx.out, its_append]
        have e : its (some x).toList = itl x := its_one x
        rw [e]
        exact hown2
      have Hb2 : Hid (Below w.heap.size w W2) := Hb.out.grown hg2 hszb (fun q hq => by
        rcases Hblk.out with h | ⟨q', h, h'⟩
        · rw [h] at hq; cases hq; exact Nat.le_refl _
        · rw [h] at hq; cases hq; omega)
      have Hkeep2 : Hid (∀ j, w1.heap.size < j → j < W.heap.size → W2.heap[j]? = W.heap[j]?) := fun j h1 h2 => by
        rw [hg2.block j (by omega) (fun e => ?_)]
        · exact Hkeep.out j h1 h2
        · rcases Hblk.out with h | ⟨q', h, h'⟩
          · rw [h] at e; cases e; omega
          · rw [h] at e; cases e; omega
      have Hblk2 : Hid ((Value.slice (some ⟨g', 0, none⟩) (k + 1) cap').ownBlock = some w.heap.size ∨ ∃ q, (Value.slice (some ⟨g', 0, none⟩) (k + 1) cap').ownBlock = some q ∧ W.heap.size ≤ q) := by
        rcases hloc with h | h
        · rw [h]; exact Hblk.out
        · exact .inr ⟨_, h, by first | omega | (simp; omega)⟩
      have hsz2 : W.heap.size ≤ W2.heap.size := Nat.le_trans hszr hg2.size
      clear hown2 hgrow2 hg2 hloc hlook hcell Hblk Hkeep Hown
      go_wp2
      go_roundw
      case rel => exact ⟨k + 1, some ⟨g', 0, none⟩, cap', rfl, by omega, by go_num, Hown2, Hb2, Hkeep2, Hblk2, hsz2⟩
      case measure => simp [intOf]; omega
    · have Hfin : Hid (wr.ownsRow w.heap.size 24 5 (.slice a' k c') l.length (its (inOrder l))) := by
        have h := Hown.out
        have e : k = l.length := by omega
        rw [e] at h ⊢
        rw [List.take_of_length_le (by rw [order_length]; exact Nat.le_refl _)] at h
        exact h
      clear Hown
      go_wp2
      go_ret
      exact ⟨Hb.out, _, rfl, Hfin.out⟩
end Go.Proofs.YtodmdkhdbfbfgaaDoor
