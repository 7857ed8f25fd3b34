/- What lentItems makes and asLent says: a list that is handed in, with two marks behind it; and what flash.Check returns. -/
import Derived.Test.YtodmdkhdbfbfgaaDoorOwnW
import Derived.Test.YtodmdkhdbfbfgaaDoorNew
import Derived.Test.YtodmdkhdbfbfgaaDoorItems
import Derived.Laws.CopyOwn
import Derived.Lib.SliceRun
namespace Go.Proofs.YtodmdkhdbfbfgaaDoor
open Go.RowKit Go.Nt
set_option linter.unusedVariables false

/-- copy of elements of several cells into a row that is known whole. -/
theorem run_copy_rows (P : Program) (w : World) (dT sT ty elem : TypeId) (size : Nat) (g o dLen dCap : Nat) (a : Addr) (sLen sCap : Nat) (cur : Array Value) (t : TypeId) (cs : List Value)
    (hu : P.underlying dT = some (.slice elem)) (hs : (P.info? elem).map (·.size) = some size)
    (hg : w.heap[g]? = some (.cells cur t (0, 0))) (hn : cs.length = Nat.min sLen dLen * size)
    (hsrc : ∀ j v, cs[j]? = some v → w.cell? (a.add j) = some v) (hfit : o + cs.length ≤ cur.size) (h1 : ∀ v ∈ cs, v.oneCell' = true) :
    (Builtin.copy_ #[dT, sT] ty #[.slice (some ⟨g, o, none⟩) dLen dCap, .slice (some a) sLen sCap]).run P w =
      .ok (goInt (Nat.min sLen dLen : Nat)) (w.setRow g (cur.toList.take o ++ cs ++ cur.toList.drop (o + cs.length)).toArray) := by
  have hl := run_loadCells_list (P := P) w a cs hsrc
  have hst := run_storeCells_at P g o t cs 0 cur w hg (by simpa using hfit) h1
  cases hq : P.info? elem with
  | none => simp [hq] at hs
  | some i =>
    have hi : i.size = size := by simpa [hq] using hs
    simp [Builtin.copy_, run_underlying hu, Builtin.lenOf, Builtin.firstCells, sizeOf, typeInfo, hq, hi, ← hn, hl, hst]

theorem run_copy_rows_nil (P : Program) (w : World) (dT sT ty elem : TypeId) (a : Addr) (dLen dCap c : Nat) (hu : P.underlying dT = some (.slice elem)) (hs : ((P.info? elem).map (·.size)).isSome = true) :
    (Builtin.copy_ #[dT, sT] ty #[.slice (some a) dLen dCap, .slice none 0 c]).run P w = .ok (goInt 0) w := by
  cases hq : P.info? elem with
  | none => simp [hq] at hs
  | some i => simp [Builtin.copy_, run_underlying hu, Builtin.lenOf, Builtin.firstCells, sizeOf, typeInfo, hq, storeCells]

theorem size24 : (Tryd.prog.info? 24).map (·.size) = some 5 := by kernel_rfl

theorem made_its (n : Nat) : madeCells #[.string ByteArray.empty, .bool false, .string ByteArray.empty, .int .i64 0, .int .i64 0] (n * 5) = (its (mks n 0)).toArray := by
  apply Array.ext_getElem?
  intro j
  have hr : (its (mks n 0)).toArray[j]? = (its (mks n 0))[j]? := by simp
  rw [hr]
  by_cases hj : j < n * 5
  · have hk : j / 5 < n := by omega
    have hx : (mks n 0)[j / 5]? = some (mkIt 0) := by simp [mks, hk]
    have e : j = j / 5 * 5 + j % 5 := by omega
    have hg := its_get hx (j % 5) (by omega)
    rw [← e] at hg
    rw [hg]
    unfold madeCells
    rw [Array.getElem?_map, Array.getElem?_range, if_pos hj]
    have h5 : j % 5 < 5 := by omega
    have key : ∀ q, q < 5 → (some ((#[Value.string ByteArray.empty, .bool false, .string ByteArray.empty, .int .i64 0, .int .i64 0] : Array Value)[q]!)) = (itl (mkIt 0))[q]? := by
      intro q hq
      match q, hq with
      | 0, _ => rfl
      | 1, _ => rfl
      | 2, _ => rfl
      | 3, _ => rfl
      | 4, _ => rfl
    exact key (j % 5) h5
  · rw [List.getElem?_eq_none (by rw [its_length, mks_length]; omega)]
    rw [Array.getElem?_eq_none (by rw [size_madeCells]; omega)]

/-- A block that is just these items. -/
def BlockIs (w : World) (g : Nat) (l : List It) : Prop := w.heap[g]? = some (.cells (its l).toArray 24 (0, 0))

theorem BlockIs.cells {w : World} {g : Nat} {l : List It} (h : BlockIs w g l) : ∀ k (x : It), l[k]? = some x → ItAt w g (k * 5) x := by
  intro k x hx
  refine ItAt.of_cells fun j u hu => ?_
  have hj : j < 5 := by have := (List.getElem?_eq_some_iff.1 hu).1; simpa [itl] using this
  rw [cell_of_row w g _ _ 24 (0, 0) h, List.getElem?_toArray, its_get hx j hj]
  exact hu
theorem BlockIs.frozen {w : World} {g : Nat} {l : List It} (h : BlockIs w g l) (j : Nat) : w.frozen? ⟨g, j, none⟩ = false := frozen_of_row w g j _ 24 h
theorem BlockIs.below {w w' : World} {B g : Nat} {l : List It} (h : BlockIs w g l) (hb : Below B w w') (hlt : g < B) : BlockIs w' g l := (hb.block g hlt).trans h
theorem BlockIs.front {w : World} {g : Nat} {l m : List It} (h : BlockIs w g (l ++ m)) : ItsIn w (some ⟨g, 0, none⟩) l := fun _ => ⟨g, 0, rfl, fun k x hx => by
  rw [Nat.zero_add]
  exact h.cells k x (by rw [List.getElem?_append_left (List.getElem?_eq_some_iff.1 hx).1]; exact hx)⟩
theorem BlockIs.mode {w : World} {g : Nat} {l : List It} {k : Nat} {x : It} (h : BlockIs w g l) (hx : l[k]? = some x) (m : Int) : BlockIs (w.setCell ⟨g, k * 5 + 3, none⟩ (.int .i64 m)) g (l.set k { x with mode := m }) := by
  have hk := (List.getElem?_eq_some_iff.1 hx).1
  unfold BlockIs
  rw [heap_setCell_same w g (k * 5 + 3) _ 24 _ h]
  congr 2
  apply Array.toList_inj.1
  rw [Array.toList_setIfInBounds, ← its_set l k { x with mode := m } hk]
  have q0 := its_get hx 0 (by omega)
  have q1 := its_get hx 1 (by omega)
  have q2 := its_get hx 2 (by omega)
  have q4 := its_get hx 4 (by omega)
  have s : ∀ (L : List Value) i u, L[i]? = some u → L.set i u = L := fun L i u h => by
    obtain ⟨hi, rfl⟩ := List.getElem?_eq_some_iff.1 h
    exact List.set_getElem_self hi
  have e0 : (its l).set (k * 5) (.string (txt x.path)) = its l := s _ _ _ q0
  have e1 : (its l).set (k * 5 + 1) (.bool x.dir) = its l := s _ _ _ q1
  have e2 : (its l).set (k * 5 + 2) (.string (txt x.data)) = its l := s _ _ _ q2
  rw [show (its l).set (k * 5) (.string (txt ({ x with mode := m } : It).path)) = its l from e0, show (its l).set (k * 5 + 1) (.bool ({ x with mode := m } : It).dir) = its l from e1, show (its l).set (k * 5 + 2) (.string (txt ({ x with mode := m } : It).data)) = its l from e2]
  symm
  apply s
  rw [List.getElem?_set_ne (by omega)]
  exact q4

set_option maxRecDepth 100000 in
set_option maxHeartbeats 1000000 in
theorem lent_any (a : Option Addr) (c : Nat) (l : List It) (w : World) (hl : ItsIn w a l) (hn : l.length ≤ 1048576) :
    Calls Tryd.prog 6 #[.slice a l.length c] w fun e w' => e = .returned (.slice (some ⟨w.heap.size, 0, none⟩) (l.length + 2) (l.length + 2)) ∧ Below w.heap.size w w' ∧ BlockIs w' w.heap.size (l ++ mks 2 (-77)) := by
  obtain ⟨i0, hi, hz0, hz1, hz2⟩ := info_parts Tryd.info24
  obtain ⟨n, hln⟩ : ∃ n, n = l.length := ⟨_, rfl⟩
  have hmk := run_make (P := Tryd.prog) w 22 24 i0 _ Tryd.underlying22 hi hz0 .i64 .i64 ((n : Int) + 2) ((n : Int) + 2) (by omega) (by omega) (by rw [hz2]; omega) (by omega)
  rw [show ((n : Int) + 2).toNat = n + 2 by omega, hz1, show (Value.agg #[.string ByteArray.empty, .bool false, .string ByteArray.empty, .int .i64 0, .int .i64 0]).cells = #[.string ByteArray.empty, .bool false, .string ByteArray.empty, .int .i64 0, .int .i64 0] from rfl, made_its] at hmk
  obtain ⟨W1, hW1⟩ : ∃ W1, W1 = w.alloc (.cells (its (mks (n + 2) 0)).toArray 24) := ⟨_, rfl⟩
  have hblk1 : BlockIs W1 w.heap.size (mks (n + 2) 0) := by rw [hW1]; exact heap_alloc_new _ _
  have hb1 : Below w.heap.size w W1 := by rw [hW1]; exact (Below.refl _ w).alloc (Nat.le_refl _) _
  rw [← hW1] at hmk
  have hm2 : Nat.min n (n + 2) = n := Nat.min_eq_left (by omega)
  have hcopy : ∃ W2, (Builtin.copy_ #[22, 22] 3 #[.slice (some ⟨w.heap.size, 0, none⟩) (n + 2) (n + 2), .slice a n c]).run Tryd.prog W1 = .ok (.int .i64 n) W2 ∧ BlockIs W2 w.heap.size (l ++ mks 2 0) ∧ Below w.heap.size w W2 := by
    have hself : BlockIs W1 w.heap.size (mks n 0 ++ mks 2 0) := by
      have e : mks n 0 ++ mks 2 0 = mks (n + 2) 0 := by unfold mks; rw [List.replicate_append_replicate]
      rw [e]; exact hblk1
    have go : ∀ ad : Addr, a = some ad → (∀ j u, (its l)[j]? = some u → W1.cell? (ad.add j) = some u) → ∃ W2, (Builtin.copy_ #[22, 22] 3 #[.slice (some ⟨w.heap.size, 0, none⟩) (n + 2) (n + 2), .slice a n c]).run Tryd.prog W1 = .ok (.int .i64 n) W2 ∧ BlockIs W2 w.heap.size (l ++ mks 2 0) ∧ Below w.heap.size w W2 := by
      intro ad ha hsrc
      subst ha
      have hll : (its l).length = n * 5 := by rw [its_length, hln]
      have hr := run_copy_rows Tryd.prog W1 22 22 3 24 5 w.heap.size 0 (n + 2) (n + 2) ad n c _ 24 (its l) Tryd.underlying22 size24 hself (by rw [hm2, hll]) hsrc (by rw [hll, List.size_toArray, its_length, List.length_append, mks_length, mks_length]; omega) its_one_cell
      rw [hm2] at hr
      refine ⟨_, hr, ?_, below_setRow hb1 (Nat.le_refl _) _⟩
      unfold BlockIs
      rw [setRow_heap W1 w.heap.size _ _ 24 _ hself]
      congr 3
      rw [List.take_zero, List.nil_append, Nat.zero_add, hll, its_append, its_append, List.drop_append_of_le_length (by rw [its_length, mks_length]; exact Nat.le_refl _), List.drop_of_length_le (by rw [its_length, mks_length]; exact Nat.le_refl _), List.nil_append]
    by_cases h0 : l = []
    · have hn0 : n = 0 := by rw [hln, h0]; rfl
      cases ha : a with
      | none =>
        subst hn0
        refine ⟨W1, run_copy_rows_nil Tryd.prog W1 22 22 3 24 _ _ _ c Tryd.underlying22 (by rw [size24]; rfl), ?_, hb1⟩
        rw [h0]; exact hself
      | some ad =>
        rw [← ha]
        exact go ad ha (fun j u hu => by rw [h0] at hu; simp [its] at hu)
    · obtain ⟨b, off, ha, hc⟩ := hl h0
      exact go _ ha (its_cells fun k x hx => (hc k x hx).below hb1 (hc k x hx).lt)
  obtain ⟨W2, hcp, hblk2, hb2⟩ := hcopy
  have hxn : (l ++ mks 2 0)[n]? = some (mkIt 0) := by rw [List.getElem?_append_right (by omega), hln]; simp [mks]
  have hblk3 := hblk2.mode hxn (-77)
  have hxn1 : ((l ++ mks 2 0).set n { mkIt 0 with mode := -77 })[n + 1]? = some (mkIt 0) := by rw [List.getElem?_set_ne (by omega), List.getElem?_append_right (by omega), hln]; simp [mks]
  have hblk4 := hblk3.mode hxn1 (-77)
  have hend : ((l ++ mks 2 0).set n { mkIt 0 with mode := -77 }).set (n + 1) { mkIt 0 with mode := -77 } = l ++ mks 2 (-77) := by
    have e : mks 2 0 = [mkIt 0, mkIt 0] := rfl
    rw [e, hln, List.set_append_right _ _ (Nat.le_refl _), List.set_append_right _ _ (by omega)]
    simp
    rfl
  rw [hend] at hblk4
  have c3 : W2.cell? ⟨w.heap.size, n * 5 + 3, none⟩ = some (.int .i64 0) := (hblk2.cells n _ hxn).2.2.2.1
  have f3 := hblk2.frozen (n * 5 + 3)
  have d3 : (W2.setCell ⟨w.heap.size, n * 5 + 3, none⟩ (.int .i64 (-77))).cell? ⟨w.heap.size, (n + 1) * 5 + 3, none⟩ = some (.int .i64 0) := (hblk3.cells (n + 1) _ hxn1).2.2.2.1
  have g3 := hblk3.frozen ((n + 1) * 5 + 3)
  have HB := hidI ((hb2.setCell (p := ⟨w.heap.size, n * 5 + 3, none⟩) (Nat.le_refl _) (.int .i64 (-77))).setCell (p := ⟨w.heap.size, (n + 1) * 5 + 3, none⟩) (Nat.le_refl _) (.int .i64 (-77)))
  have H4 := hidI hblk4
  rw [← hln]
  rw [← hln] at hn
  have Hln := hidI hln
  clear hblk1 hblk2 hblk3 hblk4 hb1 hb2 hW1 hend hxn hxn1 hl hm2 hln hi hz0 hz1 hz2
  go_enter Tryd.func6, Tryd.ntmps6
  go_wp2
  go_ret
  exact ⟨rfl, HB.out, H4.out⟩

theorem eql_it (x y : It) (w : World) : (binOp .eql 24 (itv x) (itv y)).run Tryd.prog w = .ok (.bool (decide (x = y))) w := by
  have h := eq_it x y w
  unfold itv at *
  rw [run_eql_struct, h]
  rfl

set_option maxRecDepth 100000 in
set_option maxHeartbeats 1000000 in
theorem asLent_any (G : Nat) (a : Option Addr) (c : Nat) (l : List It) (w : World) (hG : BlockIs w G (l ++ mks 2 (-77))) (hl : ItsIn w a l) (hn : l.length ≤ 1048576) :
    Calls Tryd.prog 10 #[.slice (some ⟨G, 0, none⟩) (l.length + 2) (l.length + 2), .slice a l.length c] w fun e w' => e = .returned (.bool true) ∧ ∃ q, w' = w.drewN q := by
  have HS := hidI (same_any (some ⟨G, 0, none⟩) a (l.length + 2) c l l w hG.front hl hn hn)
  have q0 := hG.cells l.length (mkIt (-77)) (by rw [List.getElem?_append_right (Nat.le_refl _)]; simp [mks])
  have q1 := hG.cells (l.length + 1) (mkIt (-77)) (by rw [List.getElem?_append_right (by omega)]; simp [mks])
  obtain ⟨n, hln⟩ : ∃ n, n = l.length := ⟨_, rfl⟩
  have heq : ∀ w, (binOp .eql 24 (.agg #[.string ByteArray.empty, .bool false, .string ByteArray.empty, .int .i64 (-77), .int .i64 0]) (.agg #[.string ByteArray.empty, .bool false, .string ByteArray.empty, .int .i64 (-77), .int .i64 0])).run Tryd.prog w = .ok (.bool true) w := fun w => by
    have h := eql_it (mkIt (-77)) (mkIt (-77)) w
    rw [decide_eq_true rfl] at h
    exact h
  have hge := eqg
  rw [← hln] at HS hn q0 q1 ⊢
  have Hln := hidI hln
  rw [decide_eq_true rfl] at HS
  obtain ⟨y0, y1, y2, y3, y4⟩ := q0
  obtain ⟨z0, z1, z2, z3, z4⟩ := q1
  have x0 : ∀ q, (w.drewN q).cell? ⟨G, n * 5, none⟩ = some (.string ByteArray.empty) := fun q => by rw [World.cell?_of_block (w := w) (by simp)]; exact y0
  have x1 : ∀ q, (w.drewN q).cell? ⟨G, n * 5 + 1, none⟩ = some (.bool false) := fun q => by rw [World.cell?_of_block (w := w) (by simp)]; exact y1
  have x2 : ∀ q, (w.drewN q).cell? ⟨G, n * 5 + 2, none⟩ = some (.string ByteArray.empty) := fun q => by rw [World.cell?_of_block (w := w) (by simp)]; exact y2
  have x3 : ∀ q, (w.drewN q).cell? ⟨G, n * 5 + 3, none⟩ = some (.int .i64 (-77)) := fun q => by rw [World.cell?_of_block (w := w) (by simp)]; exact y3
  have x4 : ∀ q, (w.drewN q).cell? ⟨G, n * 5 + 4, none⟩ = some (.int .i64 0) := fun q => by rw [World.cell?_of_block (w := w) (by simp)]; exact y4
  have u0 : ∀ q, (w.drewN q).cell? ⟨G, (n + 1) * 5, none⟩ = some (.string ByteArray.empty) := fun q => by rw [World.cell?_of_block (w := w) (by simp)]; exact z0
  have u1 : ∀ q, (w.drewN q).cell? ⟨G, (n + 1) * 5 + 1, none⟩ = some (.bool false) := fun q => by rw [World.cell?_of_block (w := w) (by simp)]; exact z1
  have u2 : ∀ q, (w.drewN q).cell? ⟨G, (n + 1) * 5 + 2, none⟩ = some (.string ByteArray.empty) := fun q => by rw [World.cell?_of_block (w := w) (by simp)]; exact z2
  have u3 : ∀ q, (w.drewN q).cell? ⟨G, (n + 1) * 5 + 3, none⟩ = some (.int .i64 (-77)) := fun q => by rw [World.cell?_of_block (w := w) (by simp)]; exact z3
  have u4 : ∀ q, (w.drewN q).cell? ⟨G, (n + 1) * 5 + 4, none⟩ = some (.int .i64 0) := fun q => by rw [World.cell?_of_block (w := w) (by simp)]; exact z4
  clear y0 y1 y2 y3 y4 z0 z1 z2 z3 z4 hln hG hl
  go_enter Tryd.func10, Tryd.ntmps10
  go_wp2_with fail
  refine HS.out.mono ?_
  rintro e w' ⟨rfl, q, hw⟩
  have x0' := x0 q
  have x1' := x1 q
  have x2' := x2 q
  have x3' := x3 q
  have x4' := x4 q
  have u0' := u0 q
  have u1' := u1 q
  have u2' := u2 q
  have u3' := u3 q
  have u4' := u4 q
  rw [← hw] at x0' x1' x2' x3' x4' u0' u1' u2' u3' u4'
  have Hw := hidI hw
  clear x0 x1 x2 x3 x4 u0 u1 u2 u3 u4 hw HS
  go_wp2
  go_ret
  exact ⟨rfl, q, Hw.out⟩

set_option maxRecDepth 100000 in
set_option maxHeartbeats 1000000 in
theorem check_any (a : Option Addr) (c : Nat) (l : List It) (w : World) (hml : ML w) (hl : ItsIn w a l) (hn : l.length ≤ 1048576) (hp : ∀ x ∈ l, x.path.length ≤ 1048576) (hd : ∀ x ∈ l, x.data.length ≤ 1048576) :
    Calls Tryd.prog 4 #[.slice a l.length c] w fun e w' => Below w.heap.size w w' ∧
      ((isTree l = false ∧ e = .returned (.tuple #[.slice none 0 0, .int .i64 3])) ∨ (isTree l = true ∧ ∃ v, e = .returned (.tuple #[v, .int .i64 0]) ∧ w'.ownsRow w.heap.size 24 5 v l.length (its (inOrder l)))) := by
  have HN := hidI (new_any a c l w hml hl hn hp hd)
  have Hml := hidI hml
  have h0 := hml.lt
  have Hp := hidI hp
  clear hml hl hp hd
  go_enter Tryd.func4, Tryd.ntmps4
  go_wp2_with fail
  refine HN.out.mono ?_
  rintro e W ⟨hb, ⟨ht, rfl⟩ | ⟨ht, b, rfl, hbs, hT⟩⟩
  · have HR := hidI ht
    clear ht
    go_wp2
    go_ret2
    exact ⟨hb, .inl ⟨HR.out, rfl⟩⟩
  · have HR := hidI ht
    have hnd : (l.map (·.path)).Nodup := by
      unfold isTree at ht
      simp only [Bool.and_eq_true, decide_eq_true_eq] at ht
      exact ht.1.2
    have h60 : l.length ≤ 60 := by
      unfold isTree at ht
      simp only [Bool.and_eq_true, decide_eq_true_eq] at ht
      exact ht.1.1.1
    have hsz := hb.size
    have HI := hidI (items_any b l W hT hnd (by omega) (Hml.out.below hb h0) Hp.out)
    clear ht hT hnd
    go_wp2_with fail
    refine HI.out.mono ?_
    rintro e W2 ⟨hb2, v, rfl, hrow⟩
    have HB : Hid (Below w.heap.size w W2) := hb.trans (hb2.mono hsz)
    have Hrow := hidI (own_mono hrow hsz)
    clear hrow hb2
    go_wp2
    go_ret2
    exact ⟨HB.out, .inr ⟨HR.out, v, rfl, Hrow.out⟩⟩
end Go.Proofs.YtodmdkhdbfbfgaaDoor
