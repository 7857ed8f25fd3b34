/- What add of the document's own answer returns: the items with one more, in its place. -/
import Derived.Test.YtodmdkhdbfbfgaaDoorRows5
import Derived.Deep.RegionHeld3
namespace Go.Proofs.YtodmdkhdbfbfgaaDoor
open Go.RowKit Go.Nt
set_option linter.unusedVariables false

theorem below_drewN {B : Nat} {w W : World} (h : Below B w W) (q : Nat) : Below B w (W.drewN q) := by
  induction q with
  | zero => exact h
  | succ q ih => exact ih.drew

/-- The box of an item. -/
def boxed (w : World) (x : It) : World := w.alloc (.cells #[.string (txt x.path), .bool x.dir, .string (txt x.data), .int .i64 x.mode, .int .i64 x.time] 24)

theorem boxed_at (w : World) (x : It) : ItAt (boxed w x) w.heap.size 0 x := by
  refine ItAt.of_cells fun j u hu => ?_
  rw [cell_of_row (boxed w x) w.heap.size (0 + j) _ 24 (0, 0) (heap_alloc_new _ _)]
  simpa [itl] using hu

set_option maxRecDepth 100000 in
set_option maxHeartbeats 2000000 in
theorem add_some (g cap : Nat) (l : List It) (x : It) (w : World) (hg : g < w.heap.size) (hlc : l.length ≤ cap) (hcm : cap ≤ 9223372036854775807) (hc : ∀ k (x : It), l[k]? = some x → ItAt w g (0 + k * 5) x) (hn : l.length ≤ 1000) (hp : x.path.length ≤ 1048576) (hlp : ∀ y ∈ l, y.path.length ≤ 1048576) :
    Calls Tryd.prog 16 #[.slice (some ⟨g, 0, none⟩) l.length cap, itv x] w fun e w' => Below w.heap.size w w' ∧ ∃ v', e = .returned v' ∧ w'.ownsRow w.heap.size 24 5 v' (l.length + 1) (its (ins l x)) := by
  obtain ⟨i0, hi, hz0, hz1, hz2⟩ := info_parts Tryd.info24
  unfold itv
  have Hc := hidI hc
  have Hlp := hidI hlp
  clear hc hlp
  go_enter Tryd.func16, Tryd.ntmps16
  go_wp2
  go_loopw [6] (fun i wr => ∃ k : Nat, k ≤ l.length ∧ i = .int .i64 k ∧ Hid (∀ j y, j < k → l[j]? = some y → less y.path x.path = true) ∧ ∃ q, wr = (boxed w x).drewN q) (fun i _ => l.length - (intOf i).toNat)
  case atStart => exact ⟨0, Nat.zero_le _, rfl, hidI (fun j y h => absurd h (by omega)), 0, rfl⟩
  case round =>
    obtain ⟨k, hk, rfl, Hn, q, hwr⟩ := hrel
    have hsz : wr.heap.size = w.heap.size + 1 := by rw [hwr]; simp [boxed]
    have hcx : ItAt wr w.heap.size 0 x := by rw [hwr]; exact (boxed_at w x).drewN q
    have hcl : ∀ k (y : It), l[k]? = some y → ItAt wr g (0 + k * 5) y := fun k y hy => (Hc.out k y hy).of_block (by rw [hwr]; simp [boxed]; exact Below.heap_alloc w _ g hg)
    have hbel : Below w.heap.size w wr := by rw [hwr]; exact below_drewN ((Below.refl _ w).alloc (Nat.le_refl _) _) q
    have Hcl := hidI hcl
    have Hxb := hidI hcx
    have Hwr := hidI hwr
    clear hcl hwr
    obtain ⟨x0, x1, x2, x3, x4⟩ := hcx
    rw [Nat.zero_add] at x1 x2 x3 x4
    by_cases hlt : k < l.length
    · have hlt' : decide ((k : Int) < (l.length : Int)) = true := by simpa using hlt
      obtain ⟨y, hy⟩ : ∃ y, l[k]? = some y := ⟨_, List.getElem?_eq_getElem hlt⟩
      obtain ⟨y0, y1, y2, y3, y4⟩ := Hcl.out k y hy
      rw [Nat.zero_add] at y0
      have hyp := Hlp.out y (List.mem_of_getElem? hy)
      have Hy := hidI hy
      have HL := hidI (fun W => less_any y.path x.path W (by omega) (by omega))
      clear hy y1 y2 y3 y4
      generalize hb : less y.path x.path = bb at HL
      have Hb := hidI hb
      clear hb
      obtain ⟨Y, hY⟩ : ∃ Y, Y = txt y.path := ⟨_, rfl⟩
      obtain ⟨X, hX⟩ : ∃ X, X = txt x.path := ⟨_, rfl⟩
      rw [← hX] at x0
      rw [← hY] at y0
      rw [← hX, ← hY] at HL
      have HX := hidI hX
      have HY := hidI hY
      have Hx1 := hidI (And.intro x1 (And.intro x2 (And.intro x3 x4)))
      clear hX hY x1 x2 x3 x4 hyp
      go_wp2
      go_region_held3 (fun w' => w'.cell? ⟨w.heap.size, 0, none⟩ = some (.string X) ∧ w'.cell? ⟨g, k * 5, none⟩ = some (.string Y)) (go_keep) (first | (go_at_call 23; refine (HL.out _).mono ?_; rintro e w' ⟨rfl, q3, rfl⟩))
      rename_i hHeld
      clear hHeld x0 y0 HL Hx1
      have hszW : (wr.drewN (1 + q3)).heap.size = w.heap.size + 1 := by simpa using hsz
      have HclW : Hid (∀ k (y : It), l[k]? = some y → ItAt (wr.drewN (1 + q3)) g (0 + k * 5) y) := fun k y hy => (Hcl.out k y hy).drewN _
      have HxW : Hid (ItAt (wr.drewN (1 + q3)) w.heap.size 0 x) := Hxb.out.drewN _
      have HbW : Hid (Below w.heap.size w (wr.drewN (1 + q3))) := below_drewN hbel _
      have HwW : Hid (∃ q, wr.drewN (1 + q3) = (boxed w x).drewN q) := by
        show ∃ q, wr.drewN (1 + q3) = (boxed w x).drewN q
        rw [Hwr.out]; exact drew2 _ _ _
      clear Hcl Hxb hbel Hwr hsz
      generalize wr.drewN (1 + q3) = W at *
      cases bb with
      | true =>
        have Hn2 : Hid (∀ j z, j < k + 1 → l[j]? = some z → less z.path x.path = true) := fun j z hj hz => by
          by_cases e : j = k
          · subst e; rw [Hy.out] at hz; cases hz; exact Hb.out
          · exact Hn.out j z (by omega) hz
        clear hszW HclW HxW HbW
        go_wp2
        go_roundw
        case rel => exact ⟨k + 1, by omega, by go_num, Hn2, HwW.out⟩
        case measure => simp [intOf]; omega
      | false =>
        have HI : Hid (ins l x = l.take k ++ x :: l.drop k) := ins_at hk Hn.out (fun z hz => by rw [Hy.out] at hz; cases hz; exact Hb.out)
        clear HwW
        have hsW : W.heap.size = w.heap.size + 1 := hszW
        go_wp2_with (at_builtin; refine wpList_append_own _ rfl (.tmp 23) (.tmp 26) 22 rfl w.heap.size 24 i0 _ 5 56 Tryd.underlying22 hi hz0 hz1 hz2 rfl (by decide) _ 0 [] rfl (World.ownsRow_nil _ _ _ _) ⟨g, 0, none⟩ k cap (its (l.take k)) rfl ?d1 ?d2 ?d3 ?d4 ?d5 ?d6 ?_)
        case d1 => rw [its_length, List.length_take]; omega
        case d2 => exact its_cells fun j y hy => HclW.out j y (by rw [List.getElem?_take] at hy; split at hy <;> simp_all)
        case d3 => exact its_one_cell
        case d4 => unfold maxLen; omega
        case d5 => omega
        case d6 => omega
        intro v1 W1 hown1 hgrow1 _
        have hbel1 : Below w.heap.size w W1 := HbW.out.grown hgrow1 (by omega) (fun q hq => by cases hq)
        have hs1 : W.heap.size ≤ W1.heap.size := hgrow1.size
        have hk1 : ∀ j, j < W.heap.size → W1.heap[j]? = W.heap[j]? := fun j hj => hgrow1.block j hj (by simp [Value.ownBlock])
        have HclW1 : Hid (∀ k (y : It), l[k]? = some y → ItAt W1 g (0 + k * 5) y) := fun k y hy => (HclW.out k y hy).of_block (hk1 g (by omega))
        have hx1 : ItAt W1 w.heap.size 0 x := HxW.out.of_block (hk1 _ (by omega))
        clear hgrow1 hk1
        obtain ⟨z0, z1, z2, z3, z4⟩ := hx1
        rw [Nat.zero_add] at z1 z2 z3 z4
        go_wp2_with (at_builtin; refine wpList_append_own _ rfl (.tmp 28) (.tmp 30) 22 rfl w.heap.size 24 i0 _ 5 56 Tryd.underlying22 hi hz0 hz1 hz2 rfl (by decide) _ _ _ rfl (hown1.alloc _) ⟨W1.heap.size, 0, none⟩ 1 1 (itl x) rfl ?e1 ?e2 ?e3 ?e4 ?e5 ?e6 ?_)
        case e1 => rfl
        case e2 => intro j u hu; rw [addr_add]; exact (boxed_at W1 x).cell hu
        case e3 => intro u hu; exact its_one_cell (l := [x]) u (by rw [its_one]; exact hu)
        case e4 => unfold maxLen; omega
        case e5 => omega
        case e6 => simp; omega
        intro v2 W2 hown2 hgrow2 _
        have hbel2 : Below w.heap.size w W2 := (hbel1.alloc (by omega) _).grown hgrow2 (by simp; omega) (fun q hq => (hown1.lt q hq).1)
        have hs2 : W1.heap.size ≤ W2.heap.size := by have := hgrow2.size; simp at this; omega
        have HclW2 : Hid (∀ k (y : It), l[k]? = some y → ItAt W2 g (0 + k * 5) y) := fun k y hy => by
          have h1 := (HclW1.out k y hy)
          have h2 : ItAt w g (0 + k * 5) y := Hc.out k y hy
          exact h2.below hbel2 hg
        clear z0 z1 z2 z3 z4 hgrow2 hown1 HclW1 hbel1
        go_wp2_with (at_builtin; refine wpList_append_own _ rfl (.tmp 32) (.tmp 35) 22 rfl w.heap.size 24 i0 _ 5 56 Tryd.underlying22 hi hz0 hz1 hz2 rfl (by decide) _ _ _ rfl hown2 ⟨g, k * 5, none⟩ (l.length - k) (cap - k) (its (l.drop k)) ?f0 ?f1 ?f2 ?f3 ?f4 ?f5 ?f6 ?_)
        case f0 => rfl
        case f1 => rw [its_length, List.length_drop]
        case f2 =>
          refine its_cells fun j y hy => ?_
          rw [List.getElem?_drop] at hy
          have := HclW2.out _ y hy
          rw [show 0 + (k + j) * 5 = k * 5 + j * 5 by omega] at this
          exact this
        case f3 => exact its_one_cell
        case f4 => unfold maxLen; omega
        case f5 => omega
        case f6 => omega
        intro v3 W3 hown3 hgrow3 _
        have hbel3 : Below w.heap.size w W3 := hbel2.grown hgrow3 (by omega) (fun q hq => (hown2.lt q hq).1)
        have hown3' : W3.ownsRow w.heap.size 24 5 v3 (l.length + 1) (its (ins l x)) := by
          have h := hown3
          rw [HI.out, its_append, its_cons]
          rw [show k + 1 + (l.length - k) = l.length + 1 by omega] at h
          exact h
        clear hgrow3 hown3 hown2
        go_wp2
        go_ret
        exact ⟨hbel3, _, rfl, hown3'⟩
    · have hlt' : decide ((k : Int) < (l.length : Int)) = false := by simpa using hlt
      have HI : Hid (ins l x = l.take k ++ x :: l.drop k) := ins_at hk Hn.out (fun z hz => absurd (List.getElem?_eq_some_iff.1 hz).1 hlt)
      obtain rfl : k = l.length := by omega
      go_wp2
      go_quiet (fail)
      have hszW : (wr.drewN nq).heap.size = w.heap.size + 1 := by simpa using hsz
      have HclW : Hid (∀ k (y : It), l[k]? = some y → ItAt (wr.drewN nq) g (0 + k * 5) y) := fun k y hy => (Hcl.out k y hy).drewN _
      have HxW : Hid (ItAt (wr.drewN nq) w.heap.size 0 x) := Hxb.out.drewN _
      have HbW : Hid (Below w.heap.size w (wr.drewN nq)) := below_drewN hbel _
      clear Hcl Hxb hbel Hwr hsz x0 x1 x2 x3 x4
      generalize wr.drewN nq = W at *
      by_cases hcap : cap = l.length
      · subst hcap
        have hsW : W.heap.size = w.heap.size + 1 := hszW
        go_wp2_with (at_builtin; refine wpList_append_own _ rfl (.tmp 23) (.tmp 26) 22 rfl w.heap.size 24 i0 _ 5 56 Tryd.underlying22 hi hz0 hz1 hz2 rfl (by decide) _ 0 [] rfl (World.ownsRow_nil _ _ _ _) ⟨g, 0, none⟩ l.length l.length (its (l.take l.length)) rfl ?d1 ?d2 ?d3 ?d4 ?d5 ?d6 ?_)
        case d1 => rw [its_length, List.length_take]; omega
        case d2 => exact its_cells fun j y hy => HclW.out j y (by rw [List.getElem?_take] at hy; split at hy <;> simp_all)
        case d3 => exact its_one_cell
        case d4 => unfold maxLen; omega
        case d5 => omega
        case d6 => omega
        intro v1 W1 hown1 hgrow1 _
        have hbel1 : Below w.heap.size w W1 := HbW.out.grown hgrow1 (by omega) (fun q hq => by cases hq)
        have hs1 : W.heap.size ≤ W1.heap.size := hgrow1.size
        have hk1 : ∀ j, j < W.heap.size → W1.heap[j]? = W.heap[j]? := fun j hj => hgrow1.block j hj (by simp [Value.ownBlock])
        have HclW1 : Hid (∀ k (y : It), l[k]? = some y → ItAt W1 g (0 + k * 5) y) := fun k y hy => (HclW.out k y hy).of_block (hk1 g (by omega))
        have hx1 : ItAt W1 w.heap.size 0 x := HxW.out.of_block (hk1 _ (by omega))
        clear hgrow1 hk1
        obtain ⟨z0, z1, z2, z3, z4⟩ := hx1
        rw [Nat.zero_add] at z1 z2 z3 z4
        go_wp2_with (at_builtin; refine wpList_append_own _ rfl (.tmp 28) (.tmp 30) 22 rfl w.heap.size 24 i0 _ 5 56 Tryd.underlying22 hi hz0 hz1 hz2 rfl (by decide) _ _ _ rfl (hown1.alloc _) ⟨W1.heap.size, 0, none⟩ 1 1 (itl x) rfl ?e1 ?e2 ?e3 ?e4 ?e5 ?e6 ?_)
        case e1 => rfl
        case e2 => intro j u hu; rw [addr_add]; exact (boxed_at W1 x).cell hu
        case e3 => intro u hu; exact its_one_cell (l := [x]) u (by rw [its_one]; exact hu)
        case e4 => unfold maxLen; omega
        case e5 => omega
        case e6 => simp; omega
        intro v2 W2 hown2 hgrow2 _
        have hbel2 : Below w.heap.size w W2 := (hbel1.alloc (by omega) _).grown hgrow2 (by simp; omega) (fun q hq => (hown1.lt q hq).1)
        have hs2 : W1.heap.size ≤ W2.heap.size := by have := hgrow2.size; simp at this; omega
        have HclW2 : Hid (∀ k (y : It), l[k]? = some y → ItAt W2 g (0 + k * 5) y) := fun k y hy => by
          have h1 := (HclW1.out k y hy)
          have h2 : ItAt w g (0 + k * 5) y := Hc.out k y hy
          exact h2.below hbel2 hg
        clear z0 z1 z2 z3 z4 hgrow2 hown1 HclW1 hbel1
        go_wp2_with (at_builtin; refine wpList_append_own _ rfl (.tmp 32) (.tmp 35) 22 rfl w.heap.size 24 i0 _ 5 56 Tryd.underlying22 hi hz0 hz1 hz2 rfl (by decide) _ _ _ rfl hown2 _ _ _ [] rfl ?_ ?_ (by simp) ?_ ?_ ?_ ?_)
        all_goals first
          | (simp; done)
          | (intro j u hu; simp at hu; done)
          | (unfold maxLen; omega)
          | omega
          | skip
        all_goals
          intro v3 W3 hown3 hgrow3 _
          have hbel3 : Below w.heap.size w W3 := hbel2.grown hgrow3 (by omega) (fun q hq => (hown2.lt q hq).1)
          have hown3' : W3.ownsRow w.heap.size 24 5 v3 (l.length + 1) (its (ins l x)) := by
            have h := hown3
            rw [HI.out, its_append, its_cons]
            rw [List.drop_eq_nil_of_le (Nat.le_refl _), its_nil, List.append_nil, List.take_length]
            exact h
          clear hgrow3 hown3 hown2
          go_wp2
          go_ret
          exact ⟨hbel3, _, rfl, hown3'⟩
      · skip
        have hsW : W.heap.size = w.heap.size + 1 := hszW
        go_wp2_with (at_builtin; refine wpList_append_own _ rfl (.tmp 23) (.tmp 26) 22 rfl w.heap.size 24 i0 _ 5 56 Tryd.underlying22 hi hz0 hz1 hz2 rfl (by decide) _ 0 [] rfl (World.ownsRow_nil _ _ _ _) ⟨g, 0, none⟩ l.length cap (its (l.take l.length)) rfl ?d1 ?d2 ?d3 ?d4 ?d5 ?d6 ?_)
        case d1 => rw [its_length, List.length_take]; omega
        case d2 => exact its_cells fun j y hy => HclW.out j y (by rw [List.getElem?_take] at hy; split at hy <;> simp_all)
        case d3 => exact its_one_cell
        case d4 => unfold maxLen; omega
        case d5 => omega
        case d6 => omega
        intro v1 W1 hown1 hgrow1 _
        have hbel1 : Below w.heap.size w W1 := HbW.out.grown hgrow1 (by omega) (fun q hq => by cases hq)
        have hs1 : W.heap.size ≤ W1.heap.size := hgrow1.size
        have hk1 : ∀ j, j < W.heap.size → W1.heap[j]? = W.heap[j]? := fun j hj => hgrow1.block j hj (by simp [Value.ownBlock])
        have HclW1 : Hid (∀ k (y : It), l[k]? = some y → ItAt W1 g (0 + k * 5) y) := fun k y hy => (HclW.out k y hy).of_block (hk1 g (by omega))
        have hx1 : ItAt W1 w.heap.size 0 x := HxW.out.of_block (hk1 _ (by omega))
        clear hgrow1 hk1
        obtain ⟨z0, z1, z2, z3, z4⟩ := hx1
        rw [Nat.zero_add] at z1 z2 z3 z4
        go_wp2_with (at_builtin; refine wpList_append_own _ rfl (.tmp 28) (.tmp 30) 22 rfl w.heap.size 24 i0 _ 5 56 Tryd.underlying22 hi hz0 hz1 hz2 rfl (by decide) _ _ _ rfl (hown1.alloc _) ⟨W1.heap.size, 0, none⟩ 1 1 (itl x) rfl ?e1 ?e2 ?e3 ?e4 ?e5 ?e6 ?_)
        case e1 => rfl
        case e2 => intro j u hu; rw [addr_add]; exact (boxed_at W1 x).cell hu
        case e3 => intro u hu; exact its_one_cell (l := [x]) u (by rw [its_one]; exact hu)
        case e4 => unfold maxLen; omega
        case e5 => omega
        case e6 => simp; omega
        intro v2 W2 hown2 hgrow2 _
        have hbel2 : Below w.heap.size w W2 := (hbel1.alloc (by omega) _).grown hgrow2 (by simp; omega) (fun q hq => (hown1.lt q hq).1)
        have hs2 : W1.heap.size ≤ W2.heap.size := by have := hgrow2.size; simp at this; omega
        have HclW2 : Hid (∀ k (y : It), l[k]? = some y → ItAt W2 g (0 + k * 5) y) := fun k y hy => by
          have h1 := (HclW1.out k y hy)
          have h2 : ItAt w g (0 + k * 5) y := Hc.out k y hy
          exact h2.below hbel2 hg
        clear z0 z1 z2 z3 z4 hgrow2 hown1 HclW1 hbel1
        go_wp2_with (at_builtin; refine wpList_append_own _ rfl (.tmp 32) (.tmp 35) 22 rfl w.heap.size 24 i0 _ 5 56 Tryd.underlying22 hi hz0 hz1 hz2 rfl (by decide) _ _ _ rfl hown2 _ _ _ [] rfl ?_ ?_ (by simp) ?_ ?_ ?_ ?_)
        all_goals first
          | (simp; done)
          | (intro j u hu; simp at hu; done)
          | (unfold maxLen; omega)
          | omega
          | skip
        all_goals
          intro v3 W3 hown3 hgrow3 _
          have hbel3 : Below w.heap.size w W3 := hbel2.grown hgrow3 (by omega) (fun q hq => (hown2.lt q hq).1)
          have hown3' : W3.ownsRow w.heap.size 24 5 v3 (l.length + 1) (its (ins l x)) := by
            have h := hown3
            rw [HI.out, its_append, its_cons]
            rw [List.drop_eq_nil_of_le (Nat.le_refl _), its_nil, List.append_nil, List.take_length]
            exact h
          clear hgrow3 hown3 hown2
          go_wp2
          go_ret
          exact ⟨hbel3, _, rfl, hown3'⟩
set_option maxRecDepth 100000 in
set_option maxHeartbeats 2000000 in
theorem add_none (x : It) (w : World) : Calls Tryd.prog 16 #[.slice none 0 0, itv x] w fun e w' => Below w.heap.size w w' ∧ ∃ v', e = .returned v' ∧ w'.ownsRow w.heap.size 24 5 v' 1 (its [x]) := by
  obtain ⟨i0, hi, hz0, hz1, hz2⟩ := info_parts Tryd.info24
  unfold itv
  go_enter Tryd.func16, Tryd.ntmps16
  go_wp2
  go_loopw [6] (fun i wr => i = .int .i64 0 ∧ wr = boxed w x) (fun i _ => 0)
  case atStart => exact ⟨rfl, rfl⟩
  case round =>
    obtain ⟨rfl, hwr⟩ := hrel
    have hsz : wr.heap.size = w.heap.size + 1 := by rw [hwr]; simp [boxed]
    have Hxb : Hid (ItAt wr w.heap.size 0 x) := by rw [hwr]; exact boxed_at w x
    have Hbel : Hid (Below w.heap.size w wr) := by rw [hwr]; exact (Below.refl _ w).alloc (Nat.le_refl _) _
    clear hwr
    go_wp2
    go_quiet (fail)
    have hszW : (wr.drewN nq).heap.size = w.heap.size + 1 := by simpa using hsz
    have HxW : Hid (ItAt (wr.drewN nq) w.heap.size 0 x) := Hxb.out.drewN _
    have HbW : Hid (Below w.heap.size w (wr.drewN nq)) := below_drewN Hbel.out _
    clear Hxb Hbel hsz
    generalize wr.drewN nq = W at *
    have hsW : w.heap.size ≤ W.heap.size := by omega
    clear hszW
    obtain ⟨z0, z1, z2, z3, z4⟩ := HxW.out
    rw [Nat.zero_add] at z1 z2 z3 z4
    go_wp2_with (first | (at_builtin; refine wpList_append_own_none rfl (.tmp 23) (.tmp 26) 22 rfl w.heap.size 24 i0 5 Tryd.underlying22 hi _ 0 [] rfl (World.ownsRow_nil _ _ _ _) rfl ?_) | (at_builtin; refine wpList_append_own _ rfl (.tmp 28) (.tmp 30) 22 rfl w.heap.size 24 i0 _ 5 56 Tryd.underlying22 hi hz0 hz1 hz2 rfl (by decide) _ 0 [] rfl (World.ownsRow_nil _ _ _ _) ⟨W.heap.size, 0, none⟩ 1 1 (itl x) rfl ?e1 ?e2 ?e3 ?e4 ?e5 ?e6 ?_))
    case e1 => rfl
    case e2 => intro j u hu; rw [addr_add]; exact (boxed_at W x).cell hu
    case e3 => intro u hu; exact its_one_cell (l := [x]) u (by rw [its_one]; exact hu)
    case e4 => unfold maxLen; omega
    case e5 => omega
    case e6 => simp; omega
    intro v2 W2 hown2 hgrow2 _
    have hbel2 : Below w.heap.size w W2 := (HbW.out.alloc (by omega) _).grown hgrow2 (by simp; omega) (fun q hq => by cases hq)
    clear z0 z1 z2 z3 z4 hgrow2
    obtain ⟨g2, c2, rfl⟩ := row_succ hown2
    go_wp2_with (at_builtin; refine wpList_append_own_none rfl (.tmp 32) (.tmp 35) 22 rfl w.heap.size 24 i0 5 Tryd.underlying22 hi _ _ _ rfl hown2 rfl ?_)
    go_wp2
    go_ret
    exact ⟨hbel2, _, rfl, by rw [its_one]; exact hown2⟩

theorem add_any (v : Value) (l : List It) (x : It) (B : Nat) (w : World) (hv : w.ownsRow B 24 5 v l.length (its l)) (hn : l.length ≤ 1000) (hp : x.path.length ≤ 1048576) (hlp : ∀ y ∈ l, y.path.length ≤ 1048576) :
    Calls Tryd.prog 16 #[v, itv x] w fun e w' => Below w.heap.size w w' ∧ ∃ v', e = .returned v' ∧ w'.ownsRow w.heap.size 24 5 v' (l.length + 1) (its (ins l x)) := by
  rcases own_items hv with ⟨rfl, rfl⟩ | ⟨g, cap, rfl, _, hg, hlc, hcm, hc⟩
  · exact add_none x w
  · exact add_some g cap l x w hg hlc (by unfold maxLen at hcm; omega) hc hn hp hlp
end Go.Proofs.YtodmdkhdbfbfgaaDoor
