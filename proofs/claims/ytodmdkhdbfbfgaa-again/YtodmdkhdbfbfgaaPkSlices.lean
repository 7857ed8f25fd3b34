/- Of package slices, at []int: Max, Clone, Grow of nothing, Concat of two. -/
import Derived.Test.YtodmdkhdbfbfgaaPkTake
import Derived.Lib.AppendZerosOnto
import Derived.Lib.Walk
import Derived.Lib.SliceRun
namespace Go.Proofs.Ytodmdkhdbfbfgaa
open Go.RowKit Pk
set_option linter.unusedVariables false
set_option linter.unusedSimpArgs false

theorem Try.info3' : (Try.prog.info? 3).map (fun i => (i.zero, i.size, i.bytes)) = some (some (.int .i64 0), 1, 8) := by kernel_rfl

set_option maxRecDepth 100000 in
set_option maxHeartbeats 1000000 in
theorem max_any (w : World) (b n c : Nat) (z : Nat → Int) (h0 : 0 < n) (hn : n ≤ 1000) (hz : ∀ i, i < n → w.cell? ⟨b, i, none⟩ = some (.int .i64 (z i))) :
    Calls Try.prog 86 #[.slice (some ⟨b, 0, none⟩) n c] w fun e w' => w' = w ∧ ∃ m : Int, e = .returned (.int .i64 m) ∧ (∀ i, i < n → z i ≤ m) ∧ ∃ i, i < n ∧ z i = m := by
  have x0 := hz 0 h0
  have hn1 : ¬ (n : Int) < 1 := by omega
  have Hz := hidI hz
  clear hz
  go_enter Try.func86, Try.ntmps86
  go_wp2
  clear x0
  go_loopw [4, 3] (fun i m wr => wr = w ∧ ∃ k : Nat, ∃ x : Int, i = .int .i64 (k : Nat) ∧ m = .int .i64 x ∧ 1 ≤ k ∧ k ≤ n ∧ Hid ((∀ j, j < k → z j ≤ x) ∧ ∃ j, j < k ∧ z j = x)) (fun i _ _ => n - (intOf i).toNat)
  case atStart => exact ⟨rfl, 1, z 0, rfl, rfl, by omega, by omega, ⟨fun j hj => by rw [show j = 0 by omega]; exact Int.le_refl _, 0, by omega, rfl⟩⟩
  case round =>
    obtain ⟨rfl, k, x, rfl, rfl, hk1, hk2, Hx⟩ := hrel
    by_cases hlt : k < n
    · have x1 := Hz.out k hlt
      by_cases hm : x ≤ z k
      · have Hx2 : Hid ((∀ j, j < k + 1 → z j ≤ z k) ∧ ∃ j, j < k + 1 ∧ z j = z k) := ⟨fun j hj => by
          by_cases e : j = k
          · subst e; exact Int.le_refl _
          · exact Int.le_trans (Hx.out.1 j (by omega)) hm, k, by omega, rfl⟩
        generalize z k = y at *
        have hmax : max x y = y := by omega
        go_wp2
        go_roundw
        case rel => exact ⟨by trivial, k + 1, y, by go_num, rfl, by omega, by omega, Hx2⟩
        case measure => simp [intOf]; omega
      · have Hx2 : Hid ((∀ j, j < k + 1 → z j ≤ x) ∧ ∃ j, j < k + 1 ∧ z j = x) := ⟨fun j hj => by
          by_cases e : j = k
          · subst e; omega
          · exact Hx.out.1 j (by omega), by
          obtain ⟨j, hj, e⟩ := Hx.out.2
          exact ⟨j, by omega, e⟩⟩
        generalize z k = y at *
        have hmax : max x y = x := by omega
        go_wp2
        go_roundw
        case rel => exact ⟨by trivial, k + 1, x, by go_num, rfl, by omega, by omega, Hx2⟩
        case measure => simp [intOf]; omega
    · have hkn : k = n := by omega
      subst hkn
      go_wp2
      go_ret
      exact ⟨rfl, x, rfl, Hx.out.1, Hx.out.2⟩

/-- A row of ints, as a list. -/
def intsV (l : List Nat) : List Value := l.map fun x => .int .i64 (x : Nat)

set_option maxRecDepth 100000 in
set_option maxHeartbeats 2000000 in
theorem grow_nil (w : World) (n : Nat) (h0 : 0 < n) (hn : n ≤ 1000) :
    Calls Try.prog 95 #[.slice none 0 0, .int .i64 (n : Nat)] w fun e w' => ∃ G, e = .returned (.slice (some ⟨w.heap.size, 0, none⟩) 0 G) ∧ w'.ownsRow w.heap.size 3 1 (.slice (some ⟨w.heap.size, 0, none⟩) 0 G) 0 [] ∧ Below w.heap.size w w' := by
  obtain ⟨i0, hi, hz0, hz1, hz2⟩ := info_parts Try.info3'
  have hold : (Builtin.firstCells i0.size 0 (.slice none 0 0)).run Try.prog w.drew = .ok ([] : List Value).toArray w.drew := run_firstCells_none w.drew i0.size 0 0 0
  have hr := fun ty => Lib.run_append_grow_zeros w 22 3 ty 3 i0 (.int .i64 0) .i64 .i64 Try.underlying22 Try.underlying3 hi hz0 none 0 0 [] hold n (by omega) (by omega) (by omega) (by omega)
    (by rw [hz2]; omega) (by rw [hz2, Nat.zero_add]; exact growslice_fits h0 (by omega))
  rw [Nat.zero_add] at hr
  obtain ⟨G, hG⟩ : ∃ G, G = grownCap w n 0 3 := ⟨_, rfl⟩
  have hGn : n ≤ G := by rw [hG]; exact grownCap_ge w _ _ _
  have hGm : G ≤ maxLen := by rw [hG]; exact grownCap_le_maxLen w n 0 3 (by unfold maxLen; omega)
  have hG63 : G ≤ 9223372036854775807 := by unfold maxLen at hGm; omega
  rw [← hG] at hr
  obtain ⟨C, hC⟩ : ∃ C : Array Value, C = ([] : List Value).toArray ++ Builtin.zeroCells (Value.int IntKind.i64 0).cells n ++ Builtin.zeroCells (Value.int IntKind.i64 0).cells (G - n) := ⟨_, rfl⟩
  rw [← hC] at hr
  have hCs : C.size = G := by
    rw [hC, Array.size_append, Array.size_append, size_zeroCells, size_zeroCells]
    have : (Value.int IntKind.i64 0).cells.size = 1 := rfl
    rw [this]; simp; omega
  have Hown : Hid ((w.drew.alloc (.cells C 3)).ownsRow w.heap.size 3 1 (.slice (some ⟨w.heap.size, 0, none⟩) 0 G) 0 []) := ⟨rfl, .inr ⟨_, G, C, rfl, Nat.le_refl _, heap_alloc_new _ _, by omega, hGm, by omega, by simp⟩⟩
  have Hb : Hid (Below w.heap.size w (w.drew.alloc (.cells C 3))) := (Below.refl _ w).drew.alloc (Nat.le_refl _) _
  clear hC hCs hG hold
  go_enter Try.func95, Try.ntmps95
  go_wp2_with (at_builtin; refine Lib.wpList_append_run _ rfl _ _ _ _ rfl _ _ rfl rfl _ _ (hr _) ?_)
  go_ret
  exact ⟨G, rfl, Hown.out, Hb.out⟩

theorem own_news {w : World} {B b n c : Nat} {l : List Nat} (h : w.ownsRow B 3 1 (.slice (some ⟨b, 0, none⟩) n c) n (intsV l)) : ∀ j u, (intsV l)[j]? = some u → w.cell? ((⟨b, 0, none⟩ : Addr).add j) = some u := by
  intro j u hu
  have hj : j < n := by
    rcases Nat.lt_or_ge j n with h2 | h2
    · exact h2
    · rw [List.getElem?_eq_none (by rw [h.1]; omega)] at hu; cases hu
  have hadd : (⟨b, 0, none⟩ : Addr).add j = ⟨b, j, none⟩ := by unfold Addr.add; split <;> simp_all
  rw [hadd, h.cellAt j (by omega), hu]
theorem intsV_one (l : List Nat) : ∀ u ∈ intsV l, u.oneCell' = true := by
  intro u hu
  unfold intsV at hu
  simp at hu
  obtain ⟨x, _, rfl⟩ := hu
  rfl
theorem own_under {w w' : World} {B K n : Nat} {e : TypeId} {size : Nat} {v : Value} {xs : List Value} (h : w.ownsRow B e size v n xs) (hb : Below K w w') (hK : w.heap.size ≤ K) : w'.ownsRow B e size v n xs := by
  refine ⟨h.1, ?_⟩
  rcases h.2 with h1 | ⟨g, cap, cur, h1, h2, h3, h4⟩
  · exact .inl h1
  · exact .inr ⟨g, cap, cur, h1, h2, (hb.block g (Nat.lt_of_lt_of_le (lt_of_heap h3) hK)).trans h3, h4⟩

set_option maxRecDepth 100000 in
set_option maxHeartbeats 2000000 in
theorem clone_ints (w : World) (b n c : Nat) (l : List Nat) (h0 : 0 < n) (hn : n ≤ 1000) (h : w.ownsRow 0 3 1 (.slice (some ⟨b, 0, none⟩) n c) n (intsV l)) :
    Calls Try.prog 84 #[.slice (some ⟨b, 0, none⟩) n c] w fun e w' => ∃ g cap, e = .returned (.slice (some ⟨g, 0, none⟩) n cap) ∧ w'.ownsRow w.heap.size 3 1 (.slice (some ⟨g, 0, none⟩) n cap) n (intsV l) ∧ Below w.heap.size w w' := by
  obtain ⟨i0, hi, hz0, hz1, hz2⟩ := info_parts Try.info3'
  have Hown := hidI h
  clear h
  have q22 : ∀ (w : World) (a : Option Addr) (n c n' c' : Nat), (binOp .eql 22 (.slice a n c) (.slice none n' c')).run Try.prog w = .ok (.bool a.isNone) w := fun w a n c n' c' => Lib.run_eql_slice_nil w _ _ a n c n' c' Try.underlying22
  go_enter Try.func84, Try.ntmps84
  go_wp2_with (at_builtin; refine wpList_append_lies _ rfl _ _ 22 rfl w.heap.size 3 i0 (.int .i64 0) 1 8 Try.underlying22 hi hz0 hz1 hz2 rfl (by decide) _ 0 [] rfl (World.ownsRow_made w #[] 0 (Nat.le_refl _) (Nat.zero_le _) rfl) ⟨b, 0, none⟩ n c (intsV l) rfl ?qc1 ?qc2 ?qc3 ?qc7 ?qc4 ?qc5 ?qc6 (w.heap.size + 1) ?qc8 ?_)
  case qc1 => exact Hown.out.1
  case qc2 => exact own_news (Hown.out.alloc _)
  case qc3 => exact intsV_one l
  case qc4 => unfold maxLen; omega
  case qc5 => omega
  case qc6 => simp
  case qc7 => omega
  case qc8 => simp
  intro g cap w1 hown hgrow hat hlt
  have Hown1 := hidI hown
  have Hb := hidI (((Below.refl _ w).alloc (Nat.le_refl _) _).grown hgrow (by simp) (by intro k hk; simp [Value.ownBlock] at hk; omega))
  clear hown hgrow hat
  try rw [Nat.zero_add]
  go_wp2
  go_ret
  exact ⟨g, cap, rfl, Hown1.out, Hb.out⟩

set_option maxRecDepth 100000 in
set_option maxHeartbeats 4000000 in
theorem concat_two (w : World) (sb ab an ac bb bn bc : Nat) (A B : List Nat) (ha0 : 0 < an) (hb0 : 0 < bn) (hn : an + bn ≤ 1000) (hs : w.heap[sb]? = some (.cells #[.slice (some ⟨ab, 0, none⟩) an ac, .slice (some ⟨bb, 0, none⟩) bn bc] 22 (0, 0)))
    (ha : w.ownsRow 0 3 1 (.slice (some ⟨ab, 0, none⟩) an ac) an (intsV A)) (hb : w.ownsRow 0 3 1 (.slice (some ⟨bb, 0, none⟩) bn bc) bn (intsV B)) :
    Calls Try.prog 92 #[.slice (some ⟨sb, 0, none⟩) 2 2] w fun e w' => ∃ g cap, e = .returned (.slice (some ⟨g, 0, none⟩) (an + bn) cap) ∧ w'.ownsRow w.heap.size 3 1 (.slice (some ⟨g, 0, none⟩) (an + bn) cap) (an + bn) (intsV (A ++ B)) ∧ Below w.heap.size w w' := by
  obtain ⟨i0, hi, hz0, hz1, hz2⟩ := info_parts Try.info3'
  have x0 : w.cell? ⟨sb, 0, none⟩ = some (.slice (some ⟨ab, 0, none⟩) an ac) := by rw [cell_of_row w sb 0 _ 22 (0, 0) hs]; rfl
  have x1 : w.cell? ⟨sb, 1, none⟩ = some (.slice (some ⟨bb, 0, none⟩) bn bc) := by rw [cell_of_row w sb 1 _ 22 (0, 0) hs]; rfl
  have Hs := hidI hs
  have Ha := hidI ha
  have Hb := hidI hb
  clear hs ha hb
  go_enter Try.func92, Try.ntmps92
  go_wp2
  go_loopw [11, 3] (fun i s wr => w = wr ∧ ((i = .int .i64 0 ∧ s = .int .i64 0) ∨ (i = .int .i64 1 ∧ s = .int .i64 (an : Nat)) ∨ (i = .int .i64 2 ∧ s = .int .i64 ((an : Int) + (bn : Int))))) (fun i _ _ => 2 - (intOf i).toNat)
  case atStart => exact ⟨rfl, .inl ⟨rfl, rfl⟩⟩
  case round =>
    obtain ⟨rfl, ⟨rfl, rfl⟩ | ⟨rfl, rfl⟩ | ⟨rfl, rfl⟩⟩ := hrel
    · have h1 : ¬ (an : Int) < 0 := by omega
      go_wp2
      go_roundw
      case rel => exact ⟨by trivial, .inr (.inl ⟨rfl, rfl⟩)⟩
      case measure => simp [intOf]
    · have h1 : ¬ (an : Int) + (bn : Int) < 0 := by omega
      go_wp2
      go_roundw
      case rel => exact ⟨by trivial, .inr (.inr ⟨rfl, rfl⟩)⟩
      case measure => simp [intOf]
    · have hgr := hidI (grow_nil w (an + bn) (by omega) (by omega))
      rw [show ((an + bn : Nat) : Int) = (an : Int) + (bn : Int) by omega] at hgr
      go_wp2_with fail
      refine hgr.out.mono ?_
      rintro e w1 ⟨G, rfl, hown1, hbel1⟩
      have Hown1 := hidI hown1
      have Hbel1 := hidI hbel1
      clear hown1 hbel1 hgr
      go_wp2
      go_loopw [27, 6] (fun i v wq => Hid (Below w.heap.size w wq) ∧ ((i = .int .i64 0 ∧ ∃ g c, v = .slice (some ⟨g, 0, none⟩) 0 c ∧ Hid (wq.ownsRow w.heap.size 3 1 (.slice (some ⟨g, 0, none⟩) 0 c) 0 [])) ∨ (i = .int .i64 1 ∧ ∃ g c, v = .slice (some ⟨g, 0, none⟩) an c ∧ Hid (wq.ownsRow w.heap.size 3 1 (.slice (some ⟨g, 0, none⟩) an c) an (intsV A))) ∨ (i = .int .i64 2 ∧ ∃ g c, v = .slice (some ⟨g, 0, none⟩) (an + bn) c ∧ Hid (wq.ownsRow w.heap.size 3 1 (.slice (some ⟨g, 0, none⟩) (an + bn) c) (an + bn) (intsV (A ++ B)))))) (fun i _ _ => 2 - (intOf i).toNat)
      case atStart => exact ⟨Hbel1, .inl ⟨rfl, _, G, rfl, Hown1⟩⟩
      case round =>
        obtain ⟨Hbq, ⟨rfl, g, cc, rfl, Hq⟩ | ⟨rfl, g, cc, rfl, Hq⟩ | ⟨rfl, g, cc, rfl, Hq⟩⟩ := hrel
        · have hsb := (Hbq.out.block sb (lt_of_heap Hs.out)).trans Hs.out
          have y0 : wr.cell? ⟨sb, 0, none⟩ = some (.slice (some ⟨ab, 0, none⟩) an ac) := by rw [cell_of_row wr sb 0 _ 22 (0, 0) hsb]; rfl
          have Ha1 := hidI (own_under Ha.out Hbq.out (Nat.le_refl _))
          have hszq := Hbq.out.size
          clear hsb x0 x1
          go_wp2_with (at_builtin; refine wpList_append_lies _ rfl _ _ 22 rfl w.heap.size 3 i0 (.int .i64 0) 1 8 Try.underlying22 hi hz0 hz1 hz2 rfl (by decide) _ 0 [] rfl Hq.out ⟨ab, 0, none⟩ an ac (intsV A) rfl Ha1.out.1 (own_news Ha1.out) (intsV_one A) (by omega) (by unfold maxLen; omega) (by omega) (by omega) wr.heap.size rfl ?_)
          intro g2 cap2 w2 hown hgrow hat hlt
          have Hown2 : Hid (w2.ownsRow w.heap.size 3 1 (.slice (some ⟨g2, 0, none⟩) an cap2) an (intsV A)) := by
            show w2.ownsRow _ _ _ _ _ _
            simpa using hown
          have Hb2 := hidI (Hbq.out.grown hgrow (by omega) (fun q hq => (Hq.out.lt q hq).1))
          clear hown hgrow hat y0 hlt
          try rw [Nat.zero_add]
          go_wp2
          go_roundw
          case rel => exact ⟨Hb2, .inr (.inl ⟨rfl, g2, cap2, by simp, Hown2⟩)⟩
          case measure => simp [intOf]
        · have hsb := (Hbq.out.block sb (lt_of_heap Hs.out)).trans Hs.out
          have y0 : wr.cell? ⟨sb, 1, none⟩ = some (.slice (some ⟨bb, 0, none⟩) bn bc) := by rw [cell_of_row wr sb 1 _ 22 (0, 0) hsb]; rfl
          have Hb1 := hidI (own_under Hb.out Hbq.out (Nat.le_refl _))
          have hszq := Hbq.out.size
          clear hsb x0 x1
          go_wp2_with (at_builtin; refine wpList_append_lies _ rfl _ _ 22 rfl w.heap.size 3 i0 (.int .i64 0) 1 8 Try.underlying22 hi hz0 hz1 hz2 rfl (by decide) _ an (intsV A) rfl Hq.out ⟨bb, 0, none⟩ bn bc (intsV B) rfl Hb1.out.1 (own_news Hb1.out) (intsV_one B) (by omega) (by unfold maxLen; omega) (by omega) (by omega) wr.heap.size rfl ?_)
          intro g2 cap2 w2 hown hgrow hat hlt
          have Hown2 : Hid (w2.ownsRow w.heap.size 3 1 (.slice (some ⟨g2, 0, none⟩) (an + bn) cap2) (an + bn) (intsV (A ++ B))) := by
            show w2.ownsRow _ _ _ _ _ _
            unfold intsV at hown ⊢
            rw [List.map_append]; exact hown
          have Hb2 := hidI (Hbq.out.grown hgrow (by omega) (fun q hq => (Hq.out.lt q hq).1))
          clear hown hgrow hat y0 hlt
          go_wp2
          go_roundw
          case rel => exact ⟨Hb2, .inr (.inr ⟨rfl, g2, cap2, rfl, Hown2⟩)⟩
          case measure => simp [intOf]
        · go_wp2
          go_ret
          exact ⟨g, cc, rfl, Hq.out, Hbq.out⟩
end Go.Proofs.Ytodmdkhdbfbfgaa
