/- nandlaw.Codes of any list of ints returns true, and writes nothing that was there: the walk. -/
import Derived.Test.YtodmdkhdbfbfgaaOut
import Derived.Lib.SliceRun
namespace Go.Proofs.Ytodmdkhdbfbfgaa
open Go.RowKit Pk
set_option linter.unusedVariables false

theorem Try.info3' : (Try.prog.info? 3).map (fun i => (i.zero, i.size, i.bytes)) = some (some (.int .i64 0), 1, 8) := by kernel_rfl
theorem Try.size3 : (Try.prog.info? 3).map (·.size) = some 1 := by kernel_rfl

/-- The document's example. -/
def zd : Nat → Int := fun k => [2, 1, 0, 2].getD k 0
theorem zd_fits : Fits zd 4 := by
  refine ⟨fun k hk => ?_, by decide⟩
  match k, hk with
  | 0, _ => decide
  | 1, _ => decide
  | 2, _ => decide
  | 3, _ => decide

theorem own_drewN {w : World} {base : Nat} {e : TypeId} {size : Nat} {v : Value} {n : Nat} {xs : List Value} (h : w.ownsRow base e size v n xs) (q : Nat) : (w.drewN q).ownsRow base e size v n xs := by
  obtain ⟨hl, h⟩ := h
  refine ⟨hl, ?_⟩
  have hh : (w.drewN q).heap = w.heap := by simp
  rw [hh]; exact h

theorem below_to_drewN {B : Nat} {w w' : World} {q : Nat} (h : Below B (w.drewN q) w') : Below B w w' := (below_drewN (Below.refl _ _) q).trans h

/-- What is handed in: nil, or the list that was made. -/
def argOf (a : Option Addr) (G n : Nat) : Option Addr := if a.isNone then none else some ⟨G, 0, none⟩
def capOf (a : Option Addr) (n : Nat) : Nat := if a.isNone then 0 else n + 2

set_option maxRecDepth 100000 in
set_option maxHeartbeats 2000000 in
theorem codes_walk (a : Option Addr) (n cap : Nat) (z : Nat → Int) (w : World) (hn : n ≤ 17592186043904) (hz : IntsIn w a n z) (hnil : a = none → n = 0) :
    Calls Try.prog 3 #[.slice a n cap] w fun e w' => e = .returned (.bool true) ∧ Below w.heap.size w w' := by
  have h0 : IntsIn (w.alloc (.cells #[.int .i64 2, .int .i64 1, .int .i64 0, .int .i64 2] 3)) (some ⟨w.heap.size, 0, none⟩) 4 zd := fun _ => ⟨w.heap.size, 0, rfl, fun k hk => by
    match k, hk with
    | 0, _ => simp [zd]
    | 1, _ => simp [zd]
    | 2, _ => simp [zd]
    | 3, _ => simp [zd]⟩
  have hmk := run_make_row' (P := Try.prog) 22 3 (.int .i64 0) 8 Try.underlying22 Try.info3' rfl .i64 .i64 (n + 2) (by omega) (by omega)
  rw [show ((n + 2 : Nat) : Int) = (n : Int) + 2 by omega] at hmk
  have hnl := fun (wx : World) (x : Option Addr) (l c : Nat) => Lib.run_eql_slice_nil (P := Try.prog) wx 22 3 x l c 0 0 Try.underlying22
  obtain ⟨m, er, f, hout⟩ := out_total n z
  have hm := hout.le
  have Hout : Hid (Out n z m er f) := hout
  clear hout
  go_enter Try.func3, Try.ntmps3
  go_wp2_with fail
  refine (codes_fit _ 4 _ zd _ (by omega) h0 zd_fits).mono ?_
  rintro e w1 ⟨rfl, hb1, hr1⟩
  have hs1 := hb1.size
  simp only [World.size_alloc] at hs1 hr1 hb1 ⊢
  have hc0 : w1.cell? ⟨w.heap.size + 1, 0, none⟩ = some (.string ⟨#[49, 48]⟩) := hr1.cell (i := 0) (by omega)
  have hc1 : w1.cell? ⟨w.heap.size + 1, 1, none⟩ = some (.string ⟨#[48]⟩) := hr1.cell (i := 1) (by omega)
  have hc2 : w1.cell? ⟨w.heap.size + 1, 2, none⟩ = some (.string ⟨#[]⟩) := hr1.cell (i := 2) (by omega)
  have hc3 : w1.cell? ⟨w.heap.size + 1, 3, none⟩ = some (.string ⟨#[49, 49]⟩) := hr1.cell (i := 3) (by omega)
  have hbw : Below w.heap.size w w1 := ((Below.refl _ _).alloc (Nat.le_refl _) _).trans (hb1.mono (by omega))
  clear hb1 hr1 h0
  have hz1 := hz.below hbw
  have hrow0 := World.rowIs_made w1 (.int .i64 0) (n + 2) 3
  have hbg : Below w1.heap.size w1 (w1.alloc (.cells (madeCells #[.int .i64 0] (n + 2)) 3)) := (Below.refl _ _).alloc (Nat.le_refl _) _
  have hz2 := hz1.below hbg
  go_wp2_with (refine wpList_copy_rowIs rfl (.tmp 62) (.tmp 63) 22 22 rfl 3 Try.underlying22 Try.size3 w1.heap.size 0 (n + 2) (n + 2) a n cap rfl rfl 3 (n + 2) _ hrow0 (fun j => .int .i64 (z j)) n ?k1 ?k2 ?k3 ?k4 w1.heap.size w1 hbg (Nat.le_refl _) ?_)
  case k1 => exact (Nat.min_eq_left (by omega)).symm
  case k2 => exact hz2
  case k3 => omega
  case k4 => intro j hj; rfl
  intro w2 hrow2 hb2
  obtain ⟨G, hG⟩ : ∃ G, G = w1.heap.size := ⟨_, rfl⟩
  rw [← hG] at hrow2 hb2 ⊢
  have hGw : w.heap.size ≤ G := by omega
  have hcn : w2.cell? ⟨G, n, none⟩ = some (.int .i64 0) := by rw [hrow2.cell (by omega)]; simp
  have hcm : w2.cell? ⟨G, n + 1, none⟩ = some (.int .i64 0) := by rw [hrow2.cell (by omega), if_neg (by omega)]
  have hf0 := hrow2.frozen n
  have hf1 := hrow2.frozen (n + 1)
  have hrow3 : ((w2.setCell ⟨G, n, none⟩ (.int .i64 77)).setCell ⟨G, n + 1, none⟩ (.int .i64 77)).rowIs G 3 (n + 2) (fun j => .int .i64 (if j < n then z j else 77)) := by
    refine (rowIs_two hrow2 n _ _).congr fun j hj => ?_
    by_cases e1 : j = n + 1
    · rw [if_pos e1, if_neg (by omega)]
    · rw [if_neg e1]
      by_cases e2 : j = n
      · rw [if_pos e2, if_neg (by omega)]
      · rw [if_neg e2, if_pos (by omega), if_pos (by omega)]
  have hB3 : Below w.heap.size w ((w2.setCell ⟨G, n, none⟩ (.int .i64 77)).setCell ⟨G, n + 1, none⟩ (.int .i64 77)) :=
    ((hbw.trans (hb2.mono hGw)).setCell hGw _).setCell hGw _
  clear hrow0 hbg hz1 hz2 hrow2 hb2 hbw hc0 hc1 hc2 hc3 hmk hG hs1
  obtain ⟨aa, na, ca, hargs, hna, hin, hout'⟩ : ∃ aa na ca, (if a.isNone then Value.slice none 0 0 else .slice (some ⟨G, 0, none⟩) n (n + 2)) = .slice aa na ca ∧ na ≤ n ∧ (∀ W : World, W.rowIs G 3 (n + 2) (fun j => .int .i64 (if j < n then z j else 77)) → IntsIn W aa na z) ∧ Out na z m er f := by
    cases a with
    | none =>
      have h00 := hnil rfl
      have ho := Hout.out
      rw [h00] at ho
      exact ⟨none, 0, 0, rfl, by omega, fun W _ h => absurd h (by omega), ho⟩
    | some x =>
      exact ⟨some ⟨G, 0, none⟩, n, n + 2, rfl, by omega, fun W hW _ => ⟨G, 0, rfl, fun k hk => by rw [Nat.zero_add, hW.cell (by omega), if_pos hk]⟩, Hout.out⟩
  have Hin : Hid (∀ W : World, W.rowIs G 3 (n + 2) (fun j => .int .i64 (if j < n then z j else 77)) → IntsIn W aa na z) := hin
  have Hout' : Hid (Out na z m er f) := hout'
  clear hin hout' hnil
  have hcase : (a.isNone = true ∧ aa = none ∧ na = 0 ∧ ca = 0) ∨ (a.isNone = false ∧ aa = some ⟨G, 0, none⟩ ∧ na = n ∧ ca = n + 2) := by
    cases h : a.isNone with
    | true => rw [h] at hargs; simp at hargs; exact .inl ⟨rfl, hargs.1.symm, hargs.2.1.symm, hargs.2.2.symm⟩
    | false => rw [h] at hargs; simp at hargs; exact .inr ⟨rfl, hargs.1.symm, hargs.2.1.symm, hargs.2.2.symm⟩
  clear hargs
  obtain ⟨W3, hW3⟩ : ∃ W, W = (w2.setCell ⟨G, n, none⟩ (.int .i64 77)).setCell ⟨G, n + 1, none⟩ (.int .i64 77) := ⟨_, rfl⟩
  rw [← hW3] at hrow3 hB3
  have hrefl : (er == er) = true := by simp
  rcases hcase with ⟨hnone, rfl, rfl, rfl⟩ | ⟨hnone, rfl, hna2, rfl⟩
  · go_wp2_with fail
    rw [← hW3]
    clear hW3 hcn hcm hf0 hf1
    have hGlt := hrow3.lt
    refine (ref_out a n cap z W3 m er f (by omega) (hz.below hB3) Hout.out).mono ?_
    rintro e w4 ⟨a4, c4, xs4, rfl, hb4, ho4, ht4⟩
    have hs4 := hb4.size
    have hrow4 := rowIs_below hrow3 hb4 hGlt
    have hB4 : Below w.heap.size w w4 := hB3.trans (hb4.mono hB3.size)
    clear hb4 ho4 hrow3
    go_wp2_with fail
    refine (codes_out none 0 0 z w4 m er f (by omega) (Hin.out _ hrow4) Hout'.out).mono ?_
    rintro e w5 ⟨a5, c5, xs5, rfl, hb5, ho5, ht5⟩
    have hs5 := hb5.size
    have ht45 := ht4.below hb5
    go_wp2_with fail
    refine (same_any a5 a4 m c5 c4 f w5 hm ht5 ht45).mono ?_
    rintro e w5' ⟨rfl, q5, rfl⟩
    have ho5' := own_drewN ho5 q5
    clear ho5 ht5 ht45
    go_wp2_with fail
    refine (own_any a5 m c5 w4.heap.size xs5 _ _ hm (by simpa using hs5) ho5').mono ?_
    rintro e w6 ⟨v6, rfl, hm6, hb6⟩
    have hb46 : Below w4.heap.size w4 w6 := hb5.trans (below_to_drewN hb6)
    have hs6 := hb46.size
    have hrow6 := rowIs_below hrow4 hb46 (by omega)
    clear hb5 hb6 ho5'
    go_wp2_with fail
    refine (codes_out none 0 0 z w6 m er f (by omega) (Hin.out _ hrow6) Hout'.out).mono ?_
    rintro e w7 ⟨a7, c7, xs7, rfl, hb7, ho7, ht7⟩
    have hs7 := hb7.size
    have ht47 := ht4.below (hb46.trans (hb7.mono hs6))
    go_wp2_with fail
    refine (same_any a7 a4 m c7 c4 f w7 hm ht7 ht47).mono ?_
    rintro e w7' ⟨rfl, q7, rfl⟩
    have ho7' := own_drewN ho7 q7
    clear ho7 ht7 ht47 ht4
    go_wp2_with fail
    refine (own_any a7 m c7 w6.heap.size xs7 _ _ hm (by simpa using hs7) ho7').mono ?_
    rintro e w8 ⟨v8, rfl, hm8, hb8⟩
    have hb68 : Below w6.heap.size w6 w8 := hb7.trans (below_to_drewN hb8)
    have hs8 := hb68.size
    have hm68 := hm6.below hb68
    have hrow8 := rowIs_below hrow6 hb68 (by omega)
    have hB8 : Below w.heap.size w w8 := hB4.trans ((hb46.mono hB4.size).trans (hb68.mono (Nat.le_trans hB4.size hs6)))
    have hz8 := hz.below hB8
    clear hb7 hb8 ho7' hm6 hrow4 hrow6 hb46 hb68 hB4 hB3 hz Hin Hout' Hout
    go_wp2_with fail
    refine (kept_any v6 m _ _ w8 hm hm68).mono ?_
    rintro e w9 ⟨rfl, rfl⟩
    go_wp2_with fail
    refine (kept_any v8 m _ _ w9 hm hm8).mono ?_
    rintro e w10 ⟨rfl, rfl⟩
    clear hm68 hm8
    go_wp2
    go_loopw [20] (fun i wr => ∃ k : Nat, k ≤ n ∧ i = .int .i64 k ∧ ∃ q, wr = w10.drewN q) (fun i _ => n - (intOf i).toNat)
    case atStart => exact ⟨0, Nat.zero_le _, rfl, 0, rfl⟩
    case round =>
      obtain ⟨k, hk, rfl, q, rfl⟩ := hrel
      by_cases hlt : k < n
      · obtain ⟨b, off, ha, hc⟩ := hz8 (by omega)
        subst ha
        have hck := hc k hlt
        have hgk := hrow8.cell (i := k) (by omega)
        rw [if_pos hlt] at hgk
        clear hc hz8 hrow8
        generalize z k = zk at hck hgk
        go_wp2
        go_quiet (fail)
        go_wp2
        go_roundw
        case rel => exact ⟨k + 1, by omega, by go_num, _, rfl⟩
        case measure => simp [intOf]; omega
      · have hg0 := hrow8.cell (i := n) (by omega)
        have hg1 := hrow8.cell (i := n + 1) (by omega)
        rw [if_neg (by omega)] at hg0 hg1
        clear hrow8 hz8
        go_wp2
        go_ret
        exact ⟨rfl, below_drewN hB8 _⟩
  · subst hna2
    go_wp2_with fail
    rw [← hW3]
    clear hW3 hcn hcm hf0 hf1
    have hGlt := hrow3.lt
    refine (ref_out a na cap z W3 m er f (by omega) (hz.below hB3) Hout.out).mono ?_
    rintro e w4 ⟨a4, c4, xs4, rfl, hb4, ho4, ht4⟩
    have hs4 := hb4.size
    have hrow4 := rowIs_below hrow3 hb4 hGlt
    have hB4 : Below w.heap.size w w4 := hB3.trans (hb4.mono hB3.size)
    clear hb4 ho4 hrow3
    go_wp2_with fail
    refine (codes_out (some ⟨G, 0, none⟩) na (na + 2) z w4 m er f (by omega) (Hin.out _ hrow4) Hout'.out).mono ?_
    rintro e w5 ⟨a5, c5, xs5, rfl, hb5, ho5, ht5⟩
    have hs5 := hb5.size
    have ht45 := ht4.below hb5
    go_wp2_with fail
    refine (same_any a5 a4 m c5 c4 f w5 hm ht5 ht45).mono ?_
    rintro e w5' ⟨rfl, q5, rfl⟩
    have ho5' := own_drewN ho5 q5
    clear ho5 ht5 ht45
    go_wp2_with fail
    refine (own_any a5 m c5 w4.heap.size xs5 _ _ hm (by simpa using hs5) ho5').mono ?_
    rintro e w6 ⟨v6, rfl, hm6, hb6⟩
    have hb46 : Below w4.heap.size w4 w6 := hb5.trans (below_to_drewN hb6)
    have hs6 := hb46.size
    have hrow6 := rowIs_below hrow4 hb46 (by omega)
    clear hb5 hb6 ho5'
    go_wp2_with fail
    refine (codes_out (some ⟨G, 0, none⟩) na (na + 2) z w6 m er f (by omega) (Hin.out _ hrow6) Hout'.out).mono ?_
    rintro e w7 ⟨a7, c7, xs7, rfl, hb7, ho7, ht7⟩
    have hs7 := hb7.size
    have ht47 := ht4.below (hb46.trans (hb7.mono hs6))
    go_wp2_with fail
    refine (same_any a7 a4 m c7 c4 f w7 hm ht7 ht47).mono ?_
    rintro e w7' ⟨rfl, q7, rfl⟩
    have ho7' := own_drewN ho7 q7
    clear ho7 ht7 ht47 ht4
    go_wp2_with fail
    refine (own_any a7 m c7 w6.heap.size xs7 _ _ hm (by simpa using hs7) ho7').mono ?_
    rintro e w8 ⟨v8, rfl, hm8, hb8⟩
    have hb68 : Below w6.heap.size w6 w8 := hb7.trans (below_to_drewN hb8)
    have hs8 := hb68.size
    have hm68 := hm6.below hb68
    have hrow8 := rowIs_below hrow6 hb68 (by omega)
    have hB8 : Below w.heap.size w w8 := hB4.trans ((hb46.mono hB4.size).trans (hb68.mono (Nat.le_trans hB4.size hs6)))
    have hz8 := hz.below hB8
    clear hb7 hb8 ho7' hm6 hrow4 hrow6 hb46 hb68 hB4 hB3 hz Hin Hout' Hout
    go_wp2_with fail
    refine (kept_any v6 m _ _ w8 hm hm68).mono ?_
    rintro e w9 ⟨rfl, rfl⟩
    go_wp2_with fail
    refine (kept_any v8 m _ _ w9 hm hm8).mono ?_
    rintro e w10 ⟨rfl, rfl⟩
    clear hm68 hm8
    go_wp2
    go_loopw [20] (fun i wr => ∃ k : Nat, k ≤ na ∧ i = .int .i64 k ∧ ∃ q, wr = w10.drewN q) (fun i _ => na - (intOf i).toNat)
    case atStart => exact ⟨0, Nat.zero_le _, rfl, 0, rfl⟩
    case round =>
      obtain ⟨k, hk, rfl, q, rfl⟩ := hrel
      by_cases hlt : k < na
      · obtain ⟨b, off, ha, hc⟩ := hz8 (by omega)
        subst ha
        have hck := hc k hlt
        have hgk := hrow8.cell (i := k) (by omega)
        rw [if_pos hlt] at hgk
        clear hc hz8 hrow8
        generalize z k = zk at hck hgk
        go_wp2
        go_quiet (fail)
        go_wp2
        go_roundw
        case rel => exact ⟨k + 1, by omega, by go_num, _, rfl⟩
        case measure => simp [intOf]; omega
      · have hg0 := hrow8.cell (i := na) (by omega)
        have hg1 := hrow8.cell (i := na + 1) (by omega)
        rw [if_neg (by omega)] at hg0 hg1
        clear hrow8 hz8
        go_wp2
        go_ret
        exact ⟨rfl, below_drewN hB8 _⟩
end Go.Proofs.Ytodmdkhdbfbfgaa
