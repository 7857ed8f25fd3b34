/- What pick (at 13), (code).text and checkLengths of the program return, for all their arguments within the ranges that stand in each theorem. -/
import Derived.Test.YtodmdkhdbfbfgaaBase
namespace Go.Proofs.Ytodmdkhdbfbfgaa
open Go.RowKit Pk
set_option linter.unusedVariables false

theorem Try.info5 : (Try.prog.info? 5).map (fun i => (i.zero, i.size, i.bytes)) = some (some (.int .u8 0), 1, 1) := by kernel_rfl

theorem tmod_neg13 (x : Int) (h : x ≤ 0) : -13 < x.tmod 13 ∧ x.tmod 13 ≤ 0 := by
  obtain ⟨n, rfl⟩ : ∃ n : Nat, x = -(n : Int) := ⟨x.natAbs, by omega⟩
  rw [Int.neg_tmod, Int.tmod_eq_emod_of_nonneg (by omega)]
  omega

theorem pick13 (c : Int) (h1 : -9223372036854775808 ≤ c) (h2 : c ≤ 9223372036854775807) (w : World) :
    Calls Try.prog 34 #[.int .i64 c, .int .i64 13] w fun e w' => ∃ r : Int, e = .returned (.int .i64 r) ∧ w' = w ∧ 0 ≤ r ∧ r ≤ 12 := by
  by_cases hc : c < 0
  · have := tmod_neg13 (c + 1) (by omega)
    go_enter Try.func34, Try.ntmps34
    go_wp2
    go_ret
    exact ⟨_, rfl, rfl, by omega, by omega⟩
  · go_enter Try.func34, Try.ntmps34
    go_wp2
    go_ret
    exact ⟨_, rfl, rfl, by omega, by omega⟩

theorem digb_walk (m d k : Nat) : (48 + bits BinOp.and IntKind.i64 ((m : Int) / 2 ^ (d - 1 - k)) 1) % 256 = (digb m d k : Int) := by
  rw [i64_and1]
  unfold digb
  have : ((m : Int) / 2 ^ (d - 1 - k)) = ((m / 2 ^ (d - 1 - k) : Nat) : Int) := by simp
  rw [this]
  omega

theorem str_dig (m d : Nat) : strOfNums ((List.range d).map fun i => (digb m d i : Int)) = txt (dig m d) := by
  unfold strOfNums txt dig
  rw [List.map_map]; rfl

set_option maxRecDepth 100000 in
set_option maxHeartbeats 400000 in
theorem text_any (m d : Nat) (hm : m < 4294967296) (hd : d ≤ 12) (w : World) :
    Calls Try.prog 38 #[.agg #[.int .i64 m, .int .i64 d]] w fun e w' => e = .returned (.string (txt (dig m d))) ∧ Below w.heap.size w w' := by
  have hmk := run_make_row' (P := Try.prog) 67 5 (.int .u8 0) 1 Try.underlying67 Try.info5 rfl .i64 .i64 d (by omega) (by omega)
  go_enter Try.func38, Try.ntmps38
  go_wp2
  go_loopw [10] (fun i wr => ∃ k : Nat, k ≤ d ∧ i = .int .i64 k ∧ Below w.heap.size w wr ∧ wr.cell? ⟨w.heap.size, 0, none⟩ = some (.int .i64 m) ∧ wr.cell? ⟨w.heap.size, 1, none⟩ = some (.int .i64 d) ∧ wr.rowIs (w.heap.size + 1) 5 d (fun j => if j < k then .int .u8 (digb m d j) else .int .u8 0)) (fun i _ => d - (intOf i).toNat)
  case atStart =>
    refine ⟨0, Nat.zero_le _, rfl, ((Below.refl _ _).alloc (Nat.le_refl _) _).alloc (by simp) _, by simp, by simp, ?_⟩
    have := World.rowIs_made (w.alloc (Obj.cells #[Value.int IntKind.i64 ↑m, Value.int IntKind.i64 ↑d] 59)) (.int .u8 0) d 5
    simpa using this
  case round =>
    obtain ⟨k, hk, rfl, hbel, hc0, hc1, hrow⟩ := hrel
    by_cases hlt : k < d
    · have hfr := hrow.frozen k
      have hck : wr.cell? { block := w.heap.size + 1, off := k } = some (.int .u8 0) := by rw [hrow.cell hlt]; simp
      go_wp2
      go_roundw
      case rel =>
        refine ⟨k + 1, by omega, by go_num, hbel.setCell (by simp) _, (cell_set_other _ (by simp)).trans hc0, (cell_set_other _ (by simp)).trans hc1, ?_⟩
        rw [digb_walk]
        refine (hrow.set k _).congr fun j hj => ?_
        by_cases e : j = k
        · subst e; simp
        · rw [if_neg e]
          by_cases e2 : j < k
          · rw [if_pos e2, if_pos (by omega)]
          · rw [if_neg e2, if_neg (by omega)]
      case measure => simp [intOf]; omega
    · have hkd : k = d := by omega
      have hcv := run_convert_bytes_arg (P := Try.prog) wr 67 5 Try.underlying67 Try.underlying5 (w.heap.size + 1) 0 d d ((List.range d).map fun i => (digb m d i : Int)) (by simp) (fun i hi => by
        rw [Nat.zero_add, hrow.cell hi, if_pos (by omega)]
        simp [hi]) 9 Try.underlying9
      rw [str_dig] at hcv
      go_wp2
      go_ret
      exact ⟨rfl, hbel⟩

theorem sum_step_pos (z : Nat → Int) (k : Nat) (n : Nat) (hn : n ≤ 288) (hk : k < n) (hr : ∀ j, j < k → 0 ≤ z j ∧ z j ≤ 12) (h : 0 ≤ z k ∧ z k ≤ 12) (hp : 0 < z k) :
    wrap64 (sumTo z k + wrap64 (2 ^ (12 - z k).toNat)) = sumTo z (k + 1) := by
  have hb := sumTo_bounds z k hr
  have h1 : (12 - z k).toNat ≤ 11 := by omega
  have h2 := Nat.pow_le_pow_right (show 0 < 2 by omega) h1
  have h3 : ((2 : Int) ^ (12 - z k).toNat) = ((2 ^ (12 - z k).toNat : Nat) : Int) := by simp
  simp only [sumTo, wt, if_pos hp]
  rw [h3]
  generalize 2 ^ (12 - z k).toNat = p at h2
  unfold wrap64
  omega

/-- The walk of one more length that may be. -/
theorem sum_step_zero (z : Nat → Int) (k : Nat) (hp : z k ≤ 0) : sumTo z k = sumTo z (k + 1) := by
  simp only [sumTo, wt, if_neg (show ¬ 0 < z k by omega)]; omega

set_option maxHeartbeats 400000 in
theorem check_many (a : Option Addr) (n cap : Nat) (w : World) (hn : n ≤ 140737488351232) (h : 288 < n) :
    Calls Try.prog 36 #[.slice a n cap] w fun e w' => e = .returned (.int .i64 1) ∧ w' = w := by
  go_enter Try.func36, Try.ntmps36
  go_wp2
  go_ret
  exact ⟨rfl, rfl⟩

set_option maxHeartbeats 400000 in
theorem check_bad (a : Option Addr) (n cap : Nat) (z : Nat → Int) (w : World) (hn : n ≤ 288) (hz : IntsIn w a n z) (m : Nat) (hm : m < n) (hbad : ¬ (0 ≤ z m ∧ z m ≤ 12)) (hg : ∀ j, j < m → 0 ≤ z j ∧ z j ≤ 12) :
    Calls Try.prog 36 #[.slice a n cap] w fun e w' => e = .returned (.int .i64 1) ∧ w' = w := by
  obtain ⟨b, off, rfl, hc⟩ := hz (by omega)
  have Hg : Hid (∀ j, j < m → 0 ≤ z j ∧ z j ≤ 12) := hg
  clear hg
  have Hbad : Hid (¬ (0 ≤ z m ∧ z m ≤ 12)) := hbad
  clear hbad
  have Hc : Hid (∀ k, k < n → w.cell? { block := b, off := off + k } = some (Value.int IntKind.i64 (z k))) := hc
  clear hc
  go_enter Try.func36, Try.ntmps36
  go_wp2
  go_loop [3, 11] (fun s i => ∃ k : Nat, k ≤ m ∧ i = .int .i64 k ∧ s = .int .i64 (sumTo z k)) (fun _ i => n - (intOf i).toNat)
  case atStart => exact ⟨0, Nat.zero_le _, rfl, rfl⟩
  case round =>
    obtain ⟨k, hk, rfl, rfl⟩ := hrel
    have hlt : k < n := by omega
    have hck := Hc.out k hlt
    by_cases hkm : k = m
    · have hb : z k < 0 ∨ 12 < z k := by have := Hbad.out; rw [hkm]; omega
      clear hkm
      rcases hb with hb | hb
      · go_wp2
        go_ret
        exact ⟨rfl, rfl⟩
      · have h0 : ¬ z k < 0 := by omega
        go_wp2
        go_ret
        exact ⟨rfl, rfl⟩
    · have hkg := Hg.out k (by omega)
      have Hl : Hid (k < m) := (by omega : k < m)
      clear hkm
      have h0 : ¬ z k < 0 := by omega
      have h1 : ¬ 12 < z k := by omega
      by_cases hp : 0 < z k
      · go_wp2
        go_round
        case rel => exact ⟨k + 1, Hl.out, by go_num, by rw [sum_step_pos z k n hn hlt (fun j hj => Hg.out j (Nat.lt_trans hj Hl.out)) hkg hp]⟩
        case measure => simp [intOf]; omega
      · go_wp2
        go_round
        case rel => exact ⟨k + 1, Hl.out, by go_num, by rw [sum_step_zero z k (by omega)]⟩
        case measure => simp [intOf]; omega

set_option maxHeartbeats 400000 in
theorem check_rng (a : Option Addr) (n cap : Nat) (z : Nat → Int) (w : World) (hn : n ≤ 288) (hz : IntsIn w a n z) (hg : ∀ j, j < n → 0 ≤ z j ∧ z j ≤ 12) :
    Calls Try.prog 36 #[.slice a n cap] w fun e w' => e = .returned (.int .i64 (if 4096 < sumTo z n then 2 else 0)) ∧ w' = w := by
  have Hg : Hid (∀ j, j < n → 0 ≤ z j ∧ z j ≤ 12) := hg
  clear hg
  go_enter Try.func36, Try.ntmps36
  go_wp2
  go_loop [3, 11] (fun s i => ∃ k : Nat, k ≤ n ∧ i = .int .i64 k ∧ s = .int .i64 (sumTo z k)) (fun _ i => n - (intOf i).toNat)
  case atStart => exact ⟨0, Nat.zero_le _, rfl, rfl⟩
  case round =>
    obtain ⟨k, hk, rfl, rfl⟩ := hrel
    by_cases hlt : k < n
    · obtain ⟨b, off, rfl, hc⟩ := hz (by omega)
      have hck := hc k hlt
      clear hc hz
      have hkg := Hg.out k hlt
      have h0 : ¬ z k < 0 := by omega
      have h1 : ¬ 12 < z k := by omega
      by_cases hp : 0 < z k
      · go_wp2
        go_round
        case rel => exact ⟨k + 1, by omega, by go_num, by rw [sum_step_pos z k n hn hlt (fun j hj => Hg.out j (by omega)) hkg hp]⟩
        case measure => simp [intOf]; omega
      · go_wp2
        go_round
        case rel => exact ⟨k + 1, by omega, by go_num, by rw [sum_step_zero z k (by omega)]⟩
        case measure => simp [intOf]; omega
    · have hkn : k = n := by omega
      subst hkn
      by_cases hs : 4096 < sumTo z k
      · go_wp2
        go_ret
        exact ⟨rfl, rfl⟩
      · go_wp2
        go_ret
        exact ⟨rfl, rfl⟩

end Go.Proofs.Ytodmdkhdbfbfgaa
