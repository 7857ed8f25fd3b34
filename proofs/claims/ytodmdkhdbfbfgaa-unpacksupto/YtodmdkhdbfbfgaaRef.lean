/- What digits and Codes of the document's own answer (package nandref) return. -/
import Derived.Test.YtodmdkhdbfbfgaaCodes
namespace Go.Proofs.Ytodmdkhdbfbfgaa
open Go.RowKit Pk
set_option linter.unusedVariables false

theorem dig_cons (m d : Nat) : dig m (d + 1) = UInt8.ofNat (48 + m / 2 ^ d % 2) :: dig m d := by
  apply List.ext_getElem?
  intro i
  cases i with
  | zero => rw [dig_get _ _ _ (by omega)]; simp [digb]
  | succ i =>
    rw [List.getElem?_cons_succ]
    by_cases h : i < d
    · rw [dig_get _ _ _ (by omega), dig_get _ _ _ h]
      unfold digb
      rw [show d + 1 - 1 - (i + 1) = d - 1 - i by omega]
    · rw [List.getElem?_eq_none (by rw [dig_length]; omega), List.getElem?_eq_none (by rw [dig_length]; omega)]

/-- 'string([]byte{x})'. -/
theorem conv_one (W : World) (x : Int) : (convert 67 9 (.slice (some ⟨W.heap.size, 0, none⟩) 1 1)).run Try.prog (W.alloc (.cells #[.int .u8 x] 5)) = .ok (.string (strOfNums [x])) (W.alloc (.cells #[.int .u8 x] 5)) :=
  run_convert_bytes_arg (P := Try.prog) _ 67 5 Try.underlying67 Try.underlying5 W.heap.size 0 1 1 [x] rfl (fun i hi => by
    obtain rfl : i = 0 := by omega
    simp) 9 Try.underlying9

set_option maxRecDepth 100000 in
set_option maxHeartbeats 400000 in
theorem digits_any (m d : Nat) (hm : m < 4294967296) (hd : d ≤ 12) (w : World) :
    Calls Try.prog 39 #[.int .i64 m, .int .i64 d] w fun e w' => e = .returned (.string (txt (dig m d))) ∧ Below w.heap.size w w' := by
  have hcv := conv_one
  go_enter Try.func39, Try.ntmps39
  go_wp2
  go_loopw [0, 5, 6] (fun x s i wr => ∃ k : Nat, k ≤ d ∧ i = .int .i64 k ∧ x = .int .i64 (m / 2 ^ k : Nat) ∧ s = .string (txt (dig m k)) ∧ Below w.heap.size w wr) (fun _ _ i _ => d - (intOf i).toNat)
  case atStart => exact ⟨0, Nat.zero_le _, rfl, by simp, rfl, Below.refl _ _⟩
  case round =>
    obtain ⟨k, hk, rfl, rfl, rfl, hbel⟩ := hrel
    have hsz := hbel.size
    by_cases hlt : k < d
    · obtain ⟨q, hq⟩ : ∃ q, q = m / 2 ^ k := ⟨_, rfl⟩
      rw [← hq]
      have hqm : q ≤ m := by rw [hq]; exact Nat.div_le_self _ _
      have Hq : Hid (q = m / 2 ^ k) := hq
      clear hq
      have hts : (txt (dig m k)).size ≤ 12 := by rw [txt_size, dig_length]; omega
      obtain ⟨tk, htk⟩ : ∃ t, t = txt (dig m k) := ⟨_, rfl⟩
      rw [← htk] at hts ⊢
      have Htk : Hid (tk = txt (dig m k)) := htk
      clear htk
      have hno : ¬ 9223372036854775807 < (strOfNums [48 + (q : Int) % 2]).size + tk.size := by
        rw [strOfNums_size]; simp; omega
      go_wp2
      go_roundw
      case rel =>
        refine ⟨k + 1, by omega, by go_num, ?_, ?_, hbel.alloc hsz _⟩
        · have : m / 2 ^ (k + 1) = q / 2 := by rw [Hq.out, Nat.pow_succ, Nat.div_div_eq_div_mul]
          rw [this]; go_num
        · rw [dig_cons, Htk.out, ← Hq.out]
          have h1 : (48 + (q : Int) % 2).toNat = 48 + q % 2 := by omega
          have h2 : strOfNums [48 + (q : Int) % 2] ++ txt (dig m k) = txt (UInt8.ofNat (48 + q % 2) :: dig m k) := by
            apply ByteArray.ext
            simp [strOfNums, txt, h1]
          rw [h2]
      case measure => simp [intOf]; omega
    · have hkd : k = d := by omega
      subst hkd
      go_wp2
      go_ret
      exact ⟨rfl, hbel⟩

set_option maxHeartbeats 400000 in
theorem ref_many (a : Option Addr) (n cap : Nat) (w : World) (hn : n ≤ 140737488351232) (h : 288 < n) :
    Calls Try.prog 10 #[.slice a n cap] w fun e w' => e = .returned (.tuple #[.slice none 0 0, .int .i64 1]) ∧ w' = w := by
  go_enter Try.func10, Try.ntmps10
  go_wp2
  go_ret2
  exact ⟨rfl, rfl⟩

theorem half_pow (k : Nat) (h : k < 12) : (4096 / 2 ^ k) / 2 = 4096 / 2 ^ (k + 1) := by
  rw [Nat.div_div_eq_div_mul, Nat.pow_succ]

theorem half_le (k : Nat) : 4096 / 2 ^ k ≤ 4096 := Nat.div_le_self _ _

theorem half_wt (x : Int) (h0 : 0 < x) (h : x ≤ 12) : ((4096 / 2 ^ x.toNat : Nat) : Int) = wt x := by
  unfold wt
  rw [if_pos h0]
  have e : (12 - x).toNat = 12 - x.toNat := by omega
  rw [e]
  have h1 : (4096 : Nat) = 2 ^ (12 - x.toNat) * 2 ^ x.toNat := by rw [← Nat.pow_add, show 12 - x.toNat + x.toNat = 12 by omega]
  rw [h1, Nat.mul_div_cancel _ (Nat.two_pow_pos _)]
  simp

theorem sum_step (z : Nat → Int) (k : Nat) (hp : 0 < z k) (h : z k ≤ 12) : sumTo z k + ((4096 / 2 ^ (z k).toNat : Nat) : Int) = sumTo z (k + 1) := by
  rw [half_wt _ hp h]; rfl

set_option maxRecDepth 100000 in
set_option maxHeartbeats 1000000 in
theorem ref_bad (a : Option Addr) (n cap : Nat) (z : Nat → Int) (w : World) (hn : n ≤ 288) (hz : IntsIn w a n z) (m : Nat) (hm : m < n) (hbad : ¬ (0 ≤ z m ∧ z m ≤ 12)) (hg : ∀ j, j < m → 0 ≤ z j ∧ z j ≤ 12) :
    Calls Try.prog 10 #[.slice a n cap] w fun e w' => e = .returned (.tuple #[.slice none 0 0, .int .i64 1]) ∧ w' = w := by
  obtain ⟨b, off, rfl, hc⟩ := hz (by omega)
  have Hg : Hid (∀ j, j < m → 0 ≤ z j ∧ z j ≤ 12) := hg
  clear hg
  have Hbad : Hid (¬ (0 ≤ z m ∧ z m ≤ 12)) := hbad
  clear hbad
  have Hc : Hid (∀ k, k < n → w.cell? { block := b, off := off + k } = some (Value.int IntKind.i64 (z k))) := hc
  clear hc
  go_enter Try.func10, Try.ntmps10
  go_wp2
  go_loop [4, 5] (fun s i => ∃ k : Nat, k ≤ m ∧ i = .int .i64 k ∧ s = .int .i64 (sumTo z k)) (fun _ i => n - (intOf i).toNat)
  case atStart => exact ⟨0, Nat.zero_le _, rfl, rfl⟩
  case round =>
    obtain ⟨k, hk, rfl, rfl⟩ := hrel
    have hlt : k < n := by omega
    have hck := Hc.out k hlt
    by_cases hkm : k = m
    · have hb : z k < 0 ∨ 12 < z k := by have := Hbad.out; rw [hkm]; omega
      clear hkm
      rcases hb with hb | hb
      · go_wp2
        go_ret2
        exact ⟨rfl, rfl⟩
      · have h0 : ¬ z k < 0 := by omega
        go_wp2
        go_ret2
        exact ⟨rfl, rfl⟩
    · have hkg := Hg.out k (by omega)
      have Hl : Hid (k < m) := (by omega : k < m)
      clear hkm
      have h0 : ¬ z k < 0 := by omega
      have h1 : ¬ 12 < z k := by omega
      have hsb := sumTo_bounds z k (fun j hj => Hg.out j (Nat.lt_trans hj Hl.out))
      go_wp2
      go_loop [6, 7] (fun v i => ∃ j : Nat, (j : Int) ≤ z k ∧ i = .int .i64 j ∧ v = .int .i64 (4096 / 2 ^ j : Nat)) (fun _ i => 12 - (intOf i).toNat)
      case atStart => exact ⟨0, by omega, rfl, rfl⟩
      case round =>
        obtain ⟨j, hj, rfl, rfl⟩ := hrel
        have hhl := half_le j
        by_cases hjz : (j : Int) < z k
        · have Hh : Hid (4096 / 2 ^ j / 2 = 4096 / 2 ^ (j + 1)) := half_pow j (by omega)
          obtain ⟨q, hq⟩ : ∃ q, q = 4096 / 2 ^ j := ⟨_, rfl⟩
          rw [← hq] at Hh hhl ⊢
          clear hq
          go_wp2
          go_round
          case rel => exact ⟨j + 1, by omega, by go_num, by rw [← Hh.out]; go_num⟩
          case measure => simp [intOf]; omega
        · have hjk : j = (z k).toNat := by omega
          have Hs : Hid (0 < z k → sumTo z k + ((4096 / 2 ^ j : Nat) : Int) = sumTo z (k + 1)) := fun h => by rw [hjk]; exact sum_step z k h (by omega)
          clear hjk
          obtain ⟨q, hq⟩ : ∃ q, q = 4096 / 2 ^ j := ⟨_, rfl⟩
          rw [← hq] at Hs hhl ⊢
          clear hq
          by_cases hp : 0 < z k
          · go_wp2
            go_round
            case rel => exact ⟨k + 1, Hl.out, by go_num, by rw [← Hs.out hp]⟩
            case measure => simp [intOf]; omega
          · go_wp2
            go_round
            case rel => exact ⟨k + 1, Hl.out, by go_num, by rw [sum_step_zero z k (by omega)]⟩
            case measure => simp [intOf]; omega
end Go.Proofs.Ytodmdkhdbfbfgaa
