/- What Codes of the document's own answer (package nandref) returns where each length is 0 to 12: the error, or the codes. -/
import Derived.Test.YtodmdkhdbfbfgaaRef
namespace Go.Proofs.Ytodmdkhdbfbfgaa
open Go.RowKit Pk
set_option linter.unusedVariables false

set_option maxRecDepth 100000 in
set_option maxHeartbeats 1000000 in
theorem ref_over (a : Option Addr) (n cap : Nat) (z : Nat → Int) (w : World) (hn : n ≤ 288) (hz : IntsIn w a n z) (hg : ∀ j, j < n → 0 ≤ z j ∧ z j ≤ 12) (hs : 4096 < sumTo z n) :
    Calls Try.prog 10 #[.slice a n cap] w fun e w' => e = .returned (.tuple #[.slice none 0 0, .int .i64 2]) ∧ w' = w := by
  have Hg : Hid (∀ j, j < n → 0 ≤ z j ∧ z j ≤ 12) := hg
  clear hg
  go_enter Try.func10, Try.ntmps10
  go_wp2
  go_loop [4, 5] (fun s i => ∃ k : Nat, k ≤ n ∧ i = .int .i64 k ∧ s = .int .i64 (sumTo z k)) (fun _ i => n - (intOf i).toNat)
  case atStart => exact ⟨0, Nat.zero_le _, rfl, rfl⟩
  case round =>
    obtain ⟨k, hk, rfl, rfl⟩ := hrel
    by_cases hlt : k < n
    · obtain ⟨b, off, ha, hc⟩ := hz (by omega)
      subst ha
      have hck := hc k hlt
      clear hc
      have hkg := Hg.out k hlt
      have h0 : ¬ z k < 0 := by omega
      have h1 : ¬ 12 < z k := by omega
      have hsb := sumTo_bounds z k (fun j hj => Hg.out j (Nat.lt_trans hj hlt))
      go_wp2
      go_loop [6, 7] (fun v i => ∃ j : Nat, (j : Int) ≤ z k ∧ i = .int .i64 j ∧ v = .int .i64 (4096 / 2 ^ j : Nat)) (fun _ i => 12 - (intOf i).toNat)
      case atStart => exact ⟨0, by omega, rfl, rfl⟩
      case round =>
        obtain ⟨j, hj, rfl, rfl⟩ := hrel
        have hhl := half_le j
        by_cases hjz : (j : Int) < z k
        · have Hh : Hid (4096 / 2 ^ j / 2 = 4096 / 2 ^ (j + 1)) := half_pow j (by omega)
          obtain ⟨q, hq⟩ : ∃ q, q = 4096 / 2 ^ j := ⟨_, rfl⟩
          rw [← hq] at Hh hhl ⊢
          clear hq
          go_wp2
          go_round
          case rel => exact ⟨j + 1, by omega, by go_num, by rw [← Hh.out]; go_num⟩
          case measure => simp [intOf]; omega
        · have hjk : j = (z k).toNat := by omega
          have Hs : Hid (0 < z k → sumTo z k + ((4096 / 2 ^ j : Nat) : Int) = sumTo z (k + 1)) := fun h => by rw [hjk]; exact sum_step z k h (by omega)
          clear hjk
          obtain ⟨q, hq⟩ : ∃ q, q = 4096 / 2 ^ j := ⟨_, rfl⟩
          rw [← hq] at Hs hhl ⊢
          clear hq
          by_cases hp : 0 < z k
          · go_wp2
            go_round
            case rel => exact ⟨k + 1, by omega, by go_num, by rw [← Hs.out hp]⟩
            case measure => simp [intOf]; omega
          · go_wp2
            go_round
            case rel => exact ⟨k + 1, by omega, by go_num, by rw [sum_step_zero z k (by omega)]⟩
            case measure => simp [intOf]; omega
    · have hkn : k = n := by omega
      subst hkn
      go_wp2
      go_ret2
      exact ⟨rfl, rfl⟩

/-- Entry s of the list behind the codes of up to d digits, and behind those of d + 1 digits of the first k symbols. -/
def cellR (z : Nat → Int) (n d k s : Nat) : Value :=
  .string (if 1 ≤ z s ∧ (z s < ((d + 1 : Nat) : Int) ∨ (z s = ((d + 1 : Nat) : Int) ∧ s < k)) then txt (code z n s) else ⟨#[]⟩)

theorem cellR_start (z : Nat → Int) (n s : Nat) : Value.string ⟨#[]⟩ = cellR z n 0 0 s := by
  unfold cellR
  rw [if_neg (by omega)]

theorem cellR_next (z : Nat → Int) (n d s : Nat) (hs : s < n) : cellR z n d n s = cellR z n (d + 1) 0 s := by
  unfold cellR
  exact congrArg Value.string (ite_iff (by omega) _ _)

theorem cellR_miss (z : Nat → Int) (n d k s : Nat) (h : z k ≠ ((d + 1 : Nat) : Int)) : cellR z n d k s = cellR z n d (k + 1) s := by
  unfold cellR
  by_cases e : s = k
  · rw [e]; exact congrArg Value.string (ite_iff (by omega) _ _)
  · exact congrArg Value.string (ite_iff (by omega) _ _)

theorem cellR_hit (z : Nat → Int) (n d k s : Nat) (h : z k = ((d + 1 : Nat) : Int)) :
    (if s = k then Value.string (txt (dig (2 * aft z n d + cnt z (d + 1) k) (d + 1))) else cellR z n d k s) = cellR z n d (k + 1) s := by
  by_cases e : s = k
  · subst e
    rw [if_pos rfl]
    unfold cellR code num
    rw [if_pos (by omega), h, Int.toNat_natCast, Nat.add_sub_cancel]
  · rw [if_neg e]
    unfold cellR
    exact congrArg Value.string (ite_iff (by omega) _ _)

theorem cellR_end (z : Nat → Int) (n s : Nat) (hf : Fits z n) (hs : s < n) : cellR z n 12 0 s = .string (txt (code z n s)) := by
  have := hf.rng s hs
  unfold cellR
  by_cases h : 1 ≤ z s
  · rw [if_pos (by omega)]
  · rw [if_neg (by omega)]
    unfold code
    rw [show (z s).toNat = 0 by omega]
    rfl

set_option maxRecDepth 100000 in
set_option maxHeartbeats 1000000 in
theorem ref_fit (a : Option Addr) (n cap : Nat) (z : Nat → Int) (w : World) (hn : n ≤ 288) (hz : IntsIn w a n z) (hf : Fits z n) :
    Calls Try.prog 10 #[.slice a n cap] w fun e w' => e = .returned (.tuple #[.slice (some ⟨w.heap.size, 0, none⟩) n n, .int .i64 0]) ∧ Below w.heap.size w w' ∧ w'.rowIs w.heap.size 9 n (fun s => .string (txt (code z n s))) := by
  have hmk := run_make_row' (P := Try.prog) 23 9 (.string ⟨#[]⟩) 16 Try.underlying23 Try.info9 rfl .i64 .i64 n (by omega) (by omega)
  have hg := hf.rng
  have hsum : ¬ 4096 < sumTo z n := by have := hf.sum; omega
  have Hg : Hid (∀ j, j < n → 0 ≤ z j ∧ z j ≤ 12) := hg
  clear hg
  go_enter Try.func10, Try.ntmps10
  go_wp2
  go_loop [4, 5] (fun s i => ∃ k : Nat, k ≤ n ∧ i = .int .i64 k ∧ s = .int .i64 (sumTo z k)) (fun _ i => n - (intOf i).toNat)
  case atStart => exact ⟨0, Nat.zero_le _, rfl, rfl⟩
  case round =>
    obtain ⟨k, hk, rfl, rfl⟩ := hrel
    by_cases hlt : k < n
    · obtain ⟨b, off, ha, hc⟩ := hz (by omega)
      subst ha
      have hck := hc k hlt
      clear hc
      have hkg := Hg.out k hlt
      have h0 : ¬ z k < 0 := by omega
      have h1 : ¬ 12 < z k := by omega
      have hsb := sumTo_bounds z k (fun j hj => Hg.out j (Nat.lt_trans hj hlt))
      go_wp2
      go_loop [6, 7] (fun v i => ∃ j : Nat, (j : Int) ≤ z k ∧ i = .int .i64 j ∧ v = .int .i64 (4096 / 2 ^ j : Nat)) (fun _ i => 12 - (intOf i).toNat)
      case atStart => exact ⟨0, by omega, rfl, rfl⟩
      case round =>
        obtain ⟨j, hj, rfl, rfl⟩ := hrel
        have hhl := half_le j
        by_cases hjz : (j : Int) < z k
        · have Hh : Hid (4096 / 2 ^ j / 2 = 4096 / 2 ^ (j + 1)) := half_pow j (by omega)
          obtain ⟨q, hq⟩ : ∃ q, q = 4096 / 2 ^ j := ⟨_, rfl⟩
          rw [← hq] at Hh hhl ⊢
          clear hq
          go_wp2
          go_round
          case rel => exact ⟨j + 1, by omega, by go_num, by rw [← Hh.out]; go_num⟩
          case measure => simp [intOf]; omega
        · have hjk : j = (z k).toNat := by omega
          have Hs : Hid (0 < z k → sumTo z k + ((4096 / 2 ^ j : Nat) : Int) = sumTo z (k + 1)) := fun h => by rw [hjk]; exact sum_step z k h (by omega)
          clear hjk
          obtain ⟨q, hq⟩ : ∃ q, q = 4096 / 2 ^ j := ⟨_, rfl⟩
          rw [← hq] at Hs hhl ⊢
          clear hq
          by_cases hp : 0 < z k
          · go_wp2
            go_round
            case rel => exact ⟨k + 1, by omega, by go_num, by rw [← Hs.out hp]⟩
            case measure => simp [intOf]; omega
          · go_wp2
            go_round
            case rel => exact ⟨k + 1, by omega, by go_num, by rw [sum_step_zero z k (by omega)]⟩
            case measure => simp [intOf]; omega
    · have hkn : k = n := by omega
      subst hkn
      go_wp2
      clear hmk
      go_loopw [9, 10] (fun x i wr => ∃ d D : Nat, d ≤ 12 ∧ D ≤ d + 1 ∧ d + 1 ≤ D ∧ i = .int .i64 D ∧ x = .int .i64 (aft z k d) ∧ Below w.heap.size w wr ∧ wr.rowIs w.heap.size 9 k (cellR z k d 0)) (fun _ i _ => 13 - (intOf i).toNat)
      case atStart =>
        refine ⟨0, 1, by omega, by omega, by omega, rfl, rfl, (Below.refl _ _).alloc (Nat.le_refl _) _, ?_⟩
        exact (World.rowIs_made w (.string ⟨#[]⟩) k 9).congr fun s _ => cellR_start z k s
      case round =>
        obtain ⟨d, D, hd, hD1, hD2, rfl, rfl, hbel, hrow⟩ := hrel
        by_cases hlt : d < 12
        · have haft : aft z k d ≤ 4096 := Nat.le_trans (aft_le z k d hf hd) (Nat.pow_le_pow_right (by omega) hd)
          have hdle : decide ((D : Int) ≤ 12) = true := by simp; omega
          go_wp2
          go_loopw [9, 11] (fun x i wr => ∃ q : Nat, q ≤ k ∧ i = .int .i64 q ∧ x = .int .i64 (2 * aft z k d + cnt z (d + 1) q : Nat) ∧ Below w.heap.size w wr ∧ wr.rowIs w.heap.size 9 k (cellR z k d q)) (fun _ i _ => k - (intOf i).toNat)
          case atStart => exact ⟨0, by omega, rfl, by simp [cnt], hbel, hrow⟩
          case round =>
            clear hbel hrow
            obtain ⟨q, hq, rfl, rfl, hbel, hrow⟩ := hrel
            have hsz := hbel.size
            by_cases hlt2 : q < k
            · obtain ⟨b, off, ha, hc⟩ := hz (by omega)
              subst ha
              have hck : wr.cell? { block := b, off := off + q } = some (Value.int IntKind.i64 (z q)) := by
                rw [hbel.cell (p := ⟨b, off + q, none⟩) (World.block_lt_of_cell? w _ (hc q hlt2))]
                exact hc q hlt2
              have hkc : cnt z (d + 1) q ≤ q := cnt_le _ _ _
              have hlw := hrow.lt
              clear hc hz
              by_cases he : z q = ((d + 1 : Nat) : Int)
              · have heb : (z q == (D : Int)) = true := by rw [he, show D = d + 1 by omega]; simp
                have He : Hid (z q = ((d + 1 : Nat) : Int)) := he
                clear he
                obtain ⟨nm, hnm⟩ : ∃ m : Nat, m = 2 * aft z k d + cnt z (d + 1) q := ⟨_, rfl⟩
                have hnb : nm ≤ 8192 + 288 := by omega
                rw [← hnm]
                have Hnm : Hid (nm = 2 * aft z k d + cnt z (d + 1) q) := hnm
                clear hnm
                go_wp2_with fail
                refine (digits_any nm D (by omega) (by omega) _).mono ?_
                rintro e w2 ⟨rfl, hb2⟩
                have hDd : D = d + 1 := by omega
                have HD : Hid (D = d + 1) := hDd
                clear hDd
                have hs2 := hb2.size
                have hr2 := rowIs_below hrow hb2 hlw
                have hbw2 : Below w.heap.size w w2 := hbel.trans (hb2.mono hsz)
                have hfz := hr2.frozen q
                obtain ⟨v0, hcv⟩ : ∃ v, w2.cell? ⟨w.heap.size, q, none⟩ = some v := ⟨_, hr2.cell hlt2⟩
                clear hb2 hrow hbel hck
                go_wp2
                go_roundw
                case rel =>
                  refine ⟨q + 1, by omega, by go_num, ?_, hbw2.setCell (Nat.le_refl _) _, ?_⟩
                  · have : cnt z (d + 1) (q + 1) = cnt z (d + 1) q + 1 := by simp only [cnt]; rw [if_pos He.out]
                    rw [this, ← Nat.add_assoc, ← Hnm.out]; go_num
                  · rw [Hnm.out, HD.out]
                    exact (hr2.set q _).congr fun s _ => cellR_hit z k d q s He.out
                case measure => simp [intOf]; omega
              · have heb : (z q == (D : Int)) = false := by rw [show D = d + 1 by omega]; simpa using he
                have He : Hid (z q ≠ ((d + 1 : Nat) : Int)) := he
                clear he
                go_wp2
                go_roundw
                case rel =>
                  refine ⟨q + 1, by omega, by go_num, ?_, hbel, ?_⟩
                  · have : cnt z (d + 1) (q + 1) = cnt z (d + 1) q := by simp only [cnt]; rw [if_neg He.out, Nat.add_zero]
                    rw [this]
                  · exact hrow.congr fun s _ => cellR_miss z k d q s He.out
                case measure => simp [intOf]; omega
            · have hkn : q = k := by omega
              have Hk : Hid (q = k) := hkn
              clear hkn
              go_wp2
              go_roundw
              case rel =>
                refine ⟨d + 1, D + 1, by omega, by omega, by omega, by go_num, by rw [aft, Hk.out], hbel, ?_⟩
                rw [Hk.out] at hrow
                exact hrow.congr fun s hs => cellR_next z k d s hs
              case measure => simp [intOf]; omega
        · have hd12 : d = 12 := by omega
          subst hd12
          go_wp2
          go_ret2
          exact ⟨rfl, hbel, hrow.congr fun s hs => cellR_end z k s hf hs⟩
end Go.Proofs.Ytodmdkhdbfbfgaa
