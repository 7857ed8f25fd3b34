/- What assign of the program returns where the lengths fit: a new row of pairs, of each symbol the number of its code and how many digits it has. -/
import Derived.Test.YtodmdkhdbfbfgaaText
namespace Go.Proofs.Ytodmdkhdbfbfgaa
open Go.RowKit Pk
set_option linter.unusedVariables false

theorem Try.info59 : (Try.prog.info? 59).map (fun i => (i.zero, i.size, i.bytes)) = some (some (.agg #[.int .i64 0, .int .i64 0]), 2, 16) := by kernel_rfl

/-- Cell j of the row behind the codes of fewer than d digits, and behind those of d digits of the first k symbols. -/
def cellA (z : Nat → Int) (n d k j : Nat) : Value :=
  if 1 ≤ z (j / 2) ∧ (z (j / 2) < d ∨ (z (j / 2) = d ∧ j / 2 < k)) then (if j % 2 = 0 then .int .i64 (num z n (j / 2)) else .int .i64 (z (j / 2))) else .int .i64 0

theorem ite_iff {α : Type} {c d : Prop} [Decidable c] [Decidable d] (h : c ↔ d) (x y : α) : (if c then x else y) = if d then x else y := by
  by_cases hc : c
  · rw [if_pos hc, if_pos (h.1 hc)]
  · rw [if_neg hc, if_neg (fun hd => hc (h.2 hd))]

theorem cellA_pos {z : Nat → Int} {n d k j : Nat} (h : 1 ≤ z (j / 2) ∧ (z (j / 2) < d ∨ (z (j / 2) = d ∧ j / 2 < k))) :
    cellA z n d k j = if j % 2 = 0 then .int .i64 (num z n (j / 2)) else .int .i64 (z (j / 2)) := if_pos h
theorem cellA_neg {z : Nat → Int} {n d k j : Nat} (h : ¬ (1 ≤ z (j / 2) ∧ (z (j / 2) < d ∨ (z (j / 2) = d ∧ j / 2 < k)))) :
    cellA z n d k j = .int .i64 0 := if_neg h

theorem cellA_start (z : Nat → Int) (n j : Nat) : (if j % 2 = 0 then Value.int .i64 0 else .int .i64 0) = cellA z n 1 0 j := by
  rw [cellA_neg (by omega)]
  split <;> rfl

theorem cellA_next (z : Nat → Int) (n d j : Nat) (hj : j < n * 2) : cellA z n d n j = cellA z n (d + 1) 0 j := by
  unfold cellA
  exact ite_iff (by omega) _ _

theorem cellA_miss (z : Nat → Int) (n d k j : Nat) (h : z k ≠ (d : Int)) : cellA z n d k j = cellA z n d (k + 1) j := by
  unfold cellA
  by_cases e : j / 2 = k
  · rw [e]; exact ite_iff (by omega) _ _
  · exact ite_iff (by omega) _ _

theorem cellA_hit (z : Nat → Int) (n d k j : Nat) (h : z k = ((d + 1 : Nat) : Int)) :
    (if j = k * 2 + 1 then Value.int .i64 ((d + 1 : Nat) : Int) else if j = k * 2 then .int .i64 ((2 * aft z n d + cnt z (d + 1) k : Nat) : Int) else cellA z n (d + 1) k j) = cellA z n (d + 1) (k + 1) j := by
  by_cases e : j = k * 2 + 1
  · rw [if_pos e]
    have e1 : j / 2 = k := by omega
    rw [cellA_pos (by rw [e1]; omega), e1, if_neg (by omega), h]
  · rw [if_neg e]
    by_cases e2 : j = k * 2
    · rw [if_pos e2]
      have e1 : j / 2 = k := by omega
      rw [cellA_pos (by rw [e1]; omega), e1, if_pos (by omega)]
      unfold num
      rw [h, Int.toNat_natCast, Nat.add_sub_cancel]
    · rw [if_neg e2]
      have e1 : j / 2 ≠ k := by omega
      unfold cellA
      exact ite_iff (by omega) _ _

theorem rowIs_two {w : World} {b : Nat} {t : TypeId} {n : Nat} {f : Nat → Value} (h : w.rowIs b t n f) (i : Nat) (u v : Value) :
    ((w.setCell ⟨b, i, none⟩ u).setCell ⟨b, i + 1, none⟩ v).rowIs b t n (fun j => if j = i + 1 then v else if j = i then u else f j) := (h.set i u).set (i + 1) v

set_option maxRecDepth 100000 in
set_option maxHeartbeats 400000 in
theorem assign_any (a : Option Addr) (n cap : Nat) (z : Nat → Int) (w : World) (hn : n ≤ 288) (hz : IntsIn w a n z) (hf : Fits z n) :
    Calls Try.prog 37 #[.slice a n cap] w fun e w' => e = .returned (.slice (some ⟨w.heap.size, 0, none⟩) n n) ∧ Below w.heap.size w w' ∧ w'.rowIs w.heap.size 59 (n * 2) (cellA z n 13 0) := by
  have hmk := run_make_two (P := Try.prog) 56 59 (.agg #[.int .i64 0, .int .i64 0]) (.int .i64 0) (.int .i64 0) 16 Try.underlying56 Try.info59 rfl .i64 .i64 n (by omega) (by omega)
  go_enter Try.func37, Try.ntmps37
  go_wp2
  go_loopw [4, 5] (fun x i wr => ∃ d : Nat, d ≤ 12 ∧ i = .int .i64 (d + 1 : Nat) ∧ x = .int .i64 (aft z n d) ∧ Below w.heap.size w wr ∧ wr.rowIs w.heap.size 59 (n * 2) (cellA z n (d + 1) 0)) (fun _ i _ => 13 - (intOf i).toNat)
  case atStart =>
    refine ⟨0, by omega, rfl, rfl, (Below.refl _ _).alloc (Nat.le_refl _) _, ?_⟩
    exact (rowIs_made_two w (.int .i64 0) (.int .i64 0) n 59).congr fun j _ => cellA_start z n j
  case round =>
    obtain ⟨d, hd, rfl, rfl, hbel, hrow⟩ := hrel
    by_cases hlt : d < 12
    · have haft : aft z n d ≤ 4096 := Nat.le_trans (aft_le z n d hf hd) (Nat.pow_le_pow_right (by omega) hd)
      go_wp2
      go_loopw [4, 19] (fun x i wr => ∃ k : Nat, k ≤ n ∧ i = .int .i64 k ∧ x = .int .i64 (2 * aft z n d + cnt z (d + 1) k : Nat) ∧ Below w.heap.size w wr ∧ wr.rowIs w.heap.size 59 (n * 2) (cellA z n (d + 1) k)) (fun _ i _ => n - (intOf i).toNat)
      case atStart => exact ⟨0, by omega, rfl, by simp [cnt, Int.mul_comm], hbel, hrow⟩
      case round =>
        clear hbel hrow
        obtain ⟨k, hk, rfl, rfl, hbel, hrow⟩ := hrel
        by_cases hlt2 : k < n
        · obtain ⟨b, off, rfl, hc⟩ := hz (by omega)
          have hck : wr.cell? { block := b, off := off + k } = some (Value.int IntKind.i64 (z k)) := by
            rw [hbel.cell (p := ⟨b, off + k, none⟩) (World.block_lt_of_cell? w _ (hc k hlt2))]
            exact hc k hlt2
          have hkc : cnt z (d + 1) k ≤ k := cnt_le _ _ _
          clear hc hz
          by_cases he : z k = ((d + 1 : Nat) : Int)
          · have hf0 := hrow.frozen (k * 2)
            have hf1 := hrow.frozen (k * 2 + 1)
            obtain ⟨v0, hc0⟩ : ∃ v, wr.cell? ⟨w.heap.size, k * 2, none⟩ = some v := ⟨_, hrow.cell (by omega)⟩
            obtain ⟨v1, hc1⟩ : ∃ v, wr.cell? ⟨w.heap.size, k * 2 + 1, none⟩ = some v := ⟨_, hrow.cell (by omega)⟩
            have heb : (z k == (d : Int) + 1) = true := by rw [he]; simp
            have He : Hid (z k = ((d + 1 : Nat) : Int)) := he
            clear he
            go_wp2
            go_roundw
            case rel =>
              refine ⟨k + 1, by omega, by go_num, ?_, (hbel.setCell (Nat.le_refl _) _).setCell (Nat.le_refl _) _, ?_⟩
              · have : cnt z (d + 1) (k + 1) = cnt z (d + 1) k + 1 := by simp only [cnt]; rw [if_pos He.out]
                rw [this]; go_num
              · exact (rowIs_two hrow (k * 2) _ _).congr fun j _ => cellA_hit z n d k j He.out
            case measure => simp [intOf]; omega
          · have heb : (z k == (d : Int) + 1) = false := by simpa using he
            have He : Hid (z k ≠ ((d + 1 : Nat) : Int)) := he
            clear he
            go_wp2
            go_roundw
            case rel =>
              refine ⟨k + 1, by omega, by go_num, ?_, hbel, ?_⟩
              · have : cnt z (d + 1) (k + 1) = cnt z (d + 1) k := by simp only [cnt]; rw [if_neg He.out, Nat.add_zero]
                rw [this]
              · exact hrow.congr fun j _ => cellA_miss z n (d + 1) k j He.out
            case measure => simp [intOf]; omega
        · have hkn : k = n := by omega
          have Hk : Hid (k = n) := hkn
          clear hkn
          go_wp2
          go_roundw
          case rel =>
            refine ⟨d + 1, by omega, by go_num, by rw [aft, Hk.out], hbel, ?_⟩
            rw [Hk.out] at hrow
            exact hrow.congr fun j hj => cellA_next z n (d + 1) j hj
          case measure => simp [intOf]; omega
    · have hd12 : d = 12 := by omega
      subst hd12
      go_wp2
      go_ret
      exact ⟨rfl, hbel, hrow⟩

/-- The code's number of symbol s; 0 where it has none. -/
def numz (z : Nat → Int) (n s : Nat) : Nat := if 1 ≤ z s then num z n s else 0

theorem cellA_end (z : Nat → Int) (n s : Nat) (hf : Fits z n) (hs : s < n) : cellA z n 13 0 (s * 2) = .int .i64 (numz z n s) ∧ cellA z n 13 0 (s * 2 + 1) = .int .i64 ((z s).toNat : Nat) := by
  have := hf.rng s hs
  have e0 : s * 2 / 2 = s := by omega
  have e1 : (s * 2 + 1) / 2 = s := by omega
  unfold numz
  by_cases h : 1 ≤ z s
  · rw [cellA_pos (by rw [e0]; omega), cellA_pos (by rw [e1]; omega), e0, e1, if_pos (show s * 2 % 2 = 0 by omega), if_neg (show ¬ (s * 2 + 1) % 2 = 0 by omega), if_pos h, Int.toNat_of_nonneg (by omega)]
    exact ⟨rfl, rfl⟩
  · rw [cellA_neg (by rw [e0]; omega), cellA_neg (by rw [e1]; omega), if_neg h, show (z s).toNat = 0 by omega]
    exact ⟨rfl, rfl⟩

theorem dig_numz (z : Nat → Int) (n s : Nat) (hz : 0 ≤ z s) : dig (numz z n s) (z s).toNat = code z n s := by
  unfold code numz
  by_cases h : 1 ≤ z s
  · rw [if_pos h]
  · rw [if_neg h, show (z s).toNat = 0 by omega]
    rfl

end Go.Proofs.Ytodmdkhdbfbfgaa
