/- What pack.Codes of the program returns: the error, or a new list of the codes. -/
import Derived.Test.YtodmdkhdbfbfgaaAssign
namespace Go.Proofs.Ytodmdkhdbfbfgaa
open Go.RowKit Pk
set_option linter.unusedVariables false

theorem Try.info9 : (Try.prog.info? 9).map (fun i => (i.zero, i.size, i.bytes)) = some (some (.string ⟨#[]⟩), 1, 16) := by kernel_rfl

set_option maxHeartbeats 400000 in
theorem codes_many (a : Option Addr) (n cap : Nat) (w : World) (hn : n ≤ 140737488351232) (h : 288 < n) :
    Calls Try.prog 9 #[.slice a n cap] w fun e w' => e = .returned (.tuple #[.slice none 0 0, .int .i64 1]) ∧ w' = w := by
  go_enter Try.func9, Try.ntmps9
  go_wp2_with (go_at_call 36; refine (check_many _ _ _ _ hn h).mono ?_; rintro e w' ⟨rfl, rfl⟩)
  go_ret2
  exact ⟨rfl, rfl⟩

set_option maxHeartbeats 400000 in
theorem codes_bad (a : Option Addr) (n cap : Nat) (z : Nat → Int) (w : World) (hn : n ≤ 288) (hz : IntsIn w a n z) (m : Nat) (hm : m < n) (hbad : ¬ (0 ≤ z m ∧ z m ≤ 12)) (hg : ∀ j, j < m → 0 ≤ z j ∧ z j ≤ 12) :
    Calls Try.prog 9 #[.slice a n cap] w fun e w' => e = .returned (.tuple #[.slice none 0 0, .int .i64 1]) ∧ w' = w := by
  have H := fun c => check_bad a n c z w hn hz m hm hbad hg
  clear hbad hg hz
  go_enter Try.func9, Try.ntmps9
  go_wp2_with (go_at_call 36; refine (H _).mono ?_; rintro e w' ⟨rfl, rfl⟩)
  go_ret2
  exact ⟨rfl, rfl⟩

set_option maxHeartbeats 400000 in
theorem codes_over (a : Option Addr) (n cap : Nat) (z : Nat → Int) (w : World) (hn : n ≤ 288) (hz : IntsIn w a n z) (hg : ∀ j, j < n → 0 ≤ z j ∧ z j ≤ 12) (hs : 4096 < sumTo z n) :
    Calls Try.prog 9 #[.slice a n cap] w fun e w' => e = .returned (.tuple #[.slice none 0 0, .int .i64 2]) ∧ w' = w := by
  have H := fun c => check_rng a n c z w hn hz hg
  rw [if_pos hs] at H
  clear hg hz
  go_enter Try.func9, Try.ntmps9
  go_wp2_with (go_at_call 36; refine (H _).mono ?_; rintro e w' ⟨rfl, rfl⟩)
  go_ret2
  exact ⟨rfl, rfl⟩

set_option maxRecDepth 100000 in
set_option maxHeartbeats 400000 in
theorem codes_fit (a : Option Addr) (n cap : Nat) (z : Nat → Int) (w : World) (hn : n ≤ 288) (hz : IntsIn w a n z) (hf : Fits z n) :
    Calls Try.prog 9 #[.slice a n cap] w fun e w' => e = .returned (.tuple #[.slice (some ⟨w.heap.size, 0, none⟩) n n, .int .i64 0]) ∧ Below w.heap.size w w' ∧ w'.rowIs w.heap.size 9 n (fun s => .string (txt (code z n s))) := by
  have H := fun c => check_rng a n c z w hn hz hf.rng
  rw [if_neg (by have := hf.sum; omega)] at H
  have hmk := run_make_row' (P := Try.prog) 23 9 (.string ⟨#[]⟩) 16 Try.underlying23 Try.info9 rfl .i64 .i64 n (by omega) (by omega)
  go_enter Try.func9, Try.ntmps9
  go_wp2_with (go_at_call 36; refine (H _).mono ?_; rintro e w' ⟨rfl, rfl⟩)
  refine (assign_any a n cap z _ hn (hz.below ((Below.refl _ _).alloc (Nat.le_refl _) _)) hf).mono ?_
  rintro e w1 ⟨rfl, hb1, hr1⟩
  have hs1 := hb1.size
  simp only [World.size_alloc] at hs1 hr1 hb1
  have hrw : w1.rowIs w'.heap.size 9 n (fun _ => .string ⟨#[]⟩) := rowIs_below (World.rowIs_made w' (.string ⟨#[]⟩) n 9) hb1 (by omega)
  have hbw : Below w'.heap.size w' w1 := ((Below.refl _ _).alloc (Nat.le_refl _) _).trans (hb1.mono (by omega))
  clear hmk H hb1
  go_wp2
  go_loopw [19] (fun i wr => ∃ k : Nat, k ≤ n ∧ i = .int .i64 k ∧ Below w'.heap.size w' wr ∧ w'.heap.size + 1 < wr.heap.size ∧ wr.rowIs (w'.heap.size + 1) 59 (n * 2) (cellA z n 13 0) ∧ wr.rowIs w'.heap.size 9 n (fun s => .string (if s < k then txt (code z n s) else ⟨#[]⟩))) (fun i _ => n - (intOf i).toNat)
  case atStart => exact ⟨0, by omega, rfl, hbw, hr1.lt, hr1, by simpa using hrw⟩
  case round =>
    clear hbw hrw hr1
    obtain ⟨k, hk, rfl, hbw, hsz, hr1, hrw⟩ := hrel
    by_cases hlt : k < n
    · have hc0 := hr1.cell (i := k * 2) (by omega)
      have hc1 := hr1.cell (i := k * 2 + 1) (by omega)
      have hce := cellA_end z n k hf hlt
      rw [hce.1] at hc0
      rw [hce.2] at hc1
      clear hce
      have hrg := hf.rng k hlt
      obtain ⟨dz, hdz⟩ : ∃ d : Nat, d = (z k).toNat := ⟨_, rfl⟩
      rw [← hdz] at hc1
      have hd12 : dz ≤ 12 := by omega
      have hnz : numz z n k < 4294967296 := by
        unfold numz
        split
        · have h1 := num_lt z n k hf hlt (by omega)
          have h2 := Nat.pow_le_pow_right (show 0 < 2 by omega) (show (z k).toNat ≤ 12 by omega)
          omega
        · omega
      have Hdz : Hid (dig (numz z n k) dz = code z n k) := by rw [hdz]; exact dig_numz z n k (by omega)
      clear hdz
      generalize numz z n k = nz at *
      go_wp2_with fail
      refine (text_any nz dz hnz hd12 _).mono ?_
      rintro e w2 ⟨rfl, hb2⟩
      rw [Hdz.out]
      have hs2 := hb2.size
      simp only [World.size_alloc] at hs2 hb2
      have hr2 := rowIs_below (hr1.alloc (.cells #[.int .i64 nz, .int .i64 dz] 59)) hb2 (by omega)
      have hw2 := rowIs_below (hrw.alloc (.cells #[.int .i64 nz, .int .i64 dz] 59)) hb2 (by omega)
      have hbw2 : Below w'.heap.size w' w2 := (hbw.alloc (by omega) _).trans (hb2.mono (by omega))
      have hfz := hw2.frozen k
      obtain ⟨v0, hcv⟩ : ∃ v, w2.cell? ⟨w'.heap.size, k, none⟩ = some v := ⟨_, hw2.cell hlt⟩
      clear hb2 hr1 hrw hbw hc0 hc1
      go_wp2
      go_roundw
      case rel =>
        refine ⟨k + 1, by omega, by go_num, hbw2.setCell (Nat.le_refl _) _, by simp; omega, hr2.setOther (by simp) _, ?_⟩
        refine (hw2.set k _).congr fun j hj => ?_
        by_cases e : j = k
        · subst e; simp
        · rw [if_neg e]
          by_cases e2 : j < k
          · rw [if_pos e2, if_pos (by omega)]
          · rw [if_neg e2, if_neg (by omega)]
      case measure => simp [intOf]; omega
    · have hkn : k = n := by omega
      subst hkn
      go_wp2
      go_ret2
      refine ⟨rfl, hbw, hrw.congr fun j hj => ?_⟩
      rw [if_pos hj]
end Go.Proofs.Ytodmdkhdbfbfgaa
