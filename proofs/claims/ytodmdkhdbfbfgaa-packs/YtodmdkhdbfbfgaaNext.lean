/- What next of package pack's decoder returns: the symbol whose code stands at the reader's place, or nothing. -/
import Derived.Test.YtodmdkhdbfbfgaaNewDec
namespace Go.Proofs.Ytodmdkhdbfbfgaa
open Go.RowKit Pk
set_option linter.unusedVariables false

theorem Rd.rowT {w : World} {rb : Nat} {s : List UInt8} {pos : Nat} (h : Rd w rb s pos) : RowT w (some rb) 86 := fun g hg => by
  simp at hg; subst hg; exact ⟨_, _, h⟩

theorem Rd.keep {w w' : World} {rb : Nat} {s : List UInt8} {pos : Nat} {row : Option Nat} {tr : TypeId} (h : Rd w rb s pos) (hg : w.grownBy w' row) (ht : RowT w row tr) (hne : 86 ≠ tr) : Rd w' rb s pos :=
  (keep_blk hg ht h hne).trans h

theorem Dc.keep {w w' : World} {base db : Nat} {z : Nat → Int} {row : Option Nat} {tr : TypeId} (h : Dc w base db z) (hg : w.grownBy w' row) (ht : RowT w row tr) (h1 : 108 ≠ tr) (h2 : 3 ≠ tr) : Dc w' base db z := by
  obtain ⟨v, hr, ho⟩ := h
  exact ⟨v, rowIs_keep hr hg ht h1, own_keep ho hg ht h2⟩

theorem Dc.cell {w : World} {base db : Nat} {z : Nat → Int} (h : Dc w base db z) (D : Nat) (h1 : 1 ≤ D) (h2 : D ≤ 12) : w.cell? ⟨db, D, none⟩ = some (.int .i64 (cnt z D 288 : Nat)) := by
  obtain ⟨v, hr, ho⟩ := h
  rw [hr.cell (by omega)]
  unfold decC
  rw [if_pos h2, if_neg (by omega)]

theorem Dc.syms {w : World} {base db : Nat} {z : Nat → Int} (h : Dc w base db z) : ∃ a c, w.cell? ⟨db, 13, none⟩ = some (.slice a (symL z 288 12).length c) ∧ IntsIn w a (symL z 288 12).length (fun j => (((symL z 288 12).getD j 0 : Nat) : Int)) := by
  obtain ⟨v, hr, ho⟩ := h
  obtain ⟨_, a, c, rfl, hin⟩ := own_nums ho
  refine ⟨a, c, ?_, hin⟩
  rw [hr.cell (by omega)]; rfl

set_option maxRecDepth 100000 in
set_option maxHeartbeats 2000000 in
theorem next_any (rb db base : Nat) (z : Nat → Int) (s : List UInt8) (pos : Nat) (w : World) (hs : s.length ≤ 140737488351232) (hf : Fits z 288) (hr : Rd w rb s pos) (hp : pos ≤ 8 * s.length) (hdc : Dc w base db z) :
    Calls Try.prog 79 #[.pointer (some ⟨db, 0, none⟩), .pointer (some ⟨rb, 0, none⟩)] w fun e w' => w.grownBy w' (some rb) ∧
      ((∃ i, i < 288 ∧ hit s z pos i = true ∧ e = .returned (.tuple #[.int .i64 (i : Nat), .bool true]) ∧ Rd w' rb s (pos + (z i).toNat)) ∨
       ((∀ i, i < 288 → hit s z pos i = false) ∧ e = .returned (.tuple #[.int .i64 0, .bool false]))) := by
  have hT := hr.rowT
  have HT := hidI hT
  have Hdc := hidI hdc
  have hsl := symL_bound z 288 12
  have Hno0 : Hid (∀ i, i < 288 → z i ≤ ((0 : Nat) : Int) → hit s z pos i = false) := fun i hi h => by
    rw [← Bool.not_eq_true, hit_iff]; intro hh; omega
  clear hT hdc
  go_enter Try.func79, Try.ntmps79
  go_wp2
  go_loopw [6, 7, 8, 9] (fun x f p i wr => ∃ d D P V A L : Nat, d ≤ 12 ∧ D ≤ d + 1 ∧ d + 1 ≤ D ∧ P ≤ pos + d ∧ pos + d ≤ P ∧ P ≤ 8 * s.length ∧ i = .int .i64 D ∧ x = .int .i64 V ∧ f = .int .i64 A ∧ p = .int .i64 L ∧ A ≤ V ∧ V ≤ 4096 ∧ L ≤ 3456 ∧
      Hid (V = val s pos d ∧ A = aft z 288 d ∧ L = (symL z 288 d).length) ∧ Rd wr rb s P ∧ w.grownBy wr (some rb) ∧ Hid (∀ i, i < 288 → z i ≤ (d : Int) → hit s z pos i = false)) (fun _ _ _ i _ => 13 - (intOf i).toNat)
  case atStart => exact ⟨0, 1, pos, 0, 0, 0, by omega, by omega, by omega, by omega, by omega, hp, rfl, rfl, rfl, rfl, by omega, by omega, by omega, ⟨rfl, rfl, rfl⟩, hr, World.grownBy.refl _ _, Hno0⟩
  case round =>
    clear Hno0 hr
    obtain ⟨d, D, P, V, A, L, hd, hD1, hD2, hP1, hP2, hP8, rfl, rfl, rfl, rfl, hAV, hV, hL, HV, hrd, hg, Hno⟩ := hrel
    by_cases hlt : d < 12
    · have hdle : decide ((D : Int) ≤ 12) = true := by simp; omega
      by_cases hb : P + 1 ≤ 8 * s.length
      · go_wp2_with fail
        refine (take_yes rb s P 1 _ hs hrd (by omega) hb).mono ?_
        rintro e w1 ⟨rfl, hrd1, hg1⟩
        have hg2 := grown_then hg hg1
        have hdc1 := Hdc.out.keep hg2 HT.out (by decide) (by decide)
        have hcD := hdc1.cell D (by omega) (by omega)
        have hcn := cnt_le z D 288
        rw [val_one]
        have hb2 := bt_lt s P
        have HV1 : Hid (2 * V + bt s P = val s pos (d + 1)) := by
          have h1 := HV.out.1
          have h2 : pos + d = P := by omega
          show _ = _
          rw [val_succ, h2, h1]
        generalize bt s P = bb at *
        have hor : bits BinOp.or IntKind.i64 ((V : Int) * 2) (bb : Int) = ((2 * V + bb : Nat) : Int) := by
          rw [i64_or1 _ _ (by omega) (by omega) (by omega) (by omega) (by omega)]; omega
        have HC : Hid (cnt z D 288 = cnt z (d + 1) 288) := by show _ = _; rw [show D = d + 1 by omega]
        obtain ⟨C, hC⟩ : ∃ C, C = cnt z D 288 := ⟨_, rfl⟩
        rw [← hC] at hcD hcn HC
        clear hC hrd hg hg1
        have hD13 : (D : Int) < 13 := by omega
        by_cases hfound : 2 * V + bb - 2 * A < C
        · have hF := found s z pos d (by omega) (by have h1 := HV.out.2.1; have h2 := HV1.out; omega) (by have h1 := HV.out.2.1; have h2 := HV1.out; have h3 := HC.out; omega) (by omega)
          obtain ⟨i, hi8, hget, hhit, hzi⟩ := hF
          obtain ⟨a13, c13, hc13, hin⟩ := hdc1.syms
          have Hget := hidI hget
          have Hhit := hidI hhit
          have Hzi := hidI hzi
          clear hget hhit hzi
          have hidx : L + (2 * V + bb - 2 * A) < (symL z 288 12).length := by
            have h1 := HV.out
            have h2 := HV1.out
            have h3 := Hget.out
            rw [← h1.2.2, ← h2, ← h1.2.1] at h3
            rcases Nat.lt_or_ge (L + (2 * V + bb - 2 * A)) (symL z 288 12).length with h | h
            · exact h
            · rw [List.getElem?_eq_none h] at h3; cases h3
          obtain ⟨b13, o13, ha13, hcs⟩ := hin (by omega)
          subst ha13
          have hci : w1.cell? ⟨b13, o13 + (L + (2 * V + bb - 2 * A)), none⟩ = some (.int .i64 (i : Nat)) := by
            rw [hcs _ hidx]
            have h1 := HV.out
            have h2 := HV1.out
            have h3 := Hget.out
            rw [← h1.2.2, ← h2, ← h1.2.1] at h3
            simp [List.getD, h3]
          have hci' : w1.cell? ⟨b13, o13 + (L + (2 * V + bb) - A * 2), none⟩ = some (.int .i64 (i : Nat)) := by
            rw [show L + (2 * V + bb) - A * 2 = L + (2 * V + bb - 2 * A) by omega]; exact hci
          clear hcs hin hci
          generalize (symL z 288 12).length = M at *
          have hlt2 : ((2 * V + bb : Nat) : Int) - (A : Int) * 2 < (C : Int) := by omega
          have hRd : Rd w1 rb s (pos + (z i).toNat) := by
            rw [Hzi.out, show pos + (d + 1) = P + 1 by omega]; exact hrd1
          go_wp2
          go_ret2
          exact ⟨hg2, .inl ⟨i, hi8, Hhit.out, rfl, hRd⟩⟩
        · have hge : ¬ (((2 * V + bb : Nat) : Int) - (A : Int) * 2 < (C : Int)) := by omega
          have hAf : aft z 288 (d + 1) = 2 * A + C := by rw [aft, ← HV.out.2.1, HC.out]
          have hLf : (symL z 288 (d + 1)).length = L + C := by rw [symL_len, ← HV.out.2.2, HC.out]
          have hLb := symL_bound z 288 (d + 1)
          have Hstep : Hid (2 * V + bb = val s pos (d + 1) ∧ 2 * A + C = aft z 288 (d + 1) ∧ L + C = (symL z 288 (d + 1)).length) := ⟨HV1.out, hAf.symm, hLf.symm⟩
          have Hno1 : Hid (∀ i, i < 288 → z i ≤ ((d + 1 : Nat) : Int) → hit s z pos i = false) := fun i hi h => by
            by_cases e : z i = ((d + 1 : Nat) : Int)
            · refine miss s z pos (d + 1) i hi e ?_
              have h2 := HV1.out
              omega
            · exact Hno.out i hi (by omega)
          have hv4 : val s pos (d + 1) < 4096 := Nat.lt_of_lt_of_le (val_lt s pos _) (Nat.pow_le_pow_right (by omega) (by omega : d + 1 ≤ 12))
          have hvb : 2 * V + bb ≤ 4096 := by have h2 := HV1.out; omega
          have hlc : L + C ≤ 3456 := by omega
          clear hAf hLf hLb hv4 HV HV1 Hno HC
          go_wp2
          go_roundw
          case rel => exact ⟨d + 1, D + 1, P + 1, 2 * V + bb, 2 * A + C, L + C, by omega, by omega, by omega, by omega, by omega, hb, by go_num, by go_num, by go_num, by go_num, by omega, hvb, hlc, Hstep, hrd1, hg2, Hno1⟩
          case measure => simp [intOf]; omega
      · have Hend : Hid (∀ i, i < 288 → hit s z pos i = false) := fun i hi => by
          by_cases e : z i ≤ (d : Int)
          · exact Hno.out i hi e
          · rw [← Bool.not_eq_true, hit_iff]; intro hh; omega
        go_wp2_with fail
        refine (take_no rb s P 1 _ hs hP8 hrd (by omega) (by omega)).mono ?_
        rintro e w1 ⟨rfl, q, rfl⟩
        have hg2 := grown_then hg (grown_drewN _ q _)
        go_wp2
        go_ret2
        exact ⟨hg2, .inr ⟨Hend.out, rfl⟩⟩
    · have Hend : Hid (∀ i, i < 288 → hit s z pos i = false) := fun i hi => Hno.out i hi (by have := hf.rng i hi; omega)
      go_wp2
      go_ret2
      exact ⟨hg, .inr ⟨Hend.out, rfl⟩⟩
end Go.Proofs.Ytodmdkhdbfbfgaa
