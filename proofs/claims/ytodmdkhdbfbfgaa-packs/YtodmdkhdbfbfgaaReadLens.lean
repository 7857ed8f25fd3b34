/- What readLengths of package pack returns: the lengths of all codes, or nothing, as the document's reading has it. -/
import Derived.Test.YtodmdkhdbfbfgaaNext
namespace Go.Proofs.Ytodmdkhdbfbfgaa
open Go.RowKit Pk
set_option linter.unusedVariables false

theorem upd_cell (z : Nat → Int) (p j : Nat) (x : Int) : (if j = p then Value.int .i64 x else Value.int .i64 (z j)) = Value.int .i64 (upd z p x j) := by
  unfold upd; split <;> rfl

theorem same_cell (z : Nat → Int) (p j : Nat) (h : z p = 0) : (if j = p then Value.int .i64 0 else Value.int .i64 (z j)) = Value.int .i64 (z j) := by
  by_cases e : j = p
  · rw [if_pos e, e, h]
  · rw [if_neg e]

theorem grown_out {a b : World} {g o rb : Nat} (h : a.grownBy b (some rb)) (hg : a.heap.size ≤ g) (v : Value) : a.grownBy (b.setCell ⟨g, o, none⟩ v) (some rb) :=
  ⟨h.os, h.tape, h.output, by simpa using h.size, fun k hk hr => (Below.heap_setCell b ⟨g, o, none⟩ v k (by simp; omega)).trans (h.block k hk hr)⟩

theorem Rd.other {w : World} {rb g o : Nat} {s : List UInt8} {pos : Nat} (h : Rd w rb s pos) (hne : rb ≠ g) (v : Value) : Rd (w.setCell ⟨g, o, none⟩ v) rb s pos :=
  (Below.heap_setCell w ⟨g, o, none⟩ v rb hne).trans h

set_option maxRecDepth 100000 in
set_option maxHeartbeats 2000000 in
theorem readLens (rb : Nat) (s : List UInt8) (w : World) (hs : s.length ≤ 140737488351232) (hr : Rd w rb s 0) (R : Option ((Nat → Int) × Nat)) (hR : lensF s 288 0 0 (fun _ => 0) = R) :
    Calls Try.prog 68 #[.pointer (some ⟨rb, 0, none⟩)] w fun e w' => w.grownBy w' (some rb) ∧
      ((∃ z pos, R = some (z, pos) ∧ pos ≤ 8 * s.length ∧ e = .returned (.tuple #[.slice (some ⟨w.heap.size, 0, none⟩) 288 288, .bool true]) ∧ w'.rowIs w.heap.size 3 288 (fun j => .int .i64 (z j)) ∧ Rd w' rb s pos) ∨
       (R = none ∧ e = .returned (.tuple #[.slice none 0 0, .bool false]))) := by
  have Hst : Hid (LensAt s R 0 0 (fun _ => 0)) := .inl ⟨by omega, by omega, fun _ _ => rfl, 288, by omega, hR⟩
  clear hR
  obtain ⟨M, hM⟩ : ∃ M, M = madeCells #[Value.int .i64 0] 288 := ⟨_, rfl⟩
  have hmk : ∀ W : World, (Instr.makeSlice 22 (.int .i64 288) (.int .i64 288)).run Try.prog W = .ok (.slice (some ⟨W.heap.size, 0, none⟩) 288 288) (W.alloc (.cells M 3)) := fun W => by
    rw [hM]
    exact run_make_row' (P := Try.prog) 22 3 (.int .i64 0) 8 Try.underlying22 Try.info3 rfl .i64 .i64 288 (by omega) (by omega) W
  have hrow0 : (w.alloc (.cells M 3)).rowIs w.heap.size 3 288 (fun j => .int .i64 ((fun _ => 0 : Nat → Int) j)) := by rw [hM]; exact World.rowIs_made w (.int .i64 0) 288 3
  have hlt0 := hr.lt
  have hr0 : Rd (w.alloc (.cells M 3)) rb s 0 := (Below.heap_alloc w _ rb hlt0).trans hr
  have hg0 : w.grownBy (w.alloc (.cells M 3)) (some rb) := World.grownBy_alloc w _ _
  clear hM hr
  go_enter Try.func68, Try.ntmps68
  go_wp2
  clear hmk
  go_loopw [5] (fun x wr => ∃ p pos : Nat, ∃ z, p ≤ 288 ∧ pos ≤ 8 * s.length ∧ x = .int .i64 p ∧ Hid (LensAt s R p pos z) ∧ wr.rowIs w.heap.size 3 288 (fun j => .int .i64 (z j)) ∧ Rd wr rb s pos ∧ w.grownBy wr (some rb)) (fun x _ => 288 - (intOf x).toNat)
  case atStart => exact ⟨0, 0, _, by omega, by omega, rfl, Hst, hrow0, hr0, hg0⟩
  case round =>
    clear Hst hrow0 hr0 hg0
    obtain ⟨p, pos, z, hp, hpos, rfl, Hl, hrow, hrd, hg⟩ := hrel
    by_cases hlt : p < 288
    · have Hzp := hidI (lensAt_pos Hl.out hlt).2
      by_cases h4 : 8 * s.length < pos + 4
      · have HR := hidI (lensAt_short Hl.out hlt h4)
        go_wp2_with fail
        refine (take_no rb s pos 4 _ hs hpos hrd (by omega) h4).mono ?_
        rintro e w1 ⟨rfl, q, rfl⟩
        have hg1 := grown_then hg (grown_drewN _ q _)
        go_wp2
        go_ret2
        exact ⟨hg1, .inr ⟨HR.out, rfl⟩⟩
      · go_wp2_with fail
        refine (take_yes rb s pos 4 _ hs hrd (by omega) (by omega)).mono ?_
        rintro e w1 ⟨rfl, hrd1, hg1⟩
        have hrow1 := rowIs_keep hrow hg1 hrd.rowT (by decide)
        have hg2 := grown_then hg hg1
        clear hrow hrd hg hg1
        have h16 := val_lt s pos 4
        have Hone : Hid (val s pos 4 ≠ 0 → LensAt s R (p + 1) (pos + 4) (upd z p (val s pos 4))) := fun h => lensAt_one Hl.out hlt h4 h
        have Hrun : Hid (val s pos 4 = 0 → ¬ 8 * s.length < pos + 9 → LensAt s R (p + 1 + val s (pos + 4) 5) (pos + 9) z) := fun h h9 => lensAt_run Hl.out hlt h4 h h9
        have Hsh : Hid (val s pos 4 = 0 → 8 * s.length < pos + 9 → R = none) := fun h h9 => lensAt_short2 Hl.out hlt h4 h h9
        clear Hl
        generalize val s pos 4 = v4 at *
        have hcp := hrow1.cell (i := p) hlt
        have hfp := hrow1.frozen p
        have hlw := hrow1.lt
        have hset := hrow1.set p (.int .i64 v4)
        have hg3 := grown_out (o := p) hg2 (Nat.le_refl _) (.int .i64 (v4 : Nat))
        have hrd3 := hrd1.other (g := w.heap.size) (o := p) (by omega) (.int .i64 (v4 : Nat))
        by_cases hv : v4 = 0
        · have hv0 : ¬ (0 : Int) < (v4 : Int) := by omega
          have hrow3 : (w1.setCell ⟨w.heap.size, p, none⟩ (.int .i64 (v4 : Nat))).rowIs w.heap.size 3 288 (fun j => .int .i64 (z j)) := hset.congr fun j _ => by rw [hv]; exact same_cell z p j (Hzp.out p (Nat.le_refl _))
          have Hv := hidI hv
          clear hv hset hrow1 hg2 hrd1
          obtain ⟨W3, hW3⟩ : ∃ W, W = w1.setCell ⟨w.heap.size, p, none⟩ (.int .i64 (v4 : Nat)) := ⟨_, rfl⟩
          rw [← hW3] at hrow3 hg3 hrd3
          have HW := hidI hW3
          clear hW3
          by_cases h9 : 8 * s.length < pos + 9
          · have HR := hidI (Hsh.out Hv.out h9)
            go_wp2_with fail
            rw [← HW.out]
            refine (take_no rb s (pos + 4) 5 _ hs (by omega) hrd3 (by omega) (by omega)).mono ?_
            rintro e w4 ⟨rfl, q, rfl⟩
            have hg4 := grown_then hg3 (grown_drewN _ q _)
            go_wp2
            go_ret2
            exact ⟨hg4, .inr ⟨HR.out, rfl⟩⟩
          · go_wp2_with fail
            rw [← HW.out]
            refine (take_yes rb s (pos + 4) 5 _ hs hrd3 (by omega) (by omega)).mono ?_
            rintro e w4 ⟨rfl, hrd4, hg4⟩
            have hrow4 := rowIs_keep hrow3 hg4 hrd3.rowT (by decide)
            have hg5 := grown_then hg3 hg4
            have h32 := val_lt s (pos + 4) 5
            have HE := hidI (Hrun.out Hv.out h9)
            clear HW hrow3 hg3 hrd3 hg4 Hrun Hone Hsh hcp hfp
            generalize val s (pos + 4) 5 = v5 at *
            by_cases hov : 288 ≤ p + v5
            · have HR : Hid (R = none) := by
                rcases HE.out with ⟨h, _⟩ | ⟨_, _, h⟩
                · omega
                · exact h
              have hov' : (288 : Int) ≤ (p : Int) + (v5 : Int) := by omega
              go_wp2
              go_ret2
              exact ⟨hg5, .inr ⟨HR.out, rfl⟩⟩
            · have hov' : ¬ (288 : Int) ≤ (p : Int) + (v5 : Int) := by omega
              have HE' : Hid (LensAt s R (p + v5 + 1) (pos + 9) z) := by rw [show p + v5 + 1 = p + 1 + v5 by omega]; exact HE
              clear HE
              go_wp2
              go_roundw
              case rel => exact ⟨p + v5 + 1, pos + 9, z, by omega, by omega, by go_num, HE', hrow4, hrd4, hg5⟩
              case measure => simp [intOf]; omega
        · have hv0 : (0 : Int) < (v4 : Int) := by omega
          have HE := hidI (Hone.out hv)
          have hrow3 : (w1.setCell ⟨w.heap.size, p, none⟩ (.int .i64 (v4 : Nat))).rowIs w.heap.size 3 288 (fun j => .int .i64 (upd z p v4 j)) := hset.congr fun j _ => upd_cell z p j _
          clear hset hrow1 hg2 hrd1 Hone Hrun Hsh
          go_wp2
          go_roundw
          case rel => exact ⟨p + 1, pos + 4, _, by omega, by omega, by go_num, HE, hrow3, hrd3, hg3⟩
          case measure => simp [intOf]; omega
    · have h288 : p = 288 := by omega
      subst h288
      obtain ⟨hRs, hpl⟩ := lensAt_end Hl.out
      have HR := hidI hRs
      clear hRs Hl
      go_wp2
      go_ret2
      exact ⟨hg, .inl ⟨z, pos, HR.out, hpl, rfl, hrow, hrd⟩⟩
end Go.Proofs.Ytodmdkhdbfbfgaa
