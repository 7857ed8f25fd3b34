/- What (bitWriter).put does, and that it leaves rows of steps as they are. -/
import Derived.Test.YtodmdkhdbfbfgaaPkPut
namespace Go.Proofs.Ytodmdkhdbfbfgaa
open Go.RowKit Pk
set_option linter.unusedVariables false
set_option linter.unusedSimpArgs false

set_option maxRecDepth 100000 in
set_option maxHeartbeats 4000000 in
theorem put_k (w : World) (B g : Nat) (b : List UInt8) (pos n k : Nat) (hB : B ≤ w.heap.size) (hb : 0 < b.length) (hp : pos ≤ 400000) (hk : k ≤ 12) (hn : n < 2 ^ k) (h : BW w B g b pos) :
    Calls Try.prog 76 #[.pointer (some ⟨g, 0, none⟩), .int .i64 (n : Nat), .int .i64 (k : Nat)] w fun e w' => e = .returned (.tuple #[]) ∧ ∃ b', BW w' B g b' (pos + k) ∧ Ag b b' pos ∧ val b' pos k = n ∧ Below B w w' ∧ Keeps 101 w w' := by
  have Hn := hidI hn
  have Hh := hidI h
  have hn12 : n < 4096 := by
    have := Nat.pow_le_pow_right (show 0 < 2 by omega) hk
    omega
  clear hn h
  obtain ⟨i0, hi, hz0, hz1', hz2⟩ := info_parts Try.info5
  go_enter Try.func76, Try.ntmps76
  go_wp2
  go_loopw [6] (fun i wr => ∃ j : Nat, j ≤ k ∧ i = .int .i64 ((k : Int) - 1 - (j : Int)) ∧ ∃ c, BW wr B g c (pos + j) ∧ Ag b c pos ∧ val c pos j = n / 2 ^ (k - j) ∧ Below B w wr ∧ Hid (Keeps 101 w wr)) (fun i _ => (intOf i + 1).toNat)
  case atStart =>
    refine ⟨0, by omega, by go_num, b, Hh.out, Ag.refl _ _, ?_, Below.refl _ _, Keeps.refl _ _⟩
    rw [Nat.sub_zero, Nat.div_eq_of_lt Hn.out]; rfl
  case round =>
    clear Hh
    obtain ⟨j, hj, rfl, c, hc, hag, hv, hbel, Hkp⟩ := hrel
    by_cases hlt : j < k
    · obtain ⟨v, hst, hown⟩ := hc.st
      have hwr := hc.wr
      have hg := hc.hg
      have hcl : 0 < c.length := Nat.lt_of_lt_of_le hb hag.len
      have Hwr := hidI hwr
      have Hv := hidI hv
      have Hag := hidI hag
      have hlo := hwr.lo
      have hhi := hwr.hi
      obtain ⟨r, cap, rfl, hr⟩ := own_form1 hown hcl
      clear hc hwr hv hag
      have hz1 : decide (0 ≤ (k : Int) - 1 - (j : Int)) = true := by simp; omega
      by_cases h0 : pos + j = 8 * c.length
      · have h80 : 8 * c.length - (pos + j) = 0 := by omega
        rw [h80] at hst
        have x0 : wr.cell? ⟨g, 0, none⟩ = some (.slice (some ⟨r, 0, none⟩) c.length cap) := by rw [cell_of_row wr g 0 _ 98 (0, 0) hst]; rfl
        have x1 : wr.cell? ⟨g, 1, none⟩ = some (.int .i64 0) := by rw [cell_of_row wr g 1 _ 98 (0, 0) hst]; rfl
        have hwB : B ≤ wr.heap.size := Nat.le_trans hB hbel.size
        have hcb : c.length ≤ 100000 := by omega
        have Hst := hidI hst
        have Hbel := hidI hbel
        clear hst hbel h80
        go_wp2_with (at_builtin; refine wpList_append_lies _ rfl (.tmp 22) (.tmp 23) 67 rfl B 5 i0 (.int .u8 0) 1 1 Try.underlying67 hi hz0 hz1' hz2 rfl (by decide) (.slice (some ⟨r, 0, none⟩) c.length cap) c.length _ rfl (hown.alloc _) ⟨wr.heap.size, 0, none⟩ 1 1 [.int .u8 0] rfl rfl (cell_one_new _ _ _) (by intro u hu; simp at hu; subst hu; rfl) (by omega) (by unfold maxLen; omega) (by omega) (by simp; omega) (wr.heap.size + 1) (by simp) ?_)
        intro r2 cap2 w2 hown2 hgrow hat hlt2
        have hst1 := (((Keeps.refl 98 wr).alloc _).grown (hown.alloc _) (by decide) hgrow).block Hst.out
        have Hbel1 : Hid (Below B w w2) := (Hbel.out.alloc hwB _).grown hgrow (by simp; omega) (fun q hq => (hown.lt q hq).1)
        have hown2 : w2.ownsRow B 5 1 (.slice (some ⟨r2, 0, none⟩) (c ++ [0]).length cap2) (c ++ [0]).length ((c ++ [(0 : UInt8)]).map fun (y : UInt8) => .int .u8 (y.toNat : Nat)) := by
          rw [List.length_append, List.map_append]; exact hown2
        have hr2 : B ≤ r2 := (hown2.lt r2 rfl).1
        have y0 : w2.cell? ⟨g, 0, none⟩ = some (.slice (some ⟨r, 0, none⟩) c.length cap) := by rw [cell_of_row w2 g 0 _ 98 (0, 0) hst1]; rfl
        have yf0 := frozen_of_row w2 g 0 _ 98 hst1
        have hst2 := heap_setCell_same w2 g 0 _ 98 (.slice (some ⟨r2, 0, none⟩) (c.length + 1) cap2) hst1
        have y1 : (w2.setCell ⟨g, 0, none⟩ (.slice (some ⟨r2, 0, none⟩) (c.length + 1) cap2)).cell? ⟨g, 1, none⟩ = some (.int .i64 0) := by rw [cell_of_row _ g 1 _ 98 (0, 0) hst2]; rfl
        have yf1 := frozen_of_row _ g 1 _ 98 hst2
        have hst3 := heap_setCell_same _ g 1 _ 98 (.int .i64 8) hst2
        have z1 : ((w2.setCell ⟨g, 0, none⟩ (.slice (some ⟨r2, 0, none⟩) (c.length + 1) cap2)).setCell ⟨g, 1, none⟩ (.int .i64 8)).cell? ⟨g, 1, none⟩ = some (.int .i64 8) := by rw [cell_of_row _ g 1 _ 98 (0, 0) hst3]; rfl
        have zf1 := frozen_of_row _ g 1 _ 98 hst3
        have hst4 := heap_setCell_same _ g 1 _ 98 (.int .i64 7) hst3
        have hgr : g ≠ r2 := by
          intro e; subst e
          obtain ⟨_, _, hk⟩ := Lib.ownsRow_kind hown2 g rfl
          rw [hst1] at hk; simp at hk
        have hgv : (Value.slice (some ⟨r2, 0, none⟩) (c ++ [0]).length cap2).ownBlock ≠ some g := by simp [Value.ownBlock]; exact fun e => hgr e.symm
        have hown4 := ownsRow_setCell_other (a := ⟨g, 1, none⟩) (ownsRow_setCell_other (a := ⟨g, 1, none⟩) (ownsRow_setCell_other (a := ⟨g, 0, none⟩) hown2 hgv (.slice (some ⟨r2, 0, none⟩) (c.length + 1) cap2)) hgv (.int .i64 8)) hgv (.int .i64 7)
        have Hbel4 := hidI (((Hbel1.out.setCell (p := ⟨g, 0, none⟩) hg (.slice (some ⟨r2, 0, none⟩) (c.length + 1) cap2)).setCell (p := ⟨g, 1, none⟩) hg (.int .i64 8)).setCell (p := ⟨g, 1, none⟩) hg (.int .i64 7))
        have hs4 : (c ++ [0]).length = c.length + 1 := by simp
        have v0 : (((w2.setCell ⟨g, 0, none⟩ (.slice (some ⟨r2, 0, none⟩) (c.length + 1) cap2)).setCell ⟨g, 1, none⟩ (.int .i64 8)).setCell ⟨g, 1, none⟩ (.int .i64 7)).cell? ⟨g, 0, none⟩ = some (.slice (some ⟨r2, 0, none⟩) (c.length + 1) cap2) := by rw [cell_of_row _ g 0 _ 98 (0, 0) hst4]; rfl
        have v1 : (((w2.setCell ⟨g, 0, none⟩ (.slice (some ⟨r2, 0, none⟩) (c.length + 1) cap2)).setCell ⟨g, 1, none⟩ (.int .i64 8)).setCell ⟨g, 1, none⟩ (.int .i64 7)).cell? ⟨g, 1, none⟩ = some (.int .i64 7) := by rw [cell_of_row _ g 1 _ 98 (0, 0) hst4]; rfl
        have vr : (((w2.setCell ⟨g, 0, none⟩ (.slice (some ⟨r2, 0, none⟩) (c.length + 1) cap2)).setCell ⟨g, 1, none⟩ (.int .i64 8)).setCell ⟨g, 1, none⟩ (.int .i64 7)).cell? ⟨r2, c.length, none⟩ = some (.int .u8 0) := by
          rw [hown4.cellAt c.length (by simp), List.map_append, List.getElem?_append_right (by simp)]; simp
        have vf := hown4.frozenAt c.length
        have Hkp4 : Hid (Keeps 101 w (((w2.setCell ⟨g, 0, none⟩ (.slice (some ⟨r2, 0, none⟩) (c.length + 1) cap2)).setCell ⟨g, 1, none⟩ (.int .i64 8)).setCell ⟨g, 1, none⟩ (.int .i64 7))) := (((Hkp.out.trans (((Keeps.refl 101 wr).alloc _).grown (hown.alloc _) (by decide) hgrow)).set hst1 (by decide)).set hst2 (by decide)).set hst3 (by decide)
        have Hst4 : Hid ((((w2.setCell ⟨g, 0, none⟩ (.slice (some ⟨r2, 0, none⟩) (c.length + 1) cap2)).setCell ⟨g, 1, none⟩ (.int .i64 8)).setCell ⟨g, 1, none⟩ (.int .i64 7)).heap[g]? = some (.cells #[.slice (some ⟨r2, 0, none⟩) (c ++ [0]).length cap2, .int .i64 ((7 : Nat) : Int)] 98 (0, 0))) := by
          show _ = _
          rw [hst4, hs4]; rfl
        have Hown4 := hidI hown4
        clear hst1 hst2 hst3 hst4 hown hown2 hown4 hgrow hat x0 x1 Hst Hbel Hbel1 hs4
        go_wp2
        go_region
        have hor : bits BinOp.or IntKind.u8 0 (bits BinOp.and IntKind.i64 ((n : Int) / 2 ^ (k - 1 - j)) 1 % 256 * 128 % 256) = ((0 + n / 2 ^ (k - 1 - j) % 2 * 2 ^ 7 : Nat) : Int) := by
          have h1 := put_bit n k j 7 (by omega)
          rw [show (2 : Int) ^ 7 = 128 by decide] at h1
          rw [h1]
          exact u8_orq 0 _ 7 (by omega) (Nat.mod_lt _ (by omega)) (by omega) (by simp)
        rw [hor]
        have hz : ∀ i, pos + j ≤ i → bt (c ++ [0]) i = 0 := fun i hi => bt_zero c i (by omega)
        obtain ⟨c', hbw, ha, hbt, hcl'⟩ := bw_end (c := c ++ [0]) (p := pos + j) (q := 7) (x := n / 2 ^ (k - 1 - j) % 2) (y := 0 + n / 2 ^ (k - 1 - j) % 2 * 2 ^ 7) hg Hst4.out Hown4.out (by simp; omega) (by simp; omega) hz (Nat.mod_lt _ (by omega)) (by simp; omega) (by simp)
        rw [show (c ++ [(0 : UInt8)]).length - 1 = c.length by simp] at hbw
        have hbel2 := Hbel4.out.setCell (p := ⟨r2, c.length, none⟩) hr2 (.int .u8 ((0 + n / 2 ^ (k - 1 - j) % 2 * 2 ^ 7 : Nat) : Int))
        have hkp5 : Keeps 101 w ((((w2.setCell ⟨g, 0, none⟩ (.slice (some ⟨r2, 0, none⟩) (c.length + 1) cap2)).setCell ⟨g, 1, none⟩ (.int .i64 8)).setCell ⟨g, 1, none⟩ (.int .i64 7)).setCell ⟨r2, c.length, none⟩ (.int .u8 ((0 + n / 2 ^ (k - 1 - j) % 2 * 2 ^ 7 : Nat) : Int))) := by
          obtain ⟨x5, f5, hk5⟩ := Lib.ownsRow_kind Hown4.out r2 rfl
          exact Hkp4.out.set hk5 (by decide)
        have ha2 : Ag c c' pos := ⟨by rw [hcl']; simp, fun i hi => by rw [ha.bit i (by omega), bt_append c [0] i (by omega)]⟩
        have hvv : val c' pos j = val c pos j := by
          rw [ha.val pos j (by omega)]
          have hab : Ag c (c ++ [0]) (8 * c.length) := ⟨by simp, fun i hi => bt_append c [0] i hi⟩
          exact hab.val pos j (by omega)
        have hv2 : val c' pos (j + 1) = n / 2 ^ (k - (j + 1)) := by
          rw [val_succ, hbt, hvv, Hv.out]
          exact div_step n k j hlt
        generalize ((((w2.setCell ⟨g, 0, none⟩ (.slice (some ⟨r2, 0, none⟩) (c.length + 1) cap2)).setCell ⟨g, 1, none⟩ (.int .i64 8)).setCell ⟨g, 1, none⟩ (.int .i64 7)).setCell ⟨r2, c.length, none⟩ (.int .u8 ((0 + n / 2 ^ (k - 1 - j) % 2 * 2 ^ 7 : Nat) : Int))) = W2 at *
        have Hend : Hid (BW W2.drew B g c' (pos + (j + 1)) ∧ Ag b c' pos ∧ val c' pos (j + 1) = n / 2 ^ (k - (j + 1)) ∧ Below B w W2.drew ∧ Hid (Keeps 101 w W2.drew)) := ⟨⟨hbw.hg, hbw.st, hbw.wr⟩, Hag.out.trans ha2 (Nat.le_refl _), hv2, hbel2.drew, hkp5.drew⟩
        clear y0 yf0 y1 yf1 z1 zf1 v0 v1 vr vf hbw ha hbt hv2 hbel2 hor Hst4 Hown4 Hbel4 Hkp4 hkp5 Hkp
        go_wp2
        go_roundw
        case rel => exact ⟨j + 1, by omega, by go_num, c', Hend.out⟩
        case measure => simp [intOf]; omega
      · obtain ⟨q, hq⟩ : ∃ q, 8 * c.length - (pos + j) = q + 1 := ⟨8 * c.length - (pos + j) - 1, by omega⟩
        rw [hq] at hst
        have hqb : q ≤ 6 := by omega
        have x0 : wr.cell? ⟨g, 0, none⟩ = some (.slice (some ⟨r, 0, none⟩) c.length cap) := by rw [cell_of_row wr g 0 _ 98 (0, 0) hst]; rfl
        have x1 : wr.cell? ⟨g, 1, none⟩ = some (.int .i64 ((q + 1 : Nat) : Int)) := by rw [cell_of_row wr g 1 _ 98 (0, 0) hst]; rfl
        have f1 := frozen_of_row wr g 1 _ 98 hst
        have hne : (((q + 1 : Nat) : Int) == 0) = false := by simp; omega
        have hst2 := heap_setCell_same wr g 1 _ 98 (.int .i64 (q : Nat)) hst
        have y0 : (wr.setCell ⟨g, 1, none⟩ (.int .i64 (q : Nat))).cell? ⟨g, 0, none⟩ = some (.slice (some ⟨r, 0, none⟩) c.length cap) := by rw [cell_of_row _ g 0 _ 98 (0, 0) hst2]; rfl
        have y1 : (wr.setCell ⟨g, 1, none⟩ (.int .i64 (q : Nat))).cell? ⟨g, 1, none⟩ = some (.int .i64 (q : Nat)) := by rw [cell_of_row _ g 1 _ 98 (0, 0) hst2]; rfl
        have hgr : g ≠ r := by
          intro e; subst e
          obtain ⟨_, _, hk⟩ := Lib.ownsRow_kind hown g rfl
          rw [hst] at hk; simp at hk
        obtain ⟨u, hu⟩ : ∃ u, u = (c.getD (c.length - 1) 0).toNat := ⟨_, rfl⟩
        have yr : (wr.setCell ⟨g, 1, none⟩ (.int .i64 (q : Nat))).cell? ⟨r, c.length - 1, none⟩ = some (.int .u8 (u : Nat)) := by
          rw [cell_set_other _ (fun e => hgr e.symm), hown.cellAt (c.length - 1) (by omega), hu, List.getElem?_map, List.getD_eq_getElem?_getD, List.getElem?_eq_getElem (by omega)]
          rfl
        have fr : (wr.setCell ⟨g, 1, none⟩ (.int .i64 (q : Nat))).frozen? ⟨r, c.length - 1, none⟩ = false := by
          rw [frozen_set_other _ (fun e => hgr e.symm)]
          exact hown.frozenAt (c.length - 1)
        have hu256 : u < 256 := by rw [hu]; exact UInt8.toNat_lt _
        have Hu := hidI hu
        have Hq := hidI hq
        have Hst := hidI hst
        have Hst2 := hidI hst2
        have Hown := hidI hown
        have Hbel := hidI hbel
        clear hst hst2 hown hbel hu hq
        rw [show ((q + 1 : Nat) : Int) = (q : Int) + 1 by omega] at x1 hne
        go_wp2
        go_region
        rw [put_bit n k j q (by omega), u8_orq u (n / 2 ^ (k - 1 - j) % 2) q (by omega) (Nat.mod_lt _ (by omega)) hu256 (by
          have := (bit_in c (pos + j) 0 (by omega) (by omega) Hwr.out.zero (by omega)).1
          rw [Hq.out] at this
          rw [Hu.out]; exact this)]
        have hown2 : (wr.setCell ⟨g, 1, none⟩ (.int .i64 (q : Nat))).ownsRow B 5 1 (.slice (some ⟨r, 0, none⟩) c.length cap) c.length (c.map fun c => .int .u8 (c.toNat : Nat)) := ownsRow_setCell_other Hown.out (by simp [Value.ownBlock]; exact fun e => hgr e.symm) _
        obtain ⟨c', hbw, ha, hbt, hcl'⟩ := bw_end (p := pos + j) (q := q) (x := n / 2 ^ (k - 1 - j) % 2) (y := u + n / 2 ^ (k - 1 - j) % 2 * 2 ^ q) hg Hst2.out hown2 (by omega) (by omega) Hwr.out.zero (Nat.mod_lt _ (by omega)) (by have := Hq.out; omega) (by rw [Hu.out])
        have hbel2 := (Hbel.out.setCell (p := ⟨g, 1, none⟩) hg (.int .i64 (q : Nat))).setCell (p := ⟨r, c.length - 1, none⟩) hr (.int .u8 ((u + n / 2 ^ (k - 1 - j) % 2 * 2 ^ q : Nat) : Int))
        have hkp5 : Keeps 101 w ((wr.setCell ⟨g, 1, none⟩ (.int .i64 (q : Nat))).setCell ⟨r, c.length - 1, none⟩ (.int .u8 ((u + n / 2 ^ (k - 1 - j) % 2 * 2 ^ q : Nat) : Int))) := by
          obtain ⟨x5, f5, hk5⟩ := Lib.ownsRow_kind hown2 r rfl
          exact (Hkp.out.set Hst.out (by decide)).set hk5 (by decide)
        have hv2 : val c' pos (j + 1) = n / 2 ^ (k - (j + 1)) := by
          rw [val_succ, hbt, ha.val pos j (by omega), Hv.out]
          exact div_step n k j hlt
        generalize ((wr.setCell ⟨g, 1, none⟩ (.int .i64 (q : Nat))).setCell ⟨r, c.length - 1, none⟩ (.int .u8 ((u + n / 2 ^ (k - 1 - j) % 2 * 2 ^ q : Nat) : Int))) = W2 at *
        have Hend : Hid (BW W2.drew B g c' (pos + (j + 1)) ∧ Ag b c' pos ∧ val c' pos (j + 1) = n / 2 ^ (k - (j + 1)) ∧ Below B w W2.drew ∧ Hid (Keeps 101 w W2.drew)) := ⟨⟨hbw.hg, hbw.st, hbw.wr⟩, Hag.out.trans ha (by omega), hv2, hbel2.drew, hkp5.drew⟩
        clear x0 x1 f1 y0 y1 yr fr hbw ha hbt hv2 hbel2 hown2 hkp5 Hkp Hst
        go_wp2
        go_roundw
        case rel => exact ⟨j + 1, by omega, by go_num, c', Hend.out⟩
        case measure => simp [intOf]; omega
    · have hjk : j = k := by omega
      subst hjk
      have hz1 : decide (0 ≤ (j : Int) - 1 - (j : Int)) = false := by simp; omega
      have Hc := hidI hc
      have Hag := hidI hag
      have Hv := hidI hv
      have Hbel := hidI hbel
      clear hc hag hv hbel
      go_wp2
      go_end0
      refine ⟨rfl, c, Hc.out, Hag.out, ?_, Hbel.out, Hkp.out⟩
      have := Hv.out
      rw [Nat.sub_self, Nat.pow_zero, Nat.div_one] at this
      exact this
end Go.Proofs.Ytodmdkhdbfbfgaa
