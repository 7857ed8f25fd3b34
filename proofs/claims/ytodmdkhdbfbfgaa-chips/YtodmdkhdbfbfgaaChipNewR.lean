/- A new chip of the document's own. -/
import Derived.Test.YtodmdkhdbfbfgaaChipNew
namespace Go.Proofs.Ytodmdkhdbfbfgaa
open Go.RowKit Pk
set_option linter.unusedVariables false
set_option linter.unusedSimpArgs false

set_option maxRecDepth 100000 in
set_option maxHeartbeats 4000000 in
theorem newR_any (w : World) (blocks pages : Int) (a : Option Addr) (n cap : Nat) (z : Nat → Int) (hn : n ≤ 17592186043904) (hin : IntsIn w a n z) :
    Calls Try.prog 18 #[.int .i64 blocks, .int .i64 pages, .slice a n cap] w fun e w' => ∃ L hi, e = .returned (.pointer (some ⟨w.heap.size, 0, none⟩)) ∧ hi ≤ w'.heap.size ∧ CR w' w.heap.size hi w.heap.size L (mkM blocks pages n z) ∧ Below w.heap.size w w' := by
  have Hbl := hidI (fun w => between_any blocks 4 32 (by omega) w)
  have Hpg := hidI (fun w => between_any pages 4 16 (by omega) w)
  have hb1 := bnd_le blocks 4 32 (by omega)
  have hb2 := bnd_le pages 4 16 (by omega)
  obtain ⟨nb, hnb⟩ : ∃ nb : Nat, bnd blocks 4 32 = (nb : Int) := Int.eq_ofNat_of_zero_le (by omega)
  obtain ⟨np, hnp⟩ : ∃ np : Nat, bnd pages 4 16 = (np : Int) := Int.eq_ofNat_of_zero_le (by omega)
  have HM : Hid (mkM blocks pages n z = ⟨nb, np, fun _ _ => [], fun _ => 0, badL z n, -1, 0, -1, 0⟩) := by
    show mkM blocks pages n z = _
    unfold mkM
    rw [hnb, hnp]; rfl
  rw [hnb] at Hbl hb1
  rw [hnp] at Hpg hb2
  have hnb1 : 4 ≤ nb := by omega
  have hnb2 : nb ≤ 32 := by omega
  have hnp1 : 4 ≤ np := by omega
  have hnp2 : np ≤ 16 := by omega
  clear hnb hnp hb1 hb2
  have Her := hidI erased_any
  obtain ⟨X, hX⟩ : ∃ X, X = txt ff := ⟨_, rfl⟩
  rw [← hX] at Her
  have HX := hidI hX
  clear hX
  have Hin := hidI hin
  clear hin
  go_enter Try.func18, Try.ntmps18
  go_wp2_with (first | (go_at_call 49; refine (Hpg.out _).mono ?_; rintro e w1 ⟨rfl, h1⟩; subst h1))
  have Hst0 := hidI (heap_alloc_new w1 (Obj.cells #[.int .i64 (np : Nat), .slice none 0 0, .slice none 0 0, .slice none 0 0, .int .i64 (-1), .int .i64 (-1), .int .i64 0, .int .i64 0] 78))
  have Hb0 := hidI ((Below.refl w1.heap.size w1).alloc (Nat.le_refl _) (Obj.cells #[.int .i64 (np : Nat), .slice none 0 0, .slice none 0 0, .slice none 0 0, .int .i64 (-1), .int .i64 (-1), .int .i64 0, .int .i64 0] 78))
  obtain ⟨i0, hi0, hz0, hz1, hz2⟩ := info_parts Try.info23
  obtain ⟨j0, gi, gz0, gz1, gz2⟩ := info_parts Try.info9
  obtain ⟨k0, ki, kz0, kz1, kz2⟩ := info_parts Try.info3
  obtain ⟨l0, li, lz0, lz1, lz2⟩ := info_parts Try.info4
  obtain ⟨G, hGe⟩ : ∃ G, G = w1.heap.size := ⟨_, rfl⟩
  have Hin : Hid (∀ W, Below G w1 W → IntsIn W a n z) := fun W hb => Hin.out.below (hGe ▸ hb)
  rw [← hGe] at Hst0 Hb0 ⊢
  have HGe := hidI hGe
  clear hGe
  go_loopw [8] (fun x wr => ∃ k : Nat, k ≤ nb ∧ x = .int .i64 k ∧ ∃ da dc na nc ba bc rw cr, wr.heap[G]? = some (.cells #[.int .i64 (np : Nat), .slice da k dc, .slice na k nc, .slice ba k bc, .int .i64 (-1), .int .i64 (-1), .int .i64 0, .int .i64 0] 78 (0, 0)) ∧ Data wr G (.slice da k dc) k np rw cr (fun _ _ => ff) ∧ wr.ownsRow G 3 1 (.slice na k nc) k ((List.range k).map fun _ => .int .i64 0) ∧ wr.ownsRow G 4 1 (.slice ba k bc) k ((List.range k).map fun i => .bool (badL z n i)) ∧ Below G w1 wr) (fun x _ => nb - (intOf x).toNat)
  case atStart => exact ⟨0, by omega, rfl, none, 0, none, 0, none, 0, fun _ => 0, fun _ => 0, Hst0.out, Data.nil _ _ _ _ _ _, World.ownsRow_nil _ _ _ _, World.ownsRow_nil _ _ _ _, Hb0.out⟩
  case round =>
    clear Hst0 Hb0
    obtain ⟨k, hk, rfl, da, dc, na, nc, ba, bc, rw, cr, hst, hdat, hnx, hbd, hbel⟩ := hrel
    have hGr : G < wr.heap.size := lt_of_heap hst
    by_cases hlt : k < nb
    · have Hst := hidI hst
      have Hdat := hidI hdat
      have Hnx := hidI hnx
      have Hbd := hidI hbd
      have Hbel := hidI hbel
      clear hst hdat hnx hbd hbel
      go_wp2_with (first | (go_at_call 49; refine (Hbl.out _).mono ?_; rintro e w2 ⟨rfl, h2⟩; subst h2))
      go_loopw [9, 10] (fun v x wr => ∃ p : Nat, p ≤ np ∧ x = .int .i64 p ∧ ∃ la lc, v = .slice la p lc ∧ wr.ownsRow w2.heap.size 9 1 (.slice la p lc) p ((List.range p).map fun _ => .string X) ∧ Below w2.heap.size w2 wr) (fun _ x _ => np - (intOf x).toNat)
      case atStart => exact ⟨0, by omega, rfl, none, 0, rfl, World.ownsRow_nil _ _ _ _, Below.refl _ _⟩
      case round =>
        obtain ⟨p, hp, rfl, la, lc, rfl, hl, hb⟩ := hrel
        have hsz := hb.size
        have hst := (((Keeps.refl 78 w2).below hb).block Hst.out)
        have x0 : wr.cell? ⟨G, 0, none⟩ = some (.int .i64 (np : Nat)) := by rw [cell_of_row wr G 0 _ 78 (0, 0) hst]; rfl
        by_cases hlp : p < np
        · have Hst1 := hidI hst
          clear hst
          go_wp2_with (first | (go_at_call 50; refine (Her.out _).mono ?_; rintro e w3 ⟨rfl, hb3⟩; have hl3 := ((Keeps.refl 9 wr).below hb3).own hl; have hbb3 := hb.trans (hb3.mono hsz); have hs3 := hbb3.size; clear hb3) | (at_builtin; refine wpList_append_lies _ rfl (.tmp 31) (.tmp 33) 23 rfl w2.heap.size 9 j0 (.string ⟨#[]⟩) 1 16 Try.underlying23 gi gz0 gz1 gz2 rfl (by decide) (.slice la p lc) p _ rfl (hl3.alloc _) ⟨w3.heap.size, 0, none⟩ 1 1 [.string X] rfl rfl (cell_one_new _ _ _) (by intro u hu; simp at hu; subst hu; rfl) (by omega) (by unfold maxLen; omega) (by omega) (by simp; omega) (w3.heap.size + 1) (by simp) ?_; intro g4 cap4 w4 hown4 hgrow4 hat4 hlt4; rw [grow_same] at hown4; have hb4 : Below w2.heap.size w2 w4 := (hbb3.alloc (by omega) _).grown hgrow4 (by simp; omega) (fun q hq => (hl3.lt q hq).1); clear hgrow4 hat4))
          go_roundw
          case rel => exact ⟨p + 1, by omega, by go_num, _, _, rfl, hown4, hb4⟩
          case measure => simp [intOf]; omega
        · have hpe : np = p := by omega
          subst hpe
          have Hl := hidI hl
          have Hb := hidI hb
          have Hst1 := hidI hst
          clear hl hb hst
          go_wp2_with fail
          have Hin2 := hidI (Hin.out _ (Hbel.out.trans (Hb.out.mono (Nat.le_of_lt hGr))))
          go_loopw [11, 12] (fun v x wq => ∃ q : Nat, q ≤ n ∧ x = .int .i64 q ∧ v = .bool (badL z q k) ∧ wq = wr) (fun _ x _ => n - (intOf x).toNat)
          case atStart => exact ⟨0, by omega, rfl, rfl, rfl⟩
          case round =>
            obtain ⟨q, hq, rfl, rfl, rfl⟩ := hrel
            by_cases hlq : q < n
            · obtain ⟨b, off, rfl, hc⟩ := Hin2.out (by omega)
              have hcq := hc q hlq
              have Hs := hidI (congrFun (badL_succ z q) k)
              clear hc
              cases hbq : badL z q k with
              | true =>
                have Hs2 : Hid (badL z (q + 1) k = true) := by show _ = _; rw [Hs.out]; simp [hbq]
                clear hbq
                go_wp2
                go_roundw
                case rel => exact ⟨q + 1, by omega, by go_num, by rw [Hs2.out], trivial⟩
                case measure => simp [intOf]; omega
              | false =>
                have Hs2 : Hid (badL z (q + 1) k = (z q == (k : Int))) := by show _ = _; rw [Hs.out]; simp [hbq]
                clear hbq
                go_wp2
                go_roundw
                case rel => exact ⟨q + 1, by omega, by go_num, by rw [Hs2.out], trivial⟩
                case measure => simp [intOf]; omega
            · have hqe : n = q := by omega
              subst hqe
              have x1 : wr.cell? ⟨G, 1, none⟩ = some (.slice da k dc) := by rw [cell_of_row wr G 1 _ 78 (0, 0) Hst1.out]; rfl
              have hGq : G < wr.heap.size := lt_of_heap Hst1.out
              have hdq : Data wr G (.slice da k dc) k np rw cr (fun _ _ => ff) := Hdat.out.keep ((Keeps.refl 9 w2).below Hb.out) ((Keeps.refl 23 w2).below Hb.out)
              have hown23 := hdq.own
              obtain ⟨gl, cl, hgl, hglb, hrl⟩ := own_rw Hl.out (by omega)
              have hgl' : Value.slice la np lc = .slice (some ⟨gl, 0, none⟩) np cl := hgl
              simp only [Value.slice.injEq, true_and] at hgl'
              obtain ⟨rfl, rfl⟩ := hgl'
              have Hrl : Hid (Rw wr gl 9 np (fun p => .string (txt ((fun _ => ff : Nat → List UInt8) p)))) := by
                refine hrl.congr fun p _ => ?_
                rw [HX.out]
              clear hrl hgl
              go_wp2_with (at_builtin; refine wpList_append_lies _ rfl (.tmp 54) (.tmp 56) 28 rfl G 23 i0 (.slice none 0 0) 1 24 Try.underlying28 hi0 hz0 hz1 hz2 rfl (by decide) (.slice da k dc) k _ rfl (hown23.alloc _) ⟨wr.heap.size, 0, none⟩ 1 1 [.slice (some ⟨gl, 0, none⟩) np lc] rfl rfl (cell_one_new _ _ _) (by intro u hu; simp at hu; subst hu; rfl) (by omega) (by unfold maxLen; omega) (by omega) (by simp; omega) (wr.heap.size + 1) (by simp) ?_)
              intro g3 cap3 w3 hown3 hgrow3 hat3 hlt3
              have K3 : ∀ t, t ≠ 23 → Keeps t wr w3 := (fun t ht => ((Keeps.refl t wr).alloc _).grown (hown23.alloc _) (fun e => ht e.symm) hgrow3)
              have hst3 := (K3 78 (by decide)).block Hst1.out
              have y1 : w3.cell? ⟨G, 1, none⟩ = some (.slice da k dc) := by rw [cell_of_row w3 G 1 _ 78 (0, 0) hst3]; rfl
              have yf1 := frozen_of_row w3 G 1 _ 78 hst3
              have hst4 := heap_setCell_same w3 G 1 _ 78 (.slice (some ⟨g3, 0, none⟩) (k + 1) cap3) hst3
              have K9 : Keeps 9 w2 (w3.setCell ⟨G, 1, none⟩ (.slice (some ⟨g3, 0, none⟩) (k + 1) cap3)) := (((Keeps.refl 9 w2).below Hb.out).trans (K3 9 (by decide))).set hst3 (by decide)
              have hdat4 := Hdat.out.push K9 (r := gl) (c := lc) (f := fun _ => ff) (Nat.le_trans (Nat.le_of_lt hGr) hglb) hglb (((K3 9 (by decide)).set (o := 1) (v := .slice (some ⟨g3, 0, none⟩) (k + 1) cap3) hst3 (by decide)).rw Hrl.out) (((Keeps.refl 23 w3).set (o := 1) (v := .slice (some ⟨g3, 0, none⟩) (k + 1) cap3) hst3 (by decide)).own hown3)
              have hpe : put (fun (_ : Nat) (_ : Nat) => ff) k (fun _ => ff) = fun _ _ => ff := (by
                funext x y
                unfold put
                split <;> rfl)
              rw [hpe] at hdat4
              have hnx4 := ((((Keeps.refl 3 w2).below Hb.out).trans (K3 3 (by decide))).set (o := 1) (v := .slice (some ⟨g3, 0, none⟩) (k + 1) cap3) hst3 (by decide)).own Hnx.out
              have hbd4 := ((((Keeps.refl 4 w2).below Hb.out).trans (K3 4 (by decide))).set (o := 1) (v := .slice (some ⟨g3, 0, none⟩) (k + 1) cap3) hst3 (by decide)).own Hbd.out
              have hbel4 : Below G w1 (w3.setCell ⟨G, 1, none⟩ (.slice (some ⟨g3, 0, none⟩) (k + 1) cap3)) := (((Hbel.out.trans (Hb.out.mono (Nat.le_of_lt hGr))).alloc (Nat.le_of_lt hGq) _).grown hgrow3 (by simp; omega) (fun q hq => (hown23.lt q hq).1)).setCell (Nat.le_refl _) _
              have hG3 : G < w3.heap.size := lt_of_heap hst3
              have x2 : (w3.setCell ⟨G, 1, none⟩ (.slice (some ⟨g3, 0, none⟩) (k + 1) cap3)).cell? ⟨G, 2, none⟩ = some (.slice na k nc) := by rw [cell_of_row _ G 2 _ 78 (0, 0) hst4]; rfl
              have Hst4 := hidI hst4
              have Hdat4 := hidI hdat4
              have Hbd4 := hidI hbd4
              have Hbel4 := hidI hbel4
              clear hst3 hst4 hdat4 hbd4 hbel4 hown3 hgrow3 hat3 K3 K9 hpe Hst Hdat Hnx Hbd Hbel Hl Hb Hst1 hdq hown23 Hrl x0 x1 Hin2
              go_wp2_with (at_builtin; refine wpList_append_lies _ rfl (.tmp 64) (.tmp 65) 22 rfl G 3 k0 (.int .i64 0) 1 8 Try.underlying22 ki kz0 kz1 kz2 rfl (by decide) (.slice na k nc) k _ rfl (hnx4.alloc _) ⟨w3.heap.size, 0, none⟩ 1 1 [.int .i64 0] rfl rfl (cell_set_new _ _ _ _ _) (by intro u hu; simp at hu; subst hu; rfl) (by omega) (by unfold maxLen; omega) (by omega) (by simp; omega) (w3.heap.size + 1) (by simp) ?_)
              intro g5 cap5 w5 hown5 hgrow5 hat5 hlt5
              have K5 : ∀ t, t ≠ 3 → Keeps t (w3.setCell ⟨G, 1, none⟩ (.slice (some ⟨g3, 0, none⟩) (k + 1) cap3)) w5 := (fun t ht => ((Keeps.refl t _).alloc _).grown (hnx4.alloc _) (fun e => ht e.symm) hgrow5)
              have hst5 := (K5 78 (by decide)).block Hst4.out
              have y2 : w5.cell? ⟨G, 2, none⟩ = some (.slice na k nc) := by rw [cell_of_row w5 G 2 _ 78 (0, 0) hst5]; rfl
              have yf2 := frozen_of_row w5 G 2 _ 78 hst5
              have hst6 := heap_setCell_same w5 G 2 _ 78 (.slice (some ⟨g5, 0, none⟩) (k + 1) cap5) hst5
              rw [grow_same] at hown5
              have Hnx6 := hidI (((Keeps.refl 3 w5).set (o := 2) (v := .slice (some ⟨g5, 0, none⟩) (k + 1) cap5) hst5 (by decide)).own hown5)
              have Hdat6 := hidI (Hdat4.out.keep ((K5 9 (by decide)).set (o := 2) (v := .slice (some ⟨g5, 0, none⟩) (k + 1) cap5) hst5 (by decide)) ((K5 23 (by decide)).set (o := 2) (v := .slice (some ⟨g5, 0, none⟩) (k + 1) cap5) hst5 (by decide)))
              have hbd6 := ((K5 4 (by decide)).set (o := 2) (v := .slice (some ⟨g5, 0, none⟩) (k + 1) cap5) hst5 (by decide)).own Hbd4.out
              have Hbel6 : Hid (Below G w1 (w5.setCell ⟨G, 2, none⟩ (.slice (some ⟨g5, 0, none⟩) (k + 1) cap5))) := ((Hbel4.out.alloc (by simp; omega) _).grown hgrow5 (by simp; omega) (fun q hq => (hnx4.lt q hq).1)).setCell (Nat.le_refl _) _
              have hG5 : G < w5.heap.size := lt_of_heap hst5
              have x3 : (w5.setCell ⟨G, 2, none⟩ (.slice (some ⟨g5, 0, none⟩) (k + 1) cap5)).cell? ⟨G, 3, none⟩ = some (.slice ba k bc) := by rw [cell_of_row _ G 3 _ 78 (0, 0) hst6]; rfl
              have Hst6 := hidI hst6
              clear hst5 hst6 hown5 hgrow5 hat5 K5 Hst4 Hdat4 Hbd4 Hbel4 hnx4 x2 y1 yf1
              go_wp2_with (at_builtin; refine wpList_append_lies _ rfl (.tmp 73) (.tmp 75) 74 rfl G 4 l0 (.bool false) 1 1 Try.underlying74 li lz0 lz1 lz2 rfl (by decide) (.slice ba k bc) k _ rfl (hbd6.alloc _) ⟨w5.heap.size, 0, none⟩ 1 1 [.bool (badL z n k)] rfl rfl (cell_set_new _ _ _ _ _) (by intro u hu; simp at hu; subst hu; rfl) (by omega) (by unfold maxLen; omega) (by omega) (by simp; omega) (w5.heap.size + 1) (by simp) ?_)
              intro g7 cap7 w7 hown7 hgrow7 hat7 hlt7
              have K7 : ∀ t, t ≠ 4 → Keeps t (w5.setCell ⟨G, 2, none⟩ (.slice (some ⟨g5, 0, none⟩) (k + 1) cap5)) w7 := (fun t ht => ((Keeps.refl t _).alloc _).grown (hbd6.alloc _) (fun e => ht e.symm) hgrow7)
              have hst7 := (K7 78 (by decide)).block Hst6.out
              have y3 : w7.cell? ⟨G, 3, none⟩ = some (.slice ba k bc) := by rw [cell_of_row w7 G 3 _ 78 (0, 0) hst7]; rfl
              have yf3 := frozen_of_row w7 G 3 _ 78 hst7
              rw [show (List.range k).map (fun i => Value.bool (badL z n i)) ++ [Value.bool (badL z n k)] = (List.range (k + 1)).map (fun i => Value.bool (badL z n i)) by rw [List.range_succ, List.map_append]; rfl] at hown7
              have Hst8 := hidI (heap_setCell_same w7 G 3 _ 78 (.slice (some ⟨g7, 0, none⟩) (k + 1) cap7) hst7)
              have Hbd8 := hidI (((Keeps.refl 4 w7).set (o := 3) (v := .slice (some ⟨g7, 0, none⟩) (k + 1) cap7) hst7 (by decide)).own hown7)
              have Hnx8 := hidI (((K7 3 (by decide)).set (o := 3) (v := .slice (some ⟨g7, 0, none⟩) (k + 1) cap7) hst7 (by decide)).own Hnx6.out)
              have Hdat8 := hidI (Hdat6.out.keep ((K7 9 (by decide)).set (o := 3) (v := .slice (some ⟨g7, 0, none⟩) (k + 1) cap7) hst7 (by decide)) ((K7 23 (by decide)).set (o := 3) (v := .slice (some ⟨g7, 0, none⟩) (k + 1) cap7) hst7 (by decide)))
              have Hbel8 : Hid (Below G w1 (w7.setCell ⟨G, 3, none⟩ (.slice (some ⟨g7, 0, none⟩) (k + 1) cap7))) := ((Hbel6.out.alloc (by simp; omega) _).grown hgrow7 (by simp; omega) (fun q hq => (hbd6.lt q hq).1)).setCell (Nat.le_refl _) _
              clear hst7 hown7 hgrow7 hat7 K7 Hst6 Hdat6 Hnx6 Hbel6 hbd6 x3 y2 yf2
              go_wp2
              go_roundw
              case rel => exact ⟨k + 1, by omega, by go_num, some ⟨_, 0, none⟩, cap3, some ⟨_, 0, none⟩, cap5, some ⟨_, 0, none⟩, cap7, _, _, Hst8.out, Hdat8.out, Hnx8.out, Hbd8.out, Hbel8.out⟩
              case measure => simp [intOf]; omega
    · have hke : nb = k := by omega
      subst hke
      obtain ⟨L, hL⟩ := MemX.built (T := 78) (enc := pad) (m := ⟨nb, np, fun _ _ => [], fun _ => 0, badL z n, -1, 0, -1, 0⟩) (g4 := -1) (g5 := -1) (g6 := 0) (g7 := 0) (by show 0 < nb; omega) (by decide) (Nat.le_refl G) hst hdat (fun i p _ _ => rfl) hnx hbd
      have HL := hidI hL
      have Hbel := hidI hbel
      clear hst hdat hnx hbd hbel hL hGr
      go_wp2_with (first | (go_at_call 49; refine (Hbl.out _).mono ?_; rintro e w2 ⟨rfl, h2⟩; subst h2))
      go_ret
      refine ⟨L, w2.heap.size, by rw [← HGe.out]; rfl, Nat.le_refl _, ?_, ?_⟩
      · rw [HM.out, ← HGe.out]; exact HL.out
      · rw [← HGe.out]; exact Hbel.out
end Go.Proofs.Ytodmdkhdbfbfgaa
