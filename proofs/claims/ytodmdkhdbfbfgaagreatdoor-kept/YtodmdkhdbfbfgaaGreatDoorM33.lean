/- Lemmas and contracts for kept. -/
import Derived.Test.YtodmdkhdbfbfgaaGreatDoorM32
import Derived.Test.YtodmdkhdbfbfgaaGreatDoorM08
set_option maxRecDepth 100000
set_option maxHeartbeats 8000000
namespace Go.Proofs.YtodmdkhdbfbfgaaGreatDoor.S1
open Go.RowKit Pk
set_option linter.unusedVariables false
set_option linter.unusedSimpArgs false
def badL (z : Nat → Int) (n : Nat) (i : Nat) : Bool := (List.range n).any fun j => z j == (i : Int)
def mkM (blocks pages : Int) (n : Nat) (z : Nat → Int) : M := ⟨(bnd blocks 4 32).toNat, (bnd pages 4 16).toNat, fun _ _ => [], fun _ => 0, badL z n, -1, 0, -1, 0⟩
theorem mkM_wf (blocks pages : Int) (n : Nat) (z : Nat → Int) : WF (mkM blocks pages n z) := by
 have h1 := bnd_le blocks 4 32 (by omega)
 have h2 := bnd_le pages 4 16 (by omega)
 refine ⟨?_, ?_, ?_, ?_, fun i _ => Nat.zero_le _, fun i p _ _ => Nat.zero_le _, ?_, ?_, ?_, ?_, ?_, ?_, ?_, ?_⟩ <;> (simp only [mkM]; omega)
theorem badL_succ (z : Nat → Int) (k : Nat) : badL z (k + 1) = fun i => badL z k i || (z k == (i : Int)) := by
 funext i
 unfold badL
 rw [List.range_succ, List.any_append]
 simp
theorem grow_same {α : Type} (n : Nat) (x : α) : (List.range n).map (fun _ => x) ++ [x] = (List.range (n + 1)).map fun _ => x := by
 rw [List.range_succ, List.map_append]; rfl
theorem madeNp (np : Nat) (h : np ≤ 16) : ∃ M : Array Value, (∀ W : World, (Instr.makeSlice 40 (.int .i64 (np : Nat)) (.int .i64 (np : Nat))).run Tryz.prog W = .ok (.slice (some ⟨W.heap.size, 0, none⟩) np np) (W.alloc (.cells M 9))) ∧ ∀ W : World, (W.alloc (.cells M 9)).rowIs W.heap.size 9 np (fun _ => .string ⟨#[]⟩) :=
 ⟨madeCells #[Value.string ⟨#[]⟩] np, fun W => run_make_row' (P := Tryz.prog) 40 9 (.string ⟨#[]⟩) 16 Tryz.underlying40 Tryz.info9 rfl .i64 .i64 np (by omega) (by omega) W, fun W => World.rowIs_made W (.string ⟨#[]⟩) np 9⟩
theorem chipDrewN {B : Nat} {a w : World} (h : Below B a w) (q : Nat) : Below B a (w.drewN q) := ⟨h.os, h.tape, h.output, h.size, h.block⟩
theorem MemX.bdc {w : World} {lo hi cb : Nat} {T : TypeId} {L : Loc} {m : M} {enc : List UInt8 → List UInt8} {g4 g5 g6 g7 : Int} (h : MemX w lo hi cb T L m enc g4 g5 g6 g7) (bd : Nat → Bool) (e : ∀ i, i < m.nb → m.bd i = bd i) : MemX w lo hi cb T L { m with bd := bd } enc g4 g5 g6 g7 :=
 ⟨h.hcb, h.hdb, h.hnk, h.hbk, h.hrw, h.inj, h.hT, h.st, h.data, h.next, h.bad.congr (fun i hi => by rw [e i hi]), h.page⟩
theorem cell_set_new (w : World) (p : Addr) (x v : Value) (t : TypeId) : ∀ j u, [v][j]? = some u → ((w.setCell p x).alloc (.cells #[v] t)).cell? ((⟨w.heap.size, 0, none⟩ : Addr).add j) = some u := by
 have := cell_one_new (w.setCell p x) v t
 simpa using this
theorem cell_two_new (w : World) (o : Obj) (v : Value) (t : TypeId) : ∀ j u, [v][j]? = some u → ((w.alloc o).alloc (.cells #[v] t)).cell? ((⟨w.heap.size + 1, 0, none⟩ : Addr).add j) = some u := by
 have := cell_one_new (w.alloc o) v t
 simpa using this
theorem new_any (w : World) (blocks pages : Int) (a : Option Addr) (n cap : Nat) (z : Nat → Int) (hn : n ≤ 17592186043904) (hin : IntsIn w a n z) :
 Calls Tryz.prog 10 #[.int .i64 blocks, .int .i64 pages, .slice a n cap] w fun e w' => ∃ L hi, e = .returned (.pointer (some ⟨w.heap.size, 0, none⟩)) ∧ hi ≤ w'.heap.size ∧ CP w' w.heap.size hi w.heap.size L (mkM blocks pages n z) ∧ Below w.heap.size w w' := by
 have Hbl := hidI (fun w => bound_any blocks 4 32 (by omega) w)
 have Hpg := hidI (fun w => bound_any pages 4 16 (by omega) w)
 have hb1 := bnd_le blocks 4 32 (by omega)
 have hb2 := bnd_le pages 4 16 (by omega)
 obtain ⟨nb, hnb⟩ : ∃ nb : Nat, bnd blocks 4 32 = (nb : Int) := Int.eq_ofNat_of_zero_le (by omega)
 obtain ⟨np, hnp⟩ : ∃ np : Nat, bnd pages 4 16 = (np : Int) := Int.eq_ofNat_of_zero_le (by omega)
 have HM : Hid (mkM blocks pages n z = ⟨nb, np, fun _ _ => [], fun _ => 0, badL z n, -1, 0, -1, 0⟩) := by
  show mkM blocks pages n z = _
  unfold mkM
  rw [hnb, hnp]; rfl
 rw [hnb] at Hbl hb1
 rw [hnp] at Hpg hb2
 have hnb1 : 4 ≤ nb := by omega
 have hnb2 : nb ≤ 32 := by omega
 have hnp1 : 4 ≤ np := by omega
 have hnp2 : np ≤ 16 := by omega
 clear hnb hnp hb1 hb2
 obtain ⟨MC, hmk, hMC⟩ := madeNp np hnp2
 have HMC := hidI hMC
 clear hMC
 have Hin := hidI hin
 clear hin
 go_enter Tryz.func10, Tryz.ntmps10
 go_wp2_with (first | (go_at_call 36; refine (Hpg.out _).mono ?_; rintro e w1 ⟨rfl, h1⟩; subst h1))
 have Hst0 := hidI (heap_alloc_new w1 (Obj.cells #[.int .i64 (np : Nat), .slice none 0 0, .slice none 0 0, .slice none 0 0, .int .i64 (-1), .int .i64 0, .int .i64 (-1), .int .i64 0] 74))
 have Hb0 := hidI ((Below.refl w1.heap.size w1).alloc (Nat.le_refl _) (Obj.cells #[.int .i64 (np : Nat), .slice none 0 0, .slice none 0 0, .slice none 0 0, .int .i64 (-1), .int .i64 0, .int .i64 (-1), .int .i64 0] 74))
 obtain ⟨i0, hi0, hz0, hz1, hz2⟩ := info_parts Tryz.info23
 obtain ⟨k0, ki, kz0, kz1, kz2⟩ := info_parts Tryz.info3
 obtain ⟨l0, li, lz0, lz1, lz2⟩ := info_parts Tryz.info4
 obtain ⟨G, hGe⟩ : ∃ G, G = w1.heap.size := ⟨_, rfl⟩
 have Hin : Hid (∀ W, Below G w1 W → IntsIn W a n z) := fun W hb => Hin.out.below (hGe ▸ hb)
 rw [← hGe] at Hst0 Hb0 ⊢
 have HGe := hidI hGe
 clear hGe
 go_loopw [8] (fun x wr => ∃ k : Nat, k ≤ nb ∧ x = .int .i64 k ∧ ∃ da dc na nc ba bc rw cr, wr.heap[G]? = some (.cells #[.int .i64 (np : Nat), .slice da k dc, .slice na k nc, .slice ba k bc, .int .i64 (-1), .int .i64 0, .int .i64 (-1), .int .i64 0] 74 (0, 0)) ∧ Data wr G (.slice da k dc) k np rw cr (fun _ _ => []) ∧ wr.ownsRow G 3 1 (.slice na k nc) k ((List.range k).map fun _ => .int .i64 0) ∧ wr.ownsRow G 4 1 (.slice ba k bc) k ((List.range k).map fun _ => .bool false) ∧ Below G w1 wr) (fun x _ => nb - (intOf x).toNat)
 case atStart => exact ⟨0, by omega, rfl, none, 0, none, 0, none, 0, fun _ => 0, fun _ => 0, Hst0.out, Data.nil _ _ _ _ _ _, World.ownsRow_nil _ _ _ _, World.ownsRow_nil _ _ _ _, Hb0.out⟩
 case round =>
  clear Hst0 Hb0
  obtain ⟨k, hk, rfl, da, dc, na, nc, ba, bc, rw, cr, hst, hdat, hnx, hbd, hbel⟩ := hrel
  have hGr : G < wr.heap.size := lt_of_heap hst
  by_cases hlt : k < nb
  ·have x0 : wr.cell? ⟨G, 0, none⟩ = some (.int .i64 (np : Nat)) := by rw [cell_of_row wr G 0 _ 74 (0, 0) hst]; rfl
   have x1 : wr.cell? ⟨G, 1, none⟩ = some (.slice da k dc) := by rw [cell_of_row wr G 1 _ 74 (0, 0) hst]; rfl
   have x1a : ∀ o, (wr.drew.alloc o).cell? ⟨G, 1, none⟩ = some (.slice da k dc) := fun o => (World.cell?_of_block (w := wr) (Below.heap_alloc wr.drew o G hGr)).trans x1
   have x1b : ∀ o o', ((wr.drew.alloc o).alloc o').cell? ⟨G, 1, none⟩ = some (.slice da k dc) := fun o o' => (World.cell?_of_block (w := wr.drew.alloc o) (Below.heap_alloc (wr.drew.alloc o) o' G (by simp; omega))).trans (x1a o)
   have Hst := hidI hst
   have Hdat := hidI hdat
   have Hnx := hidI hnx
   have Hbd := hidI hbd
   have Hbel := hidI hbel
   clear hst hdat hnx hbd hbel
   go_wp2_with (first | (go_at_call 36; refine (Hbl.out _).mono ?_; rintro e w2 ⟨rfl, h2⟩; subst h2))
   go_region_law (first
    | (refine step_append_lies _ (by rfl) _ _ _ (by rfl) G 40 i0 _ 1 24 Tryz.underlying71 hi0 hz0 hz1 hz2 rfl (by omega) (.slice da k dc) k _ (by rfl) ((Hdat.out.own.drew.alloc _).alloc _) ⟨w2.heap.size + 1, 0, none⟩ 1 1 [.slice (some ⟨w2.heap.size, 0, none⟩) np np] (by rfl) rfl (cell_two_new w2.drew (.cells MC 9) (.slice (some ⟨w2.heap.size, 0, none⟩) np np) 40) (by intro u hu; simp at hu; subst hu; rfl) (by omega) (by unfold maxLen; omega) (by omega) (by simp; omega) (w2.heap.size + 2) (by simp) ?_; intro g2 cap2 w3 hown2 hgrow2 hat2 hlt2; have K2 : ∀ t, t ≠ 40 → Keeps t (w2.drew.alloc (.cells MC 9)) w3 := (fun t ht => ((Keeps.refl t _).alloc _).grown ((Hdat.out.own.drew.alloc _).alloc _) (fun e => ht e.symm) hgrow2); have hst2 := (((Keeps.refl 74 w2).drew.alloc (.cells MC 9)).trans (K2 74 (by decide))).block Hst.out; have y1 : w3.cell? ⟨G, 1, none⟩ = some (.slice da k dc) := (by rw [cell_of_row w3 G 1 _ 74 (0, 0) hst2]; rfl); have yf := frozen_of_row w3 G 1 _ 74 hst2; have Hbel3 : Hid (Below G w1 w3) := ((Hbel.out.drew.alloc (Nat.le_of_lt hGr) _).alloc (by simp; omega) _).grown hgrow2 (by simp; omega) (fun q hq => (Hdat.out.own.lt q hq).1); have HK2 := hidI K2; have Hst2 := hidI hst2; have Hown2 := hidI hown2; clear hown2 hgrow2 hat2 K2 hst2))
   all_goals have hKa : ∀ t, t ≠ 40 → Keeps t w2 w3 := (fun t ht => ((Keeps.refl t w2).drew.alloc (.cells MC 9)).trans (HK2.out t ht))
   all_goals have hst3 := heap_setCell_same w3 G 1 _ 74 (.slice (some ⟨g2, 0, none⟩) (k + 1) cap2) Hst2.out
   all_goals have hrow3 : Rw (w3.setCell ⟨G, 1, none⟩ (.slice (some ⟨g2, 0, none⟩) (k + 1) cap2)) w2.heap.size 9 np (fun p => .string (txt ((fun _ => [] : Nat → List UInt8) p))) := ((HK2.out 9 (by decide)).set (o := 1) (v := .slice (some ⟨g2, 0, none⟩) (k + 1) cap2) Hst2.out (by decide)).rw (rowIs_rw (HMC.out w2.drew))
   all_goals have hdat3 := Hdat.out.push ((hKa 9 (by decide)).set (o := 1) (v := .slice (some ⟨g2, 0, none⟩) (k + 1) cap2) Hst2.out (by decide)) (r := w2.heap.size) (c := np) (f := fun _ => []) (Nat.le_of_lt hGr) (Nat.le_refl _) hrow3 (((Keeps.refl 40 w3).set (o := 1) (v := .slice (some ⟨g2, 0, none⟩) (k + 1) cap2) Hst2.out (by decide)).own Hown2.out)
   all_goals have hpe : put (fun (_ : Nat) (_ : Nat) => ([] : List UInt8)) k (fun _ => []) = fun _ _ => [] := (by
    funext x y
    unfold put
    split <;> rfl)
   all_goals rw [hpe] at hdat3
   all_goals have hnx3 := ((hKa 3 (by decide)).set (o := 1) (v := .slice (some ⟨g2, 0, none⟩) (k + 1) cap2) Hst2.out (by decide)).own Hnx.out
   all_goals have hbd3 := ((hKa 4 (by decide)).set (o := 1) (v := .slice (some ⟨g2, 0, none⟩) (k + 1) cap2) Hst2.out (by decide)).own Hbd.out
   all_goals have hbel3 := Hbel3.out.setCell (p := ⟨G, 1, none⟩) (Nat.le_refl _) (.slice (some ⟨g2, 0, none⟩) (k + 1) cap2)
   all_goals generalize w3.setCell ⟨G, 1, none⟩ (.slice (some ⟨g2, 0, none⟩) (k + 1) cap2) = wa at *
   all_goals clear hrow3 hpe hKa Hst2 HK2 Hown2 y1 yf Hbel3 x0 x1 x1a x1b Hst Hdat Hnx Hbd Hbel
   all_goals have hGa : G < wa.heap.size := lt_of_heap hst3
   all_goals have x2 : wa.cell? ⟨G, 2, none⟩ = some (.slice na k nc) := (by rw [cell_of_row wa G 2 _ 74 (0, 0) hst3]; rfl)
   all_goals have Hst3 := hidI hst3
   all_goals have Hdat3 := hidI hdat3
   all_goals have Hbd3 := hidI hbd3
   all_goals have Hbel3 := hidI hbel3
   all_goals clear hst3 hdat3 hbd3 hbel3
   all_goals go_wp2_with (at_builtin; refine wpList_append_lies _ rfl (.tmp 38) (.tmp 39) 22 rfl G 3 k0 (.int .i64 0) 1 8 Tryz.underlying22 ki kz0 kz1 kz2 rfl (by decide) (.slice na k nc) k _ rfl (hnx3.alloc _) ⟨wa.heap.size, 0, none⟩ 1 1 [.int .i64 0] rfl rfl (cell_one_new _ _ _) (by intro u hu; simp at hu; subst hu; rfl) (by omega) (by unfold maxLen; omega) (by omega) (by simp; omega) (wa.heap.size + 1) (by simp) ?_)
   all_goals intro g4 cap4 w4 hown4 hgrow4 hat4 hlt4
   all_goals have K4 : ∀ t, t ≠ 3 → Keeps t wa w4 := (fun t ht => ((Keeps.refl t wa).alloc _).grown (hnx3.alloc _) (fun e => ht e.symm) hgrow4)
   all_goals have hst4 := (K4 74 (by decide)).block Hst3.out
   all_goals have y2 : w4.cell? ⟨G, 2, none⟩ = some (.slice na k nc) := (by rw [cell_of_row w4 G 2 _ 74 (0, 0) hst4]; rfl)
   all_goals have yf2 := frozen_of_row w4 G 2 _ 74 hst4
   all_goals have hst5 := heap_setCell_same w4 G 2 _ 74 (.slice (some ⟨g4, 0, none⟩) (k + 1) cap4) hst4
   all_goals rw [grow_same] at hown4
   all_goals have hnx5 := ((Keeps.refl 3 w4).set (o := 2) (v := .slice (some ⟨g4, 0, none⟩) (k + 1) cap4) hst4 (by decide)).own hown4
   all_goals have hdat5 := Hdat3.out.keep ((K4 9 (by decide)).set (o := 2) (v := .slice (some ⟨g4, 0, none⟩) (k + 1) cap4) hst4 (by decide)) ((K4 40 (by decide)).set (o := 2) (v := .slice (some ⟨g4, 0, none⟩) (k + 1) cap4) hst4 (by decide))
   all_goals have hbd5 := ((K4 4 (by decide)).set (o := 2) (v := .slice (some ⟨g4, 0, none⟩) (k + 1) cap4) hst4 (by decide)).own Hbd3.out
   all_goals have hbel5 : Below G w1 (w4.setCell ⟨G, 2, none⟩ (.slice (some ⟨g4, 0, none⟩) (k + 1) cap4)) := ((Hbel3.out.alloc (Nat.le_of_lt hGa) _).grown hgrow4 (by simp; omega) (fun q hq => (hnx3.lt q hq).1)).setCell (Nat.le_refl _) _
   all_goals have hG4 : G < w4.heap.size := lt_of_heap hst4
   all_goals have x3 : (w4.setCell ⟨G, 2, none⟩ (.slice (some ⟨g4, 0, none⟩) (k + 1) cap4)).cell? ⟨G, 3, none⟩ = some (.slice ba k bc) := (by rw [cell_of_row _ G 3 _ 74 (0, 0) hst5]; rfl)
   all_goals have Hst5 := hidI hst5
   all_goals have Hdat5 := hidI hdat5
   all_goals have Hnx5 := hidI hnx5
   all_goals have Hbel5 := hidI hbel5
   all_goals clear hst4 hst5 hdat5 hnx5 hbel5 hown4 hgrow4 hat4 K4 Hst3 Hdat3 Hbd3 Hbel3 hnx3 x2
   all_goals go_wp2_with (at_builtin; refine wpList_append_lies _ rfl (.tmp 47) (.tmp 48) 72 rfl G 4 l0 (.bool false) 1 1 Tryz.underlying72 li lz0 lz1 lz2 rfl (by decide) (.slice ba k bc) k _ rfl (hbd5.alloc _) ⟨w4.heap.size, 0, none⟩ 1 1 [.bool false] rfl rfl (cell_set_new _ _ _ _ _) (by intro u hu; simp at hu; subst hu; rfl) (by omega) (by unfold maxLen; omega) (by omega) (by simp; omega) (w4.heap.size + 1) (by simp) ?_)
   all_goals intro g6 cap6 w6 hown6 hgrow6 hat6 hlt6
   all_goals have K6 : ∀ t, t ≠ 4 → Keeps t (w4.setCell ⟨G, 2, none⟩ (.slice (some ⟨g4, 0, none⟩) (k + 1) cap4)) w6 := (fun t ht => ((Keeps.refl t _).alloc _).grown (hbd5.alloc _) (fun e => ht e.symm) hgrow6)
   all_goals have hst6 := (K6 74 (by decide)).block Hst5.out
   all_goals have y3 : w6.cell? ⟨G, 3, none⟩ = some (.slice ba k bc) := (by rw [cell_of_row w6 G 3 _ 74 (0, 0) hst6]; rfl)
   all_goals have yf3 := frozen_of_row w6 G 3 _ 74 hst6
   all_goals rw [grow_same] at hown6
   all_goals have Hst7 := hidI (heap_setCell_same w6 G 3 _ 74 (.slice (some ⟨g6, 0, none⟩) (k + 1) cap6) hst6)
   all_goals have Hbd7 := hidI (((Keeps.refl 4 w6).set (o := 3) (v := .slice (some ⟨g6, 0, none⟩) (k + 1) cap6) hst6 (by decide)).own hown6)
   all_goals have Hnx7 := hidI (((K6 3 (by decide)).set (o := 3) (v := .slice (some ⟨g6, 0, none⟩) (k + 1) cap6) hst6 (by decide)).own Hnx5.out)
   all_goals have Hdat7 := hidI (Hdat5.out.keep ((K6 9 (by decide)).set (o := 3) (v := .slice (some ⟨g6, 0, none⟩) (k + 1) cap6) hst6 (by decide)) ((K6 40 (by decide)).set (o := 3) (v := .slice (some ⟨g6, 0, none⟩) (k + 1) cap6) hst6 (by decide)))
   all_goals have Hbel7 : Hid (Below G w1 (w6.setCell ⟨G, 3, none⟩ (.slice (some ⟨g6, 0, none⟩) (k + 1) cap6))) := ((Hbel5.out.alloc (by simp; omega) _).grown hgrow6 (by simp; omega) (fun q hq => (hbd5.lt q hq).1)).setCell (Nat.le_refl _) _
   all_goals clear hst6 hown6 hgrow6 hat6 K6 Hst5 Hdat5 Hnx5 Hbel5 hbd5 x3 y2 yf2
   all_goals go_wp2
   all_goals (go_roundw; (case rel => exact ⟨k + 1, by omega, by go_num, some ⟨_, 0, none⟩, cap2, some ⟨_, 0, none⟩, cap4, some ⟨_, 0, none⟩, cap6, _, _, Hst7.out, Hdat7.out, Hnx7.out, Hbd7.out, Hbel7.out⟩); (case measure => simp [intOf]; omega))
  ·have hke : nb = k := by omega
   subst hke
   obtain ⟨L, hL⟩ := MemX.built (T := 74) (enc := id) (m := ⟨nb, np, fun _ _ => [], fun _ => 0, badL z 0, -1, 0, -1, 0⟩) (g4 := -1) (g5 := 0) (g6 := -1) (g7 := 0) (by show 0 < nb; omega) (by decide) (Nat.le_refl G) hst hdat (fun i p _ _ => rfl) hnx hbd
   obtain ⟨H, hH⟩ : ∃ H, H = wr.heap.size := ⟨_, rfl⟩
   rw [← hH] at hL
   have Hle : Hid (H ≤ wr.heap.size) := Nat.le_of_eq hH
   have HL := hidI hL
   have Hbel := hidI hbel
   clear hst hdat hnx hbd hbel hL hH hGr
   go_wp2_with (first | (go_at_call 36; refine (Hbl.out _).mono ?_; rintro e w2 ⟨rfl, h2⟩; subst h2))
   go_loopw [9] (fun x wr => ∃ k : Nat, k ≤ n ∧ x = .int .i64 k ∧ CP wr G H G L ⟨nb, np, fun _ _ => [], fun _ => 0, badL z k, -1, 0, -1, 0⟩ ∧ Below G w1 wr ∧ H ≤ wr.heap.size) (fun x _ => n - (intOf x).toNat)
   case atStart => exact ⟨0, by omega, rfl, HL.out, Hbel.out, Hle.out⟩
   case round =>
    clear HL Hbel Hle
    obtain ⟨k, hk, rfl, hm, hbel, hle⟩ := hrel
    have c1 := MemX.c1 hm
    have c3 := MemX.c3 hm
    have Hle := hidI hle
    have Hbel := hidI hbel
    have Hm := hidI hm
    simp only [] at c1 c3
    by_cases hlt : k < n
    ·obtain ⟨b, off, rfl, hc⟩ := Hin.out _ hbel (by omega)
     have hck := hc k hlt
     clear hc hm hbel hle
     by_cases h0 : z k < 0
     ·have hd : decide (0 ≤ z k) = false := by simp; omega
      have Hm2 : Hid (CP wr G H G L ⟨nb, np, fun _ _ => [], fun _ => 0, badL z (k + 1), -1, 0, -1, 0⟩) := (Hm.out.bdc (badL z (k + 1)) (fun i _ => by rw [badL_succ]; show _ = (badL z k i || (z k == (i : Int))); rw [show (z k == (i : Int)) = false by simp; omega, Bool.or_false]))
      go_wp2_with fail
      go_quiet (fail)
      go_wp2
      go_roundw
      case rel => exact ⟨k + 1, by omega, by go_num, MemX.drewN Hm2.out _, chipDrewN Hbel.out _, Hle.out⟩
      case measure => simp [intOf]; omega
     ·have hd : decide (0 ≤ z k) = true := by simp; omega
      obtain ⟨i, hzi⟩ : ∃ i : Nat, z k = (i : Int) := Int.eq_ofNat_of_zero_le (by omega)
      have Hzi := hidI hzi
      rw [hzi] at hck
      by_cases h1 : i < nb
      ·have hd1 : decide ((i : Int) < (nb : Int)) = true := by simp; omega
       have hf := Hm.out.bad.frozen i
       have hcb := Hm.out.bad.cell h1
       have Hm2 : Hid (∀ q, CP ((wr.drewN q).setCell ⟨L.bk, i, none⟩ (.bool true)) G H G L ⟨nb, np, fun _ _ => [], fun _ => 0, badL z (k + 1), -1, 0, -1, 0⟩) := fun q => ((MemX.setBd (MemX.drewN Hm.out q) i true).bdc (badL z (k + 1)) (fun a _ => by
        rw [badL_succ]
        show (if a = i then true else badL z k a) = (badL z k a || (z k == (a : Int)))
        rw [Hzi.out]
        by_cases e : a = i
        ·rw [if_pos e, e]; simp
        ·rw [if_neg e, show ((i : Int) == (a : Int)) = false by simp; omega, Bool.or_false]))
       have Hbel2 : Hid (∀ q, Below G w1 ((wr.drewN q).setCell ⟨L.bk, i, none⟩ (.bool true))) := fun q => (chipDrewN Hbel.out q).setCell (p := ⟨L.bk, i, none⟩) Hm.out.hbk.1 (.bool true)
       clear h0 hd hzi
       go_wp2_with fail
       go_quiet (fail)
       go_wp2_with fail
       go_region
       go_wp2
       go_roundw
       case rel => exact ⟨k + 1, by omega, by go_num, Hm2.out _, Hbel2.out _, by simpa using Hle.out⟩
       case measure => simp [intOf]; omega
      ·have hd1 : decide ((i : Int) < (nb : Int)) = false := by simp; omega
       have Hm2 : Hid (CP wr G H G L ⟨nb, np, fun _ _ => [], fun _ => 0, badL z (k + 1), -1, 0, -1, 0⟩) := (Hm.out.bdc (badL z (k + 1)) (fun a ha => by rw [badL_succ]; show _ = (badL z k a || (z k == (a : Int))); have : a < nb := ha; rw [Hzi.out, show ((i : Int) == (a : Int)) = false by simp; omega, Bool.or_false]))
       clear h0 hd hzi
       go_wp2_with fail
       go_quiet (fail)
       go_wp2
       go_roundw
       case rel => exact ⟨k + 1, by omega, by go_num, MemX.drewN Hm2.out _, chipDrewN Hbel.out _, Hle.out⟩
       case measure => simp [intOf]; omega
    ·have hke : n = k := by omega
     subst hke
     clear hm hbel hle
     go_wp2
     go_ret
     refine ⟨L, H, by rw [← HGe.out]; rfl, Hle.out, ?_, ?_⟩
     ·rw [HM.out, ← HGe.out]; exact Hm.out
     ·rw [← HGe.out]; exact Hbel.out
end Go.Proofs.YtodmdkhdbfbfgaaGreatDoor.S1
namespace Go.Proofs.YtodmdkhdbfbfgaaGreatDoor
open Go.RowKit Go.Nt
set_option linter.unusedVariables false
set_option linter.unusedSimpArgs false
theorem sameB_order2 (l : List It) : sameB l (inOrder (inOrder l)) = true := by
 unfold sameB
 simp [order_length, order_mem]
theorem new_mk (n : Nat) (z : Nat → Int) : S1.New (S1.mkM 32 16 n z) := ⟨S1.mkM_wf _ _ _ _, rfl, (by show (-1 : Int) < 0; decide), fun _ _ => rfl, fun _ => rfl⟩
theorem countP_or {α : Type} (p q : α → Bool) : ∀ l : List α, l.countP (fun x => p x || q x) ≤ l.countP p + l.countP q
 | [] => by simp
 | x :: l => by
   have := countP_or p q l
   simp only [List.countP_cons]
   cases p x <;> cases q x <;> simp <;> omega
theorem count_one (z : Int) : ∀ n, (List.range n).countP (fun i => z == ((i : Nat) : Int)) ≤ 1 ∧ (z < 0 ∨ (n : Int) ≤ z → (List.range n).countP (fun i => z == ((i : Nat) : Int)) = 0)
 | 0 => by simp
 | n + 1 => by
   obtain ⟨h1, h2⟩ := count_one z n
   rw [List.range_succ, List.countP_append]
   by_cases e : z = (n : Int)
   ·have h3 := h2 (by omega)
    refine ⟨?_, fun h => by omega⟩
    rw [h3]
    simp [e]
   ·have e' : (z == (n : Int)) = false := by simpa using e
    simp only [List.countP_cons, List.countP_nil, e', Nat.add_zero, Bool.false_eq_true, if_false]
    exact ⟨h1, fun h => h2 (by omega)⟩
theorem bad_few (n : Nat) (z : Nat → Int) : S1.badN (S1.mkM 32 16 n z) ≤ n := by
 show (List.range 32).countP (fun i => S1.badL z n i) ≤ n
 induction n with
 | zero => simp [S1.badL]
 | succ n ih =>
   have h1 : (List.range 32).countP (fun i => S1.badL z (n + 1) i) ≤ (List.range 32).countP (fun i => S1.badL z n i) + (List.range 32).countP (fun i => z n == ((i : Nat) : Int)) := by rw [S1.badL_succ]; exact countP_or (fun i => S1.badL z n i) (fun i => z n == ((i : Nat) : Int)) (List.range 32)
   have h2 := (count_one (z n) 32).1
   omega
theorem room_mk (n : Nat) (z : Nat → Int) (hn : n ≤ 11) : 160 ≤ S1.roomP (S1.mkM 32 16 n z) := by
 have h1 := bad_few n z
 have h2 : (S1.mkM 32 16 n z).nb = 32 := rfl
 have h3 : (S1.mkM 32 16 n z).np = 16 := rfl
 unfold S1.roomP S1.good
 rw [h2, h3]
 omega
theorem room_kt {l : List It} (h : KT l) {m : S1.M} (hm : 160 ≤ S1.roomP m) : pagesN (weigh l + 1) ≤ S1.roomP m := by
 have := h.weighs
 refine Nat.le_trans ?_ hm
 unfold pagesN
 omega
theorem kept_walk {u : Bs → Option Bs} (hP : PackC u) (ra ba : Option Addr) (rn rc bn bc : Nat) (zr zb : Nat → Int) (w : World) (hml : ML w) (hrn : rn ≤ 9223372036854775807) (hra : S1.IntsIn w ra rn zr) (hba : S1.IntsIn w ba bn zb) (hzr : ∀ k, k < rn → -9223372036854775808 ≤ zr k ∧ zr k ≤ 9223372036854775807) :
 Calls Tryz.prog 5 #[.slice ra rn rc, .slice ba bn bc] w fun e w' => e = .returned (.bool true) ∧ Below w.heap.size w w' := by
 have A0 := hidI (tree_any ra rn rc zr w hrn hra hzr)
 have Hml := hidI hml
 have Hba := hidI hba
 clear hra hzr hml hba
 go_enter Tryz.func5, Tryz.ntmps5
 go_wp2_with fail
 refine A0.out.mono ?_
 rintro e w1 ⟨v1, l, rfl, hKT, hown1, hb1⟩
 obtain ⟨a, c, rfl, hin1⟩ := own_in hown1
 have hml1 : ML w1 := Hml.out.below hb1 Hml.out.lt
 have Hml1 := hidI hml1
 have Hin1 := hidI hin1
 have HB1 := hidI hb1
 have N1 := hidI (S1.new_any w1 32 16 none 0 0 (fun _ => 0) (by omega) (fun h => absurd h (by decide)))
 have hw1 : 0 < w1.heap.size := hml1.lt
 clear hown1 hin1 hb1 hml1 A0
 go_wp2_with fail
 refine N1.out.mono ?_
 rintro e w2 ⟨L2, hi2, rfl, hhi2, hC2, hb2⟩
 have HB2 := hidI hb2
 have HC2 := hidI hC2
 have hs2 := hb2.size
 clear hb2 hC2 N1
 by_cases hbl : bn < 12
 case' pos =>
  have hbl' : (bn : Int) < 12 := by omega
  have N2 := hidI (S1.new_any w2 32 16 ba bn bc zb (by omega) (Hba.out.below (HB1.out.trans (HB2.out.mono HB1.out.size))))
  go_wp2_with fail
  refine N2.out.mono ?_
  rintro e wc ⟨L, hi, rfl, hhi, hC, hb3⟩
  have hbc : Below w1.heap.size w1 wc := HB2.out.trans (hb3.mono hs2)
  have hroom := room_kt hKT (room_mk bn zb (by omega))
  have hnew := new_mk bn zb
  obtain ⟨m, hm⟩ : ∃ m, m = S1.mkM 32 16 bn zb := ⟨_, rfl⟩
  obtain ⟨cb, hcb⟩ : ∃ cb, cb = w2.heap.size := ⟨_, rfl⟩
  have hlo : w1.heap.size ≤ cb := by omega
  rw [← hm] at hroom hnew hC
  rw [← hcb] at hC ⊢
  clear N2 hm hcb
 case' neg =>
  have hbl' : ¬ (bn : Int) < 12 := by omega
  have hC := HC2.out
  have hbc : Below w1.heap.size w1 w2 := HB2.out
  have hroom := room_kt hKT (room_mk 0 (fun _ => 0) (by omega))
  have hnew := new_mk 0 (fun _ => 0)
  obtain ⟨wc, rfl⟩ : ∃ wc, wc = w2 := ⟨_, rfl⟩
  obtain ⟨L, rfl⟩ : ∃ L, L = L2 := ⟨_, rfl⟩
  obtain ⟨hi, rfl⟩ : ∃ hi, hi = hi2 := ⟨_, rfl⟩
  have hhi := hhi2
  obtain ⟨m, hm⟩ : ∃ m, m = S1.mkM 32 16 0 (fun _ => 0) := ⟨_, rfl⟩
  obtain ⟨cb, hcb⟩ : ∃ cb, cb = w1.heap.size := ⟨_, rfl⟩
  have hlo : w1.heap.size ≤ cb := by omega
  rw [← hm] at hroom hnew hC
  rw [← hcb] at hC ⊢
  clear hm hcb
 all_goals
  have A := hidI (mounted_new hP a c l wc cb hi cb L m hnew hC hhi (Hml1.out.below hbc hw1) (by omega) (Hin1.out.below hbc) hKT.tree hroom)
  have hlow : w1.heap.size ≤ cb := hlo
  have hwc1 : Below w1.heap.size w1 wc := hbc
  clear hC
  go_wp2_with fail
  refine A.out.mono ?_
  rintro e w4 ⟨fb, xb, lb, tb, rfl, hF4, hT4, hfb, hO4⟩
  have hb14 : Below w1.heap.size w1 w4 := hwc1.trans (hO4.below hlow hwc1.size)
  have hml4 : ML w4 := Hml1.out.below hb14 Hml1.out.lt
  have hin4 : ItsIn w4 a l := Hin1.out.below hb14
  have HB4 := hidI hb14
  have Hml4 := hidI hml4
  have Hin4 := hidI hin4
  have HF4 := hidI hF4
  have HT4 := hidI hT4
  have hfl := lt_of_heap hF4
  have htl := hT4.lt
  have B := hidI (fsTree_any w4 fb xb lb tb (inOrder l) hF4 hT4 hKT.tree.order hml4)
  clear hF4 hT4 hO4 hb14 hml4 hin4 A hfb hwc1
  go_wp2_with fail
  refine B.out.mono ?_
  rintro e w5 ⟨hb5, v5, rfl, hown5⟩
  rw [← order_length] at hown5
  obtain ⟨a5, c5, rfl, hin5⟩ := own_in hown5
  have HB5 := hidI hb5
  have C := hidI (ksame_any a a5 c c5 l (inOrder (inOrder l)) w5 (Hin4.out.below hb5) hin5 (by have := hKT.len; omega) (by rw [order_length, order_length]; have := hKT.len; omega))
  rw [sameB_order2] at C
  obtain ⟨n5, hn5⟩ : ∃ n5, n5 = (inOrder (inOrder l)).length := ⟨_, rfl⟩
  rw [← hn5] at C ⊢
  clear hb5 hown5 hin5 B hn5
  go_wp2_with fail
  refine C.out.mono ?_
  rintro e w6 ⟨rfl, hb6⟩
  have HB6 : Hid (Below w4.heap.size w4 w6) := hidI (HB5.out.trans (hb6.mono HB5.out.size))
  obtain ⟨N, hN⟩ : ∃ N, N = l.length := ⟨_, rfl⟩
  have HN := hidI hN
  have hN12 : N ≤ 12 := by rw [hN]; exact hKT.len
  simp only [← hN]
  clear hb6 HB5 C hN
  go_wp2
  go_loopw [11, 12] (fun s i wr => ∃ k : Nat, k ≤ N ∧ i = .int .i64 (k : Nat) ∧ s = .int .i64 (((l.take k).countP fun x => slashes x.path == 0 : Nat) : Int) ∧ Hid (Below w4.heap.size w4 wr)) (fun _ i _ => N - (intOf i).toNat)
  case atStart => exact ⟨0, Nat.zero_le _, rfl, rfl, HB6⟩
  case round =>
   clear HB6
   obtain ⟨k, hk, rfl, rfl, HB⟩ := hrel
   have hroot : (l.take k).countP (fun x => slashes x.path == 0) ≤ k := by
    have h1 := List.countP_le_length (p := fun x : It => slashes x.path == 0) (l := l.take k)
    have h2 := List.length_take_le k l
    omega
   obtain ⟨root, hrt⟩ : ∃ root, root = (l.take k).countP (fun x => slashes x.path == 0) := ⟨_, rfl⟩
   have Hrt := hidI hrt
   simp only [← hrt]
   rw [← hrt] at hroot
   clear hrt
   by_cases hlt : k < N
   ·have hkl : k < l.length := by have := HN.out; omega
    obtain ⟨b1, o1, rfl, h1⟩ := (Hin4.out.below HB.out) (fun h => by rw [h] at hkl; simp at hkl)
    obtain ⟨x, hx⟩ : ∃ x, l[k]? = some x := ⟨_, List.getElem?_eq_getElem hkl⟩
    have hxm := List.mem_of_getElem? hx
    have HIt := hidI (h1 k x hx)
    have hbl1 := (h1 k x hx).lt
    have hpl : x.path.length ≤ 5 := name_len (hKT.item x hxm).1
    obtain ⟨x0, x1, x2, x3, x4⟩ := h1 k x hx
    have hFr := (HB.out.block fb hfl).trans HF4.out
    have hTr := HT4.out.below HB.out htl
    have hmlr := Hml4.out.below HB.out Hml4.out.lt
    obtain ⟨X, hX⟩ : ∃ X, X = txt x.path := ⟨_, rfl⟩
    have hXs : X.size = x.path.length := by rw [hX, txt_size]
    have gx : Hid (∀ k (h : k < X.size), X[k]'h = x.path.getD k 0) := hidI (fun k h => by subst hX; exact txt_getD x.path k h)
    have HX := hidI hX
    have Hx := hidI hx
    have Hxm := hidI hxm
    have HXs := hidI hXs
    have hX5 : X.size ≤ 5 := by omega
    rw [← hX] at x0
    obtain ⟨xd, hxd⟩ : ∃ xd, xd = x.dir := ⟨_, rfl⟩
    cases xd with
    | true =>
      have D := hidI (fsRead_any wr fb xb lb tb (inOrder l) x.path hFr hTr hmlr (by omega))
      rw [hKT.fileE hxm, ← hxd] at D
      simp only [if_true, Bool.false_eq_true, if_false] at D
      obtain ⟨Y, hY⟩ : ∃ Y, Y = txt (fileN (inOrder l) x.path).data := ⟨_, rfl⟩
      rw [← hX, ← hY] at D
      have HY := hidI hY
      have Hxd := hidI hxd
      clear hFr hTr hmlr h1 hx hkl x1 x2 x3 x4 hX hY hXs hxm hxd
      have hsz := HB.out.size
      go_wp2_with fail
      refine D.out.mono ?_
      rintro e w7 ⟨hb7, rfl⟩
      have HB7 := hidI (HB.out.trans (hb7.mono hsz))
      have HIt7 := hidI (HIt.out.below hb7 hbl1)
      have y0 := HIt7.out.1
      rw [← HX.out] at y0
      have hFr := (HB7.out.block fb hfl).trans HF4.out
      have hTr := HT4.out.below HB7.out htl
      have hmlr := Hml4.out.below HB7.out Hml4.out.lt
      have E := hidI (fsList_any w7 fb xb lb tb (inOrder l) x.path hFr hTr hKT.tree.order hmlr (by omega))
      rw [← HX.out] at E
      have hbl7 : b1 < w7.heap.size := Nat.lt_of_lt_of_le hbl1 hb7.size
      clear hb7 hFr hTr hmlr D x0
      go_wp2_with fail
      refine E.out.mono ?_
      rintro e w8 ⟨hb8, hlist⟩
      have HB8 := hidI (HB7.out.trans (hb8.mono HB7.out.size))
      have HIt8 := hidI (HIt7.out.below hb8 hbl7)
      obtain ⟨z0, z1, z2, z3, z4⟩ := HIt8.out
      rw [← HX.out] at z0
      rw [← Hxd.out] at z1
      rw [hKT.listE Hxm.out, ← Hxd.out] at hlist
      simp only [if_true, Bool.false_eq_true, if_false] at hlist
      obtain ⟨v8, rfl, hown8⟩ : ∃ v, e = .returned (.tuple #[v, .int .i64 0]) ∧ w8.ownsRow w7.heap.size 9 1 v (listN (inOrder l) x.path).length (sv (listN (inOrder l) x.path)) := by
       rcases hlist with ⟨h, _⟩ | ⟨_, h⟩
       ·exact absurd rfl h
       ·exact h
      obtain ⟨a8, c8, rfl⟩ := own_slice9 hown8
      clear hown8
      clear hb8 E y0 z3 z4
      have HX8 : Hid (w8.cell? ⟨b1, o1 + k * 5, none⟩ = some (.string X)) := hidI z0
      go_wp2
      go_loopw [17, 18] (fun n i wx => ∃ j : Nat, j ≤ X.size ∧ i = .int .i64 (j : Nat) ∧ n = .int .i64 ((slashes (x.path.take j) : Nat) : Int) ∧ wx = w8) (fun _ i _ => X.size - (intOf i).toNat)
      case atStart => exact ⟨0, Nat.zero_le _, rfl, rfl, rfl⟩
      case round =>
       obtain ⟨j, hj, rfl, rfl, hwx⟩ := hrel
       subst hwx
       have hsl : slashes (x.path.take j) ≤ j := by
        unfold slashes
        have h1 := List.countP_le_length (p := fun c : UInt8 => c == 47) (l := x.path.take j)
        have h2 := List.length_take_le j x.path
        omega
       by_cases hjl : j < X.size
       ·have hgj := gx.out j hjl
        have hjp : j < x.path.length := by have := HXs.out; omega
        have hcn : slashes (x.path.take (j + 1)) = slashes (x.path.take j) + (if X[j]'hjl = 47 then 1 else 0) := by
         unfold slashes
         rw [List.take_add_one, List.getElem?_eq_getElem hjp, List.countP_append, hgj, List.getD_eq_getElem?_getD, List.getElem?_eq_getElem hjp]
         simp [List.countP_cons]
        obtain ⟨q, hq⟩ : ∃ q, q = slashes (x.path.take j) := ⟨_, rfl⟩
        rw [← hq] at hsl hcn
        simp only [← hq]
        by_cases h47 : X[j]'hjl = 47
        ·have h47' : (((X[j]'hjl).toNat : Int) == 47) = true := by rw [h47]; rfl
         rw [if_pos h47] at hcn
         have Hcn := hidI hcn
         clear hcn hq h47 hgj
         go_wp2
         go_roundw
         case rel => exact ⟨j + 1, by omega, by go_num, by rw [Hcn.out]; go_num, by first | rfl | trivial⟩
         case measure => simp [intOf]; omega
        ·have h47' : (((X[j]'hjl).toNat : Int) == 47) = false := beq_eq_false_iff_ne.2 fun h => h47 (UInt8.toNat_inj.1 (by have : (47 : UInt8).toNat = 47 := rfl; omega))
         replace hcn : slashes (x.path.take (j + 1)) = q := by rw [hcn, if_neg h47]; rfl
         have Hcn := hidI hcn
         clear hcn hq h47 hgj
         go_wp2
         go_roundw
         case rel => exact ⟨j + 1, by omega, by go_num, by rw [Hcn.out], by first | rfl | trivial⟩
         case measure => simp [intOf]; omega
       ·have hje : x.path.take j = x.path := List.take_of_length_le (by have := HXs.out; omega)
        rw [hje] at hsl ⊢
        have hcount : (l.take (k + 1)).countP (fun x => slashes x.path == 0) = root + (if slashes x.path = 0 then 1 else 0) := by
         rw [List.take_add_one, Hx.out, List.countP_append, ← Hrt.out]
         by_cases h : slashes x.path = 0 <;> simp [h]
        obtain ⟨q, hq⟩ : ∃ q, q = slashes x.path := ⟨_, rfl⟩
        rw [← hq] at hcount hsl
        simp only [← hq]
        clear hq hje
        by_cases hq0 : q = 0
        ·subst hq0
         rw [if_pos rfl] at hcount
         have Hcount := hidI hcount
         clear hcount
         go_wp2
         go_roundw
         case rel => exact ⟨k + 1, by omega, by go_num, by rw [Hcount.out]; go_num, HB8⟩
         case measure => simp [intOf]; omega
        ·replace hcount : (l.take (k + 1)).countP (fun x => slashes x.path == 0) = root := by rw [hcount, if_neg hq0]; rfl
         have hq0' : ((q : Int) == 0) = false := beq_eq_false_iff_ne.2 (by omega)
         have Hcount := hidI hcount
         clear hcount
         go_wp2
         go_roundw
         case rel => exact ⟨k + 1, by omega, by go_num, by rw [Hcount.out], HB8⟩
         case measure => simp [intOf]; omega
    | false =>
      have D := hidI (fsRead_any wr fb xb lb tb (inOrder l) x.path hFr hTr hmlr (by omega))
      rw [hKT.fileE hxm, ← hxd, hKT.fileN hxm hxd.symm] at D
      simp only [if_true, Bool.false_eq_true, if_false] at D
      obtain ⟨Y, hY⟩ : ∃ Y, Y = txt x.data := ⟨_, rfl⟩
      rw [← hX, ← hY] at D
      have HY := hidI hY
      have Hxd := hidI hxd
      clear hFr hTr hmlr h1 hx hkl x1 x2 x3 x4 hX hY hXs hxm hxd
      have hsz := HB.out.size
      go_wp2_with fail
      refine D.out.mono ?_
      rintro e w7 ⟨hb7, rfl⟩
      have HB7 := hidI (HB.out.trans (hb7.mono hsz))
      have HIt7 := hidI (HIt.out.below hb7 hbl1)
      have y0 := HIt7.out.1
      rw [← HX.out] at y0
      have hFr := (HB7.out.block fb hfl).trans HF4.out
      have hTr := HT4.out.below HB7.out htl
      have hmlr := Hml4.out.below HB7.out Hml4.out.lt
      have E := hidI (fsList_any w7 fb xb lb tb (inOrder l) x.path hFr hTr hKT.tree.order hmlr (by omega))
      rw [← HX.out] at E
      have hbl7 : b1 < w7.heap.size := Nat.lt_of_lt_of_le hbl1 hb7.size
      clear hb7 hFr hTr hmlr D x0
      go_wp2_with fail
      refine E.out.mono ?_
      rintro e w8 ⟨hb8, hlist⟩
      have HB8 := hidI (HB7.out.trans (hb8.mono HB7.out.size))
      have HIt8 := hidI (HIt7.out.below hb8 hbl7)
      obtain ⟨z0, z1, z2, z3, z4⟩ := HIt8.out
      rw [← HX.out] at z0
      rw [← Hxd.out] at z1
      rw [hKT.listE Hxm.out, ← Hxd.out] at hlist
      simp only [if_true, Bool.false_eq_true, if_false] at hlist
      obtain rfl : e = .returned (.tuple #[.slice none 0 0, .int .i64 6]) := by
       rcases hlist with ⟨_, h⟩ | ⟨h, _⟩
       ·exact h
       ·cases h
      rw [← HY.out] at z2
      clear hlist
      clear hb8 E y0 z3 z4
      have HX8 : Hid (w8.cell? ⟨b1, o1 + k * 5, none⟩ = some (.string X)) := hidI z0
      go_wp2
      go_loopw [17, 18] (fun n i wx => ∃ j : Nat, j ≤ X.size ∧ i = .int .i64 (j : Nat) ∧ n = .int .i64 ((slashes (x.path.take j) : Nat) : Int) ∧ wx = w8) (fun _ i _ => X.size - (intOf i).toNat)
      case atStart => exact ⟨0, Nat.zero_le _, rfl, rfl, rfl⟩
      case round =>
       obtain ⟨j, hj, rfl, rfl, hwx⟩ := hrel
       subst hwx
       have hsl : slashes (x.path.take j) ≤ j := by
        unfold slashes
        have h1 := List.countP_le_length (p := fun c : UInt8 => c == 47) (l := x.path.take j)
        have h2 := List.length_take_le j x.path
        omega
       by_cases hjl : j < X.size
       ·have hgj := gx.out j hjl
        have hjp : j < x.path.length := by have := HXs.out; omega
        have hcn : slashes (x.path.take (j + 1)) = slashes (x.path.take j) + (if X[j]'hjl = 47 then 1 else 0) := by
         unfold slashes
         rw [List.take_add_one, List.getElem?_eq_getElem hjp, List.countP_append, hgj, List.getD_eq_getElem?_getD, List.getElem?_eq_getElem hjp]
         simp [List.countP_cons]
        obtain ⟨q, hq⟩ : ∃ q, q = slashes (x.path.take j) := ⟨_, rfl⟩
        rw [← hq] at hsl hcn
        simp only [← hq]
        by_cases h47 : X[j]'hjl = 47
        ·have h47' : (((X[j]'hjl).toNat : Int) == 47) = true := by rw [h47]; rfl
         rw [if_pos h47] at hcn
         have Hcn := hidI hcn
         clear hcn hq h47 hgj
         go_wp2
         go_roundw
         case rel => exact ⟨j + 1, by omega, by go_num, by rw [Hcn.out]; go_num, by first | rfl | trivial⟩
         case measure => simp [intOf]; omega
        ·have h47' : (((X[j]'hjl).toNat : Int) == 47) = false := beq_eq_false_iff_ne.2 fun h => h47 (UInt8.toNat_inj.1 (by have : (47 : UInt8).toNat = 47 := rfl; omega))
         replace hcn : slashes (x.path.take (j + 1)) = q := by rw [hcn, if_neg h47]; rfl
         have Hcn := hidI hcn
         clear hcn hq h47 hgj
         go_wp2
         go_roundw
         case rel => exact ⟨j + 1, by omega, by go_num, by rw [Hcn.out], by first | rfl | trivial⟩
         case measure => simp [intOf]; omega
       ·have hje : x.path.take j = x.path := List.take_of_length_le (by have := HXs.out; omega)
        rw [hje] at hsl ⊢
        have hcount : (l.take (k + 1)).countP (fun x => slashes x.path == 0) = root + (if slashes x.path = 0 then 1 else 0) := by
         rw [List.take_add_one, Hx.out, List.countP_append, ← Hrt.out]
         by_cases h : slashes x.path = 0 <;> simp [h]
        obtain ⟨q, hq⟩ : ∃ q, q = slashes x.path := ⟨_, rfl⟩
        rw [← hq] at hcount hsl
        simp only [← hq]
        clear hq hje
        by_cases hq0 : q = 0
        ·subst hq0
         rw [if_pos rfl] at hcount
         have Hcount := hidI hcount
         clear hcount
         go_wp2
         go_roundw
         case rel => exact ⟨k + 1, by omega, by go_num, by rw [Hcount.out]; go_num, HB8⟩
         case measure => simp [intOf]; omega
        ·replace hcount : (l.take (k + 1)).countP (fun x => slashes x.path == 0) = root := by rw [hcount, if_neg hq0]; rfl
         have hq0' : ((q : Int) == 0) = false := beq_eq_false_iff_ne.2 (by omega)
         have Hcount := hidI hcount
         clear hcount
         go_wp2
         go_roundw
         case rel => exact ⟨k + 1, by omega, by go_num, by rw [Hcount.out], HB8⟩
         case measure => simp [intOf]; omega
   ·have hkN : k = N := by omega
    subst hkN
    have hr : root = (listN (inOrder l) []).length := by rw [Hrt.out, HN.out, List.take_length, hKT.root]
    have hFr := (HB.out.block fb hfl).trans HF4.out
    have hTr := HT4.out.below HB.out htl
    have hmlr := Hml4.out.below HB.out Hml4.out.lt
    have D := hidI (fsList_any wr fb xb lb tb (inOrder l) [] hFr hTr hKT.tree.order hmlr (by simp))
    have Hr := hidI hr
    have hsz := HB.out.size
    clear hFr hTr hmlr hr
    rw [show txt [] = (⟨#[]⟩ : ByteArray) from rfl] at D
    go_wp2_with fail
    refine D.out.mono ?_
    rintro e w7 ⟨hb7, hlist⟩
    obtain ⟨v8, rfl, hown8⟩ : ∃ v, e = .returned (.tuple #[v, .int .i64 0]) ∧ w7.ownsRow wr.heap.size 9 1 v (listN (inOrder l) []).length (sv (listN (inOrder l) [])) := by
     rcases hlist with ⟨h, _⟩ | ⟨_, h⟩
     ·exact absurd rfl h
     ·exact h
    obtain ⟨a8, c8, rfl⟩ := own_slice9 hown8
    have HB7 := hidI (HB.out.trans (hb7.mono hsz))
    have hFr := (HB7.out.block fb hfl).trans HF4.out
    have hTr := HT4.out.below HB7.out htl
    have hmlr := Hml4.out.below HB7.out Hml4.out.lt
    have E := hidI (fsRead_any w7 fb xb lb tb (inOrder l) [110, 111] hFr hTr hmlr (by simp))
    rw [hKT.no] at E
    obtain ⟨Y, hY⟩ : ∃ Y, Y = txt (fileN (inOrder l) [110, 111]).data := ⟨_, rfl⟩
    rw [← hY, show txt [110, 111] = (⟨#[110, 111]⟩ : ByteArray) from rfl] at E
    rw [← Hr.out]
    have hsz7 := HB7.out.size
    clear hb7 hlist hown8 hFr hTr hmlr hY D
    go_wp2_with fail
    refine E.out.mono ?_
    rintro e w8 ⟨hb8, rfl⟩
    have HB8 : Hid (Below w.heap.size w w8) := hidI ((HB1.out.trans (HB4.out.mono HB1.out.size)).trans ((HB7.out.trans (hb8.mono hsz7)).mono (Nat.le_trans HB1.out.size HB4.out.size)))
    clear hb8 E
    go_wp2
    go_ret
    exact ⟨rfl, HB8.out⟩
end Go.Proofs.YtodmdkhdbfbfgaaGreatDoor
