/- A new chip of the program. -/
import Derived.Test.YtodmdkhdbfbfgaaChipCopy
import Derived.Test.YtodmdkhdbfbfgaaChipTell
namespace Go.Proofs.Ytodmdkhdbfbfgaa
open Go.RowKit Pk
set_option linter.unusedVariables false
set_option linter.unusedSimpArgs false

/-- Is a block among the first n bad ones? -/
def badL (z : Nat → Int) (n : Nat) (i : Nat) : Bool := (List.range n).any fun j => z j == (i : Int)

/-- A new chip. -/
def mkM (blocks pages : Int) (n : Nat) (z : Nat → Int) : M := ⟨(bnd blocks 4 32).toNat, (bnd pages 4 16).toNat, fun _ _ => [], fun _ => 0, badL z n, -1, 0, -1, 0⟩

theorem mkM_wf (blocks pages : Int) (n : Nat) (z : Nat → Int) : WF (mkM blocks pages n z) := by
  have h1 := bnd_le blocks 4 32 (by omega)
  have h2 := bnd_le pages 4 16 (by omega)
  refine ⟨?_, ?_, ?_, ?_, fun i _ => Nat.zero_le _, fun i p _ _ => Nat.zero_le _, ?_, ?_, ?_, ?_, ?_, ?_, ?_, ?_⟩ <;> (simp only [mkM]; omega)

theorem badL_zero (z : Nat → Int) : badL z 0 = fun _ => false := rfl
theorem badL_succ (z : Nat → Int) (k : Nat) : badL z (k + 1) = fun i => badL z k i || (z k == (i : Int)) := by
  funext i
  unfold badL
  rw [List.range_succ, List.any_append]
  simp

theorem grow_same {α : Type} (n : Nat) (x : α) : (List.range n).map (fun _ => x) ++ [x] = (List.range (n + 1)).map fun _ => x := by
  rw [List.range_succ, List.map_append]; rfl

theorem madeNp (np : Nat) (h : np ≤ 16) : ∃ M : Array Value, (∀ W : World, (Instr.makeSlice 23 (.int .i64 (np : Nat)) (.int .i64 (np : Nat))).run Try.prog W = .ok (.slice (some ⟨W.heap.size, 0, none⟩) np np) (W.alloc (.cells M 9))) ∧ ∀ W : World, (W.alloc (.cells M 9)).rowIs W.heap.size 9 np (fun _ => .string ⟨#[]⟩) :=
  ⟨madeCells #[Value.string ⟨#[]⟩] np, fun W => run_make_row' (P := Try.prog) 23 9 (.string ⟨#[]⟩) 16 Try.underlying23 Try.info9 rfl .i64 .i64 np (by omega) (by omega) W, fun W => World.rowIs_made W (.string ⟨#[]⟩) np 9⟩

theorem chipDrewN {B : Nat} {a w : World} (h : Below B a w) (q : Nat) : Below B a (w.drewN q) := ⟨h.os, h.tape, h.output, h.size, h.block⟩

theorem MemX.bdc {w : World} {lo hi cb : Nat} {T : TypeId} {L : Loc} {m : M} {enc : List UInt8 → List UInt8} {g4 g5 g6 g7 : Int} (h : MemX w lo hi cb T L m enc g4 g5 g6 g7) (bd : Nat → Bool) (e : ∀ i, i < m.nb → m.bd i = bd i) : MemX w lo hi cb T L { m with bd := bd } enc g4 g5 g6 g7 :=
  ⟨h.hcb, h.hdb, h.hnk, h.hbk, h.hrw, h.inj, h.hT, h.st, h.data, h.next, h.bad.congr (fun i hi => by rw [e i hi]), h.page⟩

theorem cell_set_new (w : World) (p : Addr) (x v : Value) (t : TypeId) : ∀ j u, [v][j]? = some u → ((w.setCell p x).alloc (.cells #[v] t)).cell? ((⟨w.heap.size, 0, none⟩ : Addr).add j) = some u := by
  have := cell_one_new (w.setCell p x) v t
  simpa using this

theorem cell_two_new (w : World) (o : Obj) (v : Value) (t : TypeId) : ∀ j u, [v][j]? = some u → ((w.alloc o).alloc (.cells #[v] t)).cell? ((⟨w.heap.size + 1, 0, none⟩ : Addr).add j) = some u := by
  have := cell_one_new (w.alloc o) v t
  simpa using this

set_option maxRecDepth 100000 in
set_option maxHeartbeats 4000000 in
theorem new_any (w : World) (blocks pages : Int) (a : Option Addr) (n cap : Nat) (z : Nat → Int) (hn : n ≤ 17592186043904) (hin : IntsIn w a n z) :
    Calls Try.prog 17 #[.int .i64 blocks, .int .i64 pages, .slice a n cap] w fun e w' => ∃ L hi, e = .returned (.pointer (some ⟨w.heap.size, 0, none⟩)) ∧ hi ≤ w'.heap.size ∧ CP w' w.heap.size hi w.heap.size L (mkM blocks pages n z) ∧ Below w.heap.size w w' := by
  have Hbl := hidI (fun w => bound_any blocks 4 32 (by omega) w)
  have Hpg := hidI (fun w => bound_any pages 4 16 (by omega) w)
  have hb1 := bnd_le blocks 4 32 (by omega)
  have hb2 := bnd_le pages 4 16 (by omega)
  obtain ⟨nb, hnb⟩ : ∃ nb : Nat, bnd blocks 4 32 = (nb : Int) := Int.eq_ofNat_of_zero_le (by omega)
  obtain ⟨np, hnp⟩ : ∃ np : Nat, bnd pages 4 16 = (np : Int) := Int.eq_ofNat_of_zero_le (by omega)
  have HM : Hid (mkM blocks pages n z = ⟨nb, np, fun _ _ => [], fun _ => 0, badL z n, -1, 0, -1, 0⟩) := by
    show mkM blocks pages n z = _
    unfold mkM
    rw [hnb, hnp]; rfl
  rw [hnb] at Hbl hb1
  rw [hnp] at Hpg hb2
  have hnb1 : 4 ≤ nb := by omega
  have hnb2 : nb ≤ 32 := by omega
  have hnp1 : 4 ≤ np := by omega
  have hnp2 : np ≤ 16 := by omega
  clear hnb hnp hb1 hb2
  obtain ⟨MC, hmk, hMC⟩ := madeNp np hnp2
  have HMC := hidI hMC
  clear hMC
  have Hin := hidI hin
  clear hin
  go_enter Try.func17, Try.ntmps17
  go_wp2_with (first | (go_at_call 48; refine (Hpg.out _).mono ?_; rintro e w1 ⟨rfl, h1⟩; subst h1))
  have Hst0 := hidI (heap_alloc_new w1 (Obj.cells #[.int .i64 (np : Nat), .slice none 0 0, .slice none 0 0, .slice none 0 0, .int .i64 (-1), .int .i64 0, .int .i64 (-1), .int .i64 0] 76))
  have Hb0 := hidI ((Below.refl w1.heap.size w1).alloc (Nat.le_refl _) (Obj.cells #[.int .i64 (np : Nat), .slice none 0 0, .slice none 0 0, .slice none 0 0, .int .i64 (-1), .int .i64 0, .int .i64 (-1), .int .i64 0] 76))
  obtain ⟨i0, hi0, hz0, hz1, hz2⟩ := info_parts Try.info23
  obtain ⟨k0, ki, kz0, kz1, kz2⟩ := info_parts Try.info3
  obtain ⟨l0, li, lz0, lz1, lz2⟩ := info_parts Try.info4
  obtain ⟨G, hGe⟩ : ∃ G, G = w1.heap.size := ⟨_, rfl⟩
  have Hin : Hid (∀ W, Below G w1 W → IntsIn W a n z) := fun W hb => Hin.out.below (hGe ▸ hb)
  rw [← hGe] at Hst0 Hb0 ⊢
  have HGe := hidI hGe
  clear hGe
  go_loopw [8] (fun x wr => ∃ k : Nat, k ≤ nb ∧ x = .int .i64 k ∧ ∃ da dc na nc ba bc rw cr, wr.heap[G]? = some (.cells #[.int .i64 (np : Nat), .slice da k dc, .slice na k nc, .slice ba k bc, .int .i64 (-1), .int .i64 0, .int .i64 (-1), .int .i64 0] 76 (0, 0)) ∧ Data wr G (.slice da k dc) k np rw cr (fun _ _ => []) ∧ wr.ownsRow G 3 1 (.slice na k nc) k ((List.range k).map fun _ => .int .i64 0) ∧ wr.ownsRow G 4 1 (.slice ba k bc) k ((List.range k).map fun _ => .bool false) ∧ Below G w1 wr) (fun x _ => nb - (intOf x).toNat)
  case atStart => exact ⟨0, by omega, rfl, none, 0, none, 0, none, 0, fun _ => 0, fun _ => 0, Hst0.out, Data.nil _ _ _ _ _ _, World.ownsRow_nil _ _ _ _, World.ownsRow_nil _ _ _ _, Hb0.out⟩
  case round =>
    clear Hst0 Hb0
    obtain ⟨k, hk, rfl, da, dc, na, nc, ba, bc, rw, cr, hst, hdat, hnx, hbd, hbel⟩ := hrel
    have hGr : G < wr.heap.size := lt_of_heap hst
    by_cases hlt : k < nb
    · have x0 : wr.cell? ⟨G, 0, none⟩ = some (.int .i64 (np : Nat)) := by rw [cell_of_row wr G 0 _ 76 (0, 0) hst]; rfl
      have x1 : wr.cell? ⟨G, 1, none⟩ = some (.slice da k dc) := by rw [cell_of_row wr G 1 _ 76 (0, 0) hst]; rfl
      have x1a : ∀ o, (wr.drew.alloc o).cell? ⟨G, 1, none⟩ = some (.slice da k dc) := fun o => (World.cell?_of_block (w := wr) (Below.heap_alloc wr.drew o G hGr)).trans x1
      have x1b : ∀ o o', ((wr.drew.alloc o).alloc o').cell? ⟨G, 1, none⟩ = some (.slice da k dc) := fun o o' => (World.cell?_of_block (w := wr.drew.alloc o) (Below.heap_alloc (wr.drew.alloc o) o' G (by simp; omega))).trans (x1a o)
      have Hst := hidI hst
      have Hdat := hidI hdat
      have Hnx := hidI hnx
      have Hbd := hidI hbd
      have Hbel := hidI hbel
      clear hst hdat hnx hbd hbel
      go_wp2_with (first | (go_at_call 48; refine (Hbl.out _).mono ?_; rintro e w2 ⟨rfl, h2⟩; subst h2))
      go_region_law (first
        | (refine step_append_lies _ (by rfl) _ _ _ (by rfl) G 23 i0 _ 1 24 Try.underlying28 hi0 hz0 hz1 hz2 rfl (by omega) (.slice da k dc) k _ (by rfl) ((Hdat.out.own.drew.alloc _).alloc _) ⟨w2.heap.size + 1, 0, none⟩ 1 1 [.slice (some ⟨w2.heap.size, 0, none⟩) np np] (by rfl) rfl (cell_two_new w2.drew (.cells MC 9) (.slice (some ⟨w2.heap.size, 0, none⟩) np np) 23) (by intro u hu; simp at hu; subst hu; rfl) (by omega) (by unfold maxLen; omega) (by omega) (by simp; omega) (w2.heap.size + 2) (by simp) ?_; intro g2 cap2 w3 hown2 hgrow2 hat2 hlt2; have K2 : ∀ t, t ≠ 23 → Keeps t (w2.drew.alloc (.cells MC 9)) w3 := (fun t ht => ((Keeps.refl t _).alloc _).grown ((Hdat.out.own.drew.alloc _).alloc _) (fun e => ht e.symm) hgrow2); have hst2 := (((Keeps.refl 76 w2).drew.alloc (.cells MC 9)).trans (K2 76 (by decide))).block Hst.out; have y1 : w3.cell? ⟨G, 1, none⟩ = some (.slice da k dc) := (by rw [cell_of_row w3 G 1 _ 76 (0, 0) hst2]; rfl); have yf := frozen_of_row w3 G 1 _ 76 hst2; have Hbel3 : Hid (Below G w1 w3) := ((Hbel.out.drew.alloc (Nat.le_of_lt hGr) _).alloc (by simp; omega) _).grown hgrow2 (by simp; omega) (fun q hq => (Hdat.out.own.lt q hq).1); have HK2 := hidI K2; have Hst2 := hidI hst2; have Hown2 := hidI hown2; clear hown2 hgrow2 hat2 K2 hst2))
      all_goals have hKa : ∀ t, t ≠ 23 → Keeps t w2 w3 := (fun t ht => ((Keeps.refl t w2).drew.alloc (.cells MC 9)).trans (HK2.out t ht))
      all_goals have hst3 := heap_setCell_same w3 G 1 _ 76 (.slice (some ⟨g2, 0, none⟩) (k + 1) cap2) Hst2.out
      all_goals have hrow3 : Rw (w3.setCell ⟨G, 1, none⟩ (.slice (some ⟨g2, 0, none⟩) (k + 1) cap2)) w2.heap.size 9 np (fun p => .string (txt ((fun _ => [] : Nat → List UInt8) p))) := ((HK2.out 9 (by decide)).set (o := 1) (v := .slice (some ⟨g2, 0, none⟩) (k + 1) cap2) Hst2.out (by decide)).rw (rowIs_rw (HMC.out w2.drew))
      all_goals have hdat3 := Hdat.out.push ((hKa 9 (by decide)).set (o := 1) (v := .slice (some ⟨g2, 0, none⟩) (k + 1) cap2) Hst2.out (by decide)) (r := w2.heap.size) (c := np) (f := fun _ => []) (Nat.le_of_lt hGr) (Nat.le_refl _) hrow3 (((Keeps.refl 23 w3).set (o := 1) (v := .slice (some ⟨g2, 0, none⟩) (k + 1) cap2) Hst2.out (by decide)).own Hown2.out)
      all_goals have hpe : put (fun (_ : Nat) (_ : Nat) => ([] : List UInt8)) k (fun _ => []) = fun _ _ => [] := (by
        funext x y
        unfold put
        split <;> rfl)
      all_goals rw [hpe] at hdat3
      all_goals have hnx3 := ((hKa 3 (by decide)).set (o := 1) (v := .slice (some ⟨g2, 0, none⟩) (k + 1) cap2) Hst2.out (by decide)).own Hnx.out
      all_goals have hbd3 := ((hKa 4 (by decide)).set (o := 1) (v := .slice (some ⟨g2, 0, none⟩) (k + 1) cap2) Hst2.out (by decide)).own Hbd.out
      all_goals have hbel3 := Hbel3.out.setCell (p := ⟨G, 1, none⟩) (Nat.le_refl _) (.slice (some ⟨g2, 0, none⟩) (k + 1) cap2)
      all_goals generalize w3.setCell ⟨G, 1, none⟩ (.slice (some ⟨g2, 0, none⟩) (k + 1) cap2) = wa at *
      all_goals clear hrow3 hpe hKa Hst2 HK2 Hown2 y1 yf Hbel3 x0 x1 x1a x1b Hst Hdat Hnx Hbd Hbel
      all_goals have hGa : G < wa.heap.size := lt_of_heap hst3
      all_goals have x2 : wa.cell? ⟨G, 2, none⟩ = some (.slice na k nc) := (by rw [cell_of_row wa G 2 _ 76 (0, 0) hst3]; rfl)
      all_goals have Hst3 := hidI hst3
      all_goals have Hdat3 := hidI hdat3
      all_goals have Hbd3 := hidI hbd3
      all_goals have Hbel3 := hidI hbel3
      all_goals clear hst3 hdat3 hbd3 hbel3
      all_goals go_wp2_with (at_builtin; refine wpList_append_lies _ rfl (.tmp 38) (.tmp 39) 22 rfl G 3 k0 (.int .i64 0) 1 8 Try.underlying22 ki kz0 kz1 kz2 rfl (by decide) (.slice na k nc) k _ rfl (hnx3.alloc _) ⟨wa.heap.size, 0, none⟩ 1 1 [.int .i64 0] rfl rfl (cell_one_new _ _ _) (by intro u hu; simp at hu; subst hu; rfl) (by omega) (by unfold maxLen; omega) (by omega) (by simp; omega) (wa.heap.size + 1) (by simp) ?_)
      all_goals intro g4 cap4 w4 hown4 hgrow4 hat4 hlt4
      all_goals have K4 : ∀ t, t ≠ 3 → Keeps t wa w4 := (fun t ht => ((Keeps.refl t wa).alloc _).grown (hnx3.alloc _) (fun e => ht e.symm) hgrow4)
      all_goals have hst4 := (K4 76 (by decide)).block Hst3.out
      all_goals have y2 : w4.cell? ⟨G, 2, none⟩ = some (.slice na k nc) := (by rw [cell_of_row w4 G 2 _ 76 (0, 0) hst4]; rfl)
      all_goals have yf2 := frozen_of_row w4 G 2 _ 76 hst4
      all_goals have hst5 := heap_setCell_same w4 G 2 _ 76 (.slice (some ⟨g4, 0, none⟩) (k + 1) cap4) hst4
      all_goals rw [grow_same] at hown4
      all_goals have hnx5 := ((Keeps.refl 3 w4).set (o := 2) (v := .slice (some ⟨g4, 0, none⟩) (k + 1) cap4) hst4 (by decide)).own hown4
      all_goals have hdat5 := Hdat3.out.keep ((K4 9 (by decide)).set (o := 2) (v := .slice (some ⟨g4, 0, none⟩) (k + 1) cap4) hst4 (by decide)) ((K4 23 (by decide)).set (o := 2) (v := .slice (some ⟨g4, 0, none⟩) (k + 1) cap4) hst4 (by decide))
      all_goals have hbd5 := ((K4 4 (by decide)).set (o := 2) (v := .slice (some ⟨g4, 0, none⟩) (k + 1) cap4) hst4 (by decide)).own Hbd3.out
      all_goals have hbel5 : Below G w1 (w4.setCell ⟨G, 2, none⟩ (.slice (some ⟨g4, 0, none⟩) (k + 1) cap4)) := ((Hbel3.out.alloc (Nat.le_of_lt hGa) _).grown hgrow4 (by simp; omega) (fun q hq => (hnx3.lt q hq).1)).setCell (Nat.le_refl _) _
      all_goals have hG4 : G < w4.heap.size := lt_of_heap hst4
      all_goals have x3 : (w4.setCell ⟨G, 2, none⟩ (.slice (some ⟨g4, 0, none⟩) (k + 1) cap4)).cell? ⟨G, 3, none⟩ = some (.slice ba k bc) := (by rw [cell_of_row _ G 3 _ 76 (0, 0) hst5]; rfl)
      all_goals have Hst5 := hidI hst5
      all_goals have Hdat5 := hidI hdat5
      all_goals have Hnx5 := hidI hnx5
      all_goals have Hbel5 := hidI hbel5
      all_goals clear hst4 hst5 hdat5 hnx5 hbel5 hown4 hgrow4 hat4 K4 Hst3 Hdat3 Hbd3 Hbel3 hnx3 x2
      all_goals go_wp2_with (at_builtin; refine wpList_append_lies _ rfl (.tmp 47) (.tmp 48) 74 rfl G 4 l0 (.bool false) 1 1 Try.underlying74 li lz0 lz1 lz2 rfl (by decide) (.slice ba k bc) k _ rfl (hbd5.alloc _) ⟨w4.heap.size, 0, none⟩ 1 1 [.bool false] rfl rfl (cell_set_new _ _ _ _ _) (by intro u hu; simp at hu; subst hu; rfl) (by omega) (by unfold maxLen; omega) (by omega) (by simp; omega) (w4.heap.size + 1) (by simp) ?_)
      all_goals intro g6 cap6 w6 hown6 hgrow6 hat6 hlt6
      all_goals have K6 : ∀ t, t ≠ 4 → Keeps t (w4.setCell ⟨G, 2, none⟩ (.slice (some ⟨g4, 0, none⟩) (k + 1) cap4)) w6 := (fun t ht => ((Keeps.refl t _).alloc _).grown (hbd5.alloc _) (fun e => ht e.symm) hgrow6)
      all_goals have hst6 := (K6 76 (by decide)).block Hst5.out
      all_goals have y3 : w6.cell? ⟨G, 3, none⟩ = some (.slice ba k bc) := (by rw [cell_of_row w6 G 3 _ 76 (0, 0) hst6]; rfl)
      all_goals have yf3 := frozen_of_row w6 G 3 _ 76 hst6
      all_goals rw [grow_same] at hown6
      all_goals have Hst7 := hidI (heap_setCell_same w6 G 3 _ 76 (.slice (some ⟨g6, 0, none⟩) (k + 1) cap6) hst6)
      all_goals have Hbd7 := hidI (((Keeps.refl 4 w6).set (o := 3) (v := .slice (some ⟨g6, 0, none⟩) (k + 1) cap6) hst6 (by decide)).own hown6)
      all_goals have Hnx7 := hidI (((K6 3 (by decide)).set (o := 3) (v := .slice (some ⟨g6, 0, none⟩) (k + 1) cap6) hst6 (by decide)).own Hnx5.out)
      all_goals have Hdat7 := hidI (Hdat5.out.keep ((K6 9 (by decide)).set (o := 3) (v := .slice (some ⟨g6, 0, none⟩) (k + 1) cap6) hst6 (by decide)) ((K6 23 (by decide)).set (o := 3) (v := .slice (some ⟨g6, 0, none⟩) (k + 1) cap6) hst6 (by decide)))
      all_goals have Hbel7 : Hid (Below G w1 (w6.setCell ⟨G, 3, none⟩ (.slice (some ⟨g6, 0, none⟩) (k + 1) cap6))) := ((Hbel5.out.alloc (by simp; omega) _).grown hgrow6 (by simp; omega) (fun q hq => (hbd5.lt q hq).1)).setCell (Nat.le_refl _) _
      all_goals clear hst6 hown6 hgrow6 hat6 K6 Hst5 Hdat5 Hnx5 Hbel5 hbd5 x3 y2 yf2
      all_goals go_wp2
      all_goals (go_roundw; (case rel => exact ⟨k + 1, by omega, by go_num, some ⟨_, 0, none⟩, cap2, some ⟨_, 0, none⟩, cap4, some ⟨_, 0, none⟩, cap6, _, _, Hst7.out, Hdat7.out, Hnx7.out, Hbd7.out, Hbel7.out⟩); (case measure => simp [intOf]; omega))
    · have hke : nb = k := by omega
      subst hke
      obtain ⟨L, hL⟩ := MemX.built (T := 76) (enc := id) (m := ⟨nb, np, fun _ _ => [], fun _ => 0, badL z 0, -1, 0, -1, 0⟩) (g4 := -1) (g5 := 0) (g6 := -1) (g7 := 0) (by show 0 < nb; omega) (by decide) (Nat.le_refl G) hst hdat (fun i p _ _ => rfl) hnx hbd
      obtain ⟨H, hH⟩ : ∃ H, H = wr.heap.size := ⟨_, rfl⟩
      rw [← hH] at hL
      have Hle : Hid (H ≤ wr.heap.size) := Nat.le_of_eq hH
      have HL := hidI hL
      have Hbel := hidI hbel
      clear hst hdat hnx hbd hbel hL hH hGr
      go_wp2_with (first | (go_at_call 48; refine (Hbl.out _).mono ?_; rintro e w2 ⟨rfl, h2⟩; subst h2))
      go_loopw [9] (fun x wr => ∃ k : Nat, k ≤ n ∧ x = .int .i64 k ∧ CP wr G H G L ⟨nb, np, fun _ _ => [], fun _ => 0, badL z k, -1, 0, -1, 0⟩ ∧ Below G w1 wr ∧ H ≤ wr.heap.size) (fun x _ => n - (intOf x).toNat)
      case atStart => exact ⟨0, by omega, rfl, HL.out, Hbel.out, Hle.out⟩
      case round =>
        clear HL Hbel Hle
        obtain ⟨k, hk, rfl, hm, hbel, hle⟩ := hrel
        have c1 := MemX.c1 hm
        have c3 := MemX.c3 hm
        have Hle := hidI hle
        have Hbel := hidI hbel
        have Hm := hidI hm
        simp only [] at c1 c3
        by_cases hlt : k < n
        · obtain ⟨b, off, rfl, hc⟩ := Hin.out _ hbel (by omega)
          have hck := hc k hlt
          clear hc hm hbel hle
          by_cases h0 : z k < 0
          · have hd : decide (0 ≤ z k) = false := by simp; omega
            have Hm2 : Hid (CP wr G H G L ⟨nb, np, fun _ _ => [], fun _ => 0, badL z (k + 1), -1, 0, -1, 0⟩) := (Hm.out.bdc (badL z (k + 1)) (fun i _ => by rw [badL_succ]; show _ = (badL z k i || (z k == (i : Int))); rw [show (z k == (i : Int)) = false by simp; omega, Bool.or_false]))
            go_wp2_with fail
            go_quiet (fail)
            go_wp2
            go_roundw
            case rel => exact ⟨k + 1, by omega, by go_num, MemX.drewN Hm2.out _, chipDrewN Hbel.out _, Hle.out⟩
            case measure => simp [intOf]; omega
          · have hd : decide (0 ≤ z k) = true := by simp; omega
            obtain ⟨i, hzi⟩ : ∃ i : Nat, z k = (i : Int) := Int.eq_ofNat_of_zero_le (by omega)
            have Hzi := hidI hzi
            rw [hzi] at hck
            by_cases h1 : i < nb
            · have hd1 : decide ((i : Int) < (nb : Int)) = true := by simp; omega
              have hf := Hm.out.bad.frozen i
              have hcb := Hm.out.bad.cell h1
              have Hm2 : Hid (∀ q, CP ((wr.drewN q).setCell ⟨L.bk, i, none⟩ (.bool true)) G H G L ⟨nb, np, fun _ _ => [], fun _ => 0, badL z (k + 1), -1, 0, -1, 0⟩) := fun q => ((MemX.setBd (MemX.drewN Hm.out q) i true).bdc (badL z (k + 1)) (fun a _ => by
                rw [badL_succ]
                show (if a = i then true else badL z k a) = (badL z k a || (z k == (a : Int)))
                rw [Hzi.out]
                by_cases e : a = i
                · rw [if_pos e, e]; simp
                · rw [if_neg e, show ((i : Int) == (a : Int)) = false by simp; omega, Bool.or_false]))
              have Hbel2 : Hid (∀ q, Below G w1 ((wr.drewN q).setCell ⟨L.bk, i, none⟩ (.bool true))) := fun q => (chipDrewN Hbel.out q).setCell (p := ⟨L.bk, i, none⟩) Hm.out.hbk.1 (.bool true)
              clear h0 hd hzi
              go_wp2_with fail
              go_quiet (fail)
              go_wp2_with fail
              go_region
              go_wp2
              go_roundw
              case rel => exact ⟨k + 1, by omega, by go_num, Hm2.out _, Hbel2.out _, by simpa using Hle.out⟩
              case measure => simp [intOf]; omega
            · have hd1 : decide ((i : Int) < (nb : Int)) = false := by simp; omega
              have Hm2 : Hid (CP wr G H G L ⟨nb, np, fun _ _ => [], fun _ => 0, badL z (k + 1), -1, 0, -1, 0⟩) := (Hm.out.bdc (badL z (k + 1)) (fun a ha => by rw [badL_succ]; show _ = (badL z k a || (z k == (a : Int))); have : a < nb := ha; rw [Hzi.out, show ((i : Int) == (a : Int)) = false by simp; omega, Bool.or_false]))
              clear h0 hd hzi
              go_wp2_with fail
              go_quiet (fail)
              go_wp2
              go_roundw
              case rel => exact ⟨k + 1, by omega, by go_num, MemX.drewN Hm2.out _, chipDrewN Hbel.out _, Hle.out⟩
              case measure => simp [intOf]; omega
        · have hke : n = k := by omega
          subst hke
          clear hm hbel hle
          go_wp2
          go_ret
          refine ⟨L, H, by rw [← HGe.out]; rfl, Hle.out, ?_, ?_⟩
          · rw [HM.out, ← HGe.out]; exact Hm.out
          · rw [← HGe.out]; exact Hbel.out
end Go.Proofs.Ytodmdkhdbfbfgaa
