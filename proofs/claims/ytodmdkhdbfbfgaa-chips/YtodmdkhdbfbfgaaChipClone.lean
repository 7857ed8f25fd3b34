/- A copy of the document's own chip. -/
import Derived.Test.YtodmdkhdbfbfgaaChipGrow
import Derived.Deep.RegionLaw
import Derived.Test.YtodmdkhdbfbfgaaChipSmall
namespace Go.Proofs.Ytodmdkhdbfbfgaa
open Go.RowKit Pk
set_option linter.unusedVariables false
set_option linter.unusedSimpArgs false

theorem Try.info4 : (Try.prog.info? 4).map (fun i => (i.zero, i.size, i.bytes)) = some (some (.bool false), 1, 1) := by kernel_rfl

set_option maxRecDepth 100000 in
set_option maxHeartbeats 4000000 in
theorem clone_any (w : World) (lo hi cb : Nat) (L : Loc) (m : M) (hw : WF m) (h : CR w lo hi cb L m) (hsz : hi ≤ w.heap.size) :
    Calls Try.prog 32 #[.pointer (some ⟨cb, 0, none⟩)] w fun e w' => ∃ L', e = .returned (.pointer (some ⟨w.heap.size, 0, none⟩)) ∧ CR w' w.heap.size w'.heap.size w.heap.size L' m ∧ Below w.heap.size w w' := by
  have c0 := MemX.c0 h
  have c1 := MemX.c1 h
  have c2 := MemX.c2 h
  have c3 := MemX.c3 h
  have c4 := MemX.c4 h
  have c5 := MemX.c5 h
  have c6 := MemX.c6 h
  have c7 := MemX.c7 h
  have hnb1 := hw.nb1
  have hnb2 := hw.nb2
  have hnp1 := hw.np1
  have hnp2 := hw.np2
  have Hh : Hid (∀ W, Below w.heap.size w W → CR W lo hi cb L m) := fun W hb => MemX.below h hsz hb
  clear h
  go_enter Try.func32, Try.ntmps32
  go_wp2
  have hG : cb < w.heap.size := Nat.lt_of_lt_of_le (Hh.out _ (Below.refl _ _)).hcb.2 hsz
  have Hst0 := hidI (heap_alloc_new w (Obj.cells #[.int .i64 (m.np : Nat), .slice none 0 0, .slice (some ⟨L.nk, 0, none⟩) m.nb L.cn, .slice (some ⟨L.bk, 0, none⟩) m.nb L.ck, .int .i64 m.life, .int .i64 m.fail, .int .i64 m.cut, .int .i64 m.part] 78))
  have Hb0 := hidI ((Below.refl w.heap.size w).alloc (Nat.le_refl _) (Obj.cells #[.int .i64 (m.np : Nat), .slice none 0 0, .slice (some ⟨L.nk, 0, none⟩) m.nb L.cn, .slice (some ⟨L.bk, 0, none⟩) m.nb L.ck, .int .i64 m.life, .int .i64 m.fail, .int .i64 m.cut, .int .i64 m.part] 78))
  clear c0 c1 c2 c3 c4 c5 c6 c7
  obtain ⟨i0, hi0, hz0, hz1, hz2⟩ := info_parts Try.info23
  obtain ⟨j0, gi, gz0, gz1, gz2⟩ := info_parts Try.info9
  obtain ⟨k0, ki, kz0, kz1, kz2⟩ := info_parts Try.info3
  obtain ⟨l0, li, lz0, lz1, lz2⟩ := info_parts Try.info4
  obtain ⟨G, hGe⟩ : ∃ G, G = w.heap.size := ⟨_, rfl⟩
  rw [← hGe] at Hst0 Hb0 Hh hG hsz ⊢
  have HGe := hidI hGe
  clear hGe
  go_loopw [4] (fun x wr => ∃ k : Nat, k ≤ m.nb ∧ x = .int .i64 k ∧ ∃ da dc rw cr, wr.heap[G]? = some (.cells #[.int .i64 (m.np : Nat), .slice da k dc, .slice (some ⟨L.nk, 0, none⟩) m.nb L.cn, .slice (some ⟨L.bk, 0, none⟩) m.nb L.ck, .int .i64 m.life, .int .i64 m.fail, .int .i64 m.cut, .int .i64 m.part] 78 (0, 0)) ∧ Data wr G (.slice da k dc) k m.np rw cr (fun i p => pad (m.pg i p)) ∧ Below G w wr) (fun x _ => m.nb - (intOf x).toNat)
  case atStart => exact ⟨0, by omega, rfl, none, 0, fun _ => 0, fun _ => 0, Hst0.out, Data.nil _ _ _ _ _ _, Hb0.out⟩
  case round =>
    clear Hst0 Hb0
    obtain ⟨k, hk, rfl, da, dc, rw, cr, hst, hdat, hbel⟩ := hrel
    have hm := Hh.out _ hbel
    have c1 := MemX.c1 hm
    have hGr : G < wr.heap.size := lt_of_heap hst
    by_cases hlt : k < m.nb
    · have cd := hm.data.cell hlt
      have hrow := hm.page k hlt
      have Hst := hidI hst
      have Hdat := hidI hdat
      have Hbel := hidI hbel
      have Hm := hidI hm
      clear hst hdat hbel hm
      go_wp2_with (at_builtin; refine wpList_append_lies _ rfl (.tmp 19) (.tmp 26) 23 rfl G 9 j0 (.string ⟨#[]⟩) 1 16 Try.underlying23 gi gz0 gz1 gz2 rfl (by decide) (.slice none 0 0) 0 [] rfl (World.ownsRow_nil _ _ _ _) ⟨L.rw k, 0, none⟩ m.np (L.cr k) ((List.range m.np).map fun p => .string (txt (pad (m.pg k p)))) rfl ?c0 ?c1 ?c2 ?c3 ?c4 ?c5 ?c6 wr.heap.size rfl ?_)
      case c0 => simp
      case c1 => exact hrow.news
      case c2 => intro u hu; simp at hu; obtain ⟨p, _, rfl⟩ := hu; rfl
      case c3 => omega
      case c4 => unfold maxLen; omega
      case c5 => omega
      case c6 => omega
      intro g cap w1 hown hgrow hat hlt1
      have hown : w1.ownsRow G 9 1 (.slice (some ⟨g, 0, none⟩) m.np cap) m.np ((List.range m.np).map fun p => .string (txt (pad (m.pg k p)))) := (by simpa using hown)
      have hgW : g = wr.heap.size := by
        rcases hat with h | h
        · simp [Value.ownBlock] at h
        · exact h
      have K1 : ∀ t, Keeps t wr w1 := fun t k x f e => hgrow.block k (lt_of_heap e) (by simp [Value.ownBlock])
      have hbel1 : Below G w w1 := Hbel.out.grown hgrow (by omega) (fun q hq => by simp [Value.ownBlock] at hq)
      have hst1 := (K1 78).block Hst.out
      have hown23 := (K1 23).own Hdat.out.own
      have x1 : w1.cell? ⟨G, 1, none⟩ = some (.slice da k dc) := by rw [cell_of_row w1 G 1 _ 78 (0, 0) hst1]; rfl
      obtain ⟨g', cap', hgc, _, hrw1⟩ := own_rw hown (by omega)
      simp at hgc
      obtain ⟨rfl, rfl⟩ := hgc
      have HK1 := hidI K1
      have HgW := hidI hgW
      clear hgW
      have Hst1 := hidI hst1
      have Hbel1 := hidI hbel1
      have hgs := hgrow.size
      clear hgrow hat hst1 hbel1 hown K1 Hst
      go_wp2_with (at_builtin; refine wpList_append_lies _ rfl (.tmp 29) (.tmp 31) 28 rfl G 23 i0 (.slice none 0 0) 1 24 Try.underlying28 hi0 hz0 hz1 hz2 rfl (by decide) (.slice da k dc) k _ rfl (hown23.alloc _) ⟨w1.heap.size, 0, none⟩ 1 1 [.slice (some ⟨g, 0, none⟩) m.np cap] rfl rfl ?d1 ?d2 ?d3 ?d4 ?d5 ?d6 (w1.heap.size + 1) (by simp) ?_)
      case d1 => exact cell_one_new _ _ _
      case d2 => intro u hu; simp at hu; subst hu; rfl
      case d3 => omega
      case d4 => unfold maxLen; omega
      case d5 => omega
      case d6 => simp; omega
      intro g2 cap2 w2 hown2 hgrow2 hat2 hlt2
      have K2 : ∀ t, t ≠ 23 → Keeps t w1 w2 := fun t ht => ((Keeps.refl t w1).alloc _).grown (hown23.alloc _) (fun e => ht e.symm) hgrow2
      have hst2 := (K2 78 (by decide)).block Hst1.out
      have x2 : w2.cell? ⟨G, 1, none⟩ = some (.slice da k dc) := by rw [cell_of_row w2 G 1 _ 78 (0, 0) hst2]; rfl
      have f2 := frozen_of_row w2 G 1 _ 78 hst2
      have hst3 := heap_setCell_same w2 G 1 _ 78 (.slice (some ⟨g2, 0, none⟩) (k + 1) cap2) hst2
      have K9 : Keeps 9 wr (w2.setCell ⟨G, 1, none⟩ (.slice (some ⟨g2, 0, none⟩) (k + 1) cap2)) := ((HK1.out 9).trans (K2 9 (by decide))).set hst2 (by decide)
      have K23 : Keeps 23 w2 (w2.setCell ⟨G, 1, none⟩ (.slice (some ⟨g2, 0, none⟩) (k + 1) cap2)) := (Keeps.refl _ _).set hst2 (by decide)
      have K9' : Keeps 9 w1 (w2.setCell ⟨G, 1, none⟩ (.slice (some ⟨g2, 0, none⟩) (k + 1) cap2)) := (K2 9 (by decide)).set hst2 (by decide)
      have hdat3 := Hdat.out.push K9 (r := g) (c := cap) (f := fun p => pad (m.pg k p)) (by rw [HgW.out]; omega) (by rw [HgW.out]; omega) (K9'.rw hrw1) (K23.own hown2)
      have hpe : put (fun i p => pad (m.pg i p)) k (fun p => pad (m.pg k p)) = fun i p => pad (m.pg i p) := by
        funext a b
        unfold put
        by_cases e : a = k
        · rw [if_pos e, e]
        · rw [if_neg e]
      rw [hpe] at hdat3
      have hbel3 : Below G w (w2.setCell ⟨G, 1, none⟩ (.slice (some ⟨g2, 0, none⟩) (k + 1) cap2)) := ((Hbel1.out.alloc (by omega) _).grown hgrow2 (by simp; omega) (fun q hq => (hown23.lt q hq).1)).setCell (Nat.le_refl _) _
      have Hst3 := hidI hst3
      have Hdat3 := hidI hdat3
      have Hbel3 := hidI hbel3
      clear hst2 hst3 hdat3 hbel3 K9 K23 K9' K2 hown2 hgrow2 hat2 hrw1 hrow
      go_wp2
      go_roundw
      case rel => exact ⟨k + 1, by omega, by go_num, some ⟨g2, 0, none⟩, cap2, _, _, Hst3.out, Hdat3.out, Hbel3.out⟩
      case measure => simp [intOf]; omega
    · have hke : m.nb = k := by omega
      subst hke
      have y2 : wr.cell? ⟨G, 2, none⟩ = some (.slice (some ⟨L.nk, 0, none⟩) m.nb L.cn) := by rw [cell_of_row wr G 2 _ 78 (0, 0) hst]; rfl
      have yf2 := frozen_of_row wr G 2 _ 78 hst
      have hstA := heap_setCell_same wr G 2 _ 78 (.slice none 0 0) hst
      have hbelA := hbel.setCell (p := ⟨G, 2, none⟩) (Nat.le_refl _) (.slice none 0 0)
      have hdatA := hdat.keep ((Keeps.refl 9 wr).set (o := 2) (v := .slice none 0 0) hst (by decide)) ((Keeps.refl 23 wr).set (o := 2) (v := .slice none 0 0) hst (by decide))
      have HstA := hidI hstA
      have HbelA := hidI hbelA
      have HdatA := hidI hdatA
      clear hst hdat hbel hm hstA hbelA hdatA
      go_wp2_with fail
      generalize wr.setCell ⟨G, 2, none⟩ (.slice none 0 0) = wa at *
      clear c1 y2 yf2 hGr
      have hGa : G < wa.heap.size := lt_of_heap HstA.out
      have hma := Hh.out _ HbelA.out
      have a1 := MemX.c2 hma
      have a2 : wa.cell? ⟨G, 2, none⟩ = some (.slice none 0 0) := by rw [cell_of_row wa G 2 _ 78 (0, 0) HstA.out]; rfl
      have af := frozen_of_row wa G 2 _ 78 HstA.out
      have hrn := hma.next
      have hcba : cb < wa.heap.size := by omega
      have hl0 : (((List.range m.nb).map fun i => Value.int .i64 (m.nx i : Nat))).length = m.nb * 1 := by simp
      have h1c : ∀ u ∈ ((List.range m.nb).map fun i => Value.int .i64 (m.nx i : Nat)), u.oneCell' = true := (by intro u hu; simp at hu; obtain ⟨p, _, rfl⟩ := hu; rfl)
      have Hrn := hidI hrn.news
      clear hma hrn
      go_region_law (
        (refine step_append_lies _ (by rfl) _ _ _ (by rfl) G 3 k0 _ 1 8 Try.underlying22 ki kz0 kz1 kz2 rfl (by omega) (.slice none 0 0) 0 [] (by rfl) (World.ownsRow_nil _ _ _ _)
            ⟨L.nk, 0, none⟩ m.nb L.cn ((List.range m.nb).map fun i => .int .i64 (m.nx i : Nat)) (by rfl) hl0 Hrn.out h1c
            (by omega) (by unfold maxLen; omega) (by omega) (by simp; omega) wa.heap.size (by simp) ?_; intro g cap w1 hown hgrow hat hlt1; have K1 : ∀ t, Keeps t wa w1 := (fun t k x f e => hgrow.block k (lt_of_heap e) (by simp [Value.ownBlock])); have hst1 := (K1 78).block HstA.out; have z2 : w1.cell? ⟨G, 2, none⟩ = some (.slice none 0 0) := (by rw [cell_of_row w1 G 2 _ 78 (0, 0) hst1]; rfl); have zf := frozen_of_row w1 G 2 _ 78 hst1; have Hst1 := hidI hst1; have HK1 := hidI K1; have Hown := hidI hown; have Hgrow := hidI hgrow; clear hst1 K1 hown hgrow hat))
      all_goals have hown1 : w1.ownsRow G 3 1 (.slice (some ⟨g, 0, none⟩) m.nb cap) m.nb ((List.range m.nb).map fun i => .int .i64 (m.nx i : Nat)) := (by simpa using Hown.out)
      all_goals have hstB := heap_setCell_same w1 G 2 _ 78 (.slice (some ⟨g, 0, none⟩) m.nb cap) Hst1.out
      all_goals have hownB := ((Keeps.refl 3 w1).set (o := 2) (v := .slice (some ⟨g, 0, none⟩) m.nb cap) Hst1.out (by decide)).own hown1
      all_goals have hdatB := HdatA.out.keep ((HK1.out 9).set (o := 2) (v := .slice (some ⟨g, 0, none⟩) m.nb cap) Hst1.out (by decide)) ((HK1.out 23).set (o := 2) (v := .slice (some ⟨g, 0, none⟩) m.nb cap) Hst1.out (by decide))
      all_goals have hbelB : Below G w (w1.setCell ⟨G, 2, none⟩ (.slice (some ⟨g, 0, none⟩) m.nb cap)) := (HbelA.out.drew.grown Hgrow.out (Nat.le_of_lt hGa) (fun q hq => by simp [Value.ownBlock] at hq)).setCell (Nat.le_refl _) _
      all_goals generalize w1.setCell ⟨G, 2, none⟩ (.slice (some ⟨g, 0, none⟩) m.nb cap) = wb at *
      all_goals clear hown1 HdatA HbelA HstA HK1 Hst1 Hown Hgrow z2 zf a1 a2 af hl0 h1c Hrn hGa hcba
      all_goals have y3 : wb.cell? ⟨G, 3, none⟩ = some (.slice (some ⟨L.bk, 0, none⟩) m.nb L.ck) := (by rw [cell_of_row wb G 3 _ 78 (0, 0) hstB]; rfl)
      all_goals have yf3 := frozen_of_row wb G 3 _ 78 hstB
      all_goals have HstC := hidI (heap_setCell_same wb G 3 _ 78 (.slice none 0 0) hstB)
      all_goals have HbelC := hidI (hbelB.setCell (p := ⟨G, 3, none⟩) (Nat.le_refl _) (.slice none 0 0))
      all_goals have HdatC := hidI (hdatB.keep ((Keeps.refl 9 wb).set (o := 3) (v := .slice none 0 0) hstB (by decide)) ((Keeps.refl 23 wb).set (o := 3) (v := .slice none 0 0) hstB (by decide)))
      all_goals have HownC := hidI (((Keeps.refl 3 wb).set (o := 3) (v := .slice none 0 0) hstB (by decide)).own hownB)
      all_goals clear hstB hbelB hdatB hownB
      all_goals go_wp2_with fail
      all_goals generalize wb.setCell ⟨G, 3, none⟩ (.slice none 0 0) = wc at *
      all_goals clear y3 yf3
      all_goals have hGc : G < wc.heap.size := lt_of_heap HstC.out
      all_goals have hmc := Hh.out _ HbelC.out
      all_goals have a1 := MemX.c3 hmc
      all_goals have a2 : wc.cell? ⟨G, 3, none⟩ = some (.slice none 0 0) := (by rw [cell_of_row wc G 3 _ 78 (0, 0) HstC.out]; rfl)
      all_goals have hl0 : (((List.range m.nb).map fun i => Value.bool (m.bd i))).length = m.nb * 1 := (by simp)
      all_goals have h1c : ∀ u ∈ ((List.range m.nb).map fun i => Value.bool (m.bd i)), u.oneCell' = true := (by intro u hu; simp at hu; obtain ⟨p, _, rfl⟩ := hu; rfl)
      all_goals have Hrn := hidI hmc.bad.news
      all_goals clear hmc
      all_goals go_region_law (refine step_append_lies _ (by rfl) _ _ _ (by rfl) G 4 l0 _ 1 1 Try.underlying74 li lz0 lz1 lz2 rfl (by omega) (.slice none 0 0) 0 [] (by rfl) (World.ownsRow_nil _ _ _ _) ⟨L.bk, 0, none⟩ m.nb L.ck ((List.range m.nb).map fun i => .bool (m.bd i)) (by rfl) hl0 Hrn.out h1c (by omega) (by unfold maxLen; omega) (by omega) (by simp; omega) wc.heap.size (by simp) ?_; intro g3 cap3 w3 hown hgrow hat hlt3; have K1 : ∀ t, Keeps t wc w3 := (fun t k x f e => hgrow.block k (lt_of_heap e) (by simp [Value.ownBlock])); have hst1 := (K1 78).block HstC.out; have z2 : w3.cell? ⟨G, 3, none⟩ = some (.slice none 0 0) := (by rw [cell_of_row w3 G 3 _ 78 (0, 0) hst1]; rfl); have zf := frozen_of_row w3 G 3 _ 78 hst1; have Hst1 := hidI hst1; have HK1 := hidI K1; have Hown := hidI hown; have Hgrow := hidI hgrow; clear hst1 K1 hown hgrow hat)
      all_goals have hown1 : w3.ownsRow G 4 1 (.slice (some ⟨g3, 0, none⟩) m.nb cap3) m.nb ((List.range m.nb).map fun i => .bool (m.bd i)) := (by simpa using Hown.out)
      all_goals have hstD := heap_setCell_same w3 G 3 _ 78 (.slice (some ⟨g3, 0, none⟩) m.nb cap3) Hst1.out
      all_goals have hownD := ((Keeps.refl 4 w3).set (o := 3) (v := .slice (some ⟨g3, 0, none⟩) m.nb cap3) Hst1.out (by decide)).own hown1
      all_goals have hownN := ((HK1.out 3).set (o := 3) (v := .slice (some ⟨g3, 0, none⟩) m.nb cap3) Hst1.out (by decide)).own HownC.out
      all_goals have hdatD := HdatC.out.keep ((HK1.out 9).set (o := 3) (v := .slice (some ⟨g3, 0, none⟩) m.nb cap3) Hst1.out (by decide)) ((HK1.out 23).set (o := 3) (v := .slice (some ⟨g3, 0, none⟩) m.nb cap3) Hst1.out (by decide))
      all_goals have hbelD : Below G w (w3.setCell ⟨G, 3, none⟩ (.slice (some ⟨g3, 0, none⟩) m.nb cap3)) := (HbelC.out.drew.grown Hgrow.out (Nat.le_of_lt hGc) (fun q hq => by simp [Value.ownBlock] at hq)).setCell (Nat.le_refl _) _
      all_goals have HE := hidI (MemX.built (T := 78) (enc := pad) (g4 := m.life) (g5 := m.fail) (g6 := m.cut) (g7 := m.part) (by omega : 0 < m.nb) (by decide) (Nat.le_refl G) hstD hdatD (fun i p _ _ => rfl) hownN hownD)
      all_goals have HbelD := hidI hbelD
      all_goals clear hown1 hstD hownD hownN hdatD hbelD HstC HbelC HdatC HownC Hst1 HK1 Hown Hgrow
      all_goals go_wp2
      all_goals go_ret
      all_goals (obtain ⟨L', hL⟩ := HE.out; rw [← HGe.out]; exact ⟨L', rfl, hL, HbelD.out⟩)
end Go.Proofs.Ytodmdkhdbfbfgaa
