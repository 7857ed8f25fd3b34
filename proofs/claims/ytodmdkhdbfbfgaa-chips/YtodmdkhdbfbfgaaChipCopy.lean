/- A copy of the program's chip. -/
import Derived.Test.YtodmdkhdbfbfgaaChipClone
import Derived.Deep.RegionLaw
import Derived.Test.YtodmdkhdbfbfgaaChipSmall
namespace Go.Proofs.Ytodmdkhdbfbfgaa
open Go.RowKit Pk
set_option linter.unusedVariables false
set_option linter.unusedSimpArgs false


set_option maxRecDepth 100000 in
set_option maxHeartbeats 4000000 in
theorem copy_any (w : World) (lo hi cb : Nat) (L : Loc) (m : M) (hw : WF m) (h : CP w lo hi cb L m) (hsz : hi ≤ w.heap.size) :
    Calls Try.prog 31 #[.pointer (some ⟨cb, 0, none⟩)] w fun e w' => ∃ L', e = .returned (.pointer (some ⟨w.heap.size, 0, none⟩)) ∧ CP w' w.heap.size w'.heap.size w.heap.size L' m ∧ Below w.heap.size w w' := by
  have c0 := MemX.c0 h
  have c1 := MemX.c1 h
  have c2 := MemX.c2 h
  have c3 := MemX.c3 h
  have c4 := MemX.c4 h
  have c5 := MemX.c5 h
  have c6 := MemX.c6 h
  have c7 := MemX.c7 h
  have hnb1 := hw.nb1
  have hnb2 := hw.nb2
  have hnp1 := hw.np1
  have hnp2 := hw.np2
  have Hh : Hid (∀ W, Below w.heap.size w W → CP W lo hi cb L m) := fun W hb => MemX.below h hsz hb
  clear h
  go_enter Try.func31, Try.ntmps31
  go_wp2
  have hG : cb < w.heap.size := Nat.lt_of_lt_of_le (Hh.out _ (Below.refl _ _)).hcb.2 hsz
  have Hst0 := hidI (heap_alloc_new w (Obj.cells #[.int .i64 (m.np : Nat), .slice none 0 0, .slice (some ⟨L.nk, 0, none⟩) m.nb L.cn, .slice (some ⟨L.bk, 0, none⟩) m.nb L.ck, .int .i64 m.life, .int .i64 m.cut, .int .i64 m.fail, .int .i64 m.part] 76))
  have Hb0 := hidI ((Below.refl w.heap.size w).alloc (Nat.le_refl _) (Obj.cells #[.int .i64 (m.np : Nat), .slice none 0 0, .slice (some ⟨L.nk, 0, none⟩) m.nb L.cn, .slice (some ⟨L.bk, 0, none⟩) m.nb L.ck, .int .i64 m.life, .int .i64 m.cut, .int .i64 m.fail, .int .i64 m.part] 76))
  clear c0 c1 c2 c3 c4 c5 c6 c7
  obtain ⟨i0, hi0, hz0, hz1, hz2⟩ := info_parts Try.info23
  obtain ⟨j0, gi, gz0, gz1, gz2⟩ := info_parts Try.info9
  obtain ⟨k0, ki, kz0, kz1, kz2⟩ := info_parts Try.info3
  obtain ⟨l0, li, lz0, lz1, lz2⟩ := info_parts Try.info4
  obtain ⟨G, hGe⟩ : ∃ G, G = w.heap.size := ⟨_, rfl⟩
  rw [← hGe] at Hst0 Hb0 Hh hG hsz ⊢
  have HGe := hidI hGe
  clear hGe
  go_loopw [4] (fun x wr => ∃ k : Nat, k ≤ m.nb ∧ x = .int .i64 k ∧ ∃ da dc rw cr, wr.heap[G]? = some (.cells #[.int .i64 (m.np : Nat), .slice da k dc, .slice (some ⟨L.nk, 0, none⟩) m.nb L.cn, .slice (some ⟨L.bk, 0, none⟩) m.nb L.ck, .int .i64 m.life, .int .i64 m.cut, .int .i64 m.fail, .int .i64 m.part] 76 (0, 0)) ∧ Data wr G (.slice da k dc) k m.np rw cr (fun i p => id (m.pg i p)) ∧ Below G w wr) (fun x _ => m.nb - (intOf x).toNat)
  case atStart => exact ⟨0, by omega, rfl, none, 0, fun _ => 0, fun _ => 0, Hst0.out, Data.nil _ _ _ _ _ _, Hb0.out⟩
  case round =>
    clear Hst0 Hb0
    obtain ⟨k, hk, rfl, da, dc, rw, cr, hst, hdat, hbel⟩ := hrel
    have hm := Hh.out _ hbel
    have c1 := MemX.c1 hm
    have hGr : G < wr.heap.size := lt_of_heap hst
    by_cases hlt : k < m.nb
    · have cd := hm.data.cell hlt
      have hrow := hm.page k hlt
      have Hst := hidI hst
      have Hdat := hidI hdat
      have Hbel := hidI hbel
      have Hm := hidI hm
      clear hst hdat hbel hm
      have x0 : wr.cell? ⟨G, 1, none⟩ = some (.slice da k dc) := by rw [cell_of_row wr G 1 _ 76 (0, 0) Hst.out]; rfl
      have hl0 : (((List.range m.np).map fun p => Value.string (txt (id (m.pg k p))))).length = m.np * 1 := by simp
      have h1c : ∀ u ∈ ((List.range m.np).map fun p => Value.string (txt (id (m.pg k p)))), u.oneCell' = true := (by intro u hu; simp at hu; obtain ⟨p, _, rfl⟩ := hu; rfl)
      have Hrn := hidI hrow.news
      clear hrow
      go_wp2_with fail
      go_region_law (first
        | (refine step_append_lies _ (by rfl) _ _ _ (by rfl) G 9 j0 _ 1 16 Try.underlying23 gi gz0 gz1 gz2 rfl (by omega) (.slice none 0 0) 0 [] (by rfl) (World.ownsRow_nil _ _ _ _) ⟨L.rw k, 0, none⟩ m.np (L.cr k) ((List.range m.np).map fun p => Value.string (txt (id (m.pg k p)))) (by rfl) hl0 Hrn.out h1c (by omega) (by unfold maxLen; omega) (by omega) (by simp; omega) wr.heap.size (by simp) ?_; intro g cap w1 hown hgrow hat hlt1; have HgW : Hid (g = wr.heap.size) := (by rcases hat with h | h; (· simp [Value.ownBlock] at h); (· exact h)); have K1 : ∀ t, Keeps t wr w1 := (fun t k x f e => hgrow.block k (lt_of_heap e) (by simp [Value.ownBlock])); have hst1 := (K1 76).block Hst.out; have Hbel1 : Hid (Below G w w1) := Hbel.out.drew.grown hgrow (Nat.le_of_lt hGr) (fun q hq => by simp [Value.ownBlock] at hq); have x1 : w1.cell? ⟨G, 1, none⟩ = some (.slice da k dc) := (by rw [cell_of_row w1 G 1 _ 76 (0, 0) hst1]; rfl); have x1a : ∀ o, (w1.alloc o).cell? ⟨G, 1, none⟩ = some (.slice da k dc) := (fun o => (World.cell?_of_block (w := w1) (Below.heap_alloc w1 o G (World.block_lt_of_cell? w1 ⟨G, 1, none⟩ x1))).trans x1); have Hown23 := hidI ((K1 23).own Hdat.out.own); have Hrw1 : Hid (Rw w1 g 9 m.np (fun p => .string (txt (id (m.pg k p))))) := (by
            have hown : w1.ownsRow G 9 1 (.slice (some ⟨g, 0, none⟩) m.np cap) m.np ((List.range m.np).map fun p => .string (txt (id (m.pg k p)))) := (by simpa using hown)
            obtain ⟨g', cap', hgc, _, hrw1⟩ := own_rw hown (by omega)
            simp at hgc
            obtain ⟨rfl, rfl⟩ := hgc
            exact hrw1); have hgs : wr.heap.size ≤ w1.heap.size := hgrow.size; have HK1 := hidI K1; have Hst1 := hidI hst1; clear hgrow hat hst1 hown K1)
        | (refine step_append_lies _ (by rfl) _ _ _ (by rfl) G 23 i0 _ 1 24 Try.underlying28 hi0 hz0 hz1 hz2 rfl (by omega) (.slice da k dc) k _ (by rfl) (Hown23.out.alloc _) ⟨w1.heap.size, 0, none⟩ 1 1 [.slice (some ⟨g, 0, none⟩) m.np cap] (by rfl) rfl (cell_one_new _ _ _) (by intro u hu; simp at hu; subst hu; rfl) (by omega) (by unfold maxLen; omega) (by omega) (by simp; omega) (w1.heap.size + 1) (by simp) ?_; intro g2 cap2 w2 hown2 hgrow2 hat2 hlt2; have K2 : ∀ t, t ≠ 23 → Keeps t w1 w2 := (fun t ht => ((Keeps.refl t w1).alloc _).grown (Hown23.out.alloc _) (fun e => ht e.symm) hgrow2); have hst2 := (K2 76 (by decide)).block Hst1.out; have x2 : w2.cell? ⟨G, 1, none⟩ = some (.slice da k dc) := (by rw [cell_of_row w2 G 1 _ 76 (0, 0) hst2]; rfl); have f2 := frozen_of_row w2 G 1 _ 76 hst2; have Hbel2 : Hid (Below G w w2) := (Hbel1.out.alloc (Nat.le_trans (Nat.le_of_lt hGr) hgs) _).grown hgrow2 (by simp; omega) (fun q hq => (Hown23.out.lt q hq).1); have HK2 := hidI K2; have Hst2 := hidI hst2; have Hown2 := hidI hown2; clear hown2 hgrow2 hat2 K2 hst2))
      all_goals have hst3 := heap_setCell_same w2 G 1 _ 76 (.slice (some ⟨g2, 0, none⟩) (k + 1) cap2) Hst2.out
      all_goals have K9 : Keeps 9 wr (w2.setCell ⟨G, 1, none⟩ (.slice (some ⟨g2, 0, none⟩) (k + 1) cap2)) := ((HK1.out 9).trans (HK2.out 9 (by decide))).set Hst2.out (by decide)
      all_goals have K23 : Keeps 23 w2 (w2.setCell ⟨G, 1, none⟩ (.slice (some ⟨g2, 0, none⟩) (k + 1) cap2)) := (Keeps.refl _ _).set Hst2.out (by decide)
      all_goals have K9' : Keeps 9 w1 (w2.setCell ⟨G, 1, none⟩ (.slice (some ⟨g2, 0, none⟩) (k + 1) cap2)) := (HK2.out 9 (by decide)).set Hst2.out (by decide)
      all_goals have hdat3 := Hdat.out.push K9 (r := g) (c := cap) (f := fun p => id (m.pg k p)) (by rw [HgW.out]; omega) (by rw [HgW.out]; omega) (K9'.rw Hrw1.out) (K23.own Hown2.out)
      all_goals have hpe : put (fun i p => id (m.pg i p)) k (fun p => id (m.pg k p)) = fun i p => id (m.pg i p) := (by
        funext a b
        unfold put
        by_cases e : a = k
        · rw [if_pos e, e]
        · rw [if_neg e])
      all_goals rw [hpe] at hdat3
      all_goals have Hbel3 := hidI (Hbel2.out.setCell (p := ⟨G, 1, none⟩) (Nat.le_refl _) (.slice (some ⟨g2, 0, none⟩) (k + 1) cap2))
      all_goals have Hst3 := hidI hst3
      all_goals have Hdat3 := hidI hdat3
      all_goals clear hst3 hdat3 K9 K23 K9' hpe
      all_goals go_wp2
      all_goals (go_roundw; (case rel => exact ⟨k + 1, by omega, by go_num, some ⟨g2, 0, none⟩, cap2, _, _, Hst3.out, Hdat3.out, Hbel3.out⟩); (case measure => simp [intOf]; omega))
    · have hke : m.nb = k := by omega
      subst hke
      have a1 := MemX.c2 hm
      have Hst := hidI hst
      have Hdat := hidI hdat
      have Hbel := hidI hbel
      have hrn := hm.next
      clear hst hdat hbel hm
      go_wp2_with (at_builtin; refine wpList_append_lies _ rfl _ _ 22 rfl G 3 k0 (.int .i64 0) 1 8 Try.underlying22 ki kz0 kz1 kz2 rfl (by decide) (.slice none 0 0) 0 [] rfl (World.ownsRow_nil _ _ _ _) ⟨L.nk, 0, none⟩ m.nb L.cn ((List.range m.nb).map fun i => .int .i64 (m.nx i : Nat)) rfl ?c0 ?c1 ?c2 ?c3 ?c4 ?c5 ?c6 wr.heap.size rfl ?_)
      case c0 => simp
      case c1 => exact hrn.news
      case c2 => intro u hu; simp at hu; obtain ⟨p, _, rfl⟩ := hu; rfl
      case c3 => omega
      case c4 => unfold maxLen; omega
      case c5 => omega
      case c6 => omega
      intro g cap w1 hown hgrow hat hlt1
      have hown1 : w1.ownsRow G 3 1 (.slice (some ⟨g, 0, none⟩) m.nb cap) m.nb ((List.range m.nb).map fun i => .int .i64 (m.nx i : Nat)) := (by simpa using hown)
      have K1 : ∀ t, Keeps t wr w1 := fun t k x f e => hgrow.block k (lt_of_heap e) (by simp [Value.ownBlock])
      have hst1 := (K1 76).block Hst.out
      have z2 : w1.cell? ⟨G, 2, none⟩ = some (.slice (some ⟨L.nk, 0, none⟩) m.nb L.cn) := (by rw [cell_of_row w1 G 2 _ 76 (0, 0) hst1]; rfl)
      have zf := frozen_of_row w1 G 2 _ 76 hst1
      have hstB := heap_setCell_same w1 G 2 _ 76 (.slice (some ⟨g, 0, none⟩) m.nb cap) hst1
      have hownB := ((Keeps.refl 3 w1).set (o := 2) (v := .slice (some ⟨g, 0, none⟩) m.nb cap) hst1 (by decide)).own hown1
      have hdatB := Hdat.out.keep ((K1 9).set (o := 2) (v := .slice (some ⟨g, 0, none⟩) m.nb cap) hst1 (by decide)) ((K1 23).set (o := 2) (v := .slice (some ⟨g, 0, none⟩) m.nb cap) hst1 (by decide))
      have hbelB : Below G w (w1.setCell ⟨G, 2, none⟩ (.slice (some ⟨g, 0, none⟩) m.nb cap)) := (Hbel.out.grown hgrow (Nat.le_of_lt hGr) (fun q hq => by simp [Value.ownBlock] at hq)).setCell (Nat.le_refl _) _
      have HstB := hidI hstB
      have HownB := hidI hownB
      have HdatB := hidI hdatB
      have HbelB := hidI hbelB
      have hmb := Hh.out _ hbelB
      have b3 := MemX.c3 hmb
      have hrb := hmb.bad
      have hGb : G < (w1.setCell ⟨G, 2, none⟩ (.slice (some ⟨g, 0, none⟩) m.nb cap)).heap.size := lt_of_heap hstB
      clear hstB hownB hdatB hbelB hmb hst1 hown hown1 hgrow hat K1 Hst Hdat Hbel hrn a1
      go_wp2_with (at_builtin; refine wpList_append_lies _ rfl _ _ 74 rfl G 4 l0 (.bool false) 1 1 Try.underlying74 li lz0 lz1 lz2 rfl (by decide) (.slice none 0 0) 0 [] rfl (World.ownsRow_nil _ _ _ _) ⟨L.bk, 0, none⟩ m.nb L.ck ((List.range m.nb).map fun i => .bool (m.bd i)) rfl ?c0 ?c1 ?c2 ?c3 ?c4 ?c5 ?c6 (w1.setCell ⟨G, 2, none⟩ (.slice (some ⟨g, 0, none⟩) m.nb cap)).heap.size rfl ?_)
      case c0 => simp
      case c1 => exact hrb.news
      case c2 => intro u hu; simp at hu; obtain ⟨p, _, rfl⟩ := hu; rfl
      case c3 => omega
      case c4 => unfold maxLen; omega
      case c5 => omega
      case c6 => omega
      intro g3 cap3 w3 hown hgrow hat hlt3
      have hown1 : w3.ownsRow G 4 1 (.slice (some ⟨g3, 0, none⟩) m.nb cap3) m.nb ((List.range m.nb).map fun i => .bool (m.bd i)) := (by simpa using hown)
      have K1 : ∀ t, Keeps t (w1.setCell ⟨G, 2, none⟩ (.slice (some ⟨g, 0, none⟩) m.nb cap)) w3 := fun t k x f e => hgrow.block k (lt_of_heap e) (by simp [Value.ownBlock])
      have hst1 := (K1 76).block HstB.out
      have y2 : w3.cell? ⟨G, 3, none⟩ = some (.slice (some ⟨L.bk, 0, none⟩) m.nb L.ck) := (by rw [cell_of_row w3 G 3 _ 76 (0, 0) hst1]; rfl)
      have yf := frozen_of_row w3 G 3 _ 76 hst1
      have hstD := heap_setCell_same w3 G 3 _ 76 (.slice (some ⟨g3, 0, none⟩) m.nb cap3) hst1
      have hownD := ((Keeps.refl 4 w3).set (o := 3) (v := .slice (some ⟨g3, 0, none⟩) m.nb cap3) hst1 (by decide)).own hown1
      have hownN := ((K1 3).set (o := 3) (v := .slice (some ⟨g3, 0, none⟩) m.nb cap3) hst1 (by decide)).own HownB.out
      have hdatD := HdatB.out.keep ((K1 9).set (o := 3) (v := .slice (some ⟨g3, 0, none⟩) m.nb cap3) hst1 (by decide)) ((K1 23).set (o := 3) (v := .slice (some ⟨g3, 0, none⟩) m.nb cap3) hst1 (by decide))
      have hbelD : Below G w (w3.setCell ⟨G, 3, none⟩ (.slice (some ⟨g3, 0, none⟩) m.nb cap3)) := (HbelB.out.grown hgrow (Nat.le_of_lt hGb) (fun q hq => by simp [Value.ownBlock] at hq)).setCell (Nat.le_refl _) _
      have HE := hidI (MemX.built (T := 76) (enc := id) (g4 := m.life) (g5 := m.cut) (g6 := m.fail) (g7 := m.part) (by omega : 0 < m.nb) (by decide) (Nat.le_refl G) hstD hdatD (fun i p _ _ => rfl) hownN hownD)
      have HbelD := hidI hbelD
      clear hown1 hstD hownD hownN hdatD hbelD HstB HbelB HdatB HownB hst1 K1 hown hgrow hat z2 zf b3 hrb
      go_wp2
      go_ret
      obtain ⟨L', hL⟩ := HE.out
      rw [← HGe.out]
      exact ⟨L', rfl, hL, HbelD.out⟩
end Go.Proofs.Ytodmdkhdbfbfgaa
