/- Lemmas and contracts for kept. -/
import Derived.Deep.RegionLaw
import Derived.Deep.AppendLies
import Derived.Test.YtodmdkhdbfbfgaaGreatDoorM31
import Derived.Test.YtodmdkhdbfbfgaaGreatDoorM07
import Derived.Test.YtodmdkhdbfbfgaaGreatDoorM20
import Derived.Test.YtodmdkhdbfbfgaaGreatDoorM22
set_option maxRecDepth 100000
set_option maxHeartbeats 8000000
namespace Go.Proofs.YtodmdkhdbfbfgaaGreatDoor.S1
open Go.RowKit Pk
set_option linter.unusedVariables false
set_option linter.unusedSimpArgs false
theorem copy_any (w : World) (lo hi cb : Nat) (L : Loc) (m : M) (hw : WF m) (h : CP w lo hi cb L m) (hsz : hi ≤ w.heap.size) :
 Calls Tryz.prog 21 #[.pointer (some ⟨cb, 0, none⟩)] w fun e w' => ∃ L', e = .returned (.pointer (some ⟨w.heap.size, 0, none⟩)) ∧ CP w' w.heap.size w'.heap.size w.heap.size L' m ∧ Below w.heap.size w w' := by
 have c0 := MemX.c0 h
 have c1 := MemX.c1 h
 have c2 := MemX.c2 h
 have c3 := MemX.c3 h
 have c4 := MemX.c4 h
 have c5 := MemX.c5 h
 have c6 := MemX.c6 h
 have c7 := MemX.c7 h
 have hnb1 := hw.nb1
 have hnb2 := hw.nb2
 have hnp1 := hw.np1
 have hnp2 := hw.np2
 have Hh : Hid (∀ W, Below w.heap.size w W → CP W lo hi cb L m) := fun W hb => MemX.below h hsz hb
 clear h
 go_enter Tryz.func21, Tryz.ntmps21
 go_wp2
 have hG : cb < w.heap.size := Nat.lt_of_lt_of_le (Hh.out _ (Below.refl _ _)).hcb.2 hsz
 have Hst0 := hidI (heap_alloc_new w (Obj.cells #[.int .i64 (m.np : Nat), .slice none 0 0, .slice (some ⟨L.nk, 0, none⟩) m.nb L.cn, .slice (some ⟨L.bk, 0, none⟩) m.nb L.ck, .int .i64 m.life, .int .i64 m.cut, .int .i64 m.fail, .int .i64 m.part] 74))
 have Hb0 := hidI ((Below.refl w.heap.size w).alloc (Nat.le_refl _) (Obj.cells #[.int .i64 (m.np : Nat), .slice none 0 0, .slice (some ⟨L.nk, 0, none⟩) m.nb L.cn, .slice (some ⟨L.bk, 0, none⟩) m.nb L.ck, .int .i64 m.life, .int .i64 m.cut, .int .i64 m.fail, .int .i64 m.part] 74))
 clear c0 c1 c2 c3 c4 c5 c6 c7
 obtain ⟨i0, hi0, hz0, hz1, hz2⟩ := info_parts Tryz.info23
 obtain ⟨j0, gi, gz0, gz1, gz2⟩ := info_parts Tryz.info9
 obtain ⟨k0, ki, kz0, kz1, kz2⟩ := info_parts Tryz.info3
 obtain ⟨l0, li, lz0, lz1, lz2⟩ := info_parts Tryz.info4
 obtain ⟨G, hGe⟩ : ∃ G, G = w.heap.size := ⟨_, rfl⟩
 rw [← hGe] at Hst0 Hb0 Hh hG hsz ⊢
 have HGe := hidI hGe
 clear hGe
 go_loopw [4] (fun x wr => ∃ k : Nat, k ≤ m.nb ∧ x = .int .i64 k ∧ ∃ da dc rw cr, wr.heap[G]? = some (.cells #[.int .i64 (m.np : Nat), .slice da k dc, .slice (some ⟨L.nk, 0, none⟩) m.nb L.cn, .slice (some ⟨L.bk, 0, none⟩) m.nb L.ck, .int .i64 m.life, .int .i64 m.cut, .int .i64 m.fail, .int .i64 m.part] 74 (0, 0)) ∧ Data wr G (.slice da k dc) k m.np rw cr (fun i p => id (m.pg i p)) ∧ Below G w wr) (fun x _ => m.nb - (intOf x).toNat)
 case atStart => exact ⟨0, by omega, rfl, none, 0, fun _ => 0, fun _ => 0, Hst0.out, Data.nil _ _ _ _ _ _, Hb0.out⟩
 case round =>
  clear Hst0 Hb0
  obtain ⟨k, hk, rfl, da, dc, rw, cr, hst, hdat, hbel⟩ := hrel
  have hm := Hh.out _ hbel
  have c1 := MemX.c1 hm
  have hGr : G < wr.heap.size := lt_of_heap hst
  by_cases hlt : k < m.nb
  ·have cd := hm.data.cell hlt
   have hrow := hm.page k hlt
   have Hst := hidI hst
   have Hdat := hidI hdat
   have Hbel := hidI hbel
   have Hm := hidI hm
   clear hst hdat hbel hm
   have x0 : wr.cell? ⟨G, 1, none⟩ = some (.slice da k dc) := by rw [cell_of_row wr G 1 _ 74 (0, 0) Hst.out]; rfl
   have hl0 : (((List.range m.np).map fun p => Value.string (txt (id (m.pg k p))))).length = m.np * 1 := by simp
   have h1c : ∀ u ∈ ((List.range m.np).map fun p => Value.string (txt (id (m.pg k p)))), u.oneCell' = true := (by intro u hu; simp at hu; obtain ⟨p, _, rfl⟩ := hu; rfl)
   have Hrn := hidI hrow.news
   clear hrow
   go_wp2_with fail
   go_region_law (first
    | (refine step_append_lies _ (by rfl) _ _ _ (by rfl) G 9 j0 _ 1 16 Tryz.underlying40 gi gz0 gz1 gz2 rfl (by omega) (.slice none 0 0) 0 [] (by rfl) (World.ownsRow_nil _ _ _ _) ⟨L.rw k, 0, none⟩ m.np (L.cr k) ((List.range m.np).map fun p => Value.string (txt (id (m.pg k p)))) (by rfl) hl0 Hrn.out h1c (by omega) (by unfold maxLen; omega) (by omega) (by simp; omega) wr.heap.size (by simp) ?_; intro g cap w1 hown hgrow hat hlt1; have HgW : Hid (g = wr.heap.size) := (by rcases hat with h | h; (· simp [Value.ownBlock] at h); (· exact h)); have K1 : ∀ t, Keeps t wr w1 := (fun t k x f e => hgrow.block k (lt_of_heap e) (by simp [Value.ownBlock])); have hst1 := (K1 74).block Hst.out; have Hbel1 : Hid (Below G w w1) := Hbel.out.drew.grown hgrow (Nat.le_of_lt hGr) (fun q hq => by simp [Value.ownBlock] at hq); have x1 : w1.cell? ⟨G, 1, none⟩ = some (.slice da k dc) := (by rw [cell_of_row w1 G 1 _ 74 (0, 0) hst1]; rfl); have x1a : ∀ o, (w1.alloc o).cell? ⟨G, 1, none⟩ = some (.slice da k dc) := (fun o => (World.cell?_of_block (w := w1) (Below.heap_alloc w1 o G (World.block_lt_of_cell? w1 ⟨G, 1, none⟩ x1))).trans x1); have Hown23 := hidI ((K1 40).own Hdat.out.own); have Hrw1 : Hid (Rw w1 g 9 m.np (fun p => .string (txt (id (m.pg k p))))) := (by
        have hown : w1.ownsRow G 9 1 (.slice (some ⟨g, 0, none⟩) m.np cap) m.np ((List.range m.np).map fun p => .string (txt (id (m.pg k p)))) := (by simpa using hown)
        obtain ⟨g', cap', hgc, _, hrw1⟩ := own_rw hown (by omega)
        simp at hgc
        obtain ⟨rfl, rfl⟩ := hgc
        exact hrw1); have hgs : wr.heap.size ≤ w1.heap.size := hgrow.size; have HK1 := hidI K1; have Hst1 := hidI hst1; clear hgrow hat hst1 hown K1)
    | (refine step_append_lies _ (by rfl) _ _ _ (by rfl) G 40 i0 _ 1 24 Tryz.underlying71 hi0 hz0 hz1 hz2 rfl (by omega) (.slice da k dc) k _ (by rfl) (Hown23.out.alloc _) ⟨w1.heap.size, 0, none⟩ 1 1 [.slice (some ⟨g, 0, none⟩) m.np cap] (by rfl) rfl (cell_one_new _ _ _) (by intro u hu; simp at hu; subst hu; rfl) (by omega) (by unfold maxLen; omega) (by omega) (by simp; omega) (w1.heap.size + 1) (by simp) ?_; intro g2 cap2 w2 hown2 hgrow2 hat2 hlt2; have K2 : ∀ t, t ≠ 40 → Keeps t w1 w2 := (fun t ht => ((Keeps.refl t w1).alloc _).grown (Hown23.out.alloc _) (fun e => ht e.symm) hgrow2); have hst2 := (K2 74 (by decide)).block Hst1.out; have x2 : w2.cell? ⟨G, 1, none⟩ = some (.slice da k dc) := (by rw [cell_of_row w2 G 1 _ 74 (0, 0) hst2]; rfl); have f2 := frozen_of_row w2 G 1 _ 74 hst2; have Hbel2 : Hid (Below G w w2) := (Hbel1.out.alloc (Nat.le_trans (Nat.le_of_lt hGr) hgs) _).grown hgrow2 (by simp; omega) (fun q hq => (Hown23.out.lt q hq).1); have HK2 := hidI K2; have Hst2 := hidI hst2; have Hown2 := hidI hown2; clear hown2 hgrow2 hat2 K2 hst2))
   all_goals have hst3 := heap_setCell_same w2 G 1 _ 74 (.slice (some ⟨g2, 0, none⟩) (k + 1) cap2) Hst2.out
   all_goals have K9 : Keeps 9 wr (w2.setCell ⟨G, 1, none⟩ (.slice (some ⟨g2, 0, none⟩) (k + 1) cap2)) := ((HK1.out 9).trans (HK2.out 9 (by decide))).set Hst2.out (by decide)
   all_goals have K23 : Keeps 40 w2 (w2.setCell ⟨G, 1, none⟩ (.slice (some ⟨g2, 0, none⟩) (k + 1) cap2)) := (Keeps.refl _ _).set Hst2.out (by decide)
   all_goals have K9' : Keeps 9 w1 (w2.setCell ⟨G, 1, none⟩ (.slice (some ⟨g2, 0, none⟩) (k + 1) cap2)) := (HK2.out 9 (by decide)).set Hst2.out (by decide)
   all_goals have hdat3 := Hdat.out.push K9 (r := g) (c := cap) (f := fun p => id (m.pg k p)) (by rw [HgW.out]; omega) (by rw [HgW.out]; omega) (K9'.rw Hrw1.out) (K23.own Hown2.out)
   all_goals have hpe : put (fun i p => id (m.pg i p)) k (fun p => id (m.pg k p)) = fun i p => id (m.pg i p) := (by
    funext a b
    unfold put
    by_cases e : a = k
    ·rw [if_pos e, e]
    ·rw [if_neg e])
   all_goals rw [hpe] at hdat3
   all_goals have Hbel3 := hidI (Hbel2.out.setCell (p := ⟨G, 1, none⟩) (Nat.le_refl _) (.slice (some ⟨g2, 0, none⟩) (k + 1) cap2))
   all_goals have Hst3 := hidI hst3
   all_goals have Hdat3 := hidI hdat3
   all_goals clear hst3 hdat3 K9 K23 K9' hpe
   all_goals go_wp2
   all_goals (go_roundw; (case rel => exact ⟨k + 1, by omega, by go_num, some ⟨g2, 0, none⟩, cap2, _, _, Hst3.out, Hdat3.out, Hbel3.out⟩); (case measure => simp [intOf]; omega))
  ·have hke : m.nb = k := by omega
   subst hke
   have a1 := MemX.c2 hm
   have Hst := hidI hst
   have Hdat := hidI hdat
   have Hbel := hidI hbel
   have hrn := hm.next
   clear hst hdat hbel hm
   go_wp2_with (at_builtin; refine wpList_append_lies _ rfl _ _ 22 rfl G 3 k0 (.int .i64 0) 1 8 Tryz.underlying22 ki kz0 kz1 kz2 rfl (by decide) (.slice none 0 0) 0 [] rfl (World.ownsRow_nil _ _ _ _) ⟨L.nk, 0, none⟩ m.nb L.cn ((List.range m.nb).map fun i => .int .i64 (m.nx i : Nat)) rfl ?c0 ?c1 ?c2 ?c3 ?c4 ?c5 ?c6 wr.heap.size rfl ?_)
   case c0 => simp
   case c1 => exact hrn.news
   case c2 => intro u hu; simp at hu; obtain ⟨p, _, rfl⟩ := hu; rfl
   case c3 => omega
   case c4 => unfold maxLen; omega
   case c5 => omega
   case c6 => omega
   intro g cap w1 hown hgrow hat hlt1
   have hown1 : w1.ownsRow G 3 1 (.slice (some ⟨g, 0, none⟩) m.nb cap) m.nb ((List.range m.nb).map fun i => .int .i64 (m.nx i : Nat)) := (by simpa using hown)
   have K1 : ∀ t, Keeps t wr w1 := fun t k x f e => hgrow.block k (lt_of_heap e) (by simp [Value.ownBlock])
   have hst1 := (K1 74).block Hst.out
   have z2 : w1.cell? ⟨G, 2, none⟩ = some (.slice (some ⟨L.nk, 0, none⟩) m.nb L.cn) := (by rw [cell_of_row w1 G 2 _ 74 (0, 0) hst1]; rfl)
   have zf := frozen_of_row w1 G 2 _ 74 hst1
   have hstB := heap_setCell_same w1 G 2 _ 74 (.slice (some ⟨g, 0, none⟩) m.nb cap) hst1
   have hownB := ((Keeps.refl 3 w1).set (o := 2) (v := .slice (some ⟨g, 0, none⟩) m.nb cap) hst1 (by decide)).own hown1
   have hdatB := Hdat.out.keep ((K1 9).set (o := 2) (v := .slice (some ⟨g, 0, none⟩) m.nb cap) hst1 (by decide)) ((K1 40).set (o := 2) (v := .slice (some ⟨g, 0, none⟩) m.nb cap) hst1 (by decide))
   have hbelB : Below G w (w1.setCell ⟨G, 2, none⟩ (.slice (some ⟨g, 0, none⟩) m.nb cap)) := (Hbel.out.grown hgrow (Nat.le_of_lt hGr) (fun q hq => by simp [Value.ownBlock] at hq)).setCell (Nat.le_refl _) _
   have HstB := hidI hstB
   have HownB := hidI hownB
   have HdatB := hidI hdatB
   have HbelB := hidI hbelB
   have hmb := Hh.out _ hbelB
   have b3 := MemX.c3 hmb
   have hrb := hmb.bad
   have hGb : G < (w1.setCell ⟨G, 2, none⟩ (.slice (some ⟨g, 0, none⟩) m.nb cap)).heap.size := lt_of_heap hstB
   clear hstB hownB hdatB hbelB hmb hst1 hown hown1 hgrow hat K1 Hst Hdat Hbel hrn a1
   go_wp2_with (at_builtin; refine wpList_append_lies _ rfl _ _ 72 rfl G 4 l0 (.bool false) 1 1 Tryz.underlying72 li lz0 lz1 lz2 rfl (by decide) (.slice none 0 0) 0 [] rfl (World.ownsRow_nil _ _ _ _) ⟨L.bk, 0, none⟩ m.nb L.ck ((List.range m.nb).map fun i => .bool (m.bd i)) rfl ?c0 ?c1 ?c2 ?c3 ?c4 ?c5 ?c6 (w1.setCell ⟨G, 2, none⟩ (.slice (some ⟨g, 0, none⟩) m.nb cap)).heap.size rfl ?_)
   case c0 => simp
   case c1 => exact hrb.news
   case c2 => intro u hu; simp at hu; obtain ⟨p, _, rfl⟩ := hu; rfl
   case c3 => omega
   case c4 => unfold maxLen; omega
   case c5 => omega
   case c6 => omega
   intro g3 cap3 w3 hown hgrow hat hlt3
   have hown1 : w3.ownsRow G 4 1 (.slice (some ⟨g3, 0, none⟩) m.nb cap3) m.nb ((List.range m.nb).map fun i => .bool (m.bd i)) := (by simpa using hown)
   have K1 : ∀ t, Keeps t (w1.setCell ⟨G, 2, none⟩ (.slice (some ⟨g, 0, none⟩) m.nb cap)) w3 := fun t k x f e => hgrow.block k (lt_of_heap e) (by simp [Value.ownBlock])
   have hst1 := (K1 74).block HstB.out
   have y2 : w3.cell? ⟨G, 3, none⟩ = some (.slice (some ⟨L.bk, 0, none⟩) m.nb L.ck) := (by rw [cell_of_row w3 G 3 _ 74 (0, 0) hst1]; rfl)
   have yf := frozen_of_row w3 G 3 _ 74 hst1
   have hstD := heap_setCell_same w3 G 3 _ 74 (.slice (some ⟨g3, 0, none⟩) m.nb cap3) hst1
   have hownD := ((Keeps.refl 4 w3).set (o := 3) (v := .slice (some ⟨g3, 0, none⟩) m.nb cap3) hst1 (by decide)).own hown1
   have hownN := ((K1 3).set (o := 3) (v := .slice (some ⟨g3, 0, none⟩) m.nb cap3) hst1 (by decide)).own HownB.out
   have hdatD := HdatB.out.keep ((K1 9).set (o := 3) (v := .slice (some ⟨g3, 0, none⟩) m.nb cap3) hst1 (by decide)) ((K1 40).set (o := 3) (v := .slice (some ⟨g3, 0, none⟩) m.nb cap3) hst1 (by decide))
   have hbelD : Below G w (w3.setCell ⟨G, 3, none⟩ (.slice (some ⟨g3, 0, none⟩) m.nb cap3)) := (HbelB.out.grown hgrow (Nat.le_of_lt hGb) (fun q hq => by simp [Value.ownBlock] at hq)).setCell (Nat.le_refl _) _
   have HE := hidI (MemX.built (T := 74) (enc := id) (g4 := m.life) (g5 := m.cut) (g6 := m.fail) (g7 := m.part) (by omega : 0 < m.nb) (by decide) (Nat.le_refl G) hstD hdatD (fun i p _ _ => rfl) hownN hownD)
   have HbelD := hidI hbelD
   clear hown1 hstD hownD hownN hdatD hbelD HstB HbelB HdatB HownB hst1 K1 hown hgrow hat z2 zf b3 hrb
   go_wp2
   go_ret
   obtain ⟨L', hL⟩ := HE.out
   rw [← HGe.out]
   exact ⟨L', rfl, hL, HbelD.out⟩
end Go.Proofs.YtodmdkhdbfbfgaaGreatDoor.S1
namespace Go.Proofs.YtodmdkhdbfbfgaaGreatDoor
open Go.RowKit Go.Nt
set_option linter.unusedVariables false
set_option linter.unusedSimpArgs false
theorem weigh_order (l : List It) : weigh (inOrder l) = weigh l := ((order_perm l).map _).sum_nat
theorem dirAt_order (l : List It) (p : Bs) : dirAt (inOrder l) p = dirAt l p := by
 unfold dirAt
 rw [Bool.eq_iff_iff, List.any_eq_true, List.any_eq_true]
 exact ⟨fun ⟨x, hx, h⟩ => ⟨x, order_mem.1 hx, h⟩, fun ⟨x, hx, h⟩ => ⟨x, order_mem.2 hx, h⟩⟩
theorem TreeP.order {l : List It} (h : TreeP l) : TreeP (inOrder l) :=
 ⟨by rw [order_length]; exact h.len, fun x hx => h.ok x (order_mem.1 hx), (((order_perm l).map _).nodup_iff).2 h.nodup, fun x hx => by rw [dirAt_order]; exact h.up x (order_mem.1 hx)⟩
theorem txtF_len {ps : List Fp} (h : ∀ f ∈ ps, f.text.length = 51) : (txtF ps).length = ps.length * 51 := by
 induction ps with
 | nil => rfl
 | cons f ps ih =>
   have h1 := ih (fun g hg => h g (by simp [hg]))
   have h2 := h f (by simp)
   unfold txtF at h1 ⊢
   simp only [List.map_cons, List.flatten_cons, List.length_append, List.length_cons, h1, h2]
   omega
def MtdP (l : List It) (lo hi : Nat) (w : World) (e : Ending) (w' : World) : Prop :=
 ∃ fb xb lb tb, e = .returned (.tuple #[.pointer (some ⟨fb, 0, none⟩), .pointer (some ⟨xb, 0, none⟩)]) ∧ FsAt w' fb xb lb tb ∧ TreeAt w' tb (inOrder l) ∧ w.heap.size ≤ fb ∧ S1.Only lo hi w w'
theorem mounted_new {u : Bs → Option Bs} (hP : PackC u) (a : Option Addr) (c : Nat) (l : List It) (w : World) (lo hi cb : Nat) (L : S1.Loc) (m : S1.M) (hm : S1.New m) (h : S1.CP w lo hi cb L m) (hsz : hi ≤ w.heap.size) (hml : ML w) (hmlo : 0 < lo) (hl : ItsIn w a l) (ht : TreeP l) (hroom : pagesN (weigh l + 1) ≤ S1.roomP m) :
 Calls Tryz.prog 11 #[.pointer (some ⟨cb, 0, none⟩), .slice a l.length c] w fun e w' => MtdP l lo hi w e w' := by
 have hfit : ∀ x ∈ l, Fit x := fun x hx => okItem_fit (ht.ok x hx)
 have A := hidI (build_any hP a c l w lo hi cb L m hm.wf h hsz hml hmlo hl (by have := ht.len; omega) (fun x hx => by have := (hfit x hx).p; omega) (fun x hx => by have := (hfit x hx).d; omega))
 have Hml := hidI hml
 unfold MtdP
 clear h hml hl
 go_enter Tryz.func11, Tryz.ntmps11
 go_wp2_with fail
 refine A.out.mono ?_
 rintro e w1 (⟨hno, _⟩ | ⟨hyes, t, hT, rfl, hC1, hO1⟩)
 ·rw [(isTree_iff l).2 ht] at hno; cases hno
 have htp := isText_pos hT
 have htl := isText_len hT
 rw [weigh_order] at htl
 have hmay : S1.mayE m t.length = 0 := by
  unfold S1.mayE
  rw [if_neg (by rw [hm.life]; decide), if_neg]
  have : pagesN t.length ≤ pagesN (weigh l + 1) := by unfold pagesN; exact Nat.div_le_div_right (by omega)
  omega
 obtain ⟨hr0, hwf1, hlf1, blk, hlook, hlab⟩ := hm.renew htp hmay
 obtain ⟨m1, hm1⟩ : ∃ m1, m1 = (S1.renA m t).2 := ⟨_, rfl⟩
 rw [← hm1] at hwf1 hlf1 hlook hlab hC1
 rw [hr0]
 obtain ⟨bn, hbn⟩ : ∃ bn, bn = S1.badN m := ⟨_, rfl⟩
 rw [← hbn] at hlook hlab
 have hbn2 : bn ≤ 32 := by rw [hbn]; exact Nat.le_trans (S1.badN_le m) hm.wf.nb2
 have hrec := recF_whole htp hlook
 obtain ⟨z, hz⟩ := txtF_whole bn 1 t blk
 have hone : ∀ x y, hasL (scanF (S1.pgs m1) m1.np m1.nb) x y = (x == bn && y == 1) := fun x y => by
  rw [Bool.eq_iff_iff, hasL_iff]
  simp only [Bool.and_eq_true, beq_iff_eq]
  constructor
  ·rintro ⟨f, hf, rfl, rfl⟩
   exact hlab f hf
  ·rintro ⟨rfl, rfl⟩
   have h0 := hlook 0 (by unfold pagesN; omega)
   have h1 := lookF_some h0
   exact ⟨_, h1.1, h1.2.1, h1.2.2.1⟩
 have hpar : parse u (txtF ((List.range (pagesN t.length)).map fun j => fpR bn 1 t j (blk j))) = some (inOrder l) := by
  rw [hz]
  exact parse_back hT (fun x hx => hfit x (order_mem.1 hx)) (by rw [order_length]; have := ht.len; omega) z
 have hlen : (txtF ((List.range (pagesN t.length)).map fun j => fpR bn 1 t j (blk j))).length ≤ 1000000 := by
  rw [txtF_len]
  ·simp only [List.length_map, List.length_range]
   have h1 := S1.roomP_le hm.wf
   have : pagesN t.length ≤ pagesN (weigh l + 1) := by unfold pagesN; exact Nat.div_le_div_right (by omega)
   omega
  ·intro f hf
   simp at hf
   obtain ⟨k, _, rfl⟩ := hf
   unfold fpR
   simp
   omega
 have hsz1 : hi ≤ w1.heap.size := Nat.le_trans hsz hO1.size
 have hml1 : ML w1 := Hml.out.below (hO1.below (B := 1) hmlo (by have := Hml.out.lt; omega)) (by omega)
 have C := hidI (S1.copy_any w1 lo hi cb L m1 hwf1 hC1 hsz1)
 have HO1 := hidI hO1
 have Hml1 := hidI hml1
 have hlf : m1.life ≠ 0 := by rw [hlf1]; decide
 obtain ⟨ps, hps⟩ : ∃ ps, ps = (List.range (pagesN t.length)).map fun j => fpR bn 1 t j (blk j) := ⟨_, rfl⟩
 rw [← hps] at hrec hpar hlen
 have Hrec := hidI hrec
 have Hpar := hidI hpar
 have Hone := hidI hone
 have Hwf1 := hidI hwf1
 clear hlook hlab hz hC1 hO1 hml1 hps hrec hpar hone hm1 hbn hmay hT htp htl hwf1 hlf1 hr0 A hfit
 go_wp2_with fail
 refine C.out.mono ?_
 rintro e w2 ⟨L', rfl, hC2, hb2⟩
 obtain ⟨xb, hxb⟩ : ∃ xb, xb = w1.heap.size := ⟨_, rfl⟩
 have hml2 : ML w2 := Hml1.out.below hb2 Hml1.out.lt
 rw [← hxb] at hC2 ⊢
 have D := hidI (mount1 w2 xb w2.heap.size xb L' m1 Hwf1.out hC2 (Nat.le_refl _) hlf _ rfl bn 1 (by omega) (by omega) Hone.out ps Hrec.out (fun f hf => ⟨(scanF_ok hf).1, by have := (scanF_ok hf).2; have := Hwf1.out.nb2; omega⟩) hml2 hP (inOrder l) Hpar.out ((isTree_iff _).2 ht.order) hlen)
 have HO2 := hidI (HO1.out.trans (S1.Only.of_below hb2))
 clear hC2 hb2 hml2 C hxb
 go_wp2_with fail
 refine D.out.mono ?_
 rintro e w3 ⟨fb, lb, tb, ib, n, rfl, hF, hT, _, _, _, hfb, _, _, _, hb3⟩
 have HF := hidI hF
 have HT := hidI hT
 have HO3 := hidI (HO2.out.trans (S1.Only.of_below hb3))
 have hw2 := HO2.out.size
 clear hF hT hb3 D
 go_wp2_with fail
 go_ret2
 exact ⟨fb, xb, lb, tb, rfl, HF.out, HT.out, by omega, HO3.out⟩
end Go.Proofs.YtodmdkhdbfbfgaaGreatDoor
namespace Go.Proofs.YtodmdkhdbfbfgaaGreatDoor
open Go.RowKit Go.Nt
set_option linter.unusedVariables false
def slashes (p : Bs) : Nat := p.countP fun c => c == 47
theorem root_names : ∀ p ∈ names, (par p = []) = (slashes p = 0) := by decide
theorem names_ne : ∀ p ∈ names, p ≠ [] := by decide
theorem no_name : ([110, 111] : Bs) ∉ names := by decide
theorem TreeP.enter {l : List It} (h : TreeP l) {x : It} (hx : x ∈ l) : enterE l x.path = 0 := by
 by_cases he : enterE l x.path = 0
 ·exact he
 ·have := tree_enter h.ok h.nodup hx he
  rw [(isTree_iff l).2 h] at this; cases this
theorem TreeP.reach {l : List It} (h : TreeP l) {x : It} (hx : x ∈ l) (hp : okPath x.path = true) : findE l x.path = 0 := by
 have h1 : reachE l x.path = 0 := by unfold reachE; rw [hp, if_pos rfl]; exact h.enter hx
 unfold findE
 rw [if_pos h1, at_mem h.nodup hx]
 rfl
section
variable {l : List It}
theorem KT.okp (h : KT l) {x : It} (hx : x ∈ l) : okPath x.path = true := ok_names _ (h.item x hx).1
theorem KT.fileE (h : KT l) {x : It} (hx : x ∈ l) : fileE (inOrder l) x.path = if x.dir then 6 else 0 := by
 have ht := h.tree.order
 have hx' := order_mem.2 hx
 have h1 := ht.reach hx' (h.okp hx)
 unfold YtodmdkhdbfbfgaaGreatDoor.fileE
 rw [if_pos h1, at_mem ht.nodup hx']
theorem KT.fileN (h : KT l) {x : It} (hx : x ∈ l) (hd : x.dir = false) : (fileN (inOrder l) x.path).data = x.data := by
 have ht := h.tree.order
 have hx' := order_mem.2 hx
 unfold YtodmdkhdbfbfgaaGreatDoor.fileN
 rw [if_pos (by rw [h.fileE hx, hd]; rfl), at_mem ht.nodup hx']
 rfl
theorem KT.listE (h : KT l) {x : It} (hx : x ∈ l) : listE (inOrder l) x.path = if x.dir then 0 else 6 := by
 have ht := h.tree.order
 have hx' := order_mem.2 hx
 have h1 := ht.reach hx' (h.okp hx)
 unfold YtodmdkhdbfbfgaaGreatDoor.listE
 rw [if_neg (names_ne _ (h.item x hx).1), if_pos h1]
 unfold findN
 rw [if_pos h1, at_mem ht.nodup hx']
 rfl
theorem KT.root (h : KT l) : (listN (inOrder l) []).length = l.countP fun x => slashes x.path == 0 := by
 unfold listN
 rw [rise_length, List.length_map, List.filter_map, List.length_map, ← List.countP_eq_length_filter, (order_perm l).countP_eq]
 refine List.countP_congr fun x hx => ?_
 have := root_names x.path (h.item x hx).1
 simp only [Function.comp, decide_eq_true_eq, beq_iff_eq, this]
theorem KT.no (h : KT l) : YtodmdkhdbfbfgaaGreatDoor.fileE (inOrder l) [110, 111] = 4 := by
 have h1 : reachE (inOrder l) [110, 111] = 0 := by
  unfold reachE
  rw [if_pos (by decide)]
  rfl
 have h2 : at? (inOrder l) [110, 111] = none := at_none.2 fun x hx e => no_name (e ▸ (h.item x (order_mem.1 hx)).1)
 have h3 : findE (inOrder l) [110, 111] = 4 := by
  unfold findE
  rw [if_pos h1, h2]
  rfl
 unfold YtodmdkhdbfbfgaaGreatDoor.fileE
 rw [if_neg (by rw [h3]; decide), h3]
end
end Go.Proofs.YtodmdkhdbfbfgaaGreatDoor
namespace Go.Proofs.YtodmdkhdbfbfgaaGreatDoor
open Go.RowKit Go.Nt
set_option linter.unusedVariables false
def TreeR (w : World) (e : Ending) (w' : World) : Prop := ∃ v l, e = .returned v ∧ KT l ∧ w'.ownsRow w.heap.size 39 5 v l.length (its l) ∧ Below w.heap.size w w'
theorem tree_any (a : Option Addr) (n cap : Nat) (z : Nat → Int) (w : World) (hn : n ≤ 9223372036854775807) (hin : S1.IntsIn w a n z) (hz : ∀ k, k < n → -9223372036854775808 ≤ z k ∧ z k ≤ 9223372036854775807) :
 Calls Tryz.prog 9 #[.slice a n cap] w fun e w' => TreeR w e w' := by
 obtain ⟨i0, hi, hz0, hz1, hz2⟩ := info_parts Tryz.info24
 have Hin := hidI hin
 have Hz := hidI hz
 clear hin hz
 have Hown0 := hidI (kt0_own w)
 have Hb0 : Hid (Below w.heap.size w (w.alloc (.cells (its kt0).toArray 39))) := hidI ((Below.refl _ w).alloc (Nat.le_refl _) _)
 obtain ⟨W0, hW0⟩ : ∃ W0, W0 = w.alloc (.cells (its kt0).toArray 39) := ⟨_, rfl⟩
 rw [← hW0] at Hown0 Hb0
 have HW0 : Hid (W0 = w.alloc (.cells #[.string ⟨#[100]⟩, .bool true, .string ⟨#[]⟩, .int .i64 5, .int .i64 0, .string ⟨#[100, 47, 101]⟩, .bool true, .string ⟨#[]⟩, .int .i64 0, .int .i64 0, .string ⟨#[102]⟩, .bool true, .string ⟨#[]⟩, .int .i64 0, .int .i64 9] 39)) := hidI hW0
 clear hW0
 go_enter Tryz.func9, Tryz.ntmps9
 go_wp2_with (first | (rw [← HW0.out]) | fail)
 go_loopw [3, 4] (fun v i wr => ∃ (k : Nat) (l : List It), k ≤ 30 ∧ i = .int .i64 k ∧ Hid (KT l) ∧ Hid (wr.ownsRow w.heap.size 39 5 v l.length (its l)) ∧ Hid (Below w.heap.size w wr)) (fun _ i _ => 40 - (intOf i).toNat)
 case atStart => exact ⟨0, kt0, by omega, rfl, hidI kt0_ok, Hown0, Hb0⟩
 case round =>
  clear Hown0 Hb0 HW0 W0
  obtain ⟨k, l, hk, rfl, HK, HO, HB⟩ := hrel
  by_cases hlt : k + 2 < n ∧ k < 27
  ·obtain ⟨h1, h2⟩ := hlt
   have h1' : (k : Int) + 2 < (n : Int) := by omega
   have h2' : (k : Int) < 27 := by omega
   obtain ⟨b, off, rfl, hc⟩ := (Hin.out.below HB.out) (by omega)
   have c0 := hc k (by omega)
   have c1 := hc (k + 1) (by omega)
   have c2 := hc (k + 2) (by omega)
   have hbw : b < w.heap.size := by
    obtain ⟨b', off', e, hc'⟩ := Hin.out (by omega)
    cases e
    exact World.block_lt_of_cell? w _ (hc' 0 (by omega))
   obtain ⟨z00, z01⟩ := Hz.out k (by omega)
   obtain ⟨z10, z11⟩ := Hz.out (k + 1) (by omega)
   obtain ⟨z20, z21⟩ := Hz.out (k + 2) (by omega)
   obtain ⟨x0, hx0⟩ : ∃ x, x = z k := ⟨_, rfl⟩
   obtain ⟨x1, hx1⟩ : ∃ x, x = z (k + 1) := ⟨_, rfl⟩
   obtain ⟨x2, hx2⟩ : ∃ x, x = z (k + 2) := ⟨_, rfl⟩
   rw [← hx0] at c0 z00 z01
   rw [← hx1] at c1 z10 z11
   rw [← hx2] at c2 z20 z21
   clear hc hx0 hx1 hx2
   have HN := hidI (name_any x0 wr z00 z01)
   obtain ⟨aL, cL, rfl, hits⟩ := own_in HO.out
   have hl12 := HK.out.len
   obtain ⟨L, hL⟩ : ∃ L, L = l.length := ⟨_, rfl⟩
   rw [← hL] at HO hl12 ⊢
   have HL := hidI hL
   have Hits := hidI hits
   have hwsz := HB.out.size
   clear hL hits
   go_wp2_with fail
   refine HN.out.mono ?_
   rintro e w1 ⟨p, rfl, hp, hb1⟩
   have Hp := hidI hp
   have HF := hidI (folder_any p w1)
   obtain ⟨f, hf⟩ : ∃ f, f = folderB p := ⟨_, rfl⟩
   rw [← hf] at HF
   have Hf := hidI hf
   have HO1 : Hid (w1.ownsRow w.heap.size 39 5 (.slice aL L cL) L (its l)) := hidI (own_below HO.out hb1 fun q hq => (HO.out.lt q hq).2)
   have HB1 : Hid (Below w.heap.size w w1) := hidI (HB.out.trans (hb1.mono hwsz))
   have Hits1 : Hid (ItsIn w1 aL l) := hidI (Hits.out.below hb1)
   have d1 : w1.cell? ⟨b, off + (k + 1), none⟩ = some (.int .i64 x1) := by rw [hb1.cell (p := ⟨b, off + (k + 1), none⟩) (Nat.lt_of_lt_of_le hbw hwsz)]; exact c1
   have d2 : w1.cell? ⟨b, off + (k + 2), none⟩ = some (.int .i64 x2) := by rw [hb1.cell (p := ⟨b, off + (k + 2), none⟩) (Nat.lt_of_lt_of_le hbw hwsz)]; exact c2
   have hs1 := HB1.out.size
   clear hp hf hb1 HN c0 c1 c2 HO HB Hits hwsz
   go_wp2_with fail
   refine HF.out.mono ?_
   rintro e w' ⟨rfl, hw⟩
   have hw' := hw.symm
   subst hw'
   clear hw HF
   obtain ⟨X, hX⟩ : ∃ X, X = txt p := ⟨_, rfl⟩
   have HX := hidI hX
   rw [← hX]
   clear hX
   go_wp2_with fail
   go_loopw [6, 7] (fun t i wx => wx = w1 ∧ ∃ (j : Nat) (y : Bool), j ≤ L ∧ i = .int .i64 j ∧ t = .bool y ∧ Hid (y = true ↔ f = true ∨ ∃ q ∈ l.take j, q.path = p)) (fun _ i _ => L - (intOf i).toNat)
   case atStart => exact ⟨rfl, 0, f, by omega, rfl, rfl, hidI (by simp)⟩
   case round =>
    obtain ⟨rfl, j, y, hj, rfl, rfl, Hy⟩ := hrel
    by_cases hjl : j < L
    ·obtain ⟨q, hq⟩ : ∃ q, l[j]? = some q := ⟨_, List.getElem?_eq_getElem (by have := HL.out; omega)⟩
     have Hq := hidI hq
     have htk : l.take (j + 1) = l.take j ++ [q] := by rw [List.take_add_one, hq]; rfl
     cases y with
     | true =>
       have Hy2 : Hid (true = true ↔ f = true ∨ ∃ q ∈ l.take (j + 1), q.path = p) := hidI ⟨fun _ => (Hy.out.1 rfl).imp id (fun ⟨q', h, e⟩ => ⟨q', by rw [htk]; exact List.mem_append_left _ h, e⟩), fun _ => rfl⟩
       clear hq htk
       go_wp2
       go_roundw
       case rel => exact ⟨trivial, j + 1, true, by omega, by go_num, rfl, Hy2⟩
       case measure => simp [intOf]; omega
     | false =>
       obtain ⟨g, o, rfl, hc⟩ := Hits1.out (fun h => by rw [h] at hq; simp at hq)
       obtain ⟨q0, _, _, _, _⟩ := hc j q hq
       obtain ⟨Y, hY⟩ : ∃ Y, Y = txt q.path := ⟨_, rfl⟩
       have hcmp : (Y.toList == X.toList) = decide (q.path = p) := by rw [hY, HX.out, txt_toList, txt_toList]; exact (by rw [Bool.eq_iff_iff]; simp)
       rw [← hY] at q0
       obtain ⟨t, ht⟩ : ∃ t, t = decide (q.path = p) := ⟨_, rfl⟩
       rw [← ht] at hcmp
       have Hy2 : Hid (t = true ↔ f = true ∨ ∃ q ∈ l.take (j + 1), q.path = p) := hidI (by
        have h := Hy.out
        rw [htk, ht]
        constructor
        ·intro e
         exact .inr ⟨q, by simp, by simpa using e⟩
        ·rintro (e | ⟨q', h1, e⟩)
         ·exact absurd (h.2 (.inl e)) (by simp)
         ·rcases List.mem_append.1 h1 with h1 | h1
          ·exact absurd (h.2 (.inr ⟨q', h1, e⟩)) (by simp)
          ·simp at h1
           subst h1
           simpa using e)
       clear hq htk hc hY ht Hy
       go_wp2
       go_roundw
       case rel => exact ⟨trivial, j + 1, t, by omega, by go_num, rfl, Hy2⟩
       case measure => simp [intOf]; omega
    ·have hjL : j = L := by omega
     subst hjL
     have Hy2 : Hid (y = true ↔ f = true ∨ ∃ q ∈ l, q.path = p) := hidI (by have h := Hy.out; rwa [HL.out, List.take_length] at h)
     clear Hy
     cases y with
     | true =>
       go_wp2
       go_roundw
       case rel => exact ⟨k + 3, l, by omega, by go_num, HK, by rw [← HL.out]; exact HO1, HB1⟩
       case measure => simp [intOf]; omega
     | false =>
       have HBt := hidI (fun V : World => bytes_any x1 x2 V z10 z11 z20 z21)
       have HPa := hidI (fun V : World => pick_any x1 4096 V z10 z11 (by decide) (by decide))
       have HPb := hidI (fun V : World => pick_any x2 2147483647 V z20 z21 (by decide) (by decide))
       have ha1 := pickF_lt x1 4096 (by decide)
       have hb1 := pickF_lt x2 2147483647 (by decide)
       obtain ⟨m, hm⟩ : ∃ m, m = pickF x1 4096 := ⟨_, rfl⟩
       obtain ⟨t, ht⟩ : ∃ t, t = pickF x2 2147483647 := ⟨_, rfl⟩
       rw [← hm] at HPa ha1
       rw [← ht] at HPb hb1
       have hbr : b < wr.heap.size := by omega
       have e1 : (k : Int) + 1 < (n : Int) := by omega
       have g1 : IntKind.i64.wrap ((k : Int) + 1) = (k : Int) + 1 := by rw [IntKind.wrap_i64]; omega
       have g2 : IntKind.i64.wrap ((k : Int) + 2) = (k : Int) + 2 := by rw [IntKind.wrap_i64]; omega
       have g3 : (0 : Int) ≤ (k : Int) + 1 := by omega
       have g4 : (0 : Int) ≤ (k : Int) + 2 := by omega
       have g5 : ((k : Int) + 1).toNat = k + 1 := by omega
       have g6 : ((k : Int) + 2).toNat = k + 2 := by omega
       have HBd : Hid (Below w.heap.size w wr.drew) := hidI HB1.out.drew
       clear hm ht
       go_wp2_with fail
       go_region_held3 (fun V => Hid (Below w.heap.size w V) ∧ V.cell? ⟨b, off + (k + 1), none⟩ = some (.int .i64 x1) ∧ V.cell? ⟨b, off + (k + 2), none⟩ = some (.int .i64 x2)) (first | go_keep | fail) (first
        | (go_at_call 35; refine (HBt.out _).mono ?_; rintro e V ⟨d, rfl, hd, hbV⟩; have HBV : Hid (Below w.heap.size w V) := hidI (HBd.out.trans (hbV.mono hs1)); have f1 : V.cell? ⟨b, off + (k + 1), none⟩ = some (.int .i64 x1) := (by rw [hbV.cell (p := ⟨b, off + (k + 1), none⟩) hbr]; exact d1); have f2 : V.cell? ⟨b, off + (k + 2), none⟩ = some (.int .i64 x2) := (by rw [hbV.cell (p := ⟨b, off + (k + 2), none⟩) hbr]; exact d2); have HOV : Hid (V.ownsRow w.heap.size 39 5 (.slice aL j cL) j (its l)) := hidI (own_below HO1.out.drew hbV fun q hq => (HO1.out.lt q hq).2); have hsV : wr.heap.size ≤ V.heap.size := hbV.size; have HBVa : ∀ o, Hid (Below w.heap.size w (V.alloc o)) := (fun o => hidI (HBV.out.alloc (by omega) o)); have f1a : ∀ o, (V.alloc o).cell? ⟨b, off + (k + 1), none⟩ = some (.int .i64 x1) := (fun o => (World.cell?_of_block (w := V) (a := ⟨b, off + (k + 1), none⟩) (Below.heap_alloc V o b (by omega))).trans f1); have f2a : ∀ o, (V.alloc o).cell? ⟨b, off + (k + 2), none⟩ = some (.int .i64 x2) := (fun o => (World.cell?_of_block (w := V) (a := ⟨b, off + (k + 2), none⟩) (Below.heap_alloc V o b (by omega))).trans f2); have Hd := hidI hd; clear hd hbV)
        | (go_at_call_of 18 (Value.int .i64 x1); refine (HPa.out _).mono ?_; rintro e w' ⟨rfl, hw⟩; have hw' := hw.symm; subst hw'; clear hw)
        | (go_at_call_of 18 (Value.int .i64 x2); refine (HPb.out _).mono ?_; rintro e w' ⟨rfl, hw⟩; have hw' := hw.symm; subst hw'; clear hw)
        | (refine step_append_lies _ (by rfl) _ _ _ (by rfl) w.heap.size 39 i0 _ 5 56 Tryz.underlying26 hi hz0 hz1 hz2 rfl (by omega) (.slice aL j cL) j _ (by rfl) (HOV.out.alloc _) ⟨V.heap.size, 0, none⟩ 1 1 [.string X, .bool false, .string (txt d), .int .i64 (m : Nat), .int .i64 (t : Nat)] (by rfl) rfl (World.news_of_block (heap_alloc_new V _)) (by intro u hu; simp at hu; rcases hu with rfl | rfl | rfl | rfl | rfl <;> rfl) (by omega) (by unfold maxLen; omega) (by omega) (by simp; omega) (V.heap.size + 1) (by simp) ?_; intro g2 cap2 w2 hown2 hgrow2 hat2 hlt2; have HB2 : Hid (Below w.heap.size w w2) := hidI ((HBVa _).out.grown hgrow2 (by simp; omega) (fun q hq => (HOV.out.lt q hq).1)); have k1 : w2.cell? ⟨b, off + (k + 1), none⟩ = some (.int .i64 x1) := (by rw [hgrow2.cell_far ⟨b, off + (k + 1), none⟩ (by simp; omega) (by intro h; have := (HOV.out.lt b h.symm).1; omega)]; exact f1a _); have k2 : w2.cell? ⟨b, off + (k + 2), none⟩ = some (.int .i64 x2) := (by rw [hgrow2.cell_far ⟨b, off + (k + 2), none⟩ (by simp; omega) (by intro h; have := (HOV.out.lt b h.symm).1; omega)]; exact f2a _); have HO2 := hidI hown2; clear hown2 hgrow2 hat2 hlt2))
       rename_i hHeld
       clear hHeld f1 f2 f1a f2a k1 k2 d1 d2
       have HK2 : Hid (KT (l ++ [⟨p, false, d, (m : Nat), (t : Nat)⟩])) := hidI (HK.out.add Hp.out (by rw [← Hf.out]; cases f with | false => rfl | true => exact absurd (Hy2.out.2 (.inl rfl)) (by simp)) (fun x hx e => absurd (Hy2.out.2 (.inr ⟨x, hx, e⟩)) (by simp)) Hd.out (by omega) (by omega) (by omega) (by omega))
       have HO3 : Hid (w2.ownsRow w.heap.size 39 5 (.slice (some ⟨g2, 0, none⟩) (j + 1) cap2) (l ++ [(⟨p, false, d, (m : Nat), (t : Nat)⟩ : It)]).length (its (l ++ [⟨p, false, d, (m : Nat), (t : Nat)⟩]))) := hidI (by
        have h := HO2.out
        rw [HX.out] at h
        rw [its_append, its_one, List.length_append, ← HL.out]
        exact h)
       clear HO2
       go_wp2
       go_roundw
       case rel => exact ⟨k + 3, _, by omega, by go_num, HK2, HO3, HB2⟩
       case measure => simp [intOf]; omega
  ·obtain ⟨aL, cL, rfl, hits⟩ := own_in HO.out
   clear hits
   by_cases hq : k + 2 < n
   ·have h2' : ¬ (k : Int) < 27 := by omega
    have h1' : (k : Int) + 2 < (n : Int) := by omega
    go_wp2
    go_ret
    exact ⟨_, l, rfl, HK.out, HO.out, HB.out⟩
   ·have h1' : ¬ (k : Int) + 2 < (n : Int) := by omega
    go_wp2
    go_ret
    exact ⟨_, l, rfl, HK.out, HO.out, HB.out⟩
end Go.Proofs.YtodmdkhdbfbfgaaGreatDoor
