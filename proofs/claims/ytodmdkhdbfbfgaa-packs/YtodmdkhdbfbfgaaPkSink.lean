/- What the queue of package pack does: sink. -/
import Derived.Test.YtodmdkhdbfbfgaaPkRise
namespace Go.Proofs.Ytodmdkhdbfbfgaa
open Go.RowKit Pk
set_option linter.unusedVariables false
set_option linter.unusedSimpArgs false

/-- What is known of a queue that is not empty. -/
theorem QM.look {w : World} {B qb : Nat} {xs : List Ent} {pu n : Nat} (h : QM w B qb xs pu) (hn : n = xs.length) (h0 : 0 < n) : ∃ r cap, B ≤ r ∧ n ≤ cap ∧ qb ≠ r ∧ w.heap[qb]? = some (.cells #[.slice (some ⟨r, 0, none⟩) n cap, .int .i64 (pu : Nat)] 120 (0, 0)) ∧
    w.ownsRow B 123 3 (.slice (some ⟨r, 0, none⟩) n cap) n (entCells xs) ∧ w.cell? ⟨qb, 0, none⟩ = some (.slice (some ⟨r, 0, none⟩) n cap) ∧
    (∀ i, i < n → ∀ e, e = xs.getD i noEnt → w.cell? ⟨r, i * 3, none⟩ = some (.int .i64 (e.wt : Nat)) ∧ w.cell? ⟨r, i * 3 + 1, none⟩ = some (.int .i64 (e.tn : Nat)) ∧ w.cell? ⟨r, i * 3 + 2, none⟩ = some (.slice (some ⟨e.b, 0, none⟩) e.n e.c)) ∧ (∀ j, w.frozen? ⟨r, j, none⟩ = false) := by
  subst hn
  obtain ⟨v, hst, hown⟩ := h.st
  obtain ⟨r, cap, rfl, hr, hcap⟩ := own_form3 hown h0
  refine ⟨r, cap, hr, hcap, ?_, hst, hown, ?_, ?_, fun j => hown.frozenAt j⟩
  · intro e; subst e
    obtain ⟨_, _, hk⟩ := Lib.ownsRow_kind hown qb rfl
    rw [hst] at hk; simp at hk
  · rw [cell_of_row w qb 0 _ 120 (0, 0) hst]; rfl
  · intro i hi e he
    subst he
    obtain ⟨g1, g2, g3⟩ := entCells_get xs i hi
    rw [hown.cellAt (i * 3) (by omega), hown.cellAt (i * 3 + 1) (by omega), hown.cellAt (i * 3 + 2) (by omega), Nat.mul_comm i 3]
    exact ⟨g1, g2, g3⟩

theorem QM.len {w : World} {B qb : Nat} {xs : List Ent} {pu n : Nat} (h : QM w B qb xs pu) (hn : n = xs.length) : ∃ a cap, w.cell? ⟨qb, 0, none⟩ = some (.slice a n cap) := by
  subst hn
  obtain ⟨v, hst, hown⟩ := h.st
  have : ∃ a c, v = .slice a xs.length c := by
    rcases hown.2 with ⟨rfl, h0⟩ | ⟨g, cap, cur, rfl, _⟩
    · rw [h0]; exact ⟨_, _, rfl⟩
    · exact ⟨_, _, rfl⟩
  obtain ⟨a, c, rfl⟩ := this
  exact ⟨a, c, by rw [cell_of_row w qb 0 _ 120 (0, 0) hst]; rfl⟩

/-- Two entries change places. -/
theorem swap_mem {a W : World} {B qb r cap n pu i j : Nat} {xs : List Ent} {ei ej : Ent} (hB : B ≤ qb) (hn : n = xs.length) (hf : Fr B a W) (hqr : qb ≠ r) (hst : W.heap[qb]? = some (.cells #[.slice (some ⟨r, 0, none⟩) n cap, .int .i64 (pu : Nat)] 120 (0, 0))) (hown : W.ownsRow B 123 3 (.slice (some ⟨r, 0, none⟩) n cap) n (entCells xs))
    (hi : ei = xs.getD i noEnt) (hj : ej = xs.getD j noEnt) : QM (setEnt (setEnt W r i ej) r j ei) B qb (swp xs i j) pu ∧ Fr B a (setEnt (setEnt W r i ej) r j ei) := by
  have hs1 := setEnt_own hown i ej
  have hs2 := setEnt_own hs1 j ei
  have hfr : Fr B a (setEnt (setEnt W r i ej) r j ei) := setEnt_fr (v := .slice none 0 0) (setEnt_fr (v := .slice none 0 0) hf hown i ej) hs1 j ei
  have hsw : (xs.set i ej).set j ei = swp xs i j := by unfold swp; rw [hi, hj]
  have hbl : (setEnt (setEnt W r i ej) r j ei).heap[qb]? = W.heap[qb]? := (setEnt_block _ _ _ _ _ hqr).trans (setEnt_block _ _ _ _ _ hqr)
  rw [hsw] at hs2
  exact ⟨QM.make hB (hbl.trans hst) (by rw [swp_length, hn]) hs2, hfr⟩

/-- .. and all blocks but the queue's own two. -/
structure Fr2 (qb B : Nat) (w w' : World) : Prop where
  fr : Fr B w w'
  own : w'.heap[qb]? = w.heap[qb]?
  far : ∀ k, k < w.heap.size → k ≠ qb → (∀ n cap, w.cell? ⟨qb, 0, none⟩ ≠ some (.slice (some ⟨k, 0, none⟩) n cap)) → w'.heap[k]? = w.heap[k]?

theorem Fr2.refl (qb B : Nat) (w : World) : Fr2 qb B w w := ⟨Fr.refl _ _, rfl, fun _ _ _ _ => rfl⟩
theorem Fr2.size {qb B : Nat} {a b : World} (h : Fr2 qb B a b) (hB : B ≤ a.heap.size) : B ≤ b.heap.size := h.fr.size hB
theorem Fr2.drew {qb B : Nat} {a b : World} (h : Fr2 qb B a b) : Fr2 qb B a b.drew := ⟨h.fr.drew, h.own, h.far⟩
theorem Fr2.alloc2 {qb B : Nat} {a b : World} (h : Fr2 qb B a b) (hB : B ≤ b.heap.size) (hq : qb < b.heap.size) (o1 o2 : Obj) : Fr2 qb B a ((b.alloc o1).alloc o2).drew :=
  ⟨((h.fr.alloc hB o1).alloc (by simp; omega) o2).drew, (alloc2_keep b o1 o2 qb hq).trans h.own, fun k h1 h2 h3 => (alloc2_keep b o1 o2 k (Nat.lt_of_lt_of_le h1 h.fr.bel.size)).trans (h.far k h1 h2 h3)⟩
theorem Fr2.swap {a W : World} {B qb r cap n pu i j : Nat} {ei ej : Ent} (h : Fr2 qb B a W) (hf : Fr B a (setEnt (setEnt W r i ej) r j ei)) (hqr : qb ≠ r) (hst : W.heap[qb]? = some (.cells #[.slice (some ⟨r, 0, none⟩) n cap, .int .i64 (pu : Nat)] 120 (0, 0))) : Fr2 qb B a (setEnt (setEnt W r i ej) r j ei) := by
  refine ⟨hf, ((setEnt_block _ _ _ _ _ hqr).trans (setEnt_block _ _ _ _ _ hqr)).trans h.own, fun k h1 h2 h3 => ?_⟩
  have hk : k ≠ r := by
    intro e; subst e
    refine h3 n cap ?_
    have : W.cell? ⟨qb, 0, none⟩ = some (.slice (some ⟨k, 0, none⟩) n cap) := by rw [cell_of_row W qb 0 _ 120 (0, 0) hst]; rfl
    rw [← this]
    exact (World.cell?_of_block h.own).symm
  exact ((setEnt_block _ _ _ _ _ hk).trans (setEnt_block _ _ _ _ _ hk)).trans (h.far k h1 h2 h3)
theorem QM.lt {w : World} {B qb : Nat} {es : List Ent} {pu : Nat} (h : QM w B qb es pu) : qb < w.heap.size := by
  obtain ⟨v, h1, h2⟩ := h.st
  exact lt_of_heap h1

set_option maxRecDepth 100000 in
set_option maxHeartbeats 4000000 in
theorem sink_any (w : World) (B qb : Nat) (es : List Ent) (pu : Nat) (hB : B ≤ w.heap.size) (hes : es.length ≤ 1000) (hsi : SI es 0) (h : QM w B qb es pu) :
    Calls Try.prog 94 #[.pointer (some ⟨qb, 0, none⟩)] w fun e w' => e = .returned (.tuple #[]) ∧ ∃ es', List.Perm es' es ∧ Pk.Heap es' ∧ QM w' B qb es' pu ∧ Fr2 qb B w w' := by
  have Hsi := hidI hsi
  have Hq := hidI h
  clear hsi h
  go_enter Try.func94, Try.ntmps94
  go_wp2
  go_loopw [2] (fun i wr => ∃ b : Nat, ∃ xs, i = .int .i64 (b : Nat) ∧ b ≤ xs.length ∧ xs.length = es.length ∧ Hid (SI xs b) ∧ Hid (List.Perm xs es) ∧ Hid (QM wr B qb xs pu) ∧ Hid (Fr2 qb B w wr)) (fun i _ => 1000 - (intOf i).toNat)
  case atStart => exact ⟨0, es, rfl, by omega, rfl, Hsi, List.Perm.refl _, Hq, Fr2.refl _ _ _⟩
  case round =>
    clear Hsi Hq
    obtain ⟨b, xs, rfl, hb, hlen, Hsi, Hp, Hq, Hf⟩ := hrel
    obtain ⟨n, hn⟩ : ∃ n, n = xs.length := ⟨_, rfl⟩
    have Hlen := hidI hlen
    have hn1000 : n ≤ 1000 := by omega
    rw [← hn] at hb
    have Hn := hidI hn
    clear hlen hn
    go_wp2
    go_loopw [4, 3] (fun i j wr' => ∃ c d : Nat, i = .int .i64 (c : Nat) ∧ j = .int .i64 (d : Nat) ∧ 2 * b + 1 ≤ c ∧ c ≤ 2 * b + 3 ∧ (d = b ∨ (2 * b + 1 ≤ d ∧ d < c ∧ d < n)) ∧ Hid (wa xs d ≤ wa xs b ∧ ∀ k, 2 * b + 1 ≤ k → k < c → k < n → wa xs d ≤ wa xs k) ∧ Hid (QM wr' B qb xs pu) ∧ Hid (Fr2 qb B w wr')) (fun i _ _ => 3000 - (intOf i).toNat)
    case atStart => exact ⟨2 * b + 1, b, by go_num, rfl, by omega, by omega, .inl rfl, ⟨Nat.le_refl _, by omega⟩, Hq, Hf⟩
    case round =>
      clear Hq Hf
      obtain ⟨c, d, rfl, rfl, hc1, hc2, hd, Hw, Hq, Hf⟩ := hrel
      have hqB := Hq.out.hB
      by_cases hg : c ≤ 2 * b + 2 ∧ c < n
      · obtain ⟨hg1, hg2⟩ := hg
        obtain ⟨r, cap, hr, hcap, hqr, hst, hown, x0, hcells, hfz⟩ := Hq.out.look Hn.out (by omega)
        have hdn : d < n := by omega
        obtain ⟨ec, hec⟩ : ∃ e, e = xs.getD c noEnt := ⟨_, rfl⟩
        obtain ⟨ed, hed⟩ : ∃ e, e = xs.getD d noEnt := ⟨_, rfl⟩
        obtain ⟨y1, y2, y3⟩ := hcells c hg2 ec hec
        obtain ⟨z1, z2, z3⟩ := hcells d hdn ed hed
        have Hec := hidI hec
        have Hed := hidI hed
        have gd1 : decide ((c : Int) ≤ 2 * (b : Int) + 2) = true := by simp; omega
        have gd2 : decide ((c : Int) < (n : Int)) = true := by simp; omega
        clear hcells hfz hst hown hec hed hcap
        go_wp2
        go_region_held3 (fun w' => w'.cell? ⟨qb, 0, none⟩ = some (.slice (some ⟨r, 0, none⟩) n cap) ∧ w'.cell? ⟨r, c * 3, none⟩ = some (.int .i64 (ec.wt : Nat)) ∧ w'.cell? ⟨r, c * 3 + 1, none⟩ = some (.int .i64 (ec.tn : Nat)) ∧ w'.cell? ⟨r, c * 3 + 2, none⟩ = some (.slice (some ⟨ec.b, 0, none⟩) ec.n ec.c) ∧ w'.cell? ⟨r, d * 3, none⟩ = some (.int .i64 (ed.wt : Nat)) ∧ w'.cell? ⟨r, d * 3 + 1, none⟩ = some (.int .i64 (ed.tn : Nat)) ∧ w'.cell? ⟨r, d * 3 + 2, none⟩ = some (.slice (some ⟨ed.b, 0, none⟩) ed.n ed.c)) (go_keep) (first | (go_at_call 96; refine (ahead_any _ ec.wt ec.tn ed.wt ed.tn (.slice (some ⟨ec.b, 0, none⟩) ec.n ec.c) (.slice (some ⟨ed.b, 0, none⟩) ed.n ed.c)).mono ?_; rintro e w' ⟨rr, rfl, ha1, ha2, o1, o2, rfl⟩))
        have Hq2 := hidI (Hq.out.of (alloc2_keep wr o1 o2))
        have Hf2 := hidI (Hf.out.alloc2 (Hf.out.size hB) Hq.out.lt o1 o2)
        rename_i hHeld
        clear hHeld x0 y1 y2 y3 z1 z2 z3 Hq Hf
        generalize ((wr.alloc o1).alloc o2).drew = W at *
        cases rr with
        | false =>
          have hle := ha2 (by trivial)
          have Hw2 : Hid (wa xs d ≤ wa xs b ∧ ∀ k, 2 * b + 1 ≤ k → k < c + 1 → k < n → wa xs d ≤ wa xs k) := ⟨Hw.out.1, fun k k1 k2 k3 => by
            by_cases e : k = c
            · subst e; unfold wa; rw [← Hec.out, ← Hed.out]; exact hle
            · exact Hw.out.2 k k1 (by omega) k3⟩
          clear ha1 ha2 hle Hw
          go_wp2
          go_roundw
          case rel => exact ⟨c + 1, d, by go_num, rfl, by omega, by omega, by omega, Hw2, Hq2, Hf2⟩
          case measure => simp [intOf]; omega
        | true =>
          have hle := ha1 (by trivial)
          have Hw2 : Hid (wa xs c ≤ wa xs b ∧ ∀ k, 2 * b + 1 ≤ k → k < c + 1 → k < n → wa xs c ≤ wa xs k) := by
            have hcd : wa xs c ≤ wa xs d := by unfold wa; rw [← Hec.out, ← Hed.out]; exact hle
            exact ⟨Nat.le_trans hcd Hw.out.1, fun k k1 k2 k3 => by
              by_cases e : k = c
              · subst e; exact Nat.le_refl _
              · exact Nat.le_trans hcd (Hw.out.2 k k1 (by omega) k3)⟩
          clear ha1 ha2 hle Hw
          go_wp2
          go_roundw
          case rel => exact ⟨c + 1, c, by go_num, rfl, by omega, by omega, by omega, Hw2, Hq2, Hf2⟩
          case measure => simp [intOf]; omega
      · obtain ⟨a0, cap0, hx⟩ := Hq.out.len Hn.out
        by_cases hg1 : c ≤ 2 * b + 2
        · have gd1 : decide ((c : Int) ≤ 2 * (b : Int) + 2) = true := by simp; omega
          have gd2 : decide ((c : Int) < (n : Int)) = false := by simp; omega
          have hcn : n ≤ c := by omega
          by_cases hbd : d = b
          · subst hbd
            have hdd : ((d : Int) == (d : Int)) = true := by simp
            go_wp2
            · ((try simp only [Exit.inBlock, Exit.then]); refine bodyPost_ret (results_none rfl _ _ _) rfl ?_)
              refine ⟨rfl, xs, Hp.out, sink_done Hsi.out ?_, Hq.out, Hf.out⟩
              intro i h1 h2 h3
              exact Hw.out.2 i (by omega) (by have := Hn.out; omega) (by have := Hn.out; omega)
          · have hdd : ((d : Int) == (b : Int)) = false := by simp; omega
            · skip
              have hdn : d < n := by omega
              have hbn : b < n := by omega
              obtain ⟨r, cap, hr, hcap, hqr, hst, hown, x0, hcells, hfz⟩ := Hq.out.look Hn.out (by omega)
              obtain ⟨eb, heb⟩ : ∃ e, e = xs.getD b noEnt := ⟨_, rfl⟩
              obtain ⟨ed, hed⟩ : ∃ e, e = xs.getD d noEnt := ⟨_, rfl⟩
              obtain ⟨y1, y2, y3⟩ := hcells b hbn eb heb
              obtain ⟨z1, z2, z3⟩ := hcells d hdn ed hed
              have f1 := hfz (b * 3)
              have f2 := hfz (b * 3 + 1)
              have f3 := hfz (b * 3 + 2)
              have f4 := hfz (d * 3)
              have f5 := hfz (d * 3 + 1)
              have f6 := hfz (d * 3 + 2)
              have hsm := swap_mem hqB Hn.out Hf.out.fr hqr hst hown heb hed
              have Hq3 := hidI hsm.1.drew
              have Hf3 := hidI (Hf.out.swap hsm.2 hqr hst).drew
              have Hsi3 : Hid (SI (swp xs b d) d) := sink_step Hsi.out (by omega) (by omega) (by have := Hn.out; omega) Hw.out.1 fun i h1 h2 h3 => Hw.out.2 i (by omega) (by have := Hn.out; omega) (by have := Hn.out; omega)
              have Hp3 : Hid (List.Perm (swp xs b d) es) := (swp_perm xs b d (by have := Hn.out; omega) (by have := Hn.out; omega)).trans Hp.out
              have Hl3 : Hid ((swp xs b d).length = es.length) := by
                show _ = _
                rw [swp_length, Hlen.out]
              have hds : d ≤ (swp xs b d).length := by rw [swp_length]; have := Hn.out; omega
              have HW : Hid (setEnt (setEnt wr r b ed) r d eb = ((((((wr.setCell ⟨r, b * 3, none⟩ (.int .i64 (ed.wt : Nat))).setCell ⟨r, b * 3 + 1, none⟩ (.int .i64 (ed.tn : Nat))).setCell ⟨r, b * 3 + 2, none⟩ (.slice (some ⟨ed.b, 0, none⟩) ed.n ed.c)).setCell ⟨r, d * 3, none⟩ (.int .i64 (eb.wt : Nat))).setCell ⟨r, d * 3 + 1, none⟩ (.int .i64 (eb.tn : Nat))).setCell ⟨r, d * 3 + 2, none⟩ (.slice (some ⟨eb.b, 0, none⟩) eb.n eb.c))) := rfl
              clear hst hown hcells hfz heb hed hsm hcap hx
              go_wp2
              go_region
              rw [← HW.out]
              clear HW x0 y1 y2 y3 z1 z2 z3 f1 f2 f3 f4 f5 f6 Hq Hf Hp Hsi
              generalize (setEnt (setEnt wr r b ed) r d eb).drew = W3 at *
              go_wp2
              go_roundw
              case rel => exact ⟨d, swp xs b d, rfl, hds, Hl3.out, Hsi3, Hp3, Hq3, Hf3⟩
              case measure => simp [intOf]; omega
        · have gd1 : decide ((c : Int) ≤ 2 * (b : Int) + 2) = false := by simp; omega
          have hc3 : c = 2 * b + 3 := by omega
          have Hc3 := hidI hc3
          clear hc3
          by_cases hbd : d = b
          · subst hbd
            have hdd : ((d : Int) == (d : Int)) = true := by simp
            go_wp2
            · ((try simp only [Exit.inBlock, Exit.then]); refine bodyPost_ret (results_none rfl _ _ _) rfl ?_)
              refine ⟨rfl, xs, Hp.out, sink_done Hsi.out ?_, Hq.out, Hf.out⟩
              intro i h1 h2 h3
              exact Hw.out.2 i (by omega) (by have := Hn.out; omega) (by have := Hn.out; omega)
          · have hdd : ((d : Int) == (b : Int)) = false := by simp; omega
            · skip
              have hdn : d < n := by omega
              have hbn : b < n := by omega
              obtain ⟨r, cap, hr, hcap, hqr, hst, hown, x0, hcells, hfz⟩ := Hq.out.look Hn.out (by omega)
              obtain ⟨eb, heb⟩ : ∃ e, e = xs.getD b noEnt := ⟨_, rfl⟩
              obtain ⟨ed, hed⟩ : ∃ e, e = xs.getD d noEnt := ⟨_, rfl⟩
              obtain ⟨y1, y2, y3⟩ := hcells b hbn eb heb
              obtain ⟨z1, z2, z3⟩ := hcells d hdn ed hed
              have f1 := hfz (b * 3)
              have f2 := hfz (b * 3 + 1)
              have f3 := hfz (b * 3 + 2)
              have f4 := hfz (d * 3)
              have f5 := hfz (d * 3 + 1)
              have f6 := hfz (d * 3 + 2)
              have hsm := swap_mem hqB Hn.out Hf.out.fr hqr hst hown heb hed
              have Hq3 := hidI hsm.1.drew
              have Hf3 := hidI (Hf.out.swap hsm.2 hqr hst).drew
              have Hsi3 : Hid (SI (swp xs b d) d) := sink_step Hsi.out (by omega) (by omega) (by have := Hn.out; omega) Hw.out.1 fun i h1 h2 h3 => Hw.out.2 i (by omega) (by have := Hn.out; omega) (by have := Hn.out; omega)
              have Hp3 : Hid (List.Perm (swp xs b d) es) := (swp_perm xs b d (by have := Hn.out; omega) (by have := Hn.out; omega)).trans Hp.out
              have Hl3 : Hid ((swp xs b d).length = es.length) := by
                show _ = _
                rw [swp_length, Hlen.out]
              have hds : d ≤ (swp xs b d).length := by rw [swp_length]; have := Hn.out; omega
              have HW : Hid (setEnt (setEnt wr r b ed) r d eb = ((((((wr.setCell ⟨r, b * 3, none⟩ (.int .i64 (ed.wt : Nat))).setCell ⟨r, b * 3 + 1, none⟩ (.int .i64 (ed.tn : Nat))).setCell ⟨r, b * 3 + 2, none⟩ (.slice (some ⟨ed.b, 0, none⟩) ed.n ed.c)).setCell ⟨r, d * 3, none⟩ (.int .i64 (eb.wt : Nat))).setCell ⟨r, d * 3 + 1, none⟩ (.int .i64 (eb.tn : Nat))).setCell ⟨r, d * 3 + 2, none⟩ (.slice (some ⟨eb.b, 0, none⟩) eb.n eb.c))) := rfl
              clear hst hown hcells hfz heb hed hsm hcap hx
              go_wp2
              go_region
              rw [← HW.out]
              clear HW x0 y1 y2 y3 z1 z2 z3 f1 f2 f3 f4 f5 f6 Hq Hf Hp Hsi
              generalize (setEnt (setEnt wr r b ed) r d eb).drew = W3 at *
              go_wp2
              go_roundw
              case rel => exact ⟨d, swp xs b d, rfl, hds, Hl3.out, Hsi3, Hp3, Hq3, Hf3⟩
              case measure => simp [intOf]; omega
end Go.Proofs.Ytodmdkhdbfbfgaa
