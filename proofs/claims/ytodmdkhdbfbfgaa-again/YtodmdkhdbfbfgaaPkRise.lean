/- What the queue of package pack does: ahead, rise, sink. -/
import Derived.Test.YtodmdkhdbfbfgaaPkLens
import Derived.Test.YtodmdkhdbfbfgaaPkHeap
import Derived.Deep.RegionHeld3
namespace Go.Proofs.Ytodmdkhdbfbfgaa
open Go.RowKit Pk
set_option linter.unusedVariables false
set_option linter.unusedSimpArgs false

set_option maxRecDepth 100000 in
set_option maxHeartbeats 1000000 in
theorem ahead_any (w : World) (p s q t : Nat) (x y : Value) : Calls Try.prog 96 #[.agg #[.int .i64 (p : Nat), .int .i64 (s : Nat), x], .agg #[.int .i64 (q : Nat), .int .i64 (t : Nat), y]] w fun e w' => ∃ r : Bool, e = .returned (.bool r) ∧ (r = true → p ≤ q) ∧ (r = false → q ≤ p) ∧ ∃ c d, w' = (w.alloc c).alloc d := by
  by_cases h : (p : Int) = (q : Int)
  · have h1 : ((p : Int) != (q : Int)) = false := by simp [h]
    go_enter Try.func96, Try.ntmps96
    go_wp2
    go_ret
    exact ⟨_, rfl, by omega, by omega, _, _, rfl⟩
  · have h1 : ((p : Int) != (q : Int)) = true := by simp [h]
    go_enter Try.func96, Try.ntmps96
    go_wp2
    go_ret
    exact ⟨_, rfl, by intro h2; simp at h2; omega, by intro h2; simp at h2; omega, _, _, rfl⟩

/-- The queue in memory, at block qb; what it holds from block B on. -/
structure QM (w : World) (B qb : Nat) (es : List Ent) (pu : Nat) : Prop where
  hB : B ≤ qb
  st : ∃ v, w.heap[qb]? = some (.cells #[v, .int .i64 (pu : Nat)] 120 (0, 0)) ∧ w.ownsRow B 123 3 v es.length (entCells es)

/-- What lies below B, and all rows of ints, are as they were. -/
structure Fr (B : Nat) (w w' : World) : Prop where
  bel : Below B w w'
  ints : Keeps 3 w w'

theorem Fr.refl (B : Nat) (w : World) : Fr B w w := ⟨Below.refl _ _, Keeps.refl _ _⟩
theorem Fr.trans {B : Nat} {a b c : World} (h : Fr B a b) (k : Fr B b c) : Fr B a c := ⟨h.bel.trans k.bel, h.ints.trans k.ints⟩

theorem own_form3 {w : World} {B n : Nat} {e : TypeId} {v : Value} {xs : List Value} (h : w.ownsRow B e 3 v n xs) (hn : 0 < n) : ∃ r cap, v = .slice (some ⟨r, 0, none⟩) n cap ∧ B ≤ r ∧ n ≤ cap := by
  rcases h.2 with ⟨rfl, rfl⟩ | ⟨g, cap, cur, rfl, h2, h3, h4, _⟩
  · omega
  · exact ⟨g, cap, rfl, h2, h4⟩

theorem QM.of {w w' : World} {B qb : Nat} {es : List Ent} {pu : Nat} (h : QM w B qb es pu) (hb : ∀ k, k < w.heap.size → w'.heap[k]? = w.heap[k]?) : QM w' B qb es pu := by
  obtain ⟨v, h1, h2⟩ := h.st
  refine ⟨h.hB, v, (hb qb (lt_of_heap h1)).trans h1, h2.1, ?_⟩
  rcases h2.2 with h3 | ⟨g, cap, cur, h3, h4, h5, h6⟩
  · exact .inl h3
  · exact .inr ⟨g, cap, cur, h3, h4, (hb g (lt_of_heap h5)).trans h5, h6⟩
theorem Fr.alloc {B : Nat} {a b : World} (h : Fr B a b) (hB : B ≤ b.heap.size) (o : Obj) : Fr B a (b.alloc o) := ⟨h.bel.alloc hB o, h.ints.alloc o⟩
theorem Fr.drew {B : Nat} {a b : World} (h : Fr B a b) : Fr B a b.drew := ⟨h.bel.drew, h.ints.drew⟩
theorem Fr.size {B : Nat} {a b : World} (h : Fr B a b) (hB : B ≤ a.heap.size) : B ≤ b.heap.size := Nat.le_trans hB h.bel.size
theorem alloc2_keep (w : World) (o1 o2 : Obj) (k : Nat) (hk : k < w.heap.size) : ((w.alloc o1).alloc o2).drew.heap[k]? = w.heap[k]? := by
  show ((w.alloc o1).alloc o2).heap[k]? = _
  rw [Below.heap_alloc _ _ k (by simp; omega), Below.heap_alloc _ _ k hk]

theorem QM.drew {w : World} {B qb : Nat} {es : List Ent} {pu : Nat} (h : QM w B qb es pu) : QM w.drew B qb es pu := h.of fun _ _ => rfl
theorem QM.make {w : World} {B qb : Nat} {es : List Ent} {pu n : Nat} {v : Value} (hB : B ≤ qb) (h : w.heap[qb]? = some (.cells #[v, .int .i64 (pu : Nat)] 120 (0, 0))) (hn : es.length = n) (ho : w.ownsRow B 123 3 v n (entCells es)) : QM w B qb es pu := by
  subst hn; exact ⟨hB, v, h, ho⟩

/-- An entry written at a place of a block. -/
def setEnt (W : World) (r i : Nat) (e : Ent) : World := ((W.setCell ⟨r, i * 3, none⟩ (.int .i64 (e.wt : Nat))).setCell ⟨r, i * 3 + 1, none⟩ (.int .i64 (e.tn : Nat))).setCell ⟨r, i * 3 + 2, none⟩ (.slice (some ⟨e.b, 0, none⟩) e.n e.c)

theorem setEnt_own {W : World} {B n r cap : Nat} {xs : List Ent} (h : W.ownsRow B 123 3 (.slice (some ⟨r, 0, none⟩) n cap) n (entCells xs)) (i : Nat) (e : Ent) : (setEnt W r i e).ownsRow B 123 3 (.slice (some ⟨r, 0, none⟩) n cap) n (entCells (xs.set i e)) := by
  have h1 := (h.stored (i * 3) (.int .i64 (e.wt : Nat))).1
  have h2 := (h1.stored (i * 3 + 1) (.int .i64 (e.tn : Nat))).1
  have h3 := (h2.stored (i * 3 + 2) (.slice (some ⟨e.b, 0, none⟩) e.n e.c)).1
  have := entCells_set xs i e
  rw [Nat.mul_comm 3 i] at this
  rw [← this]
  exact h3
theorem setEnt_block (W : World) (r i : Nat) (e : Ent) (k : Nat) (hk : k ≠ r) : (setEnt W r i e).heap[k]? = W.heap[k]? := by
  unfold setEnt
  rw [Below.heap_setCell _ _ _ k hk, Below.heap_setCell _ _ _ k hk, Below.heap_setCell _ _ _ k hk]
theorem setEnt_fr {B : Nat} {a W : World} {v : Value} {n r cap : Nat} {xs : List Value} (h : Fr B a W) (ho : W.ownsRow B 123 3 (.slice (some ⟨r, 0, none⟩) n cap) n xs) (i : Nat) (e : Ent) : Fr B a (setEnt W r i e) := by
  have hr : B ≤ r := (ho.lt r rfl).1
  refine ⟨((h.bel.setCell (p := ⟨r, i * 3, none⟩) hr _).setCell (p := ⟨r, i * 3 + 1, none⟩) hr _).setCell (p := ⟨r, i * 3 + 2, none⟩) hr _, ?_⟩
  obtain ⟨_, _, hk⟩ := Lib.ownsRow_kind ho r rfl
  refine h.ints.trans fun k x f e2 => setEnt_block W r i e k ?_
  intro ee; subst ee
  rw [hk] at e2; simp at e2

set_option maxRecDepth 100000 in
set_option maxHeartbeats 4000000 in
theorem rise_any (w : World) (B qb : Nat) (es : List Ent) (pu a : Nat) (hB : B ≤ w.heap.size) (hes : es.length ≤ 1000) (ha : a < es.length) (hri : RI es a) (h : QM w B qb es pu) :
    Calls Try.prog 93 #[.pointer (some ⟨qb, 0, none⟩), .int .i64 (a : Nat)] w fun e w' => e = .returned (.tuple #[]) ∧ ∃ es', List.Perm es' es ∧ Pk.Heap es' ∧ QM w' B qb es' pu ∧ Fr B w w' := by
  have Hri := hidI hri
  have Hq := hidI h
  clear hri h
  go_enter Try.func93, Try.ntmps93
  go_wp2
  go_loopw [1] (fun i wr => ∃ b : Nat, ∃ xs, i = .int .i64 (b : Nat) ∧ b < xs.length ∧ xs.length = es.length ∧ Hid (RI xs b) ∧ Hid (List.Perm xs es) ∧ Hid (QM wr B qb xs pu) ∧ Hid (Fr B w wr)) (fun i _ => (intOf i).toNat)
  case atStart => exact ⟨a, es, rfl, ha, rfl, Hri, List.Perm.refl _, Hq, Fr.refl _ _⟩
  case round =>
    clear Hri Hq ha
    obtain ⟨b, xs, rfl, hb, hlen, Hri, Hp, Hq, Hf⟩ := hrel
    by_cases h0 : b = 0
    · subst h0
      go_wp2
      go_end0
      exact ⟨rfl, xs, Hp.out, rise_done Hri.out (.inl rfl), Hq.out, Hf.out⟩
    · have h0' : (0 : Int) < (b : Int) := by omega
      obtain ⟨v, hst, hown⟩ := Hq.out.st
      have hqB := Hq.out.hB
      obtain ⟨r, cap, rfl, hr, hcap⟩ := own_form3 hown (by omega)
      obtain ⟨c, hc⟩ : ∃ c, c = (b - 1) / 2 := ⟨_, rfl⟩
      have x0 : wr.cell? ⟨qb, 0, none⟩ = some (.slice (some ⟨r, 0, none⟩) xs.length cap) := by rw [cell_of_row wr qb 0 _ 120 (0, 0) hst]; rfl
      obtain ⟨g1, g2, g3⟩ := entCells_get xs b hb
      obtain ⟨k1, k2, k3⟩ := entCells_get xs c (by omega)
      have hcl : c < xs.length := by omega
      obtain ⟨eb, heb⟩ : ∃ e, e = xs.getD b noEnt := ⟨_, rfl⟩
      obtain ⟨ec, hec⟩ : ∃ e, e = xs.getD c noEnt := ⟨_, rfl⟩
      rw [← heb] at g1 g2 g3
      rw [← hec] at k1 k2 k3
      have y1 : wr.cell? ⟨r, b * 3, none⟩ = some (.int .i64 (eb.wt : Nat)) := by rw [hown.cellAt (b * 3) (by omega), Nat.mul_comm]; exact g1
      have y2 : wr.cell? ⟨r, b * 3 + 1, none⟩ = some (.int .i64 (eb.tn : Nat)) := by rw [hown.cellAt (b * 3 + 1) (by omega), Nat.mul_comm]; exact g2
      have y3 : wr.cell? ⟨r, b * 3 + 2, none⟩ = some (.slice (some ⟨eb.b, 0, none⟩) eb.n eb.c) := by rw [hown.cellAt (b * 3 + 2) (by omega), Nat.mul_comm]; exact g3
      have z1 : wr.cell? ⟨r, c * 3, none⟩ = some (.int .i64 (ec.wt : Nat)) := by rw [hown.cellAt (c * 3) (by omega), Nat.mul_comm]; exact k1
      have z2 : wr.cell? ⟨r, c * 3 + 1, none⟩ = some (.int .i64 (ec.tn : Nat)) := by rw [hown.cellAt (c * 3 + 1) (by omega), Nat.mul_comm]; exact k2
      have z3 : wr.cell? ⟨r, c * 3 + 2, none⟩ = some (.slice (some ⟨ec.b, 0, none⟩) ec.n ec.c) := by rw [hown.cellAt (c * 3 + 2) (by omega), Nat.mul_comm]; exact k3
      have Heb := hidI heb
      have Hec := hidI hec
      obtain ⟨n, hn⟩ : ∃ n, n = xs.length := ⟨_, rfl⟩
      have hdiv : ((b : Int) - 1) / 2 = (c : Int) := by omega
      have Hst := hidI hst
      have Hown := hidI hown
      have Hc := hidI hc
      have Hlen := hidI hlen
      have hx1000 : xs.length ≤ 1000 := by omega
      rw [← hn] at x0 hcl hb hx1000
      have Hn := hidI hn
      clear g1 g2 g3 k1 k2 k3 hst hown hc hlen heb hec hn hcap hes
      go_wp2
      rw [hdiv]
      go_region_held3 (fun w' => w'.cell? ⟨qb, 0, none⟩ = some (.slice (some ⟨r, 0, none⟩) n cap) ∧ w'.cell? ⟨r, b * 3, none⟩ = some (.int .i64 (eb.wt : Nat)) ∧ w'.cell? ⟨r, b * 3 + 1, none⟩ = some (.int .i64 (eb.tn : Nat)) ∧ w'.cell? ⟨r, b * 3 + 2, none⟩ = some (.slice (some ⟨eb.b, 0, none⟩) eb.n eb.c) ∧ w'.cell? ⟨r, c * 3, none⟩ = some (.int .i64 (ec.wt : Nat)) ∧ w'.cell? ⟨r, c * 3 + 1, none⟩ = some (.int .i64 (ec.tn : Nat)) ∧ w'.cell? ⟨r, c * 3 + 2, none⟩ = some (.slice (some ⟨ec.b, 0, none⟩) ec.n ec.c)) (go_keep) (first | (go_at_call 96; refine (ahead_any _ eb.wt eb.tn ec.wt ec.tn (.slice (some ⟨eb.b, 0, none⟩) eb.n eb.c) (.slice (some ⟨ec.b, 0, none⟩) ec.n ec.c)).mono ?_; rintro e w' ⟨rr, rfl, ha1, ha2, o1, o2, rfl⟩))
      have Hq2 := hidI (Hq.out.of (alloc2_keep wr o1 o2))
      have Hf2 := hidI (((Hf.out.alloc (Hf.out.size hB) o1).alloc (by have := Hf.out.size hB; simp; omega) o2).drew)
      rename_i hHeld
      clear hHeld x0 y1 y2 y3 z1 z2 z3 Hst Hown Hq Hf
      generalize ((wr.alloc o1).alloc o2).drew = W at *
      cases rr with
      | false =>
        go_wp2
        ((try simp only [Exit.inBlock, Exit.then]); refine bodyPost_ret (results_none rfl _ _ _) rfl ?_)
        refine ⟨rfl, xs, Hp.out, rise_done Hri.out (.inr ?_), Hq2.out, Hf2.out⟩
        have := ha2 (by trivial)
        rw [← Hc.out]
        unfold wa
        rw [← Heb.out, ← Hec.out]
        exact this
      | true =>
        have hle := ha1 (by trivial)
        have Hle : Hid (wa xs b ≤ wa xs ((b - 1) / 2)) := by
          show _ ≤ _
          rw [← Hc.out]
          unfold wa
          rw [← Heb.out, ← Hec.out]
          exact hle
        clear ha1 ha2 hle
        obtain ⟨v, hst, hown⟩ := Hq2.out.st
        obtain ⟨r2, cap2, rfl, hr2, hcap⟩ := own_form3 hown (by have := Hn.out; omega)
        obtain ⟨g1, g2, g3⟩ := entCells_get xs b (by have := Hn.out; omega)
        obtain ⟨k1, k2, k3⟩ := entCells_get xs c (by have := Hn.out; omega)
        rw [← Heb.out] at g1 g2 g3
        rw [← Hec.out] at k1 k2 k3
        rw [← Hn.out] at hst hown
        have x0 : W.cell? ⟨qb, 0, none⟩ = some (.slice (some ⟨r2, 0, none⟩) n cap2) := by rw [cell_of_row W qb 0 _ 120 (0, 0) hst]; rfl
        have y1 : W.cell? ⟨r2, b * 3, none⟩ = some (.int .i64 (eb.wt : Nat)) := by rw [hown.cellAt (b * 3) (by omega), Nat.mul_comm]; exact g1
        have y2 : W.cell? ⟨r2, b * 3 + 1, none⟩ = some (.int .i64 (eb.tn : Nat)) := by rw [hown.cellAt (b * 3 + 1) (by omega), Nat.mul_comm]; exact g2
        have y3 : W.cell? ⟨r2, b * 3 + 2, none⟩ = some (.slice (some ⟨eb.b, 0, none⟩) eb.n eb.c) := by rw [hown.cellAt (b * 3 + 2) (by omega), Nat.mul_comm]; exact g3
        have z1 : W.cell? ⟨r2, c * 3, none⟩ = some (.int .i64 (ec.wt : Nat)) := by rw [hown.cellAt (c * 3) (by omega), Nat.mul_comm]; exact k1
        have z2 : W.cell? ⟨r2, c * 3 + 1, none⟩ = some (.int .i64 (ec.tn : Nat)) := by rw [hown.cellAt (c * 3 + 1) (by omega), Nat.mul_comm]; exact k2
        have z3 : W.cell? ⟨r2, c * 3 + 2, none⟩ = some (.slice (some ⟨ec.b, 0, none⟩) ec.n ec.c) := by rw [hown.cellAt (c * 3 + 2) (by omega), Nat.mul_comm]; exact k3
        have f1 := hown.frozenAt (b * 3)
        have f2 := hown.frozenAt (b * 3 + 1)
        have f3 := hown.frozenAt (b * 3 + 2)
        have f4 := hown.frozenAt (c * 3)
        have f5 := hown.frozenAt (c * 3 + 1)
        have f6 := hown.frozenAt (c * 3 + 2)
        have Hst := hidI hst
        have Hown := hidI hown
        clear hst hown g1 g2 g3 k1 k2 k3 hcap
        go_wp2
        go_region
        have hqr : qb ≠ r2 := by
          intro e; subst e
          obtain ⟨_, _, hk⟩ := Lib.ownsRow_kind Hown.out qb rfl
          rw [Hst.out] at hk; simp at hk
        have hs1 := setEnt_own Hown.out b ec
        have hs2 := setEnt_own hs1 c eb
        have hfr : Fr B w (setEnt (setEnt W r2 b ec) r2 c eb) := setEnt_fr (v := .slice none 0 0) (setEnt_fr (v := .slice none 0 0) Hf2.out Hown.out b ec) hs1 c eb
        have hsw : (xs.set b ec).set c eb = swp xs b c := by unfold swp; rw [Heb.out, Hec.out]
        have hbl : (setEnt (setEnt W r2 b ec) r2 c eb).heap[qb]? = W.heap[qb]? := (setEnt_block _ _ _ _ _ hqr).trans (setEnt_block _ _ _ _ _ hqr)
        rw [hsw] at hs2
        have hsl : (swp xs b c).length = n := by rw [swp_length, Hn.out]
        have hq3 := QM.make hqB (hbl.trans Hst.out) hsl hs2
        have Hq3 := hidI hq3.drew
        have Hf3 := hidI hfr.drew
        have Hri3 : Hid (RI (swp xs b c) c) := by
          have := rise_step Hri.out (by omega) (by have := Hn.out; omega) Hle.out
          rw [← Hc.out] at this
          exact this
        have Hp3 : Hid (List.Perm (swp xs b c) es) := (swp_perm xs b c (by have := Hn.out; omega) (by have := Hn.out; omega)).trans Hp.out
        have hl3 : (swp xs b c).length = es.length := by rw [swp_length, Hlen.out]
        have hcs : c < (swp xs b c).length := by omega
        have hcb : c < b := by have := Hc.out; omega
        have HW : Hid (setEnt (setEnt W r2 b ec) r2 c eb = ((((((W.setCell ⟨r2, b * 3, none⟩ (.int .i64 (ec.wt : Nat))).setCell ⟨r2, b * 3 + 1, none⟩ (.int .i64 (ec.tn : Nat))).setCell ⟨r2, b * 3 + 2, none⟩ (.slice (some ⟨ec.b, 0, none⟩) ec.n ec.c)).setCell ⟨r2, c * 3, none⟩ (.int .i64 (eb.wt : Nat))).setCell ⟨r2, c * 3 + 1, none⟩ (.int .i64 (eb.tn : Nat))).setCell ⟨r2, c * 3 + 2, none⟩ (.slice (some ⟨eb.b, 0, none⟩) eb.n eb.c))) := rfl
        rw [← HW.out]
        clear hs1 hs2 hfr hsw hbl HW x0 y1 y2 y3 z1 z2 z3 f1 f2 f3 f4 f5 f6 Hst Hown Hq2 Hf2 Hp Hri
        generalize (setEnt (setEnt W r2 b ec) r2 c eb).drew = W3 at *
        have Hl3 := hidI hl3
        clear hl3
        go_wp2
        go_roundw
        case rel => exact ⟨c, swp xs b c, rfl, hcs, Hl3.out, Hri3, Hp3, Hq3, Hf3⟩
        case measure => simp [intOf]; omega
end Go.Proofs.Ytodmdkhdbfbfgaa
