/- What places of package pack does: add, newPlaces. -/
import Derived.Test.YtodmdkhdbfbfgaaPkLongest
import Derived.Deep.RegionWith
namespace Go.Proofs.Ytodmdkhdbfbfgaa
open Go.RowKit Pk
set_option linter.unusedVariables false
set_option linter.unusedSimpArgs false

/-- What lies below B, and all rows of steps, are as they were. -/
structure FrS (B : Nat) (w w' : World) : Prop where
  bel : Below B w w'
  steps : Keeps 101 w w'
theorem FrS.refl (B : Nat) (w : World) : FrS B w w := ⟨Below.refl _ _, Keeps.refl _ _⟩
theorem FrS.trans {B : Nat} {a b c : World} (h : FrS B a b) (k : FrS B b c) : FrS B a c := ⟨h.bel.trans k.bel, h.steps.trans k.steps⟩
theorem FrS.drewN {B : Nat} {a b : World} (h : FrS B a b) (q : Nat) : FrS B a (b.drewN q) := ⟨below_drewN h.bel q, h.steps.drewN q⟩

theorem wf_i64 (a : Nat) (h : a ≤ 4000) : (Lit.int .i64 (a : Nat)).wf = true := by
  have h1 : IntKind.i64.min = -9223372036854775808 := by decide
  have h2 : IntKind.i64.max = 9223372036854775807 := by decide
  simp only [Lit.wf, h1, h2, Bool.and_eq_true, decide_eq_true_eq]
  omega
theorem PM.drewN {w : World} {B pb mb bb m : Nat} {d : List UInt8} {mp : List UInt8 → Option Nat} {bf : Nat → Int} (h : PM w B pb mb bb d m mp bf) (q : Nat) : PM (w.drewN q) B pb mb bb d m mp bf := ⟨h.hp, h.hm, h.hb, h.st, h.mo, h.bo⟩
theorem PM.drew {w : World} {B pb mb bb m : Nat} {d : List UInt8} {mp : List UInt8 → Option Nat} {bf : Nat → Int} (h : PM w B pb mb bb d m mp bf) : PM w.drew B pb mb bb d m mp bf := ⟨h.hp, h.hm, h.hb, h.st, h.mo, h.bo⟩
theorem PM.apart {w : World} {B pb mb bb m : Nat} {d : List UInt8} {mp : List UInt8 → Option Nat} {bf : Nat → Int} (h : PM w B pb mb bb d m mp bf) : pb ≠ bb ∧ mb ≠ bb ∧ pb ≠ mb := by
  obtain ⟨c, hbo, _⟩ := h.bo
  obtain ⟨D, ⟨es, ck, hmo, _⟩, _⟩ := h.mo
  have hst := h.st
  refine ⟨?_, ?_, ?_⟩
  · intro e; subst e; rw [hst] at hbo; simp at hbo
  · intro e; subst e; rw [hmo] at hbo; simp at hbo
  · intro e; subst e; rw [hst] at hmo; simp at hmo
/-- A place's number is laid down. -/
theorem PM.before {w : World} {B pb mb bb m : Nat} {d : List UInt8} {mp : List UInt8 → Option Nat} {bf : Nat → Int} (h : PM w B pb mb bb d m mp bf) (a : Nat) (x : Int) : PM (w.setCell ⟨bb, a, none⟩ (.int .i64 x)) B pb mb bb d m mp (fun j => if j = a then x else bf j) := by
  obtain ⟨h1, h2, h3⟩ := h.apart
  obtain ⟨D, hD, hM⟩ := h.mo
  refine ⟨h.hp, h.hm, h.hb, (Below.heap_setCell w ⟨bb, a, none⟩ _ pb h1).trans h.st, ⟨D, hD.setCell h2 _, hM⟩, ?_⟩
  refine (h.bo.set a (.int .i64 x)).congr fun j _ => ?_
  split <;> rfl
/-- Other blocks turn. -/
theorem PM.kept {w w' : World} {B pb mb bb m : Nat} {d : List UInt8} {mp : List UInt8 → Option Nat} {bf : Nat → Int} (h : PM w B pb mb bb d m mp bf) {row : Option Nat} (hg : w.grownBy w' row) (h1 : row ≠ some pb) (h2 : row ≠ some mb) (h3 : row ≠ some bb) : PM w' B pb mb bb d m mp bf := by
  obtain ⟨D, hD, hM⟩ := h.mo
  exact ⟨h.hp, h.hm, h.hb, (hg.block pb (lt_of_heap h.st) (fun e => h1 e.symm)).trans h.st, ⟨D, hD.kept hg (fun e => h2 e.symm), hM⟩, h.bo.of_block (hg.block bb h.bo.lt (fun e => h3 e.symm))⟩

set_option maxRecDepth 100000 in
set_option maxHeartbeats 4000000 in
theorem add_no (w : World) (B pb mb bb m a : Nat) (d : List UInt8) (mp : List UInt8 → Option Nat) (bf : Nat → Int) (hd : d.length ≤ 4000) (ha : a ≤ d.length) (h3 : d.length < a + 3) (h : PM w B pb mb bb d m mp bf) :
    Calls Try.prog 83 #[.pointer (some ⟨pb, 0, none⟩), .int .i64 (a : Nat)] w fun e w' => e = .returned (.tuple #[]) ∧ w' = w := by
  have Hst := hidI (start_no w pb a d _ _ hd (by omega) h3 h.st)
  clear h
  go_enter Try.func83, Try.ntmps83
  go_wp2_with (go_at_call 87; refine Hst.out.mono ?_; rintro e w' ⟨rfl, rfl⟩)
  ((try simp only [Exit.inBlock, Exit.then]); refine bodyPost_ret (results_none rfl _ _ _) rfl ?_)
  exact ⟨rfl, rfl⟩

set_option maxRecDepth 100000 in
set_option maxHeartbeats 4000000 in
theorem add_any (w : World) (B pb mb bb m a : Nat) (d : List UInt8) (mp : List UInt8 → Option Nat) (bf : Nat → Int) (hd : d.length ≤ 4000) (h3 : a + 3 ≤ d.length) (hm : m ≤ 1000000) (h : PM w B pb mb bb d m mp bf) :
    Calls Try.prog 83 #[.pointer (some ⟨pb, 0, none⟩), .int .i64 (a : Nat)] w fun e w' => e = .returned (.tuple #[]) ∧ PM w' B pb mb bb d (m + 1) (fun s => if s = key3 d a then some a else mp s) (fun j => if j = a then topV (mp (key3 d a)) else bf j) ∧ FrS B w w' := by
  have Hst := hidI (start_yes w pb a d _ _ hd h3 h.st)
  have Htop : Hid (∀ V, PM V B pb mb bb d m mp bf → Calls Try.prog 88 #[.pointer (some ⟨pb, 0, none⟩), .string (txt (key3 d a))] V _) := fun V hV => top_any V B pb mb bb m d (key3 d a) mp bf (by have := key3_len d a; omega) hV
  have x1 : w.cell? ⟨pb, 1, none⟩ = some (.map (some mb)) := by rw [cell_of_row w pb 1 _ 116 (0, 0) h.st]; rfl
  have x2 : w.cell? ⟨pb, 2, none⟩ = some (.slice (some ⟨bb, 0, none⟩) d.length d.length) := by rw [cell_of_row w pb 2 _ 116 (0, 0) h.st]; rfl
  have y0 := h.bo.cell (i := a) (by omega)
  have yf := h.bo.frozen a
  have han : a < d.length := by omega
  have Hpm := hidI h
  clear h
  obtain ⟨tv, htv⟩ : ∃ tv, tv = topV (mp (key3 d a)) := ⟨_, rfl⟩
  simp only [← htv] at Htop ⊢
  clear htv
  go_enter Try.func83, Try.ntmps83
  go_wp2_with (go_at_call 87; refine Hst.out.mono ?_; rintro e w' ⟨rfl, hw⟩; have hw' := hw.symm; subst hw')
  go_region_with (go_at_call 88; refine (Htop.out _ Hpm.out.drew).mono ?_; rintro e w' ⟨rfl, hw⟩; have hw' := hw.symm; subst hw')
  · have hpm1 := (Hpm.out.before a tv).drew
    have hap := hpm1.apart
    have hfr1 : FrS B w (w.setCell ⟨bb, a, none⟩ (.int .i64 tv)).drew := by
      obtain ⟨c, hbo, _⟩ := Hpm.out.bo
      exact ⟨((Below.refl B w).setCell (p := ⟨bb, a, none⟩) Hpm.out.hb _).drew, ((Keeps.refl 101 w).set hbo (by decide)).drew⟩
    clear x1 x2 y0 yf Hst Htop Hpm
    generalize (w.setCell ⟨bb, a, none⟩ (.int .i64 tv)).drew = W at *
    have x1 : W.cell? ⟨pb, 1, none⟩ = some (.map (some mb)) := by rw [cell_of_row W pb 1 _ 116 (0, 0) hpm1.st]; rfl
    obtain ⟨D, hD, hMD⟩ := hpm1.mo
    have hk3l := key3_len d a
    have hkey : keyOf Try.prog 9 (.string (txt (key3 d a))) = some (.string (key3 d a)) := WideMaps.keyOf_string_mk Try.underlying9 (by rw [txt_size]; unfold maxLen; omega)
    have hval : plainElem (H := Unit) Try.prog 3 (.int .i64 (a : Nat)) = some (.lit (.int .i64 (a : Nat)), []) := plainElem_int Try.underlying3 (wf_i64 a (by omega))
    have Hpm1 := hidI hpm1
    have Hfr1 := hidI hfr1
    have Hap := hidI hap
    have HMD := hidI (hMD.put (key3 d a) a)
    clear hpm1 hfr1 hMD hap
    generalize txt (key3 d a) = tk at *
    go_wp2_with (at_mapUpdate; refine wpList_mapUpdate_own _ rfl _ _ _ 114 rfl 9 3 Try.keyed9 Try.underlying114 (plainElem Try.prog 3) mb m D rfl hD (by unfold maxLen; omega) _ _ (.string (key3 d a)) rfl rfl hkey (.lit (.int .i64 (a : Nat))) [] hval ?_; intro w2 hown2 hgrow2)
    go_end0
    refine ⟨rfl, ⟨Hpm1.out.hp, Hpm1.out.hm, Hpm1.out.hb, (hgrow2.block pb (lt_of_heap Hpm1.out.st) (by simp; exact Hap.out.2.2)).trans Hpm1.out.st, ⟨_, hown2, HMD.out⟩, Hpm1.out.bo.of_block (hgrow2.block bb Hpm1.out.bo.lt (by simp; exact fun e => Hap.out.2.1 e.symm))⟩, ?_⟩
    refine ⟨Hfr1.out.bel.trans ((Below.refl B W).grown hgrow2 ?_ (fun k hk => by simp at hk; subst hk; exact Hpm1.out.hm)), Hfr1.out.steps.trans fun k x f e => hgrow2.block k (lt_of_heap e) ?_⟩
    · exact Nat.le_trans Hpm1.out.hp (Nat.le_of_lt (lt_of_heap Hpm1.out.st))
    · intro hk
      simp at hk
      subst hk
      obtain ⟨D2, ⟨es, ck, hmo, _⟩, _⟩ := Hpm1.out.mo
      rw [hmo] at e; simp at e
  · have hpm1 := (Hpm.out.before a tv).drew
    have hap := hpm1.apart
    have hfr1 : FrS B w (w.setCell ⟨bb, a, none⟩ (.int .i64 tv)).drew := by
      obtain ⟨c, hbo, _⟩ := Hpm.out.bo
      exact ⟨((Below.refl B w).setCell (p := ⟨bb, a, none⟩) Hpm.out.hb _).drew, ((Keeps.refl 101 w).set hbo (by decide)).drew⟩
    clear x1 x2 y0 yf Hst Htop Hpm
    generalize (w.setCell ⟨bb, a, none⟩ (.int .i64 tv)).drew = W at *
    have x1 : W.cell? ⟨pb, 1, none⟩ = some (.map (some mb)) := by rw [cell_of_row W pb 1 _ 116 (0, 0) hpm1.st]; rfl
    obtain ⟨D, hD, hMD⟩ := hpm1.mo
    have hk3l := key3_len d a
    have hkey : keyOf Try.prog 9 (.string (txt (key3 d a))) = some (.string (key3 d a)) := WideMaps.keyOf_string_mk Try.underlying9 (by rw [txt_size]; unfold maxLen; omega)
    have hval : plainElem (H := Unit) Try.prog 3 (.int .i64 (a : Nat)) = some (.lit (.int .i64 (a : Nat)), []) := plainElem_int Try.underlying3 (wf_i64 a (by omega))
    have Hpm1 := hidI hpm1
    have Hfr1 := hidI hfr1
    have Hap := hidI hap
    have HMD := hidI (hMD.put (key3 d a) a)
    clear hpm1 hfr1 hMD hap
    generalize txt (key3 d a) = tk at *
    go_wp2_with (at_mapUpdate; refine wpList_mapUpdate_own _ rfl _ _ _ 114 rfl 9 3 Try.keyed9 Try.underlying114 (plainElem Try.prog 3) mb m D rfl hD (by unfold maxLen; omega) _ _ (.string (key3 d a)) rfl rfl hkey (.lit (.int .i64 (a : Nat))) [] hval ?_; intro w2 hown2 hgrow2)
    go_end0
    refine ⟨rfl, ⟨Hpm1.out.hp, Hpm1.out.hm, Hpm1.out.hb, (hgrow2.block pb (lt_of_heap Hpm1.out.st) (by simp; exact Hap.out.2.2)).trans Hpm1.out.st, ⟨_, hown2, HMD.out⟩, Hpm1.out.bo.of_block (hgrow2.block bb Hpm1.out.bo.lt (by simp; exact fun e => Hap.out.2.1 e.symm))⟩, ?_⟩
    refine ⟨Hfr1.out.bel.trans ((Below.refl B W).grown hgrow2 ?_ (fun k hk => by simp at hk; subst hk; exact Hpm1.out.hm)), Hfr1.out.steps.trans fun k x f e => hgrow2.block k (lt_of_heap e) ?_⟩
    · exact Nat.le_trans Hpm1.out.hp (Nat.le_of_lt (lt_of_heap Hpm1.out.st))
    · intro hk
      simp at hk
      subst hk
      obtain ⟨D2, ⟨es, ck, hmo, _⟩, _⟩ := Hpm1.out.mo
      rw [hmo] at e; simp at e

theorem PI.add {d : List UInt8} {mp : List UInt8 → Option Nat} {bf : Nat → Int} {a : Nat} (h : PI d mp bf a) (h3 : a + 3 ≤ d.length) : PI d (fun s => if s = key3 d a then some a else mp s) (fun j => if j = a then topV (mp (key3 d a)) else bf j) (a + 1) := by
  refine ⟨fun s v hv => ?_, fun v h1 h2 => ?_, fun v h1 h2 => ?_⟩
  · by_cases e : s = key3 d a
    · rw [if_pos e] at hv; cases hv; exact ⟨by omega, h3, e.symm⟩
    · rw [if_neg e] at hv; have := h.lt s v hv; exact ⟨by omega, this.2⟩
  · by_cases e : v = a
    · subst e
      simp only [if_pos]
      cases hm : mp (key3 d v) with
      | none => exact .inl rfl
      | some u => have := h.lt _ _ hm; exact .inr ⟨u, rfl, this.1, this.2.2⟩
    · simp only [if_neg e]; exact h.ch v (by omega) h2
  · by_cases e : key3 d v = key3 d a
    · exact ⟨a, if_pos e⟩
    · simp only [if_neg e]
      exact h.all v (by
        by_cases e2 : v = a
        · subst e2; exact absurd rfl e
        · omega) h2
theorem PI.skip {d : List UInt8} {mp : List UInt8 → Option Nat} {bf : Nat → Int} {a : Nat} (h : PI d mp bf a) (h3 : d.length < a + 3) : PI d mp bf (a + 1) :=
  ⟨fun s v hv => by have := h.lt s v hv; exact ⟨by omega, this.2⟩, fun v h1 h2 => h.ch v (by omega) h2, fun v h1 h2 => h.all v (by omega) h2⟩
theorem PI.start (d : List UInt8) (bf : Nat → Int) : PI d (fun _ => none) bf 0 := ⟨fun s v hv => (by cases hv), fun v h1 => (by omega), fun v h1 => (by omega)⟩

set_option maxRecDepth 100000 in
set_option maxHeartbeats 4000000 in
theorem new_places (w : World) (d : List UInt8) (h0 : 0 < d.length) (hd : d.length ≤ 4000) :
    Calls Try.prog 81 #[.string (txt d)] w fun e w' => ∃ pb mb bb, e = .returned (.pointer (some ⟨pb, 0, none⟩)) ∧ PM w' w.heap.size pb mb bb d 0 (fun _ => none) (fun _ => 0) ∧ FrS w.heap.size w w' := by
  obtain ⟨n, hn⟩ : ∃ n, n = d.length := ⟨_, rfl⟩
  obtain ⟨M, hM⟩ : ∃ M, M = madeCells #[Value.int .i64 0] n := ⟨_, rfl⟩
  have hmk : ∀ W : World, (Instr.makeSlice 22 (.int .i64 (n : Nat)) (.int .i64 (n : Nat))).run Try.prog W = .ok (.slice (some ⟨W.heap.size, 0, none⟩) n n) (W.alloc (.cells M 3)) := fun W => by
    rw [hM]
    exact run_make_row' (P := Try.prog) 22 3 (.int .i64 0) 8 Try.underlying22 Try.info3 rfl .i64 .i64 n (by omega) (by omega) W
  have hs : (txt d).size = n := by rw [txt_size, hn]
  have HM := hidI hM
  have Hn := hidI hn
  have Ht : Hid (txt d = txt d) := rfl
  generalize htd : txt d = t at *
  have Htd := hidI htd
  clear hM hn htd
  have hmm := @run_makeMap Try.prog
  go_enter Try.func81, Try.ntmps81
  go_wp2
  go_ret
  obtain ⟨o3, ho3⟩ : ∃ o, o = Obj.cells #[.string t, .map (some w.heap.size), .slice (some ⟨w.heap.size + 1, 0, none⟩) n n] 116 := ⟨_, rfl⟩
  have h3 : (((w.alloc (.map #[] 0)).alloc (.cells M 3)).alloc o3).heap[w.heap.size + 1 + 1]? = some o3 := by
    have := heap_alloc_new ((w.alloc (.map #[] 0)).alloc (.cells M 3)) o3
    simp only [World.size_alloc] at this
    exact this
  have h1 : (((w.alloc (.map #[] 0)).alloc (.cells M 3)).alloc o3).ownsMap (H := Unit) Try.prog 9 (plainElem Try.prog 3) w.heap.size 0 (.map []) := ((World.ownsMap_made w _ _ _).alloc _).alloc _
  have h2 : (((w.alloc (.map #[] 0)).alloc (.cells M 3)).alloc o3).rowIs (w.heap.size + 1) 3 n (fun _ => .int .i64 0) := by
    have := World.rowIs_made (w.alloc (.map #[] 0)) (.int .i64 0) n 3
    rw [← HM.out] at this
    simp only [World.size_alloc] at this
    exact this.alloc _
  rw [← ho3]
  refine ⟨w.heap.size + 1 + 1, rfl, ⟨w.heap.size, w.heap.size + 1, ⟨by omega, by omega, by omega, ?_, ⟨_, h1, MD.nil⟩, ?_⟩⟩, ?_⟩
  · rw [h3, ho3, ← Hn.out, Htd.out]
  · rw [← Hn.out]; exact h2
  · exact ⟨(((Below.refl _ w).alloc (Nat.le_refl _) _).alloc (by simp) _).alloc (by simp; omega) _, (((Keeps.refl 101 w).alloc _).alloc _).alloc _⟩
end Go.Proofs.Ytodmdkhdbfbfgaa
