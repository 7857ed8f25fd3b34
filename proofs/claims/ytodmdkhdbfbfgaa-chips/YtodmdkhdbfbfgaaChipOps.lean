/- What the calls do to both chips, whatever they are asked; they stay well formed. -/
import Derived.Test.YtodmdkhdbfbfgaaChipScrib
namespace Go.Proofs.Ytodmdkhdbfbfgaa
open Go.RowKit Pk
set_option linter.unusedVariables false
set_option linter.unusedSimpArgs false

instance (m : M) (b p : Int) (s : List UInt8) : Decidable (mayP m b p s) := by unfold mayP; infer_instance
instance (m : M) (b p : Int) : Decidable (isP m b p) := by unfold isP; infer_instance

def progA (m : M) (b p : Int) (s : List UInt8) : Bool × M := if mayP m b p s then progF m b.toNat p.toNat s else (false, m)
def eraA (m : M) (b : Int) : Bool × M := if badB m b = false then eraF m b.toNat else (false, m)
def scrA (m : M) (b p : Int) (s : List UInt8) : M := if isP m b p then scrF m b.toNat p.toNat s else m

theorem mayP_yes {m : M} {b p : Int} {s : List UInt8} (h : mayP m b p s) : ∃ i q : Nat, b = (i : Int) ∧ p = (q : Int) ∧ i < m.nb ∧ m.bd i = false ∧ q = m.nx i ∧ q < m.np ∧ s.length = 64 := by
  obtain ⟨h1, h2, h3, h4⟩ := h
  obtain ⟨i, rfl, hi, hb⟩ := badB_no h1
  refine ⟨i, m.nx i, rfl, by simpa using h2, hi, hb, rfl, ?_, h4⟩
  have : p = (m.nx i : Int) := by simpa using h2
  omega

theorem prog_any (w : World) (lo hi cb : Nat) (L : Loc) (m : M) (b p : Int) (s : List UInt8) (hw : WF m) (hs : s.length ≤ 140737488351232) (h : CP w lo hi cb L m) :
    Calls Try.prog 19 #[.pointer (some ⟨cb, 0, none⟩), .int .i64 b, .int .i64 p, .string (txt s)] w fun e w' => e = .returned (.bool (progA m b p s).1) ∧ CP w' lo hi cb L (progA m b p s).2 ∧ Only lo hi w w' := by
  by_cases hm : mayP m b p s
  · have hb := hm.1
    obtain ⟨i, q, rfl, rfl, hi', hbd, hq, hqn, h64⟩ := mayP_yes hm
    have e : progA m (i : Nat) (q : Nat) s = progF m i q s := if_pos hm
    rw [e]
    exact prog_yes w lo hi cb L m i q s hw h64 h hb hi' hq hqn
  · have e : progA m b p s = (false, m) := if_neg hm
    rw [e]
    exact (prog_no w lo hi cb L m b p s hs h hm).mono fun e w' ⟨h1, h2⟩ => ⟨h1, by rw [h2]; exact h, by rw [h2]; exact Only.refl _ _ _⟩

theorem progR_any (w : World) (lo hi cb : Nat) (L : Loc) (m : M) (b p : Int) (s : List UInt8) (hw : WF m) (hs : s.length ≤ 140737488351232) (h : CR w lo hi cb L m) (hsz : hi ≤ w.heap.size) :
    Calls Try.prog 20 #[.pointer (some ⟨cb, 0, none⟩), .int .i64 b, .int .i64 p, .string (txt s)] w fun e w' => e = .returned (.bool (progA m b p s).1) ∧ CR w' lo hi cb L (progA m b p s).2 ∧ Only lo hi w w' := by
  by_cases hm : mayP m b p s
  · have hb := hm.1
    obtain ⟨i, q, rfl, rfl, hi', hbd, hq, hqn, h64⟩ := mayP_yes hm
    have e : progA m (i : Nat) (q : Nat) s = progF m i q s := if_pos hm
    rw [e]
    have hbt : ∀ x, (setN (setP (tick m) i q x) i (q + 1)).bd i = false := fun x => hbd
    rcases callF_cases m.life m.fail with hk | hk | hk | hk
    · have e2 : progF m i q s = (true, setN (setP (tick m) i q s) i (q + 1)) := if_pos hk
      rw [e2]
      refine (progR_done w lo hi cb L m i q s hw h64 h hb hi' hbd hq hqn hsz 0 (by omega) hk 64 (by omega) rfl).mono fun e w' ⟨h1, h2, h3⟩ => ⟨h1, ?_, h3⟩
      rw [List.take_of_length_le (by omega), show decide ((0 : Nat) = 1) = false from rfl, setB_same (hbt s)] at h2
      exact h2
    · have e2 : progF m i q s = (false, setN (setB (setP (tick m) i q (s.take m.part.toNat)) i true) i (q + 1)) := by unfold progF; rw [hk]; rfl
      rw [e2]
      have h1 := hw.part1
      have h2 := hw.part2
      exact progR_done w lo hi cb L m i q s hw h64 h hb hi' hbd hq hqn hsz 1 (by omega) hk m.part.toNat (by omega) (by simp; omega)
    · have e2 : progF m i q s = (false, setN (setP (tick m) i q (s.take m.cut.toNat)) i (q + 1)) := by unfold progF; rw [hk]; rfl
      rw [e2]
      have h1 := hw.cut1
      have h2 := hw.cut2
      refine (progR_done w lo hi cb L m i q s hw h64 h hb hi' hbd hq hqn hsz 2 (by omega) hk m.cut.toNat (by omega) (by simp; omega)).mono fun e w' ⟨h1, h2, h3⟩ => ⟨h1, ?_, h3⟩
      rw [show decide ((2 : Nat) = 1) = false from rfl, setB_same (hbt _)] at h2
      exact h2
    · exact progR_three w lo hi cb L m i q s hw h64 h hb hi' hq hqn hk
  · have e : progA m b p s = (false, m) := if_neg hm
    rw [e]
    exact (progR_no w lo hi cb L m b p s hs h hm).mono fun e w' ⟨h1, h2⟩ => ⟨h1, by rw [h2]; exact h, by rw [h2]; exact Only.refl _ _ _⟩

set_option maxRecDepth 100000 in
set_option maxHeartbeats 1600000 in
theorem era_no (w : World) (lo hi cb : Nat) (L : Loc) (m : M) (b : Int) (h : CP w lo hi cb L m) (hb : badB m b = true) :
    Calls Try.prog 21 #[.pointer (some ⟨cb, 0, none⟩), .int .i64 b] w fun e w' => e = .returned (.bool false) ∧ w' = w := by
  have Hbad := hidI (bad_any w lo hi cb L m b h)
  rw [hb] at Hbad
  clear h
  go_enter Try.func21, Try.ntmps21
  go_wp2_with fail
  refine Hbad.out.mono ?_
  rintro e w1 ⟨rfl, rfl⟩
  go_wp2
  go_ret
  exact ⟨rfl, rfl⟩

set_option maxRecDepth 100000 in
set_option maxHeartbeats 1600000 in
theorem eraR_no (w : World) (lo hi cb : Nat) (L : Loc) (m : M) (b : Int) (h : CR w lo hi cb L m) (hb : badB m b = true) :
    Calls Try.prog 22 #[.pointer (some ⟨cb, 0, none⟩), .int .i64 b] w fun e w' => e = .returned (.bool false) ∧ w' = w := by
  have Hbad := hidI (badR_any w lo hi cb L m b h)
  rw [hb] at Hbad
  clear h
  go_enter Try.func22, Try.ntmps22
  go_wp2_with fail
  refine Hbad.out.mono ?_
  rintro e w1 ⟨rfl, rfl⟩
  go_wp2
  go_ret
  exact ⟨rfl, rfl⟩

theorem era_any (w : World) (lo hi cb : Nat) (L : Loc) (m : M) (b : Int) (hw : WF m) (h : CP w lo hi cb L m) (hsz : hi ≤ w.heap.size) :
    Calls Try.prog 21 #[.pointer (some ⟨cb, 0, none⟩), .int .i64 b] w fun e w' => e = .returned (.bool (eraA m b).1) ∧ CP w' lo hi cb L (eraA m b).2 ∧ Only lo hi w w' := by
  cases hb : badB m b with
  | false =>
    obtain ⟨i, rfl, hi', hbd⟩ := badB_no hb
    have e : eraA m (i : Nat) = eraF m i := if_pos hb
    rw [e]
    exact era_yes w lo hi cb L m i hw h hb hi' hsz
  | true =>
    have e : eraA m b = (false, m) := if_neg (by rw [hb]; decide)
    rw [e]
    exact (era_no w lo hi cb L m b h hb).mono fun e w' ⟨h1, h2⟩ => ⟨h1, by rw [h2]; exact h, by rw [h2]; exact Only.refl _ _ _⟩

theorem eraR_any (w : World) (lo hi cb : Nat) (L : Loc) (m : M) (b : Int) (hw : WF m) (h : CR w lo hi cb L m) (hsz : hi ≤ w.heap.size) :
    Calls Try.prog 22 #[.pointer (some ⟨cb, 0, none⟩), .int .i64 b] w fun e w' => e = .returned (.bool (eraA m b).1) ∧ CR w' lo hi cb L (eraA m b).2 ∧ Only lo hi w w' := by
  cases hb : badB m b with
  | false =>
    obtain ⟨i, rfl, hi', hbd⟩ := badB_no hb
    have e : eraA m (i : Nat) = eraF m i := if_pos hb
    rw [e]
    exact eraR_yes w lo hi cb L m i hw h hb hi' hsz
  | true =>
    have e : eraA m b = (false, m) := if_neg (by rw [hb]; decide)
    rw [e]
    exact (eraR_no w lo hi cb L m b h hb).mono fun e w' ⟨h1, h2⟩ => ⟨h1, by rw [h2]; exact h, by rw [h2]; exact Only.refl _ _ _⟩

theorem isP_yes {m : M} {b p : Int} (h : isP m b p) : ∃ i q : Nat, b = (i : Int) ∧ p = (q : Int) ∧ i < m.nb ∧ q < m.np := by
  obtain ⟨h1, h2, h3⟩ := h
  have h4 := hasB_yes h1
  exact ⟨b.toNat, p.toNat, by omega, by omega, by omega, by omega⟩

theorem scr_any (w : World) (lo hi cb : Nat) (L : Loc) (m : M) (b p : Int) (s : List UInt8) (hw : WF m) (hs : s.length ≤ 140737488351232) (h : CP w lo hi cb L m) :
    Calls Try.prog 29 #[.pointer (some ⟨cb, 0, none⟩), .int .i64 b, .int .i64 p, .string (txt s)] w fun e w' => e = .returned (.tuple #[]) ∧ CP w' lo hi cb L (scrA m b p s) ∧ Only lo hi w w' := by
  by_cases hm : isP m b p
  · obtain ⟨i, q, rfl, rfl, hi', hqn⟩ := isP_yes hm
    have e : scrA m (i : Nat) (q : Nat) s = scrF m i q s := if_pos hm
    rw [e]
    exact scr_yes w lo hi cb L m i q s hw hs h hi' hqn
  · have e : scrA m b p s = m := if_neg hm
    rw [e]
    exact (scr_no w lo hi cb L m b p s h hm).mono fun e w' ⟨h1, h2⟩ => ⟨h1, by rw [h2]; exact h, by rw [h2]; exact Only.refl _ _ _⟩

theorem scrR_any (w : World) (lo hi cb : Nat) (L : Loc) (m : M) (b p : Int) (s : List UInt8) (hw : WF m) (hs : s.length ≤ 140737488351232) (h : CR w lo hi cb L m) (hsz : hi ≤ w.heap.size) :
    Calls Try.prog 30 #[.pointer (some ⟨cb, 0, none⟩), .int .i64 b, .int .i64 p, .string (txt s)] w fun e w' => e = .returned (.tuple #[]) ∧ CR w' lo hi cb L (scrA m b p s) ∧ Only lo hi w w' := by
  by_cases hm : isP m b p
  · obtain ⟨i, q, rfl, rfl, hi', hqn⟩ := isP_yes hm
    have e : scrA m (i : Nat) (q : Nat) s = scrF m i q s := if_pos hm
    rw [e]
    exact scrR_yes w lo hi cb L m i q s hw hs h hi' hqn hsz
  · have e : scrA m b p s = m := if_neg hm
    rw [e]
    exact (scrR_no w lo hi cb L m b p s h hm).mono fun e w' ⟨h1, h2⟩ => ⟨h1, by rw [h2]; exact h, by rw [h2]; exact Only.refl _ _ _⟩

/-! ### They stay well formed. -/
theorem setP_wf {m : M} (h : WF m) (i q : Nat) (s : List UInt8) (hs : s.length ≤ 64) : WF (setP m i q s) :=
  ⟨h.nb1, h.nb2, h.np1, h.np2, h.nx, fun a b ha hb => by
    show (if a = i ∧ b = q then s else m.pg a b).length ≤ 64
    split
    · exact hs
    · exact h.pg a b ha hb, h.life1, h.life2, h.fail1, h.fail2, h.cut1, h.cut2, h.part1, h.part2⟩
theorem setE_wf {m : M} (h : WF m) (i n : Nat) : WF (setE m i n) :=
  ⟨h.nb1, h.nb2, h.np1, h.np2, h.nx, fun a b ha hb => by
    show (if a = i ∧ b < n then [] else m.pg a b).length ≤ 64
    split
    · exact Nat.zero_le _
    · exact h.pg a b ha hb, h.life1, h.life2, h.fail1, h.fail2, h.cut1, h.cut2, h.part1, h.part2⟩
theorem setN_wf {m : M} (h : WF m) (i v : Nat) (hv : v ≤ m.np) : WF (setN m i v) :=
  ⟨h.nb1, h.nb2, h.np1, h.np2, fun a ha => by
    show (if a = i then v else m.nx a) ≤ m.np
    split
    · exact hv
    · exact h.nx a ha, h.pg, h.life1, h.life2, h.fail1, h.fail2, h.cut1, h.cut2, h.part1, h.part2⟩
theorem setB_wf {m : M} (h : WF m) (i : Nat) (v : Bool) : WF (setB m i v) :=
  ⟨h.nb1, h.nb2, h.np1, h.np2, h.nx, h.pg, h.life1, h.life2, h.fail1, h.fail2, h.cut1, h.cut2, h.part1, h.part2⟩

theorem progA_wf {m : M} (h : WF m) (b p : Int) (s : List UInt8) : WF (progA m b p s).2 := by
  unfold progA
  split
  · rename_i hm
    obtain ⟨i, q, rfl, rfl, hi', hbd, hq, hqn, h64⟩ := mayP_yes hm
    simp only [Int.toNat_natCast]
    have ht := tick_wf h
    have hl : ∀ n, (s.take n).length ≤ 64 := fun n => by rw [List.length_take]; omega
    unfold progF
    repeat' split
    · exact setN_wf (setP_wf ht i q s (by omega)) i (q + 1) hqn
    · exact setN_wf (setB_wf (setP_wf ht i q _ (hl _)) i true) i (q + 1) hqn
    · exact setN_wf (setP_wf ht i q _ (hl _)) i (q + 1) hqn
    · exact ht
  · exact h

theorem eraA_wf {m : M} (h : WF m) (b : Int) : WF (eraA m b).2 := by
  unfold eraA
  have ht := tick_wf h
  split
  · unfold eraF
    repeat' split
    · exact setN_wf (setE_wf ht _ _) _ _ (Nat.zero_le _)
    · exact setB_wf ht _ _
    · exact setN_wf (setE_wf ht _ _) _ _ (Nat.le_refl _)
    · exact ht
  · exact h

theorem scrA_wf {m : M} (h : WF m) (b p : Int) (s : List UInt8) : WF (scrA m b p s) := by
  unfold scrA
  split
  · rename_i hm
    obtain ⟨i, q, rfl, rfl, hi', hqn⟩ := isP_yes hm
    simp only [Int.toNat_natCast]
    unfold scrF
    refine setN_wf (setP_wf h i q _ (by rw [List.length_take]; omega)) i _ ?_
    have := h.nx i hi'
    show max (m.nx i) (q + 1) ≤ m.np
    omega
  · exact h

theorem die_wf {m : M} (h : WF m) (a c : Int) : WF { m with life := bnd a 0 1073741824 + 1, cut := prt c } := by
  have h1 := bnd_le a 0 1073741824 (by omega)
  have h2 := prt_le c
  exact ⟨h.nb1, h.nb2, h.np1, h.np2, h.nx, h.pg, by show -1 ≤ bnd a 0 1073741824 + 1; omega, by show bnd a 0 1073741824 + 1 ≤ _; omega, h.fail1, h.fail2, h2.1, h2.2, h.part1, h.part2⟩
theorem fail_wf {m : M} (h : WF m) (a c : Int) : WF { m with fail := bnd a 0 1073741824, part := prt c } := by
  have h1 := bnd_le a 0 1073741824 (by omega)
  have h2 := prt_le c
  exact ⟨h.nb1, h.nb2, h.np1, h.np2, h.nx, h.pg, h.life1, h.life2, by show -1 ≤ bnd a 0 1073741824; omega, h1.2, h.cut1, h.cut2, h2.1, h2.2⟩
theorem power_wf {m : M} (h : WF m) : WF { m with life := -1 } :=
  ⟨h.nb1, h.nb2, h.np1, h.np2, h.nx, h.pg, by show (-1 : Int) ≤ -1; omega, by show (-1 : Int) ≤ _; omega, h.fail1, h.fail2, h.cut1, h.cut2, h.part1, h.part2⟩
end Go.Proofs.Ytodmdkhdbfbfgaa
