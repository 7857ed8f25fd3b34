/- What Program of both chips does. -/
import Derived.Test.YtodmdkhdbfbfgaaChipRead
namespace Go.Proofs.Ytodmdkhdbfbfgaa
open Go.RowKit Pk
set_option linter.unusedVariables false

def setP (m : M) (i p : Nat) (s : List UInt8) : M := { m with pg := fun a b => if a = i ∧ b = p then s else m.pg a b }
def setN (m : M) (i v : Nat) : M := { m with nx := fun a => if a = i then v else m.nx a }
def setB (m : M) (i : Nat) (v : Bool) : M := { m with bd := fun a => if a = i then v else m.bd a }

/-- May this page be programmed? -/
def mayP (m : M) (b p : Int) (s : List UInt8) : Prop := badB m b = false ∧ p = (m.nx b.toNat : Int) ∧ p < (m.np : Int) ∧ s.length = 64

/-- A call that is counted. -/
def tick (m : M) : M := { m with life := (callF m.life m.fail).2.1, fail := (callF m.life m.fail).2.2 }

/-- What programming a page makes of a chip, where it may be. -/
def progF (m : M) (i p : Nat) (s : List UInt8) : Bool × M :=
  if (callF m.life m.fail).1 = 0 then (true, setN (setP (tick m) i p s) i (p + 1))
  else if (callF m.life m.fail).1 = 1 then (false, setN (setB (setP (tick m) i p (s.take m.part.toNat)) i true) i (p + 1))
  else if (callF m.life m.fail).1 = 2 then (false, setN (setP (tick m) i p (s.take m.cut.toNat)) i (p + 1))
  else (false, tick m)

theorem tick_wf {m : M} (h : WF m) : WF (tick m) := by
  have := callF_rng m.life m.fail h.life1 h.life2 h.fail1 h.fail2
  exact ⟨h.nb1, h.nb2, h.np1, h.np2, h.nx, h.pg, this.2.2.1, this.2.2.2.1, this.2.2.2.2.1, this.2.2.2.2.2, h.cut1, h.cut2, h.part1, h.part2⟩

theorem callF_cases (life fail : Int) : (callF life fail).1 = 0 ∨ (callF life fail).1 = 1 ∨ (callF life fail).1 = 2 ∨ (callF life fail).1 = 3 := by
  unfold callF
  repeat' split
  all_goals simp

theorem setB_same {m : M} {i : Nat} (h : m.bd i = false) : setB m i false = m := by
  unfold setB
  have : (fun a => if a = i then false else m.bd a) = m.bd := by
    funext a
    by_cases e : a = i
    · rw [if_pos e, e, h]
    · rw [if_neg e]
  rw [this]

theorem badB_no {m : M} {b : Int} (h : badB m b = false) : ∃ i : Nat, b = (i : Int) ∧ i < m.nb ∧ m.bd i = false := by
  unfold badB at h
  rw [Bool.or_eq_false_iff] at h
  have h1 := hasB_yes (m := m) (b := b) (by simpa using h.1)
  obtain ⟨i, rfl⟩ := Int.eq_ofNat_of_zero_le h1.1
  exact ⟨i, rfl, by omega, by simpa using h.2⟩

set_option maxRecDepth 100000 in
set_option maxHeartbeats 1600000 in
theorem prog_no (w : World) (lo hi cb : Nat) (L : Loc) (m : M) (b p : Int) (s : List UInt8) (hs : s.length ≤ 140737488351232) (h : CP w lo hi cb L m) (hm : ¬ mayP m b p s) :
    Calls Try.prog 19 #[.pointer (some ⟨cb, 0, none⟩), .int .i64 b, .int .i64 p, .string (txt s)] w fun e w' => e = .returned (.bool false) ∧ w' = w := by
  have Hbad := hidI (bad_any w lo hi cb L m b h)
  have c0 := MemX.c0 h
  have c2 := MemX.c2 h
  have hsz : (txt s).size = s.length := txt_size s
  cases hb : badB m b with
  | true =>
    rw [hb] at Hbad
    clear h hm
    go_enter Try.func19, Try.ntmps19
    go_wp2_with fail
    refine Hbad.out.mono ?_
    rintro e w1 ⟨rfl, rfl⟩
    go_wp2
    go_ret
    exact ⟨rfl, rfl⟩
  | false =>
    rw [hb] at Hbad
    obtain ⟨i, rfl, hi', _⟩ := badB_no hb
    have cn := h.next.cell hi'
    by_cases hp : p = (m.nx i : Int)
    · have hd : (p != (m.nx i : Int)) = false := by rw [hp]; simp
      by_cases hn : (m.np : Int) ≤ p
      · have hd2 : decide ((m.np : Int) ≤ p) = true := by simpa using hn
        clear h hm hp
        go_enter Try.func19, Try.ntmps19
        go_wp2_with fail
        refine Hbad.out.mono ?_
        rintro e w1 ⟨rfl, rfl⟩
        go_wp2
        go_ret
        exact ⟨rfl, rfl⟩
      · have hd2 : decide ((m.np : Int) ≤ p) = false := by simpa using hn
        have hl : s.length ≠ 64 := fun e => hm ⟨hb, hp, by omega, e⟩
        have hd3 : (((txt s).size : Int) != 64) = true := by rw [hsz]; simp; omega
        generalize txt s = t at *
        clear h hm hp
        go_enter Try.func19, Try.ntmps19
        go_wp2_with fail
        refine Hbad.out.mono ?_
        rintro e w1 ⟨rfl, rfl⟩
        go_wp2
        go_ret
        exact ⟨rfl, rfl⟩
    · have hd : (p != (m.nx i : Int)) = true := by simpa using hp
      clear h hm hp
      go_enter Try.func19, Try.ntmps19
      go_wp2_with fail
      refine Hbad.out.mono ?_
      rintro e w1 ⟨rfl, rfl⟩
      go_wp2
      go_ret
      exact ⟨rfl, rfl⟩

set_option maxRecDepth 100000 in
set_option maxHeartbeats 1600000 in
theorem progR_no (w : World) (lo hi cb : Nat) (L : Loc) (m : M) (b p : Int) (s : List UInt8) (hs : s.length ≤ 140737488351232) (h : CR w lo hi cb L m) (hm : ¬ mayP m b p s) :
    Calls Try.prog 20 #[.pointer (some ⟨cb, 0, none⟩), .int .i64 b, .int .i64 p, .string (txt s)] w fun e w' => e = .returned (.bool false) ∧ w' = w := by
  have Hbad := hidI (badR_any w lo hi cb L m b h)
  have c0 := MemX.c0 h
  have c2 := MemX.c2 h
  have hsz : (txt s).size = s.length := txt_size s
  cases hb : badB m b with
  | true =>
    rw [hb] at Hbad
    clear h hm
    go_enter Try.func20, Try.ntmps20
    go_wp2_with fail
    refine Hbad.out.mono ?_
    rintro e w1 ⟨rfl, rfl⟩
    go_wp2
    go_ret
    exact ⟨rfl, rfl⟩
  | false =>
    rw [hb] at Hbad
    obtain ⟨i, rfl, hi', _⟩ := badB_no hb
    have cn := h.next.cell hi'
    by_cases hp : p = (m.nx i : Int)
    · have hd : (p != (m.nx i : Int)) = false := by rw [hp]; simp
      by_cases hn : (m.np : Int) ≤ p
      · have hd2 : decide ((m.np : Int) ≤ p) = true := by simpa using hn
        clear h hm hp
        go_enter Try.func20, Try.ntmps20
        go_wp2_with fail
        refine Hbad.out.mono ?_
        rintro e w1 ⟨rfl, rfl⟩
        go_wp2
        go_ret
        exact ⟨rfl, rfl⟩
      · have hd2 : decide ((m.np : Int) ≤ p) = false := by simpa using hn
        have hl : s.length ≠ 64 := fun e => hm ⟨hb, hp, by omega, e⟩
        have hd3 : (((txt s).size : Int) != 64) = true := by rw [hsz]; simp; omega
        generalize txt s = t at *
        clear h hm hp
        go_enter Try.func20, Try.ntmps20
        go_wp2_with fail
        refine Hbad.out.mono ?_
        rintro e w1 ⟨rfl, rfl⟩
        go_wp2
        go_ret
        exact ⟨rfl, rfl⟩
    · have hd : (p != (m.nx i : Int)) = true := by simpa using hp
      clear h hm hp
      go_enter Try.func20, Try.ntmps20
      go_wp2_with fail
      refine Hbad.out.mono ?_
      rintro e w1 ⟨rfl, rfl⟩
      go_wp2
      go_ret
      exact ⟨rfl, rfl⟩

set_option maxRecDepth 100000 in
set_option maxHeartbeats 4000000 in
theorem prog_yes (w : World) (lo hi cb : Nat) (L : Loc) (m : M) (i q : Nat) (s : List UInt8) (hw : WF m) (hs : s.length = 64) (h : CP w lo hi cb L m) (hb : badB m (i : Nat) = false) (hi' : i < m.nb) (hq : q = m.nx i) (hqn : q < m.np) :
    Calls Try.prog 19 #[.pointer (some ⟨cb, 0, none⟩), .int .i64 (i : Nat), .int .i64 (q : Nat), .string (txt s)] w fun e w' => e = .returned (.bool (progF m i q s).1) ∧ CP w' lo hi cb L (progF m i q s).2 ∧ Only lo hi w w' := by
  have Hbad := hidI (bad_any w lo hi cb L m (i : Nat) h)
  rw [hb] at Hbad
  have Hcnt := hidI (count_any w lo hi cb L m hw h)
  have c0 := MemX.c0 h
  have c2 := MemX.c2 h
  have cn := h.next.cell hi'
  rw [← hq] at cn
  have hsz : (txt s).size = 64 := by rw [txt_size]; exact hs
  have htk := fun n (hn : n ≤ 64) => (txt_extract s 0 n : (txt s).extract 0 n = _)
  obtain ⟨t, ht⟩ : ∃ t, t = txt s := ⟨_, rfl⟩
  have Ht := hidI ht
  rw [← ht] at hsz htk ⊢
  have hd3 : ((t.size : Int) != 64) = false := by rw [hsz]; decide
  have ht1 : t.size ≤ 64 := by omega
  have ht2 : 64 ≤ t.size := by omega
  have Htk := hidI htk
  have hd : ((q : Int) != (q : Int)) = false := by simp
  have hd2 : decide ((m.np : Int) ≤ (q : Int)) = false := by simp; omega
  have hp1 := hw.part1
  have hp2 := hw.part2
  have hc1 := hw.cut1
  have hc2 := hw.cut2
  have Hq := hidI hq
  have hq16 : q ≤ 16 := by have := hw.np2; omega
  clear ht htk hsz hb hq
  rcases callF_cases m.life m.fail with hk | hk | hk | hk
  · have Hr : Hid (progF m i q s = (true, setN (setP (tick m) i q s) i (q + 1))) := if_pos hk
    rw [hk] at Hcnt
    clear hk
    go_enter Try.func19, Try.ntmps19
    go_wp2_with fail
    refine Hbad.out.mono ?_
    rintro e w1 ⟨rfl, rfl⟩
    go_wp2_with fail
    refine Hcnt.out.mono ?_
    rintro e w2 ⟨rfl, hm2, ho2⟩
    have d1 := MemX.c1 hm2
    have d2 := MemX.c2 hm2
    have dd := hm2.data.cell hi'
    have dp := (hm2.page i hi').cell hqn
    have dz := (hm2.page i hi').frozen q
    have h3 : CP (w2.setCell ⟨L.rw i, q, none⟩ (.string t)) lo hi cb L (setP (tick m) i q s) := by
      have := MemX.setPage hm2 i q hi' hqn s
      rw [Ht.out]; exact this
    have e2 := MemX.c2 h3
    have en := h3.next.cell hi'
    have ez := h3.next.frozen i
    have h4 : CP ((w2.setCell ⟨L.rw i, q, none⟩ (.string t)).setCell ⟨L.nk, i, none⟩ (.int .i64 ((q + 1 : Nat) : Int))) lo hi cb L (setN (setP (tick m) i q s) i (q + 1)) := MemX.setNx h3 i (q + 1)
    have ho4 : Only lo hi w1 ((w2.setCell ⟨L.rw i, q, none⟩ (.string t)).setCell ⟨L.nk, i, none⟩ (.int .i64 ((q + 1 : Nat) : Int))) := (ho2.set (h.hrw i hi') q _).set h.hnk i _
    have en' : (w2.setCell ⟨L.rw i, q, none⟩ (.string t)).cell? ⟨L.nk, i, none⟩ = some (.int .i64 (q : Nat)) := by rw [en]; show some (Value.int .i64 ((m.nx i : Nat) : Int)) = _; rw [← Hq.out]
    have H4 := hidI h4
    have Ho4 := hidI ho4
    clear h h3 hm2 ho2 h4 ho4 en cn c0 c2
    simp only [id, tick, setP] at d1 d2 dd dp e2
    rw [show ((q + 1 : Nat) : Int) = (q : Int) + 1 by omega] at H4 Ho4
    go_wp2
    go_ret
    refine ⟨ret_bool (by rw [Hr.out]), ?_, Ho4.out⟩
    rw [Hr.out]; exact H4.out
  · have Hr : Hid (progF m i q s = (false, setN (setB (setP (tick m) i q (s.take m.part.toNat)) i true) i (q + 1))) := by unfold progF; rw [hk]; exact rfl
    rw [hk] at Hcnt
    clear hk
    go_enter Try.func19, Try.ntmps19
    go_wp2_with fail
    refine Hbad.out.mono ?_
    rintro e w1 ⟨rfl, rfl⟩
    go_wp2_with fail
    refine Hcnt.out.mono ?_
    rintro e w2 ⟨rfl, hm2, ho2⟩
    obtain ⟨pn, hpn⟩ : ∃ n : Nat, m.part = (n : Int) := Int.eq_ofNat_of_zero_le hp1
    have hpn64 : pn ≤ 63 := by omega
    have d1 := MemX.c1 hm2
    have d7 := MemX.c7 hm2
    have dd := hm2.data.cell hi'
    have dp := (hm2.page i hi').cell hqn
    have dz := (hm2.page i hi').frozen q
    have h3 : CP (w2.setCell ⟨L.rw i, q, none⟩ (.string (t.extract 0 pn))) lo hi cb L (setP (tick m) i q (s.take pn)) := by
      have := MemX.setPage hm2 i q hi' hqn (s.take pn)
      rw [Htk.out pn (by omega)]; exact this
    have e3 := MemX.c3 h3
    have eb := h3.bad.cell hi'
    have ez := h3.bad.frozen i
    have h4 : CP ((w2.setCell ⟨L.rw i, q, none⟩ (.string (t.extract 0 pn))).setCell ⟨L.bk, i, none⟩ (.bool true)) lo hi cb L (setB (setP (tick m) i q (s.take pn)) i true) := MemX.setBd h3 i true
    have f2 := MemX.c2 h4
    have fn := h4.next.cell hi'
    have fz := h4.next.frozen i
    have h5 : CP (((w2.setCell ⟨L.rw i, q, none⟩ (.string (t.extract 0 pn))).setCell ⟨L.bk, i, none⟩ (.bool true)).setCell ⟨L.nk, i, none⟩ (.int .i64 ((q + 1 : Nat) : Int))) lo hi cb L (setN (setB (setP (tick m) i q (s.take pn)) i true) i (q + 1)) := MemX.setNx h4 i (q + 1)
    have ho5 : Only lo hi w1 (((w2.setCell ⟨L.rw i, q, none⟩ (.string (t.extract 0 pn))).setCell ⟨L.bk, i, none⟩ (.bool true)).setCell ⟨L.nk, i, none⟩ (.int .i64 ((q + 1 : Nat) : Int))) := ((ho2.set (h.hrw i hi') q _).set h.hbk i _).set h.hnk i _
    have fn' : ((w2.setCell ⟨L.rw i, q, none⟩ (.string (t.extract 0 pn))).setCell ⟨L.bk, i, none⟩ (.bool true)).cell? ⟨L.nk, i, none⟩ = some (.int .i64 (q : Nat)) := by rw [fn]; show some (Value.int .i64 ((m.nx i : Nat) : Int)) = _; rw [← Hq.out]
    have H5 := hidI h5
    have Ho5 := hidI ho5
    have Hpn := hidI hpn
    clear h h3 hm2 ho2 h4 h5 ho5 fn cn c0 c2 hp1 hp2 hc1 hc2
    simp only [id, tick, setP, setB] at d1 d7 dd dp e3 eb f2
    rw [Hpn.out] at d7
    rw [show ((q + 1 : Nat) : Int) = (q : Int) + 1 by omega] at H5 Ho5
    have hile : (pn : Int) ≤ (t.size : Int) := by omega
    go_wp2
    go_region
    go_wp2
    go_ret
    refine ⟨ret_bool (by rw [Hr.out]), ?_, Ho5.out.drew⟩
    rw [Hr.out, Hpn.out]; exact MemX.drew H5.out
  · have Hr : Hid (progF m i q s = (false, setN (setP (tick m) i q (s.take m.cut.toNat)) i (q + 1))) := by unfold progF; rw [hk]; exact rfl
    rw [hk] at Hcnt
    clear hk
    go_enter Try.func19, Try.ntmps19
    go_wp2_with fail
    refine Hbad.out.mono ?_
    rintro e w1 ⟨rfl, rfl⟩
    go_wp2_with fail
    refine Hcnt.out.mono ?_
    rintro e w2 ⟨rfl, hm2, ho2⟩
    obtain ⟨pn, hpn⟩ : ∃ n : Nat, m.cut = (n : Int) := Int.eq_ofNat_of_zero_le hc1
    have hpn64 : pn ≤ 63 := by omega
    have d1 := MemX.c1 hm2
    have d5 := MemX.c5 hm2
    have dd := hm2.data.cell hi'
    have dp := (hm2.page i hi').cell hqn
    have dz := (hm2.page i hi').frozen q
    have h3 : CP (w2.setCell ⟨L.rw i, q, none⟩ (.string (t.extract 0 pn))) lo hi cb L (setP (tick m) i q (s.take pn)) := by
      have := MemX.setPage hm2 i q hi' hqn (s.take pn)
      rw [Htk.out pn (by omega)]; exact this
    have f2 := MemX.c2 h3
    have fn := h3.next.cell hi'
    have fz := h3.next.frozen i
    have h5 : CP ((w2.setCell ⟨L.rw i, q, none⟩ (.string (t.extract 0 pn))).setCell ⟨L.nk, i, none⟩ (.int .i64 ((q + 1 : Nat) : Int))) lo hi cb L (setN (setP (tick m) i q (s.take pn)) i (q + 1)) := MemX.setNx h3 i (q + 1)
    have ho5 : Only lo hi w1 ((w2.setCell ⟨L.rw i, q, none⟩ (.string (t.extract 0 pn))).setCell ⟨L.nk, i, none⟩ (.int .i64 ((q + 1 : Nat) : Int))) := (ho2.set (h.hrw i hi') q _).set h.hnk i _
    have fn' : (w2.setCell ⟨L.rw i, q, none⟩ (.string (t.extract 0 pn))).cell? ⟨L.nk, i, none⟩ = some (.int .i64 (q : Nat)) := by rw [fn]; show some (Value.int .i64 ((m.nx i : Nat) : Int)) = _; rw [← Hq.out]
    have H5 := hidI h5
    have Ho5 := hidI ho5
    have Hpn := hidI hpn
    clear h h3 hm2 ho2 h5 ho5 fn cn c0 c2 hp1 hp2 hc1 hc2
    simp only [id, tick, setP] at d1 d5 dd dp f2
    rw [Hpn.out] at d5
    rw [show ((q + 1 : Nat) : Int) = (q : Int) + 1 by omega] at H5 Ho5
    have hile : (pn : Int) ≤ (t.size : Int) := by omega
    go_wp2
    go_region
    go_wp2
    go_ret
    refine ⟨ret_bool (by rw [Hr.out]), ?_, Ho5.out.drew⟩
    rw [Hr.out, Hpn.out]; exact MemX.drew H5.out
  · have Hr : Hid (progF m i q s = (false, tick m)) := by unfold progF; rw [hk]; exact rfl
    rw [hk] at Hcnt
    clear hk
    go_enter Try.func19, Try.ntmps19
    go_wp2_with fail
    refine Hbad.out.mono ?_
    rintro e w1 ⟨rfl, rfl⟩
    go_wp2_with fail
    refine Hcnt.out.mono ?_
    rintro e w2 ⟨rfl, hm2, ho2⟩
    have H2 := hidI hm2
    clear hm2 h
    go_wp2
    go_ret
    refine ⟨ret_bool (by rw [Hr.out]), ?_, ho2⟩
    rw [Hr.out]; exact H2.out
end Go.Proofs.Ytodmdkhdbfbfgaa
