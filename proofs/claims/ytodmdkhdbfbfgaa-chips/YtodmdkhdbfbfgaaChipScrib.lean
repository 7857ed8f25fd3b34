/- What Scribble of both chips does. -/
import Derived.Test.YtodmdkhdbfbfgaaChipErase
import Derived.Deep.RegionWith
namespace Go.Proofs.Ytodmdkhdbfbfgaa
open Go.RowKit Pk
set_option linter.unusedVariables false
set_option linter.unusedSimpArgs false

/-- What scribbling on a page makes of a chip. -/
def scrF (m : M) (i q : Nat) (s : List UInt8) : M := setN (setP m i q (s.take 64)) i (max (m.nx i) (q + 1))

/-- Is there such a page? -/
def isP (m : M) (b p : Int) : Prop := hasB m b = true ∧ 0 ≤ p ∧ p < (m.np : Int)

theorem setN_same {m : M} {i v : Nat} (h : m.nx i = v) : setN m i v = m := by
  unfold setN
  have : (fun a => if a = i then v else m.nx a) = m.nx := by
    funext a
    by_cases e : a = i
    · rw [if_pos e, e, h]
    · rw [if_neg e]
  rw [this]

set_option maxRecDepth 100000 in
set_option maxHeartbeats 4000000 in
theorem scr_no (w : World) (lo hi cb : Nat) (L : Loc) (m : M) (b p : Int) (s : List UInt8) (h : CP w lo hi cb L m) (hm : ¬ isP m b p) :
    Calls Try.prog 29 #[.pointer (some ⟨cb, 0, none⟩), .int .i64 b, .int .i64 p, .string (txt s)] w fun e w' => e = .returned (.tuple #[]) ∧ w' = w := by
  have Hhas := hidI (has_any w lo hi cb L m b h)
  have c0 := MemX.c0 h
  have c1 := MemX.c1 h
  generalize txt s = t
  cases hh : hasB m b with
  | false =>
    rw [hh] at Hhas
    clear h hm hh
    go_enter Try.func29, Try.ntmps29
    go_wp2_with fail
    refine Hhas.out.mono ?_
    rintro e w1 ⟨rfl, rfl⟩
    go_wp2
    ((try simp only [Exit.inBlock, Exit.then]); refine bodyPost_ret (results_none rfl _ _ _) rfl ?_)
    exact ⟨rfl, rfl⟩
  | true =>
    have hy := hasB_yes hh
    have hb1 : decide (b < 0) = false := by simp; omega
    have hb2 : decide ((m.nb : Int) ≤ b) = false := by simp; omega
    rw [hh] at Hhas
    by_cases hp : p < 0
    · have hd : decide (p < 0) = true := by simpa using hp
      clear h hm hh
      go_enter Try.func29, Try.ntmps29
      go_wp2_with fail
      refine Hhas.out.mono ?_
      rintro e w1 ⟨rfl, rfl⟩
      go_wp2
      ((try simp only [Exit.inBlock, Exit.then]); refine bodyPost_ret (results_none rfl _ _ _) rfl ?_)
      exact ⟨rfl, rfl⟩
    · have hd : decide (p < 0) = false := by simpa using hp
      have hp2 : (m.np : Int) ≤ p := Int.not_lt.mp (fun e => hm ⟨hh, by omega, e⟩)
      have hd2 : decide ((m.np : Int) ≤ p) = true := by simpa using hp2
      clear h hm hh
      go_enter Try.func29, Try.ntmps29
      go_wp2_with fail
      refine Hhas.out.mono ?_
      rintro e w1 ⟨rfl, rfl⟩
      go_wp2
      ((try simp only [Exit.inBlock, Exit.then]); refine bodyPost_ret (results_none rfl _ _ _) rfl ?_)
      exact ⟨rfl, rfl⟩

set_option maxRecDepth 100000 in
set_option maxHeartbeats 4000000 in
theorem scrR_no (w : World) (lo hi cb : Nat) (L : Loc) (m : M) (b p : Int) (s : List UInt8) (h : CR w lo hi cb L m) (hm : ¬ isP m b p) :
    Calls Try.prog 30 #[.pointer (some ⟨cb, 0, none⟩), .int .i64 b, .int .i64 p, .string (txt s)] w fun e w' => e = .returned (.tuple #[]) ∧ w' = w := by

  have c0 := MemX.c0 h
  have c1 := MemX.c1 h
  generalize txt s = t
  cases hh : hasB m b with
  | false =>
    rcases hasB_no hh with hn | hn
    · have hd : decide (b < 0) = true := by simpa using hn
      clear h hm hh
      go_enter Try.func30, Try.ntmps30
      go_wp2
      ((try simp only [Exit.inBlock, Exit.then]); refine bodyPost_ret (results_none rfl _ _ _) rfl ?_)
      exact ⟨rfl, rfl⟩
    · have hd : decide ((m.nb : Int) ≤ b) = true := by simpa using hn
      have hd2 : decide (b < 0) = false := by simp; omega
      clear h hm hh
      go_enter Try.func30, Try.ntmps30
      go_wp2
      ((try simp only [Exit.inBlock, Exit.then]); refine bodyPost_ret (results_none rfl _ _ _) rfl ?_)
      exact ⟨rfl, rfl⟩
  | true =>
    have hy := hasB_yes hh
    have hb1 : decide (b < 0) = false := by simp; omega
    have hb2 : decide ((m.nb : Int) ≤ b) = false := by simp; omega

    by_cases hp : p < 0
    · have hd : decide (p < 0) = true := by simpa using hp
      clear h hm hh
      go_enter Try.func30, Try.ntmps30
      go_wp2
      ((try simp only [Exit.inBlock, Exit.then]); refine bodyPost_ret (results_none rfl _ _ _) rfl ?_)
      exact ⟨rfl, rfl⟩
    · have hd : decide (p < 0) = false := by simpa using hp
      have hp2 : (m.np : Int) ≤ p := Int.not_lt.mp (fun e => hm ⟨hh, by omega, e⟩)
      have hd2 : decide ((m.np : Int) ≤ p) = true := by simpa using hp2
      clear h hm hh
      go_enter Try.func30, Try.ntmps30
      go_wp2
      ((try simp only [Exit.inBlock, Exit.then]); refine bodyPost_ret (results_none rfl _ _ _) rfl ?_)
      exact ⟨rfl, rfl⟩

set_option maxRecDepth 100000 in
set_option maxHeartbeats 4000000 in
theorem scr_yes (w : World) (lo hi cb : Nat) (L : Loc) (m : M) (i q : Nat) (s : List UInt8) (hw : WF m) (hs : s.length ≤ 140737488351232) (h : CP w lo hi cb L m) (hi' : i < m.nb) (hqn : q < m.np) :
    Calls Try.prog 29 #[.pointer (some ⟨cb, 0, none⟩), .int .i64 (i : Nat), .int .i64 (q : Nat), .string (txt s)] w fun e w' => e = .returned (.tuple #[]) ∧ CP w' lo hi cb L (scrF m i q s) ∧ Only lo hi w w' := by
  have Hhas := hidI (has_any w lo hi cb L m (i : Nat) h)
  have hh : hasB m (i : Nat) = true := by simp [hasB]; omega
  rw [hh] at Hhas
  have c0 := MemX.c0 h
  have c1 := MemX.c1 h
  have cd := h.data.cell hi'
  have cp := (h.page i hi').cell hqn
  have cf := (h.page i hi').frozen q
  have hd : decide ((q : Int) < 0) = false := by simp
  have hd2 : decide ((m.np : Int) ≤ (q : Int)) = false := by simp; omega
  have hsz : (txt s).size = s.length := txt_size s
  have hq16 : q ≤ 16 := by have := hw.np2; omega
  have hx16 : m.nx i ≤ 16 := by have := hw.nx i hi'; have := hw.np2; omega
  obtain ⟨n, hn⟩ : ∃ n, n = min s.length 64 := ⟨_, rfl⟩
  have hex : (txt s).extract 0 n = txt (s.take 64) := by
    rw [txt_extract, hn]
    congr 1
    simp only [List.drop_zero, Nat.sub_zero]
    by_cases e : s.length ≤ 64
    · rw [Nat.min_eq_left e, List.take_of_length_le e, List.take_of_length_le (Nat.le_refl _)]
    · rw [Nat.min_eq_right (by omega)]
  obtain ⟨Y, hY⟩ : ∃ Y, Y = txt (s.take 64) := ⟨_, rfl⟩
  have h3 : CP (w.setCell ⟨L.rw i, q, none⟩ (.string Y)) lo hi cb L (setP m i q (s.take 64)) := by
    have := MemX.setPage h i q hi' hqn (s.take 64)
    rw [hY]; exact this
  have ho3 : Only lo hi w (w.setCell ⟨L.rw i, q, none⟩ (.string Y)) := (Only.refl _ _ _).set (h.hrw i hi') q _
  have hnkb := h.hnk
  rw [← hY] at hex
  obtain ⟨t, ht⟩ : ∃ t, t = txt s := ⟨_, rfl⟩
  rw [← ht] at hex hsz ⊢
  have Hex := hidI hex
  have hnt : n ≤ t.size := by omega
  have hnt2 : (n : Int) ≤ (t.size : Int) := by omega
  have htb : t.size ≤ 140737488351232 := by omega
  have H3 := hidI h3
  have Ho3 := hidI ho3
  simp only [id] at cp
  clear h3 ho3 h hh ht hY hex
  by_cases hl : s.length ≤ 64
  · have hne : (t.size : Int) = (n : Int) := by omega
    have Hne := hidI hne
    have hdm : decide ((t.size : Int) ≤ 64) = true := by simp; omega
    have htn : t.size = n := by omega
    have Htn := hidI htn
    have ht64 : t.size ≤ 64 := by omega
    clear hn hl hne htn hsz
    have hte : t.extract 0 n = t := by rw [← Htn.out]; exact ByteArray.extract_zero_size
    have hyt : Y = t := Hex.out.symm.trans hte
    subst hyt
    clear hte Hex Htn Hne hnt hnt2
    go_enter Try.func29, Try.ntmps29
    go_wp2_with fail
    refine Hhas.out.mono ?_
    rintro e w1 ⟨rfl, rfl⟩
    go_wp2
    go_region
    have hmW : CP (w1.setCell ⟨L.rw i, q, none⟩ (.string Y)).drew lo hi cb L (setP m i q (s.take 64)) := MemX.drew H3.out
    have hoW : Only lo hi w1 (w1.setCell ⟨L.rw i, q, none⟩ (.string Y)).drew := Ho3.out.drew
    generalize (w1.setCell ⟨L.rw i, q, none⟩ (.string Y)).drew = W at hmW hoW ⊢
    clear H3 Ho3 c0 c1 cd cp cf Hhas
    have d2 := MemX.c2 hmW
    have dn := hmW.next.cell hi'
    have df := hmW.next.frozen i
    simp only [setP] at d2 dn
    by_cases hx : m.nx i ≤ q + 1
    · have hmN := MemX.setNx hmW i (q + 1)
      have hoN := hoW.set hnkb i (.int .i64 ((q + 1 : Nat) : Int))
      have Hr : Hid (scrF m i q s = setN (setP m i q (s.take 64)) i (q + 1)) := (by show scrF m i q s = _; unfold scrF; rw [Nat.max_eq_right hx])
      have Hm := hidI hmN
      have Ho := hidI hoN
      clear hmN hoN hmW hoW
      rw [show ((q + 1 : Nat) : Int) = (q : Int) + 1 by omega] at Hm Ho
      have hx1 : (m.nx i : Int) ≤ (q : Int) + 1 := by omega
      have hx2 : decide ((m.nx i : Int) ≤ (q : Int) + 1) = true := by simpa using hx1
      by_cases hx3 : m.nx i = q + 1
      · have hx4 : (m.nx i : Int) = (q : Int) + 1 := by omega
        have Hx4 := hidI hx4
        rw [hx4] at dn
        clear hx hx1 hx2 hx3 hx4 hx16
        go_wp2
        go_region
        go_end0
        refine ⟨rfl, ?_, Ho.out.drew⟩
        rw [Hr.out]; exact MemX.drew Hm.out
      · have hx5 : m.nx i < q + 1 := by omega
        have hx6 : (m.nx i : Int) < (q : Int) + 1 := by omega
        have hx7 : decide ((m.nx i : Int) < (q : Int) + 1) = true := by simpa using hx6
        have hx8 : decide ((q : Int) + 1 < (m.nx i : Int)) = false := by simp; omega
        generalize m.nx i = x at *
        clear hx hx3
        go_wp2
        go_region
        go_end0
        refine ⟨rfl, ?_, Ho.out.drew⟩
        rw [Hr.out]; exact MemX.drew Hm.out
    · have Hr : Hid (scrF m i q s = setN (setP m i q (s.take 64)) i (m.nx i)) := (by show scrF m i q s = _; unfold scrF; rw [Nat.max_eq_left (by omega)])
      have hmN := MemX.setNx hmW i (m.nx i)
      have hoN := hoW.set hnkb i (.int .i64 ((m.nx i : Nat) : Int))
      have Hm := hidI hmN
      have Ho := hidI hoN
      clear hmN hoN hmW hoW
      have hx1 : (q : Int) + 1 < (m.nx i : Int) := by omega
      have hx2 : decide ((m.nx i : Int) ≤ (q : Int) + 1) = false := by simp; omega
      have hx3 : decide ((m.nx i : Int) < (q : Int) + 1) = false := by simp; omega
      have hx4 : decide ((q : Int) + 1 < (m.nx i : Int)) = true := by simpa using hx1
      go_wp2
      go_region
      go_end0
      refine ⟨rfl, ?_, Ho.out.drew⟩
      rw [Hr.out]; exact MemX.drew Hm.out

  · have hne : n = 64 := by omega
    subst hne
    have hdm : decide ((t.size : Int) ≤ 64) = false := by simp; omega
    have ht64 : 64 < t.size := by omega
    clear hn hl hsz
    have hyt : t.extract 0 64 = Y := Hex.out
    rw [← hyt] at H3 Ho3
    clear hyt Hex
    go_enter Try.func29, Try.ntmps29
    go_wp2_with fail
    refine Hhas.out.mono ?_
    rintro e w1 ⟨rfl, rfl⟩
    go_wp2
    go_region
    have hmW : CP (w1.setCell ⟨L.rw i, q, none⟩ (.string (t.extract 0 64))).drew lo hi cb L (setP m i q (s.take 64)) := MemX.drew H3.out
    have hoW : Only lo hi w1 (w1.setCell ⟨L.rw i, q, none⟩ (.string (t.extract 0 64))).drew := Ho3.out.drew
    generalize (w1.setCell ⟨L.rw i, q, none⟩ (.string (t.extract 0 64))).drew = W at hmW hoW ⊢
    clear H3 Ho3 c0 c1 cd cp cf Hhas
    have d2 := MemX.c2 hmW
    have dn := hmW.next.cell hi'
    have df := hmW.next.frozen i
    simp only [setP] at d2 dn
    by_cases hx : m.nx i ≤ q + 1
    · have hmN := MemX.setNx hmW i (q + 1)
      have hoN := hoW.set hnkb i (.int .i64 ((q + 1 : Nat) : Int))
      have Hr : Hid (scrF m i q s = setN (setP m i q (s.take 64)) i (q + 1)) := (by show scrF m i q s = _; unfold scrF; rw [Nat.max_eq_right hx])
      have Hm := hidI hmN
      have Ho := hidI hoN
      clear hmN hoN hmW hoW
      rw [show ((q + 1 : Nat) : Int) = (q : Int) + 1 by omega] at Hm Ho
      have hx1 : (m.nx i : Int) ≤ (q : Int) + 1 := by omega
      have hx2 : decide ((m.nx i : Int) ≤ (q : Int) + 1) = true := by simpa using hx1
      by_cases hx3 : m.nx i = q + 1
      · have hx4 : (m.nx i : Int) = (q : Int) + 1 := by omega
        have Hx4 := hidI hx4
        rw [hx4] at dn
        clear hx hx1 hx2 hx3 hx4 hx16
        go_wp2
        go_region
        go_end0
        refine ⟨rfl, ?_, Ho.out.drew⟩
        rw [Hr.out]; exact MemX.drew Hm.out
      · have hx5 : m.nx i < q + 1 := by omega
        have hx6 : (m.nx i : Int) < (q : Int) + 1 := by omega
        have hx7 : decide ((m.nx i : Int) < (q : Int) + 1) = true := by simpa using hx6
        have hx8 : decide ((q : Int) + 1 < (m.nx i : Int)) = false := by simp; omega
        generalize m.nx i = x at *
        clear hx hx3
        go_wp2
        go_region
        go_end0
        refine ⟨rfl, ?_, Ho.out.drew⟩
        rw [Hr.out]; exact MemX.drew Hm.out
    · have Hr : Hid (scrF m i q s = setN (setP m i q (s.take 64)) i (m.nx i)) := (by show scrF m i q s = _; unfold scrF; rw [Nat.max_eq_left (by omega)])
      have hmN := MemX.setNx hmW i (m.nx i)
      have hoN := hoW.set hnkb i (.int .i64 ((m.nx i : Nat) : Int))
      have Hm := hidI hmN
      have Ho := hidI hoN
      clear hmN hoN hmW hoW
      have hx1 : (q : Int) + 1 < (m.nx i : Int) := by omega
      have hx2 : decide ((m.nx i : Int) ≤ (q : Int) + 1) = false := by simp; omega
      have hx3 : decide ((m.nx i : Int) < (q : Int) + 1) = false := by simp; omega
      have hx4 : decide ((q : Int) + 1 < (m.nx i : Int)) = true := by simpa using hx1
      go_wp2
      go_region
      go_end0
      refine ⟨rfl, ?_, Ho.out.drew⟩
      rw [Hr.out]; exact MemX.drew Hm.out

set_option maxRecDepth 100000 in
set_option maxHeartbeats 4000000 in
theorem scrR_yes (w : World) (lo hi cb : Nat) (L : Loc) (m : M) (i q : Nat) (s : List UInt8) (hw : WF m) (hs : s.length ≤ 140737488351232) (h : CR w lo hi cb L m) (hi' : i < m.nb) (hqn : q < m.np) (hsz' : hi ≤ w.heap.size) :
    Calls Try.prog 30 #[.pointer (some ⟨cb, 0, none⟩), .int .i64 (i : Nat), .int .i64 (q : Nat), .string (txt s)] w fun e w' => e = .returned (.tuple #[]) ∧ CR w' lo hi cb L (scrF m i q s) ∧ Only lo hi w w' := by
  have c0 := MemX.c0 h
  have c1 := MemX.c1 h
  have cd := h.data.cell hi'
  have hb1 : decide ((i : Int) < 0) = false := by simp
  have hb2 : decide ((m.nb : Int) ≤ (i : Int)) = false := by simp; omega
  have hd : decide ((q : Int) < 0) = false := by simp
  have hd2 : decide ((m.np : Int) ≤ (q : Int)) = false := by simp; omega
  have hsz : (txt s).size = s.length := txt_size s
  have hq16 : q ≤ 16 := by have := hw.np2; omega
  have hx16 : m.nx i ≤ 16 := by have := hw.nx i hi'; have := hw.np2; omega
  obtain ⟨n, hn⟩ : ∃ n, n = min s.length 64 := ⟨_, rfl⟩
  have htk : s.take n = s.take 64 := by
    rw [hn]
    by_cases e : s.length ≤ 64
    · rw [Nat.min_eq_left e, List.take_of_length_le e, List.take_of_length_le (Nat.le_refl _)]
    · rw [Nat.min_eq_right (by omega)]
  have hbn : bnd ((txt s).size : Nat) 0 64 = (n : Int) := by
    rw [hsz, hn]
    unfold bnd
    by_cases e : s.length ≤ 64
    · rw [if_neg (by omega), if_neg (by omega), Nat.min_eq_left e]
    · rw [if_neg (by omega), if_pos (by omega), Nat.min_eq_right (by omega)]; rfl
  have Hbt := hidI (fun w => between_any ((txt s).size : Nat) 0 64 (by omega) w)
  rw [hbn] at Hbt
  have Hfr := hidI (fun w => front_any s n (by omega) (by omega) hs w)
  rw [htk] at Hfr
  obtain ⟨Y, hY⟩ : ∃ Y, Y = txt (pad (s.take 64)) := ⟨_, rfl⟩
  have HY := hidI hY
  rw [← hY] at Hfr
  have hnkb := h.hnk
  have hrwb := h.hrw i hi'
  obtain ⟨t, ht⟩ : ∃ t, t = txt s := ⟨_, rfl⟩
  rw [← ht] at Hfr Hbt hsz ⊢
  have htb : t.size ≤ 140737488351232 := by omega
  have Hm := hidI h
  clear h ht hY hbn htk hn hsz
  go_enter Try.func30, Try.ntmps30
  go_wp2
  go_region_with (first | (go_at_call 49; refine (Hbt.out _).mono ?_; rintro e w2 ⟨rfl, rfl⟩) | (go_at_call 55; refine (Hfr.out _).mono ?_; rintro e w3 ⟨rfl, hb3⟩; have hm3 := MemX.below (MemX.drew Hm.out) hsz' hb3; have z1 := MemX.c1 hm3; have zd := hm3.data.cell hi'; have zp := (hm3.page i hi').cell hqn; have zf := (hm3.page i hi').frozen q; have Hm3 := hidI hm3; have Hb3 := hidI hb3; clear hm3 hb3))
  all_goals have hmW : CR (w3.setCell ⟨L.rw i, q, none⟩ (.string Y)) lo hi cb L (setP m i q (s.take 64)) := (by
    have := MemX.setPage Hm3.out i q hi' hqn (s.take 64)
    rw [HY.out]; exact this)
  all_goals have hoW : Only lo hi w (w3.setCell ⟨L.rw i, q, none⟩ (.string Y)) := ((Only.refl lo hi w).drew.trans (Only.of_below Hb3.out)).set hrwb q _
  all_goals generalize w3.setCell ⟨L.rw i, q, none⟩ (.string Y) = W at hmW hoW ⊢
  all_goals clear Hm c0 c1 cd z1 zd zp zf Hm3 Hb3
  all_goals have d2 := MemX.c2 hmW
  all_goals have dn := hmW.next.cell hi'
  all_goals have df := hmW.next.frozen i
  all_goals simp only [setP] at d2 dn
  all_goals (
    by_cases hx : m.nx i < q + 1
    · have hmN := MemX.setNx hmW i (q + 1)
      have hoN := hoW.set hnkb i (.int .i64 ((q + 1 : Nat) : Int))
      have Hr : Hid (scrF m i q s = setN (setP m i q (s.take 64)) i (q + 1)) := (by show scrF m i q s = _; unfold scrF; rw [Nat.max_eq_right (by omega)])
      have Hm := hidI hmN
      have Ho := hidI hoN
      clear hmN hoN hmW hoW
      rw [show ((q + 1 : Nat) : Int) = (q : Int) + 1 by omega] at Hm Ho
      have hx1 : (m.nx i : Int) < (q : Int) + 1 := by omega
      have hx2 : decide ((m.nx i : Int) < (q : Int) + 1) = true := by simpa using hx1
      go_wp2
      go_end0
      refine ⟨rfl, ?_, Ho.out⟩
      rw [Hr.out]; exact Hm.out
    · have Hr : Hid (scrF m i q s = setP m i q (s.take 64)) := (by show scrF m i q s = _; unfold scrF; rw [Nat.max_eq_left (by omega)]; exact setN_same rfl)
      have hx2 : decide ((m.nx i : Int) < (q : Int) + 1) = false := by simp; omega
      have Hm := hidI hmW
      have Ho := hidI hoW
      clear hmW hoW
      go_wp2
      go_end0
      refine ⟨rfl, ?_, Ho.out⟩
      rw [Hr.out]; exact Hm.out)

end Go.Proofs.Ytodmdkhdbfbfgaa
