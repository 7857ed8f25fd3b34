/- What Program of the document's own chip does, where it may be. -/
import Derived.Test.YtodmdkhdbfbfgaaChipProg
import Derived.Deep.RegionWith
namespace Go.Proofs.Ytodmdkhdbfbfgaa
open Go.RowKit Pk
set_option linter.unusedVariables false

set_option maxRecDepth 100000 in
set_option maxHeartbeats 4000000 in
theorem progR_three (w : World) (lo hi cb : Nat) (L : Loc) (m : M) (i q : Nat) (s : List UInt8) (hw : WF m) (hs : s.length = 64) (h : CR w lo hi cb L m) (hb : badB m (i : Nat) = false) (hi' : i < m.nb) (hq : q = m.nx i) (hqn : q < m.np) (hk : (callF m.life m.fail).1 = 3) :
    Calls Try.prog 20 #[.pointer (some ⟨cb, 0, none⟩), .int .i64 (i : Nat), .int .i64 (q : Nat), .string (txt s)] w fun e w' => e = .returned (.bool (progF m i q s).1) ∧ CR w' lo hi cb L (progF m i q s).2 ∧ Only lo hi w w' := by
  have Hbad := hidI (badR_any w lo hi cb L m (i : Nat) h)
  rw [hb] at Hbad
  have Hcnt := hidI (countR_any w lo hi cb L m hw h)
  have c0 := MemX.c0 h
  have c2 := MemX.c2 h
  have cn := h.next.cell hi'
  rw [← hq] at cn
  have hsz : (txt s).size = 64 := by rw [txt_size]; exact hs
  have hd3 : (((txt s).size : Int) != 64) = false := by rw [hsz]; decide
  have hd : ((q : Int) != (q : Int)) = false := by simp
  have hd2 : decide ((m.np : Int) ≤ (q : Int)) = false := by simp; omega
  have Hr : Hid (progF m i q s = (false, tick m)) := by unfold progF; rw [hk]; exact rfl
  rw [hk] at Hcnt
  generalize txt s = t at *
  clear hk hb hq h
  go_enter Try.func20, Try.ntmps20
  go_wp2_with fail
  refine Hbad.out.mono ?_
  rintro e w1 ⟨rfl, rfl⟩
  go_wp2_with fail
  refine Hcnt.out.mono ?_
  rintro e w2 ⟨rfl, hm2, ho2⟩
  have H2 := hidI hm2
  clear hm2
  go_wp2
  go_ret
  refine ⟨ret_bool (by rw [Hr.out]), ?_, ho2⟩
  rw [Hr.out]; exact H2.out

set_option maxRecDepth 100000 in
set_option maxHeartbeats 4000000 in
theorem progR_done (w : World) (lo hi cb : Nat) (L : Loc) (m : M) (i q : Nat) (s : List UInt8) (hw : WF m) (hs : s.length = 64) (h : CR w lo hi cb L m) (hb : badB m (i : Nat) = false) (hi' : i < m.nb) (hbd : m.bd i = false) (hq : q = m.nx i) (hqn : q < m.np) (hsz' : hi ≤ w.heap.size)
    (k : Nat) (hk3 : k < 3) (hk : (callF m.life m.fail).1 = (k : Int)) (n : Nat) (hn : n ≤ 64) (hnn : (n : Int) = if k = 0 then 64 else if k = 1 then m.part else m.cut) :
    Calls Try.prog 20 #[.pointer (some ⟨cb, 0, none⟩), .int .i64 (i : Nat), .int .i64 (q : Nat), .string (txt s)] w fun e w' => e = .returned (.bool (decide (k = 0))) ∧ CR w' lo hi cb L (setB (setN (setP (tick m) i q (s.take n)) i (q + 1)) i (decide (k = 1))) ∧ Only lo hi w w' := by
  have Hbad := hidI (badR_any w lo hi cb L m (i : Nat) h)
  rw [hb] at Hbad
  have Hcnt := hidI (countR_any w lo hi cb L m hw h)
  rw [hk] at Hcnt
  have c0 := MemX.c0 h
  have c2 := MemX.c2 h
  have cn := h.next.cell hi'
  rw [← hq] at cn
  have hsz : (txt s).size = 64 := by rw [txt_size]; exact hs
  have hd3 : (((txt s).size : Int) != 64) = false := by rw [hsz]; decide
  have hd : ((q : Int) != (q : Int)) = false := by simp
  have hd2 : decide ((m.np : Int) ≤ (q : Int)) = false := by simp; omega
  have Hfr := hidI (fun w => front_any s n hn (by omega) (by omega) w)
  have Hq := hidI hq
  have hq16 : q ≤ 16 := by have := hw.np2; omega
  generalize txt s = t at *
  generalize hY : txt (pad (s.take n)) = Y at *
  have HY := hidI hY
  clear hY
  clear hk hb hq hsz hs
  have hrwb := h.hrw i hi'
  have hnkb := h.hnk
  have hbkb := h.hbk
  have Hnn := hidI hnn
  clear hnn
  have hk' : k = 0 ∨ k = 1 ∨ k = 2 := by omega
  rcases hk' with rfl | rfl | rfl
  · go_enter Try.func20, Try.ntmps20
    go_wp2_with fail
    refine Hbad.out.mono ?_
    rintro e w1 ⟨rfl, rfl⟩
    go_wp2_with fail
    refine Hcnt.out.mono ?_
    rintro e w2 ⟨rfl, hm2, ho2⟩
    have hs2 := ho2.size
    have d7 := MemX.c7 hm2
    have d6 := MemX.c6 hm2
    have hn64 : n = 64 := by have := Hnn.out; simp at this; omega
    subst hn64
    have hsh : hi ≤ w2.heap.size := Nat.le_trans hsz' hs2
    have hmW : CR (w2.alloc (.cells #[.int .i64 64, .int .i64 m.part, .int .i64 m.cut] 3)).drew lo hi cb L (tick m) := MemX.drew (MemX.below hm2 hsh ((Below.refl _ _).alloc (Nat.le_refl _) _))
    have hoW : Only lo hi w1 (w2.alloc (.cells #[.int .i64 64, .int .i64 m.part, .int .i64 m.cut] 3)).drew := (ho2.alloc _).drew
    have hzW : hi ≤ (w2.alloc (.cells #[.int .i64 64, .int .i64 m.part, .int .i64 m.cut] 3)).drew.heap.size := by simp; omega
    clear hm2 h cn c0 c2 ho2
    simp only [] at d6 d7
    go_wp2
    go_region
    generalize (w2.alloc (.cells #[.int .i64 64, .int .i64 m.part, .int .i64 m.cut] 3)).drew = W at hmW hoW hzW ⊢
    have d1 := MemX.c1 hmW
    have dd := hmW.data.cell hi'
    have Hm := hidI hmW
    clear hmW d6 d7
    simp only [tick] at d1 dd
    have Hfr2 : Hid (∀ w, Calls Try.prog 55 #[.string t, .int .i64 64] w fun e w' => e = .returned (.string Y) ∧ Below w.heap.size w w') := Hfr
    clear Hfr
    go_wp2
    go_region_with (go_at_call 55; refine (Hfr2.out _).mono ?_; rintro e w3 ⟨rfl, hb3⟩; have hm3 := MemX.below (MemX.drew Hm.out) hzW hb3; have z1 := MemX.c1 hm3; have zd := hm3.data.cell hi'; have zp := (hm3.page i hi').cell hqn; have zf := (hm3.page i hi').frozen q; have Hm3 := hidI hm3; clear hm3; simp only [tick] at z1 zd zp)
    all_goals have h4 : CR (w3.setCell ⟨L.rw i, q, none⟩ (.string Y)) lo hi cb L (setP (tick m) i q (s.take 64)) := (by
      have := MemX.setPage Hm3.out i q hi' hqn (s.take 64)
      rw [← HY.out]; exact this)
    all_goals have h5 : CR ((w3.setCell ⟨L.rw i, q, none⟩ (.string Y)).setCell ⟨L.nk, i, none⟩ (.int .i64 ((q : Int) + 1))) lo hi cb L (setN (setP (tick m) i q (s.take 64)) i (q + 1)) := MemX.setNx h4 i (q + 1)
    all_goals have h6 : CR (((w3.setCell ⟨L.rw i, q, none⟩ (.string Y)).setCell ⟨L.nk, i, none⟩ (.int .i64 ((q : Int) + 1))).setCell ⟨L.bk, i, none⟩ (.bool false)) lo hi cb L (setB (setN (setP (tick m) i q (s.take 64)) i (q + 1)) i false) := MemX.setBd h5 i false
    all_goals have ho6 : Only lo hi w1 (((w3.setCell ⟨L.rw i, q, none⟩ (.string Y)).setCell ⟨L.nk, i, none⟩ (.int .i64 ((q : Int) + 1))).setCell ⟨L.bk, i, none⟩ (.bool false)) := (((hoW.trans ((Only.refl lo hi W).drew.trans (Only.of_below hb3))).set hrwb q _).set hnkb i _).set hbkb i _
    all_goals have y2 := MemX.c2 h4
    all_goals have yn := h4.next.cell hi'
    all_goals have yf := h4.next.frozen i
    all_goals have x3 := MemX.c3 h5
    all_goals have xb := h5.bad.cell hi'
    all_goals have xf := h5.bad.frozen i
    all_goals have yn' : (w3.setCell ⟨L.rw i, q, none⟩ (.string Y)).cell? ⟨L.nk, i, none⟩ = some (.int .i64 (q : Nat)) := (by rw [yn]; show some (Value.int .i64 ((m.nx i : Nat) : Int)) = _; rw [← Hq.out])
    all_goals have H6 := hidI h6
    all_goals have Ho6 := hidI ho6
    all_goals clear h4 h5 h6 ho6 yn hb3 z1 zd zp zf
    all_goals simp only [tick, setP, setN] at y2 x3 xb
    all_goals go_wp2
    all_goals go_ret
    all_goals exact ⟨rfl, H6.out, Ho6.out⟩
  · go_enter Try.func20, Try.ntmps20
    go_wp2_with fail
    refine Hbad.out.mono ?_
    rintro e w1 ⟨rfl, rfl⟩
    go_wp2_with fail
    refine Hcnt.out.mono ?_
    rintro e w2 ⟨rfl, hm2, ho2⟩
    have hs2 := ho2.size
    have d7 := MemX.c7 hm2
    have d6 := MemX.c6 hm2
    have hpe : m.part = (n : Int) := by have := Hnn.out; simp at this; omega
    have Hpe := hidI hpe
    clear hpe
    have hsh : hi ≤ w2.heap.size := Nat.le_trans hsz' hs2
    have hmW : CR (w2.alloc (.cells #[.int .i64 64, .int .i64 (n : Nat), .int .i64 m.cut] 3)).drew lo hi cb L (tick m) := MemX.drew (MemX.below hm2 hsh ((Below.refl _ _).alloc (Nat.le_refl _) _))
    have hoW : Only lo hi w1 (w2.alloc (.cells #[.int .i64 64, .int .i64 (n : Nat), .int .i64 m.cut] 3)).drew := (ho2.alloc _).drew
    have hzW : hi ≤ (w2.alloc (.cells #[.int .i64 64, .int .i64 (n : Nat), .int .i64 m.cut] 3)).drew.heap.size := by simp; omega
    clear hm2 h cn c0 c2 ho2
    simp only [] at d6 d7
    rw [Hpe.out] at d7
    go_wp2
    go_region
    generalize (w2.alloc (.cells #[.int .i64 64, .int .i64 (n : Nat), .int .i64 m.cut] 3)).drew = W at hmW hoW hzW ⊢
    have d1 := MemX.c1 hmW
    have dd := hmW.data.cell hi'
    have Hm := hidI hmW
    clear hmW d6 d7
    simp only [tick] at d1 dd
    have Hfr2 : Hid (∀ w, Calls Try.prog 55 #[.string t, .int .i64 (n : Nat)] w fun e w' => e = .returned (.string Y) ∧ Below w.heap.size w w') := Hfr
    clear Hfr
    go_wp2
    go_region_with (go_at_call 55; refine (Hfr2.out _).mono ?_; rintro e w3 ⟨rfl, hb3⟩; have hm3 := MemX.below (MemX.drew Hm.out) hzW hb3; have z1 := MemX.c1 hm3; have zd := hm3.data.cell hi'; have zp := (hm3.page i hi').cell hqn; have zf := (hm3.page i hi').frozen q; have Hm3 := hidI hm3; clear hm3; simp only [tick] at z1 zd zp)
    all_goals have h4 : CR (w3.setCell ⟨L.rw i, q, none⟩ (.string Y)) lo hi cb L (setP (tick m) i q (s.take n)) := (by
      have := MemX.setPage Hm3.out i q hi' hqn (s.take n)
      rw [← HY.out]; exact this)
    all_goals have h5 : CR ((w3.setCell ⟨L.rw i, q, none⟩ (.string Y)).setCell ⟨L.nk, i, none⟩ (.int .i64 ((q : Int) + 1))) lo hi cb L (setN (setP (tick m) i q (s.take n)) i (q + 1)) := MemX.setNx h4 i (q + 1)
    all_goals have h6 : CR (((w3.setCell ⟨L.rw i, q, none⟩ (.string Y)).setCell ⟨L.nk, i, none⟩ (.int .i64 ((q : Int) + 1))).setCell ⟨L.bk, i, none⟩ (.bool true)) lo hi cb L (setB (setN (setP (tick m) i q (s.take n)) i (q + 1)) i true) := MemX.setBd h5 i true
    all_goals have ho6 : Only lo hi w1 (((w3.setCell ⟨L.rw i, q, none⟩ (.string Y)).setCell ⟨L.nk, i, none⟩ (.int .i64 ((q : Int) + 1))).setCell ⟨L.bk, i, none⟩ (.bool true)) := (((hoW.trans ((Only.refl lo hi W).drew.trans (Only.of_below hb3))).set hrwb q _).set hnkb i _).set hbkb i _
    all_goals have y2 := MemX.c2 h4
    all_goals have yn := h4.next.cell hi'
    all_goals have yf := h4.next.frozen i
    all_goals have x3 := MemX.c3 h5
    all_goals have xb := h5.bad.cell hi'
    all_goals have xf := h5.bad.frozen i
    all_goals have yn' : (w3.setCell ⟨L.rw i, q, none⟩ (.string Y)).cell? ⟨L.nk, i, none⟩ = some (.int .i64 (q : Nat)) := (by rw [yn]; show some (Value.int .i64 ((m.nx i : Nat) : Int)) = _; rw [← Hq.out])
    all_goals have H6 := hidI h6
    all_goals have Ho6 := hidI ho6
    all_goals clear h4 h5 h6 ho6 yn hb3 z1 zd zp zf
    all_goals simp only [tick, setP, setN] at y2 x3 xb
    all_goals go_wp2
    all_goals go_ret
    all_goals exact ⟨rfl, H6.out, Ho6.out⟩
  · go_enter Try.func20, Try.ntmps20
    go_wp2_with fail
    refine Hbad.out.mono ?_
    rintro e w1 ⟨rfl, rfl⟩
    go_wp2_with fail
    refine Hcnt.out.mono ?_
    rintro e w2 ⟨rfl, hm2, ho2⟩
    have hs2 := ho2.size
    have d7 := MemX.c7 hm2
    have d6 := MemX.c6 hm2
    have hce : m.cut = (n : Int) := by have := Hnn.out; simp at this; omega
    have Hce := hidI hce
    clear hce
    have hsh : hi ≤ w2.heap.size := Nat.le_trans hsz' hs2
    have hmW : CR (w2.alloc (.cells #[.int .i64 64, .int .i64 m.part, .int .i64 (n : Nat)] 3)).drew lo hi cb L (tick m) := MemX.drew (MemX.below hm2 hsh ((Below.refl _ _).alloc (Nat.le_refl _) _))
    have hoW : Only lo hi w1 (w2.alloc (.cells #[.int .i64 64, .int .i64 m.part, .int .i64 (n : Nat)] 3)).drew := (ho2.alloc _).drew
    have hzW : hi ≤ (w2.alloc (.cells #[.int .i64 64, .int .i64 m.part, .int .i64 (n : Nat)] 3)).drew.heap.size := by simp; omega
    clear hm2 h cn c0 c2 ho2
    simp only [] at d6 d7
    rw [Hce.out] at d6
    go_wp2
    go_region
    generalize (w2.alloc (.cells #[.int .i64 64, .int .i64 m.part, .int .i64 (n : Nat)] 3)).drew = W at hmW hoW hzW ⊢
    have d1 := MemX.c1 hmW
    have dd := hmW.data.cell hi'
    have Hm := hidI hmW
    clear hmW d6 d7
    simp only [tick] at d1 dd
    have Hfr2 : Hid (∀ w, Calls Try.prog 55 #[.string t, .int .i64 (n : Nat)] w fun e w' => e = .returned (.string Y) ∧ Below w.heap.size w w') := Hfr
    clear Hfr
    go_wp2
    go_region_with (go_at_call 55; refine (Hfr2.out _).mono ?_; rintro e w3 ⟨rfl, hb3⟩; have hm3 := MemX.below (MemX.drew Hm.out) hzW hb3; have z1 := MemX.c1 hm3; have zd := hm3.data.cell hi'; have zp := (hm3.page i hi').cell hqn; have zf := (hm3.page i hi').frozen q; have Hm3 := hidI hm3; clear hm3; simp only [tick] at z1 zd zp)
    all_goals have h4 : CR (w3.setCell ⟨L.rw i, q, none⟩ (.string Y)) lo hi cb L (setP (tick m) i q (s.take n)) := (by
      have := MemX.setPage Hm3.out i q hi' hqn (s.take n)
      rw [← HY.out]; exact this)
    all_goals have h5 : CR ((w3.setCell ⟨L.rw i, q, none⟩ (.string Y)).setCell ⟨L.nk, i, none⟩ (.int .i64 ((q : Int) + 1))) lo hi cb L (setN (setP (tick m) i q (s.take n)) i (q + 1)) := MemX.setNx h4 i (q + 1)
    all_goals have h6 : CR (((w3.setCell ⟨L.rw i, q, none⟩ (.string Y)).setCell ⟨L.nk, i, none⟩ (.int .i64 ((q : Int) + 1))).setCell ⟨L.bk, i, none⟩ (.bool false)) lo hi cb L (setB (setN (setP (tick m) i q (s.take n)) i (q + 1)) i false) := MemX.setBd h5 i false
    all_goals have ho6 : Only lo hi w1 (((w3.setCell ⟨L.rw i, q, none⟩ (.string Y)).setCell ⟨L.nk, i, none⟩ (.int .i64 ((q : Int) + 1))).setCell ⟨L.bk, i, none⟩ (.bool false)) := (((hoW.trans ((Only.refl lo hi W).drew.trans (Only.of_below hb3))).set hrwb q _).set hnkb i _).set hbkb i _
    all_goals have y2 := MemX.c2 h4
    all_goals have yn := h4.next.cell hi'
    all_goals have yf := h4.next.frozen i
    all_goals have x3 := MemX.c3 h5
    all_goals have xb := h5.bad.cell hi'
    all_goals have xf := h5.bad.frozen i
    all_goals have yn' : (w3.setCell ⟨L.rw i, q, none⟩ (.string Y)).cell? ⟨L.nk, i, none⟩ = some (.int .i64 (q : Nat)) := (by rw [yn]; show some (Value.int .i64 ((m.nx i : Nat) : Int)) = _; rw [← Hq.out])
    all_goals have H6 := hidI h6
    all_goals have Ho6 := hidI ho6
    all_goals clear h4 h5 h6 ho6 yn hb3 z1 zd zp zf
    all_goals simp only [tick, setP, setN] at y2 x3 xb
    all_goals go_wp2
    all_goals go_ret
    all_goals exact ⟨rfl, H6.out, Ho6.out⟩
end Go.Proofs.Ytodmdkhdbfbfgaa
