/- What Erase of both chips does. -/
import Derived.Test.YtodmdkhdbfbfgaaChipProgR
import Derived.Deep.RegionWith
namespace Go.Proofs.Ytodmdkhdbfbfgaa
open Go.RowKit Pk
set_option linter.unusedVariables false
set_option linter.unusedSimpArgs false

/-- The first n pages of a block are erased. -/
def setE (m : M) (i n : Nat) : M := { m with pg := fun a b => if a = i ∧ b < n then [] else m.pg a b }

theorem setE_zero (m : M) (i : Nat) : setE m i 0 = m := by
  unfold setE
  have : (fun a b => if a = i ∧ b < 0 then [] else m.pg a b) = m.pg := by
    funext a b; rw [if_neg (by omega)]
  rw [this]

theorem setE_succ (m : M) (i k : Nat) : setP (setE m i k) i k [] = setE m i (k + 1) := by
  unfold setP setE
  have : (fun a b => if a = i ∧ b = k then [] else if a = i ∧ b < k then [] else m.pg a b) = (fun a b => if a = i ∧ b < k + 1 then [] else m.pg a b) := by
    funext a b
    by_cases e : a = i
    · by_cases e2 : b = k
      · rw [if_pos ⟨e, e2⟩, if_pos ⟨e, by omega⟩]
      · rw [if_neg (fun h => e2 h.2)]
        by_cases e3 : b < k
        · rw [if_pos ⟨e, e3⟩, if_pos ⟨e, by omega⟩]
        · rw [if_neg (fun h => e3 h.2), if_neg (fun h => e3 (by omega))]
    · rw [if_neg (fun h => e h.1), if_neg (fun h => e h.1), if_neg (fun h => e h.1)]
  show ({ m with pg := _ } : M) = _
  rw [← this]

theorem setN_twice (m : M) (i a b : Nat) : setN (setN m i a) i b = setN m i b := by
  unfold setN
  have : (fun x => if x = i then b else if x = i then a else m.nx x) = fun x => if x = i then b else m.nx x := by
    funext x
    by_cases e : x = i
    · rw [if_pos e, if_pos e]
    · rw [if_neg e, if_neg e, if_neg e]
  show ({ m with nx := _ } : M) = _
  rw [← this]

/-- What erasing a block makes of a chip, where it may be. -/
def eraF (m : M) (i : Nat) : Bool × M :=
  if (callF m.life m.fail).1 = 0 then (true, setN (setE (tick m) i m.np) i 0)
  else if (callF m.life m.fail).1 = 1 then (false, setB (tick m) i true)
  else if (callF m.life m.fail).1 = 2 then (false, setN (setE (tick m) i (m.cut.toNat % m.np)) i m.np)
  else (false, tick m)

theorem txt_nil : txt [] = { data := #[] } := rfl

set_option maxRecDepth 100000 in
set_option maxHeartbeats 4000000 in
theorem era_yes (w : World) (lo hi cb : Nat) (L : Loc) (m : M) (i : Nat) (hw : WF m) (h : CP w lo hi cb L m) (hb : badB m (i : Nat) = false) (hi' : i < m.nb) (hsz' : hi ≤ w.heap.size) :
    Calls Try.prog 21 #[.pointer (some ⟨cb, 0, none⟩), .int .i64 (i : Nat)] w fun e w' => e = .returned (.bool (eraF m i).1) ∧ CP w' lo hi cb L (eraF m i).2 ∧ Only lo hi w w' := by
  have Hbad := hidI (bad_any w lo hi cb L m (i : Nat) h)
  rw [hb] at Hbad
  have Hcnt := hidI (count_any w lo hi cb L m hw h)
  have hc1 := hw.cut1
  have hc2 := hw.cut2
  have hp1 := hw.np1
  have hp2 := hw.np2
  have Hh := hidI h
  have Her := hidI erased_any
  obtain ⟨X, hX⟩ : ∃ X, X = txt ff := ⟨_, rfl⟩
  rw [← hX] at Her
  have HX := hidI hX
  clear hb h hX
  rcases callF_cases m.life m.fail with hk | hk | hk | hk
  · have Hr : Hid (eraF m i = (true, setN (setE (tick m) i m.np) i 0)) := if_pos hk
    rw [hk] at Hcnt
    clear hk
    go_enter Try.func21, Try.ntmps21
    go_wp2_with fail
    refine Hbad.out.mono ?_
    rintro e w1 ⟨rfl, rfl⟩
    go_wp2_with fail
    refine Hcnt.out.mono ?_
    rintro e w2 ⟨rfl, hm2, ho2⟩
    have hs2 := ho2.size
    have hsh : hi ≤ w2.heap.size := Nat.le_trans hsz' hs2
    have d0 := MemX.c0 hm2
    have Hm2 := hidI hm2
    clear hm2
    simp only [tick] at d0
    go_wp2
    go_loopw [7] (fun j wr => ∃ k : Nat, k ≤ m.np ∧ j = .int .i64 k ∧ CP wr lo hi cb L (setE (tick m) i k) ∧ Only lo hi w1 wr) (fun j _ => m.np - (intOf j).toNat)
    case atStart => exact ⟨0, by omega, rfl, by rw [setE_zero]; exact Hm2.out, ho2⟩
    case round =>
      clear ho2
      obtain ⟨k, hk, rfl, hmr, hor⟩ := hrel
      by_cases hlt : k < m.np
      · have d1 := MemX.c1 hmr
        have dd := hmr.data.cell hi'
        have dp := (hmr.page i hi').cell (show k < m.np by omega)
        have dz := (hmr.page i hi').frozen k
        have hkn : k < m.np := by omega
        have hnx : CP (wr.setCell ⟨L.rw i, k, none⟩ (.string (txt (id [])))) lo hi cb L (setE (tick m) i (k + 1)) := by
          have := MemX.setPage hmr i k hi' (by omega : k < m.np) []
          rw [← setE_succ]; exact this
        have hon := hor.set (Hh.out.hrw i hi') k (.string (txt (id [])))
        have Hnx := hidI hnx
        have Hon := hidI hon
        clear hmr hor hnx hon
        simp only [setE, tick] at d1 dd dp
        try rw [txt_nil] at Hnx Hon
        go_wp2
        go_roundw
        case rel => exact ⟨k + 1, by omega, by go_num, Hnx.out, Hon.out⟩
        case measure => simp [intOf]; omega
      · have hke : m.np = k := by omega
        subst hke
        have d2 := MemX.c2 hmr
        have dn := hmr.next.cell hi'
        have df := hmr.next.frozen i
        have h3 : CP (wr.setCell ⟨L.nk, i, none⟩ (.int .i64 ((0 : Nat) : Int))) lo hi cb L (setN (setE (tick m) i m.np) i 0) := MemX.setNx hmr i 0
        have ho3 := hor.set Hh.out.hnk i (.int .i64 ((0 : Nat) : Int))
        have H3 := hidI h3
        have Ho3 := hidI ho3
        clear h3 ho3 hmr hor
        simp only [setE, tick] at d2 dn
        rw [show ((0 : Nat) : Int) = 0 from rfl] at H3 Ho3
        go_wp2
        go_ret
        refine ⟨ret_bool (by rw [Hr.out]), ?_, Ho3.out⟩
        rw [Hr.out]; exact H3.out
  · have Hr : Hid (eraF m i = (false, setB (tick m) i true)) := by unfold eraF; rw [hk]; exact rfl
    rw [hk] at Hcnt
    clear hk
    go_enter Try.func21, Try.ntmps21
    go_wp2_with fail
    refine Hbad.out.mono ?_
    rintro e w1 ⟨rfl, rfl⟩
    go_wp2_with fail
    refine Hcnt.out.mono ?_
    rintro e w2 ⟨rfl, hm2, ho2⟩
    have hs2 := ho2.size
    have hsh : hi ≤ w2.heap.size := Nat.le_trans hsz' hs2
    have d0 := MemX.c0 hm2
    have Hm2 := hidI hm2
    clear hm2
    simp only [tick] at d0
    have d3 := MemX.c3 Hm2.out
    have db := Hm2.out.bad.cell hi'
    have df := Hm2.out.bad.frozen i
    have H3 := hidI (MemX.setBd Hm2.out i true)
    have Ho3 := hidI (ho2.set Hh.out.hbk i (.bool true))
    clear ho2
    simp only [tick] at d3 db
    go_wp2
    go_ret
    refine ⟨ret_bool (by rw [Hr.out]), ?_, Ho3.out⟩
    rw [Hr.out]; exact H3.out
  · have Hr : Hid (eraF m i = (false, setN (setE (tick m) i (m.cut.toNat % m.np)) i m.np)) := by unfold eraF; rw [hk]; exact rfl
    rw [hk] at Hcnt
    clear hk
    go_enter Try.func21, Try.ntmps21
    go_wp2_with fail
    refine Hbad.out.mono ?_
    rintro e w1 ⟨rfl, rfl⟩
    go_wp2_with fail
    refine Hcnt.out.mono ?_
    rintro e w2 ⟨rfl, hm2, ho2⟩
    have hs2 := ho2.size
    have hsh : hi ≤ w2.heap.size := Nat.le_trans hsz' hs2
    have d0 := MemX.c0 hm2
    have Hm2 := hidI hm2
    clear hm2
    simp only [tick] at d0
    obtain ⟨cn, hcn⟩ : ∃ n : Nat, m.cut = (n : Int) := Int.eq_ofNat_of_zero_le hc1
    have d5 := MemX.c5 Hm2.out
    simp only [tick] at d5
    rw [hcn] at d5 Hr
    simp only [Int.toNat_natCast] at Hr
    clear hc1 hc2
    have hnp0 : (m.np : Int) ≠ 0 := by omega
    have hnpb : ((m.np : Int) == 0) = false := by simp; omega
    have hlt : cn % m.np < m.np := Nat.mod_lt _ (by omega)
    have Hrem : Hid ((cn : Int) % (m.np : Int) = ((cn % m.np : Nat) : Int)) := rfl
    have Hcn := hidI hcn
    clear hcn
    go_wp2
    go_region
    go_wp2
    rw [Hrem.out]
    generalize hN : cn % m.np = N at *
    have HN := hidI hN
    clear hN
    have Hm3 := hidI (MemX.drew Hm2.out)
    have ho3 := ho2.drew
    clear Hm2 ho2
    go_loopw [7] (fun j wr => ∃ k : Nat, k ≤ N ∧ j = .int .i64 k ∧ CP wr lo hi cb L (setE (tick m) i k) ∧ Only lo hi w1 wr) (fun j _ => N - (intOf j).toNat)
    case atStart => exact ⟨0, by omega, rfl, by rw [setE_zero]; exact Hm3.out, ho3⟩
    case round =>
      clear ho3
      obtain ⟨k, hk, rfl, hmr, hor⟩ := hrel
      by_cases hlt : k < N
      · have d1 := MemX.c1 hmr
        have dd := hmr.data.cell hi'
        have dp := (hmr.page i hi').cell (show k < m.np by omega)
        have dz := (hmr.page i hi').frozen k
        have hkn : k < m.np := by omega
        have hnx : CP (wr.setCell ⟨L.rw i, k, none⟩ (.string (txt (id [])))) lo hi cb L (setE (tick m) i (k + 1)) := by
          have := MemX.setPage hmr i k hi' (by omega : k < m.np) []
          rw [← setE_succ]; exact this
        have hon := hor.set (Hh.out.hrw i hi') k (.string (txt (id [])))
        have Hnx := hidI hnx
        have Hon := hidI hon
        clear hmr hor hnx hon
        simp only [setE, tick] at d1 dd dp
        try rw [txt_nil] at Hnx Hon
        go_wp2
        go_roundw
        case rel => exact ⟨k + 1, by omega, by go_num, Hnx.out, Hon.out⟩
        case measure => simp [intOf]; omega
      · have hke : N = k := by omega
        subst hke
        have d2 := MemX.c2 hmr
        have dn := hmr.next.cell hi'
        have df := hmr.next.frozen i
        have h3 : CP (wr.setCell ⟨L.nk, i, none⟩ (.int .i64 ((0 : Nat) : Int))) lo hi cb L (setN (setE (tick m) i N) i 0) := MemX.setNx hmr i 0
        have ho3 := hor.set Hh.out.hnk i (.int .i64 ((0 : Nat) : Int))
        have z2 := MemX.c2 h3
        have z0 := MemX.c0 h3
        have zn := h3.next.cell hi'
        have zf := h3.next.frozen i
        have h4 := MemX.setNx h3 i m.np
        have ho4 := ho3.set Hh.out.hnk i (.int .i64 ((m.np : Nat) : Int))
        have H4 := hidI h4
        have Ho4 := hidI ho4
        clear h3 ho3 hmr hor h4 ho4
        simp only [setE, setN, tick] at d2 dn z0 z2 zn
        rw [show ((0 : Nat) : Int) = 0 from rfl] at H4 Ho4 z2 z0 zn zf
        go_wp2
        go_region
        go_wp2
        go_ret
        refine ⟨ret_bool (by rw [Hr.out]), ?_, Ho4.out.drew⟩
        rw [Hr.out, ← setN_twice _ i 0 m.np]; exact MemX.drew H4.out
  · have Hr : Hid (eraF m i = (false, tick m)) := by unfold eraF; rw [hk]; exact rfl
    rw [hk] at Hcnt
    clear hk
    go_enter Try.func21, Try.ntmps21
    go_wp2_with fail
    refine Hbad.out.mono ?_
    rintro e w1 ⟨rfl, rfl⟩
    go_wp2_with fail
    refine Hcnt.out.mono ?_
    rintro e w2 ⟨rfl, hm2, ho2⟩
    have hs2 := ho2.size
    have hsh : hi ≤ w2.heap.size := Nat.le_trans hsz' hs2
    have d0 := MemX.c0 hm2
    have Hm2 := hidI hm2
    clear hm2
    simp only [tick] at d0
    go_wp2
    go_ret
    refine ⟨ret_bool (by rw [Hr.out]), ?_, ho2⟩
    rw [Hr.out]; exact Hm2.out
set_option maxRecDepth 100000 in
set_option maxHeartbeats 4000000 in
theorem eraR_yes (w : World) (lo hi cb : Nat) (L : Loc) (m : M) (i : Nat) (hw : WF m) (h : CR w lo hi cb L m) (hb : badB m (i : Nat) = false) (hi' : i < m.nb) (hsz' : hi ≤ w.heap.size) :
    Calls Try.prog 22 #[.pointer (some ⟨cb, 0, none⟩), .int .i64 (i : Nat)] w fun e w' => e = .returned (.bool (eraF m i).1) ∧ CR w' lo hi cb L (eraF m i).2 ∧ Only lo hi w w' := by
  have Hbad := hidI (badR_any w lo hi cb L m (i : Nat) h)
  rw [hb] at Hbad
  have Hcnt := hidI (countR_any w lo hi cb L m hw h)
  have hc1 := hw.cut1
  have hc2 := hw.cut2
  have hp1 := hw.np1
  have hp2 := hw.np2
  have Hh := hidI h
  have Her := hidI erased_any
  obtain ⟨X, hX⟩ : ∃ X, X = txt ff := ⟨_, rfl⟩
  rw [← hX] at Her
  have HX := hidI hX
  clear hb h hX
  rcases callF_cases m.life m.fail with hk | hk | hk | hk
  · have Hr : Hid (eraF m i = (true, setN (setE (tick m) i m.np) i 0)) := if_pos hk
    rw [hk] at Hcnt
    clear hk
    go_enter Try.func22, Try.ntmps22
    go_wp2_with fail
    refine Hbad.out.mono ?_
    rintro e w1 ⟨rfl, rfl⟩
    go_wp2_with fail
    refine Hcnt.out.mono ?_
    rintro e w2 ⟨rfl, hm2, ho2⟩
    have hs2 := ho2.size
    have hsh : hi ≤ w2.heap.size := Nat.le_trans hsz' hs2
    have d0 := MemX.c0 hm2
    have Hm2 := hidI hm2
    clear hm2
    simp only [tick] at d0
    go_wp2
    go_loopw [8] (fun j wr => ∃ k : Nat, k ≤ m.np ∧ j = .int .i64 k ∧ CR wr lo hi cb L (setE (tick m) i k) ∧ Only lo hi w1 wr) (fun j _ => m.np - (intOf j).toNat)
    case atStart => exact ⟨0, by omega, rfl, by rw [setE_zero]; exact Hm2.out, ho2⟩
    case round =>
      clear ho2
      obtain ⟨k, hk, rfl, hmr, hor⟩ := hrel
      by_cases hlt : k < m.np
      · have d1 := MemX.c1 hmr
        have dd := hmr.data.cell hi'
        have hkn : k < m.np := by omega
        have hzr : hi ≤ wr.heap.size := Nat.le_trans hsz' hor.size
        have Hmr := hidI hmr
        have Hor := hidI hor
        clear hmr hor
        simp only [setE, tick] at d1 dd
        go_wp2
        go_region_with (go_at_call 50; refine (Her.out _).mono ?_; rintro e w3 ⟨rfl, hb3⟩; have hm3 := MemX.below (MemX.drew Hmr.out) hzr hb3; have z1 := MemX.c1 hm3; have zd := hm3.data.cell hi'; have zp := (hm3.page i hi').cell hkn; have zf := (hm3.page i hi').frozen k; have Hm3 := hidI hm3; have Hb3 := hidI hb3; clear hm3 hb3; simp only [setE, tick] at z1 zd zp)
        all_goals have hnx : CR (w3.setCell ⟨L.rw i, k, none⟩ (.string X)) lo hi cb L (setE (tick m) i (k + 1)) := (by
          have := MemX.setPage Hm3.out i k hi' hkn []
          rw [← setE_succ, HX.out]; exact this)
        all_goals have hon := ((Hor.out.trans ((Only.refl lo hi wr).drew.trans (Only.of_below Hb3.out)))).set (Hh.out.hrw i hi') k (.string X)
        all_goals have Hnx := hidI hnx
        all_goals have Hon := hidI hon
        all_goals clear hnx hon
        all_goals go_wp2
        all_goals (go_roundw; (case rel => exact ⟨k + 1, by omega, by go_num, Hnx.out, Hon.out⟩); (case measure => simp [intOf]; omega))
      · have hke : m.np = k := by omega
        subst hke
        have d2 := MemX.c2 hmr
        have dn := hmr.next.cell hi'
        have df := hmr.next.frozen i
        have h3 : CR (wr.setCell ⟨L.nk, i, none⟩ (.int .i64 ((0 : Nat) : Int))) lo hi cb L (setN (setE (tick m) i m.np) i 0) := MemX.setNx hmr i 0
        have ho3 := hor.set Hh.out.hnk i (.int .i64 ((0 : Nat) : Int))
        have H3 := hidI h3
        have Ho3 := hidI ho3
        clear h3 ho3 hmr hor
        simp only [setE, tick] at d2 dn
        rw [show ((0 : Nat) : Int) = 0 from rfl] at H3 Ho3
        go_wp2
        go_ret
        refine ⟨ret_bool (by rw [Hr.out]), ?_, Ho3.out⟩
        rw [Hr.out]; exact H3.out
  · have Hr : Hid (eraF m i = (false, setB (tick m) i true)) := by unfold eraF; rw [hk]; exact rfl
    rw [hk] at Hcnt
    clear hk
    go_enter Try.func22, Try.ntmps22
    go_wp2_with fail
    refine Hbad.out.mono ?_
    rintro e w1 ⟨rfl, rfl⟩
    go_wp2_with fail
    refine Hcnt.out.mono ?_
    rintro e w2 ⟨rfl, hm2, ho2⟩
    have hs2 := ho2.size
    have hsh : hi ≤ w2.heap.size := Nat.le_trans hsz' hs2
    have d0 := MemX.c0 hm2
    have Hm2 := hidI hm2
    clear hm2
    simp only [tick] at d0
    have d3 := MemX.c3 Hm2.out
    have db := Hm2.out.bad.cell hi'
    have df := Hm2.out.bad.frozen i
    have H3 := hidI (MemX.setBd Hm2.out i true)
    have Ho3 := hidI (ho2.set Hh.out.hbk i (.bool true))
    clear ho2
    simp only [tick] at d3 db
    go_wp2
    go_ret
    refine ⟨ret_bool (by rw [Hr.out]), ?_, Ho3.out⟩
    rw [Hr.out]; exact H3.out
  · have Hr : Hid (eraF m i = (false, setN (setE (tick m) i (m.cut.toNat % m.np)) i m.np)) := by unfold eraF; rw [hk]; exact rfl
    rw [hk] at Hcnt
    clear hk
    go_enter Try.func22, Try.ntmps22
    go_wp2_with fail
    refine Hbad.out.mono ?_
    rintro e w1 ⟨rfl, rfl⟩
    go_wp2_with fail
    refine Hcnt.out.mono ?_
    rintro e w2 ⟨rfl, hm2, ho2⟩
    have hs2 := ho2.size
    have hsh : hi ≤ w2.heap.size := Nat.le_trans hsz' hs2
    have d0 := MemX.c0 hm2
    have Hm2 := hidI hm2
    clear hm2
    simp only [tick] at d0
    obtain ⟨cn, hcn⟩ : ∃ n : Nat, m.cut = (n : Int) := Int.eq_ofNat_of_zero_le hc1
    have d5 := MemX.c6 Hm2.out
    simp only [tick] at d5
    rw [hcn] at d5 Hr
    simp only [Int.toNat_natCast] at Hr
    clear hc1 hc2
    have hnp0 : (m.np : Int) ≠ 0 := by omega
    have hnpb : ((m.np : Int) == 0) = false := by simp; omega
    have hlt : cn % m.np < m.np := Nat.mod_lt _ (by omega)
    have Hrem : Hid ((cn : Int) % (m.np : Int) = ((cn % m.np : Nat) : Int)) := rfl
    have Hcn := hidI hcn
    clear hcn
    go_wp2
    go_region
    go_wp2
    rw [Hrem.out]
    generalize hN : cn % m.np = N at *
    have HN := hidI hN
    clear hN
    have Hm3 := hidI (MemX.drew Hm2.out)
    have ho3 := ho2.drew
    clear Hm2 ho2
    go_loopw [8] (fun j wr => ∃ k : Nat, k ≤ N ∧ j = .int .i64 k ∧ CR wr lo hi cb L (setE (tick m) i k) ∧ Only lo hi w1 wr) (fun j _ => N - (intOf j).toNat)
    case atStart => exact ⟨0, by omega, rfl, by rw [setE_zero]; exact Hm3.out, ho3⟩
    case round =>
      clear ho3
      obtain ⟨k, hk, rfl, hmr, hor⟩ := hrel
      by_cases hlt : k < N
      · have d1 := MemX.c1 hmr
        have dd := hmr.data.cell hi'
        have hkn : k < m.np := by omega
        have hzr : hi ≤ wr.heap.size := Nat.le_trans hsz' hor.size
        have Hmr := hidI hmr
        have Hor := hidI hor
        clear hmr hor
        simp only [setE, tick] at d1 dd
        go_wp2
        go_region_with (go_at_call 50; refine (Her.out _).mono ?_; rintro e w3 ⟨rfl, hb3⟩; have hm3 := MemX.below (MemX.drew Hmr.out) hzr hb3; have z1 := MemX.c1 hm3; have zd := hm3.data.cell hi'; have zp := (hm3.page i hi').cell hkn; have zf := (hm3.page i hi').frozen k; have Hm3 := hidI hm3; have Hb3 := hidI hb3; clear hm3 hb3; simp only [setE, tick] at z1 zd zp)
        all_goals have hnx : CR (w3.setCell ⟨L.rw i, k, none⟩ (.string X)) lo hi cb L (setE (tick m) i (k + 1)) := (by
          have := MemX.setPage Hm3.out i k hi' hkn []
          rw [← setE_succ, HX.out]; exact this)
        all_goals have hon := ((Hor.out.trans ((Only.refl lo hi wr).drew.trans (Only.of_below Hb3.out)))).set (Hh.out.hrw i hi') k (.string X)
        all_goals have Hnx := hidI hnx
        all_goals have Hon := hidI hon
        all_goals clear hnx hon
        all_goals go_wp2
        all_goals (go_roundw; (case rel => exact ⟨k + 1, by omega, by go_num, Hnx.out, Hon.out⟩); (case measure => simp [intOf]; omega))
      · have hke : N = k := by omega
        subst hke
        have d2 := MemX.c2 hmr
        have dn := hmr.next.cell hi'
        have df := hmr.next.frozen i
        have h3 : CR (wr.setCell ⟨L.nk, i, none⟩ (.int .i64 ((0 : Nat) : Int))) lo hi cb L (setN (setE (tick m) i N) i 0) := MemX.setNx hmr i 0
        have ho3 := hor.set Hh.out.hnk i (.int .i64 ((0 : Nat) : Int))
        have z2 := MemX.c2 h3
        have z0 := MemX.c0 h3
        have zn := h3.next.cell hi'
        have zf := h3.next.frozen i
        have h4 := MemX.setNx h3 i m.np
        have ho4 := ho3.set Hh.out.hnk i (.int .i64 ((m.np : Nat) : Int))
        have H4 := hidI h4
        have Ho4 := hidI ho4
        clear h3 ho3 hmr hor h4 ho4
        simp only [setE, setN, tick] at d2 dn z0 z2 zn
        rw [show ((0 : Nat) : Int) = 0 from rfl] at H4 Ho4 z2 z0 zn zf
        go_wp2
        go_region
        go_wp2
        go_ret
        refine ⟨ret_bool (by rw [Hr.out]), ?_, Ho4.out.drew⟩
        rw [Hr.out, ← setN_twice _ i 0 m.np]; exact MemX.drew H4.out
  · have Hr : Hid (eraF m i = (false, tick m)) := by unfold eraF; rw [hk]; exact rfl
    rw [hk] at Hcnt
    clear hk
    go_enter Try.func22, Try.ntmps22
    go_wp2_with fail
    refine Hbad.out.mono ?_
    rintro e w1 ⟨rfl, rfl⟩
    go_wp2_with fail
    refine Hcnt.out.mono ?_
    rintro e w2 ⟨rfl, hm2, ho2⟩
    have hs2 := ho2.size
    have hsh : hi ≤ w2.heap.size := Nat.le_trans hsz' hs2
    have d0 := MemX.c0 hm2
    have Hm2 := hidI hm2
    clear hm2
    simp only [tick] at d0
    go_wp2
    go_ret
    refine ⟨ret_bool (by rw [Hr.out]), ?_, ho2⟩
    rw [Hr.out]; exact Hm2.out
end Go.Proofs.Ytodmdkhdbfbfgaa
