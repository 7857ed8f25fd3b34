/- nandlaw.Chips returns true: the walk. -/
import Derived.Test.YtodmdkhdbfbfgaaChipState
import Derived.Test.YtodmdkhdbfbfgaaCodes
import Derived.Test.YtodmdkhdbfbfgaaPrefixed
namespace Go.Proofs.Ytodmdkhdbfbfgaa
open Go.RowKit Pk
set_option linter.unusedVariables false
set_option linter.unusedSimpArgs false

theorem Try.info36 : (Try.prog.info? 36).map (fun i => (i.zero, i.size, i.bytes)) = some (some (.pointer none), 1, 8) := by kernel_rfl
theorem Try.info38 : (Try.prog.info? 38).map (fun i => (i.zero, i.size, i.bytes)) = some (some (.pointer none), 1, 8) := by kernel_rfl

def zOne : Nat → Int := fun _ => 1
theorem zOne_fits : Fits zOne 1 := ⟨fun j hj => by simp [zOne], by decide⟩

set_option maxRecDepth 100000 in
set_option maxHeartbeats 40000000 in
theorem chips_walk (blocks pages : Int) (a : Option Addr) (n cap : Nat) (z : Nat → Int) (sa : Option Addr) (sn scap : Nat) (K A C : Nat → Int) (D : Nat → List UInt8) (w : World) (hn : n ≤ 17592186043904) (hin : IntsIn w a n z)
    (hsn : sn ≤ 4398046511104) (hst : StepsIn w sa sn K A C D) (hC : ∀ i, i < sn → -9223372036854775808 ≤ C i ∧ C i ≤ 9223372036854775807) (hD : ∀ i, i < sn → (D i).length ≤ 140737488351232) :
    Calls Try.prog 6 #[.int .i64 blocks, .int .i64 pages, .slice a n cap, .slice sa sn scap] w fun e w' => e = .returned (.bool true) ∧ Below w.heap.size w w' := by
  have h0 : IntsIn (w.alloc (.cells #[.int .i64 1] 3)) (some ⟨w.heap.size, 0, none⟩) 1 zOne := fun _ => ⟨w.heap.size, 0, rfl, fun k hk => by
    match k, hk with
    | 0, _ => simp [zOne]⟩
  have Hin := hidI hin
  have Hst := hidI hst
  have HC := hidI hC
  have HD := hidI hD
  clear hin hst hC hD
  go_enter Try.func6, Try.ntmps6
  go_wp2_with fail
  refine (codes_fit _ 1 _ zOne _ (by omega) h0 zOne_fits).mono ?_
  rintro e w1 ⟨rfl, hb1, hr1⟩
  have hs1 := hb1.size
  simp only [World.size_alloc] at hs1 hr1 hb1 ⊢
  have hc0 : w1.cell? ⟨w.heap.size + 1, 0, none⟩ = some (.string ⟨#[48]⟩) := hr1.cell (i := 0) (by omega)
  have hbw : Below w.heap.size w w1 := ((Below.refl _ _).alloc (Nat.le_refl _) _).trans (hb1.mono (by omega))
  have hlt0 : w.heap.size < w1.heap.size := by omega
  clear hb1 hr1 h0
  have Hbw := hidI hbw
  clear hbw hs1
  go_wp2_with (first
    | (go_at_call 17; refine (new_any _ blocks pages a n cap z hn (Hin.out.below Hbw.out)).mono ?_; rintro e w2 ⟨L, hi, rfl, hs2, hc2, hb2⟩; have Hc2 := hidI hc2; have Hb2 := hidI hb2; clear hc2 hb2)
    | (go_at_call 18; refine (newR_any _ blocks pages a n cap z hn ((Hin.out.below Hbw.out).below Hb2.out)).mono ?_; rintro e w3 ⟨L', hi', rfl, hs3, hc3, hb3⟩; have Hc3 := hidI hc3; have Hb3 := hidI hb3; clear hc3 hb3))
  have z2 := Hb2.out.size
  have z3 := Hb3.out.size
  have hSt : St w w3 w.heap.size w1.heap.size w2.heap.size (.slice none 0 0) (.slice none 0 0) 0 w1.heap.size hi w2.heap.size hi' (mkM blocks pages n z) (fun _ => 0) (fun _ => 0) :=
    ⟨(Hbw.out.trans (Hb2.out.mono (Nat.le_of_lt hlt0))).trans (Hb3.out.mono (by omega)), ⟨mkM_wf _ _ _ _, by omega, by omega, by omega, hs3, .inl hs2, ⟨L, MemX.below Hc2.out hs2 Hb3.out⟩, ⟨L', Hc3.out⟩⟩, World.ownsRow_nil _ _ _ _, World.ownsRow_nil _ _ _ _, fun g h => by simp [Value.ownBlock] at h, fun g h => by simp [Value.ownBlock] at h, fun q hq => by omega⟩
  have HSt := hidI hSt
  generalize w1.heap.size = c0 at *
  generalize w2.heap.size = x0 at *
  generalize mkM blocks pages n z = m0 at *
  clear hc0 hSt z2 z3 hs2 hs3 Hc2 Hc3 Hb2 Hb3 Hbw hlt0
  obtain ⟨i0, oi, oz0, oz1, oz2⟩ := info_parts Try.info36
  obtain ⟨j0, wi, wz0, wz1, wz2⟩ := info_parts Try.info38
  go_loopw [11, 12, 13, 14, 15] (fun c x ov wv i wr => ∃ k : Nat, k ≤ sn ∧ i = .int .i64 k ∧ ∃ cb xb j oa oc wa wc lo hi lo' hi' m pc px, c = .pointer (some ⟨cb, 0, none⟩) ∧ x = .pointer (some ⟨xb, 0, none⟩) ∧ ov = .slice oa j oc ∧ wv = .slice wa j wc ∧ j ≤ k ∧ St w wr w.heap.size cb xb (.slice oa j oc) (.slice wa j wc) j lo hi lo' hi' m pc px) (fun _ _ _ _ i _ => sn - (intOf i).toNat)
  case atStart => exact ⟨0, by omega, rfl, c0, x0, 0, none, 0, none, 0, _, _, _, _, m0, _, _, rfl, rfl, rfl, rfl, by omega, HSt.out⟩
  case round =>
    clear HSt
    obtain ⟨k, hk, rfl, cb, xb, j, oa, oc, wa, wc, lo, hi, lo', hi', m, pc, px, rfl, rfl, rfl, rfl, hjk, hS⟩ := hrel
    by_cases hlt : k < sn
    · obtain ⟨b, off, rfl, hcs⟩ := Hst.out.below (hS.bel) (by omega)
      obtain ⟨s0, s1, s2, s3⟩ := hcs k hlt
      clear hcs
      have hCk := HC.out k hlt
      have hDk := HD.out k hlt
      generalize K k = kk at *
      generalize A k = ka at *
      generalize C k = kc at *
      generalize D k = kd at *
      obtain ⟨t, ht⟩ : ∃ t, t = txt kd := ⟨_, rfl⟩
      rw [← ht] at s3
      have Ht := hidI ht
      clear ht
      have HS := hidI (hS.below ((Below.refl _ _).alloc (Nat.le_refl _) (.cells #[.int .i64 kk, .int .i64 ka, .int .i64 kc, .string t] 43)))
      have hs1 := hS.pair.s1
      have hs2 := hS.pair.s2
      clear hS
      by_cases h1 : kk = 1
      · subst h1
        obtain ⟨L, hcp⟩ := HS.out.pair.cp
        obtain ⟨L', hcr⟩ := HS.out.pair.cr
        have Hcp := hidI hcp
        have Hcr := hidI hcr
        have hwf := HS.out.pair.wf
        clear hcp hcr
        have Hwf1 := hidI (progA_wf hwf ka kc kd)
        have Hpr : Hid (∀ W, CP W lo hi cb L m → hi ≤ W.heap.size → Calls Try.prog 19 #[.pointer (some ⟨cb, 0, none⟩), .int .i64 ka, .int .i64 kc, .string t] W fun e w' => e = .returned (.bool (progA m ka kc kd).1) ∧ CP w' lo hi cb L (progA m ka kc kd).2 ∧ Only lo hi W w') := by
          show ∀ _, _; intro W h hs; try rw [Ht.out]
          exact prog_any W lo hi cb L m ka kc kd hwf hDk h
        have Hpr' : Hid (∀ W, CR W lo' hi' xb L' m → hi' ≤ W.heap.size → Calls Try.prog 20 #[.pointer (some ⟨xb, 0, none⟩), .int .i64 ka, .int .i64 kc, .string t] W fun e w' => e = .returned (.bool (progA m ka kc kd).1) ∧ CR w' lo' hi' xb L' (progA m ka kc kd).2 ∧ Only lo' hi' W w') := by
          show ∀ _, _; intro W h hs; try rw [Ht.out]
          exact progR_any W lo' hi' xb L' m ka kc kd hwf hDk h hs
        obtain ⟨r, hr⟩ : ∃ r, r = (progA m ka kc kd) := ⟨_, rfl⟩
        rw [← hr] at Hwf1 Hpr Hpr'
        obtain ⟨r1, m1⟩ := r
        simp only [] at Hwf1 Hpr Hpr'
        clear hr
        go_wp2_with (first
          | (go_at_call 19; refine (Hpr.out _ Hcp.out HS.out.pair.s1).mono ?_; rintro e w4 ⟨rfl, hc4, ho4⟩; have hn4 := only_new ho4 hs1; have q1 : w4.cell? ⟨wr.heap.size, 1, none⟩ = some (.int .i64 ka) := (by rw [cell_of_row w4 _ 1 _ 43 (0, 0) hn4]; rfl); have q2 : w4.cell? ⟨wr.heap.size, 2, none⟩ = some (.int .i64 kc) := (by rw [cell_of_row w4 _ 2 _ 43 (0, 0) hn4]; rfl); have q3 : w4.cell? ⟨wr.heap.size, 3, none⟩ = some (.string t) := (by rw [cell_of_row w4 _ 3 _ 43 (0, 0) hn4]; rfl); have Hm4 := hidI (HS.out.mid Hcr.out ho4); have Hc4 := hidI hc4; have hz4 : hi' ≤ w4.heap.size := (Nat.le_trans (HS.out.pair.s2) ho4.size); have Ho4 := hidI ho4; clear hn4 hc4 ho4)
          | (go_at_call 20; refine (Hpr'.out _ Hm4.out hz4).mono ?_; rintro e w5 ⟨rfl, hx5, ho5⟩; have HS5 := hidI (HS.out.step Hc4.out Ho4.out hx5 ho5 Hwf1.out); clear hx5 ho5)
          | (go_at_call 33; refine (alike_any _ lo hi cb _ lo' hi' xb _ m1 Hwf1.out HS5.out.pair.cp.choose_spec HS5.out.pair.cr.choose_spec HS5.out.pair.s1 HS5.out.pair.s2).mono ?_; rintro e w6 ⟨rfl, hb6⟩; have HS6 := hidI (HS5.out.below hb6); clear hb6))
        exact ⟨⟨k + 1, by omega, by go_num, cb, xb, j, oa, oc, wa, wc, _, _, _, _, m1, _, _, rfl, rfl, rfl, rfl, by omega, HS6.out⟩, by simp [intOf]; omega⟩
      · skip
        by_cases h2 : kk = 2
        · subst h2
          obtain ⟨L, hcp⟩ := HS.out.pair.cp
          obtain ⟨L', hcr⟩ := HS.out.pair.cr
          have Hcp := hidI hcp
          have Hcr := hidI hcr
          have hwf := HS.out.pair.wf
          clear hcp hcr
          have Hwf1 := hidI (eraA_wf hwf ka)
          have Hpr : Hid (∀ W, CP W lo hi cb L m → hi ≤ W.heap.size → Calls Try.prog 21 #[.pointer (some ⟨cb, 0, none⟩), .int .i64 ka] W fun e w' => e = .returned (.bool (eraA m ka).1) ∧ CP w' lo hi cb L (eraA m ka).2 ∧ Only lo hi W w') := by
            show ∀ _, _; intro W h hs; try rw [Ht.out]
            exact era_any W lo hi cb L m ka hwf h hs
          have Hpr' : Hid (∀ W, CR W lo' hi' xb L' m → hi' ≤ W.heap.size → Calls Try.prog 22 #[.pointer (some ⟨xb, 0, none⟩), .int .i64 ka] W fun e w' => e = .returned (.bool (eraA m ka).1) ∧ CR w' lo' hi' xb L' (eraA m ka).2 ∧ Only lo' hi' W w') := by
            show ∀ _, _; intro W h hs; try rw [Ht.out]
            exact eraR_any W lo' hi' xb L' m ka hwf h hs
          obtain ⟨r, hr⟩ : ∃ r, r = (eraA m ka) := ⟨_, rfl⟩
          rw [← hr] at Hwf1 Hpr Hpr'
          obtain ⟨r1, m1⟩ := r
          simp only [] at Hwf1 Hpr Hpr'
          clear hr
          go_wp2_with (first
            | (go_at_call 21; refine (Hpr.out _ Hcp.out HS.out.pair.s1).mono ?_; rintro e w4 ⟨rfl, hc4, ho4⟩; have hn4 := only_new ho4 hs1; have q1 : w4.cell? ⟨wr.heap.size, 1, none⟩ = some (.int .i64 ka) := (by rw [cell_of_row w4 _ 1 _ 43 (0, 0) hn4]; rfl); have q2 : w4.cell? ⟨wr.heap.size, 2, none⟩ = some (.int .i64 kc) := (by rw [cell_of_row w4 _ 2 _ 43 (0, 0) hn4]; rfl); have q3 : w4.cell? ⟨wr.heap.size, 3, none⟩ = some (.string t) := (by rw [cell_of_row w4 _ 3 _ 43 (0, 0) hn4]; rfl); have Hm4 := hidI (HS.out.mid Hcr.out ho4); have Hc4 := hidI hc4; have hz4 : hi' ≤ w4.heap.size := (Nat.le_trans (HS.out.pair.s2) ho4.size); have Ho4 := hidI ho4; clear hn4 hc4 ho4)
            | (go_at_call 22; refine (Hpr'.out _ Hm4.out hz4).mono ?_; rintro e w5 ⟨rfl, hx5, ho5⟩; have HS5 := hidI (HS.out.step Hc4.out Ho4.out hx5 ho5 Hwf1.out); clear hx5 ho5)
            | (go_at_call 33; refine (alike_any _ lo hi cb _ lo' hi' xb _ m1 Hwf1.out HS5.out.pair.cp.choose_spec HS5.out.pair.cr.choose_spec HS5.out.pair.s1 HS5.out.pair.s2).mono ?_; rintro e w6 ⟨rfl, hb6⟩; have HS6 := hidI (HS5.out.below hb6); clear hb6))
          exact ⟨⟨k + 1, by omega, by go_num, cb, xb, j, oa, oc, wa, wc, _, _, _, _, m1, _, _, rfl, rfl, rfl, rfl, by omega, HS6.out⟩, by simp [intOf]; omega⟩
        · skip
          by_cases h3 : kk = 3
          · subst h3
            obtain ⟨L, hcp⟩ := HS.out.pair.cp
            obtain ⟨L', hcr⟩ := HS.out.pair.cr
            have Hcp := hidI hcp
            have Hcr := hidI hcr
            have hwf := HS.out.pair.wf
            clear hcp hcr
            have Hwf1 := hidI (die_wf hwf ka kc)
            have Hpr : Hid (∀ W, CP W lo hi cb L m → hi ≤ W.heap.size → Calls Try.prog 23 #[.pointer (some ⟨cb, 0, none⟩), .int .i64 ka, .int .i64 kc] W fun e w' => e = .returned (.tuple #[]) ∧ CP w' lo hi cb L ({ m with life := bnd ka 0 1073741824 + 1, cut := prt kc } : M) ∧ Only lo hi W w') := by
              show ∀ _, _; intro W h hs; try rw [Ht.out]
              exact die_any W lo hi cb L m ka kc hCk.1 hCk.2 h
            have Hpr' : Hid (∀ W, CR W lo' hi' xb L' m → hi' ≤ W.heap.size → Calls Try.prog 24 #[.pointer (some ⟨xb, 0, none⟩), .int .i64 ka, .int .i64 kc] W fun e w' => e = .returned (.tuple #[]) ∧ CR w' lo' hi' xb L' ({ m with life := bnd ka 0 1073741824 + 1, cut := prt kc } : M) ∧ Only lo' hi' W w') := by
              show ∀ _, _; intro W h hs; try rw [Ht.out]
              exact dieR_any W lo' hi' xb L' m ka kc hCk.1 hCk.2 h
            generalize ({ m with life := bnd ka 0 1073741824 + 1, cut := prt kc } : M) = m1 at Hwf1 Hpr Hpr'
            go_wp2_with (first
              | (go_at_call 23; refine (Hpr.out _ Hcp.out HS.out.pair.s1).mono ?_; rintro e w4 ⟨rfl, hc4, ho4⟩; have hn4 := only_new ho4 hs1; have q1 : w4.cell? ⟨wr.heap.size, 1, none⟩ = some (.int .i64 ka) := (by rw [cell_of_row w4 _ 1 _ 43 (0, 0) hn4]; rfl); have q2 : w4.cell? ⟨wr.heap.size, 2, none⟩ = some (.int .i64 kc) := (by rw [cell_of_row w4 _ 2 _ 43 (0, 0) hn4]; rfl); have q3 : w4.cell? ⟨wr.heap.size, 3, none⟩ = some (.string t) := (by rw [cell_of_row w4 _ 3 _ 43 (0, 0) hn4]; rfl); have Hm4 := hidI (HS.out.mid Hcr.out ho4); have Hc4 := hidI hc4; have hz4 : hi' ≤ w4.heap.size := (Nat.le_trans (HS.out.pair.s2) ho4.size); have Ho4 := hidI ho4; clear hn4 hc4 ho4)
              | (go_at_call 24; refine (Hpr'.out _ Hm4.out hz4).mono ?_; rintro e w5 ⟨rfl, hx5, ho5⟩; have HS5 := hidI (HS.out.step Hc4.out Ho4.out hx5 ho5 Hwf1.out); clear hx5 ho5)
              | (go_at_call 33; refine (alike_any _ lo hi cb _ lo' hi' xb _ m1 Hwf1.out HS5.out.pair.cp.choose_spec HS5.out.pair.cr.choose_spec HS5.out.pair.s1 HS5.out.pair.s2).mono ?_; rintro e w6 ⟨rfl, hb6⟩; have HS6 := hidI (HS5.out.below hb6); clear hb6))
            exact ⟨⟨k + 1, by omega, by go_num, cb, xb, j, oa, oc, wa, wc, _, _, _, _, m1, _, _, rfl, rfl, rfl, rfl, by omega, HS6.out⟩, by simp [intOf]; omega⟩
          · skip
            by_cases h4 : kk = 4
            · subst h4
              obtain ⟨L, hcp⟩ := HS.out.pair.cp
              obtain ⟨L', hcr⟩ := HS.out.pair.cr
              have Hcp := hidI hcp
              have Hcr := hidI hcr
              have hwf := HS.out.pair.wf
              clear hcp hcr
              have Hwf1 := hidI (power_wf hwf)
              have Hpr : Hid (∀ W, CP W lo hi cb L m → hi ≤ W.heap.size → Calls Try.prog 25 #[.pointer (some ⟨cb, 0, none⟩)] W fun e w' => e = .returned (.tuple #[]) ∧ CP w' lo hi cb L ({ m with life := -1 } : M) ∧ Only lo hi W w') := by
                show ∀ _, _; intro W h hs; try rw [Ht.out]
                exact power_any W lo hi cb L m h hwf
              have Hpr' : Hid (∀ W, CR W lo' hi' xb L' m → hi' ≤ W.heap.size → Calls Try.prog 26 #[.pointer (some ⟨xb, 0, none⟩)] W fun e w' => e = .returned (.tuple #[]) ∧ CR w' lo' hi' xb L' ({ m with life := -1 } : M) ∧ Only lo' hi' W w') := by
                show ∀ _, _; intro W h hs; try rw [Ht.out]
                exact powerR_any W lo' hi' xb L' m h hwf
              generalize ({ m with life := -1 } : M) = m1 at Hwf1 Hpr Hpr'
              go_wp2_with (first
                | (go_at_call 25; refine (Hpr.out _ Hcp.out HS.out.pair.s1).mono ?_; rintro e w4 ⟨rfl, hc4, ho4⟩; have hn4 := only_new ho4 hs1; have q1 : w4.cell? ⟨wr.heap.size, 1, none⟩ = some (.int .i64 ka) := (by rw [cell_of_row w4 _ 1 _ 43 (0, 0) hn4]; rfl); have q2 : w4.cell? ⟨wr.heap.size, 2, none⟩ = some (.int .i64 kc) := (by rw [cell_of_row w4 _ 2 _ 43 (0, 0) hn4]; rfl); have q3 : w4.cell? ⟨wr.heap.size, 3, none⟩ = some (.string t) := (by rw [cell_of_row w4 _ 3 _ 43 (0, 0) hn4]; rfl); have Hm4 := hidI (HS.out.mid Hcr.out ho4); have Hc4 := hidI hc4; have hz4 : hi' ≤ w4.heap.size := (Nat.le_trans (HS.out.pair.s2) ho4.size); have Ho4 := hidI ho4; clear hn4 hc4 ho4)
                | (go_at_call 26; refine (Hpr'.out _ Hm4.out hz4).mono ?_; rintro e w5 ⟨rfl, hx5, ho5⟩; have HS5 := hidI (HS.out.step Hc4.out Ho4.out hx5 ho5 Hwf1.out); clear hx5 ho5)
                | (go_at_call 33; refine (alike_any _ lo hi cb _ lo' hi' xb _ m1 Hwf1.out HS5.out.pair.cp.choose_spec HS5.out.pair.cr.choose_spec HS5.out.pair.s1 HS5.out.pair.s2).mono ?_; rintro e w6 ⟨rfl, hb6⟩; have HS6 := hidI (HS5.out.below hb6); clear hb6))
              exact ⟨⟨k + 1, by omega, by go_num, cb, xb, j, oa, oc, wa, wc, _, _, _, _, m1, _, _, rfl, rfl, rfl, rfl, by omega, HS6.out⟩, by simp [intOf]; omega⟩
            · skip
              by_cases h5 : kk = 5
              · subst h5
                obtain ⟨L, hcp⟩ := HS.out.pair.cp
                obtain ⟨L', hcr⟩ := HS.out.pair.cr
                have Hcp := hidI hcp
                have Hcr := hidI hcr
                have hwf := HS.out.pair.wf
                clear hcp hcr
                have Hwf1 := hidI (fail_wf hwf ka kc)
                have Hpr : Hid (∀ W, CP W lo hi cb L m → hi ≤ W.heap.size → Calls Try.prog 27 #[.pointer (some ⟨cb, 0, none⟩), .int .i64 ka, .int .i64 kc] W fun e w' => e = .returned (.tuple #[]) ∧ CP w' lo hi cb L ({ m with fail := bnd ka 0 1073741824, part := prt kc } : M) ∧ Only lo hi W w') := by
                  show ∀ _, _; intro W h hs; try rw [Ht.out]
                  exact fail_any W lo hi cb L m ka kc hCk.1 hCk.2 h
                have Hpr' : Hid (∀ W, CR W lo' hi' xb L' m → hi' ≤ W.heap.size → Calls Try.prog 28 #[.pointer (some ⟨xb, 0, none⟩), .int .i64 ka, .int .i64 kc] W fun e w' => e = .returned (.tuple #[]) ∧ CR w' lo' hi' xb L' ({ m with fail := bnd ka 0 1073741824, part := prt kc } : M) ∧ Only lo' hi' W w') := by
                  show ∀ _, _; intro W h hs; try rw [Ht.out]
                  exact failR_any W lo' hi' xb L' m ka kc hCk.1 hCk.2 h
                generalize ({ m with fail := bnd ka 0 1073741824, part := prt kc } : M) = m1 at Hwf1 Hpr Hpr'
                go_wp2_with (first
                  | (go_at_call 27; refine (Hpr.out _ Hcp.out HS.out.pair.s1).mono ?_; rintro e w4 ⟨rfl, hc4, ho4⟩; have hn4 := only_new ho4 hs1; have q1 : w4.cell? ⟨wr.heap.size, 1, none⟩ = some (.int .i64 ka) := (by rw [cell_of_row w4 _ 1 _ 43 (0, 0) hn4]; rfl); have q2 : w4.cell? ⟨wr.heap.size, 2, none⟩ = some (.int .i64 kc) := (by rw [cell_of_row w4 _ 2 _ 43 (0, 0) hn4]; rfl); have q3 : w4.cell? ⟨wr.heap.size, 3, none⟩ = some (.string t) := (by rw [cell_of_row w4 _ 3 _ 43 (0, 0) hn4]; rfl); have Hm4 := hidI (HS.out.mid Hcr.out ho4); have Hc4 := hidI hc4; have hz4 : hi' ≤ w4.heap.size := (Nat.le_trans (HS.out.pair.s2) ho4.size); have Ho4 := hidI ho4; clear hn4 hc4 ho4)
                  | (go_at_call 28; refine (Hpr'.out _ Hm4.out hz4).mono ?_; rintro e w5 ⟨rfl, hx5, ho5⟩; have HS5 := hidI (HS.out.step Hc4.out Ho4.out hx5 ho5 Hwf1.out); clear hx5 ho5)
                  | (go_at_call 33; refine (alike_any _ lo hi cb _ lo' hi' xb _ m1 Hwf1.out HS5.out.pair.cp.choose_spec HS5.out.pair.cr.choose_spec HS5.out.pair.s1 HS5.out.pair.s2).mono ?_; rintro e w6 ⟨rfl, hb6⟩; have HS6 := hidI (HS5.out.below hb6); clear hb6))
                exact ⟨⟨k + 1, by omega, by go_num, cb, xb, j, oa, oc, wa, wc, _, _, _, _, m1, _, _, rfl, rfl, rfl, rfl, by omega, HS6.out⟩, by simp [intOf]; omega⟩
              · skip
                by_cases h6 : kk = 6
                · subst h6
                  obtain ⟨L, hcp⟩ := HS.out.pair.cp
                  obtain ⟨L', hcr⟩ := HS.out.pair.cr
                  have Hcp := hidI hcp
                  have Hcr := hidI hcr
                  have hwf := HS.out.pair.wf
                  clear hcp hcr
                  have Hwf1 := hidI (scrA_wf hwf ka kc kd)
                  have Hpr : Hid (∀ W, CP W lo hi cb L m → hi ≤ W.heap.size → Calls Try.prog 29 #[.pointer (some ⟨cb, 0, none⟩), .int .i64 ka, .int .i64 kc, .string t] W fun e w' => e = .returned (.tuple #[]) ∧ CP w' lo hi cb L (scrA m ka kc kd) ∧ Only lo hi W w') := by
                    show ∀ _, _; intro W h hs; try rw [Ht.out]
                    exact scr_any W lo hi cb L m ka kc kd hwf hDk h
                  have Hpr' : Hid (∀ W, CR W lo' hi' xb L' m → hi' ≤ W.heap.size → Calls Try.prog 30 #[.pointer (some ⟨xb, 0, none⟩), .int .i64 ka, .int .i64 kc, .string t] W fun e w' => e = .returned (.tuple #[]) ∧ CR w' lo' hi' xb L' (scrA m ka kc kd) ∧ Only lo' hi' W w') := by
                    show ∀ _, _; intro W h hs; try rw [Ht.out]
                    exact scrR_any W lo' hi' xb L' m ka kc kd hwf hDk h hs
                  generalize (scrA m ka kc kd) = m1 at Hwf1 Hpr Hpr'
                  go_wp2_with (first
                    | (go_at_call 29; refine (Hpr.out _ Hcp.out HS.out.pair.s1).mono ?_; rintro e w4 ⟨rfl, hc4, ho4⟩; have hn4 := only_new ho4 hs1; have q1 : w4.cell? ⟨wr.heap.size, 1, none⟩ = some (.int .i64 ka) := (by rw [cell_of_row w4 _ 1 _ 43 (0, 0) hn4]; rfl); have q2 : w4.cell? ⟨wr.heap.size, 2, none⟩ = some (.int .i64 kc) := (by rw [cell_of_row w4 _ 2 _ 43 (0, 0) hn4]; rfl); have q3 : w4.cell? ⟨wr.heap.size, 3, none⟩ = some (.string t) := (by rw [cell_of_row w4 _ 3 _ 43 (0, 0) hn4]; rfl); have Hm4 := hidI (HS.out.mid Hcr.out ho4); have Hc4 := hidI hc4; have hz4 : hi' ≤ w4.heap.size := (Nat.le_trans (HS.out.pair.s2) ho4.size); have Ho4 := hidI ho4; clear hn4 hc4 ho4)
                    | (go_at_call 30; refine (Hpr'.out _ Hm4.out hz4).mono ?_; rintro e w5 ⟨rfl, hx5, ho5⟩; have HS5 := hidI (HS.out.step Hc4.out Ho4.out hx5 ho5 Hwf1.out); clear hx5 ho5)
                    | (go_at_call 33; refine (alike_any _ lo hi cb _ lo' hi' xb _ m1 Hwf1.out HS5.out.pair.cp.choose_spec HS5.out.pair.cr.choose_spec HS5.out.pair.s1 HS5.out.pair.s2).mono ?_; rintro e w6 ⟨rfl, hb6⟩; have HS6 := hidI (HS5.out.below hb6); clear hb6))
                  exact ⟨⟨k + 1, by omega, by go_num, cb, xb, j, oa, oc, wa, wc, _, _, _, _, m1, _, _, rfl, rfl, rfl, rfl, by omega, HS6.out⟩, by simp [intOf]; omega⟩
                · skip
                  by_cases h7 : kk = 7
                  · subst h7
                    have hwf := HS.out.pair.wf
                    have Hold := hidI HS.out.old
                    have Hwas := hidI HS.out.was
                    have Hbel := hidI HS.out.bel
                    have hGr : w.heap.size ≤ wr.heap.size := by
                      obtain ⟨L, hc⟩ := HS.out.pair.cp
                      have h1 := hc.hcb
                      have h2 := HS.out.pair.b1
                      omega
                    go_wp2_with (at_builtin; refine wpList_append_lies _ rfl (.tmp 151) (.tmp 153) 40 rfl w.heap.size 36 i0 (.pointer none) 1 8 Try.underlying40 oi oz0 oz1 oz2 rfl (by decide) (.slice oa j oc) j _ rfl (Hold.out.alloc _) ⟨wr.heap.size + 1, 0, none⟩ 1 1 [.pointer (some ⟨cb, 0, none⟩)] rfl rfl (cell_two_new _ _ _ _) (by intro u hu; simp at hu; subst hu; rfl) (by omega) (by unfold maxLen; omega) (by omega) (by simp; omega) (wr.heap.size + 2) (by simp) ?_)
                    intro g4 cap4 w4 hown4 hgrow4 hat4 hlt4
                    have K4 : ∀ y, y ≠ 36 → Keeps y (wr.alloc (.cells #[.int .i64 7, .int .i64 ka, .int .i64 kc, .string t] 43)) w4 := (fun y hy => ((Keeps.refl y _).alloc _).grown (Hold.out.alloc _) (fun e => hy e.symm) hgrow4)
                    have hwas4 := (K4 38 (by decide)).own Hwas.out
                    have hz4 : wr.heap.size + 2 ≤ w4.heap.size := by
                      have := hgrow4.size
                      simpa using this
                    have hbel4 : Below w.heap.size w w4 := (Hbel.out.alloc (by simp; omega) _).grown hgrow4 (by simp; omega) (fun q hq => (Hold.out.lt q hq).1)
                    have HK4 := hidI K4
                    have Hown4 := hidI hown4
                    have Hbel4 := hidI hbel4
                    clear hgrow4 hat4 K4 hown4 hbel4
                    go_wp2_with (at_builtin; refine wpList_append_lies _ rfl (.tmp 155) (.tmp 157) 41 rfl w.heap.size 38 j0 (.pointer none) 1 8 Try.underlying41 wi wz0 wz1 wz2 rfl (by decide) (.slice wa j wc) j _ rfl (hwas4.alloc _) ⟨w4.heap.size, 0, none⟩ 1 1 [.pointer (some ⟨xb, 0, none⟩)] rfl rfl (cell_one_new _ _ _) (by intro u hu; simp at hu; subst hu; rfl) (by omega) (by unfold maxLen; omega) (by omega) (by simp; omega) (w4.heap.size + 1) (by simp) ?_)
                    intro g5 cap5 w5 hown5 hgrow5 hat5 hlt5
                    have K5 : ∀ y, y ≠ 38 → Keeps y w4 w5 := (fun y hy => ((Keeps.refl y _).alloc _).grown (hwas4.alloc _) (fun e => hy e.symm) hgrow5)
                    have Hold5 := hidI ((K5 36 (by decide)).own Hown4.out)
                    have hz5 : w4.heap.size + 1 ≤ w5.heap.size := by
                      have := hgrow5.size
                      simpa using this
                    have Hbel5 : Hid (Below w.heap.size w w5) := (Hbel4.out.alloc (by omega) _).grown hgrow5 (by simp; omega) (fun q hq => (hwas4.lt q hq).1)
                    have HK5 : Hid (∀ y, y ≠ 36 → y ≠ 38 → Keeps y (wr.alloc (.cells #[.int .i64 7, .int .i64 ka, .int .i64 kc, .string t] 43)) w5) := fun y h1 h2 => (HK4.out y h1).trans (K5 y h2)
                    have Hown5 := hidI hown5
                    have hzz : (wr.alloc (.cells #[.int .i64 7, .int .i64 ka, .int .i64 kc, .string t] 43)).heap.size ≤ w5.heap.size := by simp; omega
                    have Hp5 := hidI (HS.out.pair.keep hzz HK5.out)
                    clear hgrow5 hat5 K5 hown5 hwas4
                    go_wp2_with (first
                      | (go_at_call 31; refine (copy_any _ lo hi cb _ m hwf Hp5.out.cp.choose_spec Hp5.out.s1).mono ?_; rintro e w6 ⟨L6, rfl, hc6, hb6⟩; have Hp6 := hidI (Hp5.out.below hb6); have Hc6 := hidI hc6; have Hb6 := hidI hb6; clear hc6 hb6)
                      | (go_at_call 32; refine (clone_any _ lo' hi' xb _ m hwf Hp6.out.cr.choose_spec Hp6.out.s2).mono ?_; rintro e w7 ⟨L7, rfl, hc7, hb7⟩; have HS7 := hidI (HS.out.copy HK5.out hzz Hbel5.out Hold5.out Hown5.out Hb6.out Hc6.out hb7 hc7); clear hc7 hb7)
                      | (go_at_call 33; refine (alike_any _ _ _ _ _ _ _ _ _ m hwf HS7.out.pair.cp.choose_spec HS7.out.pair.cr.choose_spec HS7.out.pair.s1 HS7.out.pair.s2).mono ?_; rintro e w8 ⟨rfl, hb8⟩; have HS8 := hidI (HS7.out.below hb8); clear hb8))
                    exact ⟨⟨k + 1, by omega, by go_num, _, _, j + 1, _, _, _, _, _, _, _, _, m, _, _, rfl, rfl, rfl, rfl, by omega, HS8.out⟩, by simp [intOf]; omega⟩
                  · have e1 : (kk == 1) = false := by simpa using h1
                    have e2 : (kk == 2) = false := by simpa using h2
                    have e3 : (kk == 3) = false := by simpa using h3
                    have e4 : (kk == 4) = false := by simpa using h4
                    have e5 : (kk == 5) = false := by simpa using h5
                    have e6 : (kk == 6) = false := by simpa using h6
                    have e7 : (kk == 7) = false := by simpa using h7
                    have hwf := HS.out.pair.wf
                    go_wp2_with (first
                      | (go_at_call 33; refine (alike_any _ lo hi cb _ lo' hi' xb _ m hwf HS.out.pair.cp.choose_spec HS.out.pair.cr.choose_spec HS.out.pair.s1 HS.out.pair.s2).mono ?_; rintro e w6 ⟨rfl, hb6⟩; have HS6 := hidI (HS.out.below hb6); clear hb6))
                    exact ⟨⟨k + 1, by omega, by go_num, cb, xb, j, oa, oc, wa, wc, _, _, _, _, m, _, _, rfl, rfl, rfl, rfl, by omega, HS6.out⟩, by simp [intOf]; omega⟩
    · have HS := hidI hS
      have hwf := hS.pair.wf
      have hjs : j ≤ sn := by omega
      clear hS
      go_wp2
      go_loopw [23] (fun i wq => ∃ q : Nat, q ≤ j ∧ i = .int .i64 q ∧ St w wq w.heap.size cb xb (.slice oa j oc) (.slice wa j wc) j lo hi lo' hi' m pc px) (fun i _ => j - (intOf i).toNat)
      case atStart => exact ⟨0, by omega, rfl, HS.out⟩
      case round =>
        clear HS
        obtain ⟨q, hq, rfl, hS⟩ := hrel
        by_cases hlq : q < j
        · obtain ⟨l, a2, l', a2', mq, hp, _⟩ := hS.olds q hlq
          obtain ⟨og, ocp, ho1, _, hro⟩ := own_rw hS.old (by omega)
          obtain ⟨wg, wcp, hw1, _, hrw⟩ := own_rw hS.was (by omega)
          have co := hro.cell hlq
          have cw := hrw.cell hlq
          simp only [Value.slice.injEq, true_and] at ho1 hw1
          obtain ⟨rfl, rfl⟩ := ho1
          obtain ⟨rfl, rfl⟩ := hw1
          have Hp := hidI hp
          have HS := hidI hS
          clear hp hS hro hrw
          go_wp2_with fail
          go_region_with (go_at_call 33; refine (alike_any _ _ _ _ _ _ _ _ _ mq Hp.out.wf (MemX.drew Hp.out.cp.choose_spec) (MemX.drew Hp.out.cr.choose_spec) Hp.out.s1 Hp.out.s2).mono ?_; rintro e w6 ⟨rfl, hb6⟩; have HS6 := hidI (HS.out.below ((Below.refl _ _).drew.trans hb6)); clear hb6)
          all_goals go_wp2
          all_goals exact ⟨⟨q + 1, by omega, by go_num, HS6.out⟩, by simp [intOf]; omega⟩
        · have HS := hidI hS
          clear hS
          go_wp2_with (first
            | (go_at_call 33; refine (alike_any _ lo hi cb _ lo' hi' xb _ m hwf HS.out.pair.cp.choose_spec HS.out.pair.cr.choose_spec HS.out.pair.s1 HS.out.pair.s2).mono ?_; rintro e w6 ⟨rfl, hb6⟩; have HS6 := hidI (HS.out.below hb6); clear hb6))
          go_ret
          exact ⟨rfl, HS6.out.bel⟩
end Go.Proofs.Ytodmdkhdbfbfgaa
