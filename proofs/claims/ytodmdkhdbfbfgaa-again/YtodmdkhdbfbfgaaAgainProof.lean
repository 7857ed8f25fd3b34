/- nandkeep.Again returns true for all bytes, every number and every text, and they read afterwards as they did (no condition). -/
import Derived.Test.YtodmdkhdbfbfgaaRows
import Derived.Test.YtodmdkhdbfbfgaaPkPack
import Derived.Test.YtodmdkhdbfbfgaaUnpack
import Derived.SizedLaws
import Derived.WalkKit
import Derived.ProofKit
import Derived.OpenShut
import Derived.JoinedCond
import Derived.ShutString
import Derived.ChangeOld
import Derived.Below
namespace Go.Proofs.Ytodmdkhdbfbfgaa
open Go.RowKit Pk
set_option linter.unusedVariables false
set_option linter.unusedSimpArgs false

theorem dataF_len (s : List UInt8) (z : Nat → Int) (N size f : Nat) (out : List UInt8) (pos : Nat) (x : List UInt8 × Nat) (ho : out.length ≤ size) (h : dataF s z N size f out pos = some x) : x.1.length ≤ size := by
  induction f generalizing out pos with
  | zero =>
    rw [dataF] at h
    split at h
    · cases h; exact ho
    · cases h
  | succ f ih =>
    rw [dataF] at h
    split at h
    · cases h; exact ho
    · rename_i hlt
      split at h
      · cases h
      · rename_i i hi
        split at h
        · exact ih _ _ (by simp; omega) h
        · split at h
          · cases h
          · split at h
            · cases h
            · rename_i hno
              exact ih _ _ (by rw [cpy_length]; omega) h
theorem unpF_len (t y : List UInt8) (h : unpF 288 t = some y) : y.length ≤ 4000 := by
  cases t with
  | nil => cases h
  | cons c r =>
    rw [unpF_cons] at h
    split at h
    · split at h
      · cases h; assumption
      · cases h
    · split at h
      · split at h
        · cases h
        · split at h
          · cases h
          · rename_i hsz
            generalize 256 * (r.getD 0 0).toNat + (r.getD 1 0).toNat = size at *
            unfold bodyF at h
            split at h
            · cases h
            · split at h
              · cases h
              · split at h
                · cases h
                · rename_i out p hdt
                  split at h
                  · cases h
                    have := dataF_len _ _ _ _ _ _ _ _ (by simp) hdt
                    simp at this
                    omega
                  · cases h
      · cases h

set_option maxRecDepth 100000 in
set_option maxHeartbeats 1000000 in
theorem pick8 (c : Int) (h1 : -9223372036854775808 ≤ c) (h2 : c ≤ 9223372036854775807) : ∃ p : Nat, p < 8 ∧ ∀ w, Calls Try.prog 34 #[.int .i64 c, .int .i64 8] w fun e w' => e = .returned (.int .i64 (p : Nat)) ∧ w' = w := by
  by_cases h : c < 0
  · refine ⟨((-(c + 1)) % 8).toNat, by omega, fun w => ?_⟩
    go_enter Try.func34, Try.ntmps34
    go_wp2
    go_ret
    refine ⟨ret_int ?_, rfl⟩
    have e : -(c + 1).tmod 8 = (-(c + 1)) % 8 := by rw [← Int.neg_tmod, Int.tmod_eq_emod_of_nonneg (by omega)]
    rw [e]; omega
  · refine ⟨(c % 8).toNat, by omega, fun w => ?_⟩
    go_enter Try.func34, Try.ntmps34
    go_wp2
    go_ret
    exact ⟨ret_int (by omega), rfl⟩

set_option maxRecDepth 100000 in
set_option maxHeartbeats 1000000 in
theorem short4 (s : ByteArray) (hs : s.size ≤ 140737488351232) : ∃ s2 : ByteArray, s2.size ≤ 4000 ∧ ∀ w, Calls Try.prog 35 #[.string s, .int .i64 4000] w fun e w' => e = .returned (.string s2) ∧ w' = w := by
  by_cases h : 4000 < s.size
  · refine ⟨s.extract 0 4000, by simp; omega, fun w => ?_⟩
    have h2 : 4000 ≤ s.size := by omega
    go_enter Try.func35, Try.ntmps35
    go_wp2
    go_ret
    exact ⟨rfl, rfl⟩
  · refine ⟨s, by omega, fun w => ?_⟩
    go_enter Try.func35, Try.ntmps35
    go_wp2
    go_ret
    exact ⟨rfl, rfl⟩

theorem ans_some (d : List UInt8) : ansU (some d) = .returned (.tuple #[.string (txt d), .int .i64 0]) := rfl
theorem ans_no : ansU none = .returned (.tuple #[.string ⟨#[]⟩, .int .i64 2]) := rfl
theorem of_bytes (t : ByteArray) : ∃ d : List UInt8, t = txt d ∧ d.length = t.size := ⟨t.data.toList, (Lib.mk_data t).symm, by rw [← Lib.size_eq]⟩

set_option maxRecDepth 100000 in
set_option maxHeartbeats 4000000 in
theorem again_walk (t1 : ByteArray) (times : Int) (t2 : ByteArray) (w : World) (hs1 : t1.size ≤ 140737488351232) (ht1 : -9223372036854775808 ≤ times) (ht2 : times ≤ 9223372036854775807) (hs2 : t2.size ≤ 140737488351232) :
    Calls Try.prog 8 #[.string t1, .int .i64 times, .string t2] w fun e w' => e = .returned (.bool true) ∧ Below w.heap.size w w' := by
  obtain ⟨p, hp, hpick⟩ := pick8 times ht1 ht2
  have Hpick := hidI hpick
  clear hpick
  go_enter Try.func8, Try.ntmps8
  go_wp2
  go_loopw [8, 7] (fun i d wr => w = wr ∧ ∃ k : Nat, ∃ s : ByteArray, i = .int .i64 (k : Nat) ∧ d = .string s ∧ k ≤ 8 ∧ s.size ≤ 140737488351232) (fun i _ _ => 8 - (intOf i).toNat)
  case atStart => exact ⟨rfl, 0, t1, rfl, rfl, by omega, hs1⟩
  case round =>
    obtain ⟨rfl, k, s, rfl, rfl, hk, hss⟩ := hrel
    by_cases hg : k < p ∧ 2 * s.size ≤ 4000
    · obtain ⟨hg1, hg2⟩ := hg
      have g1 : decide ((k : Int) < (p : Int)) = true := by simp; omega
      have g2 : decide (2 * (s.size : Int) ≤ 4000) = true := by simp; omega
      go_wp2_with fail
      refine (Hpick.out _).mono ?_
      rintro e w' ⟨rfl, hw⟩
      have hw' := hw.symm
      subst hw'
      go_wp2
      go_roundw
      case rel => exact ⟨by trivial, k + 1, s ++ s, by go_num, rfl, by omega, by rw [ByteArray.size_append]; omega⟩
      case measure => simp [intOf]; omega
    · obtain ⟨s2, hs24, hsh⟩ := short4 s hss
      have Hsh := hidI hsh
      obtain ⟨d2, hsx, hd2⟩ := of_bytes s2
      have Hpk := hidI (fun W => pack_any W d2 (by omega))
      rw [← hsx] at Hpk
      have Hsx := hidI hsx
      obtain ⟨e2, hex, he2⟩ := of_bytes t2
      have Hu2 := hidI (fun W => unpack_any e2 W (by omega))
      rw [← hex] at Hu2
      have Hu0 := hidI (fun W => unpack_any [] W (by simp))
      rw [show unpF 288 [] = none from rfl, ans_no, show txt [] = ⟨#[]⟩ from rfl] at Hu0
      clear hsh hsx hex
      by_cases hkp : k < p
      · have g1 : decide ((k : Int) < (p : Int)) = true := by simp; omega
        have g2 : decide (2 * (s.size : Int) ≤ 4000) = false := by simp; omega
        clear hg
        go_wp2_with fail
        refine (Hpick.out _).mono ?_
        rintro e w' ⟨rfl, hw⟩
        have hw' := hw.symm
        subst hw'
        go_wp2_with fail
        refine (Hsh.out _).mono ?_
        rintro e w' ⟨rfl, hw⟩
        have hw' := hw.symm
        subst hw'
        go_wp2_with fail
        refine (Hpk.out _).mono ?_
        rintro e w1 ⟨T, rfl, hunp, hlen, _, hb1⟩
        have Hu1 := hidI (unpack_any T w1 (by omega))
        rw [hunp, ans_some, ← Hsx.out] at Hu1
        have hTs : (txt T).size = T.length := txt_size T
        generalize txt T = tT at *
        have hs1 := hb1.size
        clear hunp
        go_wp2_with fail
        refine Hu1.out.mono ?_
        rintro e w2 ⟨rfl, hb2⟩
        have hs12 := hb2.size
        clear Hu1
        go_wp2_with fail
        refine (Hu0.out _).mono ?_
        rintro e w3 ⟨rfl, hb3⟩
        have hs23 := hb3.size
        have hss2 : (s2.toList != s2.toList) = false := by simp
        have Hb3 := hidI (hb1.trans ((hb2.mono hs1).trans (hb3.mono (by omega))))
        have hsz3 := Hb3.out.size
        have hle1 : ¬ (d2.length : Int) + 1 < (T.length : Int) := by omega
        have hsz2 : s2.size = d2.length := by omega
        clear hb1 hb2 hb3 hd2 he2
        go_wp2_with fail
        refine (Hu2.out _).mono ?_
        cases hu : unpF 288 e2 with
        | none =>
          rw [ans_no]
          rintro e w4 ⟨rfl, hb4⟩
          have Hb4 := hidI (Hb3.out.trans (hb4.mono hsz3))
          clear hb4
          go_wp2
          go_ret
          exact ⟨rfl, Hb4.out⟩
        | some y =>
          rw [ans_some]
          rintro e w4 ⟨rfl, hb4⟩
          have hyl := unpF_len e2 y hu
          have Hpy := hidI (fun W => pack_any W y hyl)
          have hys : (txt y).size = y.length := txt_size y
          obtain ⟨ty, hty⟩ : ∃ ty, ty = txt y := ⟨_, rfl⟩
          rw [← hty] at Hpy hys ⊢
          have Hty := hidI hty
          have Hb4 := hidI (Hb3.out.trans (hb4.mono hsz3))
          have hsz4 := Hb4.out.size
          clear hb4 hty hu
          go_wp2_with fail
          refine (Hpy.out _).mono ?_
          rintro e w5 ⟨U, rfl, hunpU, hlenU, _, hb5⟩
          have Hu5 := hidI (unpack_any U w5 (by omega))
          rw [hunpU, ans_some, ← Hty.out] at Hu5
          generalize txt U = tU at *
          have Hb5 := hidI (Hb4.out.trans (hb5.mono hsz4))
          have hsz5 := Hb5.out.size
          clear hb5 hunpU Hpy
          go_wp2_with fail
          refine Hu5.out.mono ?_
          rintro e w6 ⟨rfl, hb6⟩
          have Hb6 := hidI (Hb5.out.trans (hb6.mono hsz5))
          have hyy : (ty.toList == ty.toList) = true := by simp
          have hy4 : ty.size ≤ 4000 := by omega
          clear hb6 Hu5
          go_wp2
          go_ret
          exact ⟨rfl, Hb6.out⟩
      · have g1 : decide ((k : Int) < (p : Int)) = false := by simp; omega
        clear hg
        go_wp2_with fail
        refine (Hpick.out _).mono ?_
        rintro e w' ⟨rfl, hw⟩
        have hw' := hw.symm
        subst hw'
        go_wp2_with fail
        refine (Hsh.out _).mono ?_
        rintro e w' ⟨rfl, hw⟩
        have hw' := hw.symm
        subst hw'
        go_wp2_with fail
        refine (Hpk.out _).mono ?_
        rintro e w1 ⟨T, rfl, hunp, hlen, _, hb1⟩
        have Hu1 := hidI (unpack_any T w1 (by omega))
        rw [hunp, ans_some, ← Hsx.out] at Hu1
        have hTs : (txt T).size = T.length := txt_size T
        generalize txt T = tT at *
        have hs1 := hb1.size
        clear hunp
        go_wp2_with fail
        refine Hu1.out.mono ?_
        rintro e w2 ⟨rfl, hb2⟩
        have hs12 := hb2.size
        clear Hu1
        go_wp2_with fail
        refine (Hu0.out _).mono ?_
        rintro e w3 ⟨rfl, hb3⟩
        have hs23 := hb3.size
        have hss2 : (s2.toList != s2.toList) = false := by simp
        have Hb3 := hidI (hb1.trans ((hb2.mono hs1).trans (hb3.mono (by omega))))
        have hsz3 := Hb3.out.size
        have hle1 : ¬ (d2.length : Int) + 1 < (T.length : Int) := by omega
        have hsz2 : s2.size = d2.length := by omega
        clear hb1 hb2 hb3 hd2 he2
        go_wp2_with fail
        refine (Hu2.out _).mono ?_
        cases hu : unpF 288 e2 with
        | none =>
          rw [ans_no]
          rintro e w4 ⟨rfl, hb4⟩
          have Hb4 := hidI (Hb3.out.trans (hb4.mono hsz3))
          clear hb4
          go_wp2
          go_ret
          exact ⟨rfl, Hb4.out⟩
        | some y =>
          rw [ans_some]
          rintro e w4 ⟨rfl, hb4⟩
          have hyl := unpF_len e2 y hu
          have Hpy := hidI (fun W => pack_any W y hyl)
          have hys : (txt y).size = y.length := txt_size y
          obtain ⟨ty, hty⟩ : ∃ ty, ty = txt y := ⟨_, rfl⟩
          rw [← hty] at Hpy hys ⊢
          have Hty := hidI hty
          have Hb4 := hidI (Hb3.out.trans (hb4.mono hsz3))
          have hsz4 := Hb4.out.size
          clear hb4 hty hu
          go_wp2_with fail
          refine (Hpy.out _).mono ?_
          rintro e w5 ⟨U, rfl, hunpU, hlenU, _, hb5⟩
          have Hu5 := hidI (unpack_any U w5 (by omega))
          rw [hunpU, ans_some, ← Hty.out] at Hu5
          generalize txt U = tU at *
          have Hb5 := hidI (Hb4.out.trans (hb5.mono hsz4))
          have hsz5 := Hb5.out.size
          clear hb5 hunpU Hpy
          go_wp2_with fail
          refine Hu5.out.mono ?_
          rintro e w6 ⟨rfl, hb6⟩
          have Hb6 := hidI (Hb5.out.trans (hb6.mono hsz5))
          have hyy : (ty.toList == ty.toList) = true := by simp
          have hy4 : ty.size ≤ 4000 := by omega
          clear hb6 Hu5
          go_wp2
          go_ret
          exact ⟨rfl, Hb6.out⟩
end Go.Proofs.Ytodmdkhdbfbfgaa

namespace Go.Proofs.Ytodmdkhdbfbfgaa.again
open Go.ChangeShapes Go.WideShapes Go.ChangeAt Go.RowKit
open Go.ChangeMaps (open_string shut_string)
set_option linter.unusedVariables false

theorem own : ownKnob Try.prog.godebug = none := by kernel_rfl

set_option maxRecDepth 100000 in
theorem lifted (os : Os) (started : os.Started) (H : Type) (enc : TypeId × Value → H) :
    ReturnsInHanded {} Try.checked os 8 .any (Rows.againSpec.pre6 enc Try.prog Try.f8 Rows.againRow.domain false) (Rows.againSpec.post enc Try.prog Try.f8 false true false false) := by
  refine returnsInHanded_of_change_sized (C := Try.checked) own started (by kernel_rfl) Try.func8
    (ChangeSpec.witness6 (enc := enc) (C := Try.checked) false ⟨#[], #[.string .empty, .int .i64 0, .string .empty], []⟩ 8 (by kernel_rfl) (by kernel_rfl) (by kernel_rfl) (by kernel_rfl)) ?_
  intro W base args ds gs before hval0 hW hcnd hsz0 _
  have hval : ∀ (j : Nat) t v, Try.f8.params[j]? = some t → args[j]? = some v → Value.okWide Try.prog W .any base t v := hval0
  have hW' := hW
  obtain ⟨p, q, hA0, hV, rfl, hfz, hnd⟩ := hW
  have hA : DataW.TrodAll enc Try.prog W 0 (fun _ => true) true Try.f8.params.toList args.toList ds p := hA0
  have hsz : (DataW.weightsEach Try.prog (Try.f8.params.toList ++ Rows.againSpec.plain.varTypes Try.prog) (ds ++ gs)).all (· ≤ reachBytes) = true := hsz0
  rw [Try.params8] at hA hval hsz
  obtain ⟨v0, vs0, d0, ds0, p0, q0, hargs, rfl, rfl, h0, r0⟩ := trodAll_cons hA
  obtain ⟨v1, vs1, d1, ds1, p1, q1, hargs1, rfl, rfl, h1, r1⟩ := trodAll_cons r0
  obtain ⟨v2, vs2, d2, ds2, p2, q2, hargs2, rfl, rfl, h2, r2⟩ := trodAll_cons r1
  obtain ⟨rfl, rfl, rfl⟩ := trodAll_nil r2
  subst hargs1 hargs2
  obtain rfl : args = #[v0, v1, v2] := by cases args; simp_all
  obtain ⟨rfl, rfl⟩ := trodVars_none hV
  obtain ⟨s, rfl, rfl, rfl, hmax⟩ := open_string Try.underlying9 (hval 0 9 v0 rfl rfl) h0
  obtain ⟨n, rfl, rfl, rfl, hwf⟩ := open_int Try.underlying3 (hval 1 3 v1 rfl rfl) h1
  obtain ⟨s2, rfl, rfl, rfl, hmax2⟩ := open_string Try.underlying9 (hval 2 9 v2 rfl rfl) h2
  have hz0 := sized_string hsz (j := 0) (t := 9) rfl rfl
  have hz2 := sized_string hsz (j := 2) (t := 9) rfl rfl
  have e0 : s.data.toList.length = s.size := by rw [Array.length_toList]; rfl
  have e2 : s2.data.toList.length = s2.size := by rw [Array.length_toList]; rfl
  unfold reachBytes at hz0 hz2
  have hb : -9223372036854775808 ≤ n ∧ n ≤ 9223372036854775807 := by
    have m1 : IntKind.i64.min = -9223372036854775808 := by decide
    have m2 : IntKind.i64.max = 9223372036854775807 := by decide
    simp only [Lit.wf, m1, m2, Bool.and_eq_true, decide_eq_true_eq] at hwf
    exact hwf
  clear hA0 hval0
  simp only [List.append_nil] at hW'
  refine (again_walk s n s2 W (by omega) hb.1 hb.2 (by omega)).mono fun e W' ⟨he, bel⟩ => ?_
  subst he
  exact ⟨_, rfl, _, _, _, [], [], [], hW', trodAll_mk1 (shut_bool Try.underlying4 _), trodAll_cons_mk (shut_string Try.underlying9 hmax) (trodAll_cons_mk (shut_int Try.underlying3 hwf) (trodAll_cons_mk (shut_string Try.underlying9 hmax2) trodAll_mk0)), rfl, bel.frame _, fun h => by cases h⟩

theorem over : Rows.againRow.holds Try.pinned (OpenSpec.ofChange Rows.againSpec) :=
  OpenClaim.holds_of_wide 8 Try.f8 rfl rfl rfl rfl rfl rfl rfl ⟨rfl, rfl, rfl, rfl, rfl⟩ rfl rfl rfl rfl rfl (by kernel_rfl) Try.func8 (by kernel_rfl)
    (of_decide_eq_true (by kernel_rfl)) (by unfold Func.isWrapper; first | (rw [if_pos (by decide +kernel)]; kernel_rfl) | (rw [if_neg (by decide +kernel)]; exact ⟨rfl, rfl⟩))
    (fun os started H enc _ => lifted os started H enc)

/-- The statement. -/
theorem proved : Rows.AgainSaid := over
end Go.Proofs.Ytodmdkhdbfbfgaa.again
namespace Go.Proofs.Ytodmdkhdbfbfgaa
/-- The statement, under the seat's own name. -/
theorem again_holds : Rows.AgainSaid := again.proved
end Go.Proofs.Ytodmdkhdbfbfgaa
