/- nandlaw.Packs returns true for every text, and the text reads afterwards as it did. -/
import Derived.Test.YtodmdkhdbfbfgaaRows
import Derived.Test.YtodmdkhdbfbfgaaPkPack
import Derived.Test.YtodmdkhdbfbfgaaRefBody
import Derived.WalkKit
import Derived.ProofKit
import Derived.OpenShut
import Derived.JoinedCond
import Derived.ShutString
import Derived.ChangeOld
import Derived.Below
namespace Go.Proofs.Ytodmdkhdbfbfgaa
open Go.RowKit Pk
set_option linter.unusedVariables false
set_option linter.unusedSimpArgs false

set_option maxRecDepth 100000 in
set_option maxHeartbeats 4000000 in
theorem packs_walk (t : ByteArray) (w : World) :
    Calls Try.prog 5 #[.string t] w fun e w' => e = .returned (.bool true) ∧ Below w.heap.size w w' := by
  by_cases hl : 4000 < t.size
  · have Hp := hidI (pack_long w t hl)
    go_enter Try.func5, Try.ntmps5
    go_wp2_with fail
    refine Hp.out.mono ?_
    rintro e w1 ⟨rfl, rfl⟩
    clear Hp
    go_wp2
    go_ret
    exact ⟨rfl, Below.refl _ _⟩
  · obtain ⟨d, hdd⟩ : ∃ d, d = t.data.toList := ⟨_, rfl⟩
    have htx : t = txt d := by rw [hdd]; exact (Lib.mk_data t).symm
    have hts : t.size = d.length := by rw [htx, txt_size]
    have hd : d.length ≤ 4000 := by omega
    have hgd : ∀ k (h : k < t.size), (t[k]'h).toNat = (d.getD k 0).toNat := fun k h => by subst htx; rw [txt_getD]
    have Hp := hidI (pack_any w d hd)
    rw [← htx] at Hp
    have Htx := hidI htx
    have Hgd := hidI hgd
    have Hts := hidI hts
    have ht4 : t.size ≤ 4000 := by omega
    clear hdd htx hgd hl
    go_enter Try.func5, Try.ntmps5
    go_wp2_with fail
    refine Hp.out.mono ?_
    rintro e w1 ⟨T, rfl, hunp, hlen, hsame, hb1⟩
    have Hr := hidI (refUnpack T w1 (by omega))
    have hans : ansU (some d) = .returned (.tuple #[.string t, .int .i64 0]) := by
      rw [show ansU (some d) = .returned (.tuple #[.string (txt d), .int .i64 0]) from rfl, ← Htx.out]
    rw [hunp, hans] at Hr
    have hTs : (txt T).size = T.length := txt_size T
    generalize txt T = tT at *
    have Hsame := hidI hsame
    have Hb1 := hidI hb1
    clear hsame hb1 hunp Hp hans
    go_wp2_with fail
    refine Hr.out.mono ?_
    rintro e w2 ⟨rfl, hb2⟩
    have Hb2 := hidI (Hb1.out.trans (hb2.mono Hb1.out.size))
    clear hb2 Hr Hb1
    go_wp2
    go_loopw [8, 7] (fun i b wr => ∃ k q : Nat, ∃ s : Bool, i = .int .i64 (k : Nat) ∧ b = .bool s ∧ k ≤ d.length ∧ wr = w2.drewN q ∧ Hid (s = true → ∀ j, j < k → d.getD j 0 = d.getD 0 0)) (fun i _ _ => d.length - (intOf i).toNat)
    case atStart => exact ⟨0, 0, true, rfl, rfl, by omega, rfl, fun _ j hj => by omega⟩
    case round =>
      obtain ⟨k, q, s, rfl, rfl, hk, rfl, Hs⟩ := hrel
      by_cases hlt : k < d.length
      · have i1 : k < t.size := by omega
        have i0 : 0 < t.size := by omega
        have e1 := Hgd.out k i1
        have e0 := Hgd.out 0 i0
        cases s with
        | false =>
          have Hs2 : Hid (false = true → ∀ j, j < k + 1 → d.getD j 0 = d.getD 0 0) := fun h => by cases h
          clear Hs e1 e0
          go_wp2
          go_quiet (fail)
          go_wp2
          go_roundw
          case rel => exact ⟨k + 1, _, false, by go_num, rfl, by omega, by first | rfl | trivial | (simp only [World.drewN_drewN, World.drew_drewN]; rfl), Hs2⟩
          case measure => simp [intOf]; omega
        | true =>
          by_cases hc : d.getD k 0 = d.getD 0 0
          · have Hs2 : Hid (true = true → ∀ j, j < k + 1 → d.getD j 0 = d.getD 0 0) := fun _ j hj => by
              by_cases e : j = k
              · subst e; exact hc
              · exact Hs.out rfl j (by omega)
            rw [hc] at e1
            generalize (d.getD 0 0).toNat = u at *
            clear Hs hc
            go_wp2
            go_quiet (fail)
            go_wp2
            go_roundw
            case rel => exact ⟨k + 1, _, true, by go_num, rfl, by omega, by first | rfl | trivial | (simp only [World.drewN_drewN, World.drew_drewN]; rfl), fun _ => Hs2.out trivial⟩
            case measure => simp [intOf]; omega
          · have hne : (d.getD k 0).toNat ≠ (d.getD 0 0).toNat := fun h => hc (UInt8.toNat_inj.1 h)
            generalize (d.getD k 0).toNat = v at *
            generalize (d.getD 0 0).toNat = u at *
            have g3 : ((v : Int) == (u : Int)) = false := by simp; omega
            clear Hs hc
            go_wp2
            go_quiet (fail)
            go_wp2
            go_roundw
            case rel => exact ⟨k + 1, _, false, by go_num, rfl, by omega, by first | rfl | trivial | (simp only [World.drewN_drewN, World.drew_drewN]; rfl), fun h => by cases h⟩
            case measure => simp [intOf]; omega
      · have hkd : k = d.length := by omega
        have htt : (t.toList == t.toList) = true := by simp
        have hle1 : (T.length : Int) ≤ (d.length : Int) + 1 := by omega
        have Hb3 := hidI (below_drewN Hb2.out q)
        cases s with
        | false =>
          clear Hs
          subst hkd
          go_wp2
          go_ret
          exact ⟨rfl, Hb3.out⟩
        | true =>
          have hsh : T.length ≤ 40 + d.length / 16 := Hsame.out (d.getD 0 0).toNat fun j hj => by rw [Hs.out rfl j (by omega)]
          have hsh2 : (T.length : Int) ≤ 40 + (d.length : Int) / 16 := by omega
          clear Hs
          subst hkd
          go_wp2
          go_ret
          exact ⟨rfl, Hb3.out⟩
end Go.Proofs.Ytodmdkhdbfbfgaa

namespace Go.Proofs.Ytodmdkhdbfbfgaa.packs
open Go.ChangeShapes Go.WideShapes Go.ChangeAt Go.RowKit
open Go.ChangeMaps (open_string shut_string)
set_option linter.unusedVariables false

theorem own : ownKnob Try.prog.godebug = none := by kernel_rfl

set_option maxRecDepth 100000 in
theorem lifted (os : Os) (started : os.Started) (H : Type) (enc : TypeId × Value → H) :
    ReturnsInHanded {} Try.checked os 5 .any (Rows.packsSpec.pre6 enc Try.prog Try.f5 Rows.packsRow.domain false) (Rows.packsSpec.post enc Try.prog Try.f5 false true false false) := by
  refine returnsInHanded_of_change_sized (C := Try.checked) own started (by kernel_rfl) Try.func5
    (ChangeSpec.witness6 (enc := enc) (C := Try.checked) false ⟨#[], #[.string .empty], []⟩ 8 (by kernel_rfl) (by kernel_rfl) (by kernel_rfl) (by kernel_rfl)) ?_
  intro W base args ds gs before hval0 hW hcnd hsz0 _
  have hval : ∀ (j : Nat) t v, Try.f5.params[j]? = some t → args[j]? = some v → Value.okWide Try.prog W .any base t v := hval0
  have hW' := hW
  obtain ⟨p, q, hA0, hV, rfl, hfz, hnd⟩ := hW
  have hA : DataW.TrodAll enc Try.prog W 0 (fun _ => true) true Try.f5.params.toList args.toList ds p := hA0
  rw [Try.params5] at hA hval
  obtain ⟨v0, vs0, d0, ds0, p0, q0, hargs, rfl, rfl, h0, r0⟩ := trodAll_cons hA
  obtain ⟨rfl, rfl, rfl⟩ := trodAll_nil r0
  obtain rfl : args = #[v0] := by cases args; simp_all
  obtain ⟨rfl, rfl⟩ := trodVars_none hV
  obtain ⟨s, rfl, rfl, rfl, hmax⟩ := open_string Try.underlying9 (hval 0 9 v0 rfl rfl) h0
  clear hA0 hval0
  simp only [List.append_nil] at hW'
  refine (packs_walk s W).mono fun e W' ⟨he, bel⟩ => ?_
  subst he
  exact ⟨_, rfl, _, _, _, [], [], [], hW', trodAll_mk1 (shut_bool Try.underlying4 _), trodAll_cons_mk (shut_string Try.underlying9 hmax) trodAll_mk0, rfl, bel.frame _, fun h => by cases h⟩

theorem over : Rows.packsRow.holds Try.pinned (OpenSpec.ofChange Rows.packsSpec) :=
  OpenClaim.holds_of_wide 5 Try.f5 rfl rfl rfl rfl rfl rfl rfl ⟨rfl, rfl, rfl, rfl, rfl⟩ rfl rfl rfl rfl rfl (by kernel_rfl) Try.func5 (by kernel_rfl)
    (of_decide_eq_true (by kernel_rfl)) (by unfold Func.isWrapper; first | (rw [if_pos (by decide +kernel)]; kernel_rfl) | (rw [if_neg (by decide +kernel)]; exact ⟨rfl, rfl⟩))
    (fun os started H enc _ => lifted os started H enc)

/-- The statement. -/
theorem proved : Rows.PacksSaid := over
end Go.Proofs.Ytodmdkhdbfbfgaa.packs
namespace Go.Proofs.Ytodmdkhdbfbfgaa
/-- The statement, under the seat's own name. -/
theorem packs_holds : Rows.PacksSaid := packs.proved
end Go.Proofs.Ytodmdkhdbfbfgaa
