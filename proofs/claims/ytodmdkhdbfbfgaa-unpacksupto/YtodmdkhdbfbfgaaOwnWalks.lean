/- The walks of ownTexts and keptTexts of the statements. -/
import Derived.Test.YtodmdkhdbfbfgaaOwnTexts
namespace Go.Proofs.Ytodmdkhdbfbfgaa
open Go.RowKit
set_option linter.unusedVariables false

set_option maxRecDepth 100000 in
set_option maxHeartbeats 1000000 in
theorem own_any (a : Option Addr) (n cap B : Nat) (xs : List Value) (mk : ByteArray) (w : World) (hn : n ≤ 288) (hB : B ≤ w.heap.size) (hl : w.ownsRow B 9 1 (.slice a n cap) n xs) :
    Calls Try.prog 12 #[.slice a n cap, .string mk] w fun e w' => ∃ v, e = .returned v ∧ Marks w' B v n (.string mk) ∧ Below B w w' := by
  obtain ⟨i0, hi, hz0, hz1, hz2⟩ := info_parts Try.info23
  obtain ⟨j0, gi, gz0, gz1, gz2⟩ := info_parts Try.info9
  go_enter Try.func12, Try.ntmps12
  go_wp2
  go_loopw [5] (fun i wr => ∃ k : Nat, k ≤ n ∧ i = .int .i64 k ∧ (∃ ys, wr.ownsRow B 9 1 (.slice a n cap) n ys ∧ ∀ j, j < k → ys[j]? = some (.string mk)) ∧ Below B w wr) (fun i _ => n - (intOf i).toNat)
  case atStart => exact ⟨0, Nat.zero_le _, rfl, ⟨xs, hl, fun j hj => absurd hj (by omega)⟩, Below.refl _ _⟩
  case round =>
    clear hl
    obtain ⟨k, hk, rfl, ⟨ys, hown, hys⟩, hbel⟩ := hrel
    have Hys : Hid (∀ j, j < k → ys[j]? = some (.string mk)) := hys
    clear hys
    by_cases hlt : k < n
    · obtain ⟨g, ha⟩ : ∃ g, a = some ⟨g, 0, none⟩ := by
        rcases hown.2 with ⟨h, h0⟩ | ⟨g, _, _, h, _⟩
        · omega
        · simp at h; exact ⟨g, h.1⟩
      subst ha
      have hlen := hown.1
      obtain ⟨u, hu⟩ : ∃ u, ys[k]? = some u := ⟨_, List.getElem?_eq_getElem (by omega)⟩
      have hck : wr.cell? ⟨g, k, none⟩ = some u := (hown.cellAt k (by omega)).trans hu
      have hfz := hown.frozenAt k
      have hst := hown.stored k (.string mk)
      have hBg := (hown.lt g rfl).1
      clear hu
      have Hl : Hid (ys.length = n * 1) := hlen
      clear hlen
      go_wp2
      go_roundw
      case rel =>
        refine ⟨k + 1, by omega, by go_num, ⟨_, hst.1, fun j hj => ?_⟩, hbel.setCell hBg _⟩
        rw [List.getElem?_set]
        by_cases e : k = j
        · rw [if_pos e]; subst e; rw [if_pos (by have := Hl.out; omega)]
        · rw [if_neg e]; exact Hys.out j (by omega)
      case measure => simp [intOf]; omega
    · have hrep : ys = List.replicate n (.string mk) := by
        apply List.ext_getElem?
        intro j
        have hlen := hown.1
        by_cases hj : j < n
        · rw [Hys.out j (by omega)]; simp [hj]
        · rw [List.getElem?_eq_none (by omega), List.getElem?_eq_none (by simp; omega)]
      subst hrep
      clear Hys
      go_wp2
      go_loopw [6, 7, 8] (fun vo0 vg i wr => ∃ p : Nat, p ≤ 4 ∧ i = .int .i64 p ∧ ∃ (vo : Value), vo = vo0 ∧ ∃ (ag : Option Addr) (cg : Nat) (A : Nat → Option Addr) (C : Nat → Nat), vg = .slice ag (n + p) cg ∧ wr.ownsRow B 9 1 vg (n + p) (List.replicate (n + p) (.string mk)) ∧ wr.ownsRow B 23 1 vo p ((List.range p).map fun q => .slice (A q) (n + q) (C q)) ∧ (∀ q, q < p → MarkRow wr B (.string mk) (A q) (n + q)) ∧ Below B w wr) (fun _ _ i _ => 4 - (intOf i).toNat)
      case atStart => exact ⟨0, by omega, rfl, _, rfl, a, cap, fun _ => none, fun _ => 0, rfl, hown, World.ownsRow_nil _ _ _ _, fun q hq => absurd hq (by omega), hbel⟩
      case round =>
        clear hown hbel
        obtain ⟨p, hp, rfl, vo, rfl, ag, cg, A, C, rfl, hvg, hvo, hM, hbel⟩ := hrel
        have hsz := hbel.size
        by_cases hp4 : p < 4
        · have HM : Hid (∀ q, q < p → MarkRow wr B (.string mk) (A q) (n + q)) := hM
          clear hM
          go_wp2_with (at_builtin; refine wpList_append_keep _ rfl (.tmp 24) (.tmp 26) 28 rfl B 23 i0 (.slice none 0 0) 1 24 Try.underlying28 hi hz0 hz1 hz2 rfl (by decide) _ _ _ rfl (hvo.alloc _) ⟨wr.heap.size, 0, none⟩ 1 1 [.slice ag (n + p) cg] rfl rfl ?c1 ?c2 ?c3 ?c4 ?c5 ?_)
          case c1 => exact cell_one_new _ _ _
          case c2 => intro u hu; simp at hu; subst hu; rfl
          case c3 => unfold maxLen; omega
          case c4 => omega
          case c5 => simp; omega
          intro vo' w2 hvo2 hgrow hkeep
          have S := own_step1 hvg hvo HM.out hbel hB hgrow
          obtain ⟨hvg2, hM2, hbel2⟩ := S
          rw [lists_snoc] at hvo2
          have hlast := own_marks hvg2
          obtain ⟨ag', cg', hav, hlast⟩ := hlast
          simp at hav
          obtain ⟨rfl, rfl⟩ := hav
          have hM2' : ∀ q, q < p + 1 → MarkRow w2 B (.string mk) (if q < p then A q else ag) (n + q) := fun q hq => by
            by_cases e : q < p
            · rw [if_pos e]; exact hM2 q e
            · rw [if_neg e, show q = p by omega]; exact hlast
          have HM2 : Hid (∀ q, q < p + 1 → MarkRow w2 B (.string mk) (if q < p then A q else ag) (n + q)) := hM2'
          have hsz2 := hbel2.size
          clear hvo hvg HM hbel hgrow hkeep hlast hM2 hM2'
          go_wp2_with (at_builtin; refine wpList_append_keep _ rfl (.tmp 28) (.tmp 30) 23 rfl B 9 j0 (.string ⟨#[]⟩) 1 16 Try.underlying23 gi gz0 gz1 gz2 rfl (by decide) _ _ _ rfl (hvg2.alloc _) ⟨w2.heap.size, 0, none⟩ 1 1 [.string mk] rfl rfl ?d1 ?d2 ?d3 ?d4 ?d5 ?_)
          case d1 => exact cell_one_new _ _ _
          case d2 => intro u hu; simp at hu; subst hu; rfl
          case d3 => unfold maxLen; omega
          case d4 => omega
          case d5 => simp; omega
          intro vg' w3 hvg3 hgrow hkeep
          rw [← List.replicate_succ'] at hvg3
          have S := own_step2 hvg2 hvg3 hvo2 HM2.out (by omega) hbel2 hB hgrow hkeep
          obtain ⟨hvo3, hM3, hbel3⟩ := S
          obtain ⟨ag3, cg3, hv3, _⟩ := own_marks hvg3
          subst hv3
          have HM3 : Hid (∀ q, q < p + 1 → MarkRow w3 B (.string mk) (if q < p then A q else ag) (n + q)) := hM3
          clear hvg2 hvo2 HM2 hbel2 hgrow hkeep hM3
          go_wp2
          go_roundw
          case rel => exact ⟨p + 1, by omega, by go_num, _, rfl, ag3, cg3, _, _, rfl, hvg3, hvo3, HM3.out, hbel3⟩
          case measure => simp [intOf]; omega
        · have hp4' : p = 4 := by omega
          subst hp4'
          have hM4 : Hid (Marks wr B vo n (.string mk)) := by
            rcases hvo.2 with ⟨_, h0⟩ | ⟨O, co, cur, rfl, hO, hh, _⟩
            · omega
            · refine ⟨O, co, A, C, rfl, hO, fun p hp => ⟨?_, hM p hp⟩⟩
              rw [hvo.cellAt p (by omega)]
              simp [hp]
          clear hvo hvg hM
          go_wp2
          go_ret
          exact ⟨vo, rfl, hM4.out, hbel⟩

set_option maxRecDepth 100000 in
set_option maxHeartbeats 1000000 in
theorem kept_any (v : Value) (n B : Nat) (mk : ByteArray) (w : World) (hn : n ≤ 288) (hm : Marks w B v n (.string mk)) :
    Calls Try.prog 13 #[v, .string mk] w fun e w' => e = .returned (.bool true) ∧ w' = w := by
  obtain ⟨O, co, A, C, rfl, hO, hp⟩ := hm
  have Hp : Hid (∀ p, p < 4 → w.cell? ⟨O, p, none⟩ = some (.slice (A p) (n + p) (C p)) ∧ MarkRow w B (.string mk) (A p) (n + p)) := hp
  clear hp
  go_enter Try.func13, Try.ntmps13
  go_wp2
  go_loop [5] (fun i => ∃ p : Nat, p ≤ 4 ∧ i = .int .i64 p) (fun i => 4 - (intOf i).toNat)
  case atStart => exact ⟨0, by omega, rfl⟩
  case round =>
    obtain ⟨p, hp, rfl⟩ := hrel
    by_cases hp4 : p < 4
    · obtain ⟨hc, hmr⟩ := Hp.out p hp4
      go_wp2
      go_loop [6] (fun i => ∃ k : Nat, k ≤ n + p ∧ i = .int .i64 k) (fun i => n + p - (intOf i).toNat)
      case atStart => exact ⟨0, by omega, rfl⟩
      case round =>
        obtain ⟨k, hk, rfl⟩ := hrel
        by_cases hkn : k < n + p
        · obtain ⟨g, hA, hcells⟩ := hmr.cell (by omega)
          rw [hA] at hc
          have hck := hcells k hkn
          clear hcells hA hmr
          go_wp2
          go_round
          case rel => exact ⟨k + 1, by omega, by go_num⟩
          case measure => simp [intOf]; omega
        · go_wp2
          go_round
          case rel => exact ⟨p + 1, by omega, by go_num⟩
          case measure => simp [intOf]; omega
    · go_wp2
      go_ret
      exact ⟨rfl, rfl⟩
end Go.Proofs.Ytodmdkhdbfbfgaa
