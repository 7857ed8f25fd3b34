/- The walks of ownItems and keptItems of the statements. -/
import Derived.Test.YtodmdkhdbfbfgaaDoorOwn
namespace Go.Proofs.YtodmdkhdbfbfgaaDoor
open Go.RowKit Go.Nt
set_option linter.unusedVariables false

set_option maxRecDepth 100000 in
set_option maxHeartbeats 1000000 in
theorem own_any (a : Option Addr) (cap B : Nat) (l : List It) (m : Int) (w : World) (hn : l.length ≤ 1000) (hB : B ≤ w.heap.size) (hl : w.ownsRow B 24 5 (.slice a l.length cap) l.length (its l)) :
    Calls Tryd.prog 8 #[.slice a l.length cap, .int .i64 m] w fun e w' => ∃ v, e = .returned v ∧ Marks w' B v l.length m ∧ Below B w w' := by
  obtain ⟨i0, hi, hz0, hz1, hz2⟩ := info_parts Tryd.info22
  obtain ⟨j0, gi, gz0, gz1, gz2⟩ := info_parts Tryd.info24
  obtain ⟨n, hln⟩ : ∃ n, n = l.length := ⟨_, rfl⟩
  rw [← hln] at hn hl ⊢
  have Hln := hidI hln
  clear hln
  go_enter Tryd.func8, Tryd.ntmps8
  go_wp2
  go_loopw [5] (fun i wr => ∃ k : Nat, k ≤ n ∧ i = .int .i64 k ∧ Hid (wr.ownsRow B 24 5 (.slice a n cap) n (its (mks k m ++ l.drop k))) ∧ Hid (Below B w wr)) (fun i _ => n - (intOf i).toNat)
  case atStart => exact ⟨0, Nat.zero_le _, rfl, hl, hidI (Below.refl _ _)⟩
  case round =>
    clear hl
    obtain ⟨k, hk, rfl, Hown, Hbel⟩ := hrel
    by_cases hlt : k < n
    · obtain ⟨g, ha⟩ : ∃ g, a = some ⟨g, 0, none⟩ := by
        rcases Hown.out.2 with ⟨h, h0⟩ | ⟨g, _, _, h, _⟩
        · omega
        · simp at h; exact ⟨g, h.1⟩
      subst ha
      have hkl : k < l.length := by have := Hln.out; omega
      have hBg := (Hown.out.lt g rfl).1
      have hlen : (mks k m ++ l.drop k).length = n := by rw [List.length_append, mks_length, List.length_drop]; have := Hln.out; omega
      obtain ⟨y, hy⟩ : ∃ y, (mks k m ++ l.drop k)[k]? = some y := ⟨_, List.getElem?_eq_getElem (by omega)⟩
      have c0 : wr.cell? ⟨g, k * 5, none⟩ = some (.string (txt y.path)) := (Hown.out.cellAt _ (by omega)).trans (its_get hy 0 (by omega))
      have c1 : wr.cell? ⟨g, k * 5 + 1, none⟩ = some (.bool y.dir) := (Hown.out.cellAt _ (by omega)).trans (its_get hy 1 (by omega))
      have c2 : wr.cell? ⟨g, k * 5 + 2, none⟩ = some (.string (txt y.data)) := (Hown.out.cellAt _ (by omega)).trans (its_get hy 2 (by omega))
      have c3 : wr.cell? ⟨g, k * 5 + 3, none⟩ = some (.int .i64 y.mode) := (Hown.out.cellAt _ (by omega)).trans (its_get hy 3 (by omega))
      have c4 : wr.cell? ⟨g, k * 5 + 4, none⟩ = some (.int .i64 y.time) := (Hown.out.cellAt _ (by omega)).trans (its_get hy 4 (by omega))
      have f0 := Hown.out.frozenAt (k * 5)
      have f1 := Hown.out.frozenAt (k * 5 + 1)
      have f2 := Hown.out.frozenAt (k * 5 + 2)
      have f3 := Hown.out.frozenAt (k * 5 + 3)
      have f4 := Hown.out.frozenAt (k * 5 + 4)
      have Hst := hidI (((((Hown.out.stored (k * 5) (.string (txt []))).1.stored (k * 5 + 1) (.bool false)).1.stored (k * 5 + 2) (.string (txt []))).1.stored (k * 5 + 3) (.int .i64 m)).1.stored (k * 5 + 4) (.int .i64 0)).1
      have Hset : Hid ((((((its (mks k m ++ l.drop k)).set (k * 5) (.string (txt []))).set (k * 5 + 1) (.bool false)).set (k * 5 + 2) (.string (txt []))).set (k * 5 + 3) (.int .i64 m)).set (k * 5 + 4) (.int .i64 0) = its (mks (k + 1) m ++ l.drop (k + 1))) := by
        show _ = _
        rw [← mks_set l k m hkl, ← its_set _ k (mkIt m) (by omega)]
        rfl
      clear hlen hy hkl
      go_wp2
      go_roundw
      case rel =>
        refine ⟨k + 1, by omega, by go_num, ?_, hidI (((((Hbel.out.setCell hBg _).setCell hBg _).setCell hBg _).setCell hBg _).setCell hBg _)⟩
        rw [Hset.out] at Hst
        exact Hst
      case measure => simp [intOf]; omega
    · have hown : wr.ownsRow B 24 5 (.slice a n cap) n (its (mks n m)) := by
        have h := Hown.out
        have e : k = l.length := by have := Hln.out; omega
        rw [e, List.drop_length, List.append_nil] at h
        rw [Hln.out] at h ⊢
        exact h
      have hbel := Hbel.out
      clear Hown Hbel
      go_wp2
      go_loopw [6, 7, 8] (fun vo0 vg i wr => ∃ p : Nat, p ≤ 4 ∧ i = .int .i64 p ∧ ∃ (vo : Value), vo = vo0 ∧ ∃ (ag : Option Addr) (cg : Nat) (A : Nat → Option Addr) (C : Nat → Nat), vg = .slice ag (n + p) cg ∧ Hid (wr.ownsRow B 24 5 vg (n + p) (its (mks (n + p) m))) ∧ Hid (wr.ownsRow B 22 1 vo p ((List.range p).map fun q => .slice (A q) (n + q) (C q))) ∧ Hid (∀ q, q < p → MarkRow wr B m (A q) (n + q)) ∧ Hid (Below B w wr)) (fun _ _ i _ => 4 - (intOf i).toNat)
      case atStart => exact ⟨0, by omega, rfl, _, rfl, a, cap, fun _ => none, fun _ => 0, rfl, hown, hidI (World.ownsRow_nil _ _ _ _), hidI (fun q hq => absurd hq (by omega)), hbel⟩
      case round =>
        clear hown hbel
        obtain ⟨p, hp, rfl, vo, rfl, ag, cg, A, C, rfl, Hvg, Hvo, HM, Hbel⟩ := hrel
        have hsz := Hbel.out.size
        by_cases hp4 : p < 4
        · go_wp2_with (at_builtin; refine wpList_append_keep _ rfl (.tmp 25) (.tmp 27) 30 rfl B 22 i0 (.slice none 0 0) 1 24 Tryd.underlying30 hi hz0 hz1 hz2 rfl (by decide) _ _ _ rfl (Hvo.out.alloc _) ⟨wr.heap.size, 0, none⟩ 1 1 [.slice ag (n + p) cg] rfl rfl ?c1 ?c2 ?c3 ?c4 ?c5 ?_)
          case c1 => exact cell_one_new _ _ _
          case c2 => intro u hu; simp at hu; subst hu; rfl
          case c3 => unfold maxLen; omega
          case c4 => omega
          case c5 => simp; omega
          intro vo' w2 hvo2 hgrow hkeep
          have S := own_step1 Hvg.out Hvo.out HM.out Hbel.out hB hgrow
          obtain ⟨hvg2, hM2, hbel2⟩ := S
          rw [lists_snoc] at hvo2
          have hlast := own_marks hvg2
          obtain ⟨ag', cg', hav, hlast⟩ := hlast
          simp at hav
          obtain ⟨rfl, rfl⟩ := hav
          have HM2 : Hid (∀ q, q < p + 1 → MarkRow w2 B m (if q < p then A q else ag) (n + q)) := fun q hq => by
            by_cases e : q < p
            · rw [if_pos e]; exact hM2 q e
            · rw [if_neg e, show q = p by omega]; exact hlast
          have hsz2 := hbel2.size
          have Hvg2 := hidI hvg2
          have Hvo2 := hidI hvo2
          have Hbel2 := hidI hbel2
          clear Hvo Hvg HM Hbel hgrow hkeep hlast hM2 hvg2 hvo2 hbel2
          go_wp2_with (at_builtin; refine wpList_append_keep _ rfl (.tmp 29) (.tmp 32) 22 rfl B 24 j0 _ 5 56 Tryd.underlying22 gi gz0 gz1 gz2 rfl (by decide) _ _ _ rfl (Hvg2.out.alloc _) ⟨w2.heap.size, 0, none⟩ 1 1 (itl (mkIt m)) rfl rfl ?d1 ?d2 ?d3 ?d4 ?d5 ?_)
          case d1 => intro j u hu; rw [addr_add]; exact (boxed_at w2 (mkIt m)).cell hu
          case d2 => intro u hu; exact its_one_cell (l := [mkIt m]) u (by rw [its_one]; exact hu)
          case d3 => unfold maxLen; omega
          case d4 => omega
          case d5 => simp; omega
          intro vg' w3 hvg3 hgrow hkeep
          have hvg3' : w3.ownsRow B 24 5 vg' (n + p + 1) (its (mks (n + p + 1) m)) := by
            rw [mks_succ, its_append, its_one]; exact hvg3
          have S := own_step2 Hvg2.out hvg3' Hvo2.out HM2.out (by omega) Hbel2.out hB hgrow hkeep
          obtain ⟨hvo3, hM3, hbel3⟩ := S
          obtain ⟨ag3, cg3, hv3, _⟩ := own_marks hvg3'
          subst hv3
          have HM3 : Hid (∀ q, q < p + 1 → MarkRow w3 B m (if q < p then A q else ag) (n + q)) := hM3
          have Hvg3 := hidI hvg3'
          have Hvo3 := hidI hvo3
          have Hbel3 := hidI hbel3
          clear Hvg2 Hvo2 HM2 Hbel2 hgrow hkeep hM3 hvg3 hvg3' hvo3 hbel3
          go_wp2
          go_roundw
          case rel => exact ⟨p + 1, by omega, by go_num, _, rfl, ag3, cg3, _, _, rfl, Hvg3, Hvo3, HM3, Hbel3⟩
          case measure => simp [intOf]; omega
        · have hp4' : p = 4 := by omega
          subst hp4'
          have hM4 : Hid (Marks wr B vo n m) := by
            rcases Hvo.out.2 with ⟨_, h0⟩ | ⟨O, co, cur, rfl, hO, hh, _⟩
            · omega
            · refine ⟨O, co, A, C, rfl, hO, fun p hp => ⟨?_, HM.out p hp⟩⟩
              rw [Hvo.out.cellAt p (by omega)]
              simp [hp]
          clear Hvo Hvg HM
          go_wp2
          go_ret
          exact ⟨vo, rfl, hM4.out, Hbel.out⟩

set_option maxRecDepth 100000 in
set_option maxHeartbeats 1000000 in
theorem kept_any (v : Value) (n B : Nat) (m : Int) (w : World) (hn : n ≤ 1000) (hm : Marks w B v n m) :
    Calls Tryd.prog 9 #[v, .int .i64 m] w fun e w' => e = .returned (.bool true) ∧ w' = w := by
  obtain ⟨O, co, A, C, rfl, hO, hp⟩ := hm
  have Hp : Hid (∀ p, p < 4 → w.cell? ⟨O, p, none⟩ = some (.slice (A p) (n + p) (C p)) ∧ MarkRow w B m (A p) (n + p)) := hp
  have hneq : ∀ w, (binOp .neq 24 (.agg #[.string ByteArray.empty, .bool false, .string ByteArray.empty, .int .i64 m, .int .i64 0]) (.agg #[.string ByteArray.empty, .bool false, .string ByteArray.empty, .int .i64 m, .int .i64 0])).run Tryd.prog w = .ok (.bool false) w := fun w => by
    have h := neq_it (mkIt m) (mkIt m) w
    rw [decide_eq_true rfl] at h
    exact h
  have hge := eqg
  clear hp
  go_enter Tryd.func9, Tryd.ntmps9
  go_wp2
  go_loop [5] (fun i => ∃ p : Nat, p ≤ 4 ∧ i = .int .i64 p) (fun i => 4 - (intOf i).toNat)
  case atStart => exact ⟨0, by omega, rfl⟩
  case round =>
    obtain ⟨p, hp, rfl⟩ := hrel
    by_cases hp4 : p < 4
    · obtain ⟨hc, hmr⟩ := Hp.out p hp4
      go_wp2
      go_loop [6] (fun i => ∃ k : Nat, k ≤ n + p ∧ i = .int .i64 k) (fun i => n + p - (intOf i).toNat)
      case atStart => exact ⟨0, by omega, rfl⟩
      case round =>
        obtain ⟨k, hk, rfl⟩ := hrel
        by_cases hkn : k < n + p
        · obtain ⟨g, hA, hcells⟩ := hmr.cell (by omega)
          rw [hA] at hc
          obtain ⟨y0, y1, y2, y3, y4⟩ := hcells k hkn
          have x0 : w.cell? ⟨g, k * 5, none⟩ = some (.string ByteArray.empty) := y0
          have x1 : w.cell? ⟨g, k * 5 + 1, none⟩ = some (.bool false) := y1
          have x2 : w.cell? ⟨g, k * 5 + 2, none⟩ = some (.string ByteArray.empty) := y2
          have x3 : w.cell? ⟨g, k * 5 + 3, none⟩ = some (.int .i64 m) := y3
          have x4 : w.cell? ⟨g, k * 5 + 4, none⟩ = some (.int .i64 0) := y4
          clear hcells hA hmr y0 y1 y2 y3 y4
          go_wp2
          go_round
          case rel => exact ⟨k + 1, by omega, by go_num⟩
          case measure => simp [intOf]; omega
        · go_wp2
          go_round
          case rel => exact ⟨p + 1, by omega, by go_num⟩
          case measure => simp [intOf]; omega
    · go_wp2
      go_ret
      exact ⟨rfl, rfl⟩
end Go.Proofs.YtodmdkhdbfbfgaaDoor
