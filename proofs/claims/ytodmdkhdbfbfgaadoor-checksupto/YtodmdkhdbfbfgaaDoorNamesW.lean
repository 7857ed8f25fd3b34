/- What Names of the document's own answer returns. -/
import Derived.Test.YtodmdkhdbfbfgaaDoorNames
import Derived.Maps.AppendAt
namespace Go.Proofs.YtodmdkhdbfbfgaaDoor
open Go.RowKit Go.Nt
set_option linter.unusedVariables false

theorem NmAt.last_ok {p : Bs} {done : List Bs} {f : Nat} (h : NmAt p done f p.length) (hb : okName ((p.drop f).take (p.length - f)) = true) : split p = done ++ [(p.drop f).take (p.length - f)] ∧ okPath p = decide (done.length + 1 ≤ 6) := by
  refine ⟨h.last, ?_⟩
  unfold okPath
  rw [h.last]
  have := h.ok
  rw [List.all_append, this]
  simp [hb]

theorem row_succ {w : World} {base : Nat} {e : TypeId} {size : Nat} {v : Value} {n : Nat} {xs : List Value} (h : w.ownsRow base e size v (n + 1) xs) : ∃ g cap, v = .slice (some ⟨g, 0, none⟩) (n + 1) cap := by
  rcases h.2 with ⟨_, h0⟩ | ⟨g, cap, cur, rfl, _⟩
  · exact absurd h0 (by omega)
  · exact ⟨g, cap, rfl⟩

/-- What becomes of the piece n. -/
theorem name_four {n : Bs} (hz : (0 : UInt8) ∉ n) (x : ByteArray) (hx : x = txt n) :
    (okName n = false ∧ ((x.toList == []) = true ∨ ((x.toList == []) = false ∧ (x.toList == [46]) = true) ∨ ((x.toList == []) = false ∧ (x.toList == [46]) = false ∧ (x.toList == [46, 46]) = true) ∨ ((x.toList == []) = false ∧ (x.toList == [46]) = false ∧ (x.toList == [46, 46]) = false ∧ 20 < n.length))) ∨
    (okName n = true ∧ (x.toList == []) = false ∧ (x.toList == [46]) = false ∧ (x.toList == [46, 46]) = false ∧ n.length ≤ 20) := by
  rw [okName_of hz]
  subst hx
  rw [txt_toList]
  by_cases h1 : n = []
  · subst h1; exact .inl ⟨by simp, .inl (by simp)⟩
  · by_cases h2 : n = [46]
    · subst h2; exact .inl ⟨by simp, .inr (.inl (by simp))⟩
    · by_cases h3 : n = [46, 46]
      · subst h3; exact .inl ⟨by simp, .inr (.inr (.inl (by simp)))⟩
      · by_cases h4 : n.length ≤ 20
        · exact .inr ⟨by simp [h1, h2, h3, h4], by simpa using h1, by simpa using h2, by simpa using h3, h4⟩
        · exact .inl ⟨by simp [h4], .inr (.inr (.inr ⟨by simpa using h1, by simpa using h2, by simpa using h3, by omega⟩))⟩

set_option maxRecDepth 100000 in
set_option maxHeartbeats 2000000 in
theorem names_any (p : Bs) (w : World) (hp : p.length ≤ 1048576) :
    Calls Tryd.prog 13 #[.string (txt p)] w fun e w' => Below w.heap.size w w' ∧ ∃ v, e = .returned (.tuple #[v, .bool (okPath p)]) ∧
      (okPath p = true → w'.ownsRow w.heap.size 9 1 v (split p).length (txs (split p))) := by
  obtain ⟨X, hX⟩ : ∃ X, X = txt p := ⟨_, rfl⟩
  have Sx : X.size = p.length := by rw [hX, txt_size]
  have gx : Hid (∀ k (h : k < X.size), X[k]'h = p.getD k 0) := fun k h => by subst hX; exact txt_getD p k h
  have ex : Hid (∀ a b, X.extract a b = txt ((p.drop a).take (b - a))) := fun a b => by subst hX; exact txt_extract p a b
  rw [← hX]
  have Hx := hidI Sx
  have hX9 : X.size ≤ 1048576 := by omega
  obtain ⟨i0, hi, hz0, hz1, hz2⟩ := info_parts Tryd.info9
  clear hX Sx hp
  go_enter Tryd.func13, Tryd.ntmps13
  go_wp2
  go_loopw [4, 5, 6] (fun v f i wr => ∃ (done : List Bs) (ff k : Nat) (a' : Option Addr) (c' : Nat), v = .slice a' done.length c' ∧ f = .int .i64 ff ∧ i = .int .i64 k ∧ Hid ((k ≤ X.size ∧ NmAt p done ff k) ∨ (k = X.size + 1 ∧ split p = done ∧ okPath p = decide (done.length ≤ 6))) ∧ k ≤ X.size + 1 ∧ ff ≤ k ∧ done.length ≤ k ∧ wr.ownsRow w.heap.size 9 1 v done.length (txs done) ∧ Below w.heap.size w wr) (fun _ _ i _ => X.size + 1 - (intOf i).toNat)
  case atStart => exact ⟨[], 0, 0, none, 0, rfl, rfl, rfl, hidI (.inl ⟨Nat.zero_le _, NmAt.start p⟩), by omega, Nat.le_refl _, Nat.le_refl _, World.ownsRow_nil _ _ _ _, Below.refl _ _⟩
  case round =>
    obtain ⟨done, ff, k, a', c', rfl, rfl, rfl, Hs, hk1, hfk, hdk, hown, hbel⟩ := hrel
    have hsz := hbel.size
    by_cases hk : k ≤ X.size
    · have Hn : Hid (NmAt p done ff k) := by
        rcases Hs.out with h | h
        · exact h.2
        · exact absurd h.1 (by omega)
      clear Hs
      by_cases hl : k < X.size
      · have hl' : decide ((k : Int) < (X.size : Int)) = true := by simpa using hl
        have hne : ((k : Int) == (X.size : Int)) = false := beq_eq_false_iff_ne.2 (by omega)
        have hg := gx.out k hl
        by_cases h0 : X[k]'hl = 0
        · have h0' : (((X[k]'hl).toNat : Int) == 0) = true := by rw [h0]; rfl
          have HR : Hid (okPath p = false) := Hn.out.zero (by have := Hx.out; omega) (by rw [← hg]; exact h0)
          clear hg h0
          go_wp2
          go_ret2
          rw [HR.out]
          exact ⟨hbel, _, rfl, fun h => by cases h⟩
        · have h0' : (((X[k]'hl).toNat : Int) == 0) = false := beq_eq_false_iff_ne.2 fun h => h0 (UInt8.toNat_inj.1 (by have : (0 : UInt8).toNat = 0 := rfl; omega))
          by_cases h47 : X[k]'hl = 47
          · have h47' : (((X[k]'hl).toNat : Int) == 47) = true := by rw [h47]; rfl
            have H47 : Hid (p.getD k 0 = 47) := by rw [← hg]; exact h47
            have hx := ex.out ff k
            have hnl : ((p.drop ff).take (k - ff)).length = k - ff := by have := Hx.out; rw [List.length_take, List.length_drop]; omega
            rcases name_four Hn.out.z _ hx with ⟨hno, hc⟩ | ⟨hyes, c1, c2, c3, c4⟩
            · have HR : Hid (okPath p = false) := Hn.out.slash_bad (by have := Hx.out; omega) H47.out hno
              clear hx hno hg h0 h47
              rw [hnl] at hc
              rcases hc with c1 | ⟨c1, c2⟩ | ⟨c1, c2, c3⟩ | ⟨c1, c2, c3, c4⟩
              all_goals
                go_wp2
                go_ret2
                rw [HR.out]
                exact ⟨hbel, _, rfl, fun h => by cases h⟩
            · have Hn2 : Hid (NmAt p (done ++ [(p.drop ff).take (k - ff)]) (k + 1) (k + 1)) := Hn.out.slash (by have := Hx.out; omega) H47.out hyes
              have Hsn := hidI (txs_snoc done ((p.drop ff).take (k - ff)))
              rw [hnl] at c4
              have Hxx := hidI hx
              clear hx hyes hg
              have HY : Hid (X.extract ff k = txt ((p.drop ff).take (k - ff))) := Hxx
              go_wp2_with (at_builtin; refine wpList_append_own _ rfl (.tmp 53) (.tmp 55) 39 rfl w.heap.size 9 i0 (.string ByteArray.empty) 1 16 Tryd.underlying39 hi hz0 hz1 hz2 rfl (by decide) _ _ _ rfl (hown.alloc _) ⟨wr.heap.size, 0, none⟩ 1 1 [.string (X.extract ff k)] rfl rfl ?c1 ?c2 ?c3 ?c4 ?c5 ?_)
              case c1 => exact cell_one_new _ _ _
              case c2 => intro u hu; simp at hu; subst hu; rfl
              case c3 => unfold maxLen; omega
              case c4 => omega
              case c5 => simp; omega
              intro v3 w3 hown3 hgrow _
              have hbel3 : Below w.heap.size w w3 := (hbel.alloc (by omega) _).grown hgrow (by simp; omega) (fun q hq => (hown.lt q hq).1)
              obtain ⟨g3, cap3, rfl⟩ := row_succ hown3
              have hown3' : w3.ownsRow w.heap.size 9 1 (.slice (some ⟨g3, 0, none⟩) (done.length + 1) cap3) (done.length + 1) (txs (done ++ [(p.drop ff).take (k - ff)])) := by
                rw [← Hsn.out, ← Hxx.out]; exact hown3
              clear hown hgrow hbel hown3
              go_wp2
              go_roundw
              case rel => exact ⟨done ++ [(p.drop ff).take (k - ff)], k + 1, k + 1, some ⟨g3, 0, none⟩, cap3, by simp, by go_num, by go_num, hidI (.inl ⟨by omega, Hn2.out⟩), by omega, by omega, by simp; omega, by simpa using hown3', hbel3⟩
              case measure => simp [intOf]; omega
          · have h47' : (((X[k]'hl).toNat : Int) == 47) = false := beq_eq_false_iff_ne.2 fun h => h47 (UInt8.toNat_inj.1 (by have : (47 : UInt8).toNat = 47 := rfl; omega))
            have Hn2 : Hid (NmAt p done ff (k + 1)) := Hn.out.other (by have := Hx.out; omega) (by rw [← hg]; exact h0) (by rw [← hg]; exact h47)
            clear hg h0 h47
            go_wp2
            go_roundw
            case rel => exact ⟨done, ff, k + 1, a', c', rfl, rfl, by go_num, hidI (.inl ⟨by omega, Hn2.out⟩), by omega, by omega, by omega, hown, hbel⟩
            case measure => simp [intOf]; omega
      · have hl' : decide ((k : Int) < (X.size : Int)) = false := by simpa using hl
        have hke : k = X.size := by omega
        have hne : ((k : Int) == (X.size : Int)) = true := by rw [hke]; simp
        have Hn1 : Hid (NmAt p done ff p.length) := by have h1 := Hn.out; have h2 := Hx.out; rw [hke, h2] at h1; exact h1
        have Hke : Hid (k = p.length) := by have h2 := Hx.out; exact hke.trans h2
        have hx := ex.out ff k
        have hg : True := trivial
        have hnl : ((p.drop ff).take (k - ff)).length = k - ff := by have := Hx.out; rw [List.length_take, List.length_drop]; omega
        rcases name_four Hn.out.z _ hx with ⟨hno, hc⟩ | ⟨hyes, c1, c2, c3, c4⟩
        · have HR : Hid (okPath p = false) := Hn1.out.last_bad (by have h := hno; rw [Hke.out] at h; exact h)
          clear hx hno hg hke
          rw [hnl] at hc
          rcases hc with c1 | ⟨c1, c2⟩ | ⟨c1, c2, c3⟩ | ⟨c1, c2, c3, c4⟩
          all_goals
            go_wp2
            go_ret2
            rw [HR.out]
            exact ⟨hbel, _, rfl, fun h => by cases h⟩
        · have Hn2 : Hid (split p = done ++ [(p.drop ff).take (k - ff)] ∧ okPath p = decide (done.length + 1 ≤ 6)) := by have h := hyes; have h2 := Hke.out; rw [h2] at h ⊢; exact Hn1.out.last_ok h
          have Hsn := hidI (txs_snoc done ((p.drop ff).take (k - ff)))
          rw [hnl] at c4
          have Hxx := hidI hx
          clear hx hyes hg hke
          have HY : Hid (X.extract ff k = txt ((p.drop ff).take (k - ff))) := Hxx
          go_wp2_with (at_builtin; refine wpList_append_own _ rfl (.tmp 53) (.tmp 55) 39 rfl w.heap.size 9 i0 (.string ByteArray.empty) 1 16 Tryd.underlying39 hi hz0 hz1 hz2 rfl (by decide) _ _ _ rfl (hown.alloc _) ⟨wr.heap.size, 0, none⟩ 1 1 [.string (X.extract ff k)] rfl rfl ?c1 ?c2 ?c3 ?c4 ?c5 ?_)
          case c1 => exact cell_one_new _ _ _
          case c2 => intro u hu; simp at hu; subst hu; rfl
          case c3 => unfold maxLen; omega
          case c4 => omega
          case c5 => simp; omega
          intro v3 w3 hown3 hgrow _
          have hbel3 : Below w.heap.size w w3 := (hbel.alloc (by omega) _).grown hgrow (by simp; omega) (fun q hq => (hown.lt q hq).1)
          obtain ⟨g3, cap3, rfl⟩ := row_succ hown3
          have hown3' : w3.ownsRow w.heap.size 9 1 (.slice (some ⟨g3, 0, none⟩) (done.length + 1) cap3) (done.length + 1) (txs (done ++ [(p.drop ff).take (k - ff)])) := by
            rw [← Hsn.out, ← Hxx.out]; exact hown3
          clear hown hgrow hbel hown3
          go_wp2
          go_roundw
          case rel => exact ⟨done ++ [(p.drop ff).take (k - ff)], k + 1, k + 1, some ⟨g3, 0, none⟩, cap3, by simp, by go_num, by go_num, hidI (.inr ⟨by have h3 := Hke.out; have h4 := Hx.out; omega, Hn2.out.1, by simpa using Hn2.out.2⟩), by omega, by omega, by simp; omega, by simpa using hown3', hbel3⟩
          case measure => simp [intOf]; omega
    · have Hf : Hid (split p = done ∧ okPath p = decide (done.length ≤ 6)) := by
        rcases Hs.out with h | h
        · exact absurd h.1 hk
        · exact h.2
      clear Hs
      go_wp2
      go_ret2
      obtain ⟨h1, h2⟩ := Hf.out
      subst h1
      refine ⟨hbel, _, ?_, fun _ => hown⟩
      have hdec : decide (((split p).length : Int) ≤ 6) = decide ((split p).length ≤ 6) := decide_eq_decide.2 (by omega)
      rw [h2, ← hdec]
      rfl
end Go.Proofs.YtodmdkhdbfbfgaaDoor
