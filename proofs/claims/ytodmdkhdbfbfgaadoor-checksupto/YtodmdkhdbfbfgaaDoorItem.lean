/- What isItem returns: whether an item may be in a tree, as far as it alone can tell. -/
import Derived.Test.YtodmdkhdbfbfgaaDoorPath
namespace Go.Proofs.YtodmdkhdbfbfgaaDoor
open Go.RowKit Go.Nt
set_option linter.unusedVariables false

def modeB (n : Int) : Bool := decide (0 ≤ n) && decide (n ≤ 4095)
def timeB (n : Int) : Bool := decide (0 ≤ n) && decide (n ≤ 2147483647)

theorem isMode_any (n : Int) (w : World) : Calls Tryd.prog 24 #[.int .i64 n] w fun e w' => e = .returned (.bool (modeB n)) ∧ w' = w := by
  unfold modeB
  by_cases h : 0 ≤ n
  · by_cases h2 : n ≤ 4095
    · go_enter Tryd.func24, Tryd.ntmps24
      go_wp2
      go_ret
      exact ⟨by simp [h, h2], rfl⟩
    · go_enter Tryd.func24, Tryd.ntmps24
      go_wp2
      go_ret
      exact ⟨by simp [h2], rfl⟩
  · go_enter Tryd.func24, Tryd.ntmps24
    go_wp2
    go_ret
    exact ⟨by rw [decide_eq_false (by omega : ¬ 0 ≤ n)]; rfl, rfl⟩

theorem isTime_any (n : Int) (w : World) : Calls Tryd.prog 25 #[.int .i64 n] w fun e w' => e = .returned (.bool (timeB n)) ∧ w' = w := by
  unfold timeB
  by_cases h : 0 ≤ n
  · by_cases h2 : n ≤ 2147483647
    · go_enter Tryd.func25, Tryd.ntmps25
      go_wp2
      go_ret
      exact ⟨by simp [h, h2], rfl⟩
    · go_enter Tryd.func25, Tryd.ntmps25
      go_wp2
      go_ret
      exact ⟨by simp [h2], rfl⟩
  · go_enter Tryd.func25, Tryd.ntmps25
    go_wp2
    go_ret
    exact ⟨by rw [decide_eq_false (by omega : ¬ 0 ≤ n)]; rfl, rfl⟩

/-- The first error of an item, in the program's order. -/
theorem item_first (x : It) (D : ByteArray) (hD : D = txt x.data) (xd : Bool) (hxd : xd = x.dir) :
    (okItem x = false ∧ (modeB x.mode = false ∨ (modeB x.mode = true ∧ (timeB x.time = false ∨ (timeB x.time = true ∧ (4000 < D.size ∨ (D.size ≤ 4000 ∧ xd = true ∧ D.toList.isEmpty = false))))))) ∨
    (okItem x = okPath x.path ∧ modeB x.mode = true ∧ timeB x.time = true ∧ D.size ≤ 4000 ∧ (xd = false ∨ (xd = true ∧ D.toList.isEmpty = true))) := by
  subst hxd
  subst hD
  rw [txt_toList, txt_size]
  unfold okItem modeB timeB
  by_cases h4 : 0 ≤ x.mode
  · by_cases h5 : x.mode ≤ 4095
    · by_cases h6 : 0 ≤ x.time
      · by_cases h7 : x.time ≤ 2147483647
        · by_cases h1 : x.data.length ≤ 4000
          · by_cases h2 : x.dir = true
            · by_cases h3 : x.data = []
              · exact .inr ⟨by simp [h2, h3, h4, h5, h6, h7], by simp [h4, h5], by simp [h6, h7], h1, .inr ⟨h2, by simp [h3]⟩⟩
              · exact .inl ⟨by simp [h2, h3], .inr ⟨by simp [h4, h5], .inr ⟨by simp [h6, h7], .inr ⟨h1, h2, by simpa using h3⟩⟩⟩⟩
            · have h2' : x.dir = false := by simpa using h2
              exact .inr ⟨by simp [h1, h2', h4, h5, h6, h7], by simp [h4, h5], by simp [h6, h7], h1, .inl h2'⟩
          · exact .inl ⟨by simp [h1], .inr ⟨by simp [h4, h5], .inr ⟨by simp [h6, h7], .inl (by omega)⟩⟩⟩
        · exact .inl ⟨by simp [h7], .inr ⟨by simp [h4, h5], .inl (by simp [h7])⟩⟩
      · exact .inl ⟨by simp [h6], .inr ⟨by simp [h4, h5], .inl (by simp [h6])⟩⟩
    · exact .inl ⟨by simp [h5], .inl (by simp [h5])⟩
  · exact .inl ⟨by simp [h4], .inl (by simp [h4])⟩

set_option maxRecDepth 100000 in
set_option maxHeartbeats 1000000 in
theorem isItem_any (x : It) (w : World) (hm : ML w) (hp : x.path.length ≤ 1048576) :
    Calls Tryd.prog 17 #[itv x] w fun e w' => Below w.heap.size w w' ∧ e = .returned (.bool (okItem x)) := by
  have HP := hidI (fun W (h : ML W) => isPath_any x.path W h hp)
  have Hm := hidI hm
  have HM := hidI (fun W => isMode_any x.mode W)
  have HT := hidI (fun W => isTime_any x.time W)
  unfold itv
  obtain ⟨D, hD⟩ : ∃ o, o = txt x.data := ⟨_, rfl⟩
  obtain ⟨xd, hxd⟩ : ∃ o, o = x.dir := ⟨_, rfl⟩
  obtain ⟨X, hX⟩ : ∃ o, o = txt x.path := ⟨_, rfl⟩
  have hc := item_first x D hD xd hxd
  rw [← hD, ← hxd, ← hX]
  rw [← hX] at HP
  clear hm hD hxd hX
  rcases hc with ⟨hbad, hh⟩ | ⟨hgood, g1, g2, g5, g6⟩
  · rw [hbad]
    clear HP hbad Hm
    rcases hh with h1 | ⟨h1, h2 | ⟨h2, h5 | ⟨h5, h6, h7⟩⟩⟩
    all_goals (try subst h6)
    all_goals (rw [h1] at HM)
    all_goals (try rw [h2] at HT)
    all_goals
      go_enter Tryd.func17, Tryd.ntmps17
      go_wp2_with (first | (go_at_call 24; refine (HM.out _).mono ?_; rintro e w' ⟨rfl, hw⟩; have hw' := hw.symm; subst hw'; clear hw) | (go_at_call 25; refine (HT.out _).mono ?_; rintro e w' ⟨rfl, hw⟩; have hw' := hw.symm; subst hw'; clear hw))
      go_ret
      exact ⟨(Below.refl _ w).alloc (Nat.le_refl _) _, rfl⟩
  · rw [hgood]
    have HP2 := hidI (HP.out (w.alloc (.cells #[.string X, .bool xd, .string D, .int .i64 x.mode, .int .i64 x.time] 24)) (Hm.out.below ((Below.refl _ w).alloc (Nat.le_refl _) _) Hm.out.lt))
    clear HP hgood
    obtain ⟨o, ho⟩ : ∃ o, o = okPath x.path := ⟨_, rfl⟩
    rw [← ho] at HP2 ⊢
    rw [g1] at HM
    rw [g2] at HT
    clear ho
    rcases g6 with g6 | ⟨g6, g7⟩ <;> subst g6
    all_goals
      go_enter Tryd.func17, Tryd.ntmps17
      go_wp2_with (first | (go_at_call 24; refine (HM.out _).mono ?_; rintro e w' ⟨rfl, hw⟩; have hw' := hw.symm; subst hw'; clear hw) | (go_at_call 25; refine (HT.out _).mono ?_; rintro e w' ⟨rfl, hw⟩; have hw' := hw.symm; subst hw'; clear hw) | (go_at_call 26; refine HP2.out.mono ?_; rintro e W ⟨hb, rfl⟩; have hb' : Below w.heap.size w W := ((Below.refl _ w).alloc (Nat.le_refl _) _).trans (hb.mono (by simp)); clear hb))
      go_ret
      exact ⟨hb', rfl⟩
end Go.Proofs.YtodmdkhdbfbfgaaDoor
