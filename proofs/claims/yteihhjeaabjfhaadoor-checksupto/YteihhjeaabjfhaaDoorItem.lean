/- What isItem returns: whether an item may be in a tree, as far as it alone can tell. -/
import Derived.Test.YteihhjeaabjfhaaDoorPath
namespace Go.Proofs.YteihhjeaabjfhaaDoor
open Go.RowKit Go.Nt
set_option linter.unusedVariables false

/-- The first error of an item, in the program's order. -/
theorem item_first (x : It) (D : ByteArray) (hD : D = txt x.data) (xd : Bool) (hxd : xd = x.dir) :
    (okItem x = false ∧ (x.mode < 0 ∨ (0 ≤ x.mode ∧ (4095 < x.mode ∨ (x.mode ≤ 4095 ∧ (x.time < 0 ∨ (0 ≤ x.time ∧ (2147483647 < x.time ∨ (x.time ≤ 2147483647 ∧ (4000 < D.size ∨ (D.size ≤ 4000 ∧ xd = true ∧ D.toList.isEmpty = false))))))))))) ∨
    (okItem x = okPath x.path ∧ 0 ≤ x.mode ∧ x.mode ≤ 4095 ∧ 0 ≤ x.time ∧ x.time ≤ 2147483647 ∧ D.size ≤ 4000 ∧ (xd = false ∨ (xd = true ∧ D.toList.isEmpty = true))) := by
  subst hxd
  subst hD
  rw [txt_toList, txt_size]
  unfold okItem
  by_cases h4 : 0 ≤ x.mode
  · by_cases h5 : x.mode ≤ 4095
    · by_cases h6 : 0 ≤ x.time
      · by_cases h7 : x.time ≤ 2147483647
        · by_cases h1 : x.data.length ≤ 4000
          · by_cases h2 : x.dir = true
            · by_cases h3 : x.data = []
              · exact .inr ⟨by simp [h2, h3, h4, h5, h6, h7], h4, h5, h6, h7, h1, .inr ⟨h2, by simp [h3]⟩⟩
              · exact .inl ⟨by simp [h2, h3], .inr ⟨h4, .inr ⟨h5, .inr ⟨h6, .inr ⟨h7, .inr ⟨h1, h2, by simpa using h3⟩⟩⟩⟩⟩⟩
            · have h2' : x.dir = false := by simpa using h2
              exact .inr ⟨by simp [h1, h2', h4, h5, h6, h7], h4, h5, h6, h7, h1, .inl h2'⟩
          · exact .inl ⟨by simp [h1], .inr ⟨h4, .inr ⟨h5, .inr ⟨h6, .inr ⟨h7, .inl (by omega)⟩⟩⟩⟩⟩
        · exact .inl ⟨by simp [h7], .inr ⟨h4, .inr ⟨h5, .inr ⟨h6, .inl (by omega)⟩⟩⟩⟩
      · exact .inl ⟨by simp [h6], .inr ⟨h4, .inr ⟨h5, .inl (by omega)⟩⟩⟩
    · exact .inl ⟨by simp [h5], .inr ⟨h4, .inl (by omega)⟩⟩
  · exact .inl ⟨by simp [h4], .inl (by omega)⟩

set_option maxRecDepth 100000 in
set_option maxHeartbeats 1000000 in
theorem isItem_any (x : It) (w : World) (hm : ML w) (hp : x.path.length ≤ 1048576) :
    Calls Tryd.prog 17 #[itv x] w fun e w' => Below w.heap.size w w' ∧ e = .returned (.bool (okItem x)) := by
  have HP := hidI (fun W (h : ML W) => isPath_any x.path W h hp)
  have Hm := hidI hm
  unfold itv
  obtain ⟨D, hD⟩ : ∃ o, o = txt x.data := ⟨_, rfl⟩
  obtain ⟨xd, hxd⟩ : ∃ o, o = x.dir := ⟨_, rfl⟩
  obtain ⟨X, hX⟩ : ∃ o, o = txt x.path := ⟨_, rfl⟩
  have hc := item_first x D hD xd hxd
  rw [← hD, ← hxd, ← hX]
  rw [← hX] at HP
  clear hm hD hxd hX
  rcases hc with ⟨hbad, hh⟩ | ⟨hgood, g1, g2, g3, g4, g5, g6⟩
  · rw [hbad]
    clear HP hbad Hm
    rcases hh with h1 | ⟨h1, h2 | ⟨h2, h3 | ⟨h3, h4 | ⟨h4, h5 | ⟨h5, h6, h7⟩⟩⟩⟩⟩
    all_goals (try subst h6)
    all_goals
      go_enter Tryd.func17, Tryd.ntmps17
      go_wp2
      go_ret
      exact ⟨(Below.refl _ w).alloc (Nat.le_refl _) _, rfl⟩
  · rw [hgood]
    have HP2 := hidI (HP.out (w.alloc (.cells #[.string X, .bool xd, .string D, .int .i64 x.mode, .int .i64 x.time] 24)) (Hm.out.below ((Below.refl _ w).alloc (Nat.le_refl _) _) Hm.out.lt))
    clear HP hgood
    obtain ⟨o, ho⟩ : ∃ o, o = okPath x.path := ⟨_, rfl⟩
    rw [← ho] at HP2 ⊢
    clear ho
    rcases g6 with g6 | ⟨g6, g7⟩ <;> subst g6
    all_goals
      go_enter Tryd.func17, Tryd.ntmps17
      go_wp2_with fail
      refine HP2.out.mono ?_
      rintro e W ⟨hb, rfl⟩
      have hb' : Below w.heap.size w W := ((Below.refl _ w).alloc (Nat.le_refl _) _).trans (hb.mono (by simp))
      clear hb
      go_wp2
      go_ret
      exact ⟨hb', rfl⟩
end Go.Proofs.YteihhjeaabjfhaaDoor
