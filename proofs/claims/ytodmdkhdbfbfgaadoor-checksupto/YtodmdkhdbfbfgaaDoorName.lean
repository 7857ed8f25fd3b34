/- What ContainsAny, isName and isPath return: whether a text has one of the two signs; whether it is a name; whether it is a path. -/
import Derived.Test.YtodmdkhdbfbfgaaDoorSpan
namespace Go.Proofs.YtodmdkhdbfbfgaaDoor
open Go.RowKit Go.Nt Go.Lib
set_option linter.unusedVariables false

set_option maxRecDepth 100000 in
set_option maxHeartbeats 2000000 in
theorem idx_short (n : Bs) (w : World) (hn : n.length ≤ 8) :
    Calls Tryd.prog 61 #[.string (txt n), .string two] w fun e w' => Below w.heap.size w w' ∧ ∃ x, e = .returned (.int .i64 x) ∧ decide (0 ≤ x) = bad2 n := by
  obtain ⟨S, hS⟩ : ∃ S, S = txt n := ⟨_, rfl⟩
  have hSz : S.size = n.length := by rw [hS, txt_size]
  have HG : Hid (∀ k (h : k < S.size) (d : UInt8), S[k]'h = n.getD k d) := fun k h d => by
    subst hS
    have h' : k < n.length := by rw [txt_size] at h; exact h
    rw [txt_getD]
    simp [List.getD, h']
  rw [← hS]
  have HSz := hidI hSz
  have hS8 : S.size ≤ 8 := by omega
  clear hS hSz hn
  have hemp : two.toList.isEmpty = false := by rw [Lib.toList_data]; rfl
  have hn1 : ((two.size : Int) == 1) = false := by decide
  have h8z : decide ((8 : Int) < (S.size : Int)) = false := decide_eq_false (by omega)
  go_enter Tryd.func61, Tryd.ntmps61
  go_wp2_with (go_at_call 70; refine (Tryd.strings_shouldUseASCIISet _ _).mono ?_; rintro e w' ⟨rfl, hw⟩; rw [hw, h8z])
  go_loopg [9, 10] S.size (fun g _ _ wx => ∃ i : Nat, i + g = S.size ∧ wx.heap[w.heap.size]? = some (.stringIter S i) ∧ Hid (Below w.heap.size w wx) ∧ Hid (∀ j, j < i → n.getD j 0 ≠ 47 ∧ n.getD j 1 ≠ 0))
  case atStart => exact ⟨0, by omega, heap_alloc_new _ _, hidI (below_iter w S 0), hidI (fun j h => absurd h (by omega))⟩
  case round =>
    obtain ⟨i, hig, hit, Hb, Hno⟩ := hrel
    cases gk with
    | zero =>
      have hi : i = S.size := by omega
      have hnx := fun ty => run_next_end_at (P := Tryd.prog) wr w.heap.size S i ty hit (by omega)
      have HR : Hid (bad2 n = false) := bad2_no fun j hj => Hno.out j (by have := HSz.out; omega)
      clear hi hig
      go_wp2
      go_ret
      exact ⟨Hb.out, _, rfl, by rw [HR.out]; rfl⟩
    | succ g =>
      have hi : i < S.size := by omega
      have hg0 := HG.out i hi 0
      have hg1 := HG.out i hi 1
      obtain ⟨x, hx⟩ : ∃ x : UInt8, S[i]'hi = x := ⟨_, rfl⟩
      rw [hx] at hg0 hg1
      have Hg0 := hidI hg0
      have Hg1 := hidI hg1
      clear hg0 hg1
      by_cases hlow : x.toNat < 128
      · have hnx := fun ty => run_next_ascii_at (P := Tryd.prog) wr w.heap.size S i ty hit hi (by rw [hx]; exact hlow)
        rw [hx] at hnx
        have Hb2 : Hid (Below w.heap.size w (wr.iterAt w.heap.size S (i + 1))) := below_iterAt Hb.out (Nat.le_refl _) S (i + 1)
        have Hit2 : Hid ((wr.iterAt w.heap.size S (i + 1)).heap[w.heap.size]? = some (.stringIter S (i + 1))) := iterAt_heap wr w.heap.size S i (i + 1) hit
        have hback : ((x.toNat : Int)).toNat.toUInt8 = x := by simp
        have HI : Hid (∀ W, Calls Tryd.prog 69 #[.string two, .int .i32 (x.toNat : Int)] W fun e w' => e = .returned (.int .i64 (if x = 47 then 0 else if x = 0 then 1 else -1)) ∧ w' = W) := fun W => by
          have := Tryd.strings_IndexRune_ascii two (x.toNat : Int) W (by omega) (by omega)
          rw [hback, two_idx] at this
          exact this
        clear hback hx
        generalize wr.iterAt w.heap.size S (i + 1) = W at *
        by_cases h47 : x = 47
        · rw [if_pos h47] at HI
          have HR : Hid (bad2 n = true) := bad2_yes (j := i) (by have := HSz.out; omega) (.inl (by rw [← Hg0.out]; exact h47))
          clear h47
          go_wp2_with (go_at_call 69; refine (HI.out _).mono ?_; rintro e w' ⟨rfl, hw⟩; have hw' := hw.symm; subst hw')
          go_ret
          exact ⟨Hb2.out, _, rfl, by rw [HR.out]; simp⟩
        · rw [if_neg h47] at HI
          by_cases h0 : x = 0
          · rw [if_pos h0] at HI
            have HR : Hid (bad2 n = true) := bad2_yes (j := i) (by have := HSz.out; omega) (.inr (by rw [← Hg1.out]; exact h0))
            clear h47 h0
            go_wp2_with (go_at_call 69; refine (HI.out _).mono ?_; rintro e w' ⟨rfl, hw⟩; have hw' := hw.symm; subst hw')
            go_ret
            exact ⟨Hb2.out, _, rfl, by rw [HR.out]; simp⟩
          · rw [if_neg h0] at HI
            have Hno2 : Hid (∀ j, j < i + 1 → n.getD j 0 ≠ 47 ∧ n.getD j 1 ≠ 0) := fun j hj => by
              by_cases e : j = i
              · subst e; rw [← Hg0.out, ← Hg1.out]; exact ⟨h47, h0⟩
              · exact Hno.out j (by omega)
            clear h47 h0
            go_wp2_with (go_at_call 69; refine (HI.out _).mono ?_; rintro e w' ⟨rfl, hw⟩; have hw' := hw.symm; subst hw')
            go_roundg g
            case measure => omega
            case rel => exact ⟨i + 1, by omega, Hit2.out, Hb2, Hno2⟩
      · have hhi : 128 ≤ (S[i]'hi).toNat := by rw [hx]; omega
        obtain ⟨d1, d2⟩ := decode_span S i hi hhi
        obtain ⟨d3, d4⟩ := decode_high S i hi hhi
        have d5 := decode_le S i
        have hnx := fun ty => run_next_any_at (P := Tryd.prog) wr w.heap.size S i ty hit hi
        obtain ⟨r, hr⟩ : ∃ r, r = (Utf8.decode S i).1 := ⟨_, rfl⟩
        obtain ⟨q, hq⟩ : ∃ q, q = (Utf8.decode S i).2 := ⟨_, rfl⟩
        rw [← hr, ← hq] at hnx
        rw [← hq] at d1 d2 d4
        rw [← hr] at d3 d5
        have Hb2 : Hid (Below w.heap.size w (wr.iterAt w.heap.size S (i + q))) := below_iterAt Hb.out (Nat.le_refl _) S (i + q)
        have Hit2 : Hid ((wr.iterAt w.heap.size S (i + q)).heap[w.heap.size]? = some (.stringIter S (i + q))) := iterAt_heap wr w.heap.size S i (i + q) hit
        have HI : Hid (∀ W, Calls Tryd.prog 69 #[.string two, .int .i32 (r : Int)] W fun e w' => e = .returned (.int .i64 (-1)) ∧ Below W.heap.size W w') := fun W => rune_high (r : Int) W (by omega) (by omega)
        have Hno2 : Hid (∀ j, j < i + q → n.getD j 0 ≠ 47 ∧ n.getD j 1 ≠ 0) := fun j hj => by
          by_cases e : j < i
          · exact Hno.out j e
          · have hj' : j < S.size := by omega
            have h1 := d2 j hj' (by omega) hj
            rw [← HG.out j hj' 0, ← HG.out j hj' 1]
            exact ⟨fun e => by rw [e] at h1; simp at h1, fun e => by rw [e] at h1; simp at h1⟩
        have hws : w.heap.size < (wr.iterAt w.heap.size S (i + q)).heap.size := (Array.getElem?_eq_some_iff.1 Hit2.out).1
        clear hr hq d2 hx hhi hlow
        generalize wr.iterAt w.heap.size S (i + q) = W at *
        go_wp2_with (go_at_call 69; refine (HI.out _).mono ?_; rintro e W2 ⟨rfl, hb3⟩)
        go_roundg (S.size - (i + q))
        case measure => omega
        case rel => exact ⟨i + q, by omega, (hb3.block _ hws).trans Hit2.out, hidI (Hb2.out.trans (hb3.mono (by omega))), Hno2⟩

theorem any_bad2 : ∀ n : Bs, decide (0 ≤ Lib.indexAny n [47, 0]) = bad2 n
  | [] => rfl
  | c :: l => by
    have ih := any_bad2 l
    have hge := Lib.indexAny_ge [47, 0] l
    unfold Lib.indexAny
    have e2 : bad2 (c :: l) = ((c == 47 || c == 0) || bad2 l) := by simp [bad2]
    rw [e2]
    by_cases h1 : ([47, 0] : List UInt8).contains c = true
    · rw [if_pos h1]
      have : (c == 47 || c == 0) = true := by simpa using h1
      rw [this]; simp
    · rw [if_neg h1]
      have : (c == 47 || c == 0) = false := by simpa using h1
      rw [this, Bool.false_or, ← ih]
      by_cases h2 : Lib.indexAny l [47, 0] = -1
      · rw [h2]; rfl
      · have : (Lib.indexAny l [47, 0] == -1) = false := beq_eq_false_iff_ne.2 h2
        rw [this]
        simp only [Bool.false_eq_true, if_false]
        have h3 : 0 ≤ Lib.indexAny l [47, 0] := by omega
        simp [h3]; omega

set_option maxRecDepth 100000 in
theorem Tryd.zero95 : ∀ w, (zeroValue 96).run Tryd.prog w = .ok (.agg (Array.replicate 256 (.bool false))) w := fun w => Tryd.zeroValue96 w

set_option maxRecDepth 100000 in
theorem idx_any (n : Bs) (w : World) (hn : n.length ≤ 1048576) :
    Calls Tryd.prog 61 #[.string (txt n), .string two] w fun e w' => Below w.heap.size w w' ∧ ∃ x, e = .returned (.int .i64 x) ∧ decide (0 ≤ x) = bad2 n := by
  by_cases h : n.length ≤ 8
  · exact idx_short n w h
  · refine (Tryd.strings_IndexAny_long Tryd.zero95 (txt n) two w (by decide) (by rw [txt_size]; omega) (by rw [txt_size]; omega) (by decide) (fun j b hb => ?_)).mono ?_
    · have e : two.data.toList = [47, 0] := rfl
      rw [e] at hb
      match j, hb with
      | 0, hb => simp at hb; subst hb; decide
      | 1, hb => simp at hb; subst hb; decide
      | j + 2, hb => simp at hb
    · rintro e w' ⟨rfl, rfl⟩
      refine ⟨((Below.refl _ w).alloc (Nat.le_refl _) _).alloc (by simp) _, _, rfl, ?_⟩
      exact any_bad2 n

set_option maxRecDepth 100000 in
set_option maxHeartbeats 1000000 in
theorem contains_any (n : Bs) (w : World) (hn : n.length ≤ 1048576) :
    Calls Tryd.prog 43 #[.string (txt n), .string two] w fun e w' => Below w.heap.size w w' ∧ e = .returned (.bool (bad2 n)) := by
  have HI := hidI (fun W => idx_any n W hn)
  generalize txt n = S at *
  go_enter Tryd.func43, Tryd.ntmps43
  go_wp2_with (go_at_call 61; refine (HI.out _).mono ?_; rintro e w' ⟨hb, x, rfl, hx⟩)
  go_ret
  exact ⟨hb, by rw [← hx]; rfl⟩

/-- Has it none of the two signs, for what has none of the first. -/
theorem bad2_name {n : Bs} (h : (47 : UInt8) ∉ n) : bad2 n = n.contains 0 := by
  induction n with
  | nil => rfl
  | cons c l ih =>
    have e2 : bad2 (c :: l) = ((c == 47 || c == 0) || bad2 l) := by simp [bad2]
    have h1 : (c == 47) = false := by
      rw [beq_eq_false_iff_ne]
      intro e; subst e; exact h (by simp)
    rw [e2, ih (fun hh => h (by simp [hh])), h1, List.contains_cons]
    by_cases hc : c = 0
    · subst hc; simp
    · have : ((0 : UInt8) == c) = false := beq_eq_false_iff_ne.2 (fun e => hc e.symm)
      have h2 : (c == 0) = false := beq_eq_false_iff_ne.2 hc
      rw [this, h2]; simp

theorem isName_split {n : Bs} (X : ByteArray) (hX : X = txt n) (h47 : (47 : UInt8) ∉ n) :
    (okName n = false ∧ (X.toList.isEmpty = true ∨ (X.toList.isEmpty = false ∧ (X.toList == [46]) = true) ∨ (X.toList.isEmpty = false ∧ (X.toList == [46]) = false ∧ (X.toList == [46, 46]) = true) ∨ (X.toList.isEmpty = false ∧ (X.toList == [46]) = false ∧ (X.toList == [46, 46]) = false ∧ 20 < X.size))) ∨
    (X.toList.isEmpty = false ∧ (X.toList == [46]) = false ∧ (X.toList == [46, 46]) = false ∧ X.size ≤ 20 ∧ okName n = !bad2 n) := by
  subst hX
  rw [txt_toList, txt_size, bad2_name h47]
  unfold okName
  by_cases h1 : n = []
  · subst h1; exact .inl ⟨by simp, .inl (by simp)⟩
  · have h1' : n.isEmpty = false := by simpa using h1
    by_cases h2 : n = [46]
    · subst h2; exact .inl ⟨by simp, .inr (.inl (by simp))⟩
    · by_cases h3 : n = [46, 46]
      · subst h3; exact .inl ⟨by simp, .inr (.inr (.inl (by simp)))⟩
      · by_cases h4 : n.length ≤ 20
        · exact .inr ⟨h1', by simpa using h2, by simpa using h3, h4, by simp [h1, h2, h3, h4]⟩
        · exact .inl ⟨by simp [h4], .inr (.inr (.inr ⟨h1', by simpa using h2, by simpa using h3, by omega⟩))⟩

set_option maxRecDepth 100000 in
set_option maxHeartbeats 1000000 in
theorem isName_any (n : Bs) (w : World) (h47 : (47 : UInt8) ∉ n) (hn : n.length ≤ 1048576) :
    Calls Tryd.prog 35 #[.string (txt n)] w fun e w' => Below w.heap.size w w' ∧ e = .returned (.bool (okName n)) := by
  have HI := hidI (fun W => contains_any n W hn)
  obtain ⟨X, hX⟩ : ∃ X, X = txt n := ⟨_, rfl⟩
  rw [← hX] at HI ⊢
  rcases isName_split X hX h47 with ⟨hbad, hc⟩ | ⟨c1, c2, c3, c4, hok⟩
  · rw [hbad]
    clear HI hX hbad
    rcases hc with c1 | ⟨c1, c2⟩ | ⟨c1, c2, c3⟩ | ⟨c1, c2, c3, c4⟩
    all_goals
      go_enter Tryd.func35, Tryd.ntmps35
      go_wp2
      go_ret
      exact ⟨Below.refl _ _, rfl⟩
  · rw [hok]
    clear hX hok
    unfold two at HI
    go_enter Tryd.func35, Tryd.ntmps35
    go_wp2_with (go_at_call 43; refine (HI.out _).mono ?_; rintro e w' ⟨hb, rfl⟩)
    go_ret
    exact ⟨hb, rfl⟩
end Go.Proofs.YtodmdkhdbfbfgaaDoor
