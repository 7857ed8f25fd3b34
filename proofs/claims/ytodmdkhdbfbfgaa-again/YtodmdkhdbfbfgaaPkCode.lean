/- What codeLengths of package pack does. -/
import Derived.Test.YtodmdkhdbfbfgaaPkJoin
namespace Go.Proofs.Ytodmdkhdbfbfgaa
open Go.RowKit Pk
set_option linter.unusedVariables false
set_option linter.unusedSimpArgs false

theorem sumW_half (f g : Nat → Nat) (k : Nat) (h : ∀ i, i < k → 2 * g i ≤ f i + 1) : 2 * sumW g k ≤ sumW f k + k := by
  induction k with
  | zero => simp [sumW]
  | succ k ih => have := ih (fun i hi => h i (by omega)); have := h k (by omega); simp only [sumW]; omega
theorem sumW_pos (f g : Nat → Nat) (k : Nat) (h : ∀ i, i < k → (0 < g i ↔ 0 < f i)) : 0 < sumW f k → 0 < sumW g k := by
  induction k with
  | zero => simp [sumW]
  | succ k ih =>
    intro h1
    simp only [sumW] at h1 ⊢
    by_cases e : 0 < f k
    · have := (h k (by omega)).2 e; omega
    · have := ih (fun i hi => h i (by omega)) (by omega); omega
theorem sumW_congr (f g : Nat → Nat) (k : Nat) (h : ∀ i, i < k → f i = g i) : sumW f k = sumW g k := by
  induction k with
  | zero => rfl
  | succ k ih => simp only [sumW]; rw [ih (fun i hi => h i (by omega)), h k (by omega)]
theorem symsTo_congr (f g : Nat → Nat) (k : Nat) (h : ∀ i, i < k → (0 < f i ↔ 0 < g i)) : symsTo f k = symsTo g k := by
  unfold symsTo
  refine List.filter_congr fun i hi => ?_
  have := h i (by simpa using hi)
  simp [this]

theorem sumW_ge (f : Nat → Nat) (k i : Nat) (h : i < k) : f i ≤ sumW f k := by
  induction k with
  | zero => omega
  | succ k ih =>
    simp only [sumW]
    by_cases e : i = k
    · subst e; omega
    · have := ih (by omega); omega

/-- The sum of the ints of a row, by memory alone. -/
def msum (w : World) (g : Nat) : Nat := sumW (fun i => match w.cell? ⟨g, i, none⟩ with | some (.int _ x) => x.toNat | _ => 0) 288
theorem msum_of {w : World} {B g c : Nat} {l : List Nat} (h : w.ownsRow B 3 1 (.slice (some ⟨g, 0, none⟩) 288 c) 288 (intsV l)) : msum w g = sumW (fun i => l.getD i 0) 288 := by
  unfold msum
  refine sumW_congr _ _ _ fun i hi => ?_
  rw [own_get h hi]
  rfl

set_option maxRecDepth 100000 in
set_option maxHeartbeats 4000000 in
theorem code_any (w : World) (cb c : Nat) (l : List Nat) (hown : w.ownsRow 0 3 1 (.slice (some ⟨cb, 0, none⟩) 288 c) 288 (intsV l)) (h0 : 0 < sumW (fun i => l.getD i 0) 288) (h1 : sumW (fun i => l.getD i 0) 288 ≤ 1000000) :
    Calls Try.prog 73 #[.slice (some ⟨cb, 0, none⟩) 288 c] w fun e w' => ∃ ln : Nat → Nat, ∃ L, e = .returned (.slice (some ⟨L, 0, none⟩) 288 288) ∧ w.heap.size ≤ L ∧ w'.rowIs L 3 288 (fun j => .int .i64 (ln j : Nat)) ∧ Below w.heap.size w w' ∧ (∀ i, i < 288 → (0 < ln i ↔ 0 < l.getD i 0)) ∧ (∀ i, 288 ≤ i → ln i = 0) ∧ (∀ i, ln i ≤ 12) ∧ (∀ i, ln i ≤ 1 ∨ ln i + 1 ≤ (symsTo (fun i => l.getD i 0) 288).length) ∧ sumL (fun i => 2 ^ (288 - ln i)) (symsTo (fun i => l.getD i 0) 288) ≤ 2 ^ 288 := by
  have Hcl := hidI (clone_ints w cb 288 c l (by omega) (by omega) hown)
  have H0 := hidI h0
  have H1 := hidI h1
  clear hown h0 h1
  go_enter Try.func73, Try.ntmps73
  go_wp2_with fail
  refine Hcl.out.mono ?_
  rintro e w1 ⟨g, cap, rfl, hown1, hbel1⟩
  have hgs := (hown1.lt g rfl).1
  have Hown1 := hidI hown1
  have Hbel1 := hidI hbel1
  clear hown1 hbel1 Hcl
  go_wp2
  go_loopw [] (fun wr => ∃ m : List Nat, Hid (wr.ownsRow w.heap.size 3 1 (.slice (some ⟨g, 0, none⟩) 288 cap) 288 (intsV m)) ∧ Hid (Below w.heap.size w wr) ∧ Hid (∀ i, i < 288 → (0 < m.getD i 0 ↔ 0 < l.getD i 0)) ∧ Hid (0 < sumW (fun i => m.getD i 0) 288 ∧ sumW (fun i => m.getD i 0) 288 ≤ 1000000)) (fun wr => msum wr g)
  case atStart => exact ⟨l, Hown1, Hbel1, fun i _ => Iff.rfl, ⟨H0.out, H1.out⟩⟩
  case round =>
    clear Hown1 Hbel1 H0 H1
    obtain ⟨m, Hown, Hbel, Hpos, Hsum⟩ := hrel
    have Hms := hidI (msum_of Hown.out)
    have hszr := Hbel.out.size
    have Hjn := hidI (join_any wr g cap (fun i => m.getD i 0) _ rfl Hsum.out.2 Hsum.out.1 (fun i hi => own_get Hown.out hi))
    go_wp2_with fail
    refine Hjn.out.mono ?_
    rintro e w2 ⟨ln, rfl, hrow, hbel2, j1, j2, j3, j4⟩
    have Hmx := hidI (max_any w2 wr.heap.size 288 288 (fun i => (ln i : Int)) (by omega) (by omega) (fun i hi => hrow.cell hi))
    have Hrow := hidI hrow
    have Hbel2 := hidI hbel2
    have J1 := hidI j1
    have J2 := hidI j2
    have J3 := hidI j3
    have J4 := hidI j4
    clear Hjn hrow hbel2 j1 j2 j3 j4
    go_wp2_with fail
    refine Hmx.out.mono ?_
    rintro e w3 ⟨rfl, mx, rfl, hm1, ⟨im, him, hm2⟩⟩
    have Hm1 := hidI hm1
    have Hm2 := hidI hm2
    clear hm1 hm2 Hmx
    have Hsy : Hid (symsTo (fun i => m.getD i 0) 288 = symsTo (fun i => l.getD i 0) 288) := symsTo_congr _ _ 288 Hpos.out
    by_cases hmx : mx ≤ 12
    · go_wp2
      go_ret
      refine ⟨ln, wr.heap.size, rfl, hszr, Hrow.out, Hbel.out.trans (Hbel2.out.mono hszr), fun i hi => (J1.out i hi).trans (Hpos.out i hi), J2.out, fun i => ?_, fun i => ?_, ?_⟩
      · by_cases hi : i < 288
        · have := Hm1.out i hi; omega
        · rw [J2.out i (by omega)]; omega
      · rw [← Hsy.out]
        exact (J3.out i).imp id And.right
      · rw [← Hsy.out]; exact J4.out
    · have hbig : 610 ≤ sumW (fun i => m.getD i 0) 288 := by
        have h := Hm2.out
        rcases J3.out im with h2 | ⟨h2, _⟩
        · omega
        · refine Nat.le_trans ?_ h2
          rw [← Fb_13]
          exact Fb_mono (by omega)
      have Hbig := hidI hbig
      have Hown3 := hidI (own_under Hown.out Hbel2.out (Nat.le_refl _))
      have Hbel3 := hidI (Hbel.out.trans (Hbel2.out.mono hszr))
      clear hbig Hown Hbel Hrow Hbel2 J1 J2 J3 J4 Hm1 Hm2
      go_wp2
      go_loopw [17] (fun i wq => ∃ k : Nat, ∃ n : List Nat, i = .int .i64 (k : Nat) ∧ k ≤ 288 ∧ Hid (wq.ownsRow w.heap.size 3 1 (.slice (some ⟨g, 0, none⟩) 288 cap) 288 (intsV n)) ∧ Hid (Below w.heap.size w wq) ∧ Hid (∀ i, i < 288 → n.getD i 0 = if i < k then (m.getD i 0 + 1) / 2 else m.getD i 0)) (fun i _ => 288 - (intOf i).toNat)
      case atStart => exact ⟨0, m, rfl, by omega, Hown3, Hbel3, fun i _ => by rw [if_neg (by omega)]⟩
      case round =>
        clear Hown3 Hbel3
        obtain ⟨k, n, rfl, hk, Hown, Hbel, Hn⟩ := hrel
        by_cases hlt : k < 288
        · have y0 := own_get Hown.out hlt
          have hnk := Hn.out k hlt
          rw [if_neg (by omega)] at hnk
          obtain ⟨x, hx⟩ : ∃ x, x = m.getD k 0 := ⟨_, rfl⟩
          have hxb : x ≤ 1000000 := by
            have := sumW_ge (fun i => m.getD i 0) 288 k hlt
            have := Hsum.out.2
            omega
          rw [hnk, ← hx] at y0
          have hst := Hown.out.stored k (.int .i64 (((x + 1) / 2 : Nat) : Int))
          have hset : (intsV n).set k (.int .i64 (((x + 1) / 2 : Nat) : Int)) = intsV (n.set k ((x + 1) / 2)) := by unfold intsV; rw [List.map_set]
          have yf := Hown.out.frozenAt k
          have hlen := own_length Hown.out
          have Hown2 := hst.1
          rw [hset] at Hown2
          have Hown2 := hidI Hown2
          have Hbel2 := hidI (Hbel.out.setCell (p := ⟨g, k, none⟩) hgs (.int .i64 (((x + 1) / 2 : Nat) : Int)))
          have Hn2 : Hid (∀ i, i < 288 → (n.set k ((x + 1) / 2)).getD i 0 = if i < k + 1 then (m.getD i 0 + 1) / 2 else m.getD i 0) := fun i hi => by
            rw [List.getD_eq_getElem?_getD, List.getElem?_set]
            by_cases e : k = i
            · subst e
              rw [if_pos rfl, if_pos (by omega), if_pos (by omega), ← hx]; rfl
            · rw [if_neg e, ← List.getD_eq_getElem?_getD, Hn.out i hi]
              by_cases h2 : i < k
              · rw [if_pos h2, if_pos (by omega)]
              · rw [if_neg h2, if_neg (by omega)]
          have hdv : (((x + 1) / 2 : Nat) : Int) = ((x : Int) + 1) / 2 := by omega
          rw [hdv] at Hown2 Hbel2
          clear hst hset hnk hx hdv hlen Hown Hbel Hn
          go_wp2
          go_roundw
          case rel => exact ⟨k + 1, _, by go_num, by omega, Hown2, Hbel2, Hn2⟩
          case measure => simp [intOf]; omega
        · have hk2 : k = 288 := by omega
          subst hk2
          have Hg : Hid (∀ i, i < 288 → n.getD i 0 = (m.getD i 0 + 1) / 2) := fun i hi => by rw [Hn.out i hi, if_pos hi]
          have hhalf : 2 * sumW (fun i => n.getD i 0) 288 ≤ sumW (fun i => m.getD i 0) 288 + 288 := sumW_half _ _ _ fun i hi => by
            have := Hg.out i hi
            simp only [this]; omega
          have Hpos2 : Hid (∀ i, i < 288 → (0 < n.getD i 0 ↔ 0 < l.getD i 0)) := fun i hi => by
            rw [Hg.out i hi, ← Hpos.out i hi]; omega
          have Hsum2 : Hid (0 < sumW (fun i => n.getD i 0) 288 ∧ sumW (fun i => n.getD i 0) 288 ≤ 1000000) := by
            refine ⟨sumW_pos (fun i => m.getD i 0) _ 288 (fun i hi => ?_) Hsum.out.1, ?_⟩
            · simp only [Hg.out i hi]; omega
            · have := Hsum.out.2; have := Hbig.out; omega
          have Hms2 := hidI (msum_of Hown.out)
          have Hhalf := hidI hhalf
          clear hhalf Hn Hg
          go_wp2
          go_roundw
          case rel => exact ⟨n, Hown, Hbel, Hpos2, Hsum2⟩
          case measure =>
            rw [Hms2.out, Hms.out]
            have := Hhalf.out; have := Hbig.out
            omega
end Go.Proofs.Ytodmdkhdbfbfgaa
