/- Plain mathematics of the program's decoder: the symbols by the lengths of their codes, then rising; where a symbol stands among them. -/
import Derived.Test.YtodmdkhdbfbfgaaSpec
namespace Go.Proofs.Ytodmdkhdbfbfgaa.Pk
set_option linter.unusedVariables false

/-- The symbols below k whose codes have d digits. -/
def flt (z : Nat → Int) (d k : Nat) : List Nat := (List.range k).filter fun i => decide (z i = (d : Int))

/-- The symbols below n by the lengths 1 to d. -/
def symL (z : Nat → Int) (n : Nat) : Nat → List Nat
  | 0 => []
  | d + 1 => symL z n d ++ flt z (d + 1) n

theorem flt_hit (z : Nat → Int) (d k : Nat) (h : z k = (d : Int)) : flt z d (k + 1) = flt z d k ++ [k] := by
  unfold flt; rw [List.range_succ, List.filter_append]; simp [h]

theorem flt_miss (z : Nat → Int) (d k : Nat) (h : z k ≠ (d : Int)) : flt z d (k + 1) = flt z d k := by
  unfold flt; rw [List.range_succ, List.filter_append]; simp [h]

theorem flt_length (z : Nat → Int) (d k : Nat) : (flt z d k).length = cnt z d k := by
  induction k with
  | zero => rfl
  | succ k ih =>
    by_cases h : z k = (d : Int)
    · rw [flt_hit z d k h, List.length_append, ih]; simp [cnt, h]
    · rw [flt_miss z d k h, ih]; simp [cnt, h]

theorem flt_get (z : Nat → Int) (d k i : Nat) (hi : i < k) (h : z i = (d : Int)) : (flt z d k)[cnt z d i]? = some i := by
  induction k with
  | zero => omega
  | succ k ih =>
    by_cases e : i = k
    · subst e
      rw [flt_hit z d i h, List.getElem?_append_right (by rw [flt_length]; omega), flt_length]; simp
    · have hlt := cnt_lt z d (show i < k by omega) h
      by_cases h2 : z k = (d : Int)
      · rw [flt_hit z d k h2, List.getElem?_append_left (by rw [flt_length]; exact hlt)]; exact ih (by omega)
      · rw [flt_miss z d k h2]; exact ih (by omega)

theorem rank (z : Nat → Int) (d n r : Nat) (h : r < cnt z d n) : ∃ i, i < n ∧ z i = (d : Int) ∧ cnt z d i = r := by
  induction n with
  | zero => simp [cnt] at h
  | succ n ih =>
    by_cases e : z n = (d : Int)
    · by_cases h2 : r < cnt z d n
      · obtain ⟨i, h3, h4, h5⟩ := ih h2; exact ⟨i, by omega, h4, h5⟩
      · refine ⟨n, by omega, e, ?_⟩
        simp [cnt, e] at h; omega
    · have : r < cnt z d n := by simpa [cnt, e] using h
      obtain ⟨i, h3, h4, h5⟩ := ih this; exact ⟨i, by omega, h4, h5⟩

theorem symL_len (z : Nat → Int) (n d : Nat) : (symL z n (d + 1)).length = (symL z n d).length + cnt z (d + 1) n := by
  rw [symL, List.length_append, flt_length]

theorem symL_get (z : Nat → Int) (n d D r : Nat) (hd : d + 1 ≤ D) (hr : r < cnt z (d + 1) n) : (symL z n D)[(symL z n d).length + r]? = (flt z (d + 1) n)[r]? := by
  induction D with
  | zero => omega
  | succ D ih =>
    by_cases e : d = D
    · subst e
      rw [symL, List.getElem?_append_right (by omega), Nat.add_sub_cancel_left]
    · rw [symL, List.getElem?_append_left, ih (by omega)]
      have h1 : (symL z n (d + 1)).length ≤ (symL z n D).length := by
        have : d + 1 ≤ D := by omega
        clear ih e hd
        induction D with
        | zero => omega
        | succ D ih =>
          by_cases e : d + 1 = D + 1
          · rw [e]; exact Nat.le_refl _
          · have := ih (by omega); rw [symL_len z n D]; omega
      rw [symL_len] at h1
      omega

theorem symL_le (z : Nat → Int) (n d D : Nat) (h : d ≤ D) : (symL z n d).length ≤ (symL z n D).length := by
  induction D with
  | zero => have : d = 0 := by omega
            subst this; exact Nat.le_refl _
  | succ D ih =>
    by_cases e : d = D + 1
    · rw [e]; exact Nat.le_refl _
    · have := ih (by omega); rw [symL_len z n D]; omega

/-- How many of the first n lengths are 1 to d, at most n. -/
theorem symL_bound (z : Nat → Int) (n d : Nat) : (symL z n d).length ≤ d * n := by
  induction d with
  | zero => simp [symL]
  | succ d ih => rw [symL_len]; have := cnt_le z (d + 1) n; rw [Nat.add_mul]; omega

/-- What is found by the canonical code, is a symbol whose code stands there. -/
theorem found (s : List UInt8) (z : Nat → Int) (pos d : Nat) (hd : d + 1 ≤ 12) (hlo : 2 * aft z 288 d ≤ val s pos (d + 1)) (hhi : val s pos (d + 1) - 2 * aft z 288 d < cnt z (d + 1) 288) (hp : pos + (d + 1) ≤ 8 * s.length) :
    ∃ i, i < 288 ∧ (symL z 288 12)[(symL z 288 d).length + (val s pos (d + 1) - 2 * aft z 288 d)]? = some i ∧ hit s z pos i = true ∧ (z i).toNat = d + 1 := by
  obtain ⟨i, hi, hz, hc⟩ := rank z (d + 1) 288 _ hhi
  have hzn : (z i).toNat = d + 1 := by omega
  refine ⟨i, hi, ?_, ?_, hzn⟩
  · rw [symL_get z 288 d 12 _ hd hhi, ← hc]; exact flt_get z (d + 1) 288 i hi hz
  · rw [hit_iff]
    refine ⟨by omega, by omega, ?_⟩
    unfold num
    rw [hzn, Nat.add_sub_cancel, hc]; omega

theorem miss (s : List UInt8) (z : Nat → Int) (pos d i : Nat) (hi : i < 288) (hz : z i = ((d : Nat) : Int)) (h : aft z 288 d ≤ val s pos d) : hit s z pos i = false := by
  rw [← Bool.not_eq_true, hit_iff]
  intro ⟨h1, h2, h3⟩
  have := num_lt_aft z 288 i h1 hi
  rw [hz, Int.toNat_natCast] at this h3
  omega

end Go.Proofs.Ytodmdkhdbfbfgaa.Pk
