/- Plain mathematics of codes of lengths: the numbers that the document's rule gives, that they fit into their digits, and that no code is the beginning of another. -/
import Derived.RowKit
namespace Go.Proofs.Ytodmdkhdbfbfgaa.Pk
set_option linter.unusedVariables false

def wt (x : Int) : Int := if 0 < x then 2 ^ (12 - x).toNat else 0

/-- The sum of the weights of the first k lengths. -/
def sumTo (z : Nat → Int) : Nat → Int
  | 0 => 0
  | k + 1 => sumTo z k + wt (z k)

/-- How many of the first k lengths are d. -/
def cnt (z : Nat → Int) (d : Nat) : Nat → Nat
  | 0 => 0
  | k + 1 => cnt z d k + if z k = (d : Int) then 1 else 0

/-- The number that comes next behind the codes of up to d digits. -/
def aft (z : Nat → Int) (n : Nat) : Nat → Nat
  | 0 => 0
  | d + 1 => 2 * aft z n d + cnt z (d + 1) n

/-- The code of symbol s as a number. -/
def num (z : Nat → Int) (n s : Nat) : Nat := 2 * aft z n ((z s).toNat - 1) + cnt z (z s).toNat s

/-- The weights of those of the first n lengths that are 1 to d. -/
def part (z : Nat → Int) (d : Nat) : Nat → Nat
  | 0 => 0
  | k + 1 => part z d k + if 1 ≤ z k ∧ z k ≤ (d : Int) then 2 ^ (12 - (z k).toNat) else 0

theorem cnt_le (z : Nat → Int) (d n : Nat) : cnt z d n ≤ n := by
  induction n with
  | zero => simp [cnt]
  | succ n ih => simp only [cnt]; split <;> omega

theorem cnt_mono (z : Nat → Int) (d : Nat) {s n : Nat} (h : s ≤ n) : cnt z d s ≤ cnt z d n := by
  induction n with
  | zero => have : s = 0 := by omega
            subst this; exact Nat.le_refl _
  | succ n ih =>
    by_cases e : s = n + 1
    · subst e; exact Nat.le_refl _
    · have := ih (by omega)
      simp only [cnt]; omega

theorem cnt_lt (z : Nat → Int) (d : Nat) {s n : Nat} (h : s < n) (hz : z s = d) : cnt z d s < cnt z d n := by
  have h1 : cnt z d (s + 1) = cnt z d s + 1 := by simp [cnt, hz]
  have := cnt_mono z d (show s + 1 ≤ n by omega)
  omega

theorem part_zero (z : Nat → Int) (n : Nat) : part z 0 n = 0 := by
  induction n with
  | zero => rfl
  | succ n ih => simp only [part, ih]; rw [if_neg (by omega)]

theorem part_succ (z : Nat → Int) (d n : Nat) : part z (d + 1) n = part z d n + cnt z (d + 1) n * 2 ^ (12 - (d + 1)) := by
  induction n with
  | zero => simp [part, cnt]
  | succ n ih =>
    simp only [part, cnt, ih]
    by_cases e : z n = ((d + 1 : Nat) : Int)
    · rw [if_pos (by omega), if_neg (by omega), if_pos e, e, Int.toNat_natCast, Nat.add_mul]; omega
    · rw [if_neg e]
      by_cases e2 : 1 ≤ z n ∧ z n ≤ (d : Int)
      · rw [if_pos (by omega), if_pos e2]; simp; omega
      · rw [if_neg (by omega), if_neg e2]; simp

theorem part_aft (z : Nat → Int) (n d : Nat) (hd : d ≤ 12) : aft z n d * 2 ^ (12 - d) = part z d n := by
  induction d with
  | zero => simp [aft, part_zero]
  | succ d ih =>
    have h := ih (by omega)
    rw [part_succ, ← h, aft, Nat.add_mul]
    have e : 2 ^ (12 - d) = 2 * 2 ^ (12 - (d + 1)) := by
      rw [show 12 - d = (12 - (d + 1)) + 1 by omega, Nat.pow_succ]; omega
    rw [e, Nat.mul_comm 2 (aft z n d), Nat.mul_assoc]

theorem part_mono (z : Nat → Int) {d e : Nat} (n : Nat) (h : d ≤ e) : part z d n ≤ part z e n := by
  induction n with
  | zero => simp [part]
  | succ n ih =>
    simp only [part]
    by_cases h1 : 1 ≤ z n ∧ z n ≤ (d : Int)
    · rw [if_pos h1, if_pos (by omega)]; omega
    · rw [if_neg h1]; omega

theorem sumTo_part (z : Nat → Int) (n : Nat) (h : ∀ k, k < n → 0 ≤ z k ∧ z k ≤ 12) : sumTo z n = (part z 12 n : Nat) := by
  induction n with
  | zero => simp [sumTo, part]
  | succ n ih =>
    have hn := h n (by omega)
    simp only [sumTo, part, ih (fun k hk => h k (by omega)), wt]
    by_cases e : 0 < z n
    · rw [if_pos e, if_pos (by omega)]
      have : (12 - z n).toNat = 12 - (z n).toNat := by omega
      rw [this]; simp
    · rw [if_neg e, if_neg (by omega)]; simp

theorem sumTo_bounds (z : Nat → Int) (n : Nat) (h : ∀ k, k < n → 0 ≤ z k ∧ z k ≤ 12) : 0 ≤ sumTo z n ∧ sumTo z n ≤ 2048 * n := by
  induction n with
  | zero => simp [sumTo]
  | succ n ih =>
    have hn := h n (by omega)
    have hi := ih (fun k hk => h k (by omega))
    have hw : 0 ≤ wt (z n) ∧ wt (z n) ≤ 2048 := by
      unfold wt
      split
      · have : (12 - z n).toNat ≤ 11 := by omega
        have h2 := Nat.pow_le_pow_right (show 0 < 2 by omega) this
        have h3 : ((2 : Int) ^ (12 - z n).toNat) = ((2 ^ (12 - z n).toNat : Nat) : Int) := by simp
        rw [h3]
        generalize 2 ^ (12 - z n).toNat = p at h2
        omega
      · omega
    simp only [sumTo]; omega

/-- The lengths are ones that codes can have: each 0 to 12, and they go in. -/
structure Fits (z : Nat → Int) (n : Nat) : Prop where
  rng : ∀ k, k < n → 0 ≤ z k ∧ z k ≤ 12
  sum : sumTo z n ≤ 4096

theorem aft_le (z : Nat → Int) (n d : Nat) (hf : Fits z n) (hd : d ≤ 12) : aft z n d ≤ 2 ^ d := by
  have h1 := part_aft z n d hd
  have h2 := part_mono z n hd
  have h3 := sumTo_part z n hf.rng
  have h4 := hf.sum
  have h5 : part z 12 n ≤ 4096 := by omega
  have h6 : aft z n d * 2 ^ (12 - d) ≤ 2 ^ d * 2 ^ (12 - d) := by
    rw [← Nat.pow_add, show d + (12 - d) = 12 by omega]; simp; omega
  exact Nat.le_of_mul_le_mul_right h6 (Nat.two_pow_pos _)

theorem num_lt_aft (z : Nat → Int) (n s : Nat) (h1 : 1 ≤ z s) (hs : s < n) : num z n s < aft z n (z s).toNat := by
  obtain ⟨d, hd⟩ : ∃ d : Nat, (z s).toNat = d + 1 := ⟨(z s).toNat - 1, by omega⟩
  have := cnt_lt z (z s).toNat hs (by omega)
  unfold num
  rw [hd] at this ⊢
  simp only [aft, Nat.add_sub_cancel]; omega

theorem num_lt (z : Nat → Int) (n s : Nat) (hf : Fits z n) (hs : s < n) (h1 : 1 ≤ z s) : num z n s < 2 ^ (z s).toNat := by
  have h := num_lt_aft z n s h1 hs
  have := hf.rng s hs
  have := aft_le z n (z s).toNat hf (by omega)
  omega

theorem aft_shift (z : Nat → Int) (n d e : Nat) : aft z n d * 2 ^ e ≤ aft z n (d + e) := by
  induction e with
  | zero => simp
  | succ e ih =>
    rw [Nat.pow_succ, ← Nat.mul_assoc, ← Nat.add_assoc, aft]; omega

/-- A later code of more digits, cut to as many, is no earlier code. -/
theorem num_prefix (z : Nat → Int) (n s t : Nat) (hs : s < n) (ht : t < n) (hst : s ≠ t) (h1 : 1 ≤ z s) (h2 : z s ≤ z t) :
    num z n s ≠ num z n t / 2 ^ ((z t).toNat - (z s).toNat) := by
  by_cases e : z s = z t
  · rw [e, Nat.sub_self, Nat.pow_zero, Nat.div_one]
    unfold num
    rw [e]
    rcases Nat.lt_or_gt_of_ne hst with h | h
    · have := cnt_lt z (z t).toNat h (by omega); omega
    · have := cnt_lt z (z t).toNat h (by omega); omega
  · have hlt := num_lt_aft z n s h1 hs
    obtain ⟨q, hq⟩ : ∃ q : Nat, (z t).toNat = (z s).toNat + q + 1 := ⟨(z t).toNat - (z s).toNat - 1, by omega⟩
    have hge : aft z n (z s).toNat * 2 ^ (q + 1) ≤ num z n t := by
      have h := aft_shift z n (z s).toNat q
      unfold num
      rw [hq, Nat.add_sub_cancel, Nat.pow_succ, ← Nat.mul_assoc]
      omega
    rw [show (z t).toNat - (z s).toNat = q + 1 by omega]
    have : aft z n (z s).toNat ≤ num z n t / 2 ^ (q + 1) := (Nat.le_div_iff_mul_le (Nat.two_pow_pos _)).2 hge
    omega

/-- Digit i of a number with d digits, as a byte. -/
def digb (m d i : Nat) : Nat := 48 + m / 2 ^ (d - 1 - i) % 2

/-- A number with d digits, as bytes. -/
def dig (m d : Nat) : List UInt8 := (List.range d).map fun i => UInt8.ofNat (digb m d i)

theorem dig_length (m d : Nat) : (dig m d).length = d := by simp [dig]

theorem digb_lt (m d i : Nat) : 48 ≤ digb m d i ∧ digb m d i ≤ 49 := by unfold digb; omega

theorem dig_get (m d i : Nat) (h : i < d) : (dig m d)[i]? = some (UInt8.ofNat (digb m d i)) := by simp [dig, h]

theorem ofNat_digb_inj {m d i m' d' i' : Nat} (h : UInt8.ofNat (digb m d i) = UInt8.ofNat (digb m' d' i')) : digb m d i = digb m' d' i' := by
  have h1 := digb_lt m d i
  have h2 := digb_lt m' d' i'
  have := congrArg UInt8.toNat h
  simp only [UInt8.toNat_ofNat'] at this
  omega

theorem dig_take (m p q : Nat) (h : p ≤ q) : (dig m q).take p = dig (m / 2 ^ (q - p)) p := by
  apply List.ext_getElem?
  intro i
  by_cases hi : i < p
  · rw [List.getElem?_take_of_lt hi, dig_get _ _ _ (by omega), dig_get _ _ _ hi]
    congr 2
    unfold digb
    rw [Nat.div_div_eq_div_mul, ← Nat.pow_add, show q - p + (p - 1 - i) = q - 1 - i by omega]
  · rw [List.getElem?_eq_none (by rw [List.length_take, dig_length]; omega), List.getElem?_eq_none (by rw [dig_length]; omega)]

theorem dig_inj (d : Nat) : ∀ m m' : Nat, m < 2 ^ d → m' < 2 ^ d → dig m d = dig m' d → m = m' := by
  induction d with
  | zero => intro m m' h h' _; simp at h h'; omega
  | succ d ih =>
    intro m m' h h' he
    have h1 : dig (m / 2) d = dig (m' / 2) d := by
      have := congrArg (List.take d) he
      rw [dig_take _ _ _ (by omega), dig_take _ _ _ (by omega)] at this
      simpa [show d + 1 - d = 1 by omega] using this
    have h2 := ih (m / 2) (m' / 2) (by rw [Nat.pow_succ] at h; omega) (by rw [Nat.pow_succ] at h'; omega) h1
    have h3 : digb m (d + 1) d = digb m' (d + 1) d := by
      have := congrArg (fun l : List UInt8 => l[d]?) he
      rw [dig_get _ _ _ (by omega), dig_get _ _ _ (by omega)] at this
      exact ofNat_digb_inj (Option.some.inj this)
    simp [digb] at h3
    omega

/-- The code of symbol s, as bytes. -/
def code (z : Nat → Int) (n s : Nat) : List UInt8 := dig (num z n s) (z s).toNat

theorem code_length (z : Nat → Int) (n s : Nat) : (code z n s).length = (z s).toNat := dig_length _ _

/-- No code is the beginning of another. -/
theorem code_prefix (z : Nat → Int) (n s t : Nat) (hf : Fits z n) (hs : s < n) (ht : t < n) (hst : s ≠ t) (h1 : 1 ≤ z s) (h2 : z s ≤ z t) :
    (code z n t).take (z s).toNat ≠ code z n s := by
  intro he
  unfold code at he
  rw [dig_take _ _ _ (by omega)] at he
  have hl := num_lt z n t hf ht (by omega)
  refine num_prefix z n s t hs ht hst h1 h2 (dig_inj _ _ _ (num_lt z n s hf hs h1) ?_ he.symm)
  rw [Nat.div_lt_iff_lt_mul (Nat.two_pow_pos _), ← Nat.pow_add, show (z s).toNat + ((z t).toNat - (z s).toNat) = (z t).toNat by omega]
  exact hl

end Go.Proofs.Ytodmdkhdbfbfgaa.Pk
