/- Writing bits into bytes, each byte's highest first: plain facts. -/
import Derived.Test.YtodmdkhdbfbfgaaSpec
namespace Go.Proofs.Ytodmdkhdbfbfgaa.Pk
set_option linter.unusedVariables false
set_option linter.unusedSimpArgs false

/-- The bits below pos are written, all others are 0; no byte more than it takes. -/
structure Wr (b : List UInt8) (pos : Nat) : Prop where
  lo : pos ≤ 8 * b.length
  hi : 8 * b.length < pos + 8
  zero : ∀ i, pos ≤ i → bt b i = 0

/-- f goes on from b: the bits below pos are the same. -/
structure Ag (b f : List UInt8) (pos : Nat) : Prop where
  len : b.length ≤ f.length
  bit : ∀ i, i < pos → bt f i = bt b i

theorem Ag.refl (b : List UInt8) (pos : Nat) : Ag b b pos := ⟨Nat.le_refl _, fun _ _ => rfl⟩
theorem Ag.trans {a b c : List UInt8} {p q : Nat} (h : Ag a b p) (k : Ag b c q) (hpq : p ≤ q) : Ag a c p := ⟨Nat.le_trans h.len k.len, fun i hi => (k.bit i (by omega)).trans (h.bit i hi)⟩
theorem Ag.mono {a b : List UInt8} {p q : Nat} (h : Ag a b q) (hpq : p ≤ q) : Ag a b p := ⟨h.len, fun i hi => h.bit i (by omega)⟩
theorem Ag.val {b f : List UInt8} {pos : Nat} (h : Ag b f pos) (p d : Nat) (hp : p + d ≤ pos) : val f p d = val b p d := by
  induction d with
  | zero => rfl
  | succ d ih => rw [val_succ, val_succ, ih (by omega), h.bit _ (by omega)]

theorem byte_set (c x r : Nat) (hc : c < 256) (hx : x < 2) (hr : r < 8) (hz : ∀ j, r ≤ j → j < 8 → c / 2 ^ (7 - j) % 2 = 0) :
    c % 2 ^ (8 - r) = 0 ∧ c + x * 2 ^ (7 - r) < 256 ∧ ∀ j, j < 8 → (c + x * 2 ^ (7 - r)) / 2 ^ (7 - j) % 2 = if j < r then c / 2 ^ (7 - j) % 2 else if j = r then x else 0 := by
  have hm : c % 2 ^ (8 - r) = 0 := by
    have key : ∀ k, k ≤ 8 - r → c % 2 ^ k = 0 := by
      intro k
      induction k with
      | zero => intro _; simp [Nat.mod_one]
      | succ k ih =>
        intro hk
        have h1 := ih (by omega)
        have h2 := hz (7 - k) (by omega) (by omega)
        rw [show 7 - (7 - k) = k by omega] at h2
        rw [Nat.pow_succ, Nat.mod_mul, h1, h2]; simp
    exact key _ (Nat.le_refl _)
  obtain ⟨q, hq⟩ : ∃ q, c = 2 ^ (8 - r) * q := ⟨c / 2 ^ (8 - r), by have := Nat.div_add_mod c (2 ^ (8 - r)); omega⟩
  have hp : (2 : Nat) ^ (8 - r) = 2 ^ (7 - r) * 2 := by rw [← Nat.pow_succ]; congr 1; omega
  have hc2 : c + x * 2 ^ (7 - r) = 2 ^ (7 - r) * (2 * q + x) := by rw [hq, hp, Nat.mul_add, Nat.mul_assoc, Nat.mul_comm x]
  have h256 : (256 : Nat) = 2 ^ (7 - r) * 2 ^ (r + 1) := by rw [← Nat.pow_add, show 7 - r + (r + 1) = 8 by omega]
  have hq2 : 2 * q < 2 ^ (r + 1) := by
    have : 2 ^ (7 - r) * (2 * q) < 2 ^ (7 - r) * 2 ^ (r + 1) := by rw [← h256, ← Nat.mul_assoc, ← hp, ← hq]; exact hc
    exact Nat.lt_of_mul_lt_mul_left this
  have he : 2 ^ (r + 1) % 2 = 0 := by rw [Nat.pow_succ]; omega
  refine ⟨hm, ?_, fun j hj => ?_⟩
  · rw [hc2, h256]
    exact (Nat.mul_lt_mul_left (Nat.pow_pos (by omega))).2 (by omega)
  · rw [hc2]
    by_cases h1 : j ≤ r
    · have e : (2 : Nat) ^ (7 - j) = 2 ^ (7 - r) * 2 ^ (r - j) := by rw [← Nat.pow_add]; congr 1; omega
      rw [e, Nat.mul_div_mul_left _ _ (Nat.pow_pos (by omega))]
      by_cases h2 : j = r
      · subst h2
        simp
        omega
      · rw [if_pos (by omega), hq, hp, Nat.mul_assoc, Nat.mul_div_mul_left _ _ (Nat.pow_pos (by omega))]
        rw [show r - j = (r - j - 1) + 1 by omega, Nat.pow_succ, Nat.mul_comm (2 ^ (r - j - 1)) 2, ← Nat.div_div_eq_div_mul, ← Nat.div_div_eq_div_mul]
        rw [show (2 * q + x) / 2 = q by omega, show 2 * q / 2 = q by omega]
    · rw [if_neg (by omega), if_neg (by omega)]
      have e : (2 : Nat) ^ (7 - r) = 2 ^ (7 - j) * 2 ^ (j - r) := by rw [← Nat.pow_add]; congr 1; omega
      rw [e, Nat.mul_assoc, Nat.mul_div_cancel_left _ (Nat.pow_pos (by omega)), show j - r = (j - r - 1) + 1 by omega, Nat.pow_succ, Nat.mul_comm (2 ^ (j - r - 1)) 2, Nat.mul_assoc, Nat.mul_mod_right]

theorem bt_append (b e : List UInt8) (i : Nat) (h : i < 8 * b.length) : bt (b ++ e) i = bt b i := by
  unfold bt
  rw [List.getD_eq_getElem?_getD, List.getElem?_append_left (by omega), List.getD_eq_getElem?_getD]

theorem bt_out (b : List UInt8) (i : Nat) (h : 8 * b.length ≤ i) : bt b i = 0 := by
  unfold bt
  rw [List.getD_eq_getElem?_getD, List.getElem?_eq_none (by omega)]
  simp

theorem bt_zero (b : List UInt8) (i : Nat) (h : 8 * b.length ≤ i) : bt (b ++ [0]) i = 0 := by
  by_cases e : i < 8 * b.length + 8
  · unfold bt
    rw [List.getD_eq_getElem?_getD, List.getElem?_append_right (by omega), show i / 8 - b.length = 0 by omega]
    simp
  · exact bt_out _ _ (by simp; omega)

/-- Into the last byte, at its first bit that is not written. -/
theorem bit_in (b : List UInt8) (pos x : Nat) (h1 : pos < 8 * b.length) (h2 : 8 * b.length ≤ pos + 8) (hz : ∀ i, pos ≤ i → bt b i = 0) (hx : x < 2) :
    (b.getD (b.length - 1) 0).toNat % 2 ^ (8 * b.length - pos) = 0 ∧ (b.getD (b.length - 1) 0).toNat + x * 2 ^ (8 * b.length - pos - 1) < 256 ∧
    ∀ c' : UInt8, c'.toNat = (b.getD (b.length - 1) 0).toNat + x * 2 ^ (8 * b.length - pos - 1) → Wr (b.set (b.length - 1) c') (pos + 1) ∧ Ag b (b.set (b.length - 1) c') pos ∧ bt (b.set (b.length - 1) c') pos = x := by
  have hl : pos / 8 = b.length - 1 := by omega
  have hb := byte_set (b.getD (b.length - 1) 0).toNat x (pos % 8) (UInt8.toNat_lt _) hx (by omega) (fun j hj hj8 => by
    have := hz (8 * (b.length - 1) + j) (by omega)
    unfold bt at this
    rw [show (8 * (b.length - 1) + j) / 8 = b.length - 1 by omega, show (8 * (b.length - 1) + j) % 8 = j by omega] at this
    exact this)
  rw [show 8 - pos % 8 = 8 * b.length - pos by omega, show 7 - pos % 8 = 8 * b.length - pos - 1 by omega] at hb
  obtain ⟨hb1, hb2, hb3⟩ := hb
  refine ⟨hb1, hb2, fun c' hc' => ?_⟩
  have key : ∀ i, bt (b.set (b.length - 1) c') i = if i < pos then bt b i else if i = pos then x else 0 := by
    intro i
    by_cases hi : i / 8 = b.length - 1
    · have e : (b.set (b.length - 1) c').getD (i / 8) 0 = c' := by
        rw [hi, List.getD_eq_getElem?_getD, List.getElem?_set_self (by omega)]; rfl
      have := hb3 (i % 8) (by omega)
      unfold bt
      rw [e, hc', this, hi]
      by_cases g1 : i < pos
      · rw [if_pos (by omega), if_pos g1]
      · rw [if_neg (by omega), if_neg g1]
        by_cases g2 : i = pos
        · rw [if_pos (by omega), if_pos g2]
        · rw [if_neg (by omega), if_neg g2]
    · have e : (b.set (b.length - 1) c').getD (i / 8) 0 = b.getD (i / 8) 0 := by
        rw [List.getD_eq_getElem?_getD, List.getElem?_set_ne (fun h => hi h.symm), List.getD_eq_getElem?_getD]
      have e2 : bt (b.set (b.length - 1) c') i = bt b i := by unfold bt; rw [e]
      rw [e2]
      by_cases g1 : i < pos
      · rw [if_pos g1]
      · rw [if_neg g1, if_neg (by omega)]
        exact hz i (by omega)
  refine ⟨⟨by rw [List.length_set]; omega, by rw [List.length_set]; omega, fun i hi => by rw [key, if_neg (by omega), if_neg (by omega)]⟩, ⟨by rw [List.length_set]; exact Nat.le_refl _, fun i hi => by rw [key, if_pos hi]⟩, by rw [key, if_neg (by omega), if_pos rfl]⟩

theorem div_step (n k j : Nat) (hj : j < k) : 2 * (n / 2 ^ (k - j)) + n / 2 ^ (k - 1 - j) % 2 = n / 2 ^ (k - (j + 1)) := by
  rw [show k - j = (k - 1 - j) + 1 by omega, show k - (j + 1) = k - 1 - j by omega, Nat.pow_succ, ← Nat.div_div_eq_div_mul]
  omega
end Go.Proofs.Ytodmdkhdbfbfgaa.Pk
