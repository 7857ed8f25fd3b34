/- The document's reading of a packed text as plain functions on lists: bits, lengths of codes, symbols, copies. -/
import Derived.Test.YtodmdkhdbfbfgaaPure
namespace Go.Proofs.Ytodmdkhdbfbfgaa.Pk
set_option linter.unusedVariables false

/-- A number of d digits, the i-th is f i. -/
def valF (f : Nat → Nat) : Nat → Nat
  | 0 => 0
  | d + 1 => 2 * valF f d + f d

/-- Bit i of bytes, each byte's highest first. -/
def bt (s : List UInt8) (i : Nat) : Nat := (s.getD (i / 8) 0).toNat / 2 ^ (7 - i % 8) % 2

/-- The number of d digits at place p. -/
def val (s : List UInt8) (p d : Nat) : Nat := valF (fun i => bt s (p + i)) d

theorem bt_lt (s : List UInt8) (i : Nat) : bt s i < 2 := Nat.mod_lt _ (by omega)

theorem valF_lt (f : Nat → Nat) (hf : ∀ i, f i < 2) (d : Nat) : valF f d < 2 ^ d := by
  induction d with
  | zero => simp [valF]
  | succ d ih => have := hf d; simp only [valF, Nat.pow_succ]; omega

theorem val_lt (s : List UInt8) (p d : Nat) : val s p d < 2 ^ d := valF_lt _ (fun i => bt_lt s _) d

theorem val_zero (s : List UInt8) (p : Nat) : val s p 0 = 0 := rfl
theorem val_succ (s : List UInt8) (p d : Nat) : val s p (d + 1) = 2 * val s p d + bt s (p + d) := rfl
theorem val_one (s : List UInt8) (p : Nat) : val s p 1 = bt s p := by simp [val, valF]

theorem val_shift (s : List UInt8) (p d e : Nat) : val s p (d + e) / 2 ^ e = val s p d := by
  induction e with
  | zero => simp
  | succ e ih =>
    rw [← Nat.add_assoc, val_succ, Nat.pow_succ, Nat.mul_comm (2 ^ e) 2, ← Nat.div_div_eq_div_mul]
    have := bt_lt s (p + (d + e))
    rw [show (2 * val s p (d + e) + bt s (p + (d + e))) / 2 = val s p (d + e) by omega, ih]

def upd (z : Nat → Int) (p : Nat) (x : Int) : Nat → Int := fun j => if j = p then x else z j

/-- The lengths of the codes from symbol p on, at place pos. -/
def lensF (s : List UInt8) : Nat → Nat → Nat → (Nat → Int) → Option ((Nat → Int) × Nat)
  | 0, p, pos, z => if p = 288 then some (z, pos) else none
  | f + 1, p, pos, z =>
    if p = 288 then some (z, pos)
    else if 8 * s.length < pos + 4 then none
    else if val s pos 4 ≠ 0 then lensF s f (p + 1) (pos + 4) (upd z p (val s pos 4))
    else if 8 * s.length < pos + 9 then none
    else if 288 < p + 1 + val s (pos + 4) 5 then none
    else lensF s f (p + 1 + val s (pos + 4) 5) (pos + 9) z

theorem lensF_done (s : List UInt8) (f pos : Nat) (z : Nat → Int) : lensF s f 288 pos z = some (z, pos) := by
  cases f <;> simp [lensF]

theorem lensF_short (s : List UInt8) (f p pos : Nat) (z : Nat → Int) (hp : p < 288) (hf : 288 ≤ p + f) (h : 8 * s.length < pos + 4) : lensF s f p pos z = none := by
  cases f with
  | zero => omega
  | succ f => rw [lensF, if_neg (by omega), if_pos h]

theorem lensF_one (s : List UInt8) (f p pos : Nat) (z : Nat → Int) (hp : p < 288) (h : ¬ 8 * s.length < pos + 4) (hv : val s pos 4 ≠ 0) :
    lensF s (f + 1) p pos z = lensF s f (p + 1) (pos + 4) (upd z p (val s pos 4)) := by
  rw [lensF, if_neg (by omega), if_neg h, if_pos hv]

theorem lensF_short2 (s : List UInt8) (f p pos : Nat) (z : Nat → Int) (hp : p < 288) (h : ¬ 8 * s.length < pos + 4) (hv : val s pos 4 = 0) (h2 : 8 * s.length < pos + 9) :
    lensF s (f + 1) p pos z = none := by
  rw [lensF, if_neg (by omega), if_neg h, if_neg (by omega), if_pos h2]

theorem lensF_over (s : List UInt8) (f p pos : Nat) (z : Nat → Int) (hp : p < 288) (h : ¬ 8 * s.length < pos + 4) (hv : val s pos 4 = 0) (h2 : ¬ 8 * s.length < pos + 9) (h3 : 288 < p + 1 + val s (pos + 4) 5) :
    lensF s (f + 1) p pos z = none := by
  rw [lensF, if_neg (by omega), if_neg h, if_neg (by omega), if_neg h2, if_pos h3]

theorem lensF_run (s : List UInt8) (f p pos : Nat) (z : Nat → Int) (hp : p < 288) (h : ¬ 8 * s.length < pos + 4) (hv : val s pos 4 = 0) (h2 : ¬ 8 * s.length < pos + 9) (h3 : ¬ 288 < p + 1 + val s (pos + 4) 5) :
    lensF s (f + 1) p pos z = lensF s f (p + 1 + val s (pos + 4) 5) (pos + 9) z := by
  rw [lensF, if_neg (by omega), if_neg h, if_neg (by omega), if_neg h2, if_neg h3]

/-- Does the code of symbol i stand at place pos? -/
def hit (s : List UInt8) (z : Nat → Int) (pos i : Nat) : Bool :=
  decide (1 ≤ z i) && (decide (pos + (z i).toNat ≤ 8 * s.length) && decide (num z 288 i = val s pos (z i).toNat))

theorem hit_iff (s : List UInt8) (z : Nat → Int) (pos i : Nat) : hit s z pos i = true ↔ 1 ≤ z i ∧ pos + (z i).toNat ≤ 8 * s.length ∧ num z 288 i = val s pos (z i).toNat := by
  simp [hit, Bool.and_eq_true]

/-- The first symbol below n whose code stands at place pos. -/
def symF (s : List UInt8) (z : Nat → Int) (pos : Nat) : Nat → Option Nat
  | 0 => none
  | n + 1 => match symF s z pos n with
    | some i => some i
    | none => if hit s z pos n then some n else none

theorem symF_none (s : List UInt8) (z : Nat → Int) (pos n : Nat) (h : ∀ i, i < n → hit s z pos i = false) : symF s z pos n = none := by
  induction n with
  | zero => rfl
  | succ n ih =>
    rw [symF, ih (fun i hi => h i (by omega))]
    simp [h n (by omega)]

theorem symF_some (s : List UInt8) (z : Nat → Int) (pos n i : Nat) (hi : i < n) (hh : hit s z pos i = true) (h : ∀ j, j < i → hit s z pos j = false) : symF s z pos n = some i := by
  induction n with
  | zero => omega
  | succ n ih =>
    by_cases e : i = n
    · subst e
      rw [symF, symF_none s z pos i h]
      simp [hh]
    · rw [symF, ih (by omega)]

theorem hit_unique (s : List UInt8) (z : Nat → Int) (pos i j : Nat) (hi : i < 288) (hj : j < 288) (h1 : hit s z pos i = true) (h2 : hit s z pos j = true) : i = j := by
  rw [hit_iff] at h1 h2
  by_cases e : i = j
  · exact e
  · exfalso
    rcases Int.le_total (z i) (z j) with hle | hle
    · refine num_prefix z 288 i j hi hj e h1.1 hle ?_
      rw [h2.2.2, h1.2.2]
      have := val_shift s pos (z i).toNat ((z j).toNat - (z i).toNat)
      rw [show (z i).toNat + ((z j).toNat - (z i).toNat) = (z j).toNat by omega] at this
      exact this.symm
    · refine num_prefix z 288 j i hj hi (fun h => e h.symm) h2.1 hle ?_
      rw [h2.2.2, h1.2.2]
      have := val_shift s pos (z j).toNat ((z i).toNat - (z j).toNat)
      rw [show (z j).toNat + ((z i).toNat - (z j).toNat) = (z i).toNat by omega] at this
      exact this.symm

theorem symF_hit (s : List UInt8) (z : Nat → Int) (pos i : Nat) (hi : i < 288) (hh : hit s z pos i = true) : symF s z pos 288 = some i := by
  refine symF_some s z pos 288 i hi hh fun j hj => ?_
  cases hb : hit s z pos j with
  | false => rfl
  | true => have := hit_unique s z pos i j hi (by omega) hh hb; omega

/-- A copy, byte by byte. -/
def cpy (out : List UInt8) (back : Nat) : Nat → List UInt8
  | 0 => out
  | k + 1 => cpy out back k ++ [(cpy out back k).getD ((cpy out back k).length - back) 0]

theorem cpy_length (out : List UInt8) (back k : Nat) : (cpy out back k).length = out.length + k := by
  induction k with
  | zero => rfl
  | succ k ih => simp [cpy, ih]; omega

/-- The bytes that the symbols make. -/
def dataF (s : List UInt8) (z : Nat → Int) (N size : Nat) : Nat → List UInt8 → Nat → Option (List UInt8 × Nat)
  | 0, out, pos => if size ≤ out.length then some (out, pos) else none
  | f + 1, out, pos =>
    if size ≤ out.length then some (out, pos)
    else match symF s z pos N with
      | none => none
      | some i =>
        if i < 256 then dataF s z N size f (out ++ [UInt8.ofNat i]) (pos + (z i).toNat)
        else if 8 * s.length < pos + (z i).toNat + 12 then none
        else if out.length < val s (pos + (z i).toNat) 12 + 1 ∨ size < out.length + (i - 253) then none
        else dataF s z N size f (cpy out (val s (pos + (z i).toNat) 12 + 1) (i - 253)) (pos + (z i).toNat + 12)

theorem dataF_done (s : List UInt8) (z : Nat → Int) (N size f : Nat) (out : List UInt8) (pos : Nat) (h : size ≤ out.length) : dataF s z N size f out pos = some (out, pos) := by
  cases f <;> simp [dataF, h]

theorem dataF_nosym (s : List UInt8) (z : Nat → Int) (N size f : Nat) (out : List UInt8) (pos : Nat) (h : out.length < size) (hs : symF s z pos N = none) : dataF s z N size f out pos = none := by
  cases f with
  | zero => rw [dataF, if_neg (by omega)]
  | succ f => rw [dataF, if_neg (by omega), hs]

theorem dataF_byte (s : List UInt8) (z : Nat → Int) (N size f : Nat) (out : List UInt8) (pos i : Nat) (h : out.length < size) (hs : symF s z pos N = some i) (hi : i < 256) :
    dataF s z N size (f + 1) out pos = dataF s z N size f (out ++ [UInt8.ofNat i]) (pos + (z i).toNat) := by
  rw [dataF, if_neg (by omega), hs]; simp [hi]

theorem dataF_short (s : List UInt8) (z : Nat → Int) (N size f : Nat) (out : List UInt8) (pos i : Nat) (h : out.length < size) (hs : symF s z pos N = some i) (hi : ¬ i < 256) (h2 : 8 * s.length < pos + (z i).toNat + 12) :
    dataF s z N size (f + 1) out pos = none := by
  rw [dataF, if_neg (by omega), hs]; simp [hi, h2]

theorem dataF_far (s : List UInt8) (z : Nat → Int) (N size f : Nat) (out : List UInt8) (pos i : Nat) (h : out.length < size) (hs : symF s z pos N = some i) (hi : ¬ i < 256) (h2 : ¬ 8 * s.length < pos + (z i).toNat + 12)
    (h3 : out.length < val s (pos + (z i).toNat) 12 + 1 ∨ size < out.length + (i - 253)) : dataF s z N size (f + 1) out pos = none := by
  rw [dataF, if_neg (by omega), hs]; simp only [if_neg hi, if_neg h2, if_pos h3]

theorem dataF_copy (s : List UInt8) (z : Nat → Int) (N size f : Nat) (out : List UInt8) (pos i : Nat) (h : out.length < size) (hs : symF s z pos N = some i) (hi : ¬ i < 256) (h2 : ¬ 8 * s.length < pos + (z i).toNat + 12)
    (h3 : ¬ (out.length < val s (pos + (z i).toNat) 12 + 1 ∨ size < out.length + (i - 253))) :
    dataF s z N size (f + 1) out pos = dataF s z N size f (cpy out (val s (pos + (z i).toNat) 12 + 1) (i - 253)) (pos + (z i).toNat + 12) := by
  rw [dataF, if_neg (by omega), hs]; simp only [if_neg hi, if_neg h2, if_neg h3]

def rngB (z : Nat → Int) : Nat → Bool
  | 0 => true
  | n + 1 => rngB z n && decide (0 ≤ z n ∧ z n ≤ 12)

theorem rngB_iff (z : Nat → Int) (n : Nat) : rngB z n = true ↔ ∀ k, k < n → 0 ≤ z k ∧ z k ≤ 12 := by
  induction n with
  | zero => simp [rngB]
  | succ n ih =>
    rw [rngB, Bool.and_eq_true, ih]
    constructor
    · intro ⟨h1, h2⟩ k hk
      by_cases e : k = n
      · subst e; simpa using h2
      · exact h1 k (by omega)
    · intro h
      exact ⟨fun k hk => h k (by omega), by simpa using h n (by omega)⟩

def fitsB (z : Nat → Int) (n : Nat) : Bool := rngB z n && decide (sumTo z n ≤ 4096)

theorem fitsB_iff (z : Nat → Int) (n : Nat) : fitsB z n = true ↔ Fits z n := by
  rw [fitsB, Bool.and_eq_true, rngB_iff]
  constructor
  · intro ⟨h1, h2⟩; exact ⟨h1, by simpa using h2⟩
  · intro h; exact ⟨h.rng, by simpa using h.sum⟩

/-- Behind the form's byte and the number of bytes. -/
def bodyF (s : List UInt8) (N size : Nat) : Option (List UInt8) :=
  match lensF s N 0 0 (fun _ => 0) with
  | none => none
  | some (z, pos) =>
    if fitsB z N = false then none
    else match dataF s z N size size [] pos with
      | none => none
      | some (out, p) => if 8 * s.length - p < 8 ∧ val s p (8 * s.length - p) = 0 then some out else none

theorem bodyF_none (s : List UInt8) (N size : Nat) (h : lensF s N 0 0 (fun _ => 0) = none) : bodyF s N size = none := by
  unfold bodyF; rw [h]

theorem bodyF_unfit (s : List UInt8) (N size : Nat) (z : Nat → Int) (pos : Nat) (h : lensF s N 0 0 (fun _ => 0) = some (z, pos)) (hf : fitsB z N = false) : bodyF s N size = none := by
  unfold bodyF; rw [h]; simp [hf]

theorem bodyF_nodata (s : List UInt8) (N size : Nat) (z : Nat → Int) (pos : Nat) (h : lensF s N 0 0 (fun _ => 0) = some (z, pos)) (hf : fitsB z N = true) (hd : dataF s z N size size [] pos = none) : bodyF s N size = none := by
  unfold bodyF; rw [h]; simp [hf, hd]

theorem bodyF_data (s : List UInt8) (N size : Nat) (z : Nat → Int) (pos p : Nat) (out : List UInt8) (h : lensF s N 0 0 (fun _ => 0) = some (z, pos)) (hf : fitsB z N = true) (hd : dataF s z N size size [] pos = some (out, p)) :
    bodyF s N size = if 8 * s.length - p < 8 ∧ val s p (8 * s.length - p) = 0 then some out else none := by
  unfold bodyF; rw [h]; simp [hf, hd]

/-- Unpack, by the document. -/
def unpF (N : Nat) (t : List UInt8) : Option (List UInt8) :=
  match t with
  | [] => none
  | c :: r =>
    if c = 0 then (if r.length ≤ 4000 then some r else none)
    else if c = 1 then
      (if r.length < 2 then none
       else if 256 * (r.getD 0 0).toNat + (r.getD 1 0).toNat < 1 ∨ 4000 < 256 * (r.getD 0 0).toNat + (r.getD 1 0).toNat then none
       else bodyF (r.drop 2) N (256 * (r.getD 0 0).toNat + (r.getD 1 0).toNat))
    else none

theorem unpF_nil (N : Nat) : unpF N [] = none := rfl
theorem unpF_cons (N : Nat) (c : UInt8) (r : List UInt8) : unpF N (c :: r) =
    if c = 0 then (if r.length ≤ 4000 then some r else none)
    else if c = 1 then
      (if r.length < 2 then none
       else if 256 * (r.getD 0 0).toNat + (r.getD 1 0).toNat < 1 ∨ 4000 < 256 * (r.getD 0 0).toNat + (r.getD 1 0).toNat then none
       else bodyF (r.drop 2) N (256 * (r.getD 0 0).toNat + (r.getD 1 0).toNat))
    else none := rfl
theorem unpF_other (N : Nat) (c : UInt8) (r : List UInt8) (h0 : c ≠ 0) (h1 : c ≠ 1) : unpF N (c :: r) = none := by rw [unpF_cons, if_neg h0, if_neg h1]
theorem unpF_long (N : Nat) (r : List UInt8) (h : 4000 < r.length) : unpF N (0 :: r) = none := by
  rw [unpF_cons, if_pos rfl, if_neg (by omega)]
theorem unpF_plain (N : Nat) (r : List UInt8) (h : r.length ≤ 4000) : unpF N (0 :: r) = some r := by
  rw [unpF_cons, if_pos rfl, if_pos h]
theorem unpF_short (N : Nat) (r : List UInt8) (h : r.length < 2) : unpF N (1 :: r) = none := by
  rw [unpF_cons, if_neg (by decide), if_pos rfl, if_pos h]
theorem unpF_size (N : Nat) (r : List UInt8) (h : ¬ r.length < 2) (h2 : 256 * (r.getD 0 0).toNat + (r.getD 1 0).toNat < 1 ∨ 4000 < 256 * (r.getD 0 0).toNat + (r.getD 1 0).toNat) : unpF N (1 :: r) = none := by
  rw [unpF_cons, if_neg (by decide), if_pos rfl, if_neg h, if_pos h2]
theorem unpF_body (N : Nat) (r : List UInt8) (h : ¬ r.length < 2) (h2 : ¬ (256 * (r.getD 0 0).toNat + (r.getD 1 0).toNat < 1 ∨ 4000 < 256 * (r.getD 0 0).toNat + (r.getD 1 0).toNat)) :
    unpF N (1 :: r) = bodyF (r.drop 2) N (256 * (r.getD 0 0).toNat + (r.getD 1 0).toNat) := by
  rw [unpF_cons, if_neg (by decide), if_pos rfl, if_neg h, if_neg h2]

end Go.Proofs.Ytodmdkhdbfbfgaa.Pk
