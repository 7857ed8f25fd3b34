/- What is written bit by bit reads back: plain facts. -/
import Derived.Test.YtodmdkhdbfbfgaaPkWrite
namespace Go.Proofs.Ytodmdkhdbfbfgaa.Pk
set_option linter.unusedVariables false
set_option linter.unusedSimpArgs false

theorem bt_drop (f : List UInt8) (k i : Nat) : bt (f.drop k) i = bt f (8 * k + i) := by
  unfold bt
  rw [List.getD_eq_getElem?_getD, List.getD_eq_getElem?_getD, List.getElem?_drop, show k + i / 8 = (8 * k + i) / 8 by omega, show (8 * k + i) % 8 = i % 8 by omega]

theorem val_drop (f : List UInt8) (k p d : Nat) : val (f.drop k) p d = val f (8 * k + p) d := by
  induction d with
  | zero => rfl
  | succ d ih => rw [val_succ, val_succ, ih, bt_drop, Nat.add_assoc]

/-- The lengths below p, 0 behind. -/
def zp (z : Nat → Int) (p : Nat) : Nat → Int := fun j => if j < p then z j else 0

theorem zp_zero (z : Nat → Int) : zp z 0 = fun _ => 0 := by funext j; simp [zp]
theorem zp_all (z : Nat → Int) (n : Nat) (h : ∀ i, n ≤ i → z i = 0) : zp z n = z := by
  funext j; unfold zp; split
  · rfl
  · exact (h j (by omega)).symm
theorem zp_upd (z : Nat → Int) (p : Nat) : upd (zp z p) p (z p) = zp z (p + 1) := by
  funext j; unfold upd zp
  by_cases e : j = p
  · subst e; simp
  · rw [if_neg e]
    by_cases h : j < p
    · rw [if_pos h, if_pos (by omega)]
    · rw [if_neg h, if_neg (by omega)]
theorem zp_run (z : Nat → Int) (p k : Nat) (h : ∀ i, i < k → z (p + i) = 0) : zp z p = zp z (p + k) := by
  funext j; unfold zp
  by_cases h1 : j < p
  · rw [if_pos h1, if_pos (by omega)]
  · rw [if_neg h1]
    by_cases h2 : j < p + k
    · rw [if_pos h2]
      have := h (j - p) (by omega)
      rw [show p + (j - p) = j by omega] at this
      exact this.symm
    · rw [if_neg h2]

theorem lens_one {b b' : List UInt8} {z : Nat → Int} {p pos F : Nat} (hp : p < 288) (h24 : 24 ≤ pos) (hz : 1 ≤ z p) (hlen : pos + 4 ≤ 8 * b'.length) (hv : val b' pos 4 = (z p).toNat) (hag : Ag b b' pos)
    (R : List UInt8 → Option ((Nat → Int) × Nat)) (h : ∀ f, Ag b f pos → R f = lensF (f.drop 3) (F + 1) p (pos - 24) (zp z p)) :
    ∀ f, Ag b' f (pos + 4) → R f = lensF (f.drop 3) F (p + 1) (pos + 4 - 24) (zp z (p + 1)) := by
  intro f hf
  rw [h f (hag.trans (hf.mono (by omega)) (Nat.le_refl _))]
  have hl : (f.drop 3).length = f.length - 3 := List.length_drop ..
  have hfl := hf.len
  have hv2 : val (f.drop 3) (pos - 24) 4 = (z p).toNat := by rw [val_drop, show 8 * 3 + (pos - 24) = pos by omega, hf.val pos 4 (by omega), hv]
  rw [lensF_one _ _ _ _ _ hp (by omega) (by omega), hv2, show ((z p).toNat : Int) = z p by omega, zp_upd, show pos - 24 + 4 = pos + 4 - 24 by omega]

theorem lens_run {b b' : List UInt8} {z : Nat → Int} {p pos F k : Nat} (hp : p + k < 288) (h24 : 24 ≤ pos) (hz : ∀ i, i < k + 1 → z (p + i) = 0) (hlen : pos + 9 ≤ 8 * b'.length) (hv : val b' pos 4 = 0) (hv2 : val b' (pos + 4) 5 = k) (hag : Ag b b' pos)
    (R : List UInt8 → Option ((Nat → Int) × Nat)) (h : ∀ f, Ag b f pos → R f = lensF (f.drop 3) (F + 1) p (pos - 24) (zp z p)) :
    ∀ f, Ag b' f (pos + 9) → R f = lensF (f.drop 3) F (p + 1 + k) (pos + 9 - 24) (zp z (p + 1 + k)) := by
  intro f hf
  rw [h f (hag.trans (hf.mono (by omega)) (Nat.le_refl _))]
  have hl : (f.drop 3).length = f.length - 3 := List.length_drop ..
  have hfl := hf.len
  have hv3 : val (f.drop 3) (pos - 24) 4 = 0 := by rw [val_drop, show 8 * 3 + (pos - 24) = pos by omega, hf.val pos 4 (by omega), hv]
  have hv4 : val (f.drop 3) (pos - 24 + 4) 5 = k := by rw [val_drop, show 8 * 3 + (pos - 24 + 4) = pos + 4 by omega, hf.val (pos + 4) 5 (by omega), hv2]
  rw [lensF_run _ _ _ _ _ (by omega) (by omega) hv3 (by omega) (by omega), hv4, zp_run z p (k + 1) hz, show p + (k + 1) = p + 1 + k by omega, show pos - 24 + 9 = pos + 9 - 24 by omega]

/-- How many lengths below p are not 0. -/
def nz (z : Nat → Int) : Nat → Nat
  | 0 => 0
  | p + 1 => nz z p + if z p = 0 then 0 else 1
theorem nz_run (z : Nat → Int) (p k : Nat) (h : ∀ i, i < k → z (p + i) = 0) : nz z (p + k) = nz z p := by
  induction k with
  | zero => rfl
  | succ k ih => rw [← Nat.add_assoc, nz, ih (fun i hi => h i (by omega)), if_pos (h k (by omega))]; rfl
theorem nz_le (z : Nat → Int) (p : Nat) : nz z p ≤ p := by
  induction p with
  | zero => exact Nat.le_refl _
  | succ p ih => unfold nz; split <;> omega
theorem nz_mono (z : Nat → Int) (p k : Nat) : nz z p ≤ nz z (p + k) := by
  induction k with
  | zero => exact Nat.le_refl _
  | succ k ih => rw [← Nat.add_assoc, nz]; omega

/-- How many bytes a step makes. -/
def slen (s : Nat × Nat) : Nat := if s.1 < 256 then 1 else s.1 - 253

/-- A step that makes what is at a place of d. -/
structure okStep (d : List UInt8) (at_ : Nat) (s : Nat × Nat) : Prop where
  lt : s.1 < 288
  fit : at_ + slen s ≤ d.length
  byte : s.1 < 256 → (d.getD at_ 0).toNat = s.1
  copy : ¬ s.1 < 256 → 1 ≤ s.2 ∧ s.2 ≤ 4096 ∧ s.2 ≤ at_ ∧ ∀ i, i < s.1 - 253 → d.getD (at_ + i) 0 = d.getD (at_ + i - s.2) 0

theorem take_succ_getD (d : List UInt8) (n : Nat) (h : n < d.length) : d.take (n + 1) = d.take n ++ [d.getD n 0] := by
  rw [List.take_add_one, List.getD_eq_getElem?_getD, List.getElem?_eq_getElem h]; rfl

theorem cpy_take (d : List UInt8) (a back k : Nat) (hb : 1 ≤ back) (hba : back ≤ a) (hk : a + k ≤ d.length) (h : ∀ i, i < k → d.getD (a + i) 0 = d.getD (a + i - back) 0) : cpy (d.take a) back k = d.take (a + k) := by
  induction k with
  | zero => rfl
  | succ k ih =>
    rw [cpy, ih (by omega) (fun i hi => h i (by omega)), ← Nat.add_assoc, take_succ_getD d (a + k) (by omega), List.length_take, Nat.min_eq_left (by omega), h k (by omega)]
    congr 2
    rw [List.getD_eq_getElem?_getD, List.getElem?_take_of_lt (by omega), List.getD_eq_getElem?_getD]

theorem sym_read {f : List UInt8} {z : Nat → Int} {pos i : Nat} (hi : i < 288) (hz : 1 ≤ z i) (hl : pos + (z i).toNat ≤ 8 * f.length) (hv : val f pos (z i).toNat = num z 288 i) : symF f z pos 288 = some i :=
  symF_hit f z pos i hi ((hit_iff f z pos i).2 ⟨hz, hl, hv.symm⟩)

theorem data_byte {b b' : List UInt8} {z : Nat → Int} {d : List UInt8} {a pos F i : Nat} (h24 : 24 ≤ pos) (hi : i < 256) (hz : 1 ≤ z i) (ha : a < d.length) (hd : (d.getD a 0).toNat = i) (hlen : pos + (z i).toNat ≤ 8 * b'.length) (hv : val b' pos (z i).toNat = num z 288 i) (hag : Ag b b' pos)
    (R : List UInt8 → Option (List UInt8 × Nat)) (h : ∀ f, Ag b f pos → R f = dataF (f.drop 3) z 288 d.length (F + 1) (d.take a) (pos - 24)) :
    ∀ f, Ag b' f (pos + (z i).toNat) → R f = dataF (f.drop 3) z 288 d.length F (d.take (a + 1)) (pos + (z i).toNat - 24) := by
  intro f hf
  rw [h f (hag.trans (hf.mono (by omega)) (Nat.le_refl _))]
  have hl : (f.drop 3).length = f.length - 3 := List.length_drop ..
  have hfl := hf.len
  have hs : symF (f.drop 3) z (pos - 24) 288 = some i := sym_read (by omega) hz (by omega) (by rw [val_drop, show 8 * 3 + (pos - 24) = pos by omega, hf.val pos _ (by omega), hv])
  rw [dataF_byte _ _ _ _ _ _ _ i (by rw [List.length_take]; omega) hs hi, take_succ_getD d a ha, show pos - 24 + (z i).toNat = pos + (z i).toNat - 24 by omega]
  rw [← hd, UInt8.ofNat_toNat]

theorem data_copy {b b' : List UInt8} {z : Nat → Int} {d : List UInt8} {a pos F i back : Nat} (h24 : 24 ≤ pos) (hi : ¬ i < 256) (hi2 : i < 288) (hz : 1 ≤ z i) (ha : a + (i - 253) ≤ d.length) (hb : 1 ≤ back) (hb2 : back ≤ a) (hd : ∀ j, j < i - 253 → d.getD (a + j) 0 = d.getD (a + j - back) 0) (hlen : pos + (z i).toNat + 12 ≤ 8 * b'.length) (hv : val b' pos (z i).toNat = num z 288 i) (hv2 : val b' (pos + (z i).toNat) 12 = back - 1) (hag : Ag b b' pos)
    (R : List UInt8 → Option (List UInt8 × Nat)) (h : ∀ f, Ag b f pos → R f = dataF (f.drop 3) z 288 d.length (F + 1) (d.take a) (pos - 24)) :
    ∀ f, Ag b' f (pos + (z i).toNat + 12) → R f = dataF (f.drop 3) z 288 d.length F (d.take (a + (i - 253))) (pos + (z i).toNat + 12 - 24) := by
  intro f hf
  rw [h f (hag.trans (hf.mono (by omega)) (Nat.le_refl _))]
  have hl : (f.drop 3).length = f.length - 3 := List.length_drop ..
  have hfl := hf.len
  have hs : symF (f.drop 3) z (pos - 24) 288 = some i := sym_read (by omega) hz (by omega) (by rw [val_drop, show 8 * 3 + (pos - 24) = pos by omega, hf.val pos _ (by omega), hv])
  have hv3 : val (f.drop 3) (pos - 24 + (z i).toNat) 12 = back - 1 := by rw [val_drop, show 8 * 3 + (pos - 24 + (z i).toNat) = pos + (z i).toNat by omega, hf.val _ 12 (by omega), hv2]
  have hlt : (d.take a).length = a := by rw [List.length_take]; omega
  rw [dataF_copy _ _ _ _ _ _ _ i (by omega) hs hi (by omega) (by rw [hv3, hlt]; omega), hv3, show back - 1 + 1 = back by omega, cpy_take d a back _ hb hb2 ha hd, show pos - 24 + (z i).toNat + 12 = pos + (z i).toNat + 12 - 24 by omega]

theorem val_zeros (s : List UInt8) (p k : Nat) (h : ∀ i, p ≤ i → bt s i = 0) : val s p k = 0 := by
  induction k with
  | zero => rfl
  | succ k ih => rw [val_succ, ih, h _ (by omega)]

theorem body_read {T d : List UInt8} {z : Nat → Int} {p1 p2 : Nat} (h24 : 24 ≤ p2) (hf : Fits z 288) (hw : Wr T p2) (hl : lensF (T.drop 3) 288 0 0 (fun _ => 0) = some (z, p1 - 24)) (hd : dataF (T.drop 3) z 288 d.length d.length [] (p1 - 24) = some (d, p2 - 24)) :
    bodyF (T.drop 3) 288 d.length = some d := by
  have hl3 : (T.drop 3).length = T.length - 3 := List.length_drop ..
  have hlo := hw.lo
  have hhi := hw.hi
  rw [bodyF_data _ _ _ z (p1 - 24) (p2 - 24) d hl ((fitsB_iff z 288).2 hf) hd, if_pos]
  refine ⟨by omega, val_zeros _ _ _ fun i hi => ?_⟩
  rw [bt_drop]
  exact hw.zero _ (by omega)
end Go.Proofs.Ytodmdkhdbfbfgaa.Pk
