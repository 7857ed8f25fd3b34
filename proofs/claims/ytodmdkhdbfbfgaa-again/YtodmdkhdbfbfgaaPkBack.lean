/- Packed bytes read back: plain facts. -/
import Derived.Test.YtodmdkhdbfbfgaaPkCount
namespace Go.Proofs.Ytodmdkhdbfbfgaa
open Go.RowKit Pk
set_option linter.unusedVariables false
set_option linter.unusedSimpArgs false

theorem kraft_gen (M K : Nat) (hK : K = M + 12) (S : List Nat) (ln : Nat → Nat) (h : ∀ i ∈ S, ln i ≤ 12) (hk : sumL (fun i => 2 ^ (K - ln i)) S ≤ 2 ^ K) : sumL (fun i => 2 ^ (12 - ln i)) S ≤ 4096 := by
  have e : sumL (fun i => 2 ^ (K - ln i)) S = 2 ^ M * sumL (fun i => 2 ^ (12 - ln i)) S := by
    rw [← sumL_mul]
    refine sumL_congr fun i hi => ?_
    rw [← Nat.pow_add]
    congr 1
    have := h i hi; omega
  have e2 : 2 ^ K = 2 ^ M * 4096 := by rw [hK, Nat.pow_add]
  rw [e, e2] at hk
  exact Nat.le_of_mul_le_mul_left hk (Nat.pow_pos (by omega))
theorem kraft_12 (S : List Nat) (ln : Nat → Nat) (h : ∀ i ∈ S, ln i ≤ 12) (hk : sumL (fun i => 2 ^ (288 - ln i)) S ≤ 2 ^ 288) : sumL (fun i => 2 ^ (12 - ln i)) S ≤ 4096 :=
  kraft_gen 276 288 rfl S ln h hk

theorem sumTo_syms (ln c : Nat → Nat) (k : Nat) (h : ∀ i, i < k → (0 < ln i ↔ 0 < c i)) : sumTo (fun i => (ln i : Int)) k = (sumL (fun i => 2 ^ (12 - ln i)) (symsTo c k) : Nat) := by
  induction k with
  | zero => rfl
  | succ k ih =>
    have h1 := ih (fun i hi => h i (by omega))
    have h2 := h k (by omega)
    rw [sumTo, h1]
    unfold wt
    by_cases e : 0 < c k
    · rw [symsTo_yes c k e, sumL_append, if_pos (by have := h2.2 e; omega)]
      simp only [sumL, Nat.add_zero]
      have : ((12 : Int) - (ln k : Int)).toNat = 12 - ln k := by omega
      rw [this]
      simp
    · rw [symsTo_no c k (by omega), if_neg (by have : ¬ 0 < ln k := fun hh => e (h2.1 hh); omega)]
      omega

theorem fits_of (ln c : Nat → Nat) (h1 : ∀ i, i < 288 → (0 < ln i ↔ 0 < c i)) (h2 : ∀ i, ln i ≤ 12) (hk : sumL (fun i => 2 ^ (288 - ln i)) (symsTo c 288) ≤ 2 ^ 288) : Fits (fun i => (ln i : Int)) 288 := by
  refine ⟨fun k _ => ⟨by omega, by have := h2 k; omega⟩, ?_⟩
  rw [sumTo_syms ln c 288 h1]
  have := kraft_12 (symsTo c 288) ln (fun i _ => h2 i) hk
  omega

theorem nz_syms (ln c : Nat → Nat) (k : Nat) (h : ∀ i, i < k → (0 < ln i ↔ 0 < c i)) : nz (fun i => (ln i : Int)) k = (symsTo c k).length := by
  induction k with
  | zero => rfl
  | succ k ih =>
    have h2 := h k (by omega)
    rw [nz, ih (fun i hi => h i (by omega))]
    by_cases e : 0 < c k
    · rw [symsTo_yes c k e, if_neg (by have := h2.2 e; omega)]; simp
    · rw [symsTo_no c k (by omega), if_pos (by have : ¬ 0 < ln k := fun hh => e (h2.1 hh); omega)]; rfl

theorem three_le (l : List Nat) (hn : l.Nodup) (a b c : Nat) (h : ∀ x ∈ l, x = a ∨ x = b ∨ x = c) : l.length ≤ 3 := by
  match l, hn, h with
  | [], _, _ => simp
  | [_], _, _ => simp
  | [_, _], _, _ => simp
  | [_, _, _], _, _ => simp
  | p :: q :: r :: s :: t, hn, h =>
    exfalso
    simp only [List.nodup_cons, List.mem_cons, not_or] at hn
    have h1 := h p (by simp)
    have h2 := h q (by simp)
    have h3 := h r (by simp)
    have h4 := h s (by simp)
    omega

/-- The bits of a step. -/
def sbits (ln : Nat → Nat) (s : Nat × Nat) : Nat := ln s.1 + if s.1 < 256 then 0 else 12

theorem sbits_bound (ln : Nat → Nat) (l : List (Nat × Nat)) (h : ∀ s ∈ l, ln s.1 ≤ 2) : sumL (sbits ln) l ≤ 2 * litS l + 14 * cpS l := by
  unfold litS cpS
  induction l with
  | nil => simp [sumL]
  | cons x l ih =>
    have h1 := h x (by simp)
    have h2 := ih (fun s hs => h s (by simp [hs]))
    simp only [sumL, sbits] at h2 ⊢
    split <;> omega
theorem sbits_12 (ln : Nat → Nat) (l : List (Nat × Nat)) (h : ∀ s ∈ l, ln s.1 ≤ 12) : sumL (sbits ln) l ≤ 24 * l.length := by
  induction l with
  | nil => simp [sumL]
  | cons x l ih =>
    have h1 := h x (by simp)
    have h2 := ih (fun s hs => h s (by simp [hs]))
    simp only [sumL, sbits, List.length_cons] at h2 ⊢
    split <;> omega

/-- Bytes that are all the same come out short. -/
theorem same_short {n c pos len : Nat} {l : List (Nat × Nat)} {ln : Nat → Nat} (hn : 0 < n) (has : AS n c n l) (h1 : ∀ i, i < 288 → (0 < ln i ↔ 0 < cntS l i)) (h2 : ∀ i, ln i ≤ 1 ∨ ln i + 1 ≤ (symsTo (cntS l) 288).length)
    (hpos : pos ≤ 24 + 13 * nz (fun i => (ln i : Int)) 288 + 90 + sumL (sbits ln) l) (hlen : 8 * len < pos + 8) : len ≤ 40 + n / 16 := by
  have key : ∀ x, (∀ s ∈ l, s.1 = c ∨ s.1 = 287 ∨ s.1 = x) → litS l ≤ 3 → 34 * cpS l ≤ n + 33 → len ≤ 40 + n / 16 := fun x hx hlit hcp => by
    have h3 : (symsTo (cntS l) 288).length ≤ 3 := three_le _ (symsTo_nodup _ _) c 287 x fun y hy => by
      have := ((mem_symsTo _ _ _).1 hy).2
      obtain ⟨s, hs, rfl⟩ := (cntS_pos l y).1 this
      exact hx s hs
    have h4 := sbits_bound ln l fun s _ => by have := h2 s.1; omega
    rw [nz_syms ln (cntS l) 288 h1] at hpos
    omega
  cases has with
  | start h _ => omega
  | run a b e f => exact key c (fun s hs => (f s hs).elim .inl (fun h => .inr (.inl h))) (by omega) (by omega)
  | rest x a b e f => exact key x f (by omega) (by omega)

theorem val_byte (s : List UInt8) (k : Nat) : val s (8 * k) 8 = (s.getD k 0).toNat := by
  have hb : ∀ j, j < 8 → bt s (8 * k + j) = (s.getD k 0).toNat / 2 ^ (7 - j) % 2 := fun j hj => by
    unfold bt; rw [show (8 * k + j) / 8 = k by omega, show (8 * k + j) % 8 = j by omega]
  have hx := (s.getD k 0).toNat_lt
  simp only [val_succ, val_zero]
  rw [hb 7 (by omega), hb 6 (by omega), hb 5 (by omega), hb 4 (by omega), hb 3 (by omega), hb 2 (by omega), hb 1 (by omega), hb 0 (by omega)]
  simp only [Nat.sub_self, Nat.sub_zero]
  generalize (s.getD k 0).toNat = x at *
  simp only [show (2 : Nat) ^ 0 = 1 from rfl, show (2 : Nat) ^ (7 - 6) = 2 from rfl, show (2 : Nat) ^ (7 - 5) = 4 from rfl, show (2 : Nat) ^ (7 - 4) = 8 from rfl, show (2 : Nat) ^ (7 - 3) = 16 from rfl, show (2 : Nat) ^ (7 - 2) = 32 from rfl, show (2 : Nat) ^ (7 - 1) = 64 from rfl, show (2 : Nat) ^ 7 = 128 from rfl]
  omega

theorem ag_byte {b T : List UInt8} {pos k : Nat} (h : Ag b T pos) (hk : 8 * k + 8 ≤ pos) : T.getD k 0 = b.getD k 0 := by
  apply UInt8.toNat_inj.1
  rw [← val_byte, ← val_byte]
  exact h.val _ _ hk

/-- What is written reads as the bytes. -/
theorem unp_of {d T : List UInt8} {z : Nat → Int} {p1 p2 : Nat} {b : List UInt8} (h0 : 0 < d.length) (hd : d.length ≤ 4000) (hb : b = [1, UInt8.ofNat (d.length / 256), UInt8.ofNat (d.length % 256)]) (hag : Ag b T 24) (h24 : 24 ≤ p2) (hf : Fits z 288) (hw : Wr T p2) (hl : lensF (T.drop 3) 288 0 0 (fun _ => 0) = some (z, p1 - 24)) (hdt : dataF (T.drop 3) z 288 d.length d.length [] (p1 - 24) = some (d, p2 - 24)) :
    unpF 288 T = some d := by
  have hlen := hag.len
  have e0 := ag_byte (k := 0) hag (by omega)
  have e1 := ag_byte (k := 1) hag (by omega)
  have e2 := ag_byte (k := 2) hag (by omega)
  have hbody := body_read h24 hf hw hl hdt
  subst hb
  simp only [List.length_cons, List.length_nil] at hlen
  match T, hlen, e0, e1, e2, hbody with
  | t0 :: t1 :: t2 :: r, _, e0, e1, e2, hbody =>
    simp at e0 e1 e2
    subst e0
    have hh : 256 * t1.toNat + t2.toNat = d.length := by
      rw [e1, e2, UInt8.toNat_ofNat', UInt8.toNat_ofNat']
      omega
    rw [unpF_body 288 (t1 :: t2 :: r) (by simp) (by show ¬ (256 * t1.toNat + t2.toNat < 1 ∨ 4000 < 256 * t1.toNat + t2.toNat); omega)]
    simp only [List.getD_cons_zero, List.getD_cons_succ, List.drop_succ_cons, List.drop_zero] at hbody ⊢
    rw [hh]; exact hbody
end Go.Proofs.Ytodmdkhdbfbfgaa
