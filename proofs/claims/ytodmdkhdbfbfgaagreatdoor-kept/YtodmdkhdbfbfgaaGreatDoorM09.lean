/- Lemmas and contracts for kept. -/
import Derived.Maps.OwnSet
import Derived.Maps.OwnOps
import Derived.Maps.Keyed
import Derived.Test.YtodmdkhdbfbfgaaGreatDoorM00
import Derived.Test.YtodmdkhdbfbfgaaGreatDoorM08
set_option maxRecDepth 100000
set_option maxHeartbeats 8000000
namespace Go.Nt
set_option linter.unusedVariables false
def fnv1 (n : Nat) (b : UInt8) : Nat := (n ^^^ b.toNat) * 16777619 % 4294967296
def fnv (l : Bs) : Nat := l.foldl fnv1 2166136261
def less7 (n : Nat) : Nat := n / 256 * 256 + n % 128
def sumP (l : Bs) : Nat := less7 (fnv l)
theorem fnv1_lt (n : Nat) (b : UInt8) : fnv1 n b < 4294967296 := Nat.mod_lt _ (by decide)
theorem fnv_lt (l : Bs) : fnv l < 4294967296 := by
 have h : ∀ (l : Bs) (a : Nat), a < 4294967296 → l.foldl fnv1 a < 4294967296 := by
  intro l
  induction l with
  | nil => intro a h; exact h
  | cons x xs ih => intro a _; exact ih _ (fnv1_lt a x)
 exact h l _ (by decide)
theorem foldl_take {α : Type} (f : α → UInt8 → α) (a : α) {l : Bs} {i : Nat} (h : i < l.length) : (l.take (i + 1)).foldl f a = f ((l.take i).foldl f a) (l.getD i 0) := by
 rw [List.take_add_one, List.getElem?_eq_getElem h]
 simp only [Option.toList_some, List.foldl_append, List.foldl_cons, List.foldl_nil, List.getD, List.getElem?_eq_getElem h, Option.getD_some]
theorem fnv_take {l : Bs} {i : Nat} (h : i < l.length) : fnv (l.take (i + 1)) = fnv1 (fnv (l.take i)) (l.getD i 0) := foldl_take fnv1 _ h
theorem sumP_lt (l : Bs) : sumP l < 4294967296 := by have := fnv_lt l; unfold sumP less7; omega
theorem sumP_last (l : Bs) : sumP l % 256 < 128 := by unfold sumP less7; omega
structure Pg where
 bad : Nat
 num : Nat
 at_ : Nat
 of_ : Nat
 text : Bs
deriving DecidableEq, Inhabited
def pgHead (p : Pg) : Bs := enc 1 p.bad ++ enc 4 p.num ++ enc 2 p.at_ ++ enc 2 p.of_ ++ p.text ++ List.replicate (51 - p.text.length) 0
def pageB (p : Pg) : Bs := pgHead p ++ enc 4 (sumP (pgHead p))
theorem pgHead_length (p : Pg) (h : p.text.length ≤ 51) : (pgHead p).length = 60 := by
 unfold pgHead
 simp only [List.length_append, enc_length, List.length_replicate]
 omega
theorem pageB_length (p : Pg) (h : p.text.length ≤ 51) : (pageB p).length = 64 := by
 unfold pageB
 rw [List.length_append, pgHead_length p h, enc_length]
def sayP (s : Bs) : Pg := ⟨(s.getD 0 0).toNat, num ((s.drop 1).take 4), num ((s.drop 5).take 2), num ((s.drop 7).take 2), (s.take 60).drop 9⟩
def okP (s : Bs) : Bool := decide (s.length = 64) && decide (num (s.drop 60) = sumP (s.take 60))
def readP (s : Bs) : Option Pg := if okP s && decide ((sayP s).at_ < (sayP s).of_) then some (sayP s) else none
structure PgOk (p : Pg) : Prop where
 b : p.bad < 256
 n : p.num < 4294967296
 a : p.at_ < p.of_
 o : p.of_ < 65536
 t : p.text.length ≤ 51
theorem take_app {a b : Bs} {n : Nat} (h : n = a.length) : (a ++ b).take n = a := by subst h; simp
theorem drop_app {a b : Bs} {n : Nat} (h : n = a.length) : (a ++ b).drop n = b := by subst h; simp
theorem num_enc1 {b : Nat} (h : b < 256) (r : Bs) : ((enc 1 b ++ r).getD 0 0).toNat = b := by
 simp [enc, List.getD]
 omega
theorem sayP_pageB {p : Pg} (h : PgOk p) : sayP (pageB p) = { p with text := p.text ++ List.replicate (51 - p.text.length) 0 } := by
 obtain ⟨hb, hn, ha, ho, ht⟩ := h
 obtain ⟨b, n, a, o, t⟩ := p
 simp only at *
 have e60 : (pageB ⟨b, n, a, o, t⟩).take 60 = pgHead ⟨b, n, a, o, t⟩ := take_app (pgHead_length _ ht).symm
 unfold sayP
 rw [e60]
 unfold pageB pgHead
 simp only [List.append_assoc]
 generalize hR : t ++ (List.replicate (51 - t.length) 0 ++ enc 4 (sumP (enc 1 b ++ (enc 4 n ++ (enc 2 a ++ (enc 2 o ++ (t ++ List.replicate (51 - t.length) 0))))))) = R
 have d1 : (enc 1 b ++ (enc 4 n ++ (enc 2 a ++ (enc 2 o ++ R)))).drop 1 = enc 4 n ++ (enc 2 a ++ (enc 2 o ++ R)) := drop_app (enc_length _ _).symm
 have d5 : (enc 1 b ++ (enc 4 n ++ (enc 2 a ++ (enc 2 o ++ R)))).drop 5 = enc 2 a ++ (enc 2 o ++ R) := by
  rw [← List.append_assoc]; exact drop_app (by simp [enc_length])
 have d7 : (enc 1 b ++ (enc 4 n ++ (enc 2 a ++ (enc 2 o ++ R)))).drop 7 = enc 2 o ++ R := by
  rw [← List.append_assoc, ← List.append_assoc]; exact drop_app (by simp [enc_length])
 have d9 : (enc 1 b ++ (enc 4 n ++ (enc 2 a ++ (enc 2 o ++ (t ++ List.replicate (51 - t.length) 0))))).drop 9 = t ++ List.replicate (51 - t.length) 0 := by
  rw [← List.append_assoc, ← List.append_assoc, ← List.append_assoc]; exact drop_app (by simp [enc_length])
 rw [d1, d5, d7, d9, num_enc1 hb, take_app (enc_length _ _).symm, take_app (enc_length _ _).symm, take_app (enc_length _ _).symm, num_enc 4 n (by omega), num_enc 2 a (by omega), num_enc 2 o (by omega)]
theorem okP_pageB {p : Pg} (h : p.text.length ≤ 51) : okP (pageB p) = true := by
 unfold okP
 rw [pageB_length p h]
 have e60 : (pageB p).take 60 = pgHead p := take_app (pgHead_length _ h).symm
 have d60 : (pageB p).drop 60 = enc 4 (sumP (pgHead p)) := drop_app (pgHead_length _ h).symm
 rw [e60, d60, num_enc 4 _ (sumP_lt _)]
 simp
theorem readP_pageB {p : Pg} (h : PgOk p) : readP (pageB p) = some { p with text := p.text ++ List.replicate (51 - p.text.length) 0 } := by
 unfold readP
 rw [okP_pageB h.t, sayP_pageB h]
 simp [h.a]
theorem readP_torn {s : Bs} (h : s.getD 63 0 = 255) : readP s = none := by
 unfold readP okP
 by_cases h64 : s.length = 64
 ·have e : s.drop 60 = (s.drop 60).take 3 ++ [s.getD 63 0] := by
   have h3 : (s.drop 60).length = 4 := by simp [h64]
   have := List.take_add_one (l := s.drop 60) (i := 3)
   rw [List.take_of_length_le (by omega)] at this
   refine this.trans ?_
   congr 1
   simp [List.getD]
   rw [List.getElem?_eq_getElem (by omega)]
   simp
  have hn : num (s.drop 60) ≠ sumP (s.take 60) := by
   rw [e, num_snoc, h]
   intro he
   have := sumP_last (s.take 60)
   rw [← he] at this
   have h255 : (255 : UInt8).toNat = 255 := rfl
   omega
  simp [hn]
 ·simp [h64]
theorem readP_some {s : Bs} {p : Pg} (h : readP s = some p) : s.length = 64 ∧ p = sayP s ∧ p.at_ < p.of_ := by
 unfold readP at h
 split at h
 ·rename_i hc
  simp only [okP, Bool.and_eq_true, decide_eq_true_eq] at hc
  cases h
  exact ⟨hc.1.1, rfl, hc.2⟩
 ·cases h
theorem num_le {b : Bs} {k : Nat} (h : b.length ≤ k) : num b < 256 ^ k := Nat.lt_of_lt_of_le (num_lt b) (Nat.pow_le_pow_right (by decide) h)
theorem sayP_fit (s : Bs) : (sayP s).bad < 256 ∧ (sayP s).num < 4294967296 ∧ (sayP s).at_ < 65536 ∧ (sayP s).of_ < 65536 := by
 refine ⟨UInt8.toNat_lt _, ?_, ?_, ?_⟩
 ·exact num_le (k := 4) (by simp; omega)
 ·exact num_le (k := 2) (by simp; omega)
 ·exact num_le (k := 2) (by simp; omega)
theorem sayP_text {s : Bs} (h : s.length = 64) : (sayP s).text.length = 51 := by
 unfold sayP
 simp [h]
def pagesN (n : Nat) : Nat := (n + 50) / 51
def pgOf (b n : Nat) (t : Bs) (k : Nat) : Pg := ⟨b, n, k, pagesN t.length, (t.drop (k * 51)).take 51⟩
def splitR (b n : Nat) (t : Bs) : List Bs := (List.range (pagesN t.length)).map fun k => pageB (pgOf b n t k)
theorem splitR_length (b n : Nat) (t : Bs) : (splitR b n t).length = pagesN t.length := by simp [splitR]
theorem pgOf_ok {b n : Nat} {t : Bs} {k : Nat} (hb : b < 256) (hn : n < 4294967296) (hk : k < pagesN t.length) (ho : pagesN t.length < 65536) : PgOk (pgOf b n t k) :=
 ⟨hb, hn, hk, ho, by simp [pgOf]; omega⟩
theorem join_pages (t : Bs) : ∀ k, k ≤ pagesN t.length → ((List.range k).map fun i => (t.drop (i * 51)).take 51 ++ List.replicate (51 - ((t.drop (i * 51)).take 51).length) (0 : UInt8)).flatten = (t ++ List.replicate (k * 51 - t.length) 0).take (k * 51) := by
 intro k
 induction k with
 | zero => intro _; simp
 | succ k ih =>
   intro hk
   rw [List.range_succ, List.map_append, List.flatten_append, ih (by omega)]
   simp only [List.map_cons, List.map_nil, List.flatten_cons, List.flatten_nil, List.append_nil]
   have hkt : k * 51 < t.length := by unfold pagesN at hk; omega
   have h0 : k * 51 - t.length = 0 := by omega
   rw [h0]
   simp only [List.replicate_zero, List.append_nil]
   have hl : ((t.drop (k * 51)).take 51).length = min 51 (t.length - k * 51) := by simp
   rw [hl]
   by_cases h : (k + 1) * 51 ≤ t.length
   ·have e1 : 51 - min 51 (t.length - k * 51) = 0 := by omega
    have e2 : (k + 1) * 51 - t.length = 0 := by omega
    rw [e1, e2]
    simp only [List.replicate_zero, List.append_nil]
    rw [show (k + 1) * 51 = k * 51 + 51 by omega, List.take_add]
   ·have e1 : 51 - min 51 (t.length - k * 51) = (k + 1) * 51 - t.length := by omega
    rw [e1]
    rw [List.take_of_length_le (l := t ++ _) (by simp; omega)]
    rw [← List.append_assoc]
    congr 1
    rw [List.take_of_length_le (l := t.drop (k * 51)) (by simp; omega)]
    exact List.take_append_drop _ _
theorem join_all (t : Bs) : ∃ z, ((List.range (pagesN t.length)).map fun i => (t.drop (i * 51)).take 51 ++ List.replicate (51 - ((t.drop (i * 51)).take 51).length) (0 : UInt8)).flatten = t ++ z := by
 refine ⟨List.replicate (pagesN t.length * 51 - t.length) 0, ?_⟩
 rw [join_pages t _ (Nat.le_refl _)]
 refine List.take_of_length_le ?_
 simp [pagesN]; omega
end Go.Nt
namespace Go.Nt
set_option linter.unusedVariables false
structure Fp where
 bad : Nat
 num : Nat
 at_ : Nat
 of_ : Nat
 text : Bs
 blk : Nat
deriving DecidableEq, Inhabited
def Fp.mk' (p : Pg) (i : Nat) : Fp := ⟨p.bad, p.num, p.at_, p.of_, p.text, i⟩
def oneF (g : Nat → Nat → Bs) (i p : Nat) : List Fp := ((readP (g i p)).map fun q => Fp.mk' q i).toList
def rowF (g : Nat → Nat → Bs) (i : Nat) : Nat → List Fp
 | 0 => []
 | k + 1 => rowF g i k ++ oneF g i k
def scanF (g : Nat → Nat → Bs) (np : Nat) : Nat → List Fp
 | 0 => []
 | k + 1 => scanF g np k ++ rowF g k np
theorem oneF_len (g : Nat → Nat → Bs) (i p : Nat) : (oneF g i p).length ≤ 1 := by
 unfold oneF
 cases readP (g i p) <;> simp
theorem rowF_len (g : Nat → Nat → Bs) (i : Nat) : ∀ k, (rowF g i k).length ≤ k
 | 0 => by simp [rowF]
 | k + 1 => by
   have h1 := rowF_len g i k
   have h2 := oneF_len g i k
   simp only [rowF, List.length_append]; omega
theorem scanF_len (g : Nat → Nat → Bs) (np : Nat) : ∀ k, (scanF g np k).length ≤ k * np
 | 0 => by simp [scanF]
 | k + 1 => by
   have h1 := scanF_len g np k
   have h2 := rowF_len g k np
   simp only [scanF, List.length_append, Nat.succ_mul]; omega
theorem mem_oneF {g : Nat → Nat → Bs} {i p : Nat} {f : Fp} : f ∈ oneF g i p ↔ ∃ q, readP (g i p) = some q ∧ f = Fp.mk' q i := by
 unfold oneF
 cases h : readP (g i p) with
 | none => simp
 | some q => simp
theorem mem_rowF {g : Nat → Nat → Bs} {i : Nat} {f : Fp} : ∀ {k}, f ∈ rowF g i k ↔ ∃ p q, p < k ∧ readP (g i p) = some q ∧ f = Fp.mk' q i
 | 0 => by simp [rowF]
 | k + 1 => by
   rw [rowF, List.mem_append, mem_rowF, mem_oneF]
   constructor
   ·rintro (⟨p, q, hp, h⟩ | ⟨q, h⟩)
    ·exact ⟨p, q, by omega, h⟩
    ·exact ⟨k, q, by omega, h⟩
   ·rintro ⟨p, q, hp, h⟩
    by_cases e : p = k
    ·subst e; exact .inr ⟨q, h⟩
    ·exact .inl ⟨p, q, by omega, h⟩
theorem mem_scanF {g : Nat → Nat → Bs} {np : Nat} {f : Fp} : ∀ {k}, f ∈ scanF g np k ↔ ∃ i p q, i < k ∧ p < np ∧ readP (g i p) = some q ∧ f = Fp.mk' q i
 | 0 => by simp [scanF]
 | k + 1 => by
   rw [scanF, List.mem_append, mem_scanF, mem_rowF]
   constructor
   ·rintro (⟨i, p, q, hi, h⟩ | ⟨p, q, h⟩)
    ·exact ⟨i, p, q, by omega, h⟩
    ·exact ⟨k, p, q, by omega, h⟩
   ·rintro ⟨i, p, q, hi, h⟩
    by_cases e : i = k
    ·subst e; exact .inr ⟨p, q, h⟩
    ·exact .inl ⟨i, p, q, by omega, h⟩
structure FpOk (f : Fp) : Prop where
 b : f.bad < 256
 n : f.num < 4294967296
 a : f.at_ < f.of_
 o : f.of_ < 65536
 t : f.text.length = 51
theorem scanF_ok {g : Nat → Nat → Bs} {np k : Nat} {f : Fp} (h : f ∈ scanF g np k) : FpOk f ∧ f.blk < k := by
 obtain ⟨i, p, q, hi, hp, hr, rfl⟩ := mem_scanF.1 h
 obtain ⟨h1, rfl, h3⟩ := readP_some hr
 have := sayP_fit (g i p)
 exact ⟨⟨this.1, this.2.1, h3, this.2.2.2, sayP_text h1⟩, hi⟩
def isAt (b n a : Nat) (f : Fp) : Bool := f.bad == b && f.num == n && f.at_ == a
theorem isAt_iff {b n a : Nat} {f : Fp} : isAt b n a f = true ↔ f.bad = b ∧ f.num = n ∧ f.at_ = a := by
 simp [isAt, and_assoc]
def lookF (l : List Fp) (b n a : Nat) : Option Fp := l.find? (isAt b n a)
theorem lookF_snoc (l : List Fp) (f : Fp) (b n a : Nat) : lookF (l ++ [f]) b n a = if (lookF l b n a).isSome then lookF l b n a else if isAt b n a f then some f else none := by
 unfold lookF
 rw [List.find?_append]
 cases h : l.find? (isAt b n a) with
 | some x => simp
 | none => cases hf : isAt b n a f <;> simp [List.find?, hf]
theorem lookF_some {l : List Fp} {b n a : Nat} {f : Fp} (h : lookF l b n a = some f) : f ∈ l ∧ f.bad = b ∧ f.num = n ∧ f.at_ = a :=
 ⟨List.mem_of_find?_eq_some h, isAt_iff.1 (List.find?_some h)⟩
theorem lookF_of_mem {l : List Fp} {f : Fp} (h : f ∈ l) (hu : ∀ x ∈ l, x.bad = f.bad → x.num = f.num → x.at_ = f.at_ → x = f) : lookF l f.bad f.num f.at_ = some f := by
 cases hl : lookF l f.bad f.num f.at_ with
 | some x =>
   obtain ⟨h1, h2, h3, h4⟩ := lookF_some hl
   rw [hu x h1 h2 h3 h4]
 | none =>
   unfold lookF at hl
   have := List.find?_eq_none.1 hl f h
   simp [isAt] at this
theorem lookF_none {l : List Fp} {b n a : Nat} : lookF l b n a = none ↔ ∀ f ∈ l, ¬ (f.bad = b ∧ f.num = n ∧ f.at_ = a) := by
 unfold lookF
 rw [List.find?_eq_none]
 constructor
 ·intro h f hf he; exact h f hf (isAt_iff.2 he)
 ·intro h f hf he; exact h f hf (isAt_iff.1 he)
def hasL (l : List Fp) (b n : Nat) : Bool := l.any fun f => f.bad == b && f.num == n
theorem hasL_iff {l : List Fp} {b n : Nat} : hasL l b n = true ↔ ∃ f ∈ l, f.bad = b ∧ f.num = n := by
 simp [hasL]
def ofF (l : List Fp) (b n : Nat) : Nat := ((lookF l b n 0).map Fp.of_).getD 0
def partF (l : List Fp) (b n o : Nat) : Nat → Option (List Fp)
 | 0 => some []
 | k + 1 => match partF l b n o k, lookF l b n k with
   | some ps, some f => if f.of_ = o then some (ps ++ [f]) else none
   | _, _ => none
def recF (l : List Fp) (b n : Nat) : Option (List Fp) := if ofF l b n = 0 then none else partF l b n (ofF l b n) (ofF l b n)
theorem partF_none {l : List Fp} {b n o : Nat} : ∀ {k j : Nat}, k ≤ j → partF l b n o k = none → partF l b n o j = none := by
 intro k j hk h
 induction j with
 | zero => have : k = 0 := by omega
           subst this; exact h
 | succ j ih =>
   by_cases e : k = j + 1
   ·subst e; exact h
   ·rw [partF, ih (by omega)]
def txtF (ps : List Fp) : Bs := (ps.map Fp.text).flatten
def inF (ps : List Fp) (j : Nat) : Bool := ps.any fun f => f.blk == j
def endF (ps : List Fp) : Nat := (ps.getLast?.map Fp.blk).getD 0
theorem txtF_snoc (ps : List Fp) (f : Fp) : txtF (ps ++ [f]) = txtF ps ++ f.text := by simp [txtF]
theorem inF_snoc (ps : List Fp) (f : Fp) (j : Nat) : inF (ps ++ [f]) j = (j == f.blk || inF ps j) := by
 simp [inF, Bool.or_comm, BEq.comm (a := f.blk)]
theorem endF_snoc (ps : List Fp) (f : Fp) : endF (ps ++ [f]) = f.blk := by simp [endF]
def fpR (b n : Nat) (t : Bs) (k i : Nat) : Fp := ⟨b, n, k, pagesN t.length, (t.drop (k * 51)).take 51 ++ List.replicate (51 - ((t.drop (k * 51)).take 51).length) 0, i⟩
theorem partF_whole {l : List Fp} {b n : Nat} {t : Bs} {blk : Nat → Nat} (h : ∀ k, k < pagesN t.length → lookF l b n k = some (fpR b n t k (blk k))) : ∀ k, k ≤ pagesN t.length → partF l b n (pagesN t.length) k = some ((List.range k).map fun j => fpR b n t j (blk j))
 | 0, _ => rfl
 | k + 1, hk => by
   rw [partF, partF_whole h k (by omega), h k (by omega), List.range_succ]
   simp [fpR]
theorem recF_whole {l : List Fp} {b n : Nat} {t : Bs} {blk : Nat → Nat} (h0 : 0 < t.length) (h : ∀ k, k < pagesN t.length → lookF l b n k = some (fpR b n t k (blk k))) : recF l b n = some ((List.range (pagesN t.length)).map fun j => fpR b n t j (blk j)) := by
 have hp : 0 < pagesN t.length := by unfold pagesN; omega
 have ho : ofF l b n = pagesN t.length := by
  unfold ofF
  rw [h 0 hp]
  rfl
 unfold recF
 rw [ho, if_neg (by omega)]
 exact partF_whole h _ (Nat.le_refl _)
theorem txtF_whole (b n : Nat) (t : Bs) (blk : Nat → Nat) : ∃ z, txtF ((List.range (pagesN t.length)).map fun j => fpR b n t j (blk j)) = t ++ z := by
 obtain ⟨z, hz⟩ := join_all t
 refine ⟨z, ?_⟩
 rw [← hz]
 unfold txtF
 rw [List.map_map]
 rfl
end Go.Nt
namespace Go.Proofs.YtodmdkhdbfbfgaaGreatDoor.S1
open Go.RowKit Pk
set_option linter.unusedVariables false
theorem law3 : Maps.Keyed Tryz.prog 3 := Maps.int_keyed Tryz.underlying3
theorem key3 {i : Nat} (h : i ≤ 1000000) : keyOf Tryz.prog 3 (.int .i64 (i : Nat)) = some (.int .i64 (i : Nat)) := Maps.keyOf_int_mk Tryz.underlying3 (by simp [Lit.wf, IntKind.min, IntKind.max, IntKind.signed, IntKind.bits]; omega)
theorem zero164 (w : World) : (zeroValue 243).run Tryz.prog w = .ok (.agg #[]) w := by kernel_rfl
def BlAt (w : World) (b : Nat) (n : Nat) (S : Nat → Bool) : Prop :=
 ∃ D : DataW Unit, w.ownsMap Tryz.prog 3 unitElem b n D ∧ ∀ i : Nat, Maps.has D (.int .i64 (i : Nat)) = S i
def BlV (w : World) (v : Option Nat) (n : Nat) (S : Nat → Bool) : Prop := (v = none ∧ ∀ i, S i = false) ∨ ∃ b, v = some b ∧ BlAt w b n S
theorem BlAt.lt {w : World} {b n : Nat} {S : Nat → Bool} (h : BlAt w b n S) : b < w.heap.size := by obtain ⟨D, h, _⟩ := h; exact h.lt
theorem BlAt.of_block {w w' : World} {b n : Nat} {S : Nat → Bool} (h : BlAt w b n S) (hb : w'.heap[b]? = w.heap[b]?) : BlAt w' b n S := by
 obtain ⟨D, ⟨es, clock, h1, h2⟩, hh⟩ := h
 exact ⟨D, ⟨es, clock, hb.trans h1, h2⟩, hh⟩
theorem BlAt.mono {w : World} {b n n' : Nat} {S : Nat → Bool} (h : BlAt w b n S) (hn : n ≤ n') : BlAt w b n' S := by
 obtain ⟨D, h1, hh⟩ := h
 exact ⟨D, h1.mono hn, hh⟩
theorem BlAt.congr {w : World} {b n : Nat} {S T : Nat → Bool} (h : BlAt w b n S) (e : ∀ i, S i = T i) : BlAt w b n T := by
 obtain ⟨D, h1, hh⟩ := h
 exact ⟨D, h1, fun i => (hh i).trans (e i)⟩
theorem made_bl (w : World) : BlAt (w.alloc (.map #[] 0)) w.heap.size 0 (fun _ => false) := ⟨.map [], World.ownsMap_made w _ _ _, fun i => rfl⟩
theorem BlAt.look {w : World} {b n : Nat} {S : Nat → Bool} (h : BlAt w b n S) {i : Nat} (hi : i ≤ 1000000) : (Instr.lookup 92 (.map (some b)) (.int .i64 (i : Nat)) true).run Tryz.prog w = .ok (.tuple #[.agg #[], .bool (S i)]) w := by
 obtain ⟨D, ho, hh⟩ := h
 obtain ⟨v, ps, h1, h2⟩ := ho.look_ok law3 Tryz.underlying92 (zero164 w) unitElem_mk (key3 hi)
 rw [hh i, (unitElem_inv h2).1] at h1
 exact h1
theorem look_nil89 (w : World) {i : Nat} (hi : i ≤ 1000000) : (Instr.lookup 92 (.map none) (.int .i64 (i : Nat)) true).run Tryz.prog w = .ok (.tuple #[.agg #[], .bool false]) w := by
 have := Maps.look_nil (w := w) true law3 Tryz.underlying92 (zero164 w) (key3 hi)
 simpa using this
theorem BlV.look {w : World} {v : Option Nat} {n : Nat} {S : Nat → Bool} (h : BlV w v n S) {i : Nat} (hi : i ≤ 1000000) : (Instr.lookup 92 (.map v) (.int .i64 (i : Nat)) true).run Tryz.prog w = .ok (.tuple #[.agg #[], .bool (S i)]) w := by
 rcases h with ⟨rfl, h⟩ | ⟨b, rfl, h⟩
 ·rw [h i]; exact look_nil89 w hi
 ·exact h.look hi
theorem int_ne {i j : Nat} (h : i ≠ j) : Lit.int .i64 (i : Nat) ≠ .int .i64 (j : Nat) := fun e => h (by cases e; rfl)
theorem BlAt.store {w : World} {b n : Nat} {S : Nat → Bool} (h : BlAt w b n S) {i : Nat} (hi : i ≤ 1000000) (hn : n ≤ 1000000) :
 ∃ w', (Instr.mapUpdate 92 (.map (some b)) (.int .i64 (i : Nat)) (.agg #[])).run Tryz.prog w = .ok () w' ∧ BlAt w' b (n + 1) (fun j => j == i || S j) ∧ w.mapTurned w' b := by
 obtain ⟨D, ho, hh⟩ := h
 obtain ⟨w', h1, h2, h3⟩ := ho.store law3 Tryz.underlying92 (by unfold maxLen; omega) (key3 hi) unitElem_mk
 refine ⟨w', h1, ⟨_, h2, fun j => ?_⟩, h3⟩
 by_cases e : j = i
 ·subst e
  rw [Maps.has_put_same ho.isMap (k := .int .i64 (j : Nat)) trivial]
  simp
 ·rw [Maps.has_put_other (int_ne e), hh j]
  simp [e]
theorem BlAt.drop {w : World} {b n : Nat} {S : Nat → Bool} (h : BlAt w b n S) {i : Nat} (hi : i ≤ 1000000) (ty : TypeId) :
 ∃ w', (Builtin.delete_ #[92, 3] ty #[.map (some b), .int .i64 (i : Nat)]).run Tryz.prog w = .ok (.tuple #[]) w' ∧ BlAt w' b n (fun j => !(j == i) && S j) ∧ w.mapTurned w' b := by
 obtain ⟨D, ho, hh⟩ := h
 obtain ⟨w', h1, h2, h3⟩ := ho.drop law3 Tryz.underlying92 (key3 hi) ty
 refine ⟨w', h1, ⟨_, h2, fun j => ?_⟩, h3⟩
 by_cases e : j = i
 ·subst e
  rw [Maps.has_del_same]
  simp
 ·rw [Maps.has_del_other (int_ne e), hh j]
  simp [e]
theorem bhas_any (v : Option Nat) (n i : Nat) (S : Nat → Bool) (w : World) (h : BlV w v n S) (hi : i ≤ 1000000) :
 Calls Tryz.prog 243 #[.map v, .int .i64 (i : Nat)] w fun e w' => e = .returned (.bool (S i)) ∧ Below w.heap.size w w' := by
 have hl := h.look hi
 clear h
 obtain ⟨r, hr⟩ : ∃ r, r = S i := ⟨_, rfl⟩
 rw [← hr] at hl ⊢
 clear hr
 go_enter Tryz.func243, Tryz.ntmps243
 go_wp2
 go_ret
 exact ⟨rfl, (Below.refl _ w).alloc (Nat.le_refl _) _⟩
theorem pagesOf_any (t : List UInt8) (w : World) (ht : t.length ≤ 1000000000) : Calls Tryz.prog 123 #[.string (txt t)] w fun e w' => e = .returned (.int .i64 (Go.Nt.pagesN t.length : Nat)) ∧ w' = w := by
 have hs : (txt t).size = t.length := txt_size t
 obtain ⟨X, hX⟩ : ∃ X, X = txt t := ⟨_, rfl⟩
 rw [← hX] at hs ⊢
 obtain ⟨n, hn⟩ : ∃ n, n = t.length := ⟨_, rfl⟩
 rw [← hn] at ht hs ⊢
 clear hX hn
 have e : ((n : Int) + 51 - 1).tdiv 51 = (Go.Nt.pagesN n : Nat) := by
  rw [Int.tdiv_eq_ediv_of_nonneg (by omega)]
  unfold Go.Nt.pagesN
  omega
 obtain ⟨q, hq⟩ : ∃ q, q = Go.Nt.pagesN n := ⟨_, rfl⟩
 rw [← hq] at e ⊢
 have hX9 : X.size ≤ 1000000000 := by omega
 have Hs := hidI hs
 have He := hidI e
 clear hs hq e
 go_enter Tryz.func123, Tryz.ntmps123
 go_wp2
 go_ret
 refine ⟨ret_int ?_, rfl⟩
 have h1 := Hs.out
 have h2 := He.out
 rw [← h1] at h2
 rw [← h2]
 first | rfl | (rw [Int.tdiv_eq_ediv_of_nonneg (by omega)])
def badN (m : M) : Nat := (List.range m.nb).countP fun i => m.bd i
theorem badN_le (m : M) : badN m ≤ m.nb := by
 have := List.countP_le_length (p := fun i => m.bd i) (l := List.range m.nb)
 simpa [badN] using this
def good (m : M) : Nat := m.nb - badN m
theorem good_le (m : M) : good m ≤ m.nb := Nat.sub_le _ _
def roomP (m : M) : Nat := good m / 2 * m.np
theorem badB_nat (m : M) {i : Nat} (h : i < m.nb) : badB m (i : Nat) = m.bd i := by
 unfold badB hasB
 simp [h]
theorem badBlocks_any (w : World) (lo hi cb : Nat) (L : Loc) (m : M) (hw : WF m) (h : CP w lo hi cb L m) :
 Calls Tryz.prog 189 #[.pointer (some ⟨cb, 0, none⟩)] w fun e w' => e = .returned (.int .i64 (badN m : Nat)) ∧ w' = w := by
 have HB := hidI (blocks_any w lo hi cb L m h)
 have HD := hidI (fun i (hi' : i < m.nb) => by have := bad_any w lo hi cb L m (i : Nat) h; rw [badB_nat m hi'] at this; exact this)
 have h1 := hw.nb2
 clear h hw
 go_enter Tryz.func189, Tryz.ntmps189
 go_wp2_with fail
 refine HB.out.mono ?_
 rintro e w' ⟨rfl, hw⟩
 have hw' := hw.symm
 subst hw'
 clear hw
 go_wp2_with fail
 go_loopw [3, 7] (fun g i wr => wr = w ∧ ∃ k c : Nat, k ≤ m.nb ∧ i = .int .i64 k ∧ g = .int .i64 c ∧ c ≤ k ∧ Hid (c = (List.range k).countP fun i => m.bd i)) (fun _ i _ => m.nb - (intOf i).toNat)
 case atStart => exact ⟨rfl, 0, 0, Nat.zero_le _, rfl, rfl, Nat.le_refl _, hidI rfl⟩
 case round =>
  obtain ⟨rfl, k, c, hk, rfl, rfl, hc, Hc⟩ := hrel
  by_cases hlt : k < m.nb
  ·have A := hidI (HD.out k hlt)
   have Hn : Hid ((List.range (k + 1)).countP (fun i => m.bd i) = c + if m.bd k then 1 else 0) := hidI (by
    rw [List.range_succ, List.countP_append, ← Hc.out]
    cases hbk : m.bd k <;> simp [hbk])
   obtain ⟨b, hb⟩ : ∃ b, b = m.bd k := ⟨_, rfl⟩
   rw [← hb] at A Hn
   clear hb
   cases b with
   | true =>
     go_wp2_with (go_at_call 94; refine A.out.mono ?_; rintro e w' ⟨rfl, hw⟩; have hw' := hw.symm; subst hw'; clear hw)
     go_roundw
     case rel => exact ⟨trivial, k + 1, c + 1, by omega, by go_num, by go_num, by omega, hidI (by rw [Hn.out]; simp)⟩
     case measure => simp [intOf]; omega
   | false =>
     go_wp2_with (go_at_call 94; refine A.out.mono ?_; rintro e w' ⟨rfl, hw⟩; have hw' := hw.symm; subst hw'; clear hw)
     go_roundw
     case rel => exact ⟨trivial, k + 1, c, by omega, by go_num, rfl, by omega, hidI (by rw [Hn.out]; simp)⟩
     case measure => simp [intOf]; omega
  ·have hkn : k = m.nb := by omega
   subst hkn
   go_wp2
   go_ret
   have hbn : badN m = c := by have h9 := Hc.out; unfold badN; exact h9.symm
   exact ⟨by rw [hbn]; rfl, rfl⟩
theorem room_any (w : World) (lo hi cb : Nat) (L : Loc) (m : M) (hw : WF m) (h : CP w lo hi cb L m) :
 Calls Tryz.prog 124 #[.pointer (some ⟨cb, 0, none⟩)] w fun e w' => e = .returned (.int .i64 (roomP m : Nat)) ∧ w' = w := by
 have HB := hidI (blocks_any w lo hi cb L m h)
 have HP := hidI (pages_any w lo hi cb L m h)
 have HD := hidI (badBlocks_any w lo hi cb L m hw h)
 have h1 := hw.nb2
 have h2 := hw.np2
 have h3 := badN_le m
 obtain ⟨bn, hbn⟩ : ∃ bn, bn = badN m := ⟨_, rfl⟩
 rw [← hbn] at HD h3
 obtain ⟨nb, hnb⟩ : ∃ nb, nb = m.nb := ⟨_, rfl⟩
 rw [← hnb] at HB h1 h3
 obtain ⟨np, hnp⟩ : ∃ np, np = m.np := ⟨_, rfl⟩
 rw [← hnp] at HP h2
 have HR : Hid (roomP m = (nb - bn) / 2 * np) := hidI (by unfold roomP good; rw [hbn, hnb, hnp])
 have e2 : ((nb : Int) - (bn : Int)).tdiv 2 = (((nb - bn) / 2 : Nat) : Int) := by rw [Int.tdiv_eq_ediv_of_nonneg (by omega)]; omega
 obtain ⟨q, hq⟩ : ∃ q, q = (nb - bn) / 2 := ⟨_, rfl⟩
 have hq9 : q ≤ 16 := by omega
 have e3 : ((nb : Int) - (bn : Int)) / 2 = (q : Nat) := by omega
 rw [← hq] at e2 HR
 have hmul : q * np ≤ 256 := Nat.mul_le_mul hq9 h2
 clear h hw hbn hnb hnp hq
 go_enter Tryz.func124, Tryz.ntmps124
 go_wp2_with (first | (go_at_call 76; refine HB.out.mono ?_; rintro e w' ⟨rfl, hw⟩; have hw' := hw.symm; subst hw'; clear hw) | (go_at_call 77; refine HP.out.mono ?_; rintro e w' ⟨rfl, hw⟩; have hw' := hw.symm; subst hw'; clear hw) | (go_at_call 189; refine HD.out.mono ?_; rintro e w' ⟨rfl, hw⟩; have hw' := hw.symm; subst hw'; clear hw))
 go_ret
 exact ⟨by rw [HR.out]; simp, rfl⟩
theorem badd_any (b n i : Nat) (S : Nat → Bool) (w : World) (h : BlAt w b n S) (hi : i ≤ 1000000) (hn : n ≤ 1000000) :
 Calls Tryz.prog 126 #[.map (some b), .int .i64 (i : Nat)] w fun e w' => e = .returned (.tuple #[]) ∧ BlAt w' b (n + 1) (fun j => j == i || S j) ∧ w.mapTurned w' b := by
 obtain ⟨V, hu, hS, hm⟩ := h.store hi hn
 have HS := hidI hS
 have HM := hidI hm
 clear h hS hm
 go_enter Tryz.func126, Tryz.ntmps126
 go_wp2
 go_end0
 exact ⟨rfl, HS.out, HM.out⟩
end Go.Proofs.YtodmdkhdbfbfgaaGreatDoor.S1
namespace Go.Proofs.YtodmdkhdbfbfgaaGreatDoor.S1
open Go.RowKit Pk
set_option linter.unusedVariables false
structure Fm (S : Nat → Prop) (w w' : World) : Prop where
 os : w'.os = w.os
 tape : w'.tape = w.tape
 output : w'.output = w.output
 size : w.heap.size ≤ w'.heap.size
 block : ∀ k, k < w.heap.size → ¬ S k → w'.heap[k]? = w.heap[k]?
namespace Fm
variable {S T : Nat → Prop} {a b c : World}
theorem refl (S : Nat → Prop) (w : World) : Fm S w w := ⟨rfl, rfl, rfl, Nat.le_refl _, fun _ _ _ => rfl⟩
theorem trans (h : Fm S a b) (k : Fm S b c) : Fm S a c :=
 ⟨k.os.trans h.os, k.tape.trans h.tape, k.output.trans h.output, Nat.le_trans h.size k.size, fun i hi hn => (k.block i (Nat.lt_of_lt_of_le hi h.size) hn).trans (h.block i hi hn)⟩
theorem mono (h : Fm S a b) (e : ∀ k, k < a.heap.size → S k → T k) : Fm T a b := ⟨h.os, h.tape, h.output, h.size, fun k hk hn => h.block k hk (fun hs => hn (e k hk hs))⟩
theorem of_below {B : Nat} (h : Below B a b) (hB : ∀ k, B ≤ k → k < a.heap.size → S k) : Fm S a b :=
 ⟨h.os, h.tape, h.output, h.size, fun k hk hn => h.block k (by
  rcases Nat.lt_or_ge k B with h1 | h1
  ·exact h1
  ·exact absurd (hB k h1 hk) hn)⟩
theorem of_new (h : Below a.heap.size a b) : Fm S a b := of_below h fun k h1 h2 => absurd h1 (by omega)
theorem of_only {lo hi : Nat} (h : Only lo hi a b) (e : ∀ k, lo ≤ k → k < hi → S k) : Fm S a b :=
 ⟨h.os, h.tape, h.output, h.size, fun k hk hn => h.block k hk (fun hs => hn (e k hs.1 hs.2))⟩
theorem only {lo hi : Nat} (h : Fm S a b) (e : ∀ k, k < a.heap.size → S k → lo ≤ k ∧ k < hi) : Only lo hi a b :=
 ⟨h.os, h.tape, h.output, h.size, fun k hk hn => h.block k hk (fun hs => hn (e k hk hs))⟩
theorem below {B : Nat} (h : Fm S a b) (e : ∀ k, S k → B ≤ k) (hB : B ≤ a.heap.size) : Below B a b :=
 ⟨h.os, h.tape, h.output, h.size, fun k hk => h.block k (by omega) (fun hs => by have := e k hs; omega)⟩
theorem drew (h : Fm S a b) : Fm S a b.drew := h.trans ⟨rfl, rfl, rfl, Nat.le_refl _, fun _ _ _ => rfl⟩
theorem alloc (h : Fm S a b) (o : Obj) : Fm S a (b.alloc o) := h.trans ⟨rfl, rfl, rfl, by simp, fun k hk _ => Below.heap_alloc b o k hk⟩
theorem set (h : Fm S a b) {g : Nat} (hg : g < a.heap.size → S g) (o : Nat) (v : Value) : Fm S a (b.setCell ⟨g, o, none⟩ v) :=
 ⟨h.os, h.tape, h.output, by have := h.size; simpa using this, fun k hk hn => (Below.heap_setCell b ⟨g, o, none⟩ v k (fun e => hn (by have e' : k = g := e; subst e'; exact hg hk))).trans (h.block k hk hn)⟩
theorem map (h : Fm S a b) {g : Nat} (hg : g < a.heap.size → S g) (hm : b.mapTurned c g) : Fm S a c :=
 ⟨hm.grown.os.trans h.os, hm.grown.tape.trans h.tape, hm.grown.output.trans h.output, Nat.le_trans h.size hm.grown.size, fun k hk hn => (hm.grown.block k (Nat.lt_of_lt_of_le hk h.size) (fun e => by cases e; exact hn (hg hk))).trans (h.block k hk hn)⟩
end Fm
theorem make92 (w : World) : (Instr.makeMap 92 none).run Tryz.prog w = .ok (.map (some w.heap.size)) (w.alloc (.map #[] 0)) := by
 simp [Instr.makeMap, Result.andThen]
def mayE (m : M) (n : Nat) : Int := if m.life = 0 then 10 else if roomP m < Go.Nt.pagesN n then 9 else 0
theorem may_any (w : World) (lo hi cb : Nat) (L : Loc) (m : M) (t : List UInt8) (hw : WF m) (h : CP w lo hi cb L m) (ht : t.length ≤ 1000000000) :
 Calls Tryz.prog 74 #[.pointer (some ⟨cb, 0, none⟩), .string (txt t)] w fun e w' => e = .returned (.int .i64 (mayE m t.length)) ∧ w' = w := by
 have HD := hidI (dead_any w lo hi cb L m h)
 have HP := hidI (pagesOf_any t w ht)
 have HR := hidI (room_any w lo hi cb L m hw h)
 obtain ⟨X, hX⟩ : ∃ X, X = txt t := ⟨_, rfl⟩
 rw [← hX] at HP ⊢
 by_cases h0 : m.life = 0
 ·have e : mayE m t.length = 10 := by unfold mayE; rw [if_pos h0]
  have hb : (m.life == 0) = true := beq_iff_eq.2 h0
  rw [e]
  rw [hb] at HD
  clear h hw hX e hb h0
  go_enter Tryz.func74, Tryz.ntmps74
  go_wp2_with (go_at_call 25; refine HD.out.mono ?_; rintro e w' ⟨rfl, hw⟩; have hw' := hw.symm; subst hw'; clear hw)
  go_ret
  exact ⟨rfl, rfl⟩
 ·have hb : (m.life == 0) = false := beq_eq_false_iff_ne.2 h0
  rw [hb] at HD
  have e : mayE m t.length = if roomP m < Go.Nt.pagesN t.length then 9 else 0 := by unfold mayE; rw [if_neg h0]
  rw [e]
  obtain ⟨p, hp⟩ : ∃ p, p = Go.Nt.pagesN t.length := ⟨_, rfl⟩
  obtain ⟨r, hr⟩ : ∃ r, r = roomP m := ⟨_, rfl⟩
  rw [← hp] at HP ⊢
  rw [← hr] at HR ⊢
  clear h hw hX e hb h0 hp hr
  by_cases hlt : r < p
  ·have hlt' : (r : Int) < (p : Int) := by omega
   rw [if_pos hlt]
   go_enter Tryz.func74, Tryz.ntmps74
   go_wp2_with (first | (go_at_call 25; refine HD.out.mono ?_; rintro e w' ⟨rfl, hw⟩; have hw' := hw.symm; subst hw'; clear hw) | (go_at_call 123; refine HP.out.mono ?_; rintro e w' ⟨rfl, hw⟩; have hw' := hw.symm; subst hw'; clear hw) | (go_at_call 124; refine HR.out.mono ?_; rintro e w' ⟨rfl, hw⟩; have hw' := hw.symm; subst hw'; clear hw))
   go_ret
   exact ⟨rfl, rfl⟩
  ·have hlt' : ¬ (r : Int) < (p : Int) := by omega
   rw [if_neg hlt]
   go_enter Tryz.func74, Tryz.ntmps74
   go_wp2_with (first | (go_at_call 25; refine HD.out.mono ?_; rintro e w' ⟨rfl, hw⟩; have hw' := hw.symm; subst hw'; clear hw) | (go_at_call 123; refine HP.out.mono ?_; rintro e w' ⟨rfl, hw⟩; have hw' := hw.symm; subst hw'; clear hw) | (go_at_call 124; refine HR.out.mono ?_; rintro e w' ⟨rfl, hw⟩; have hw' := hw.symm; subst hw'; clear hw))
   go_ret
   exact ⟨rfl, rfl⟩
theorem eraA_nb (m : M) (b : Int) : (eraA m b).2.nb = m.nb := by
 unfold eraA eraF
 repeat' split
 all_goals rfl
theorem eraA_np (m : M) (b : Int) : (eraA m b).2.np = m.np := by
 unfold eraA eraF
 repeat' split
 all_goals rfl
theorem progA_nb (m : M) (b p : Int) (s : List UInt8) : (progA m b p s).2.nb = m.nb := by
 unfold progA progF
 repeat' split
 all_goals rfl
theorem progA_np (m : M) (b p : Int) (s : List UInt8) : (progA m b p s).2.np = m.np := by
 unfold progA progF
 repeat' split
 all_goals rfl
def eraAll (m : M) : Nat → M × (Nat → Bool)
 | 0 => (m, fun _ => false)
 | k + 1 => ((eraA (eraAll m k).1 (k : Nat)).2, if (eraA (eraAll m k).1 (k : Nat)).1 then (fun j => j == k || (eraAll m k).2 j) else (eraAll m k).2)
theorem eraAll_nb (m : M) : ∀ k, (eraAll m k).1.nb = m.nb
 | 0 => rfl
 | k + 1 => by rw [eraAll]; exact (eraA_nb _ _).trans (eraAll_nb m k)
theorem eraAll_wf {m : M} (h : WF m) : ∀ k, WF (eraAll m k).1
 | 0 => h
 | k + 1 => by rw [eraAll]; exact eraA_wf (eraAll_wf h k) _
theorem erase_any (w : World) (lo hi cb : Nat) (L : Loc) (m : M) (hw : WF m) (h : CP w lo hi cb L m) (hsz : hi ≤ w.heap.size) :
 Calls Tryz.prog 75 #[.pointer (some ⟨cb, 0, none⟩)] w fun e w' => e = .returned (.map (some w.heap.size)) ∧ CP w' lo hi cb L (eraAll m m.nb).1 ∧ BlAt w' w.heap.size m.nb (eraAll m m.nb).2 ∧ Only lo hi w w' := by
 have h32 := hw.nb2
 obtain ⟨W0, hW0⟩ : ∃ W0, W0 = w.alloc (.map #[] 0) := ⟨_, rfl⟩
 have hbW : Below w.heap.size w W0 := by rw [hW0]; exact (Below.refl _ w).alloc (Nat.le_refl _) _
 have hC0 : CP W0 lo hi cb L m := MemX.below h hsz hbW
 have hS0 : BlAt W0 w.heap.size 0 (fun _ => false) := by rw [hW0]; exact made_bl w
 have HBl := hidI (blocks_any W0 lo hi cb L m hC0)
 have HC0 := hidI hC0
 have HS0 := hidI hS0
 have HO0 : Hid (Only lo hi w W0) := hidI (Only.of_below hbW)
 have HW0 := hidI hW0
 have HW := hidI hw
 have hmk := make92 w
 rw [← hW0] at hmk
 obtain ⟨g, hg⟩ : ∃ g, g = w.heap.size := ⟨_, rfl⟩
 rw [← hg] at HS0 hsz hmk ⊢
 have Hg := hidI hg
 obtain ⟨nb, hnb⟩ : ∃ nb, nb = m.nb := ⟨_, rfl⟩
 rw [← hnb] at HBl h32 ⊢
 have Hnb := hidI hnb
 clear h hw hbW hC0 hS0 hW0 hnb hg
 go_enter Tryz.func75, Tryz.ntmps75
 go_wp2_with fail
 refine HBl.out.mono ?_
 rintro e w' ⟨rfl, hw⟩
 have hw' := hw.symm
 subst hw'
 clear hw
 go_wp2_with fail
 go_loopw [8] (fun i wr => ∃ k : Nat, k ≤ nb ∧ i = .int .i64 k ∧ Hid (CP wr lo hi cb L (eraAll m k).1) ∧ Hid (BlAt wr g k (eraAll m k).2) ∧ Hid (Only lo hi w wr)) (fun i _ => nb - (intOf i).toNat)
 case atStart => exact ⟨0, Nat.zero_le _, rfl, HC0, HS0, HO0⟩
 case round =>
  clear HC0 HS0 HO0 HW0 HBl
  obtain ⟨k, hk, rfl, HC, HS, HO⟩ := hrel
  have hgs : g < wr.heap.size := HS.out.lt
  by_cases hlt : k < nb
  ·have A := hidI (era_any wr lo hi cb L (eraAll m k).1 (k : Nat) (eraAll_wf HW.out k) HC.out (by omega))
   obtain ⟨r, hr⟩ : ∃ r, r = (eraA (eraAll m k).1 (k : Nat)).1 := ⟨_, rfl⟩
   have Hst : Hid (eraAll m (k + 1) = ((eraA (eraAll m k).1 (k : Nat)).2, if r then (fun j => j == k || (eraAll m k).2 j) else (eraAll m k).2)) := hidI (by rw [hr]; rfl)
   rw [← hr] at A
   clear hr
   go_wp2_with fail
   refine A.out.mono ?_
   rintro e w1 ⟨rfl, hC1, hO1⟩
   have hS1 : BlAt w1 g k (eraAll m k).2 := HS.out.of_block (hO1.block g hgs (by omega))
   have HC1 : Hid (CP w1 lo hi cb L (eraAll m (k + 1)).1) := hidI (by rw [Hst.out]; exact hC1)
   have HO1 := hidI (HO.out.trans hO1)
   have hgs1 := Nat.lt_of_lt_of_le hgs hO1.size
   have HS1 := hidI hS1
   clear A hC1 hO1 HC HS HO hS1
   cases r with
   | true =>
     have A2 := hidI (badd_any g k k _ w1 HS1.out (by omega) (by omega))
     go_wp2_with fail
     refine A2.out.mono ?_
     rintro e V ⟨rfl, hSV, hmV⟩
     have HCV : Hid (CP V lo hi cb L (eraAll m (k + 1)).1) := hidI (MemX.of_blocks HC1.out fun j _ h2 => hmV.grown.block j (by omega) (fun e => by cases e; omega))
     have HSV : Hid (BlAt V g (k + 1) (eraAll m (k + 1)).2) := hidI (by rw [Hst.out]; exact hSV)
     have HOV : Hid (Only lo hi w V) := hidI ⟨hmV.grown.os.trans HO1.out.os, hmV.grown.tape.trans HO1.out.tape, hmV.grown.output.trans HO1.out.output, Nat.le_trans HO1.out.size hmV.grown.size, fun j hj hn => (hmV.grown.block j (Nat.lt_of_lt_of_le hj HO1.out.size) (fun e => by cases e; have := Hg.out; omega)).trans (HO1.out.block j hj hn)⟩
     clear hSV hmV HS1 HC1 HO1 A2
     go_wp2
     go_roundw
     case rel => exact ⟨k + 1, by omega, by go_num, HCV, HSV, HOV⟩
     case measure => simp [intOf]; omega
   | false =>
     have HSV : Hid (BlAt w1 g (k + 1) (eraAll m (k + 1)).2) := hidI (by rw [Hst.out]; exact HS1.out.mono (by omega))
     go_wp2
     go_roundw
     case rel => exact ⟨k + 1, by omega, by go_num, HC1, HSV, HO1⟩
     case measure => simp [intOf]; omega
  ·have hkn : k = nb := by omega
   subst hkn
   go_wp2
   go_ret
   exact ⟨rfl, HC.out, HS.out, HO.out⟩
end Go.Proofs.YtodmdkhdbfbfgaaGreatDoor.S1
