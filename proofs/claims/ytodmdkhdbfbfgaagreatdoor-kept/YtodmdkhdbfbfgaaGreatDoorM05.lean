/- Lemmas and contracts for kept. -/
import Derived.Test.YtodmdkhdbfbfgaaGreatDoorProg
import Derived.WalkKit
import Derived.WalkSpells
import Derived.WalkLawsBesides
import Derived.Deep.QuietTactic
import Derived.BigQuiet
import Derived.Outline
import Derived.Deep.OwnRows
import Derived.Laws.BytesArg
import Derived.Laws.BitsLemmas
import Derived.Lib.Strings
import Derived.Lib.AppendStr
import Derived.Test.YtodmdkhdbfbfgaaGreatDoorM04
import Derived.Test.YtodmdkhdbfbfgaaGreatDoorM01
set_option maxRecDepth 100000
set_option maxHeartbeats 8000000
namespace Go.Proofs.YtodmdkhdbfbfgaaGreatDoor.S1.Pk
set_option linter.unusedVariables false
def valF (f : Nat → Nat) : Nat → Nat
 | 0 => 0
 | d + 1 => 2 * valF f d + f d
def bt (s : List UInt8) (i : Nat) : Nat := (s.getD (i / 8) 0).toNat / 2 ^ (7 - i % 8) % 2
def val (s : List UInt8) (p d : Nat) : Nat := valF (fun i => bt s (p + i)) d
theorem bt_lt (s : List UInt8) (i : Nat) : bt s i < 2 := Nat.mod_lt _ (by omega)
theorem valF_lt (f : Nat → Nat) (hf : ∀ i, f i < 2) (d : Nat) : valF f d < 2 ^ d := by
 induction d with
 | zero => simp [valF]
 | succ d ih => have := hf d; simp only [valF, Nat.pow_succ]; omega
theorem val_lt (s : List UInt8) (p d : Nat) : val s p d < 2 ^ d := valF_lt _ (fun i => bt_lt s _) d
theorem val_zero (s : List UInt8) (p : Nat) : val s p 0 = 0 := rfl
theorem val_succ (s : List UInt8) (p d : Nat) : val s p (d + 1) = 2 * val s p d + bt s (p + d) := rfl
theorem val_one (s : List UInt8) (p : Nat) : val s p 1 = bt s p := by simp [val, valF]
theorem val_shift (s : List UInt8) (p d e : Nat) : val s p (d + e) / 2 ^ e = val s p d := by
 induction e with
 | zero => simp
 | succ e ih =>
   rw [← Nat.add_assoc, val_succ, Nat.pow_succ, Nat.mul_comm (2 ^ e) 2, ← Nat.div_div_eq_div_mul]
   have := bt_lt s (p + (d + e))
   rw [show (2 * val s p (d + e) + bt s (p + (d + e))) / 2 = val s p (d + e) by omega, ih]
def upd (z : Nat → Int) (p : Nat) (x : Int) : Nat → Int := fun j => if j = p then x else z j
def lensF (s : List UInt8) : Nat → Nat → Nat → (Nat → Int) → Option ((Nat → Int) × Nat)
 | 0, p, pos, z => if p = 288 then some (z, pos) else none
 | f + 1, p, pos, z =>
   if p = 288 then some (z, pos)
   else if 8 * s.length < pos + 4 then none
   else if val s pos 4 ≠ 0 then lensF s f (p + 1) (pos + 4) (upd z p (val s pos 4))
   else if 8 * s.length < pos + 9 then none
   else if 288 < p + 1 + val s (pos + 4) 5 then none
   else lensF s f (p + 1 + val s (pos + 4) 5) (pos + 9) z
theorem lensF_done (s : List UInt8) (f pos : Nat) (z : Nat → Int) : lensF s f 288 pos z = some (z, pos) := by
 cases f <;> simp [lensF]
theorem lensF_short (s : List UInt8) (f p pos : Nat) (z : Nat → Int) (hp : p < 288) (hf : 288 ≤ p + f) (h : 8 * s.length < pos + 4) : lensF s f p pos z = none := by
 cases f with
 | zero => omega
 | succ f => rw [lensF, if_neg (by omega), if_pos h]
theorem lensF_one (s : List UInt8) (f p pos : Nat) (z : Nat → Int) (hp : p < 288) (h : ¬ 8 * s.length < pos + 4) (hv : val s pos 4 ≠ 0) :
 lensF s (f + 1) p pos z = lensF s f (p + 1) (pos + 4) (upd z p (val s pos 4)) := by
 rw [lensF, if_neg (by omega), if_neg h, if_pos hv]
theorem lensF_short2 (s : List UInt8) (f p pos : Nat) (z : Nat → Int) (hp : p < 288) (h : ¬ 8 * s.length < pos + 4) (hv : val s pos 4 = 0) (h2 : 8 * s.length < pos + 9) :
 lensF s (f + 1) p pos z = none := by
 rw [lensF, if_neg (by omega), if_neg h, if_neg (by omega), if_pos h2]
theorem lensF_over (s : List UInt8) (f p pos : Nat) (z : Nat → Int) (hp : p < 288) (h : ¬ 8 * s.length < pos + 4) (hv : val s pos 4 = 0) (h2 : ¬ 8 * s.length < pos + 9) (h3 : 288 < p + 1 + val s (pos + 4) 5) :
 lensF s (f + 1) p pos z = none := by
 rw [lensF, if_neg (by omega), if_neg h, if_neg (by omega), if_neg h2, if_pos h3]
theorem lensF_run (s : List UInt8) (f p pos : Nat) (z : Nat → Int) (hp : p < 288) (h : ¬ 8 * s.length < pos + 4) (hv : val s pos 4 = 0) (h2 : ¬ 8 * s.length < pos + 9) (h3 : ¬ 288 < p + 1 + val s (pos + 4) 5) :
 lensF s (f + 1) p pos z = lensF s f (p + 1 + val s (pos + 4) 5) (pos + 9) z := by
 rw [lensF, if_neg (by omega), if_neg h, if_neg (by omega), if_neg h2, if_neg h3]
def hit (s : List UInt8) (z : Nat → Int) (pos i : Nat) : Bool :=
 decide (1 ≤ z i) && (decide (pos + (z i).toNat ≤ 8 * s.length) && decide (num z 288 i = val s pos (z i).toNat))
theorem hit_iff (s : List UInt8) (z : Nat → Int) (pos i : Nat) : hit s z pos i = true ↔ 1 ≤ z i ∧ pos + (z i).toNat ≤ 8 * s.length ∧ num z 288 i = val s pos (z i).toNat := by
 simp [hit, Bool.and_eq_true]
def symF (s : List UInt8) (z : Nat → Int) (pos : Nat) : Nat → Option Nat
 | 0 => none
 | n + 1 => match symF s z pos n with
   | some i => some i
   | none => if hit s z pos n then some n else none
theorem symF_none (s : List UInt8) (z : Nat → Int) (pos n : Nat) (h : ∀ i, i < n → hit s z pos i = false) : symF s z pos n = none := by
 induction n with
 | zero => rfl
 | succ n ih =>
   rw [symF, ih (fun i hi => h i (by omega))]
   simp [h n (by omega)]
theorem symF_some (s : List UInt8) (z : Nat → Int) (pos n i : Nat) (hi : i < n) (hh : hit s z pos i = true) (h : ∀ j, j < i → hit s z pos j = false) : symF s z pos n = some i := by
 induction n with
 | zero => omega
 | succ n ih =>
   by_cases e : i = n
   ·subst e
    rw [symF, symF_none s z pos i h]
    simp [hh]
   ·rw [symF, ih (by omega)]
theorem hit_unique (s : List UInt8) (z : Nat → Int) (pos i j : Nat) (hi : i < 288) (hj : j < 288) (h1 : hit s z pos i = true) (h2 : hit s z pos j = true) : i = j := by
 rw [hit_iff] at h1 h2
 by_cases e : i = j
 ·exact e
 ·exfalso
  rcases Int.le_total (z i) (z j) with hle | hle
  ·refine num_prefix z 288 i j hi hj e h1.1 hle ?_
   rw [h2.2.2, h1.2.2]
   have := val_shift s pos (z i).toNat ((z j).toNat - (z i).toNat)
   rw [show (z i).toNat + ((z j).toNat - (z i).toNat) = (z j).toNat by omega] at this
   exact this.symm
  ·refine num_prefix z 288 j i hj hi (fun h => e h.symm) h2.1 hle ?_
   rw [h2.2.2, h1.2.2]
   have := val_shift s pos (z j).toNat ((z i).toNat - (z j).toNat)
   rw [show (z j).toNat + ((z i).toNat - (z j).toNat) = (z i).toNat by omega] at this
   exact this.symm
theorem symF_hit (s : List UInt8) (z : Nat → Int) (pos i : Nat) (hi : i < 288) (hh : hit s z pos i = true) : symF s z pos 288 = some i := by
 refine symF_some s z pos 288 i hi hh fun j hj => ?_
 cases hb : hit s z pos j with
 | false => rfl
 | true => have := hit_unique s z pos i j hi (by omega) hh hb; omega
def cpy (out : List UInt8) (back : Nat) : Nat → List UInt8
 | 0 => out
 | k + 1 => cpy out back k ++ [(cpy out back k).getD ((cpy out back k).length - back) 0]
theorem cpy_length (out : List UInt8) (back k : Nat) : (cpy out back k).length = out.length + k := by
 induction k with
 | zero => rfl
 | succ k ih => simp [cpy, ih]; omega
def dataF (s : List UInt8) (z : Nat → Int) (N size : Nat) : Nat → List UInt8 → Nat → Option (List UInt8 × Nat)
 | 0, out, pos => if size ≤ out.length then some (out, pos) else none
 | f + 1, out, pos =>
   if size ≤ out.length then some (out, pos)
   else match symF s z pos N with
    | none => none
    | some i =>
      if i < 256 then dataF s z N size f (out ++ [UInt8.ofNat i]) (pos + (z i).toNat)
      else if 8 * s.length < pos + (z i).toNat + 12 then none
      else if out.length < val s (pos + (z i).toNat) 12 + 1 ∨ size < out.length + (i - 253) then none
      else dataF s z N size f (cpy out (val s (pos + (z i).toNat) 12 + 1) (i - 253)) (pos + (z i).toNat + 12)
theorem dataF_done (s : List UInt8) (z : Nat → Int) (N size f : Nat) (out : List UInt8) (pos : Nat) (h : size ≤ out.length) : dataF s z N size f out pos = some (out, pos) := by
 cases f <;> simp [dataF, h]
theorem dataF_nosym (s : List UInt8) (z : Nat → Int) (N size f : Nat) (out : List UInt8) (pos : Nat) (h : out.length < size) (hs : symF s z pos N = none) : dataF s z N size f out pos = none := by
 cases f with
 | zero => rw [dataF, if_neg (by omega)]
 | succ f => rw [dataF, if_neg (by omega), hs]
theorem dataF_byte (s : List UInt8) (z : Nat → Int) (N size f : Nat) (out : List UInt8) (pos i : Nat) (h : out.length < size) (hs : symF s z pos N = some i) (hi : i < 256) :
 dataF s z N size (f + 1) out pos = dataF s z N size f (out ++ [UInt8.ofNat i]) (pos + (z i).toNat) := by
 rw [dataF, if_neg (by omega), hs]; simp [hi]
theorem dataF_short (s : List UInt8) (z : Nat → Int) (N size f : Nat) (out : List UInt8) (pos i : Nat) (h : out.length < size) (hs : symF s z pos N = some i) (hi : ¬ i < 256) (h2 : 8 * s.length < pos + (z i).toNat + 12) :
 dataF s z N size (f + 1) out pos = none := by
 rw [dataF, if_neg (by omega), hs]; simp [hi, h2]
theorem dataF_far (s : List UInt8) (z : Nat → Int) (N size f : Nat) (out : List UInt8) (pos i : Nat) (h : out.length < size) (hs : symF s z pos N = some i) (hi : ¬ i < 256) (h2 : ¬ 8 * s.length < pos + (z i).toNat + 12)
 (h3 : out.length < val s (pos + (z i).toNat) 12 + 1 ∨ size < out.length + (i - 253)) : dataF s z N size (f + 1) out pos = none := by
 rw [dataF, if_neg (by omega), hs]; simp only [if_neg hi, if_neg h2, if_pos h3]
theorem dataF_copy (s : List UInt8) (z : Nat → Int) (N size f : Nat) (out : List UInt8) (pos i : Nat) (h : out.length < size) (hs : symF s z pos N = some i) (hi : ¬ i < 256) (h2 : ¬ 8 * s.length < pos + (z i).toNat + 12)
 (h3 : ¬ (out.length < val s (pos + (z i).toNat) 12 + 1 ∨ size < out.length + (i - 253))) :
 dataF s z N size (f + 1) out pos = dataF s z N size f (cpy out (val s (pos + (z i).toNat) 12 + 1) (i - 253)) (pos + (z i).toNat + 12) := by
 rw [dataF, if_neg (by omega), hs]; simp only [if_neg hi, if_neg h2, if_neg h3]
def rngB (z : Nat → Int) : Nat → Bool
 | 0 => true
 | n + 1 => rngB z n && decide (0 ≤ z n ∧ z n ≤ 12)
theorem rngB_iff (z : Nat → Int) (n : Nat) : rngB z n = true ↔ ∀ k, k < n → 0 ≤ z k ∧ z k ≤ 12 := by
 induction n with
 | zero => simp [rngB]
 | succ n ih =>
   rw [rngB, Bool.and_eq_true, ih]
   constructor
   ·intro ⟨h1, h2⟩ k hk
    by_cases e : k = n
    ·subst e; simpa using h2
    ·exact h1 k (by omega)
   ·intro h
    exact ⟨fun k hk => h k (by omega), by simpa using h n (by omega)⟩
def fitsB (z : Nat → Int) (n : Nat) : Bool := rngB z n && decide (sumTo z n ≤ 4096)
theorem fitsB_iff (z : Nat → Int) (n : Nat) : fitsB z n = true ↔ Fits z n := by
 rw [fitsB, Bool.and_eq_true, rngB_iff]
 constructor
 ·intro ⟨h1, h2⟩; exact ⟨h1, by simpa using h2⟩
 ·intro h; exact ⟨h.rng, by simpa using h.sum⟩
def bodyF (s : List UInt8) (N size : Nat) : Option (List UInt8) :=
 match lensF s N 0 0 (fun _ => 0) with
 | none => none
 | some (z, pos) =>
   if fitsB z N = false then none
   else match dataF s z N size size [] pos with
    | none => none
    | some (out, p) => if 8 * s.length - p < 8 ∧ val s p (8 * s.length - p) = 0 then some out else none
theorem bodyF_none (s : List UInt8) (N size : Nat) (h : lensF s N 0 0 (fun _ => 0) = none) : bodyF s N size = none := by
 unfold bodyF; rw [h]
theorem bodyF_unfit (s : List UInt8) (N size : Nat) (z : Nat → Int) (pos : Nat) (h : lensF s N 0 0 (fun _ => 0) = some (z, pos)) (hf : fitsB z N = false) : bodyF s N size = none := by
 unfold bodyF; rw [h]; simp [hf]
theorem bodyF_nodata (s : List UInt8) (N size : Nat) (z : Nat → Int) (pos : Nat) (h : lensF s N 0 0 (fun _ => 0) = some (z, pos)) (hf : fitsB z N = true) (hd : dataF s z N size size [] pos = none) : bodyF s N size = none := by
 unfold bodyF; rw [h]; simp [hf, hd]
theorem bodyF_data (s : List UInt8) (N size : Nat) (z : Nat → Int) (pos p : Nat) (out : List UInt8) (h : lensF s N 0 0 (fun _ => 0) = some (z, pos)) (hf : fitsB z N = true) (hd : dataF s z N size size [] pos = some (out, p)) :
 bodyF s N size = if 8 * s.length - p < 8 ∧ val s p (8 * s.length - p) = 0 then some out else none := by
 unfold bodyF; rw [h]; simp [hf, hd]
def unpF (N : Nat) (t : List UInt8) : Option (List UInt8) :=
 match t with
 | [] => none
 | c :: r =>
   if c = 0 then (if r.length ≤ 4000 then some r else none)
   else if c = 1 then
    (if r.length < 2 then none
     else if 256 * (r.getD 0 0).toNat + (r.getD 1 0).toNat < 1 ∨ 4000 < 256 * (r.getD 0 0).toNat + (r.getD 1 0).toNat then none
     else bodyF (r.drop 2) N (256 * (r.getD 0 0).toNat + (r.getD 1 0).toNat))
   else none
theorem unpF_cons (N : Nat) (c : UInt8) (r : List UInt8) : unpF N (c :: r) =
 if c = 0 then (if r.length ≤ 4000 then some r else none)
 else if c = 1 then
  (if r.length < 2 then none
   else if 256 * (r.getD 0 0).toNat + (r.getD 1 0).toNat < 1 ∨ 4000 < 256 * (r.getD 0 0).toNat + (r.getD 1 0).toNat then none
   else bodyF (r.drop 2) N (256 * (r.getD 0 0).toNat + (r.getD 1 0).toNat))
 else none := rfl
theorem unpF_other (N : Nat) (c : UInt8) (r : List UInt8) (h0 : c ≠ 0) (h1 : c ≠ 1) : unpF N (c :: r) = none := by rw [unpF_cons, if_neg h0, if_neg h1]
theorem unpF_long (N : Nat) (r : List UInt8) (h : 4000 < r.length) : unpF N (0 :: r) = none := by
 rw [unpF_cons, if_pos rfl, if_neg (by omega)]
theorem unpF_plain (N : Nat) (r : List UInt8) (h : r.length ≤ 4000) : unpF N (0 :: r) = some r := by
 rw [unpF_cons, if_pos rfl, if_pos h]
theorem unpF_short (N : Nat) (r : List UInt8) (h : r.length < 2) : unpF N (1 :: r) = none := by
 rw [unpF_cons, if_neg (by decide), if_pos rfl, if_pos h]
theorem unpF_size (N : Nat) (r : List UInt8) (h : ¬ r.length < 2) (h2 : 256 * (r.getD 0 0).toNat + (r.getD 1 0).toNat < 1 ∨ 4000 < 256 * (r.getD 0 0).toNat + (r.getD 1 0).toNat) : unpF N (1 :: r) = none := by
 rw [unpF_cons, if_neg (by decide), if_pos rfl, if_neg h, if_pos h2]
theorem unpF_body (N : Nat) (r : List UInt8) (h : ¬ r.length < 2) (h2 : ¬ (256 * (r.getD 0 0).toNat + (r.getD 1 0).toNat < 1 ∨ 4000 < 256 * (r.getD 0 0).toNat + (r.getD 1 0).toNat)) :
 unpF N (1 :: r) = bodyF (r.drop 2) N (256 * (r.getD 0 0).toNat + (r.getD 1 0).toNat) := by
 rw [unpF_cons, if_neg (by decide), if_pos rfl, if_neg h, if_neg h2]
end Go.Proofs.YtodmdkhdbfbfgaaGreatDoor.S1.Pk
namespace Go.Proofs.YtodmdkhdbfbfgaaGreatDoor.S1
open Go.RowKit
set_option linter.unusedVariables false
theorem i64_and1 (n : Int) : bits .and .i64 n 1 = n % 2 := by
 have h1 : (BitVec.ofInt 64 1).toNat = 2 ^ 1 - 1 := by decide
 have key : (BitVec.ofInt 64 n &&& BitVec.ofInt 64 1).toNat = (n % ((2 ^ 64 : Nat) : Int)).toNat % 2 ^ 1 := by
  rw [BitVec.toNat_and, BitVec.toNat_ofInt, h1, Nat.and_two_pow_sub_one_eq_mod]
 show IntKind.i64.wrap ((BitVec.ofInt 64 n &&& BitVec.ofInt 64 1).toNat : Nat) = n % 2
 rw [key, IntKind.wrap_i64]
 omega
def IntsIn (w : World) (a : Option Addr) (n : Nat) (z : Nat → Int) : Prop :=
 0 < n → ∃ b off, a = some ⟨b, off, none⟩ ∧ ∀ k, k < n → w.cell? ⟨b, off + k, none⟩ = some (.int .i64 (z k))
theorem IntsIn.below {w w' : World} {a : Option Addr} {n : Nat} {z : Nat → Int} (h : IntsIn w a n z) (hb : Below w.heap.size w w') : IntsIn w' a n z := by
 intro hn
 obtain ⟨b, off, rfl, hc⟩ := h hn
 refine ⟨b, off, rfl, fun k hk => ?_⟩
 rw [hb.cell (p := ⟨b, off + k, none⟩) (World.block_lt_of_cell? w _ (hc k hk))]
 exact hc k hk
theorem rowIs_below {w w' : World} {b : Nat} {t : TypeId} {n : Nat} {f : Nat → Value} {B : Nat} (h : w.rowIs b t n f) (hb : Below B w w') (hlt : b < B) : w'.rowIs b t n f :=
 h.of_block (hb.block b hlt)
theorem rowIs_ints {w : World} {b : Nat} {t : TypeId} {n : Nat} {z : Nat → Int} (h : w.rowIs b t n (fun j => .int .i64 (z j))) : IntsIn w (some ⟨b, 0, none⟩) n z :=
 fun _ => ⟨b, 0, rfl, fun k hk => by rw [Nat.zero_add]; exact h.cell hk⟩
theorem cell_set_other {w : World} {p q : Addr} (v : Value) (h : q.block ≠ p.block) : (w.setCell p v).cell? q = w.cell? q := World.cell?_of_block (Below.heap_setCell w p v _ h)
theorem frozen_set_other {w : World} {p q : Addr} (v : Value) (h : q.block ≠ p.block) : (w.setCell p v).frozen? q = w.frozen? q := World.frozen?_of_block (Below.heap_setCell w p v _ h)
theorem ret_int {k : IntKind} {a b : Int} (h : a = b) : Ending.returned (.int k a) = .returned (.int k b) := by rw [h]
theorem ret_bool {a b : Bool} (h : a = b) : Ending.returned (.bool a) = .returned (.bool b) := by rw [h]
def txt (l : List UInt8) : ByteArray := ⟨l.toArray⟩
theorem txt_size (l : List UInt8) : (txt l).size = l.length := by simp [txt, ByteArray.size]
theorem run_make_two {P : Program} (t e : TypeId) (z x y : Value) (bytes : Nat) (ht : P.underlying t = some (.slice e)) (hinfo : (P.info? e).map (fun i => (i.zero, i.size, i.bytes)) = some (some z, 2, bytes)) (hz1 : z.cells = #[x, y])
 (kl kc : IntKind) (n : Nat) (hbytes : bytes * n ≤ 281474976710656) (h63 : n ≤ 9223372036854775807) (w : World) :
 (Instr.makeSlice t (.int kl (n : Int)) (.int kc (n : Int))).run P w = .ok (.slice (some ⟨w.heap.size, 0, none⟩) n n) (w.alloc (.cells (madeCells #[x, y] (n * 2)) e)) := by
 obtain ⟨i, hi, hz, hs, hb⟩ := info_parts hinfo
 have hb' : (i.bytes : Int) * (n : Int) ≤ 281474976710656 := by
  have h : ((i.bytes * n : Nat) : Int) ≤ 281474976710656 := by rw [hb]; omega
  rwa [Int.natCast_mul] at h
 have hr := run_make (P := P) w t e i z ht hi hz kl kc n n (by omega) (Int.le_refl _) hb' (by omega)
 simp only [Int.toNat_natCast, hs, hz1] at hr
 exact hr
theorem rowIs_made_two (w : World) (x y : Value) (n : Nat) (t : TypeId) : (w.alloc (.cells (madeCells #[x, y] (n * 2)) t)).rowIs w.heap.size t (n * 2) (fun j => if j % 2 = 0 then x else y) :=
 ⟨_, heap_alloc_new _ _, size_madeCells _ _, fun i hi => by
  have : i % 2 = 0 ∨ i % 2 = 1 := by omega
  rcases this with h | h <;> simp [madeCells, hi, h]⟩
end Go.Proofs.YtodmdkhdbfbfgaaGreatDoor.S1
namespace Go.Proofs.YtodmdkhdbfbfgaaGreatDoor.S1
open Go.RowKit Pk
set_option linter.unusedVariables false
theorem Tryz.info5 : (Tryz.prog.info? 5).map (fun i => (i.zero, i.size, i.bytes)) = some (some (.int .u8 0), 1, 1) := by kernel_rfl
theorem sum_step_pos (z : Nat → Int) (k : Nat) (n : Nat) (hn : n ≤ 288) (hk : k < n) (hr : ∀ j, j < k → 0 ≤ z j ∧ z j ≤ 12) (h : 0 ≤ z k ∧ z k ≤ 12) (hp : 0 < z k) :
 wrap64 (sumTo z k + wrap64 (2 ^ (12 - z k).toNat)) = sumTo z (k + 1) := by
 have hb := sumTo_bounds z k hr
 have h1 : (12 - z k).toNat ≤ 11 := by omega
 have h2 := Nat.pow_le_pow_right (show 0 < 2 by omega) h1
 have h3 : ((2 : Int) ^ (12 - z k).toNat) = ((2 ^ (12 - z k).toNat : Nat) : Int) := by simp
 simp only [sumTo, wt, if_pos hp]
 rw [h3]
 generalize 2 ^ (12 - z k).toNat = p at h2
 unfold wrap64
 omega
theorem sum_step_zero (z : Nat → Int) (k : Nat) (hp : z k ≤ 0) : sumTo z k = sumTo z (k + 1) := by
 simp only [sumTo, wt, if_neg (show ¬ 0 < z k by omega)]; omega
theorem check_bad (a : Option Addr) (n cap : Nat) (z : Nat → Int) (w : World) (hn : n ≤ 288) (hz : IntsIn w a n z) (m : Nat) (hm : m < n) (hbad : ¬ (0 ≤ z m ∧ z m ≤ 12)) (hg : ∀ j, j < m → 0 ≤ z j ∧ z j ≤ 12) :
 Calls Tryz.prog 259 #[.slice a n cap] w fun e w' => e = .returned (.int .i64 1) ∧ w' = w := by
 obtain ⟨b, off, rfl, hc⟩ := hz (by omega)
 have Hg : Hid (∀ j, j < m → 0 ≤ z j ∧ z j ≤ 12) := hg
 clear hg
 have Hbad : Hid (¬ (0 ≤ z m ∧ z m ≤ 12)) := hbad
 clear hbad
 have Hc : Hid (∀ k, k < n → w.cell? { block := b, off := off + k } = some (Value.int IntKind.i64 (z k))) := hc
 clear hc
 go_enter Tryz.func259, Tryz.ntmps259
 go_wp2
 go_loop [3, 11] (fun s i => ∃ k : Nat, k ≤ m ∧ i = .int .i64 k ∧ s = .int .i64 (sumTo z k)) (fun _ i => n - (intOf i).toNat)
 case atStart => exact ⟨0, Nat.zero_le _, rfl, rfl⟩
 case round =>
  obtain ⟨k, hk, rfl, rfl⟩ := hrel
  have hlt : k < n := by omega
  have hck := Hc.out k hlt
  by_cases hkm : k = m
  ·have hb : z k < 0 ∨ 12 < z k := by have := Hbad.out; rw [hkm]; omega
   clear hkm
   rcases hb with hb | hb
   ·go_wp2
    go_ret
    exact ⟨rfl, rfl⟩
   ·have h0 : ¬ z k < 0 := by omega
    go_wp2
    go_ret
    exact ⟨rfl, rfl⟩
  ·have hkg := Hg.out k (by omega)
   have Hl : Hid (k < m) := (by omega : k < m)
   clear hkm
   have h0 : ¬ z k < 0 := by omega
   have h1 : ¬ 12 < z k := by omega
   by_cases hp : 0 < z k
   ·go_wp2
    go_round
    case rel => exact ⟨k + 1, Hl.out, by go_num, by rw [sum_step_pos z k n hn hlt (fun j hj => Hg.out j (Nat.lt_trans hj Hl.out)) hkg hp]⟩
    case measure => simp [intOf]; omega
   ·go_wp2
    go_round
    case rel => exact ⟨k + 1, Hl.out, by go_num, by rw [sum_step_zero z k (by omega)]⟩
    case measure => simp [intOf]; omega
theorem check_rng (a : Option Addr) (n cap : Nat) (z : Nat → Int) (w : World) (hn : n ≤ 288) (hz : IntsIn w a n z) (hg : ∀ j, j < n → 0 ≤ z j ∧ z j ≤ 12) :
 Calls Tryz.prog 259 #[.slice a n cap] w fun e w' => e = .returned (.int .i64 (if 4096 < sumTo z n then 2 else 0)) ∧ w' = w := by
 have Hg : Hid (∀ j, j < n → 0 ≤ z j ∧ z j ≤ 12) := hg
 clear hg
 go_enter Tryz.func259, Tryz.ntmps259
 go_wp2
 go_loop [3, 11] (fun s i => ∃ k : Nat, k ≤ n ∧ i = .int .i64 k ∧ s = .int .i64 (sumTo z k)) (fun _ i => n - (intOf i).toNat)
 case atStart => exact ⟨0, Nat.zero_le _, rfl, rfl⟩
 case round =>
  obtain ⟨k, hk, rfl, rfl⟩ := hrel
  by_cases hlt : k < n
  ·obtain ⟨b, off, rfl, hc⟩ := hz (by omega)
   have hck := hc k hlt
   clear hc hz
   have hkg := Hg.out k hlt
   have h0 : ¬ z k < 0 := by omega
   have h1 : ¬ 12 < z k := by omega
   by_cases hp : 0 < z k
   ·go_wp2
    go_round
    case rel => exact ⟨k + 1, by omega, by go_num, by rw [sum_step_pos z k n hn hlt (fun j hj => Hg.out j (by omega)) hkg hp]⟩
    case measure => simp [intOf]; omega
   ·go_wp2
    go_round
    case rel => exact ⟨k + 1, by omega, by go_num, by rw [sum_step_zero z k (by omega)]⟩
    case measure => simp [intOf]; omega
  ·have hkn : k = n := by omega
   subst hkn
   by_cases hs : 4096 < sumTo z k
   ·go_wp2
    go_ret
    exact ⟨rfl, rfl⟩
   ·go_wp2
    go_ret
    exact ⟨rfl, rfl⟩
end Go.Proofs.YtodmdkhdbfbfgaaGreatDoor.S1
namespace Go.Proofs.YtodmdkhdbfbfgaaGreatDoor.S1
open Go.RowKit Pk
set_option linter.unusedVariables false
theorem Tryz.info59 : (Tryz.prog.info? 284).map (fun i => (i.zero, i.size, i.bytes)) = some (some (.agg #[.int .i64 0, .int .i64 0]), 2, 16) := by kernel_rfl
def cellA (z : Nat → Int) (n d k j : Nat) : Value :=
 if 1 ≤ z (j / 2) ∧ (z (j / 2) < d ∨ (z (j / 2) = d ∧ j / 2 < k)) then (if j % 2 = 0 then .int .i64 (num z n (j / 2)) else .int .i64 (z (j / 2))) else .int .i64 0
theorem ite_iff {α : Type} {c d : Prop} [Decidable c] [Decidable d] (h : c ↔ d) (x y : α) : (if c then x else y) = if d then x else y := by
 by_cases hc : c
 ·rw [if_pos hc, if_pos (h.1 hc)]
 ·rw [if_neg hc, if_neg (fun hd => hc (h.2 hd))]
theorem cellA_pos {z : Nat → Int} {n d k j : Nat} (h : 1 ≤ z (j / 2) ∧ (z (j / 2) < d ∨ (z (j / 2) = d ∧ j / 2 < k))) :
 cellA z n d k j = if j % 2 = 0 then .int .i64 (num z n (j / 2)) else .int .i64 (z (j / 2)) := if_pos h
theorem cellA_neg {z : Nat → Int} {n d k j : Nat} (h : ¬ (1 ≤ z (j / 2) ∧ (z (j / 2) < d ∨ (z (j / 2) = d ∧ j / 2 < k)))) :
 cellA z n d k j = .int .i64 0 := if_neg h
theorem cellA_start (z : Nat → Int) (n j : Nat) : (if j % 2 = 0 then Value.int .i64 0 else .int .i64 0) = cellA z n 1 0 j := by
 rw [cellA_neg (by omega)]
 split <;> rfl
theorem cellA_next (z : Nat → Int) (n d j : Nat) (hj : j < n * 2) : cellA z n d n j = cellA z n (d + 1) 0 j := by
 unfold cellA
 exact ite_iff (by omega) _ _
theorem cellA_miss (z : Nat → Int) (n d k j : Nat) (h : z k ≠ (d : Int)) : cellA z n d k j = cellA z n d (k + 1) j := by
 unfold cellA
 by_cases e : j / 2 = k
 ·rw [e]; exact ite_iff (by omega) _ _
 ·exact ite_iff (by omega) _ _
theorem cellA_hit (z : Nat → Int) (n d k j : Nat) (h : z k = ((d + 1 : Nat) : Int)) :
 (if j = k * 2 + 1 then Value.int .i64 ((d + 1 : Nat) : Int) else if j = k * 2 then .int .i64 ((2 * aft z n d + cnt z (d + 1) k : Nat) : Int) else cellA z n (d + 1) k j) = cellA z n (d + 1) (k + 1) j := by
 by_cases e : j = k * 2 + 1
 ·rw [if_pos e]
  have e1 : j / 2 = k := by omega
  rw [cellA_pos (by rw [e1]; omega), e1, if_neg (by omega), h]
 ·rw [if_neg e]
  by_cases e2 : j = k * 2
  ·rw [if_pos e2]
   have e1 : j / 2 = k := by omega
   rw [cellA_pos (by rw [e1]; omega), e1, if_pos (by omega)]
   unfold num
   rw [h, Int.toNat_natCast, Nat.add_sub_cancel]
  ·rw [if_neg e2]
   have e1 : j / 2 ≠ k := by omega
   unfold cellA
   exact ite_iff (by omega) _ _
theorem rowIs_two {w : World} {b : Nat} {t : TypeId} {n : Nat} {f : Nat → Value} (h : w.rowIs b t n f) (i : Nat) (u v : Value) :
 ((w.setCell ⟨b, i, none⟩ u).setCell ⟨b, i + 1, none⟩ v).rowIs b t n (fun j => if j = i + 1 then v else if j = i then u else f j) := (h.set i u).set (i + 1) v
theorem assign_any (a : Option Addr) (n cap : Nat) (z : Nat → Int) (w : World) (hn : n ≤ 288) (hz : IntsIn w a n z) (hf : Fits z n) :
 Calls Tryz.prog 248 #[.slice a n cap] w fun e w' => e = .returned (.slice (some ⟨w.heap.size, 0, none⟩) n n) ∧ Below w.heap.size w w' ∧ w'.rowIs w.heap.size 284 (n * 2) (cellA z n 13 0) := by
 have hmk := run_make_two (P := Tryz.prog) 275 284 (.agg #[.int .i64 0, .int .i64 0]) (.int .i64 0) (.int .i64 0) 16 Tryz.underlying275 Tryz.info59 rfl .i64 .i64 n (by omega) (by omega)
 go_enter Tryz.func248, Tryz.ntmps248
 go_wp2
 go_loopw [4, 5] (fun x i wr => ∃ d : Nat, d ≤ 12 ∧ i = .int .i64 (d + 1 : Nat) ∧ x = .int .i64 (aft z n d) ∧ Below w.heap.size w wr ∧ wr.rowIs w.heap.size 284 (n * 2) (cellA z n (d + 1) 0)) (fun _ i _ => 13 - (intOf i).toNat)
 case atStart =>
  refine ⟨0, by omega, rfl, rfl, (Below.refl _ _).alloc (Nat.le_refl _) _, ?_⟩
  exact (rowIs_made_two w (.int .i64 0) (.int .i64 0) n 284).congr fun j _ => cellA_start z n j
 case round =>
  obtain ⟨d, hd, rfl, rfl, hbel, hrow⟩ := hrel
  by_cases hlt : d < 12
  ·have haft : aft z n d ≤ 4096 := Nat.le_trans (aft_le z n d hf hd) (Nat.pow_le_pow_right (by omega) hd)
   go_wp2
   go_loopw [4, 19] (fun x i wr => ∃ k : Nat, k ≤ n ∧ i = .int .i64 k ∧ x = .int .i64 (2 * aft z n d + cnt z (d + 1) k : Nat) ∧ Below w.heap.size w wr ∧ wr.rowIs w.heap.size 284 (n * 2) (cellA z n (d + 1) k)) (fun _ i _ => n - (intOf i).toNat)
   case atStart => exact ⟨0, by omega, rfl, by simp [cnt, Int.mul_comm], hbel, hrow⟩
   case round =>
    clear hbel hrow
    obtain ⟨k, hk, rfl, rfl, hbel, hrow⟩ := hrel
    by_cases hlt2 : k < n
    ·obtain ⟨b, off, rfl, hc⟩ := hz (by omega)
     have hck : wr.cell? { block := b, off := off + k } = some (Value.int IntKind.i64 (z k)) := by
      rw [hbel.cell (p := ⟨b, off + k, none⟩) (World.block_lt_of_cell? w _ (hc k hlt2))]
      exact hc k hlt2
     have hkc : cnt z (d + 1) k ≤ k := cnt_le _ _ _
     clear hc hz
     by_cases he : z k = ((d + 1 : Nat) : Int)
     ·have hf0 := hrow.frozen (k * 2)
      have hf1 := hrow.frozen (k * 2 + 1)
      obtain ⟨v0, hc0⟩ : ∃ v, wr.cell? ⟨w.heap.size, k * 2, none⟩ = some v := ⟨_, hrow.cell (by omega)⟩
      obtain ⟨v1, hc1⟩ : ∃ v, wr.cell? ⟨w.heap.size, k * 2 + 1, none⟩ = some v := ⟨_, hrow.cell (by omega)⟩
      have heb : (z k == (d : Int) + 1) = true := by rw [he]; simp
      have He : Hid (z k = ((d + 1 : Nat) : Int)) := he
      clear he
      go_wp2
      go_roundw
      case rel =>
       refine ⟨k + 1, by omega, by go_num, ?_, (hbel.setCell (Nat.le_refl _) _).setCell (Nat.le_refl _) _, ?_⟩
       ·have : cnt z (d + 1) (k + 1) = cnt z (d + 1) k + 1 := by simp only [cnt]; rw [if_pos He.out]
        rw [this]; go_num
       ·exact (rowIs_two hrow (k * 2) _ _).congr fun j _ => cellA_hit z n d k j He.out
      case measure => simp [intOf]; omega
     ·have heb : (z k == (d : Int) + 1) = false := by simpa using he
      have He : Hid (z k ≠ ((d + 1 : Nat) : Int)) := he
      clear he
      go_wp2
      go_roundw
      case rel =>
       refine ⟨k + 1, by omega, by go_num, ?_, hbel, ?_⟩
       ·have : cnt z (d + 1) (k + 1) = cnt z (d + 1) k := by simp only [cnt]; rw [if_neg He.out, Nat.add_zero]
        rw [this]
       ·exact hrow.congr fun j _ => cellA_miss z n (d + 1) k j He.out
      case measure => simp [intOf]; omega
    ·have hkn : k = n := by omega
     have Hk : Hid (k = n) := hkn
     clear hkn
     go_wp2
     go_roundw
     case rel =>
      refine ⟨d + 1, by omega, by go_num, by rw [aft, Hk.out], hbel, ?_⟩
      rw [Hk.out] at hrow
      exact hrow.congr fun j hj => cellA_next z n (d + 1) j hj
     case measure => simp [intOf]; omega
  ·have hd12 : d = 12 := by omega
   subst hd12
   go_wp2
   go_ret
   exact ⟨rfl, hbel, hrow⟩
def numz (z : Nat → Int) (n s : Nat) : Nat := if 1 ≤ z s then num z n s else 0
theorem cellA_end (z : Nat → Int) (n s : Nat) (hf : Fits z n) (hs : s < n) : cellA z n 13 0 (s * 2) = .int .i64 (numz z n s) ∧ cellA z n 13 0 (s * 2 + 1) = .int .i64 ((z s).toNat : Nat) := by
 have := hf.rng s hs
 have e0 : s * 2 / 2 = s := by omega
 have e1 : (s * 2 + 1) / 2 = s := by omega
 unfold numz
 by_cases h : 1 ≤ z s
 ·rw [cellA_pos (by rw [e0]; omega), cellA_pos (by rw [e1]; omega), e0, e1, if_pos (show s * 2 % 2 = 0 by omega), if_neg (show ¬ (s * 2 + 1) % 2 = 0 by omega), if_pos h, Int.toNat_of_nonneg (by omega)]
  exact ⟨rfl, rfl⟩
 ·rw [cellA_neg (by rw [e0]; omega), cellA_neg (by rw [e1]; omega), if_neg h, show (z s).toNat = 0 by omega]
  exact ⟨rfl, rfl⟩
end Go.Proofs.YtodmdkhdbfbfgaaGreatDoor.S1
namespace Go.Proofs.YtodmdkhdbfbfgaaGreatDoor.S1
open Go.RowKit Pk
set_option linter.unusedVariables false
theorem Tryz.info9 : (Tryz.prog.info? 9).map (fun i => (i.zero, i.size, i.bytes)) = some (some (.string ⟨#[]⟩), 1, 16) := by kernel_rfl
end Go.Proofs.YtodmdkhdbfbfgaaGreatDoor.S1
namespace Go.Proofs.YtodmdkhdbfbfgaaGreatDoor.S1
open Go.RowKit Pk
set_option linter.unusedVariables false
theorem strCells_txt (l : List UInt8) : Lib.strCells (txt l) = l.map fun b => Value.int .u8 b.toNat := by
 unfold Lib.strCells; rfl
theorem strOfNums_bytes (l : List UInt8) : strOfNums (l.map fun b => (b.toNat : Int)) = txt l := by
 unfold strOfNums txt
 rw [List.map_map]
 congr 2
 conv => rhs; rw [← List.map_id l]
 apply List.map_congr_left
 intro b _
 simp
theorem conv_own {w : World} {base : Nat} {v : Value} {n : Nat} {l : List UInt8} (h : w.ownsRow base 5 1 v n (Lib.strCells (txt l))) : (convert 111 9 v).run Tryz.prog w = .ok (.string (txt l)) w := by
 have hl : l.length = n := by have := h.1; rw [strCells_txt] at this; simpa using this
 rcases h.2 with ⟨rfl, rfl⟩ | ⟨g, cap, cur, rfl, hb, hh, h1, h2, h3, h4⟩
 ·obtain rfl : l = [] := List.eq_nil_of_length_eq_zero hl
  exact run_convert_bytes_nil (P := Tryz.prog) w 111 5 Tryz.underlying111 Tryz.underlying5 0 0 9 Tryz.underlying9
 ·have hc := run_convert_bytes_arg (P := Tryz.prog) w 111 5 Tryz.underlying111 Tryz.underlying5 g 0 n cap (l.map fun b => (b.toNat : Int)) (by simpa using hl) (fun i hi => by
   rw [Nat.zero_add, h.cellAt i (by omega), strCells_txt]
   have : i < l.length := by omega
   simp [this]) 9 Tryz.underlying9
  rw [strOfNums_bytes] at hc
  exact hc
theorem txt_getD (s : List UInt8) (k : Nat) (h : k < (txt s).size) : (txt s)[k]'h = s.getD k 0 := by
 have h' : k < s.length := by rw [txt_size] at h; exact h
 show s.toArray[k] = _
 simp [List.getD, h']
end Go.Proofs.YtodmdkhdbfbfgaaGreatDoor.S1
namespace Go.Proofs.YtodmdkhdbfbfgaaGreatDoor
open Go.RowKit Go.Nt
set_option linter.unusedVariables false
theorem But.own {t e : TypeId} {a b : World} (h : But t a b) (hne : e ≠ t) {base s n : Nat} {v : Value} {xs : List Value} (ho : a.ownsRow base e s v n xs) : b.ownsRow base e s v n xs := by
 refine ⟨ho.1, ?_⟩
 rcases ho.2 with ⟨rfl, h0⟩ | ⟨g, cap, cur, rfl, h1, hh, h2⟩
 ·exact .inl ⟨rfl, h0⟩
 ·exact .inr ⟨g, cap, cur, rfl, h1, h.cells hh hne, h2⟩
theorem Bytes.str {w : World} {B : Nat} {v : Value} {l : Bs} (h : Bytes w B v l) : (convert 111 9 v).run Tryz.prog w = .ok (.string (txt l)) w := S1.conv_own h
theorem order_perm (l : List It) : (inOrder l).Perm l := List.mergeSort_perm _ _
theorem weigh_take (l : List It) (k : Nat) : weigh (l.take k) ≤ weigh l := by
 have h : weigh l = weigh (l.take k) + weigh (l.drop k) := by
  unfold weigh
  rw [← List.sum_append, ← List.map_append, List.take_append_drop]
 omega
theorem weigh_le {l : List It} (hf : ∀ x ∈ l, Fit x) : weigh l ≤ 4271 * l.length :=
 sum_le _ 4271 l (fun x hx => by have h := hf x hx; have := h.p; have := h.d; omega)
theorem bytes_new (w : World) (n : Nat) (hn : n ≤ 255) : Bytes (w.alloc (.cells #[.int .u8 n] 5)) w.heap.size (.slice (some ⟨w.heap.size, 0, none⟩) 1 1) (enc 1 n) := by
 have e : bv (enc 1 n) = [.int .u8 n] := by
  simp only [enc, bv, List.nil_append, List.map_cons, List.map_nil, UInt8.toNat_ofNat']
  congr 2
  omega
 unfold Bytes
 rw [enc_length, e]
 exact ⟨rfl, .inr ⟨w.heap.size, 1, #[.int .u8 n], rfl, Nat.le_refl _, heap_alloc_new _ _, Nat.le_refl _, by unfold maxLen; omega, rfl, rfl⟩⟩
theorem tk_snoc {L : List It} {k : Nat} {x : It} (h : L[k]? = some x) : L.take (k + 1) = L.take k ++ [x] := by
 rw [List.take_add_one, h]; rfl
theorem text_any {u : Bs → Option Bs} (hP : PackC u) (b : Nat) (l : List It) (w : World) (hT : TreeAt w b l) (ht : TreeP l) (hml : ML w) :
 Calls Tryz.prog 43 #[.map (some b)] w fun e w' => ∃ t, e = .returned (.string (txt t)) ∧ IsText u (inOrder l) t ∧ Below w.heap.size w w' := by
 obtain ⟨L, hL⟩ : ∃ L, L = inOrder l := ⟨_, rfl⟩
 have hLl : L.length = l.length := by rw [hL]; exact (order_perm l).length_eq
 have hfit : ∀ x ∈ L, Fit x := fun x hx => okItem_fit (ht.ok x ((order_perm l).mem_iff.1 (hL ▸ hx)))
 have h60 := ht.len
 have hlen := fun W (h : TreeAt W b l) => h.len ht.nodup 3
 have HI := hidI (fun W (h : TreeAt W b l) (hm : ML W) => items_any b l W h ht.nodup (by omega) hm (fun x hx => by have := (okItem_fit (ht.ok x hx)).p; omega))
 rw [← hL] at HI ⊢
 have HLl := hidI hLl
 have Hfit := hidI hfit
 have HT := hidI hT
 have Hml := hidI hml
 have hlen0 := hlen w hT
 have Hw := hidI (weigh_le hfit)
 clear hL hfit ht hlen hT hml
 go_enter Tryz.func43, Tryz.ntmps43
 go_wp2_with fail
 have HB0 := hidI (bytes_new w l.length (by omega))
 obtain ⟨W1, hW1⟩ : ∃ W1, W1 = w.alloc (.cells #[.int .u8 (l.length : Nat)] 5) := ⟨_, rfl⟩
 rw [← hW1] at HB0 ⊢
 have hB1 : Below w.heap.size w W1 := by rw [hW1]; exact (Below.refl _ w).alloc (Nat.le_refl _) _
 have hs1 : W1.heap.size = w.heap.size + 1 := by rw [hW1]; simp
 have HB1 := hidI hB1
 refine (HI.out W1 (HT.out.below hB1 HT.out.lt) (Hml.out.below hB1 Hml.out.lt)).mono ?_
 rintro e w2 ⟨hb2, v2, rfl, hown2⟩
 have HB2 := hidI (HB1.out.trans (hb2.mono (by omega)))
 have HY2 : Hid (Bytes w2 w.heap.size (.slice (some ⟨w.heap.size, 0, none⟩) 1 1) (enc 1 l.length)) := hidI (HB0.out.below hb2 (Nat.le_refl _))
 rw [← hLl] at hown2
 obtain ⟨a2, c2, rfl, hin2⟩ := own_in hown2
 have HO2 := hidI hown2
 have hsz2 := hb2.size
 rw [hLl] at HO2
 clear hb2 hown2 hin2 HI HB0 HB1 hB1 hW1 HT Hml hlen0
 obtain ⟨n, hn⟩ : ∃ n, n = l.length := ⟨_, rfl⟩
 rw [hLl]
 rw [← hn] at HO2 HY2 h60 HLl ⊢
 clear hn hLl
 go_wp2
 go_loopw [3, 13] (fun v i wr => ∃ (k : Nat) (e : Bs), k ≤ n ∧ i = .int .i64 k ∧ Hid (AreItems u (L.take k) e) ∧ Hid (Bytes wr w.heap.size v (enc 1 n ++ e)) ∧ Hid (Below w.heap.size w wr) ∧ Hid (But 5 w2 wr)) (fun _ i _ => n - (intOf i).toNat)
 case atStart => exact ⟨0, [], Nat.zero_le _, rfl, hidI rfl, hidI (by simpa using HY2.out), HB2, hidI (But.refl _ _)⟩
 case round =>
  obtain ⟨k, e, hk, rfl, He, HY, HB, HK⟩ := hrel
  have hszr := HB.out.size
  by_cases hlt : k < n
  ·obtain ⟨x, hx⟩ : ∃ x, L[k]? = some x := ⟨_, List.getElem?_eq_getElem (by have := HLl.out; omega)⟩
   have hox := HK.out.own (by decide) HO2.out
   have hox' : wr.ownsRow W1.heap.size 39 5 (.slice a2 L.length c2) L.length (its L) := by rw [HLl.out]; exact hox
   rcases own_items hox' with ⟨_, hnil⟩ | ⟨g, cap, hsl, _, hglt, _, _, hc⟩
   ·rw [hnil] at hx; simp at hx
   ·cases hsl
    have hh := hc k x hx
    rw [Nat.zero_add] at hh
    obtain ⟨x0, x1, x2, x3, x4⟩ := hh
    have hel := areItems_len He.out
    have hwt := weigh_take L k
    have hwl := Hw.out
    have hel' : e.length ≤ 300000 := by have := HLl.out; omega
    obtain ⟨Wb, hWb⟩ : ∃ Wb, Wb = wr.alloc (.cells #[.string (txt x.path), .bool x.dir, .string (txt x.data), .int .i64 x.mode, .int .i64 x.time] 39) := ⟨_, rfl⟩
    have A := hidI (addItem_any hP w.heap.size _ _ x Wb (by rw [hWb]; simp; omega) (by rw [hWb]; exact HY.out.alloc _) (by rw [List.length_append, enc_length]; omega) (Hfit.out x (List.mem_of_getElem? hx)))
    unfold itv at A
    have HBb : Hid (Below w.heap.size w Wb) := hidI (by rw [hWb]; exact HB.out.alloc hszr _)
    have HKb : Hid (But 5 w2 Wb) := hidI (by rw [hWb]; exact HK.out.alloc _)
    have HWb := hidI hWb
    have Hx := hidI hx
    clear hox hox' hc hx hel hwt hwl hWb
    go_wp2_with fail
    rw [← HWb.out]
    refine A.out.mono ?_
    rintro e3 w3 ⟨v3, a3, rfl, hit, hY3, hB3, hK3⟩
    have HB3 := hidI (HBb.out.trans hB3)
    have HK3 := hidI (HKb.out.trans hK3)
    have HY3 := hidI hY3
    have He3 : Hid (AreItems u (L.take (k + 1)) (e ++ a3)) := hidI (by rw [tk_snoc Hx.out]; exact areItems_snoc He.out hit)
    clear hit hY3 hB3 hK3 A x0 x1 x2 x3 x4
    go_wp2
    go_roundw
    case rel => exact ⟨k + 1, e ++ a3, by omega, by go_num, He3, hidI (by have := HY3.out; rwa [List.append_assoc] at this), HB3, HK3⟩
    case measure => simp [intOf]; omega
  ·have hkn : k = n := by omega
   subst hkn
   have hst := HY.out.str
   have HR : Hid (IsText u L (enc 1 k ++ e)) := by
    refine hidI ⟨e, ?_, by rw [HLl.out]⟩
    have := He.out
    rwa [List.take_of_length_le (by have := HLl.out; omega)] at this
   go_wp2
   go_ret
   exact ⟨_, rfl, HR.out, HB.out⟩
end Go.Proofs.YtodmdkhdbfbfgaaGreatDoor
