/- What number and bits of the document's own answer (package nandref) return. -/
import Derived.Test.YtodmdkhdbfbfgaaSpec
import Derived.Test.YtodmdkhdbfbfgaaRefFit
import Derived.Lib.Strings
import Derived.Lib.AppendStr
namespace Go.Proofs.Ytodmdkhdbfbfgaa
open Go.RowKit Pk
set_option linter.unusedVariables false

theorem valF_le (f : Nat → Nat) (hf : ∀ i, f i < 2) (d : Nat) (hd : d ≤ 12) : valF f d < 4096 :=
  Nat.lt_of_lt_of_le (valF_lt f hf d) (Nat.pow_le_pow_right (by omega) hd)

set_option maxRecDepth 100000 in
set_option maxHeartbeats 400000 in
theorem number_any (t : ByteArray) (f : Nat → Nat) (hn : t.size ≤ 12) (hb : ∀ k (h : k < t.size), (t[k]'h).toNat = 48 + f k) (hf : ∀ i, f i < 2) (w : World) :
    Calls Try.prog 46 #[.string t] w fun e w' => e = .returned (.int .i64 (valF f t.size : Nat)) ∧ w' = w := by
  have Hb : Hid (∀ k (h : k < t.size), (t[k]'h).toNat = 48 + f k) := hb
  have Hf : Hid (∀ i, f i < 2) := hf
  clear hb hf
  go_enter Try.func46, Try.ntmps46
  go_wp2
  go_loop [3, 4] (fun v i => ∃ k : Nat, k ≤ t.size ∧ i = .int .i64 k ∧ v = .int .i64 (valF f k : Nat)) (fun _ i => t.size - (intOf i).toNat)
  case atStart => exact ⟨0, Nat.zero_le _, rfl, rfl⟩
  case round =>
    obtain ⟨k, hk, rfl, rfl⟩ := hrel
    by_cases hlt : k < t.size
    · have hv := valF_le f Hf.out k (by omega)
      have hx := Hb.out k hlt
      have hfk := Hf.out k
      go_wp2
      go_round
      case rel => exact ⟨k + 1, by omega, by go_num, by simp only [valF]; go_num⟩
      case measure => simp [intOf]; omega
    · have hkn : k = t.size := by omega
      have Hk : Hid (k = t.size) := hkn
      clear hkn
      go_wp2
      go_ret
      exact ⟨by rw [← Hk.out]; rfl, rfl⟩

/-- The bits of bytes, as a text of 0 and 1. -/
def bl (s : List UInt8) (n : Nat) : List UInt8 := (List.range n).map fun i => UInt8.ofNat (48 + bt s i)

theorem bl_length (s : List UInt8) (n : Nat) : (bl s n).length = n := by simp [bl]

theorem bl_get (s : List UInt8) (n i : Nat) (h : i < n) : (bl s n)[i]? = some (UInt8.ofNat (48 + bt s i)) := by simp [bl, h]

theorem bl_step (s : List UInt8) (k : Nat) : bl s (8 * k) ++ dig (s.getD k 0).toNat 8 = bl s (8 * (k + 1)) := by
  apply List.ext_getElem?
  intro i
  by_cases h : i < 8 * k
  · rw [List.getElem?_append_left (by rw [bl_length]; exact h), bl_get _ _ _ h, bl_get _ _ _ (by omega)]
  · rw [List.getElem?_append_right (by rw [bl_length]; omega), bl_length]
    by_cases h2 : i < 8 * (k + 1)
    · rw [bl_get _ _ _ h2, dig_get _ _ _ (by omega)]
      unfold digb bt
      rw [show i / 8 = k by omega, show i % 8 = i - 8 * k by omega, show 8 - 1 - (i - 8 * k) = 7 - (i - 8 * k) by omega]
    · rw [List.getElem?_eq_none (by rw [dig_length]; omega), List.getElem?_eq_none (by rw [bl_length]; omega)]

theorem strCells_txt (l : List UInt8) : Lib.strCells (txt l) = l.map fun b => Value.int .u8 b.toNat := by
  unfold Lib.strCells; rfl

theorem strCells_add (a b : List UInt8) : Lib.strCells (txt a) ++ Lib.strCells (txt b) = Lib.strCells (txt (a ++ b)) := by
  rw [strCells_txt, strCells_txt, strCells_txt, List.map_append]

theorem strOfNums_bytes (l : List UInt8) : strOfNums (l.map fun b => (b.toNat : Int)) = txt l := by
  unfold strOfNums txt
  rw [List.map_map]
  congr 2
  conv => rhs; rw [← List.map_id l]
  apply List.map_congr_left
  intro b _
  simp

/-- 'string(b)' of bytes that the call owns. -/
theorem conv_own {w : World} {base : Nat} {v : Value} {n : Nat} {l : List UInt8} (h : w.ownsRow base 5 1 v n (Lib.strCells (txt l))) : (convert 67 9 v).run Try.prog w = .ok (.string (txt l)) w := by
  have hl : l.length = n := by have := h.1; rw [strCells_txt] at this; simpa using this
  rcases h.2 with ⟨rfl, rfl⟩ | ⟨g, cap, cur, rfl, hb, hh, h1, h2, h3, h4⟩
  · obtain rfl : l = [] := List.eq_nil_of_length_eq_zero hl
    exact run_convert_bytes_nil (P := Try.prog) w 67 5 Try.underlying67 Try.underlying5 0 0 9 Try.underlying9
  · have hc := run_convert_bytes_arg (P := Try.prog) w 67 5 Try.underlying67 Try.underlying5 g 0 n cap (l.map fun b => (b.toNat : Int)) (by simpa using hl) (fun i hi => by
      rw [Nat.zero_add, h.cellAt i (by omega), strCells_txt]
      have : i < l.length := by omega
      simp [this]) 9 Try.underlying9
    rw [strOfNums_bytes] at hc
    exact hc

theorem txt_getD (s : List UInt8) (k : Nat) (h : k < (txt s).size) : (txt s)[k]'h = s.getD k 0 := by
  have h' : k < s.length := by rw [txt_size] at h; exact h
  show s.toArray[k] = _
  simp [List.getD, h']

theorem own_below {w w' : World} {base : Nat} {e : TypeId} {size : Nat} {v : Value} {n : Nat} {xs : List Value} (h : w.ownsRow base e size v n xs) (hb : Below w.heap.size w w') : w'.ownsRow base e size v n xs :=
  h.kept (row := none) ⟨hb.os, hb.tape, hb.output, hb.size, fun k hk _ => hb.block k hk⟩ (by cases hv : v.ownBlock <;> simp)

set_option maxRecDepth 100000 in
set_option maxHeartbeats 400000 in
theorem bits_any (s : List UInt8) (hs : s.length ≤ 1048576) (w : World) :
    Calls Try.prog 42 #[.string (txt s)] w fun e w' => e = .returned (.string (txt (bl s (8 * s.length)))) ∧ Below w.heap.size w w' := by
  obtain ⟨i0, hi, hz0, hz1, hz2⟩ := info_parts Try.info5
  have hsz : (txt s).size = s.length := txt_size s
  obtain ⟨t, ht⟩ : ∃ t, t = txt s := ⟨_, rfl⟩
  rw [← ht] at hsz ⊢
  have Ht : Hid (t = txt s) := ht
  have hb : t.size ≤ 1048576 := by omega
  have Hsz : Hid (t.size = s.length) := hsz
  clear ht hsz
  rw [← Hsz.out]
  go_enter Try.func42, Try.ntmps42
  go_wp2_with (at_make; refine wpList_make_own _ rfl _ _ 67 rfl w.heap.size 5 i0 (.int .u8 0) 1 Try.underlying67 hi hz0 hz1 .i64 .i64 (8 * (t.size : Int)) (8 * t.size) rfl rfl ?k0 ?k1 ?k2 ?k3 ?_)
  case k0 => omega
  case k1 => rw [hz2]; omega
  case k2 => unfold maxLen; omega
  case k3 => omega
  intro w1 hown hgrow
  have hbel : Below w.heap.size w w1 := (Below.refl _ _).grown hgrow (Nat.le_refl _) (fun k hk => by cases hk)
  clear hgrow
  go_wp2
  go_loopw [3, 4] (fun v i wr => ∃ k : Nat, k ≤ t.size ∧ i = .int .i64 k ∧ wr.ownsRow w.heap.size 5 1 v (8 * k) (Lib.strCells (txt (bl s (8 * k)))) ∧ Below w.heap.size w wr) (fun _ i _ => t.size - (intOf i).toNat)
  case atStart => exact ⟨0, Nat.zero_le _, rfl, hown, hbel⟩
  case round =>
    clear hown hbel
    obtain ⟨k, hk, rfl, hown, hbel⟩ := hrel
    have hsz := hbel.size
    by_cases hlt : k < t.size
    · obtain ⟨m, hm⟩ : ∃ m, m = (s.getD k 0).toNat := ⟨_, rfl⟩
      have hx : (t[k]'hlt).toNat = m := by
        have h0 := Ht.out
        subst h0
        rw [txt_getD, hm]
      have hm256 : m < 256 := by rw [hm]; exact (s.getD k 0).toNat_lt
      have Hm : Hid (m = (s.getD k 0).toNat) := hm
      clear hm
      go_wp2_with fail
      refine (digits_any m 8 (by omega) (by omega) _).mono ?_
      rintro e w2 ⟨rfl, hb2⟩
      have hs2 := hb2.size
      have hown2 : w2.ownsRow w.heap.size 5 1 _ (8 * k) (Lib.strCells (txt (bl s (8 * k)))) := own_below hown hb2
      have hbel2 := hbel.trans (hb2.mono hsz)
      have hds : (txt (dig m 8)).size = 8 := by rw [txt_size, dig_length]
      obtain ⟨td, htd⟩ : ∃ t, t = txt (dig m 8) := ⟨_, rfl⟩
      rw [← htd] at hds ⊢
      have Htd : Hid (td = txt (dig m 8)) := htd
      have Hds : Hid (td.size = 8) := hds
      have hds8 : td.size ≤ 8 := by omega
      clear htd hds hown hbel hb2
      go_wp2_with (at_builtin; refine Lib.wpList_append_own_string _ rfl (.tmp 21) (.tmp 22) 67 9 rfl w.heap.size 5 i0 Try.underlying67 Try.underlying9 hi hz0 hz1 hz2 _ _ _ rfl hown2 td rfl ?c1 ?c2 ?c3 ?_)
      case c1 => unfold maxLen; omega
      case c2 => omega
      case c3 => omega
      intro v3 w3 hown3 hgrow _
      rw [Hds.out, Htd.out, strCells_add, Hm.out, bl_step, show 8 * k + 8 = 8 * (k + 1) by omega] at hown3
      have hbel3 := hbel2.grown hgrow (by omega) (fun q hq => (hown2.lt q hq).1)
      clear hown2 hbel2 hgrow
      go_wp2
      go_roundw
      case rel => exact ⟨k + 1, by omega, by go_num, hown3, hbel3⟩
      case measure => simp [intOf]; omega
    · have hkn : k = t.size := by omega
      have Hk : Hid (k = t.size) := hkn
      clear hkn
      have hcv := conv_own hown
      go_wp2
      go_ret
      exact ⟨by rw [← Hk.out]; rfl, hbel⟩
end Go.Proofs.Ytodmdkhdbfbfgaa
