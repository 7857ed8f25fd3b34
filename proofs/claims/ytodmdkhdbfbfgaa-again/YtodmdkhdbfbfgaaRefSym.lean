/- What symbol of the document's own answer (package nandref) returns: the first symbol whose code stands there. -/
import Derived.Test.YtodmdkhdbfbfgaaRefBits
import Derived.Test.YtodmdkhdbfbfgaaOut
namespace Go.Proofs.Ytodmdkhdbfbfgaa
open Go.RowKit Pk
set_option linter.unusedVariables false

theorem bl_val (s : List UInt8) (N pos n : Nat) (h : pos + n ≤ N) : ((bl s N).drop pos).take n = dig (val s pos n) n := by
  apply List.ext_getElem?
  intro k
  by_cases hk : k < n
  · rw [List.getElem?_take_of_lt hk, List.getElem?_drop, bl_get _ _ _ (by omega), dig_get _ _ _ hk]
    unfold digb
    have h1 := val_shift s pos (k + 1) (n - 1 - k)
    rw [show k + 1 + (n - 1 - k) = n by omega] at h1
    rw [h1, val_succ]
    have := bt_lt s (pos + k)
    rw [show (2 * val s pos k + bt s (pos + k)) % 2 = bt s (pos + k) by omega]
  · rw [List.getElem?_eq_none (by rw [List.length_take, List.length_drop, bl_length]; omega), List.getElem?_eq_none (by rw [dig_length]; omega)]

theorem txt_extract (l : List UInt8) (a b : Nat) : (txt l).extract a b = txt ((l.drop a).take (b - a)) := by
  rw [Lib.extract_eq]; rfl

theorem txt_toList (l : List UInt8) : (txt l).toList = l := by rw [Lib.toList_data]; rfl

/-- A number out of the bits, from place pos on. -/
theorem number_at (s : List UInt8) (N pos d : Nat) (hd : d ≤ 12) (h : pos + d ≤ N) (w : World) :
    Calls Try.prog 46 #[.string ((txt (bl s N)).extract pos (pos + d))] w fun e w' => e = .returned (.int .i64 (val s pos d : Nat)) ∧ w' = w := by
  rw [txt_extract, Nat.add_sub_cancel_left, bl_val s N pos d h]
  have hsz : (txt (dig (val s pos d) d)).size = d := by rw [txt_size, dig_length]
  have := number_any (txt (dig (val s pos d) d)) (fun i => bt s (pos + i)) (by omega) (fun k hk => by
    rw [txt_getD, ← bl_val s N pos d h]
    rw [hsz] at hk
    have h1 : ((bl s N).drop pos).take d = dig (val s pos d) d := bl_val s N pos d h
    simp only [List.getD]
    rw [List.getElem?_take_of_lt hk, List.getElem?_drop, bl_get _ _ _ (by omega)]
    have := bt_lt s (pos + k)
    simp
    omega) (fun i => bt_lt s _) w
  rw [hsz] at this
  exact this

theorem drew2 (w : World) (p q : Nat) : ∃ r, (w.drewN p).drewN q = w.drewN r := ⟨p + q, by simp⟩

theorem no_step {s : List UInt8} {z : Nat → Int} {pos k : Nat} (h : Hid (∀ j, j < k → hit s z pos j = false)) (hn : Hid (hit s z pos k = false)) : Hid (∀ j, j < k + 1 → hit s z pos j = false) := fun j hj => by
  by_cases e : j = k
  · rw [e]; exact hn.out
  · exact h.out j (by omega)

set_option maxRecDepth 100000 in
set_option maxHeartbeats 1000000 in
theorem sym_any (a : Option Addr) (c : Nat) (z : Nat → Int) (s : List UInt8) (pos : Nat) (x : ByteArray) (w : World) (hf : Fits z 288) (ht : TextsIn w a 288 (fun i => txt (code z 288 i)))
    (hx : x.size + pos = 8 * s.length) (hb : x.size ≤ 8388608) (hv : ∀ n, n ≤ x.size → (x.extract 0 n).toList = dig (val s pos n) n) :
    Calls Try.prog 44 #[.slice a 288 c, .string x] w fun e w' => (∃ q, w' = w.drewN q) ∧
      ((∃ i, i < 288 ∧ hit s z pos i = true ∧ (∀ j, j < i → hit s z pos j = false) ∧ e = .returned (.tuple #[.int .i64 (i : Nat), .int .i64 ((z i).toNat : Nat)])) ∨
       ((∀ i, i < 288 → hit s z pos i = false) ∧ e = .returned (.tuple #[.int .i64 (-1), .int .i64 0]))) := by
  obtain ⟨b, off, rfl, hc⟩ := ht (by omega)
  have Hc : Hid (∀ k, k < 288 → w.cell? ⟨b, off + k, none⟩ = some (.string (txt (code z 288 k)))) := hc
  have Hx : Hid (x.size + pos = 8 * s.length) := hx
  have Hv : Hid (∀ n, n ≤ x.size → (x.extract 0 n).toList = dig (val s pos n) n) := hv
  clear hc hx hv ht
  go_enter Try.func44, Try.ntmps44
  go_wp2
  go_loopw [6] (fun i wr => ∃ k : Nat, k ≤ 288 ∧ i = .int .i64 k ∧ (∃ q, wr = w.drewN q) ∧ Hid (∀ j, j < k → hit s z pos j = false)) (fun i _ => 288 - (intOf i).toNat)
  case atStart => exact ⟨0, Nat.zero_le _, rfl, ⟨0, rfl⟩, (fun j hj => absurd hj (by omega) : ∀ j, j < 0 → hit s z pos j = false)⟩
  case round =>
    obtain ⟨k, hk, rfl, ⟨q, rfl⟩, Hno⟩ := hrel
    by_cases hlt : k < 288
    · have hck := Hc.out k hlt
      have hrg := hf.rng k hlt
      obtain ⟨y, hy⟩ : ∃ y, y = txt (code z 288 k) := ⟨_, rfl⟩
      have hys : y.size = (z k).toNat := by rw [hy, txt_size, code_length]
      rw [← hy] at hck
      have Hy : Hid (y = txt (code z 288 k)) := hy
      have Hys : Hid (y.size = (z k).toNat) := hys
      have hyb : y.size ≤ 12 := by omega
      clear hy hys
      by_cases h0 : 0 < y.size
      · by_cases h1 : y.size ≤ x.size
        · by_cases he : ((x.extract 0 y.size).toList == y.toList) = true
          · have h0' : decide ((0 : Int) < (y.size : Int)) = true := by simpa using h0
            have h1' : decide ((y.size : Int) ≤ (x.size : Int)) = true := by simpa using h1
            go_wp2
            go_quiet (fail)
            go_wp2
            go_ret2
            refine ⟨drew2 _ _ _, .inl ⟨k, hlt, ?_, Hno.out, ?_⟩⟩
            · rw [hit_iff]
              have h5 := Hx.out
              have h6 := Hys.out
              refine ⟨by omega, by omega, ?_⟩
              have h7 := Hv.out y.size h1
              rw [h6] at h7 he
              rw [h7] at he
              rw [Hy.out, txt_toList] at he
              have h8 : dig (val s pos (z k).toNat) (z k).toNat = code z 288 k := by simpa using he
              unfold code at h8
              exact (dig_inj _ _ _ (val_lt s pos _) (num_lt z 288 k hf hlt (by omega)) h8).symm
            · rw [← Hys.out]; rfl
          · have he' : ((x.extract 0 y.size).toList == y.toList) = false := by simpa using he
            have h0' : decide ((0 : Int) < (y.size : Int)) = true := by simpa using h0
            have h1' : decide ((y.size : Int) ≤ (x.size : Int)) = true := by simpa using h1
            have Hn : Hid (hit s z pos k = false) := by
              rw [← Bool.not_eq_true]
              intro hh
              rw [hit_iff] at hh
              apply he
              have h6 := Hys.out
              have h7 := Hv.out y.size h1
              rw [h6] at h7 ⊢
              rw [h7, Hy.out, txt_toList, ← hh.2.2]
              unfold code
              simp
            clear he
            go_wp2
            go_quiet (fail)
            go_wp2
            go_roundw
            case rel => exact ⟨k + 1, by omega, by go_num, ⟨_, rfl⟩, no_step Hno Hn⟩
            case measure => simp [intOf]; omega
        · have h0' : decide ((0 : Int) < (y.size : Int)) = true := by simpa using h0
          have h1' : decide ((y.size : Int) ≤ (x.size : Int)) = false := by simpa using h1
          have Hn : Hid (hit s z pos k = false) := by
            rw [← Bool.not_eq_true]
            intro hh
            rw [hit_iff] at hh
            have h5 := Hx.out
            have h6 := Hys.out
            omega
          go_wp2
          go_quiet (fail)
          go_wp2
          go_roundw
          case rel => exact ⟨k + 1, by omega, by go_num, ⟨_, rfl⟩, no_step Hno Hn⟩
          case measure => simp [intOf]; omega
      · have h0' : decide ((0 : Int) < (y.size : Int)) = false := by simpa using h0
        have Hn : Hid (hit s z pos k = false) := by
          rw [← Bool.not_eq_true]
          intro hh
          rw [hit_iff] at hh
          have h6 := Hys.out
          omega
        go_wp2
        go_quiet (fail)
        go_wp2
        go_roundw
        case rel => exact ⟨k + 1, by omega, by go_num, ⟨_, rfl⟩, no_step Hno Hn⟩
        case measure => simp [intOf]; omega
    · have hk8 : k = 288 := by omega
      subst hk8
      go_wp2
      go_ret2
      exact ⟨⟨_, rfl⟩, .inr ⟨Hno.out, rfl⟩⟩
end Go.Proofs.Ytodmdkhdbfbfgaa
