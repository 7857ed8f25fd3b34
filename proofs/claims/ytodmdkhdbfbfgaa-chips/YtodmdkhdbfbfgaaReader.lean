/- What the reader of bits of package pack does: left, take, ends. -/
import Derived.Test.YtodmdkhdbfbfgaaRefBody
namespace Go.Proofs.Ytodmdkhdbfbfgaa
open Go.RowKit Pk
set_option linter.unusedVariables false

theorem i64_or1 (x y : Int) (hx0 : 0 ≤ x) (hx1 : x < 4611686018427387904) (hy0 : 0 ≤ y) (hy1 : y < 2) (hx : x % 2 = 0) : bits .or .i64 x y = x + y :=
  bits_join .i64 62 (by decide) (fun n h0 h1 => by rw [IntKind.wrap_i64]; omega) 1 x y hx0 (by simpa using hx) (by omega) hy0 (by omega) (by omega)

theorem u8_and1 (x : Int) (h0 : 0 ≤ x) (h1 : x < 256) : bits .and .u8 x 1 = x % 2 := bits_mask .u8 8 (by decide) wraps_u8 1 (by decide) x h0 h1

/-- A reader: its text, and how many bits have been read. -/
def Rd (w : World) (rb : Nat) (s : List UInt8) (pos : Nat) : Prop := w.heap[rb]? = some (.cells #[.string (txt s), .int .i64 (pos : Nat)] 86 (0, 0))

theorem Rd.cell0 {w : World} {rb : Nat} {s : List UInt8} {pos : Nat} (h : Rd w rb s pos) : w.cell? ⟨rb, 0, none⟩ = some (.string (txt s)) := by
  rw [cell_of_row w rb 0 _ 86 (0, 0) h]; rfl
theorem Rd.cell1 {w : World} {rb : Nat} {s : List UInt8} {pos : Nat} (h : Rd w rb s pos) : w.cell? ⟨rb, 1, none⟩ = some (.int .i64 (pos : Nat)) := by
  rw [cell_of_row w rb 1 _ 86 (0, 0) h]; rfl
theorem Rd.frozen1 {w : World} {rb : Nat} {s : List UInt8} {pos : Nat} (h : Rd w rb s pos) : w.frozen? ⟨rb, 1, none⟩ = false := frozen_of_row w rb 1 _ 86 h
theorem Rd.drewN {w : World} {rb : Nat} {s : List UInt8} {pos : Nat} (h : Rd w rb s pos) (q : Nat) : Rd (w.drewN q) rb s pos := by unfold Rd at *; simpa using h
theorem Rd.put {w : World} {rb : Nat} {s : List UInt8} {pos : Nat} (h : Rd w rb s pos) (p : Nat) : Rd (w.setCell ⟨rb, 1, none⟩ (.int .i64 (p : Nat))) rb s p := by
  unfold Rd at *
  have := heap_setCell_same w rb 1 _ 86 (.int .i64 (p : Nat)) h
  simpa using this
theorem Rd.lt {w : World} {rb : Nat} {s : List UInt8} {pos : Nat} (h : Rd w rb s pos) : rb < w.heap.size := lt_of_heap h

theorem grown_then {a b c : World} {row : Option Nat} (h : a.grownBy b row) (k : b.grownBy c row) : a.grownBy c row :=
  ⟨k.os.trans h.os, k.tape.trans h.tape, k.output.trans h.output, Nat.le_trans h.size k.size, fun i hi hr => (k.block i (Nat.lt_of_lt_of_le hi h.size) hr).trans (h.block i hi hr)⟩

theorem grown_set {a b : World} {g o : Nat} (h : a.grownBy b (some g)) (v : Value) : a.grownBy (b.setCell ⟨g, o, none⟩ v) (some g) :=
  grown_then h ⟨rfl, rfl, rfl, by simp, fun k _ hk => Below.heap_setCell b ⟨g, o, none⟩ v k (fun e => hk (by simp [e]))⟩

theorem grown_drewN (w : World) (q : Nat) (row : Option Nat) : w.grownBy (w.drewN q) row := ⟨rfl, rfl, rfl, Nat.le_refl _, fun _ _ _ => rfl⟩

set_option maxRecDepth 100000 in
set_option maxHeartbeats 400000 in
theorem left_any (rb : Nat) (s : List UInt8) (pos : Nat) (w : World) (hs : s.length ≤ 140737488351232) (hp : pos ≤ 8 * s.length) (hr : Rd w rb s pos) :
    Calls Try.prog 80 #[.pointer (some ⟨rb, 0, none⟩)] w fun e w' => e = .returned (.int .i64 (8 * s.length - pos : Nat)) ∧ ∃ q, w' = w.drewN q := by
  have h0 := hr.cell0
  have h1 := hr.cell1
  have hsz : (txt s).size = s.length := txt_size s
  obtain ⟨t, ht⟩ : ∃ t, t = txt s := ⟨_, rfl⟩
  rw [← ht] at h0 hsz
  have hs1 : t.size ≤ s.length := by omega
  have hs2 : s.length ≤ t.size := by omega
  have Hs := hidI hsz
  clear ht hsz
  go_enter Try.func80, Try.ntmps80
  go_wp2
  go_quiet (fail)
  go_wp2
  go_ret
  exact ⟨ret_int (by rw [Hs.out]; omega), _, rfl⟩

set_option maxRecDepth 100000 in
set_option maxHeartbeats 1000000 in
theorem take_no (rb : Nat) (s : List UInt8) (pos d : Nat) (w : World) (hs : s.length ≤ 140737488351232) (hp : pos ≤ 8 * s.length) (hr : Rd w rb s pos) (hd : d ≤ 12) (h : 8 * s.length < pos + d) :
    Calls Try.prog 78 #[.pointer (some ⟨rb, 0, none⟩), .int .i64 (d : Nat)] w fun e w' => e = .returned (.tuple #[.int .i64 0, .bool false]) ∧ ∃ q, w' = w.drewN q := by
  go_enter Try.func78, Try.ntmps78
  go_wp2_with (go_at_call 80; refine (left_any rb s pos _ hs hp hr).mono ?_; rintro e w' ⟨rfl, q, rfl⟩)
  go_ret2
  exact ⟨rfl, _, rfl⟩

set_option maxRecDepth 100000 in
set_option maxHeartbeats 1000000 in
theorem take_yes (rb : Nat) (s : List UInt8) (pos d : Nat) (w : World) (hs : s.length ≤ 140737488351232) (hr : Rd w rb s pos) (hd : d ≤ 12) (h : pos + d ≤ 8 * s.length) :
    Calls Try.prog 78 #[.pointer (some ⟨rb, 0, none⟩), .int .i64 (d : Nat)] w fun e w' => e = .returned (.tuple #[.int .i64 (val s pos d : Nat), .bool true]) ∧ Rd w' rb s (pos + d) ∧ w.grownBy w' (some rb) := by
  have hsz : (txt s).size = s.length := txt_size s
  have hgd : ∀ k (h : k < (txt s).size), ((txt s)[k]'h).toNat = (s.getD k 0).toNat := fun k h => by rw [txt_getD]
  go_enter Try.func78, Try.ntmps78
  go_wp2_with (go_at_call 80; refine (left_any rb s pos _ hs (by omega) hr).mono ?_; rintro e w' ⟨rfl, q, rfl⟩)
  go_loopw [6, 13] (fun v i wr => ∃ k P : Nat, k ≤ d ∧ P ≤ pos + k ∧ pos + k ≤ P ∧ i = .int .i64 k ∧ v = .int .i64 (val s pos k : Nat) ∧ Rd wr rb s P ∧ w.grownBy wr (some rb)) (fun _ i _ => d - (intOf i).toNat)
  case atStart =>
    refine ⟨0, pos, by omega, by omega, by omega, rfl, rfl, hr.drewN _, ?_⟩
    exact grown_drewN _ _ _
  case round =>
    obtain ⟨k, P, hk, hP1, hP2, rfl, rfl, hrd, hg⟩ := hrel
    by_cases hlt : k < d
    · have h0 := hrd.cell0
      have h1 := hrd.cell1
      have hf := hrd.frozen1
      have hrd' := fun q => (hrd.drewN q).put (P + 1)
      obtain ⟨t, ht⟩ : ∃ t, t = txt s := ⟨_, rfl⟩
      rw [← ht] at h0 hgd hsz
      have hidx : P / 8 < t.size := by omega
      obtain ⟨m, hm⟩ : ∃ m, m = (s.getD (P / 8) 0).toNat := ⟨_, rfl⟩
      have hx : (t[P / 8]'hidx).toNat = m := by rw [hm, hgd]
      have hm256 : m < 256 := by rw [hm]; exact (s.getD (P / 8) 0).toNat_lt
      have hi1 : (0 : Int) ≤ (P : Int) / 8 := by omega
      have hi2 : (P : Int) / 8 < (t.size : Int) := by omega
      have hts : t.size ≤ 140737488351232 := by omega
      have hv : val s pos k < 4096 := Nat.lt_of_lt_of_le (val_lt s pos k) (Nat.pow_le_pow_right (by omega) (by omega : k ≤ 12))
      have Hm := hidI hm
      clear hm ht hgd hsz
      generalize hvv : val s pos k = vv at *
      have Hvv := hidI hvv
      clear hvv
      obtain ⟨bb, hbb⟩ : ∃ b, b = bt s P := ⟨_, rfl⟩
      have hb2 : bb < 2 := by rw [hbb]; exact bt_lt s P
      have hbit : bits BinOp.and IntKind.u8 ((m : Int) / 2 ^ (7 - P % 8)) 1 = (bb : Int) := by
        have e1 : ((m : Int) / 2 ^ (7 - P % 8)) = ((m / 2 ^ (7 - P % 8) : Nat) : Int) := by simp
        have e2 : m / 2 ^ (7 - P % 8) ≤ m := Nat.div_le_self _ _
        have e3 : bb = m / 2 ^ (7 - P % 8) % 2 := by rw [hbb]; unfold bt; rw [← Hm.out]
        rw [e1]
        generalize m / 2 ^ (7 - P % 8) = mq at *
        rw [u8_and1 _ (by omega) (by omega), e3]
        omega
      have hor : bits BinOp.or IntKind.i64 ((vv : Int) * 2) (bb : Int) = ((2 * vv + bb : Nat) : Int) := by
        rw [i64_or1 _ _ (by omega) (by omega) (by omega) (by omega) (by omega)]; omega
      have Hbb := hidI hbb
      clear hbb
      go_wp2
      go_quiet (fail)
      go_wp2
      go_roundw
      case rel =>
        refine ⟨k + 1, P + 1, by omega, by omega, by omega, by go_num, ?_, hrd' _, ?_⟩
        · rw [val_succ, Hvv.out, show pos + k = P by omega, ← Hbb.out]; go_num
        · exact grown_set (grown_then hg (grown_drewN _ _ _)) _
      case measure => simp [intOf]; omega
    · have hkd : k = d := by omega
      have hPd : P = pos + d := by omega
      have HP := hidI hPd
      subst hkd
      clear hPd
      go_wp2
      go_ret2
      exact ⟨rfl, HP.out ▸ hrd, hg⟩

set_option maxRecDepth 100000 in
set_option maxHeartbeats 1000000 in
theorem ends_yes (rb : Nat) (s : List UInt8) (pos : Nat) (w : World) (hs : s.length ≤ 140737488351232) (hr : Rd w rb s pos) (hp : pos ≤ 8 * s.length) (h8 : 8 * s.length - pos < 8) :
    Calls Try.prog 71 #[.pointer (some ⟨rb, 0, none⟩)] w fun e w' => e = .returned (.bool (decide (val s pos (8 * s.length - pos) = 0))) ∧ w.grownBy w' (some rb) := by
  go_enter Try.func71, Try.ntmps71
  go_wp2_with fail
  refine (left_any rb s pos _ hs hp hr).mono ?_
  rintro e w1 ⟨rfl, q1, rfl⟩
  have hr1 := hr.drewN q1
  generalize hl : 8 * s.length - pos = l at *
  have Hl := hidI hl
  have hle : pos + l ≤ 8 * s.length := by omega
  have hlp : l ≤ 8 * s.length - pos := by omega
  clear hl
  go_wp2_with fail
  refine (left_any rb s pos _ hs hp hr1).mono ?_
  rintro e w2 ⟨rfl, q2, rfl⟩
  rw [Hl.out]
  have hr2 := hr.drewN (q1 + q2)
  go_wp2_with fail
  refine (take_yes rb s pos l _ hs hr2 (by omega) hle).mono ?_
  rintro e w3 ⟨rfl, _, hg⟩
  have hg3 : w.grownBy w3 (some rb) := grown_then (grown_drewN _ _ _) hg
  by_cases hv : val s pos l = 0
  · have Hd : Hid (true = decide (val s pos l = 0)) := (by simpa using hv : true = decide (val s pos l = 0))
    rw [hv]
    go_wp2
    go_ret
    exact ⟨ret_bool (by rw [Hl.out]; exact Hd.out), hg3⟩
  · have hv' : ((val s pos l : Int) == 0) = false := by simp; omega
    have Hd : Hid (false = decide (val s pos l = 0)) := (by simpa using hv : false = decide (val s pos l = 0))
    go_wp2
    go_ret
    exact ⟨ret_bool (by rw [Hl.out]; exact Hd.out), hg3⟩

set_option maxRecDepth 100000 in
set_option maxHeartbeats 1000000 in
theorem ends_no (rb : Nat) (s : List UInt8) (pos : Nat) (w : World) (hs : s.length ≤ 140737488351232) (hr : Rd w rb s pos) (hp : pos ≤ 8 * s.length) (h8 : ¬ 8 * s.length - pos < 8) :
    Calls Try.prog 71 #[.pointer (some ⟨rb, 0, none⟩)] w fun e w' => e = .returned (.bool false) ∧ w.grownBy w' (some rb) := by
  go_enter Try.func71, Try.ntmps71
  go_wp2_with fail
  refine (left_any rb s pos _ hs hp hr).mono ?_
  rintro e w1 ⟨rfl, q1, rfl⟩
  go_wp2
  go_ret
  exact ⟨rfl, grown_drewN _ _ _⟩
end Go.Proofs.Ytodmdkhdbfbfgaa
