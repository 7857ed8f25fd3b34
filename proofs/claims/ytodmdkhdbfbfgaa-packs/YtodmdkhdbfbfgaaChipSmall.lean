/- What the small functions of both chips return: bounds, parts, pages as they read, blocks, bad blocks, power. -/
import Derived.Test.YtodmdkhdbfbfgaaChipMem
import Derived.Test.YtodmdkhdbfbfgaaReader
import Derived.Lib.BufferWrite
namespace Go.Proofs.Ytodmdkhdbfbfgaa
open Go.RowKit Pk
set_option linter.unusedVariables false

def bnd (n lo hi : Int) : Int := if n < lo then lo else if hi < n then hi else n

theorem bnd_le (n lo hi : Int) (h : lo ≤ hi) : lo ≤ bnd n lo hi ∧ bnd n lo hi ≤ hi := by unfold bnd; split <;> (try split) <;> omega

set_option maxHeartbeats 400000 in
theorem bound_any (n lo hi : Int) (h : lo ≤ hi) (w : World) : Calls Try.prog 48 #[.int .i64 n, .int .i64 lo, .int .i64 hi] w fun e w' => e = .returned (.int .i64 (bnd n lo hi)) ∧ w' = w := by
  by_cases h1 : n < lo
  · have Hb : Hid (bnd n lo hi = lo) := if_pos h1
    go_enter Try.func48, Try.ntmps48
    go_wp2
    all_goals go_ret
    all_goals exact ⟨ret_int (by rw [Hb.out] <;> omega), rfl⟩
  · by_cases h2 : hi < n
    · have Hb : Hid (bnd n lo hi = hi) := by unfold bnd; rw [if_neg h1, if_pos h2]; exact rfl
      go_enter Try.func48, Try.ntmps48
      go_wp2
      all_goals go_ret
      all_goals exact ⟨ret_int (by rw [Hb.out] <;> omega), rfl⟩
    · have Hb : Hid (bnd n lo hi = n) := by unfold bnd; rw [if_neg h1, if_neg h2]; exact rfl
      go_enter Try.func48, Try.ntmps48
      go_wp2
      all_goals go_ret
      all_goals exact ⟨ret_int (by rw [Hb.out] <;> omega), rfl⟩

set_option maxHeartbeats 400000 in
theorem between_any (n lo hi : Int) (h : lo ≤ hi) (w : World) : Calls Try.prog 49 #[.int .i64 n, .int .i64 lo, .int .i64 hi] w fun e w' => e = .returned (.int .i64 (bnd n lo hi)) ∧ w' = w := by
  by_cases h1 : n < lo
  · have Hb : Hid (bnd n lo hi = lo) := if_pos h1
    go_enter Try.func49, Try.ntmps49
    go_wp2
    go_ret
    exact ⟨ret_int Hb.out.symm, rfl⟩
  · by_cases h2 : hi < n
    · have Hb : Hid (bnd n lo hi = hi) := by unfold bnd; rw [if_neg h1, if_pos h2]; exact rfl
      go_enter Try.func49, Try.ntmps49
      go_wp2
      go_ret
      exact ⟨ret_int Hb.out.symm, rfl⟩
    · have Hb : Hid (bnd n lo hi = n) := by unfold bnd; rw [if_neg h1, if_neg h2]; exact rfl
      go_enter Try.func49, Try.ntmps49
      go_wp2
      go_ret
      exact ⟨ret_int Hb.out.symm, rfl⟩

def prt (n : Int) : Int := if n < 0 then (-(n + 1)) % 64 else n % 64

theorem prt_le (n : Int) : 0 ≤ prt n ∧ prt n ≤ 63 := by unfold prt; split <;> omega

theorem neg_tmod64 (n : Int) (h : n < 0) : -((n + 1).tmod 64) = (-(n + 1)) % 64 := by
  rw [← Int.neg_tmod, Int.tmod_eq_emod_of_nonneg (by omega)]

set_option maxHeartbeats 400000 in
theorem part_any (n : Int) (h1 : -9223372036854775808 ≤ n) (h2 : n ≤ 9223372036854775807) (w : World) : Calls Try.prog 56 #[.int .i64 n] w fun e w' => e = .returned (.int .i64 (prt n)) ∧ w' = w := by
  by_cases hn : n < 0
  · have Hp : Hid (prt n = (-(n + 1)) % 64) := if_pos hn
    have Hm := hidI (neg_tmod64 n hn)
    go_enter Try.func56, Try.ntmps56
    go_wp2
    go_ret
    exact ⟨ret_int (by rw [Hp.out]; first | exact Hm.out | rfl), rfl⟩
  · have Hp : Hid (prt n = n % 64) := if_neg hn
    go_enter Try.func56, Try.ntmps56
    go_wp2
    go_ret
    exact ⟨ret_int (by rw [Hp.out]), rfl⟩

set_option maxHeartbeats 400000 in
theorem partR_any (n : Int) (h1 : -9223372036854775808 ≤ n) (h2 : n ≤ 9223372036854775807) (w : World) : Calls Try.prog 57 #[.int .i64 n] w fun e w' => e = .returned (.int .i64 (prt n)) ∧ w' = w := by
  by_cases hn : n < 0
  · have Hp : Hid (prt n = (-(n + 1)) % 64) := if_pos hn
    have Hm := hidI (neg_tmod64 n hn)
    go_enter Try.func57, Try.ntmps57
    go_wp2
    go_ret
    exact ⟨ret_int (by rw [Hp.out]; first | exact Hm.out | rfl), rfl⟩
  · have Hp : Hid (prt n = n % 64) := if_neg hn
    go_enter Try.func57, Try.ntmps57
    go_wp2
    go_ret
    exact ⟨ret_int (by rw [Hp.out]), rfl⟩

theorem hidI2 {p : Prop} (h : p) : Hid p := h

theorem rep_get (n j : Nat) (x : UInt8) (h : j < n) : (List.replicate n x).getD j 0 = x := by simp [List.getD, h]

/-- 64 bytes 0xff. -/
def ff : List UInt8 := List.replicate 64 255

theorem made64 : ∃ M : Array Value, (∀ W : World, (Instr.makeSlice 67 (.int .i64 64) (.int .i64 64)).run Try.prog W = .ok (.slice (some ⟨W.heap.size, 0, none⟩) 64 64) (W.alloc (.cells M 5))) ∧ ∀ W : World, (W.alloc (.cells M 5)).rowIs W.heap.size 5 64 (fun _ => .int .u8 0) :=
  ⟨madeCells #[Value.int .u8 0] 64, fun W => run_make_row' (P := Try.prog) 67 5 (.int .u8 0) 1 Try.underlying67 Try.info5 rfl .i64 .i64 64 (by omega) (by omega) W, fun W => World.rowIs_made W (.int .u8 0) 64 5⟩

theorem row_str {w : World} {b n c : Nat} {l : List UInt8} (h : w.rowIs b 5 n (fun j => .int .u8 ((l.getD j 0).toNat : Nat))) (hl : l.length = n) : (convert 67 9 (.slice (some ⟨b, 0, none⟩) n c)).run Try.prog w = .ok (.string (txt l)) w := by
  have hc := run_convert_bytes_arg (P := Try.prog) w 67 5 Try.underlying67 Try.underlying5 b 0 n c (l.map fun b => (b.toNat : Int)) (by simpa using hl) (fun i hi => by
    rw [Nat.zero_add, h.cell hi]
    have : i < l.length := by omega
    simp [List.getD, this]) 9 Try.underlying9
  rw [strOfNums_bytes] at hc
  exact hc

set_option maxRecDepth 100000 in
set_option maxHeartbeats 400000 in
theorem erased_any (w : World) : Calls Try.prog 50 #[] w fun e w' => e = .returned (.string (txt ff)) ∧ Below w.heap.size w w' := by
  obtain ⟨M, hmk, hM⟩ := made64
  have h0 := hM w
  have hb0 : Below w.heap.size w (w.alloc (.cells M 5)) := (Below.refl _ _).alloc (Nat.le_refl _) _
  clear hM
  obtain ⟨x, hx⟩ : ∃ x, x = txt ff := ⟨_, rfl⟩
  have Hx := hidI hx
  rw [← hx]
  clear hx
  go_enter Try.func50, Try.ntmps50
  go_wp2
  clear hmk
  go_loopw [2] (fun i wr => ∃ k : Nat, k ≤ 64 ∧ i = .int .i64 k ∧ wr.rowIs w.heap.size 5 64 (fun j => if j < k then .int .u8 255 else .int .u8 0) ∧ Below w.heap.size w wr) (fun i _ => 64 - (intOf i).toNat)
  case atStart => exact ⟨0, by omega, rfl, by simpa using h0, hb0⟩
  case round =>
    clear h0 hb0
    obtain ⟨k, hk, rfl, hrow, hb⟩ := hrel
    by_cases hlt : k < 64
    · have hc := hrow.cell hlt
      have hf := hrow.frozen k
      have hrow' : (wr.setCell ⟨w.heap.size, k, none⟩ (.int .u8 255)).rowIs w.heap.size 5 64 (fun j => if j < k + 1 then .int .u8 255 else .int .u8 0) := (hrow.set k _).congr fun j hj => by
        by_cases e : j = k
        · rw [if_pos e, if_pos (by omega)]
        · rw [if_neg e]
          by_cases e2 : j < k
          · rw [if_pos e2, if_pos (by omega)]
          · rw [if_neg e2, if_neg (by omega)]
      rw [if_neg (by omega)] at hc
      have hb' := hb.setCell (p := ⟨w.heap.size, k, none⟩) (Nat.le_refl _) (.int .u8 255)
      clear hrow hb
      go_wp2
      go_roundw
      case rel => exact ⟨k + 1, by omega, by go_num, hrow', hb'⟩
      case measure => simp [intOf]; omega
    · have hk64 : k = 64 := by omega
      subst hk64
      have hcv := row_str (c := 64) (l := ff) (hrow.congr fun j hj => by rw [if_pos hj, show ff.getD j 0 = 255 from rep_get 64 j 255 hj]; rfl) (List.length_replicate ..)
      rw [← Hx.out] at hcv
      go_wp2
      go_ret
      exact ⟨rfl, hb⟩

theorem pad_length (l : List UInt8) (h : l.length ≤ 64) : (pad l).length = 64 := by unfold pad; simp; omega

theorem pad_get (l : List UInt8) (h : l.length ≤ 64) (j : Nat) (hj : j < 64) : (pad l).getD j 0 = if j < l.length then l.getD j 0 else 255 := by
  unfold pad
  simp only [List.getD]
  by_cases e : j < l.length
  · rw [if_pos e, List.getElem?_append_left e]
  · rw [if_neg e, List.getElem?_append_right (by omega)]
    have : j - l.length < 64 - l.length := by omega
    simp [this]

theorem pad_take (l : List UInt8) (n : Nat) (h : n ≤ l.length) (h2 : n ≤ 64) : pad (l.take n) = l.take n ++ ff.drop n := by
  unfold pad ff
  rw [List.length_take, Nat.min_eq_left h, List.drop_replicate]

set_option maxRecDepth 100000 in
set_option maxHeartbeats 800000 in
theorem front_any (s : List UInt8) (n : Nat) (hn : n ≤ 64) (hs : n ≤ s.length) (hb : s.length ≤ 140737488351232) (w : World) :
    Calls Try.prog 55 #[.string (txt s), .int .i64 (n : Nat)] w fun e w' => e = .returned (.string (txt (pad (s.take n)))) ∧ Below w.heap.size w w' := by
  have hse : (txt s).size = s.length := txt_size s
  have hfe : (txt ff).size = 64 := by rw [txt_size]; simp [ff]
  have hres : (txt s).extract 0 n ++ (txt ff).extract n (txt ff).size = txt (pad (s.take n)) := by
    rw [pad_take s n hs hn, txt_extract, txt_extract, hfe]
    apply ByteArray.ext
    simp [txt]
    rw [List.take_of_length_le (by simp [ff])]
  have Hres := hidI hres
  obtain ⟨t, ht⟩ : ∃ t, t = txt s := ⟨_, rfl⟩
  obtain ⟨u, hu⟩ : ∃ u, u = txt ff := ⟨_, rfl⟩
  have Her := hidI erased_any
  rw [← ht] at hse Hres ⊢
  rw [← hu] at hfe Hres Her
  have hs1 : n ≤ t.size := by omega
  have hs2 : t.size ≤ 140737488351232 := by omega
  have hu1 : n ≤ u.size := by omega
  have hu2 : u.size ≤ 64 := by omega
  have hi1 : (n : Int) ≤ (t.size : Int) := by omega
  have hi2 : (n : Int) ≤ (u.size : Int) := by omega
  clear ht hu hse hfe hres
  have hes : ¬ 9223372036854775807 < (t.extract 0 n).size + (u.extract n u.size).size := by
    have h1 : (t.extract 0 n).size ≤ t.size := by rw [ByteArray.size_extract]; omega
    have h2 : (u.extract n u.size).size ≤ u.size := by rw [ByteArray.size_extract]; omega
    omega
  go_enter Try.func55, Try.ntmps55
  go_wp2_with fail
  refine (Her.out _).mono ?_
  rintro e w1 ⟨rfl, hb1⟩
  go_wp2
  go_region
  go_wp2
  go_ret
  exact ⟨ret_string Hres.out, hb1.drew⟩

theorem setRow_row {w : World} {g : Nat} {cur : Array Value} {t : TypeId} {Y : Array Value} {f : Nat → Value} {n : Nat} (hg : w.heap[g]? = some (.cells cur t (0, 0))) (hn : Y.size = n) (hY : ∀ i, i < n → Y[i]? = some (f i)) : (w.setRow g Y).rowIs g t n f :=
  ⟨Y, setRow_heap w g cur Y t (0, 0) hg, hn, hY⟩

set_option maxRecDepth 100000 in
set_option maxHeartbeats 800000 in
theorem filled_any (s : List UInt8) (hs : s.length ≤ 64) (w : World) :
    Calls Try.prog 77 #[.string (txt s)] w fun e w' => e = .returned (.string (txt (pad s))) ∧ Below w.heap.size w w' := by
  obtain ⟨M, hmk, hM⟩ := made64
  have h0 := hM w
  have hb0 : Below w.heap.size w (w.alloc (.cells M 5)) := (Below.refl _ _).alloc (Nat.le_refl _) _
  clear hM
  have hinfo : (Try.prog.info? 5).map (·.size) = some 1 := by kernel_rfl
  have hse : (txt s).size = s.length := txt_size s
  have hdl : (txt s).data.toList = s := rfl
  obtain ⟨t, ht⟩ : ∃ t, t = txt s := ⟨_, rfl⟩
  rw [← ht] at hse hdl ⊢
  have ht64 : t.size ≤ 64 := by omega
  have Hse := hidI hse
  have Hdl := hidI hdl
  obtain ⟨x, hx⟩ : ∃ x, x = txt (pad s) := ⟨_, rfl⟩
  have Hx := hidI hx
  rw [← hx]
  clear hx ht hse hdl
  go_enter Try.func77, Try.ntmps77
  go_wp2
  clear hmk
  go_loopw [4] (fun i wr => ∃ k : Nat, k ≤ 64 ∧ i = .int .i64 k ∧ wr.rowIs w.heap.size 5 64 (fun j => if j < k then .int .u8 255 else .int .u8 0) ∧ Below w.heap.size w wr) (fun i _ => 64 - (intOf i).toNat)
  case atStart => exact ⟨0, by omega, rfl, by simpa using h0, hb0⟩
  case round =>
    clear h0 hb0
    obtain ⟨k, hk, rfl, hrow, hb⟩ := hrel
    by_cases hlt : k < 64
    · have hc := hrow.cell hlt
      have hf := hrow.frozen k
      have hrow' : (wr.setCell ⟨w.heap.size, k, none⟩ (.int .u8 255)).rowIs w.heap.size 5 64 (fun j => if j < k + 1 then .int .u8 255 else .int .u8 0) := (hrow.set k _).congr fun j hj => by
        by_cases e : j = k
        · rw [if_pos e, if_pos (by omega)]
        · rw [if_neg e]
          by_cases e2 : j < k
          · rw [if_pos e2, if_pos (by omega)]
          · rw [if_neg e2, if_neg (by omega)]
      rw [if_neg (by omega)] at hc
      have hb' := hb.setCell (p := ⟨w.heap.size, k, none⟩) (Nat.le_refl _) (.int .u8 255)
      clear hrow hb
      go_wp2
      go_roundw
      case rel => exact ⟨k + 1, by omega, by go_num, hrow', hb'⟩
      case measure => simp [intOf]; omega
    · have hk64 : k = 64 := by omega
      subst hk64
      obtain ⟨cur, hg, hcs, hcf⟩ := hrow
      have hcp := Lib.run_copy_row_string (P := Try.prog) wr 67 9 3 5 w.heap.size 0 64 64 t cur 5 Try.underlying67 hinfo hg (by omega) (by omega)
      obtain ⟨Y, hY⟩ : ∃ Y, Y = (cur.toList.take 0 ++ Lib.byteCells t.data.toList ++ cur.toList.drop (0 + t.size)).toArray := ⟨_, rfl⟩
      rw [← hY] at hcp
      have hYr : (wr.setRow w.heap.size Y).rowIs w.heap.size 5 64 (fun j => .int .u8 (((pad s).getD j 0).toNat : Nat)) := by
        have hbl : (Lib.byteCells t.data.toList).length = s.length := by rw [Lib.byteCells_length, Hdl.out]
        have hcl : cur.toList.length = 64 := by rw [Array.length_toList]; exact hcs
        refine setRow_row hg ?_ fun i hi => ?_
        · rw [hY, List.size_toArray, List.take_zero, List.nil_append, List.length_append, List.length_drop, hbl, hcl, Hse.out]; omega
        · rw [hY, List.getElem?_toArray, List.take_zero, List.nil_append, pad_get s hs i hi]
          by_cases e : i < s.length
          · rw [if_pos e, List.getElem?_append_left (by omega)]
            unfold Lib.byteCells
            rw [Hdl.out]
            simp [List.getD, e]
          · rw [if_neg e, List.getElem?_append_right (by omega), hbl, List.getElem?_drop, Hse.out, show 0 + s.length + (i - s.length) = i by omega, Array.getElem?_toList, hcf i hi]
            show some (if i < 64 then Value.int .u8 255 else .int .u8 0) = _
            rw [if_pos hi]; rfl
      have hcv := row_str (c := 64) hYr (pad_length s hs)
      rw [← Hx.out] at hcv
      have hB : Below w.heap.size w (wr.setRow w.heap.size Y) := below_setRow hb (Nat.le_refl _) Y
      clear hY hcf
      go_wp2
      go_ret
      exact ⟨rfl, hB⟩
end Go.Proofs.Ytodmdkhdbfbfgaa
