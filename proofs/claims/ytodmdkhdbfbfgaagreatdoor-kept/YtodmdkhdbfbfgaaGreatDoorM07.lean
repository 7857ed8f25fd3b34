/- Lemmas and contracts for kept. -/
import Derived.Lib.BufferWrite
import Derived.Deep.RegionHeld3
import Derived.Maps.RangeWalk
import Derived.Laws.OwnMore
import Derived.Laws.CopyOwn
import Derived.Lib.SliceRun
import Derived.Test.YtodmdkhdbfbfgaaGreatDoorM06
import Derived.Test.YtodmdkhdbfbfgaaGreatDoorM04
import Derived.Test.YtodmdkhdbfbfgaaGreatDoorM03
import Derived.Test.YtodmdkhdbfbfgaaGreatDoorM00
set_option maxRecDepth 100000
set_option maxHeartbeats 8000000
namespace Go.Proofs.YtodmdkhdbfbfgaaGreatDoor.S1
open Go.RowKit Pk
set_option linter.unusedVariables false
def bnd (n lo hi : Int) : Int := if n < lo then lo else if hi < n then hi else n
theorem bnd_le (n lo hi : Int) (h : lo ≤ hi) : lo ≤ bnd n lo hi ∧ bnd n lo hi ≤ hi := by unfold bnd; split <;> (try split) <;> omega
theorem bound_any (n lo hi : Int) (h : lo ≤ hi) (w : World) : Calls Tryz.prog 36 #[.int .i64 n, .int .i64 lo, .int .i64 hi] w fun e w' => e = .returned (.int .i64 (bnd n lo hi)) ∧ w' = w := by
 by_cases h1 : n < lo
 ·have Hb : Hid (bnd n lo hi = lo) := if_pos h1
  go_enter Tryz.func36, Tryz.ntmps36
  go_wp2
  all_goals go_ret
  all_goals exact ⟨ret_int (by rw [Hb.out] <;> omega), rfl⟩
 ·by_cases h2 : hi < n
  ·have Hb : Hid (bnd n lo hi = hi) := by unfold bnd; rw [if_neg h1, if_pos h2]; exact rfl
   go_enter Tryz.func36, Tryz.ntmps36
   go_wp2
   all_goals go_ret
   all_goals exact ⟨ret_int (by rw [Hb.out] <;> omega), rfl⟩
  ·have Hb : Hid (bnd n lo hi = n) := by unfold bnd; rw [if_neg h1, if_neg h2]; exact rfl
   go_enter Tryz.func36, Tryz.ntmps36
   go_wp2
   all_goals go_ret
   all_goals exact ⟨ret_int (by rw [Hb.out] <;> omega), rfl⟩
theorem made64 : ∃ M : Array Value, (∀ W : World, (Instr.makeSlice 111 (.int .i64 64) (.int .i64 64)).run Tryz.prog W = .ok (.slice (some ⟨W.heap.size, 0, none⟩) 64 64) (W.alloc (.cells M 5))) ∧ ∀ W : World, (W.alloc (.cells M 5)).rowIs W.heap.size 5 64 (fun _ => .int .u8 0) :=
 ⟨madeCells #[Value.int .u8 0] 64, fun W => run_make_row' (P := Tryz.prog) 111 5 (.int .u8 0) 1 Tryz.underlying111 Tryz.info5 rfl .i64 .i64 64 (by omega) (by omega) W, fun W => World.rowIs_made W (.int .u8 0) 64 5⟩
theorem row_str {w : World} {b n c : Nat} {l : List UInt8} (h : w.rowIs b 5 n (fun j => .int .u8 ((l.getD j 0).toNat : Nat))) (hl : l.length = n) : (convert 111 9 (.slice (some ⟨b, 0, none⟩) n c)).run Tryz.prog w = .ok (.string (txt l)) w := by
 have hc := run_convert_bytes_arg (P := Tryz.prog) w 111 5 Tryz.underlying111 Tryz.underlying5 b 0 n c (l.map fun b => (b.toNat : Int)) (by simpa using hl) (fun i hi => by
  rw [Nat.zero_add, h.cell hi]
  have : i < l.length := by omega
  simp [List.getD, this]) 9 Tryz.underlying9
 rw [strOfNums_bytes] at hc
 exact hc
theorem pad_length (l : List UInt8) (h : l.length ≤ 64) : (pad l).length = 64 := by unfold pad; simp; omega
theorem pad_get (l : List UInt8) (h : l.length ≤ 64) (j : Nat) (hj : j < 64) : (pad l).getD j 0 = if j < l.length then l.getD j 0 else 255 := by
 unfold pad
 simp only [List.getD]
 by_cases e : j < l.length
 ·rw [if_pos e, List.getElem?_append_left e]
 ·rw [if_neg e, List.getElem?_append_right (by omega)]
  have : j - l.length < 64 - l.length := by omega
  simp [this]
theorem setRow_row {w : World} {g : Nat} {cur : Array Value} {t : TypeId} {Y : Array Value} {f : Nat → Value} {n : Nat} (hg : w.heap[g]? = some (.cells cur t (0, 0))) (hn : Y.size = n) (hY : ∀ i, i < n → Y[i]? = some (f i)) : (w.setRow g Y).rowIs g t n f :=
 ⟨Y, setRow_heap w g cur Y t (0, 0) hg, hn, hY⟩
theorem filled_any (s : List UInt8) (hs : s.length ≤ 64) (w : World) :
 Calls Tryz.prog 196 #[.string (txt s)] w fun e w' => e = .returned (.string (txt (pad s))) ∧ Below w.heap.size w w' := by
 obtain ⟨M, hmk, hM⟩ := made64
 have h0 := hM w
 have hb0 : Below w.heap.size w (w.alloc (.cells M 5)) := (Below.refl _ _).alloc (Nat.le_refl _) _
 clear hM
 have hinfo : (Tryz.prog.info? 5).map (·.size) = some 1 := by kernel_rfl
 have hse : (txt s).size = s.length := txt_size s
 have hdl : (txt s).data.toList = s := rfl
 obtain ⟨t, ht⟩ : ∃ t, t = txt s := ⟨_, rfl⟩
 rw [← ht] at hse hdl ⊢
 have ht64 : t.size ≤ 64 := by omega
 have Hse := hidI hse
 have Hdl := hidI hdl
 obtain ⟨x, hx⟩ : ∃ x, x = txt (pad s) := ⟨_, rfl⟩
 have Hx := hidI hx
 rw [← hx]
 clear hx ht hse hdl
 go_enter Tryz.func196, Tryz.ntmps196
 go_wp2
 clear hmk
 go_loopw [4] (fun i wr => ∃ k : Nat, k ≤ 64 ∧ i = .int .i64 k ∧ wr.rowIs w.heap.size 5 64 (fun j => if j < k then .int .u8 255 else .int .u8 0) ∧ Below w.heap.size w wr) (fun i _ => 64 - (intOf i).toNat)
 case atStart => exact ⟨0, by omega, rfl, by simpa using h0, hb0⟩
 case round =>
  clear h0 hb0
  obtain ⟨k, hk, rfl, hrow, hb⟩ := hrel
  by_cases hlt : k < 64
  ·have hc := hrow.cell hlt
   have hf := hrow.frozen k
   have hrow' : (wr.setCell ⟨w.heap.size, k, none⟩ (.int .u8 255)).rowIs w.heap.size 5 64 (fun j => if j < k + 1 then .int .u8 255 else .int .u8 0) := (hrow.set k _).congr fun j hj => by
    by_cases e : j = k
    ·rw [if_pos e, if_pos (by omega)]
    ·rw [if_neg e]
     by_cases e2 : j < k
     ·rw [if_pos e2, if_pos (by omega)]
     ·rw [if_neg e2, if_neg (by omega)]
   rw [if_neg (by omega)] at hc
   have hb' := hb.setCell (p := ⟨w.heap.size, k, none⟩) (Nat.le_refl _) (.int .u8 255)
   clear hrow hb
   go_wp2
   go_roundw
   case rel => exact ⟨k + 1, by omega, by go_num, hrow', hb'⟩
   case measure => simp [intOf]; omega
  ·have hk64 : k = 64 := by omega
   subst hk64
   obtain ⟨cur, hg, hcs, hcf⟩ := hrow
   have hcp := Lib.run_copy_row_string (P := Tryz.prog) wr 111 9 3 5 w.heap.size 0 64 64 t cur 5 Tryz.underlying111 hinfo hg (by omega) (by omega)
   obtain ⟨Y, hY⟩ : ∃ Y, Y = (cur.toList.take 0 ++ Lib.byteCells t.data.toList ++ cur.toList.drop (0 + t.size)).toArray := ⟨_, rfl⟩
   rw [← hY] at hcp
   have hYr : (wr.setRow w.heap.size Y).rowIs w.heap.size 5 64 (fun j => .int .u8 (((pad s).getD j 0).toNat : Nat)) := by
    have hbl : (Lib.byteCells t.data.toList).length = s.length := by rw [Lib.byteCells_length, Hdl.out]
    have hcl : cur.toList.length = 64 := by rw [Array.length_toList]; exact hcs
    refine setRow_row hg ?_ fun i hi => ?_
    ·rw [hY, List.size_toArray, List.take_zero, List.nil_append, List.length_append, List.length_drop, hbl, hcl, Hse.out]; omega
    ·rw [hY, List.getElem?_toArray, List.take_zero, List.nil_append, pad_get s hs i hi]
     by_cases e : i < s.length
     ·rw [if_pos e, List.getElem?_append_left (by omega)]
      unfold Lib.byteCells
      rw [Hdl.out]
      simp [List.getD, e]
     ·rw [if_neg e, List.getElem?_append_right (by omega), hbl, List.getElem?_drop, Hse.out, show 0 + s.length + (i - s.length) = i by omega, Array.getElem?_toList, hcf i hi]
      show some (if i < 64 then Value.int .u8 255 else .int .u8 0) = _
      rw [if_pos hi]; rfl
   have hcv := row_str (c := 64) hYr (pad_length s hs)
   rw [← Hx.out] at hcv
   have hB : Below w.heap.size w (wr.setRow w.heap.size Y) := below_setRow hb (Nat.le_refl _) Y
   clear hY hcf
   go_wp2
   go_ret
   exact ⟨rfl, hB⟩
end Go.Proofs.YtodmdkhdbfbfgaaGreatDoor.S1
namespace Go.Proofs.YtodmdkhdbfbfgaaGreatDoor
open Go.RowKit Go.Nt
set_option linter.unusedVariables false
theorem madeN (n : Nat) (h : n ≤ 1000000) : ∃ M : Array Value, (∀ W : World, (Instr.makeSlice 111 (.int .i64 n) (.int .i64 n)).run Tryz.prog W = .ok (.slice (some ⟨W.heap.size, 0, none⟩) n n) (W.alloc (.cells M 5))) ∧ ∀ W : World, (W.alloc (.cells M 5)).rowIs W.heap.size 5 n (fun _ => .int .u8 0) :=
 ⟨madeCells #[Value.int .u8 0] n, fun W => run_make_row' (P := Tryz.prog) 111 5 (.int .u8 0) 1 Tryz.underlying111 Tryz.info5 rfl .i64 .i64 n (by omega) (by omega) W, fun W => World.rowIs_made W (.int .u8 0) n 5⟩
theorem bytes_any (c n : Int) (w : World) (h1 : -9223372036854775808 ≤ c) (h2 : c ≤ 9223372036854775807) (h3 : -9223372036854775808 ≤ n) (h4 : n ≤ 9223372036854775807) :
 Calls Tryz.prog 35 #[.int .i64 c, .int .i64 n] w fun e w' => ∃ d : Bs, e = .returned (.string (txt d)) ∧ d.length ≤ 99 ∧ Below w.heap.size w w' := by
 have hP1 := fun w => pick_any n 100 w h3 h4 (by decide) (by decide)
 have hP2 := fun w => pick_any c 1073741824 w h1 h2 (by decide) (by decide)
 have hP3 := fun w => pick_any c 26 w h1 h2 (by decide) (by decide)
 have hk1 := pickF_lt n 100 (by decide)
 have hk2 := pickF_lt c 1073741824 (by decide)
 have hk3 := pickF_lt c 26 (by decide)
 obtain ⟨m, hm⟩ : ∃ m, m = pickF n 100 := ⟨_, rfl⟩
 obtain ⟨x0, hx0⟩ : ∃ x, x = pickF c 1073741824 := ⟨_, rfl⟩
 obtain ⟨p, hp⟩ : ∃ x, x = pickF c 26 := ⟨_, rfl⟩
 rw [← hm] at hP1 hk1
 rw [← hx0] at hP2 hk2
 rw [← hp] at hP3 hk3
 clear hm hx0 hp
 have HP1 := hidI hP1
 have HP2 := hidI hP2
 have HP3 := hidI hP3
 clear hP1 hP2 hP3
 obtain ⟨M, hmk, hM⟩ := madeN m (by omega)
 have h0 := hM w
 have hb0 : Below w.heap.size w (w.alloc (.cells M 5)) := (Below.refl _ _).alloc (Nat.le_refl _) _
 clear hM
 go_enter Tryz.func35, Tryz.ntmps35
 go_wp2_with fail
 refine (HP1.out _).mono ?_
 rintro e w' ⟨rfl, hw⟩
 have hw' := hw.symm
 subst hw'
 clear hw
 go_wp2_with fail
 refine (HP2.out _).mono ?_
 rintro e w' ⟨rfl, hw⟩
 have hw' := hw.symm
 subst hw'
 clear hw hmk
 go_wp2_with fail
 go_loopw [7, 8] (fun x i wr => ∃ (k y : Nat) (l : Bs), k ≤ m ∧ y < 2147483648 ∧ l.length = m ∧ x = .int .i64 y ∧ i = .int .i64 k ∧ wr.rowIs w.heap.size 5 m (fun j => .int .u8 ((l.getD j 0).toNat : Nat)) ∧ Below w.heap.size w wr) (fun _ i _ => m - (intOf i).toNat)
 case atStart => exact ⟨0, x0, List.replicate m 0, by omega, by omega, by simp, rfl, rfl, h0.congr fun j hj => by simp [List.getD, hj], hb0⟩
 case round =>
  clear h0 hb0
  obtain ⟨k, y, l, hk, hy, hl, rfl, rfl, hrow, hb⟩ := hrel
  by_cases hlt : k < m
  ·have hc := hrow.cell hlt
   have hf := hrow.frozen k
   obtain ⟨y', hy'⟩ : ∃ y' : Nat, y' = (y * 1103515245 + 12345) % 2147483648 := ⟨_, rfl⟩
   have hyl : y' < 2147483648 := by omega
   have e1 : ((y : Int) * 1103515245 + 12345).tmod 2147483648 = (y' : Nat) := by
    rw [Int.tmod_eq_emod_of_nonneg (by omega), hy']; omega
   obtain ⟨q, hq⟩ : ∃ q : Nat, q = y' / 65536 := ⟨_, rfl⟩
   have e2 : ((y' : Nat) : Int).tdiv 65536 = (q : Nat) := by
    rw [Int.tdiv_eq_ediv_of_nonneg (by omega), hq]; omega
   obtain ⟨z, hz⟩ : ∃ z : Nat, z = q % (1 + p) := ⟨_, rfl⟩
   have hzl : z < 26 := by have := Nat.mod_lt q (show 1 + p > 0 by omega); omega
   have e3 : ((q : Nat) : Int).tmod (1 + (p : Int)) = (z : Nat) := by
    rw [Int.tmod_eq_emod_of_nonneg (by omega), hz]; push_cast; rfl
   have hq0 : 0 ≤ (q : Int) := by omega
   have hq1 : (q : Int) ≤ 32768 := by omega
   have hrow' : (wr.setCell ⟨w.heap.size, k, none⟩ (.int .u8 (97 + (z : Nat)))).rowIs w.heap.size 5 m (fun j => .int .u8 (((l.set k (UInt8.ofNat (97 + z))).getD j 0).toNat : Nat)) := (hrow.set k _).congr fun j hj => by
    by_cases e : j = k
    ·subst e
     rw [if_pos rfl]
     have : j < l.length := by omega
     simp only [List.getD, List.getElem?_set_self this, Option.getD_some, UInt8.toNat_ofNat']
     congr 1; omega
    ·rw [if_neg e]
     simp only [List.getD]
     rw [List.getElem?_set_ne (by omega)]
   have hb' := hb.setCell (p := ⟨w.heap.size, k, none⟩) (Nat.le_refl _) (.int .u8 (97 + (z : Nat)))
   clear hrow hb hz hq hy'
   go_wp2_with fail
   refine (HP3.out _).mono ?_
   rintro e w' ⟨rfl, hw⟩
   have hw' := hw.symm
   subst hw'
   clear hw
   go_wp2
   go_roundw
   case rel => exact ⟨k + 1, y', l.set k (UInt8.ofNat (97 + z)), by omega, hyl, by simpa using hl, rfl, by go_num, hrow', hb'⟩
   case measure => simp [intOf]; omega
  ·have hkm : k = m := by omega
   subst hkm
   have hcv := S1.row_str (c := k) hrow hl
   clear hrow
   go_wp2
   go_ret
   exact ⟨l, rfl, by omega, hb⟩
end Go.Proofs.YtodmdkhdbfbfgaaGreatDoor
namespace Go.Proofs.YtodmdkhdbfbfgaaGreatDoor
open Go.RowKit Go.Nt
set_option linter.unusedVariables false
structure KT (l : List It) : Prop where
 item : ∀ x ∈ l, x.path ∈ names ∧ x.dir = folderB x.path ∧ x.data.length ≤ 99 ∧ okItem x = true
 nodup : (l.map (·.path)).Nodup
 dirs : ∀ p ∈ names, folderB p = true → ∃ x ∈ l, x.path = p
theorem par_names : ∀ p ∈ names, par p = [] ∨ (par p ∈ names ∧ folderB (par p) = true) := by decide
theorem ok_names : ∀ p ∈ names, okPath p = true := by decide
theorem nodup_len : ∀ {l m : List Bs}, l.Nodup → (∀ x ∈ l, x ∈ m) → l.length ≤ m.length
 | [], m, _, _ => Nat.zero_le _
 | x :: l, m, hn, hs => by
   have hx := hs x (by simp)
   have hn' := List.nodup_cons.1 hn
   have h1 := nodup_len (l := l) (m := m.erase x) hn'.2 fun y hy => (List.mem_erase_of_ne (fun e : y = x => hn'.1 (by rw [← e]; exact hy))).2 (hs y (by simp [hy]))
   rw [List.length_erase_of_mem hx] at h1
   have : 0 < m.length := List.length_pos_of_mem hx
   simp only [List.length_cons]
   omega
theorem KT.len {l : List It} (h : KT l) : l.length ≤ 12 := by
 have h1 : (l.map (·.path)).length ≤ names.length := nodup_len h.nodup fun p hp => by
  obtain ⟨x, hx, rfl⟩ := List.mem_map.1 hp
  exact (h.item x hx).1
 simpa [names] using h1
theorem KT.tree {l : List It} (h : KT l) : TreeP l := by
 refine ⟨by have := h.len; omega, fun x hx => (h.item x hx).2.2.2, h.nodup, fun x hx => ?_⟩
 rcases par_names _ (h.item x hx).1 with h1 | ⟨h1, h2⟩
 ·exact .inl h1
 ·obtain ⟨y, hy, hp⟩ := h.dirs _ h1 h2
  exact .inr (dirAt_iff.2 ⟨y, hy, hp, by rw [(h.item y hy).2.1, hp, h2]⟩)
theorem weigh_most {l : List It} {n : Nat} (h : ∀ x ∈ l, 16 + x.path.length + x.data.length ≤ n) : weigh l ≤ l.length * n := by
 unfold weigh
 induction l with
 | nil => simp
 | cons x t ih =>
   have h1 := h x (by simp)
   have h2 := ih fun y hy => h y (by simp [hy])
   simp only [List.map_cons, List.sum_cons, List.length_cons, Nat.succ_mul]
   omega
theorem KT.weighs {l : List It} (h : KT l) : weigh l ≤ 1440 := by
 have h1 := weigh_most (l := l) (n := 120) fun x hx => by have := name_len (h.item x hx).1; have := (h.item x hx).2.2.1; omega
 have := h.len
 omega
theorem KT.add {l : List It} {p d : Bs} {m t : Int} (h : KT l) (hp : p ∈ names) (hf : folderB p = false) (hn : ∀ x ∈ l, x.path ≠ p) (hd : d.length ≤ 99) (m0 : 0 ≤ m) (m1 : m ≤ 4095) (t0 : 0 ≤ t) (t1 : t ≤ 2147483647) : KT (l ++ [⟨p, false, d, m, t⟩]) := by
 refine ⟨fun x hx => ?_, ?_, fun q hq hqf => ?_⟩
 ·rcases List.mem_append.1 hx with hx | hx
  ·exact h.item x hx
  ·simp at hx
   subst hx
   refine ⟨hp, hf.symm, hd, ?_⟩
   unfold okItem
   simp [ok_names p hp, m0, m1, t0, t1]
   omega
 ·rw [List.map_append, List.nodup_append]
  refine ⟨h.nodup, by simp, fun a ha b hb => ?_⟩
  obtain ⟨y, hy, rfl⟩ := List.mem_map.1 ha
  simp at hb
  subst hb
  exact hn y hy
 ·obtain ⟨x, hx, e⟩ := h.dirs q hq hqf
  exact ⟨x, List.mem_append_left _ hx, e⟩
def kt0 : List It := [⟨[100], true, [], 5, 0⟩, ⟨[100, 47, 101], true, [], 0, 0⟩, ⟨[102], true, [], 0, 9⟩]
theorem kt0_ok : KT kt0 := ⟨by decide, by decide, by decide⟩
theorem kt0_own (w : World) : (w.alloc (.cells (its kt0).toArray 39)).ownsRow w.heap.size 39 5 (.slice (some ⟨w.heap.size, 0, none⟩) 3 3) 3 (its kt0) :=
 ⟨by decide, .inr ⟨w.heap.size, 3, _, rfl, Nat.le_refl _, heap_alloc_new w _, by decide, by decide, by decide, by rfl⟩⟩
end Go.Proofs.YtodmdkhdbfbfgaaGreatDoor
namespace Go.Proofs.YtodmdkhdbfbfgaaGreatDoor
open Go.RowKit Go.Nt
set_option linter.unusedVariables false
theorem below_grown {w w' : World} (h : Below w.heap.size w w') : w.grownBy w' none := ⟨h.os, h.tape, h.output, h.size, fun k hk _ => h.block k hk⟩
theorem clone_any (s : ByteArray) (w : World) (hs : s.size ≤ 1048576) : Calls Tryz.prog 72 #[.string s] w fun e w' => e = .returned (.string s) ∧ Below w.heap.size w w' := by
 have HC := hidI (Tryz.stringslite_Clone s w (by omega))
 go_enter Tryz.func72, Tryz.ntmps72
 go_wp2_with (go_at_call 122; refine HC.out.mono ?_; rintro e w' ⟨rfl, hb⟩)
 go_ret
 exact ⟨rfl, hb⟩
structure NewAt (l : List It) (k : Nat) : Prop where
 ok : ∀ x ∈ l.take k, okItem x = true
 nd : ((l.take k).map (·.path)).Nodup
theorem NewAt.next {l : List It} {k : Nat} {x : It} (h : NewAt l k) (hx : l[k]? = some x) (ho : okItem x = true) (hn : at? (l.take k) x.path = none) : NewAt l (k + 1) := by
 have e : l.take (k + 1) = l.take k ++ [x] := by rw [List.take_add_one, hx]; rfl
 refine ⟨fun y hy => ?_, ?_⟩
 ·rw [e] at hy
  rcases List.mem_append.1 hy with hy | hy
  ·exact h.ok y hy
  ·simp at hy; subst hy; exact ho
 ·rw [e, List.map_append, List.nodup_append]
  refine ⟨h.nd, by simp, fun a ha b hb => ?_⟩
  obtain ⟨y, hy, rfl⟩ := List.mem_map.1 ha
  simp at hb
  subst hb
  exact at_none.1 hn y hy
def RegAt (w W V : World) (l : List It) (k : Nat) : Prop := W.grownBy V (some w.heap.size) ∧ Below w.heap.size w V ∧ (TreeAt V w.heap.size (l.take k) ∨ TreeAt V w.heap.size (l.take (k + 1)))
theorem reg_call {w W V V' : World} {l : List It} {k : Nat} (h : Hid (RegAt w W V l k)) (hb : Below V.heap.size V V') : Hid (RegAt w W V' l k) := by
 obtain ⟨h1, h2, h3⟩ := h
 have hs := h2.size
 refine ⟨h1.trans ((below_grown hb).but _), h2.trans (hb.mono hs), ?_⟩
 rcases h3 with h | h
 ·exact .inl (h.below hb h.lt)
 ·exact .inr (h.below hb h.lt)
theorem reg_upd {w W V : World} {l : List It} {k : Nat} {x : It} (h : Hid (RegAt w W V l k)) (hn : NewAt l (k + 1)) (hx : l[k]? = some x) (hno : at? (l.take k) x.path = none) (hl : l.length ≤ 60) (hp : x.path.length ≤ maxLen) :
 ∃ V', (Instr.mapUpdate 77 (.map (some w.heap.size)) (.string (txt x.path)) (ndv (nd x))).run Tryz.prog V = .ok () V' ∧ Hid (RegAt w W V' l k) ∧ Hid (TreeAt V' w.heap.size (l.take (k + 1))) := by
 obtain ⟨h1, h2, h3⟩ := h
 have e : l.take (k + 1) = l.take k ++ [x] := by rw [List.take_add_one, hx]; rfl
 have hn1 : ((l.take k).map (·.path)).Nodup := by
  have := hn.nd
  rw [e, List.map_append] at this
  exact (List.nodup_append.1 this).1
 have fin : ∀ m, TreeAt V w.heap.size m → (m.map (·.path)).Nodup → m.length ≤ 60 → (∀ p, at? (setIt m x) p = at? (l.take (k + 1)) p) → ∃ V', (Instr.mapUpdate 77 (.map (some w.heap.size)) (.string (txt x.path)) (ndv (nd x))).run Tryz.prog V = .ok () V' ∧ Hid (RegAt w W V' l k) ∧ Hid (TreeAt V' w.heap.size (l.take (k + 1))) := by
  intro m hT hnd hm hsame
  obtain ⟨V', r1, ⟨D, o1, o2⟩, r3⟩ := hT.store hnd (by unfold maxLen; omega) x hp
  have hT' : TreeAt V' w.heap.size (l.take (k + 1)) := ⟨D, o1, o2.same hsame⟩
  exact ⟨V', r1, hidI ⟨h1.trans r3.grown, h2.grown r3.grown h2.size (fun q hq => by cases hq; exact Nat.le_refl _), .inr hT'⟩, hidI hT'⟩
 have hlen1 : (l.take k).length ≤ 60 := by rw [List.length_take]; omega
 have hlen2 : (l.take (k + 1)).length ≤ 60 := by rw [List.length_take]; omega
 rcases h3 with h | h
 ·refine fin _ h hn1 hlen1 (fun p => ?_)
  rw [at_snoc (at_none.1 hno), e]
 ·refine fin _ h hn.nd hlen2 (fun p => ?_)
  by_cases ep : p = x.path
  ·subst ep
   rw [at_set_same]
   exact (at_mem hn.nd (by rw [e]; simp)).symm
  ·rw [at_set_other ep]
def Five (V : World) (g : Nat) (x : It) : Prop :=
 V.cell? ⟨g, 0, none⟩ = some (.string (txt x.path)) ∧ V.cell? ⟨g, 1, none⟩ = some (.bool x.dir) ∧ V.cell? ⟨g, 2, none⟩ = some (.string (txt x.data)) ∧
 V.cell? ⟨g, 3, none⟩ = some (.int .i64 x.mode) ∧ V.cell? ⟨g, 4, none⟩ = some (.int .i64 x.time)
theorem ItAt.five {V : World} {g : Nat} {x : It} (h : ItAt V g 0 x) : Five V g x := by
 obtain ⟨h0, h1, h2, h3, h4⟩ := h
 rw [Nat.zero_add] at h1 h2 h3 h4
 exact ⟨h0, h1, h2, h3, h4⟩
theorem reg_five {w W V : World} {l : List It} {k g : Nat} {x : It} (h : Hid (RegAt w W V l k)) (hf : Hid (Five W g x)) (hg : g < W.heap.size) (hne : w.heap.size < g) : Five V g x := by
 have hb : V.heap[g]? = W.heap[g]? := h.out.1.block g hg (fun e => by cases e; omega)
 obtain ⟨h0, h1, h2, h3, h4⟩ := hf
 exact ⟨(World.cell?_of_block hb).trans h0, (World.cell?_of_block hb).trans h1, (World.cell?_of_block hb).trans h2, (World.cell?_of_block hb).trans h3, (World.cell?_of_block hb).trans h4⟩
theorem tree_all {l : List It} (h60 : l.length ≤ 60) (hok : ∀ x ∈ l, okItem x = true) (hnd : (l.map (·.path)).Nodup) (he : ∀ x ∈ l, enterE l x.path = 0) : isTree l = true := by
 have h1 : l.all okItem = true := List.all_eq_true.2 hok
 unfold isTree
 rw [entered_iff l h1, h1]
 have h2 : (l.all fun x => entered l x.path) = true := List.all_eq_true.2 fun x hx => by rw [enterE_zero l _ hnd, he x hx]; rfl
 rw [h2]
 simp [h60, hnd]
theorem tree_enter {l : List It} (hok : ∀ x ∈ l, okItem x = true) (hnd : (l.map (·.path)).Nodup) {x : It} (hx : x ∈ l) (he : enterE l x.path ≠ 0) : isTree l = false := by
 have h1 : l.all okItem = true := List.all_eq_true.2 hok
 unfold isTree
 rw [entered_iff l h1]
 have h2 : (l.all fun x => entered l x.path) = false := by
  cases h : l.all fun x => entered l x.path with
  | false => rfl
  | true =>
    have := List.all_eq_true.1 h x hx
    rw [enterE_zero l _ hnd] at this
    exact absurd (by simpa using this) he
 rw [h2]
 simp
theorem new_any (a : Option Addr) (c : Nat) (l : List It) (w : World) (hml : ML w) (hl : ItsIn w a l) (hn : l.length ≤ 1048576) (hp : ∀ x ∈ l, x.path.length ≤ 1048576) (hd : ∀ x ∈ l, x.data.length ≤ 1048576) :
 Calls Tryz.prog 41 #[.slice a l.length c] w fun e w' => Below w.heap.size w w' ∧
  ((isTree l = false ∧ e = .returned (.tuple #[.map none, .int .i64 3])) ∨ (isTree l = true ∧ ∃ b, e = .returned (.tuple #[.map (some b), .int .i64 0]) ∧ w.heap.size ≤ b ∧ TreeAt w' b l)) := by
 have Hl := hidI hl
 have Hp := hidI hp
 have Hd := hidI hd
 have Hml := hidI hml
 have h0 := hml.lt
 clear hl hp hml hd
 have hmm := run_make35
 by_cases h60 : l.length ≤ 60
 ·go_enter Tryz.func41, Tryz.ntmps41
  go_wp2
  go_loopw [18] (fun i wr => ∃ k : Nat, k ≤ l.length ∧ i = .int .i64 k ∧ Hid (NewAt l k) ∧ Hid (TreeAt wr w.heap.size (l.take k)) ∧ Hid (Below w.heap.size w wr)) (fun i _ => l.length - (intOf i).toNat)
  case atStart => exact ⟨0, Nat.zero_le _, rfl, hidI ⟨by simp, by simp⟩, hidI (made_tree w), hidI ((Below.refl _ w).alloc (Nat.le_refl _) _)⟩
  case round =>
   obtain ⟨k, hk, rfl, Hat, HT, Hb⟩ := hrel
   by_cases hlt : k < l.length
   ·obtain ⟨x, hx⟩ : ∃ x, l[k]? = some x := ⟨_, List.getElem?_eq_getElem hlt⟩
    obtain ⟨b, off, rfl, hc⟩ := (Hl.out.below Hb.out) (fun h => by rw [h] at hlt; simp at hlt)
    obtain ⟨x0, x1, x2, x3, x4⟩ := hc k x hx
    have hxp := Hp.out x (List.mem_of_getElem? hx)
    have hxd' := Hd.out x (List.mem_of_getElem? hx)
    have hszb := Hb.out.size
    have hTlt := HT.out.lt
    have Hx := hidI hx
    have hT1 : TreeAt (boxed wr x) w.heap.size (l.take k) := HT.out.of_block (Below.heap_alloc wr _ _ hTlt)
    have hpl : x.path.length ≤ maxLen := by unfold maxLen; omega
    cases ha : at? (l.take k) x.path with
    | some y =>
      have hlook := (hT1.look_some hpl ha).1
      have HR : Hid (isTree l = false) := by
       obtain ⟨hy, hyp⟩ := at_some ha
       obtain ⟨j', hj', hje⟩ := List.getElem_of_mem hy
       have hj2 : j' < k := by rw [List.length_take] at hj'; omega
       rw [List.getElem_take] at hje
       exact tree_twice (twice_at hx (List.getElem?_eq_getElem (by omega)) hj2 (by rw [hje]; exact hyp))
      unfold boxed ndv nd at hlook
      clear hx hc ha hT1
      go_wp2
      go_ret2
      exact ⟨(Hb.out.alloc hszb _).alloc (by simp; omega) _, .inl ⟨HR.out, rfl⟩⟩
    | none =>
      have hlook := (hT1.look_none hpl ha).1
      have Ha := hidI ha
      obtain ⟨W0, hW0⟩ : ∃ W0, W0 = (boxed wr x).alloc (.cells #[.bool false, .string (txt []), .int .i64 0, .int .i64 0] 117) := ⟨_, rfl⟩
      have hbW0 : Below w.heap.size w W0 := by rw [hW0]; exact (Hb.out.alloc hszb _).alloc (by simp; omega) _
      have HI := hidI (isItem_any x W0 (Hml.out.below hbW0 h0) hxp)
      rw [hW0] at HI
      unfold boxed itv at HI
      unfold boxed ndv at hlook
      obtain ⟨o, ho⟩ : ∃ o, o = okItem x := ⟨_, rfl⟩
      rw [← ho] at HI
      have Ho := hidI ho
      have HW0 := hidI hW0
      clear hx hc ha hT1 ho hW0
      go_wp2_with fail
      refine HI.out.mono ?_
      rintro e W ⟨hbW, rfl⟩
      have hbW' : Below (wr.heap.size + 2) W0 W := by
       rw [HW0.out]
       have h := hbW
       simp only [World.size_alloc] at h
       exact h
      have hs0 : W0.heap.size = wr.heap.size + 2 := by rw [HW0.out]; simp [boxed]
      have hsW := hbW'.size
      have HbW : Hid (Below w.heap.size w W) := hbW0.trans (hbW'.mono (by omega))
      cases o with
      | false =>
        have HR : Hid (isTree l = false) := tree_item (List.mem_of_getElem? Hx.out) Ho.out.symm
        clear hbW hbW' hlook x0 x1 x2 x3 x4 HI hs0 hbW0
        go_wp2
        go_ret2
        exact ⟨HbW.out, .inl ⟨HR.out, rfl⟩⟩
      | true =>
        have hgW : wr.heap.size < W.heap.size := by omega
        have hFW : ItAt W wr.heap.size 0 x := by
         have h1 : ItAt W0 wr.heap.size 0 x := by rw [HW0.out]; exact (boxed_at wr x).of_block (Below.heap_alloc _ _ _ (by simp [boxed]))
         exact h1.below hbW' (by omega)
        have HF := hidI hFW.five
        have HTW : Hid (TreeAt W w.heap.size (l.take k)) := by
         have h1 : TreeAt W0 w.heap.size (l.take k) := by rw [HW0.out]; exact (HT.out.of_block (w' := boxed wr x) (Below.heap_alloc wr _ _ hTlt)).of_block (Below.heap_alloc _ _ _ (by simp [boxed]; omega))
         exact h1.below hbW' (by omega)
        have HN1 : Hid (NewAt l (k + 1)) := Hat.out.next Hx.out Ho.out.symm Ha.out
        have hR0 : Hid (RegAt w W W.drew l k) := ⟨⟨rfl, rfl, rfl, Nat.le_refl _, fun _ _ _ => rfl⟩, HbW.out.drew, .inl (HTW.out.of_block rfl)⟩
        have HU : Hid (∀ V, Hid (RegAt w W V l k) → ∃ V', (Instr.mapUpdate 77 (.map (some w.heap.size)) (.string (txt x.path)) (.agg #[.bool x.dir, .string (txt x.data), .int .i64 x.mode, .int .i64 x.time])).run Tryz.prog V = .ok () V' ∧ Hid (RegAt w W V' l k) ∧ Hid (TreeAt V' w.heap.size (l.take (k + 1)))) :=
         fun V hV => reg_upd hV HN1.out Hx.out Ha.out h60 hpl
        have HCX := hidI (fun V => clone_any (txt x.path) V (by rw [txt_size]; exact hxp))
        have HCD := hidI (fun V => clone_any (txt x.data) V (by rw [txt_size]; exact hxd'))
        obtain ⟨f0, f1, f2, f3, f4⟩ := hFW.five
        clear hbW hbW' hlook x0 x1 x2 x3 x4 HI hs0 hbW0 hFW HTW Hat HT Hb HW0 Ho Ha
        clear hsW W0
        go_wp2_with fail
        go_region_held3 (fun V => Hid (RegAt w W V l k) ∧ V.cell? ⟨wr.heap.size, 0, none⟩ = some (.string (txt x.path)) ∧ V.cell? ⟨wr.heap.size, 1, none⟩ = some (.bool x.dir) ∧ V.cell? ⟨wr.heap.size, 2, none⟩ = some (.string (txt x.data)) ∧ V.cell? ⟨wr.heap.size, 3, none⟩ = some (.int .i64 x.mode) ∧ V.cell? ⟨wr.heap.size, 4, none⟩ = some (.int .i64 x.time)) (go_keep) (first
         | (go_at_call_of 72 (txt x.path); refine (HCX.out _).mono ?_; rintro e V ⟨rfl, hbV⟩; have HS := reg_call (w := w) (W := W) (l := l) (k := k) (by go_split_ands; assumption) hbV; obtain ⟨c0, c1, c2, c3, c4⟩ := reg_five HS HF hgW hTlt; obtain ⟨V', hupd, HS', HT'⟩ := HU.out V HS; obtain ⟨d0, d1, d2, d3, d4⟩ := reg_five HS' HF hgW hTlt)
         | (go_at_call_of 72 (txt x.data); refine (HCD.out _).mono ?_; rintro e V ⟨rfl, hbV⟩; have HS := reg_call (w := w) (W := W) (l := l) (k := k) (by go_split_ands; assumption) hbV; obtain ⟨c0, c1, c2, c3, c4⟩ := reg_five HS HF hgW hTlt; obtain ⟨V', hupd, HS', HT'⟩ := HU.out V HS; obtain ⟨d0, d1, d2, d3, d4⟩ := reg_five HS' HF hgW hTlt))
        all_goals
         have Hend : Hid (Below w.heap.size w V') := HS'.out.2.1
         clear c0 c1 c2 c3 c4 d0 d1 d2 d3 d4 hupd HS HS' hbV f0 f1 f2 f3 f4 HCX HCD HU hR0
         rename_i hHeld
         clear hHeld
         go_wp2
         go_roundw
         case rel => exact ⟨k + 1, by omega, by go_num, HN1, HT', Hend⟩
         case measure => simp [intOf]; omega
   ·have hke : k = l.length := by omega
    subst hke
    have HN : Hid (NewAt l l.length) := Hat
    have HT2 : Hid (TreeAt wr w.heap.size l) := by
     have h := HT.out
     rw [List.take_length] at h
     exact h
    have Hok : Hid (∀ x ∈ l, okItem x = true) := by
     have h := HN.out.ok
     rw [List.take_length] at h
     exact h
    have Hnd : Hid ((l.map (·.path)).Nodup) := by
     have h := HN.out.nd
     rw [List.take_length] at h
     exact h
    obtain ⟨D, ho, hh⟩ := HT2.out
    have Hh := hidI hh
    have Hown := hidI ho
    clear ho hh HT Hat HN
    go_wp2_with (first | (at_range; refine wpList_range_own _ rfl _ 77 rfl 9 117 law9 Tryz.underlying77 _ w.heap.size _ D rfl Hown.out ?_; intro w0 hrg0 hg0 hs0) | go_in)
    go_frame
    have Hb0 : Hid (Below w.heap.size w w0) := Hb.out.grown hg0 Hb.out.size (fun q hq => by cases hq)
    have Hrg0 := hidI hrg0
    have hwr := Hb.out.size
    clear hrg0 hg0 Hown HT2 hs0 Hb
    obtain ⟨r, hr⟩ : ∃ r, r = wr.heap.size := ⟨_, rfl⟩
    rw [← hr] at Hrg0 hwr ⊢
    clear hr
    go_loopw [9] (fun _ wx => ∃ (left : Lit → Bool) (cnt : Nat), wx.ranges Tryz.prog 9 ndOf w.heap.size r (Maps.size D) D left cnt ∧ Hid (∀ p, Maps.has D (.string p) = true → left (.string p) = false → enterE l p = 0) ∧ Hid (Below w.heap.size w wx))
     (fun _ wx => wx.rangeLeft w.heap.size r)
    case atStart => exact ⟨_, _, Hrg0.out, hidI (fun p h1 h2 => by rw [h1] at h2; cases h2), Hb0⟩
    case round =>
     obtain ⟨left, cnt, hrg, He, Hbx⟩ := hrel
     clear Hb0 Hrg0
     go_wp2_with (first | (at_next; refine wpList_next_ranges _ rfl _ rfl 9 law9 ndOf (fun x : Bs => .string (txt x)) id (fun key kl hk => by obtain ⟨x, hx, _⟩ := Maps.keyOf_str Tryz.underlying9 hk; exact ⟨x, hx⟩) (fun v _ _ => ⟨v, rfl⟩) w.heap.size r _ _ _ _ rfl hrg ?_ ?_) | go_in)
     ·intro _ hl0
      have HR : Hid (isTree l = true) := tree_all h60 Hok.out Hnd.out (fun x hx => He.out x.path (by rw [(Hh.out x.path).1, at_mem Hnd.out hx]; rfl) (hl0 _))
      have HTx : Hid (TreeAt _ w.heap.size l) := ⟨D, tight hrg.owns, Hh.out⟩
      go_wp2
      go_ret2
      exact ⟨Hbx.out, .inr ⟨HR.out, _, rfl, Nat.le_refl _, HTx.out⟩⟩
     ·intro p cv kl yd yp w2 cnt2 hkey hlk hv hat hrg2 hlt2 hg2 hs2 hen
      obtain ⟨p', ep, rfl, _⟩ := Maps.keyOf_str Tryz.underlying9 hkey
      obtain rfl : p = p' := by cases ep; rfl
      have hhas : Maps.has D (.string p) = true := Maps.has_true_of_atKey hat
      rw [(Hh.out p).1] at hhas
      obtain ⟨x, hx⟩ := Option.isSome_iff_exists.1 hhas
      obtain ⟨hxl, hxp⟩ := at_some hx
      have hpl : p.length ≤ 1048576 := by rw [← hxp]; exact Hp.out x hxl
      have hT2 : TreeAt w2 w.heap.size l := ⟨D, tight hrg2.owns, Hh.out⟩
      have HE := hidI (enter_any w.heap.size l p w2 hT2 hpl)
      have Hbx2 : Hid (Below w.heap.size w w2) := Hbx.out.grown hg2 Hbx.out.size (fun q hq => by cases hq; exact hwr)
      have hszx := Hbx2.out.size
      have Hrg2 := hidI hrg2
      have Hrg := hidI hrg
      have Hxl := hidI hxl
      have Hxp := hidI hxp
      obtain ⟨ee, hee⟩ : ∃ ee, ee = enterE l p := ⟨_, rfl⟩
      rw [← hee] at HE
      have Hee := hidI hee
      clear hee hat hv hkey hlk hg2 hs2 hrg2 hrg hT2 hhas hx hxl hxp ep
      by_cases h0e : ee = 0
      ·subst h0e
       go_wp2_with (go_at_call 73; refine HE.out.mono ?_; rintro e w3 ⟨hb3, rfl⟩)
       go_roundw
       case rel =>
        refine ⟨_, cnt2, Hrg2.out.kept (below_grown hb3) (by simp) (by simp), hidI (fun q h1 h2 => ?_), hidI (Hbx2.out.trans (hb3.mono hszx))⟩
        by_cases e : q = p
        ·rw [e]; exact Hee.out.symm
        ·refine He.out q h1 ?_
         have hs : Lit.sameKey (.string q) (.string p) = false := Maps.sameKey_ne (fun h => e (by cases h; rfl))
         rw [hs] at h2
         simpa using h2
       case measure =>
        rw [(Hrg2.out.kept (below_grown hb3) (by simp) (by simp)).left_eq, Hrg.out.left_eq]; exact hlt2
      ·have h0e' : (ee != 0) = true := bne_iff_ne.2 h0e
       have HR : Hid (isTree l = false) := tree_enter Hok.out Hnd.out Hxl.out (by rw [Hxp.out, ← Hee.out]; exact h0e)
       go_wp2_with (go_at_call 73; refine HE.out.mono ?_; rintro e w3 ⟨hb3, rfl⟩)
       go_ret2
       exact ⟨Hbx2.out.trans (hb3.mono hszx), .inl ⟨HR.out, rfl⟩⟩
 ·have HR : Hid (isTree l = false) := tree_long (by omega)
  go_enter Tryz.func41, Tryz.ntmps41
  go_wp2
  go_ret2
  exact ⟨Below.refl _ _, .inl ⟨HR.out, rfl⟩⟩
end Go.Proofs.YtodmdkhdbfbfgaaGreatDoor
namespace Go.Proofs.YtodmdkhdbfbfgaaGreatDoor
open Go.RowKit Go.Nt
set_option linter.unusedVariables false
theorem eql_it (x y : It) (w : World) : (binOp .eql 39 (itv x) (itv y)).run Tryz.prog w = .ok (.bool (decide (x = y))) w := by
 have h := eq_it x y w
 unfold itv at *
 rw [run_eql_struct, h]
 rfl
end Go.Proofs.YtodmdkhdbfbfgaaGreatDoor
namespace Go.Proofs.YtodmdkhdbfbfgaaGreatDoor
open Go.RowKit Go.Nt
set_option linter.unusedVariables false
theorem drewN_below {B : Nat} {w W : World} (h : Below B w W) (q : Nat) : Below B w (W.drewN q) := below_drewN h q
theorem khas_any (a : Option Addr) (c : Nat) (l : List It) (x : It) (w : World) (ha : ItsIn w a l) (hn : l.length ≤ 1048576) :
 Calls Tryz.prog 38 #[.slice a l.length c, itv x] w fun e w' => e = .returned (.bool (decide (x ∈ l))) ∧ Below w.heap.size w w' := by
 obtain ⟨W, hW⟩ : ∃ W, W = boxed w x := ⟨_, rfl⟩
 have hbW : Below w.heap.size w W := by rw [hW]; exact (Below.refl _ w).alloc (Nat.le_refl _) _
 have hat : ItAt W w.heap.size 0 x := by rw [hW]; exact boxed_at w x
 have Ha : Hid (ItsIn W a l) := hidI (ha.below hbW)
 have HW : Hid (W = w.alloc (.cells #[.string (txt x.path), .bool x.dir, .string (txt x.data), .int .i64 x.mode, .int .i64 x.time] 39)) := hidI hW
 have HB := hidI hbW
 obtain ⟨N, hN⟩ : ∃ N, N = l.length := ⟨_, rfl⟩
 rw [← hN] at hn ⊢
 have HN := hidI hN
 obtain ⟨g, hg⟩ : ∃ g, g = w.heap.size := ⟨_, rfl⟩
 obtain ⟨y0, y1, y2, y3, y4⟩ := hat
 rw [← hg] at y0 y1 y2 y3 y4
 have Hg := hidI hg
 rw [Nat.zero_add] at y1 y2 y3 y4
 clear hN hW ha hbW
 unfold itv
 go_enter Tryz.func38, Tryz.ntmps38
 go_wp2_with (first | (rw [← HW.out, ← hg]) | fail)
 clear hg
 go_loopw [5] (fun i wr => ∃ k : Nat, k ≤ N ∧ i = .int .i64 k ∧ (∃ q, wr = W.drewN q) ∧ Hid (x ∉ l.take k)) (fun i _ => N - (intOf i).toNat)
 case atStart => exact ⟨0, Nat.zero_le _, rfl, ⟨0, rfl⟩, hidI (by simp)⟩
 case round =>
  obtain ⟨k, hk, rfl, ⟨q, rfl⟩, Hn⟩ := hrel
  by_cases hlt : k < N
  ·have hkl : k < l.length := by have := HN.out; omega
   obtain ⟨b1, o1, rfl, h1⟩ := Ha.out (fun h => by rw [h] at hkl; simp at hkl)
   obtain ⟨y, hy⟩ : ∃ y, l[k]? = some y := ⟨_, List.getElem?_eq_getElem hkl⟩
   obtain ⟨x0, x1, x2, x3, x4⟩ := h1 k y hy
   have Hy := hidI hy
   have htk : l.take (k + 1) = l.take k ++ [y] := by rw [List.take_add_one, hy]; rfl
   have heql := fun w => eql_it y x w
   unfold itv at heql
   have hge := eqg
   by_cases e : y = x
   ·have ed : decide (y = x) = true := by simp [e]
    rw [ed] at heql
    have Hr : Hid (decide (x ∈ l) = true) := hidI (decide_eq_true (by rw [← e]; exact List.mem_of_getElem? hy))
    clear e ed h1 hy hkl htk
    go_wp2
    go_quiet (fail)
    go_wp2
    go_ret
    exact ⟨ret_bool Hr.out.symm, drewN_below (drewN_below HB.out _) _⟩
   ·have ed : decide (y = x) = false := by simp [e]
    rw [ed] at heql
    have Hn2 : Hid (x ∉ l.take (k + 1)) := hidI (by
     rw [htk, List.mem_append]
     rintro (h | h)
     ·exact Hn.out h
     ·simp at h; exact e h.symm)
    clear e ed h1 hy hkl htk
    go_wp2
    go_quiet (fail)
    go_wp2
    go_roundw
    case rel => exact ⟨k + 1, by omega, by go_num, ⟨_, rfl⟩, Hn2⟩
    case measure => simp [intOf]; omega
  ·have Hr : Hid (decide (x ∈ l) = false) := hidI (decide_eq_false fun h => Hn.out (by rw [List.take_of_length_le (by have := HN.out; omega)]; exact h))
   go_wp2
   go_ret
   exact ⟨ret_bool Hr.out.symm, drewN_below HB.out _⟩
def sameB (l m : List It) : Bool := decide (l.length = m.length) && l.all fun x => decide (x ∈ m)
theorem ksame_any (a b : Option Addr) (c d : Nat) (l m : List It) (w : World) (ha : ItsIn w a l) (hb : ItsIn w b m) (hn : l.length ≤ 1048576) (hm : m.length ≤ 1048576) :
 Calls Tryz.prog 13 #[.slice a l.length c, .slice b m.length d] w fun e w' => e = .returned (.bool (sameB l m)) ∧ Below w.heap.size w w' := by
 by_cases hlen : l.length = m.length
 ·obtain ⟨N, hN⟩ : ∃ N, N = m.length := ⟨_, rfl⟩
  rw [hlen, ← hN]
  have Hl := hidI (hlen.trans hN.symm)
  have Hm := hidI hN.symm
  have hN9 : N ≤ 1048576 := by omega
  have Ha := hidI ha
  have Hb := hidI hb
  have HH := hidI (fun (V : World) (x : It) (h : Below w.heap.size w V) => khas_any b d m x V (hb.below h) hm)
  rw [← hN] at HH
  clear hlen hN hn hm ha hb
  go_enter Tryz.func13, Tryz.ntmps13
  go_wp2
  go_loopw [5] (fun i wr => ∃ k : Nat, k ≤ N ∧ i = .int .i64 k ∧ Hid (Below w.heap.size w wr) ∧ Hid (∀ x ∈ l.take k, x ∈ m)) (fun i _ => N - (intOf i).toNat)
  case atStart => exact ⟨0, Nat.zero_le _, rfl, hidI (Below.refl _ _), hidI (by simp)⟩
  case round =>
   obtain ⟨k, hk, rfl, HB, Hn⟩ := hrel
   by_cases hlt : k < N
   ·have hkl : k < l.length := by have := Hl.out; omega
    obtain ⟨b1, o1, rfl, h1⟩ := (Ha.out.below HB.out) (fun h => by rw [h] at hkl; simp at hkl)
    obtain ⟨x, hx⟩ : ∃ x, l[k]? = some x := ⟨_, List.getElem?_eq_getElem hkl⟩
    obtain ⟨x0, x1, x2, x3, x4⟩ := h1 k x hx
    have Hx := hidI hx
    have htk : l.take (k + 1) = l.take k ++ [x] := by rw [List.take_add_one, hx]; rfl
    have Htk := hidI htk
    have A := hidI (HH.out wr x HB.out)
    unfold itv at A
    obtain ⟨r, hr⟩ : ∃ r, r = decide (x ∈ m) := ⟨_, rfl⟩
    rw [← hr] at A
    have Hr := hidI hr
    have hsz := HB.out.size
    clear h1 hx hkl htk hr
    go_wp2_with fail
    refine A.out.mono ?_
    rintro e w1 ⟨rfl, hb1⟩
    have HB1 := hidI (HB.out.trans (hb1.mono hsz))
    clear hb1 A x0 x1 x2 x3 x4 HB
    cases r with
    | true =>
      go_wp2
      go_roundw
      case rel => exact ⟨k + 1, by omega, by go_num, HB1, hidI (by
       rw [Htk.out]
       intro y hy
       rcases List.mem_append.1 hy with hy | hy
       ·exact Hn.out y hy
       ·simp at hy; subst hy; exact of_decide_eq_true Hr.out.symm)⟩
      case measure => simp [intOf]; omega
    | false =>
      have HS : Hid (sameB l m = false) := hidI (by
       unfold sameB
       have : l.all (fun x => decide (x ∈ m)) = false := List.all_eq_false.2 ⟨x, List.mem_of_getElem? Hx.out, by rw [← Hr.out]; simp⟩
       rw [this, Bool.and_false])
      go_wp2
      go_ret
      exact ⟨ret_bool HS.out.symm, HB1.out⟩
   ·have HS : Hid (sameB l m = true) := hidI (by
     unfold sameB
     have h2 := Hl.out
     have h3 := Hm.out
     rw [decide_eq_true (by omega), Bool.true_and, List.all_eq_true]
     intro x hx
     have := Hn.out
     rw [List.take_of_length_le (by omega)] at this
     exact decide_eq_true (this x hx))
    go_wp2
    go_ret
    exact ⟨ret_bool HS.out.symm, HB.out⟩
 ·have HS : Hid (sameB l m = false) := hidI (by unfold sameB; rw [decide_eq_false hlen, Bool.false_and])
  have hlen' : ((l.length : Int) != (m.length : Int)) = true := bne_iff_ne.2 (by omega)
  go_enter Tryz.func13, Tryz.ntmps13
  go_wp2
  go_ret
  exact ⟨ret_bool HS.out.symm, Below.refl _ _⟩
end Go.Proofs.YtodmdkhdbfbfgaaGreatDoor
