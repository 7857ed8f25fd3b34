/- What Unpack of package pack returns of any text: the document's reading; and what nandlaw.Unpacks returns. -/
import Derived.Test.YtodmdkhdbfbfgaaDecode
import Derived.Lib.BufferWrite
import Derived.Lib.UnsafeStr
import Derived.Lib.Buffer
namespace Go.Proofs.Ytodmdkhdbfbfgaa
open Go.RowKit Pk
set_option linter.unusedVariables false

set_option maxRecDepth 100000 in
set_option maxHeartbeats 2000000 in
theorem clone_in (s : ByteArray) (w : World) (hlim : s.size ≤ 140737488351232) : Calls Try.prog 67 #[.string s] w fun e w' => e = .returned (.string s) ∧ Below w.heap.size w w' := by
  by_cases h0 : s.size = 0
  · have hs : s = ⟨#[]⟩ := by
      apply ByteArray.ext
      exact Array.eq_empty_of_size_eq_zero h0
    subst hs
    go_enter Try.func67, Try.ntmps67
    go_wp2
    go_ret
    exact ⟨rfl, Below.refl _ _⟩
  · obtain ⟨i0, hi, hz0, hz1, hz2⟩ := info_parts Try.info5
    have hinfo : (Try.prog.info? 5).map (·.size) = some 1 := by rw [hi]; simp [hz1]
    have hco : Try.prog.cellsOf 5 = 1 := by simp [Program.cellsOf, hi, hz1]
    obtain ⟨M, hM⟩ : ∃ M, M = madeCells #[Value.int .u8 0] s.size := ⟨_, rfl⟩
    have hMs : M.size = s.size := by rw [hM, size_madeCells]
    have hmk : ∀ W : World, (Instr.makeSlice 67 (.int .i64 (s.size : Int)) (.int .i64 (s.size : Int))).run Try.prog W = .ok (.slice (some ⟨W.heap.size, 0, none⟩) s.size s.size) (W.alloc (.cells M 5)) := fun W => by
      rw [hM]
      exact run_make_row' (P := Try.prog) 67 5 (.int .u8 0) 1 Try.underlying67 Try.info5 rfl .i64 .i64 s.size (by omega) (by omega) W
    clear hM
    have hcp := Lib.run_copy_row_string (P := Try.prog) (w.alloc (.cells M 5)) 67 9 3 5 w.heap.size 0 s.size s.size s M 5 Try.underlying67 hinfo (heap_alloc_new w _) (Nat.le_refl _) (by omega)
    obtain ⟨Y, hY⟩ : ∃ Y, Y = (M.toList.take 0 ++ Lib.byteCells s.data.toList ++ M.toList.drop (0 + s.size)).toArray := ⟨_, rfl⟩
    rw [← hY] at hcp
    have hYl : Y.toList = Lib.byteCells s.data.toList := by
      rw [hY, List.toList_toArray, List.take_zero, List.nil_append, List.drop_of_length_le (by rw [Array.length_toList]; omega), List.append_nil]
    have hYs : Y.size = s.size := by rw [← Array.length_toList, hYl, Lib.byteCells_length, ← Lib.size_eq]
    have hgY : ((w.alloc (.cells M 5)).setRow w.heap.size Y).heap[w.heap.size]? = some (.cells Y 5 (0, 0)) := setRow_heap _ _ M _ 5 (0, 0) (heap_alloc_new w _)
    have hne : s.data.toList ≠ [] := fun e => h0 (by rw [Lib.size_eq, e]; rfl)
    have hUS := Lib.run_unsafeString_row (P := Try.prog) ((w.alloc (.cells M 5)).setRow w.heap.size Y) 102 3 9 5 Try.underlying102 hco w.heap.size Y.size (by unfold World.shape?; rw [hgY]) s.data.toList hne (by rw [← Lib.size_eq]; omega) (by rw [← Lib.size_eq]; omega)
      (fun j x hx => Lib.cells_of_row hgY Y.size j _ (by rw [List.take_of_length_le (by rw [Array.length_toList]; exact Nat.le_refl _), hYl]; simp [Lib.byteCells, hx]))
    rw [← Lib.size_eq] at hUS
    clear hY
    go_enter Try.func67, Try.ntmps67
    go_wp2
    go_ret
    have hb1 : Below w.heap.size w (w.alloc (.cells M 5)) := (Below.refl _ w).alloc (Nat.le_refl _) _
    have hb2 : Below w.heap.size (w.alloc (.cells M 5)) ((w.alloc (.cells M 5)).setRow w.heap.size Y) := ⟨rfl, rfl, rfl, by simp, fun k hk => setRow_other _ _ _ _ (by omega)⟩
    exact ⟨rfl, Lib.below_freeze (hb1.trans hb2) (p := ⟨w.heap.size, 0, none⟩) (Nat.le_refl _) _⟩

set_option maxHeartbeats 1000000 in
theorem clone_any (s : ByteArray) (w : World) (hlim : s.size ≤ 140737488351232) : Calls Try.prog 40 #[.string s] w fun e w' => e = .returned (.string s) ∧ Below w.heap.size w w' := by
  go_enter Try.func40, Try.ntmps40
  go_wp2_with fail
  refine (clone_in s w hlim).mono ?_
  rintro e w1 ⟨rfl, hb⟩
  go_wp2
  go_ret
  exact ⟨rfl, hb⟩

/-- What is known of a text that begins with the byte c. -/
theorem txt_cut (c : UInt8) (r : List UInt8) : ∃ t, t = txt (c :: r) ∧ t.size = r.length + 1 ∧ (∀ h : 0 < t.size, (t[0]'h).toNat = c.toNat) ∧ t.extract 1 t.size = txt r := by
  refine ⟨_, rfl, by rw [txt_size]; rfl, fun h => by rw [txt_getD]; rfl, ?_⟩
  rw [txt_extract, txt_size]; simp

set_option maxRecDepth 100000 in
set_option maxHeartbeats 2000000 in
theorem unpack_cons (c : UInt8) (r : List UInt8) (w : World) (hr : r.length + 1 ≤ 140737488351232) : Calls Try.prog 14 #[.string (txt (c :: r))] w fun e w' => e = ansU (unpF 288 (c :: r)) ∧ Below w.heap.size w w' := by
  obtain ⟨t, ht, hs, hc, hex⟩ := txt_cut c r
  have hs0 : 0 < t.size := by omega
  have hc0 := hc hs0
  rw [← ht]
  have hsb : t.size ≤ 140737488351232 := by omega
  have hrs : (txt r).size ≤ 140737488351232 := by rw [txt_size]; omega
  have hes1 : t.size ≤ r.length + 1 := by omega
  have hes2 : r.length + 1 ≤ t.size := by omega
  have Hex := hidI hex
  clear ht hc hs hex
  have hne : ((t.size : Int) == 0) = false := beq_eq_false_iff_ne.2 (by omega)
  have hlt : (0 : Int) < (t.size : Int) := by omega
  have h1t : (1 : Int) ≤ (t.size : Int) := by omega
  by_cases h0 : c = 0
  · have hcz : (t[0]'hs0).toNat = 0 := by rw [hc0, h0]; rfl
    clear hc0
    subst h0
    by_cases h4 : r.length ≤ 4000
    · have Hu := hidI (unpF_plain 288 r h4)
      have hd4 : decide (((t.size - 1 : Nat) : Int) ≤ 4000) = true := decide_eq_true (by omega)
      go_enter Try.func14, Try.ntmps14
      go_wp2
      go_quiet (fail)
      go_wp2_with fail
      rw [Hex.out]
      refine (clone_any (txt r) _ hrs).mono ?_
      rintro e w1 ⟨rfl, hb1⟩
      have hB : Below w.heap.size w w1 := belowD (by simpa using hb1)
      go_wp2
      go_ret2
      refine ⟨?_, hB⟩
      rw [Hu.out]; rfl
    · have Hu := hidI (unpF_long 288 r (by omega))
      have hd4 : decide (((t.size - 1 : Nat) : Int) ≤ 4000) = false := decide_eq_false (by omega)
      go_enter Try.func14, Try.ntmps14
      go_wp2
      go_quiet (fail)
      go_wp2
      go_ret2
      refine ⟨?_, below_drewN (Below.refl _ _) _⟩
      rw [Hu.out]; rfl
  · have hcn : c.toNat ≠ 0 := fun h => h0 (UInt8.toNat_inj.1 h)
    have hc00 : ((c.toNat : Int) == 0) = false := beq_eq_false_iff_ne.2 (by omega)
    by_cases h1 : c = 1
    · have hcz : (t[0]'hs0).toNat = 1 := by rw [hc0, h1]; rfl
      clear hc0 hcn hc00
      have Hdec := hidI (fun w => decode_any r w (by omega))
      subst h1
      go_enter Try.func14, Try.ntmps14
      go_wp2
      go_quiet (fail)
      go_wp2_with fail
      rw [Hex.out]
      refine (Hdec.out _).mono ?_
      rintro e w1 ⟨rfl, hb1⟩
      have hB : Below w.heap.size w w1 := belowD (by simpa using hb1)
      cases hu : unpF 288 (1 :: r) with
      | none =>
        have Hu := hidI hu
        clear hu
        show _
        unfold ansD
        go_wp2
        go_ret2
        refine ⟨?_, hB⟩
        rw [Hu.out]; rfl
      | some l =>
        have Hu := hidI hu
        clear hu
        unfold ansD
        go_wp2
        go_ret2
        refine ⟨?_, hB⟩
        rw [Hu.out]; rfl
    · have hcn1 : c.toNat ≠ 1 := fun h => h1 (UInt8.toNat_inj.1 h)
      have hc01 : ((c.toNat : Int) == 1) = false := beq_eq_false_iff_ne.2 (by omega)
      have Hu := hidI (unpF_other 288 c r h0 h1)
      go_enter Try.func14, Try.ntmps14
      go_wp2
      go_quiet (fail)
      go_wp2
      go_ret2
      refine ⟨?_, below_drewN (Below.refl _ _) _⟩
      rw [Hu.out]; rfl

set_option maxRecDepth 100000 in
set_option maxHeartbeats 2000000 in
theorem unpack_nil (w : World) : Calls Try.prog 14 #[.string (txt [])] w fun e w' => e = ansU none ∧ w' = w := by
  have hs : (((txt []).size : Int) == 0) = true := by rw [txt_size]; rfl
  go_enter Try.func14, Try.ntmps14
  go_wp2
  go_ret2
  exact ⟨rfl, rfl⟩

/-- Unpack of package pack, of any text. -/
theorem unpack_any (T : List UInt8) (w : World) (hT : T.length ≤ 140737488351232) : Calls Try.prog 14 #[.string (txt T)] w fun e w' => e = ansU (unpF 288 T) ∧ Below w.heap.size w w' := by
  cases T with
  | nil => exact (unpack_nil w).mono fun e w' ⟨he, hw⟩ => by rw [he, hw]; exact ⟨rfl, Below.refl _ _⟩
  | cons c r => exact unpack_cons c r w (by simpa using hT)

end Go.Proofs.Ytodmdkhdbfbfgaa
