/- What Same of the document's own answer returns: whether two lists of items are the same. -/
import Derived.Test.YtodmdkhdbfbfgaaDoorFind
import Derived.Laws.StructEq
namespace Go.Proofs.YtodmdkhdbfbfgaaDoor
open Go.RowKit Go.Nt
set_option linter.unusedVariables false

/-- An item as one value. -/
def itv (x : It) : Value := .agg #[.string (txt x.path), .bool x.dir, .string (txt x.data), .int .i64 x.mode, .int .i64 x.time]

theorem eqg (op : BinOp) (x y : Operand) (xs ys : Array Value) (w : World) : (eqGuard op 24 x y (.agg xs) (.agg ys)).run Tryd.prog w = .ok () w := run_eqGuard_agg w op 24 x y xs ys (by kernel_rfl)

theorem it_beq (x y : It) : (if (txt x.path).toList == (txt y.path).toList then if x.dir == y.dir then if (txt x.data).toList == (txt y.data).toList then if x.mode == y.mode then x.time == y.time else false else false else false else false) = decide (x = y) := by
  rw [txt_beq, txt_beq]
  obtain ⟨a1, a2, a3, a4, a5⟩ := x
  obtain ⟨b1, b2, b3, b4, b5⟩ := y
  simp only [It.mk.injEq]
  by_cases h1 : a1 = b1 <;> by_cases h2 : a2 = b2 <;> by_cases h3 : a3 = b3 <;> by_cases h4 : a4 = b4 <;> by_cases h5 : a5 = b5 <;> simp [h1, h2, h3, h4, h5]

theorem eq_it (x y : It) (w : World) : (Op.equalIn 10000 24 (itv x) (itv y)).run Tryd.prog w = .ok (decide (x = y)) w := by
  unfold itv
  rw [run_equalIn_agg w 9999 24 _ _ (by kernel_rfl) (by kernel_rfl)]
  rw [show Tryd.prog.fieldsOf 24 = _ from by unfold Program.fieldsOf; rw [Tryd.underlying24]]
  rw [← it_beq]
  simp [Op.eqFields, part, go_sem, Tryd.underlying9, Tryd.underlying4, Tryd.underlying3]
  by_cases h1 : (txt x.path).toList = (txt y.path).toList <;> by_cases h2 : x.dir = y.dir <;> by_cases h3 : (txt x.data).toList = (txt y.data).toList <;> by_cases h4 : x.mode = y.mode <;> by_cases h5 : x.time = y.time <;> simp [h1, h2, h3, h4, h5]

theorem neq_it (x y : It) (w : World) : (binOp .neq 24 (itv x) (itv y)).run Tryd.prog w = .ok (.bool (!decide (x = y))) w := by
  have h := eq_it x y w
  unfold itv at *
  rw [run_neq_struct, h]
  rfl

set_option maxRecDepth 100000 in
set_option maxHeartbeats 1000000 in
theorem same_any (a b : Option Addr) (c d : Nat) (l m : List It) (w : World) (ha : ItsIn w a l) (hb : ItsIn w b m) (hn : l.length ≤ 1048576) (hm : m.length ≤ 1048576) :
    Calls Tryd.prog 5 #[.slice a l.length c, .slice b m.length d] w fun e w' => e = .returned (.bool (decide (l = m))) ∧ ∃ q, w' = w.drewN q := by
  by_cases hlen : l.length = m.length
  · obtain ⟨N, hN⟩ : ∃ N, N = m.length := ⟨_, rfl⟩
    rw [hlen, ← hN]
    have Hl := hidI (hlen.trans hN.symm)
    have Hm := hidI hN.symm
    have hN9 : N ≤ 1048576 := by omega
    clear hlen hN hn hm
    go_enter Tryd.func5, Tryd.ntmps5
    go_wp2
    go_loopw [5] (fun i wr => ∃ k : Nat, k ≤ N ∧ i = .int .i64 k ∧ (∃ q, wr = w.drewN q) ∧ Hid (l.take k = m.take k)) (fun i _ => N - (intOf i).toNat)
    case atStart => exact ⟨0, Nat.zero_le _, rfl, ⟨0, rfl⟩, hidI (by simp)⟩
    case round =>
      obtain ⟨k, hk, rfl, ⟨q, rfl⟩, Hn⟩ := hrel
      by_cases hlt : k < N
      · have hkl : k < l.length := by have := Hl.out; omega
        have hkm : k < m.length := by have := Hm.out; omega
        obtain ⟨b1, o1, rfl, h1⟩ := ha (fun h => by rw [h] at hkl; simp at hkl)
        obtain ⟨b2, o2, rfl, h2⟩ := hb (fun h => by rw [h] at hkm; simp at hkm)
        obtain ⟨x, hx⟩ : ∃ x, l[k]? = some x := ⟨_, List.getElem?_eq_getElem hkl⟩
        obtain ⟨y, hy⟩ : ∃ y, m[k]? = some y := ⟨_, List.getElem?_eq_getElem hkm⟩
        obtain ⟨x0, x1, x2, x3, x4⟩ := h1 k x hx
        obtain ⟨y0, y1, y2, y3, y4⟩ := h2 k y hy
        have Hx := hidI hx
        have Hy := hidI hy
        have hneq := fun w => neq_it x y w
        unfold itv at hneq
        have hge := eqg
        clear h1 h2 ha hb hx hy hkl hkm
        by_cases e : x = y
        · have ed : (!decide (x = y)) = false := by simp [e]
          rw [ed] at hneq
          have Hn2 : Hid (l.take (k + 1) = m.take (k + 1)) := by
            show l.take (k + 1) = m.take (k + 1)
            rw [List.take_add_one, List.take_add_one, Hn.out, Hx.out, Hy.out, e]
          clear e ed
          go_wp2
          go_quiet (fail)
          go_wp2
          go_roundw
          case rel => exact ⟨k + 1, by omega, by go_num, ⟨_, rfl⟩, Hn2⟩
          case measure => simp [intOf]; omega
        · have ed : (!decide (x = y)) = true := by simp [e]
          rw [ed] at hneq
          have Hr : Hid (decide (l = m) = false) := decide_eq_false fun h => by
            have h1 := Hx.out
            have h2 := Hy.out
            rw [h, h2] at h1
            cases h1
            exact e rfl
          clear e ed
          go_wp2
          go_quiet (fail)
          go_wp2
          go_ret
          exact ⟨ret_bool Hr.out.symm, drew2 _ _ _⟩
      · have Hr : Hid (decide (l = m) = true) := decide_eq_true (by
          have h1 := Hn.out
          have h2 := Hl.out
          have h3 := Hm.out
          rw [List.take_of_length_le (by omega), List.take_of_length_le (by omega)] at h1
          exact h1)
        go_wp2
        go_ret
        exact ⟨ret_bool Hr.out.symm, q, rfl⟩
  · have Hr : Hid (decide (l = m) = false) := decide_eq_false fun h => hlen (by rw [h])
    have hlen' : ((l.length : Int) != (m.length : Int)) = true := bne_iff_ne.2 (by omega)
    go_enter Tryd.func5, Tryd.ntmps5
    go_wp2
    go_ret
    exact ⟨ret_bool Hr.out.symm, 0, rfl⟩
end Go.Proofs.YtodmdkhdbfbfgaaDoor
