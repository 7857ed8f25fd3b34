/- What countSymbols of package pack does; how often symbols come. -/
import Derived.Test.YtodmdkhdbfbfgaaPkSplit
import Derived.Test.YtodmdkhdbfbfgaaPkCode
namespace Go.Proofs.Ytodmdkhdbfbfgaa
open Go.RowKit Pk
set_option linter.unusedVariables false
set_option linter.unusedSimpArgs false

/-- How often a symbol comes. -/
def cntS (l : List (Nat × Nat)) (i : Nat) : Nat := sumL (fun s => if s.1 = i then 1 else 0) l

theorem cntS_le (l : List (Nat × Nat)) (i : Nat) : cntS l i ≤ l.length := by
  unfold cntS
  induction l with
  | nil => exact Nat.le_refl _
  | cons x l ih => simp only [sumL, List.length_cons]; split <;> omega
theorem cntS_take (l : List (Nat × Nat)) (k i : Nat) (h : k < l.length) : cntS (l.take (k + 1)) i = cntS (l.take k) i + if (l.getD k (0, 0)).1 = i then 1 else 0 := by
  unfold cntS
  rw [List.take_add_one, List.getElem?_eq_getElem h, sumL_append, List.getD_eq_getElem?_getD, List.getElem?_eq_getElem h]
  simp [sumL]
theorem cntS_pos (l : List (Nat × Nat)) (i : Nat) : 0 < cntS l i ↔ ∃ s ∈ l, s.1 = i := by
  unfold cntS
  induction l with
  | nil => simp [sumL]
  | cons x l ih =>
    simp only [sumL, List.mem_cons, exists_eq_or_imp]
    by_cases e : x.1 = i
    · simp [e]; omega
    · simp only [if_neg e, Nat.zero_add, ih]
      constructor
      · intro h; exact .inr h
      · rintro (h | h)
        · exact absurd h e
        · exact h
theorem sumW_add (f g : Nat → Nat) (k : Nat) : sumW (fun i => f i + g i) k = sumW f k + sumW g k := by
  induction k with
  | zero => rfl
  | succ k ih => simp only [sumW]; rw [ih]; omega
theorem sumW_one (x k : Nat) : sumW (fun i => if x = i then 1 else 0) k = if x < k then 1 else 0 := by
  induction k with
  | zero => simp [sumW]
  | succ k ih =>
    simp only [sumW]; rw [ih]
    by_cases e : x = k
    · subst e; simp
    · by_cases h : x < k
      · rw [if_pos h, if_neg e, if_pos (by omega)]
      · rw [if_neg h, if_neg e, if_neg (by omega)]
theorem sumW_cnt (l : List (Nat × Nat)) (h : ∀ s ∈ l, s.1 < 288) : sumW (cntS l) 288 = l.length := by
  induction l with
  | nil =>
    have : sumW (cntS []) 288 = sumW (fun _ => 0) 288 := sumW_congr _ _ _ fun i _ => rfl
    rw [this]
    have : ∀ k, sumW (fun _ => 0) k = 0 := fun k => by induction k with
      | zero => rfl
      | succ k ih => simp only [sumW]; omega
    rw [this]; rfl
  | cons x l ih =>
    have e : sumW (cntS (x :: l)) 288 = sumW (fun i => (if x.1 = i then 1 else 0) + cntS l i) 288 := sumW_congr _ _ _ fun i _ => rfl
    rw [e, sumW_add, sumW_one, if_pos (h x (by simp)), ih (fun s hs => h s (by simp [hs]))]
    simp; omega

theorem rowIs_owns {w : World} {b n : Nat} {f : Nat → Nat} (h : w.rowIs b 3 n (fun j => .int .i64 (f j : Nat))) (hn : n ≤ maxLen) : w.ownsRow 0 3 1 (.slice (some ⟨b, 0, none⟩) n n) n (intsV ((List.range n).map f)) := by
  obtain ⟨c, hb, hs, hc⟩ := h
  refine ⟨by simp [intsV], .inr ⟨b, n, c, rfl, Nat.zero_le _, hb, Nat.le_refl _, hn, by omega, ?_⟩⟩
  rw [List.take_of_length_le (by simp; omega)]
  unfold intsV
  rw [List.map_map]
  apply List.ext_getElem?
  intro i
  by_cases hi : i < n
  · rw [List.getElem?_map, List.getElem?_range hi]
    have := hc i hi
    simpa using this
  · rw [List.getElem?_eq_none (by simp; omega), List.getElem?_eq_none (by simp; omega)]
theorem range_getD (f : Nat → Nat) (n i : Nat) (h : i < n) : ((List.range n).map f).getD i 0 = f i := by
  rw [List.getD_eq_getElem?_getD, List.getElem?_map, List.getElem?_range h]; rfl

set_option maxRecDepth 100000 in
set_option maxHeartbeats 4000000 in
theorem count_any (w : World) (sb cnt cap : Nat) (l : List (Nat × Nat)) (hl : l.length = cnt) (hc : cnt ≤ 4000) (hsy : ∀ s ∈ l, s.1 < 288) (hown : w.ownsRow 0 101 2 (.slice (some ⟨sb, 0, none⟩) cnt cap) cnt (stepCells l)) :
    Calls Try.prog 74 #[.slice (some ⟨sb, 0, none⟩) cnt cap] w fun e w' => e = .returned (.slice (some ⟨w.heap.size, 0, none⟩) 288 288) ∧ w'.rowIs w.heap.size 3 288 (fun j => .int .i64 (cntS l j : Nat)) ∧ Below w.heap.size w w' := by
  obtain ⟨M, hM⟩ : ∃ M, M = madeCells #[Value.int .i64 0] 288 := ⟨_, rfl⟩
  have hmk : ∀ W : World, (Instr.makeSlice 22 (.int .i64 288) (.int .i64 288)).run Try.prog W = .ok (.slice (some ⟨W.heap.size, 0, none⟩) 288 288) (W.alloc (.cells M 3)) := fun W => by
    rw [hM]
    exact run_make_row' (P := Try.prog) 22 3 (.int .i64 0) 8 Try.underlying22 Try.info3 rfl .i64 .i64 288 (by omega) (by omega) W
  have Hrow0 : Hid ((w.alloc (.cells M 3)).rowIs w.heap.size 3 288 (fun j => .int .i64 (cntS (l.take 0) j : Nat))) := by rw [hM]; exact World.rowIs_made w (.int .i64 0) 288 3
  clear hM
  have hsb := (hown.lt sb rfl).2
  have Hcell : Hid (∀ i, i < cnt → w.cell? ⟨sb, i * 2, none⟩ = some (.int .i64 ((l.getD i (0, 0)).1 : Nat)) ∧ w.cell? ⟨sb, i * 2 + 1, none⟩ = some (.int .i64 ((l.getD i (0, 0)).2 : Nat))) := fun i hi => by
    rw [hown.cellAt (i * 2) (by omega), hown.cellAt (i * 2 + 1) (by omega), Nat.mul_comm i 2]
    exact stepCells_get l i (by omega)
  have Hsy := hidI hsy
  have Hl := hidI hl
  clear hown hsy hl
  go_enter Try.func74, Try.ntmps74
  go_wp2
  clear hmk
  go_loopw [9] (fun i wr => ∃ k : Nat, i = .int .i64 (k : Nat) ∧ k ≤ cnt ∧ Hid (wr.rowIs w.heap.size 3 288 (fun j => .int .i64 (cntS (l.take k) j : Nat))) ∧ Hid (Below w.heap.size w wr)) (fun i _ => cnt - (intOf i).toNat)
  case atStart => exact ⟨0, rfl, by omega, Hrow0, (Below.refl _ w).alloc (Nat.le_refl _) _⟩
  case round =>
    clear Hrow0
    obtain ⟨k, rfl, hk, Hrow, Hbel⟩ := hrel
    by_cases hlt : k < cnt
    · obtain ⟨c1, c2⟩ := Hcell.out k hlt
      have hkl : k < l.length := by have := Hl.out; omega
      have hmem : l.getD k (0, 0) ∈ l := by
        rw [List.getD_eq_getElem?_getD, List.getElem?_eq_getElem hkl]; exact List.getElem_mem hkl
      have hs288 := Hsy.out _ hmem
      obtain ⟨s, hs⟩ : ∃ s, s = (l.getD k (0, 0)).1 := ⟨_, rfl⟩
      obtain ⟨b, hb⟩ : ∃ b, b = (l.getD k (0, 0)).2 := ⟨_, rfl⟩
      rw [← hs] at c1 hs288
      rw [← hb] at c2
      have x1 : wr.cell? ⟨sb, k * 2, none⟩ = some (.int .i64 (s : Nat)) := by rw [Hbel.out.cell (p := ⟨sb, k * 2, none⟩) hsb]; exact c1
      have x2 : wr.cell? ⟨sb, k * 2 + 1, none⟩ = some (.int .i64 (b : Nat)) := by rw [Hbel.out.cell (p := ⟨sb, k * 2 + 1, none⟩) hsb]; exact c2
      have hszr := Hbel.out.size
      have hrow := Hrow.out.alloc (.cells #[.int .i64 (s : Nat), .int .i64 (b : Nat)] 101)
      have y1 := hrow.cell (i := s) hs288
      have yf := hrow.frozen s
      obtain ⟨x, hx⟩ : ∃ x, x = cntS (l.take k) s := ⟨_, rfl⟩
      have hxk : x ≤ 4000 := by
        rw [hx]; have := cntS_le (l.take k) s; rw [List.length_take] at this; omega
      rw [← hx] at y1
      have hset := hrow.set s (.int .i64 ((x : Int) + 1))
      have Hrow2 : Hid (((wr.alloc (.cells #[.int .i64 (s : Nat), .int .i64 (b : Nat)] 101)).setCell ⟨w.heap.size, s, none⟩ (.int .i64 ((x : Int) + 1))).rowIs w.heap.size 3 288 (fun j => .int .i64 (cntS (l.take (k + 1)) j : Nat))) := hset.congr fun j _ => by
        rw [cntS_take l k j hkl, ← hs]
        by_cases e : j = s
        · subst e
          rw [if_pos rfl, if_pos rfl, hx]; rfl
        · rw [if_neg e, if_neg (fun h => e h.symm)]; rfl
      have Hbel2 : Hid (Below w.heap.size w ((wr.alloc (.cells #[.int .i64 (s : Nat), .int .i64 (b : Nat)] 101)).setCell ⟨w.heap.size, s, none⟩ (.int .i64 ((x : Int) + 1)))) := (Hbel.out.alloc hszr _).setCell (p := ⟨w.heap.size, s, none⟩) (Nat.le_refl _) _
      clear hset hrow hs hb hx hmem c1 c2 Hrow Hbel
      go_wp2
      go_roundw
      case rel => exact ⟨k + 1, by go_num, by omega, Hrow2, Hbel2⟩
      case measure => simp [intOf]; omega
    · have hkc : k = cnt := by omega
      subst hkc
      have htk : l.take k = l := List.take_of_length_le (by have := Hl.out; omega)
      rw [htk] at Hrow
      clear htk
      go_wp2
      go_ret
      exact ⟨rfl, Hrow.out, Hbel.out⟩
end Go.Proofs.Ytodmdkhdbfbfgaa
