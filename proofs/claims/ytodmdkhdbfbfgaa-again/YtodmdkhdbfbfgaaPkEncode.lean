/- What encode of package pack does. -/
import Derived.Test.YtodmdkhdbfbfgaaPkBack
import Derived.Test.YtodmdkhdbfbfgaaAssign
import Derived.Test.YtodmdkhdbfbfgaaPkPutK
import Derived.Test.YtodmdkhdbfbfgaaDecode
namespace Go.Proofs.Ytodmdkhdbfbfgaa
open Go.RowKit Pk
set_option linter.unusedVariables false
set_option linter.unusedSimpArgs false

/-- What encode answers. -/
def EncP (d : List UInt8) (w : World) (e : Ending) (w' : World) : Prop := ∃ T, e = .returned (.string (txt T)) ∧ unpF 288 T = some d ∧ T.length ≤ 50000 ∧ (∀ c, (∀ i, i < d.length → (d.getD i 0).toNat = c) → T.length ≤ 40 + d.length / 16) ∧ Below w.heap.size w w'

theorem slen_pos (s : Nat × Nat) (h : s.1 < 256 ∨ 254 ≤ s.1) : 1 ≤ slen s := by unfold slen; split <;> omega
theorem posS_ge (l : List (Nat × Nat)) (k : Nat) (hk : k ≤ l.length) : k ≤ posS l k := by
  induction k with
  | zero => omega
  | succ k ih =>
    rw [posS_succ l k (by omega)]
    have := slen_pos (l.getD k (0, 0)) (by omega)
    have := ih (by omega); omega
theorem posS_mono (l : List (Nat × Nat)) (k : Nat) (hk : k ≤ l.length) : posS l k ≤ posS l l.length := by
  unfold posS
  have : l.take l.length = l.take k ++ l.drop k := by rw [List.take_of_length_le (Nat.le_refl _), List.take_append_drop]
  rw [this, sumL_append]; omega
theorem sumL_take (f : (Nat × Nat) → Nat) (l : List (Nat × Nat)) (k : Nat) (h : k < l.length) : sumL f (l.take (k + 1)) = sumL f (l.take k) + f (l.getD k (0, 0)) := by
  rw [List.take_add_one, List.getElem?_eq_getElem h, sumL_append, List.getD_eq_getElem?_getD, List.getElem?_eq_getElem h]
  simp [sumL]
theorem getD_memS (l : List (Nat × Nat)) (k : Nat) (h : k < l.length) : l.getD k (0, 0) ∈ l := by
  rw [List.getD_eq_getElem?_getD, List.getElem?_eq_getElem h]; exact List.getElem_mem h

/-- The first k steps are written. -/
structure WS (d : List UInt8) (ln : Nat → Nat) (l : List (Nat × Nat)) (p1 : Nat) (c : List UInt8) (k pos : Nat) : Prop where
  ps : pos = p1 + sumL (sbits ln) (l.take k)
  rd : ∀ f, Ag c f pos → dataF (f.drop 3) (fun i => (ln i : Int)) 288 d.length d.length [] (p1 - 24) = dataF (f.drop 3) (fun i => (ln i : Int)) 288 d.length (d.length - k) (d.take (posS l k)) (pos - 24)

theorem WS.init (d : List UInt8) (ln : Nat → Nat) (l : List (Nat × Nat)) (p1 : Nat) (c : List UInt8) : WS d ln l p1 c 0 p1 := ⟨by simp [sumL], fun f _ => by simp [posS, sumL]⟩

theorem WS.byte {d : List UInt8} {ln : Nat → Nat} {l : List (Nat × Nat)} {p1 k pos : Nat} {c c' : List UInt8} (h : WS d ln l p1 c k pos) (hk : k < l.length) (h24 : 24 ≤ p1) (hok : OkS d l d.length) (hs : (l.getD k (0, 0)).1 < 256) (hln : 1 ≤ ln (l.getD k (0, 0)).1)
    (hw : Wr c' (pos + ln (l.getD k (0, 0)).1)) (ha : Ag c c' pos) (hv : val c' pos (ln (l.getD k (0, 0)).1) = num (fun i => (ln i : Int)) 288 (l.getD k (0, 0)).1) : WS d ln l p1 c' (k + 1) (pos + ln (l.getD k (0, 0)).1) := by
  have hps := h.ps
  have hst := hok.ok k hk
  have hge := posS_ge l k (by omega)
  have hsl : slen (l.getD k (0, 0)) = 1 := by unfold slen; rw [if_pos hs]
  have hfit := hst.fit
  rw [hsl] at hfit
  refine ⟨?_, ?_⟩
  · rw [sumL_take _ l k hk, hps]; unfold sbits; rw [if_pos hs]; omega
  · rw [posS_succ l k hk, hsl]
    have := data_byte (b := c) (b' := c') (z := fun i => (ln i : Int)) (d := d) (a := posS l k) (pos := pos) (F := d.length - (k + 1)) (i := (l.getD k (0, 0)).1) (by omega) hs (by omega) (by omega) (hst.byte hs) (by simpa using hw.lo) (by simpa using hv) ha (fun f => dataF (f.drop 3) (fun i => (ln i : Int)) 288 d.length d.length [] (p1 - 24)) (by
      intro f hf
      rw [show d.length - (k + 1) + 1 = d.length - k by omega]
      exact h.rd f hf)
    simpa using this

theorem WS.copy {d : List UInt8} {ln : Nat → Nat} {l : List (Nat × Nat)} {p1 k pos : Nat} {c c' : List UInt8} (h : WS d ln l p1 c k pos) (hk : k < l.length) (h24 : 24 ≤ p1) (hok : OkS d l d.length) (hs : ¬ (l.getD k (0, 0)).1 < 256) (hln : 1 ≤ ln (l.getD k (0, 0)).1)
    (hw : Wr c' (pos + ln (l.getD k (0, 0)).1 + 12)) (ha : Ag c c' pos) (hv : val c' pos (ln (l.getD k (0, 0)).1) = num (fun i => (ln i : Int)) 288 (l.getD k (0, 0)).1) (hv2 : val c' (pos + ln (l.getD k (0, 0)).1) 12 = (l.getD k (0, 0)).2 - 1) : WS d ln l p1 c' (k + 1) (pos + ln (l.getD k (0, 0)).1 + 12) := by
  have hps := h.ps
  have hst := hok.ok k hk
  have hge := posS_ge l k (by omega)
  have hsl : slen (l.getD k (0, 0)) = (l.getD k (0, 0)).1 - 253 := by unfold slen; rw [if_neg hs]
  have hfit := hst.fit
  rw [hsl] at hfit
  obtain ⟨c1, c2, c3, c4⟩ := hst.copy hs
  refine ⟨?_, ?_⟩
  · rw [sumL_take _ l k hk, hps]; unfold sbits; rw [if_neg hs]; omega
  · rw [posS_succ l k hk, hsl]
    have := data_copy (b := c) (b' := c') (z := fun i => (ln i : Int)) (d := d) (a := posS l k) (pos := pos) (F := d.length - (k + 1)) (i := (l.getD k (0, 0)).1) (back := (l.getD k (0, 0)).2) (by omega) hs hst.lt (by omega) hfit c1 c3 c4 (by simpa using hw.lo) (by simpa using hv) (by simpa using hv2) ha (fun f => dataF (f.drop 3) (fun i => (ln i : Int)) 288 d.length d.length [] (p1 - 24)) (by
      intro f hf
      rw [show d.length - (k + 1) + 1 = d.length - k by omega]
      exact h.rd f hf)
    simpa using this

theorem WS.done {d : List UInt8} {ln : Nat → Nat} {l : List (Nat × Nat)} {p1 pos : Nat} {c : List UInt8} (h : WS d ln l p1 c l.length pos) (hok : OkS d l d.length) : dataF (c.drop 3) (fun i => (ln i : Int)) 288 d.length d.length [] (p1 - 24) = some (d, pos - 24) := by
  rw [h.rd c (Ag.refl _ _), hok.fin, List.take_of_length_le (Nat.le_refl _)]
  exact dataF_done _ _ _ _ _ _ _ (Nat.le_refl _)

theorem BW.of {w w' : World} {B g pos : Nat} {b : List UInt8} (h : BW w B g b pos) (hb : ∀ k, k < w.heap.size → w'.heap[k]? = w.heap[k]?) : BW w' B g b pos := by
  obtain ⟨v, h1, h2⟩ := h.st
  refine ⟨h.hg, ⟨v, (hb g (lt_of_heap h1)).trans h1, h2.1, ?_⟩, h.wr⟩
  rcases h2.2 with h3 | ⟨r, cap, cur, h3, h4, h5, h6⟩
  · exact .inl h3
  · exact .inr ⟨r, cap, cur, h3, h4, (hb r (lt_of_heap h5)).trans h5, h6⟩
theorem bw_start (w : World) (n : Nat) (hn : n ≤ 4000) : BW ((w.alloc (.cells #[.int .u8 1, .int .u8 ((n : Int) / 256), .int .u8 ((n : Int) % 256)] 5)).alloc (.cells #[.slice (some ⟨w.heap.size, 0, none⟩) 3 3, .int .i64 0] 98)) w.heap.size (w.heap.size + 1) [1, UInt8.ofNat (n / 256), UInt8.ofNat (n % 256)] 24 := by
  refine ⟨by omega, ⟨.slice (some ⟨w.heap.size, 0, none⟩) 3 3, ?_, ?_⟩, ⟨by simp, by simp, fun i hi => bt_out _ i (by simp; omega)⟩⟩
  · have := heap_alloc_new (w.alloc (.cells #[.int .u8 1, .int .u8 ((n : Int) / 256), .int .u8 ((n : Int) % 256)] 5)) (.cells #[.slice (some ⟨w.heap.size, 0, none⟩) 3 3, .int .i64 0] 98)
    simp only [World.size_alloc] at this
    rw [this]; rfl
  · refine ⟨rfl, .inr ⟨_, 3, _, rfl, Nat.le_refl _, (Below.heap_alloc _ _ _ (by simp)).trans (heap_alloc_new _ _), Nat.le_refl _, by unfold maxLen; omega, rfl, ?_⟩⟩
    have e1 : ((n : Int) / 256) = ((n / 256 : Nat) : Int) := by omega
    have e2 : ((n : Int) % 256) = ((n % 256 : Nat) : Int) := by omega
    have e3 : (UInt8.ofNat (n / 256)).toNat = n / 256 := by rw [UInt8.toNat_ofNat']; omega
    have e4 : (UInt8.ofNat (n % 256)).toNat = n % 256 := by rw [UInt8.toNat_ofNat']; omega
    simp only [List.map_cons, List.map_nil, e3, e4, e1, e2]
    rfl

set_option maxRecDepth 100000 in
set_option maxHeartbeats 8000000 in
theorem encode_any (w : World) (d : List UInt8) (h0 : 0 < d.length) (hd : d.length ≤ 4000) : Calls Try.prog 47 #[.string (txt d)] w fun e w' => EncP d w e w' := by
  have Hsp := hidI (split_any w d h0 hd)
  have hts : (txt d).size = d.length := txt_size d
  generalize txt d = t at *
  go_enter Try.func47, Try.ntmps47
  go_wp2_with fail
  refine Hsp.out.mono ?_
  rintro e w1 ⟨l, v, rfl, hown, hok, has, hb1⟩
  have hl0 : 0 < l.length := by
    cases l with
    | nil => have := hok.fin; simp [posS, sumL] at this; omega
    | cons x l => simp
  have hln : l.length ≤ d.length := by have := posS_ge l l.length (Nat.le_refl _); rw [hok.fin] at this; exact this
  have hsy : ∀ s ∈ l, s.1 < 288 := fun s hs => by
    obtain ⟨i, hi, rfl⟩ := List.mem_iff_getElem.1 hs
    have := (hok.ok i hi).lt
    rw [List.getD_eq_getElem?_getD, List.getElem?_eq_getElem hi] at this
    exact this
  obtain ⟨sb, cap, rfl, hsb⟩ : ∃ sb cap, v = .slice (some ⟨sb, 0, none⟩) l.length cap ∧ w.heap.size ≤ sb := by
    rcases hown.2 with ⟨_, h⟩ | ⟨g, c, cur, rfl, h2, _⟩
    · omega
    · exact ⟨g, c, rfl, h2⟩
  have hsblt := (hown.lt sb rfl).2
  have Hct := hidI (count_any w1 sb l.length cap l rfl (by omega) hsy (own_mono hown (Nat.zero_le _)))
  have Hown := hidI hown
  have Hok := hidI hok
  have Has := hidI has
  have Hb1 := hidI hb1
  have Hsy := hidI hsy
  clear hown hok has hb1 hsy Hsp
  go_wp2_with fail
  refine Hct.out.mono ?_
  rintro e w2 ⟨rfl, hrow2, hb2⟩
  have hs12 := hb2.size
  have hW : sumW (fun i => ((List.range 288).map (cntS l)).getD i 0) 288 = l.length := by
    rw [sumW_congr _ (cntS l) 288 (fun i hi => range_getD _ _ _ hi)]; exact sumW_cnt l Hsy.out
  have Hco := hidI (code_any w2 w1.heap.size 288 ((List.range 288).map (cntS l)) (rowIs_owns hrow2 (by unfold maxLen; omega)) (by rw [hW]; exact hl0) (by rw [hW]; omega))
  have Hb2 := hidI hb2
  clear hrow2 hb2 hW Hct
  go_wp2_with fail
  refine Hco.out.mono ?_
  rintro e w3 ⟨ln, L, rfl, hL, hrow3, hb3, c1, c2, c3, c4, c5⟩
  have hs23 := hb3.size
  have hsyeq : symsTo (fun i => ((List.range 288).map (cntS l)).getD i 0) 288 = symsTo (cntS l) 288 := symsTo_congr _ _ 288 fun i hi => by rw [range_getD _ _ _ hi]
  rw [hsyeq] at c4 c5
  have c1' : ∀ i, i < 288 → (0 < ln i ↔ 0 < cntS l i) := fun i hi => by rw [c1 i hi, range_getD _ _ _ hi]
  have hfits := fits_of ln (cntS l) c1' c3 c5
  have Has3 := hidI (assign_any (some ⟨L, 0, none⟩) 288 288 (fun i => (ln i : Int)) w3 (by omega) (rowIs_ints hrow3) hfits)
  have Hrow3 := hidI hrow3
  have Hb3 := hidI hb3
  have C1 := hidI c1'
  have C2 := hidI c2
  have C3 := hidI c3
  have C4 := hidI c4
  have Hfits := hidI hfits
  have hLlt := hrow3.lt
  clear hrow3 hb3 c1 c1' c2 c3 c4 c5 hfits hsyeq Hco
  go_wp2_with fail
  refine Has3.out.mono ?_
  rintro e w4 ⟨rfl, hb4, hrow4⟩
  have hs34 := hb4.size
  have Hb4 := hidI hb4
  have Hrow4 := hidI hrow4
  have hrl4 := hrow4.lt
  clear hb4 hrow4 Has3
  go_wp2_with fail
  have hbw := bw_start w4 d.length hd
  have hbA : Below w4.heap.size w4 ((w4.alloc (.cells #[.int .u8 1, .int .u8 ((d.length : Int) / 256), .int .u8 ((d.length : Int) % 256)] 5)).alloc (.cells #[.slice (some ⟨w4.heap.size, 0, none⟩) 3 3, .int .i64 0] 98)) := ((Below.refl _ w4).alloc (Nat.le_refl _) _).alloc (by simp) _
  have hrowL : ((w4.alloc (.cells #[.int .u8 1, .int .u8 ((d.length : Int) / 256), .int .u8 ((d.length : Int) % 256)] 5)).alloc (.cells #[.slice (some ⟨w4.heap.size, 0, none⟩) 3 3, .int .i64 0] 98)).rowIs L 3 288 (fun j => .int .i64 ((fun i => (ln i : Int)) j)) := rowIs_below (rowIs_below Hrow3.out Hb4.out hLlt) hbA (by omega)
  have Hle := hidI (lens_any ((w4.alloc (.cells #[.int .u8 1, .int .u8 ((d.length : Int) / 256), .int .u8 ((d.length : Int) % 256)] 5)).alloc (.cells #[.slice (some ⟨w4.heap.size, 0, none⟩) 3 3, .int .i64 0] 98)) w4.heap.size (w4.heap.size + 1) L [1, UInt8.ofNat (d.length / 256), UInt8.ofNat (d.length % 256)] (fun i => (ln i : Int)) (by simp; omega) (by simp) (by omega) hrowL (fun i => ⟨by omega, by have := C3.out i; omega⟩) (fun i hi => by rw [C2.out i hi]; rfl) hbw)
  have HbA := hidI hbA
  have hsA : w4.heap.size ≤ ((w4.alloc (.cells #[.int .u8 1, .int .u8 ((d.length : Int) / 256), .int .u8 ((d.length : Int) % 256)] 5)).alloc (.cells #[.slice (some ⟨w4.heap.size, 0, none⟩) 3 3, .int .i64 0] 98)).heap.size := by simp; omega
  clear hbw hbA hrowL
  generalize ((w4.alloc (.cells #[.int .u8 1, .int .u8 ((d.length : Int) / 256), .int .u8 ((d.length : Int) % 256)] 5)).alloc (.cells #[.slice (some ⟨w4.heap.size, 0, none⟩) 3 3, .int .i64 0] 98)) = V at *
  refine Hle.out.mono ?_
  rintro e w6 ⟨rfl, b6, p1, hbw6, hag6, hp1, hp2, hlens, hb6⟩
  have hnz : nz (fun i => (ln i : Int)) 288 ≤ 288 := nz_le _ _
  have hp1b : p1 ≤ 4000 := by omega
  have Hcell : Hid (∀ U, Below w4.heap.size w6 U → ∀ i, i < l.length → U.cell? ⟨sb, i * 2, none⟩ = some (.int .i64 ((l.getD i (0, 0)).1 : Nat)) ∧ U.cell? ⟨sb, i * 2 + 1, none⟩ = some (.int .i64 ((l.getD i (0, 0)).2 : Nat))) := fun U hU i hi => by
    have hlow : ∀ o, U.cell? ⟨sb, o, none⟩ = w1.cell? ⟨sb, o, none⟩ := fun o => by
      rw [hU.cell (p := ⟨sb, o, none⟩) (by simp; omega), hb6.cell (p := ⟨sb, o, none⟩) (by simp; omega), HbA.out.cell (p := ⟨sb, o, none⟩) (by simp; omega), Hb4.out.cell (p := ⟨sb, o, none⟩) (by simp; omega), Hb3.out.cell (p := ⟨sb, o, none⟩) (by simp; omega), Hb2.out.cell (p := ⟨sb, o, none⟩) (by simp; omega)]
    rw [hlow, hlow, Hown.out.cellAt (i * 2) (by omega), Hown.out.cellAt (i * 2 + 1) (by omega), Nat.mul_comm i 2]
    exact stepCells_get l i hi
  have Hcode : Hid (∀ U, Below w4.heap.size w6 U → ∀ s, s < 288 → 1 ≤ ln s → U.cell? ⟨w3.heap.size, s * 2, none⟩ = some (.int .i64 (num (fun i => (ln i : Int)) 288 s : Nat)) ∧ U.cell? ⟨w3.heap.size, s * 2 + 1, none⟩ = some (.int .i64 (ln s : Nat))) := fun U hU s hs h1 => by
    have hr := rowIs_below (rowIs_below (rowIs_below Hrow4.out HbA.out hrl4) hb6 hrl4) hU hrl4
    have hc := cellA_end (fun i => (ln i : Int)) 288 s Hfits.out hs
    have e1 := hr.cell (i := s * 2) (by omega)
    have e2 := hr.cell (i := s * 2 + 1) (by omega)
    rw [hc.1] at e1
    rw [hc.2] at e2
    unfold numz at e1
    rw [if_pos (by show 1 ≤ (ln s : Int); omega)] at e1
    exact ⟨e1, e2⟩
  have Hbw6 := hidI hbw6
  have Hag6 := hidI hag6
  have Hlens := hidI hlens
  have Hp2 := hidI hp2
  have HbT : Hid (Below w.heap.size w w6) := Hb1.out.trans ((Hb2.out.mono Hb1.out.size).trans ((Hb3.out.mono (Nat.le_trans Hb1.out.size hs12)).trans ((Hb4.out.mono (Nat.le_trans Hb1.out.size (Nat.le_trans hs12 hs23))).trans ((HbA.out.trans hb6).mono (Nat.le_trans Hb1.out.size (Nat.le_trans hs12 (Nat.le_trans hs23 hs34)))))))
  have hs6 : w4.heap.size ≤ w6.heap.size := Nat.le_trans hsA hb6.size
  have hww4 : w.heap.size ≤ w4.heap.size := Nat.le_trans Hb1.out.size (Nat.le_trans hs12 (Nat.le_trans hs23 hs34))
  clear hbw6 hag6 hlens hp2 hb6 Hle HbA Hrow3 Hrow4 Hb1 Hb2 Hb3 Hb4 Hown
  go_wp2
  go_loopw [31] (fun i wr => ∃ k pos : Nat, ∃ c, i = .int .i64 (k : Nat) ∧ k ≤ l.length ∧ pos ≤ p1 + 24 * k ∧ w4.heap.size ≤ wr.heap.size ∧ Hid (BW wr w4.heap.size (w4.heap.size + 1) c pos) ∧ Hid (WS d ln l p1 c k pos) ∧ Hid (Ag b6 c p1) ∧ p1 ≤ pos ∧ Hid (Below w4.heap.size w6 wr)) (fun i _ => l.length - (intOf i).toNat)
  case atStart => exact ⟨0, p1, b6, rfl, by omega, by omega, hs6, Hbw6, WS.init _ _ _ _ _, Ag.refl _ _, Nat.le_refl _, Below.refl _ _⟩
  case round =>
    clear Hbw6
    obtain ⟨k, pos, c, rfl, hk, hpos, hszr, Hbw, Hws, Hagc, hp1p, Hbel⟩ := hrel
    have hbl : 0 < c.length := by
      have h1 := Hbw.out.wr.lo
      omega
    by_cases hkl : k < l.length
    · have hst := Hok.out.ok k hkl
      have hmem := getD_memS l k hkl
      obtain ⟨x1, x2⟩ := Hcell.out wr Hbel.out k hkl
      obtain ⟨s, hs⟩ : ∃ s, s = (l.getD k (0, 0)).1 := ⟨_, rfl⟩
      obtain ⟨bk, hbk⟩ : ∃ b, b = (l.getD k (0, 0)).2 := ⟨_, rfl⟩
      have hs288 : s < 288 := by rw [hs]; exact hst.lt
      have hln1 : 1 ≤ ln s := by
        have := (C1.out s hs288).2 ((cntS_pos l s).2 ⟨_, hmem, hs.symm⟩)
        omega
      have hln12 := C3.out s
      rw [← hs] at x1
      rw [← hbk] at x2
      have hnum : num (fun i => (ln i : Int)) 288 s < 2 ^ ln s := by
        have := num_lt (fun i => (ln i : Int)) 288 s Hfits.out hs288 (by show 1 ≤ (ln s : Int); omega)
        simpa using this
      obtain ⟨nm, hnm⟩ : ∃ nm, nm = num (fun i => (ln i : Int)) 288 s := ⟨_, rfl⟩
      rw [← hnm] at hnum
      obtain ⟨O, hO⟩ : ∃ O, O = Obj.cells #[.int .i64 (s : Nat), .int .i64 (bk : Nat)] 101 := ⟨_, rfl⟩
      have hbelA : Below w4.heap.size w6 (wr.alloc O) := Hbel.out.alloc hszr O
      obtain ⟨y1, y2⟩ := Hcode.out _ hbelA s hs288 hln1
      rw [← hnm] at y1
      have hbl2 : (wr.alloc O).heap[wr.heap.size]? = some (.cells #[.int .i64 (s : Nat), .int .i64 (bk : Nat)] 101 (0, 0)) := by rw [hO]; exact heap_alloc_new _ _
      have z0 : (wr.alloc O).cell? ⟨wr.heap.size, 0, none⟩ = some (.int .i64 (s : Nat)) := by rw [cell_of_row _ _ 0 _ 101 (0, 0) hbl2]; rfl
      have hbwA : BW (wr.alloc O).drew w4.heap.size (w4.heap.size + 1) c pos := Hbw.out.of fun j hj => Below.heap_alloc _ _ j hj
      have Hput := hidI (put_k (wr.alloc O).drew w4.heap.size (w4.heap.size + 1) c pos nm (ln s) (by simp; omega) hbl (by omega) hln12 hnum hbwA)
      have Hbl2 := hidI hbl2
      have HbelA := hidI hbelA
      have Hs := hidI hs
      have Hbk := hidI hbk
      have Hnm := hidI hnm
      have HO := hidI hO
      have Hst := hidI hst
      have hszA : w4.heap.size ≤ (wr.alloc O).drew.heap.size := by simp; omega
      obtain ⟨sl, hsl⟩ : ∃ sl, sl = wr.heap.size := ⟨_, rfl⟩
      have Hsl := hidI hsl
      rw [← hsl] at z0 Hbl2
      clear hsl
      clear hbl2 hbwA hmem hst hbelA Hbel Hbw
      have hlsn : ((fun i => (ln i : Int)) s) = (ln s : Int) := rfl
      generalize hlns : ln s = lns at *
      have Hlns := hidI hlns
      clear hlns
      clear hlsn hs hbk hnm
      go_wp2
      rw [← HO.out, ← Hsl.out]
      clear HO hO
      have hw3 : w3.heap.size < w4.heap.size := hrl4
      have hsi : (s : Int) < 288 := by omega
      have hsi0 : (0 : Int) ≤ (s : Int) := by omega
      generalize wr.alloc O = W at *
      go_region_held3 (fun w' => w'.cell? ⟨sl, 0, none⟩ = some (.int .i64 (s : Nat)) ∧ w'.cell? ⟨w3.heap.size, s * 2, none⟩ = some (.int .i64 (nm : Nat)) ∧ w'.cell? ⟨w3.heap.size, s * 2 + 1, none⟩ = some (.int .i64 (lns : Nat))) (go_keep) (first | (go_at_call 76; refine Hput.out.mono ?_; rintro e w7 ⟨rfl, c7, hbw7, ha7, hv7, hb7, hk7⟩; have k0 : w7.cell? ⟨sl, 0, none⟩ = some (.int .i64 (s : Nat)) := (by rw [cell_of_row w7 sl 0 _ 101 (0, 0) (hk7.block (w := W.drew) Hbl2.out)]; rfl); have k1 : w7.cell? ⟨w3.heap.size, s * 2, none⟩ = some (.int .i64 (nm : Nat)) := (by rw [hb7.cell (p := ⟨w3.heap.size, s * 2, none⟩) hw3]; exact y1); have k2 : w7.cell? ⟨w3.heap.size, s * 2 + 1, none⟩ = some (.int .i64 (lns : Nat)) := (by rw [hb7.cell (p := ⟨w3.heap.size, s * 2 + 1, none⟩) hw3]; exact y2)))
      · have hbl7 := hk7.block (w := W.drew) Hbl2.out
        have k3 : w7.cell? ⟨sl, 1, none⟩ = some (.int .i64 (bk : Nat)) := by rw [cell_of_row w7 sl 1 _ 101 (0, 0) hbl7]; rfl
        have Hbel7 := hidI (HbelA.out.drew.trans hb7)
        have hsz7 : w4.heap.size ≤ w7.heap.size := Nat.le_trans hszA hb7.size
        have Hag7 := hidI (Hagc.out.trans ha7 hp1p)
        have hseq : (l.getD k (0, 0)).1 = s := Hs.out.symm
        have hbeq : (l.getD k (0, 0)).2 = bk := Hbk.out.symm
        have hcl7 : 0 < c7.length := Nat.lt_of_lt_of_le hbl ha7.len
        rename_i hHeld
        clear hHeld k1 k2 y1 y2 z0 hbl7 hb7 hk7 Hput Hbl2 HbelA
        by_cases h256 : s < 256
        · have Hws7 : Hid (WS d ln l p1 c7 (k + 1) (pos + lns)) := by
            have := Hws.out.byte (c' := c7) hkl hp1 Hok.out (by rw [hseq]; exact h256) (by rw [hseq, Hlns.out]; exact hln1) (by rw [hseq, Hlns.out]; exact hbw7.wr) ha7 (by rw [hseq, Hlns.out, hv7, Hnm.out])
            rw [hseq, Hlns.out] at this
            exact this
          have Hbw7 := hidI hbw7
          clear hbw7 ha7 hv7 hseq hbeq Hws
          go_wp2
          go_roundw
          case rel => exact ⟨k + 1, pos + lns, c7, by go_num, by omega, by omega, hsz7, Hbw7, Hws7, Hag7, by omega, Hbel7⟩
          case measure => simp [intOf]; omega
        · obtain ⟨b1, b2, b3, b4⟩ := Hst.out.copy (by rw [hseq]; exact h256)
          rw [hbeq] at b1 b2 b3
          have hput := put_k w7 w4.heap.size (w4.heap.size + 1) c7 (pos + lns) (bk - 1) 12 hsz7 hcl7 (by omega) (by omega) (by omega) hbw7
          rw [show ((bk - 1 : Nat) : Int) = (bk : Int) - 1 by omega] at hput
          have Hput := hidI hput
          have Hv7 := hidI hv7
          have Ha7 := hidI ha7
          have hbk4 : bk ≤ 4096 := b2
          clear hput hbw7 hv7 ha7 b4 b3
          go_wp2_with fail
          refine Hput.out.mono ?_
          rintro e w8 ⟨rfl, c8, hbw8, ha8, hv8, hb8, hk8⟩
          have Hws8 : Hid (WS d ln l p1 c8 (k + 1) (pos + lns + 12)) := by
            have := Hws.out.copy (c' := c8) hkl hp1 Hok.out (by rw [hseq]; exact h256) (by rw [hseq, Hlns.out]; exact hln1) (by rw [hseq, Hlns.out]; exact hbw8.wr) (Ha7.out.trans ha8 (by omega)) (by rw [hseq, Hlns.out, ha8.val pos lns (Nat.le_refl _), Hv7.out, Hnm.out]) (by rw [hseq, Hlns.out, hv8, hbeq])
            rw [hseq, Hlns.out] at this
            exact this
          have Hbw8 := hidI hbw8
          have Hbel8 := hidI (Hbel7.out.trans hb8)
          have hsz8 : w4.heap.size ≤ w8.heap.size := Nat.le_trans hsz7 hb8.size
          have Hag8 := hidI (Hag7.out.trans ha8 (by omega))
          clear hbw8 ha8 hv8 hb8 hk8 hseq hbeq Hws Hput Hbel7 Hag7
          go_wp2
          go_roundw
          case rel => exact ⟨k + 1, pos + lns + 12, c8, by go_num, by omega, by omega, hsz8, Hbw8, Hws8, Hag8, by omega, Hbel8⟩
          case measure => simp [intOf]; omega
    · have hkq : k = l.length := by omega
      subst hkq
      obtain ⟨v, hst, hown⟩ := Hbw.out.st
      have x0 : wr.cell? ⟨w4.heap.size + 1, 0, none⟩ = some v := by rw [cell_of_row wr _ 0 _ 98 (0, 0) hst]; rfl
      obtain ⟨va, vc, hv⟩ := slice_form hown
      subst hv
      obtain ⟨tc, htc⟩ : ∃ tc, tc = txt c := ⟨_, rfl⟩
      have hcv := conv_own' (l := c) hown tc htc
      have Htc := hidI htc
      have hwr := Hbw.out.wr
      have Hend : Hid (unpF 288 c = some d ∧ c.length ≤ 50000 ∧ (∀ e, (∀ i, i < d.length → (d.getD i 0).toNat = e) → c.length ≤ 40 + d.length / 16)) := by
        have hps := Hws.out.ps
        rw [List.take_of_length_le (Nat.le_refl _)] at hps
        refine ⟨?_, ?_, ?_⟩
        · refine unp_of (p1 := p1) (p2 := pos) h0 hd rfl (Hag6.out.trans Hagc.out hp1) (by omega) Hfits.out hwr ?_ (Hws.out.done Hok.out)
          exact Hlens.out c (Hagc.out.mono (Nat.le_refl _))
        · have h1 := hwr.hi
          omega
        · intro e he
          exact same_short h0 (Has.out e he) C1.out C4.out (by rw [hps]; have := Hp2.out; omega) hwr.hi
      clear htc hst hown hwr Hbw Hws
      go_wp2
      go_ret
      refine ⟨c, ?_, Hend.out.1, Hend.out.2.1, Hend.out.2.2, HbT.out.trans (Hbel.out.mono hww4)⟩
      rw [← Htc.out]; rfl
end Go.Proofs.Ytodmdkhdbfbfgaa
