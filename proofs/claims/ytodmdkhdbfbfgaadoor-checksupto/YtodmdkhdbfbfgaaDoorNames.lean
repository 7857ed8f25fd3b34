/- What Names of the document's own answer returns: whether a text is a path, and its names. -/
import Derived.Test.YtodmdkhdbfbfgaaDoorLess
namespace Go.Proofs.YtodmdkhdbfbfgaaDoor
open Go.RowKit Go.Nt
set_option linter.unusedVariables false

def glue (c : Bs) : List Bs → List Bs
  | [] => [c]
  | n :: ns => (c ++ n) :: ns

theorem glue_nil (p : Bs) : glue [] (split p) = split p := by
  obtain ⟨n, ns, e⟩ := split_cons p
  rw [e]; rfl

theorem glue_slash (c r : Bs) : glue c (split (47 :: r)) = c :: split r := by rw [split_slash]; simp [glue]

theorem glue_other (c r : Bs) {x : UInt8} (h : x ≠ 47) : glue c (split (x :: r)) = glue (c ++ [x]) (split r) := by
  obtain ⟨n, ns, e⟩ := split_cons r
  rw [split_other h e, e]; simp [glue]

theorem glue_zero (c r : Bs) : ∃ n ns, glue c (split (0 :: r)) = n :: ns ∧ n.contains 0 = true := by
  obtain ⟨n, ns, e⟩ := split_cons r
  rw [split_other (by decide) e]
  exact ⟨_, _, rfl, by simp⟩

/-- Where a walk through a path stands: the names that are done, where the next one begins, where it stands. -/
structure NmAt (p : Bs) (done : List Bs) (f k : Nat) : Prop where
  hf : f ≤ k
  hk : k ≤ p.length
  sp : split p = done ++ glue ((p.drop f).take (k - f)) (split (p.drop k))
  z : (0 : UInt8) ∉ (p.drop f).take (k - f)
  ok : done.all okName = true
  len : done.length ≤ k

theorem NmAt.start (p : Bs) : NmAt p [] 0 0 := ⟨Nat.le_refl _, Nat.zero_le _, by simp [glue_nil], by simp, rfl, Nat.zero_le _⟩

theorem okPath_bad {p : Bs} {done : List Bs} {n : Bs} {ns : List Bs} (h : split p = done ++ n :: ns) (hn : okName n = false) : okPath p = false := by
  unfold okPath
  rw [h]
  simp [hn]

theorem NmAt.zero {p : Bs} {done : List Bs} {f k : Nat} (h : NmAt p done f k) (hl : k < p.length) (e : p.getD k 0 = 0) : okPath p = false := by
  have hd : p.drop k = 0 :: p.drop (k + 1) := by
    rw [List.drop_eq_getElem_cons hl]
    have : p[k] = 0 := by simpa [List.getD, hl] using e
    rw [this]
  have := h.sp
  rw [hd] at this
  obtain ⟨n, ns, e1, e2⟩ := glue_zero ((p.drop f).take (k - f)) (p.drop (k + 1))
  rw [e1] at this
  exact okPath_bad this (by simp only [okName, e2]; simp)

theorem take_snoc {p : Bs} {f k : Nat} (hf : f ≤ k) (hl : k < p.length) : (p.drop f).take (k + 1 - f) = (p.drop f).take (k - f) ++ [p.getD k 0] := by
  have : k + 1 - f = (k - f) + 1 := by omega
  rw [this, List.take_add_one]
  congr 1
  rw [List.getElem?_drop]
  have e : f + (k - f) = k := by omega
  rw [e]
  simp [List.getD, hl]

theorem NmAt.other {p : Bs} {done : List Bs} {f k : Nat} (h : NmAt p done f k) (hl : k < p.length) (h0 : p.getD k 0 ≠ 0) (h47 : p.getD k 0 ≠ 47) : NmAt p done f (k + 1) := by
  have hd : p.drop k = p.getD k 0 :: p.drop (k + 1) := by
    rw [List.drop_eq_getElem_cons hl]
    simp [List.getD, hl]
  refine ⟨by have := h.hf; omega, by omega, ?_, ?_, h.ok, by have := h.len; omega⟩
  · rw [take_snoc h.hf hl, ← glue_other _ _ h47, ← hd]
    exact h.sp
  · rw [take_snoc h.hf hl]
    have := h.z
    simp only [List.mem_append, List.mem_singleton]
    intro hh
    rcases hh with hh | hh
    · exact this hh
    · exact h0 hh.symm

theorem NmAt.slash_bad {p : Bs} {done : List Bs} {f k : Nat} (h : NmAt p done f k) (hl : k < p.length) (h47 : p.getD k 0 = 47) (hb : okName ((p.drop f).take (k - f)) = false) : okPath p = false := by
  have hd : p.drop k = 47 :: p.drop (k + 1) := by
    rw [List.drop_eq_getElem_cons hl]
    have : p[k] = 47 := by simpa [List.getD, hl] using h47
    rw [this]
  have := h.sp
  rw [hd, glue_slash] at this
  exact okPath_bad this hb

theorem NmAt.slash {p : Bs} {done : List Bs} {f k : Nat} (h : NmAt p done f k) (hl : k < p.length) (h47 : p.getD k 0 = 47) (hb : okName ((p.drop f).take (k - f)) = true) : NmAt p (done ++ [(p.drop f).take (k - f)]) (k + 1) (k + 1) := by
  have hd : p.drop k = 47 :: p.drop (k + 1) := by
    rw [List.drop_eq_getElem_cons hl]
    have : p[k] = 47 := by simpa [List.getD, hl] using h47
    rw [this]
  refine ⟨Nat.le_refl _, by omega, ?_, by simp, by simp [h.ok, hb], by simp; have := h.len; omega⟩
  have := h.sp
  rw [hd, glue_slash] at this
  rw [this]
  simp [glue_nil]

theorem NmAt.last {p : Bs} {done : List Bs} {f : Nat} (h : NmAt p done f p.length) : split p = done ++ [(p.drop f).take (p.length - f)] := by
  have := h.sp
  rw [List.drop_length] at this
  simpa [split, glue] using this

theorem NmAt.last_bad {p : Bs} {done : List Bs} {f : Nat} (h : NmAt p done f p.length) (hb : okName ((p.drop f).take (p.length - f)) = false) : okPath p = false := okPath_bad h.last hb

theorem okName_of {n : Bs} (hz : (0 : UInt8) ∉ n) : okName n = (n ≠ [] && n ≠ [46] && n ≠ [46, 46] && decide (n.length ≤ 20)) := by
  unfold okName
  have : n.contains 0 = false := by
    cases h : n.contains 0 with
    | false => rfl
    | true => exact absurd (List.contains_iff_mem.1 h) hz
  rw [this]; simp

theorem Tryd.info9 : (Tryd.prog.info? 9).map (fun i => (i.zero, i.size, i.bytes)) = some (some (.string ByteArray.empty), 1, 16) := by kernel_rfl

/-- A list of texts, as its cells. -/
def txs (l : List Bs) : List Value := l.map fun n => .string (txt n)
theorem txs_snoc (l : List Bs) (n : Bs) : txs l ++ [.string (txt n)] = txs (l ++ [n]) := by simp [txs]

end Go.Proofs.YtodmdkhdbfbfgaaDoor
