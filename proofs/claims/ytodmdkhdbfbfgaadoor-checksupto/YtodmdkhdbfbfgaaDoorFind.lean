/- What parent and find of the document's own answer return. -/
import Derived.Test.YtodmdkhdbfbfgaaDoorNamesW
namespace Go.Proofs.YtodmdkhdbfbfgaaDoor
open Go.RowKit Go.Nt
set_option linter.unusedVariables false

set_option maxRecDepth 100000 in
set_option maxHeartbeats 1000000 in
theorem parent_any (p : Bs) (w : World) (hp : p.length ≤ 1048576) :
    Calls Tryd.prog 14 #[.string (txt p)] w fun e w' => e = .returned (.string (txt (par p))) ∧ w' = w := by
  obtain ⟨X, hX⟩ : ∃ X, X = txt p := ⟨_, rfl⟩
  have Sx : X.size = p.length := by rw [hX, txt_size]
  have gx : Hid (∀ k (h : k < X.size), X[k]'h = p.getD k 0) := fun k h => by subst hX; exact txt_getD p k h
  have ex : Hid (∀ b, X.extract 0 b = txt (p.take b)) := fun b => by subst hX; rw [txt_extract]; simp
  rw [← hX]
  have Hx := hidI Sx
  have hX9 : X.size ≤ 1048576 := by omega
  clear hX Sx hp
  go_enter Tryd.func14, Tryd.ntmps14
  go_wp2
  go_loopw [3] (fun i wr => ∃ k : Nat, k ≤ X.size ∧ i = .int .i64 ((k : Int) - 1) ∧ wr = w ∧ Hid (∀ j, k ≤ j → j < p.length → p.getD j 0 ≠ 47)) (fun i _ => (intOf i + 1).toNat)
  case atStart => exact ⟨X.size, Nat.le_refl _, rfl, rfl, hidI (fun j h1 h2 => absurd h1 (by have := Hx.out; omega))⟩
  case round =>
    obtain ⟨k, hk, rfl, rfl, Hn⟩ := hrel
    cases k with
    | zero =>
      have hr : par p = [] := par_none fun i hi => Hn.out i (Nat.zero_le _) hi
      have Hr := hidI hr
      clear hr
      go_wp2
      go_ret
      rw [Hr.out]
      exact ⟨rfl, rfl⟩
    | succ k =>
      have e1 : (((k + 1 : Nat) : Int) - 1) = (k : Int) := by omega
      rw [e1]
      have hl : k < X.size := by omega
      have hg := gx.out k hl
      by_cases h47 : X[k]'hl = 47
      · have h47' : (((X[k]'hl).toNat : Int) == 47) = true := by rw [h47]; rfl
        have Hr : Hid (par p = p.take k) := par_last (by rw [← hg]; exact h47) (fun i h1 h2 => Hn.out i h1 h2)
        have He := hidI (ex.out k)
        clear hg h47
        go_wp2
        go_ret
        rw [Hr.out, ← He.out]
        exact ⟨rfl, rfl⟩
      · have h47' : (((X[k]'hl).toNat : Int) == 47) = false := beq_eq_false_iff_ne.2 fun h => h47 (UInt8.toNat_inj.1 (by have : (47 : UInt8).toNat = 47 := rfl; omega))
        have Hn2 : Hid (∀ j, k ≤ j → j < p.length → p.getD j 0 ≠ 47) := fun j h1 h2 => by
          by_cases e : j = k
          · rw [e, ← hg]; exact h47
          · exact Hn.out j (by omega) h2
        clear hg h47
        go_wp2
        go_roundw
        case rel => exact ⟨k, by omega, by go_num, trivial, Hn2⟩
        case measure => simp [intOf]

/-- Where an item of a path stands. -/
def fidx (l : List It) (p : Bs) : Int := match l.findIdx? (fun x => decide (x.path = p)) with
  | some i => (i : Int)
  | none => -1

theorem fidx_at {l : List It} {p : Bs} {k : Nat} {x : It} (hx : l[k]? = some x) (e : x.path = p) (hn : ∀ j y, j < k → l[j]? = some y → y.path ≠ p) : fidx l p = (k : Int) := by
  obtain ⟨hk, rfl⟩ := List.getElem?_eq_some_iff.1 hx
  have : l.findIdx? (fun x => decide (x.path = p)) = some k := by
    rw [List.findIdx?_eq_some_iff_getElem]
    refine ⟨hk, by simpa using e, fun j hj => ?_⟩
    have := hn j l[j] hj (List.getElem?_eq_getElem (by omega))
    simpa using this
  unfold fidx
  rw [this]

theorem fidx_none {l : List It} {p : Bs} (hn : ∀ x ∈ l, x.path ≠ p) : fidx l p = -1 := by
  have : l.findIdx? (fun x => decide (x.path = p)) = none := by
    rw [List.findIdx?_eq_none_iff]
    intro x hx
    simpa using hn x hx
  unfold fidx
  rw [this]

theorem fidx_cases (l : List It) (p : Bs) : (fidx l p = -1 ∧ ∀ x ∈ l, x.path ≠ p) ∨ ∃ k x, fidx l p = (k : Nat) ∧ l[k]? = some x ∧ x.path = p ∧ ∀ j y, j < k → l[j]? = some y → y.path ≠ p := by
  cases h : l.findIdx? (fun x => decide (x.path = p)) with
  | none =>
    rw [List.findIdx?_eq_none_iff] at h
    exact .inl ⟨fidx_none fun x hx => by simpa using h x hx, fun x hx => by simpa using h x hx⟩
  | some k =>
    have h' := h
    rw [List.findIdx?_eq_some_iff_getElem] at h
    obtain ⟨hk, h1, h2⟩ := h
    refine .inr ⟨k, l[k], by unfold fidx; rw [h'], List.getElem?_eq_getElem hk, by simpa using h1, fun j y hj hy => ?_⟩
    obtain ⟨hj', rfl⟩ := List.getElem?_eq_some_iff.1 hy
    simpa using h2 j hj

set_option maxRecDepth 100000 in
set_option maxHeartbeats 1000000 in
theorem find_any (a : Option Addr) (c : Nat) (l : List It) (p : Bs) (w : World) (hl : ItsIn w a l) (hn : l.length ≤ 1048576) :
    Calls Tryd.prog 15 #[.slice a l.length c, .string (txt p)] w fun e w' => e = .returned (.int .i64 (fidx l p)) ∧ w' = w := by
  obtain ⟨P, hP⟩ : ∃ P, P = txt p := ⟨_, rfl⟩
  rw [← hP]
  have HP := hidI hP
  clear hP
  go_enter Tryd.func15, Tryd.ntmps15
  go_wp2
  go_loopw [5] (fun i wr => ∃ k : Nat, k ≤ l.length ∧ i = .int .i64 k ∧ wr = w ∧ Hid (∀ j x, j < k → l[j]? = some x → x.path ≠ p)) (fun i _ => l.length - (intOf i).toNat)
  case atStart => exact ⟨0, Nat.zero_le _, rfl, rfl, hidI (fun j x h => absurd h (by omega))⟩
  case round =>
    obtain ⟨k, hk, rfl, rfl, Hn⟩ := hrel
    by_cases hlt : k < l.length
    · obtain ⟨b, off, rfl, hc⟩ := hl (fun h => by rw [h] at hlt; simp at hlt)
      obtain ⟨x, hx⟩ : ∃ x, l[k]? = some x := ⟨_, List.getElem?_eq_getElem hlt⟩
      have hi := hc k x hx
      have c0 := hi.1
      clear hc hi
      have Hx := hidI hx
      by_cases e : x.path = p
      · have e' : ((txt x.path).toList == P.toList) = true := by rw [HP.out, txt_beq]; simpa using e
        have Hr : Hid (fidx l p = (k : Int)) := fidx_at Hx.out e Hn.out
        clear hx e
        go_wp2
        go_ret
        exact ⟨ret_int Hr.out.symm, rfl⟩
      · have e' : ((txt x.path).toList == P.toList) = false := by rw [HP.out, txt_beq]; simpa using e
        have Hn2 : Hid (∀ j x, j < k + 1 → l[j]? = some x → x.path ≠ p) := fun j y hj hy => by
          by_cases h : j = k
          · subst h; rw [hx] at hy; cases hy; exact e
          · exact Hn.out j y (by omega) hy
        clear hx e
        go_wp2
        go_roundw
        case rel => exact ⟨k + 1, by omega, by go_num, trivial, Hn2⟩
        case measure => simp [intOf]; omega
    · have Hr : Hid (fidx l p = -1) := fidx_none fun x hx => by
        obtain ⟨j, hj, he⟩ := List.getElem_of_mem hx
        exact Hn.out j x (by omega) (by rw [List.getElem?_eq_getElem hj, he])
      go_wp2
      go_ret
      exact ⟨ret_int Hr.out.symm, rfl⟩
end Go.Proofs.YtodmdkhdbfbfgaaDoor
