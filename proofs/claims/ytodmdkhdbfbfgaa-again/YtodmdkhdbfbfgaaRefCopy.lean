/- What copied of the document's own answer (package nandref) returns: bytes copied one by one, or nothing. -/
import Derived.Test.YtodmdkhdbfbfgaaRefSym
namespace Go.Proofs.Ytodmdkhdbfbfgaa
open Go.RowKit Pk
set_option linter.unusedVariables false

/-- Bytes that the call owns, as they are read. -/
theorem own_byte {w : World} {base : Nat} {v : Value} {n : Nat} {l : List UInt8} (h : w.ownsRow base 5 1 v n (Lib.strCells (txt l))) (hn : 0 < n) :
    ∃ g cap, v = .slice (some ⟨g, 0, none⟩) n cap ∧ ∀ j, j < n → w.cell? ⟨g, j, none⟩ = some (.int .u8 (l.getD j 0).toNat) := by
  have hl : l.length = n := by have := h.1; rw [strCells_txt] at this; simpa using this
  rcases h.2 with ⟨rfl, rfl⟩ | ⟨g, cap, cur, rfl, hb, hh, h1, h2, h3, h4⟩
  · omega
  · refine ⟨g, cap, rfl, fun j hj => ?_⟩
    rw [h.cellAt j (by omega), strCells_txt]
    have : j < l.length := by omega
    simp [List.getD, this]

theorem own_len {w : World} {base : Nat} {v : Value} {n : Nat} {l : List UInt8} (h : w.ownsRow base 5 1 v n (Lib.strCells (txt l))) : l.length = n ∧ ∃ a c, v = .slice a n c := by
  have hl : l.length = n := by have := h.1; rw [strCells_txt] at this; simpa using this
  rcases h.2 with ⟨rfl, rfl⟩ | ⟨g, cap, cur, rfl, hb, hh, h1, h2, h3, h4⟩
  · exact ⟨hl, _, _, rfl⟩
  · exact ⟨hl, _, _, rfl⟩

theorem strCells_snoc (l : List UInt8) (b : UInt8) : Lib.strCells (txt l) ++ [Value.int .u8 b.toNat] = Lib.strCells (txt (l ++ [b])) := by
  rw [strCells_txt, strCells_txt, List.map_append]; rfl

set_option maxRecDepth 100000 in
set_option maxHeartbeats 1000000 in
theorem copied_no (a : Option Addr) (n c size back most : Nat) (w : World) (hn : n ≤ 4000) (hs : size ≤ 34) (hb : back ≤ 4096) (hm : most ≤ 4000) (h : n < back ∨ most < n + size) :
    Calls Try.prog 45 #[.slice a n c, .int .i64 size, .int .i64 back, .int .i64 most] w fun e w' => e = .returned (.tuple #[.slice none 0 0, .bool false]) ∧ w' = w := by
  by_cases h1 : n < back
  · have hd : decide ((n : Int) < (back : Int)) = true := by simpa using h1
    go_enter Try.func45, Try.ntmps45
    go_wp2
    go_ret2
    exact ⟨rfl, rfl⟩
  · have hd : decide ((n : Int) < (back : Int)) = false := by simpa using h1
    have h2 : most < n + size := by omega
    clear h
    go_enter Try.func45, Try.ntmps45
    go_wp2
    go_ret2
    exact ⟨rfl, rfl⟩

set_option maxRecDepth 100000 in
set_option maxHeartbeats 1000000 in
theorem copied_yes (a : Option Addr) (n c size back most base : Nat) (out : List UInt8) (w : World) (hn : n ≤ 4000) (hs : size ≤ 34) (hb : back ≤ 4096) (hb1 : 1 ≤ back) (hm : most ≤ 4000) (h1 : ¬ n < back) (h2 : ¬ most < n + size)
    (hB : base ≤ w.heap.size) (hown : w.ownsRow base 5 1 (.slice a n c) n (Lib.strCells (txt out))) :
    Calls Try.prog 45 #[.slice a n c, .int .i64 size, .int .i64 back, .int .i64 most] w fun e w' => ∃ v, e = .returned (.tuple #[v, .bool true]) ∧ w'.ownsRow base 5 1 v (n + size) (Lib.strCells (txt (cpy out back size))) ∧ Below base w w' := by
  obtain ⟨i0, hi, hz0, hz1, hz2⟩ := info_parts Try.info5
  have hd : decide ((n : Int) < (back : Int)) = false := by simpa using h1
  have hd2 : decide ((most : Int) < (n : Int) + (size : Int)) = false := by simp; omega
  go_enter Try.func45, Try.ntmps45
  go_wp2
  go_loopw [0, 10] (fun v i wr => ∃ k : Nat, k ≤ size ∧ i = .int .i64 k ∧ wr.ownsRow base 5 1 v (n + k) (Lib.strCells (txt (cpy out back k))) ∧ Below base w wr) (fun _ i _ => size - (intOf i).toNat)
  case atStart => exact ⟨0, Nat.zero_le _, rfl, hown, Below.refl _ _⟩
  case round =>
    clear hown
    obtain ⟨k, hk, rfl, hown, hbel⟩ := hrel
    have hsz := hbel.size
    by_cases hlt : k < size
    · obtain ⟨g, cap, hv, hcell⟩ := own_byte hown (by omega)
      subst hv
      have hlen := (own_len hown).1
      have hck := hcell (n + k - back) (by omega)
      obtain ⟨x, hx⟩ : ∃ x, x = (cpy out back k).getD (n + k - back) 0 := ⟨_, rfl⟩
      rw [← hx] at hck
      have Hx : Hid (cpy out back k ++ [x] = cpy out back (k + 1)) := by
        show _ = cpy out back k ++ [_]
        rw [hlen, hx]
      have hx256 := x.toNat_lt
      clear hx hcell hlen
      go_wp2_with (at_builtin; refine wpList_append_own _ rfl (.tmp 28) (.tmp 36) 67 rfl base 5 i0 (.int .u8 0) 1 1 Try.underlying67 hi hz0 hz1 hz2 rfl (by decide) _ _ _ rfl (hown.alloc _) ⟨wr.heap.size, 0, none⟩ 1 1 [.int .u8 x.toNat] rfl rfl ?c1 ?c2 ?c3 ?c4 ?c5 ?_)
      case c1 => exact cell_one_new _ _ _
      case c2 => intro u hu; simp at hu; subst hu; rfl
      case c3 => unfold maxLen; omega
      case c4 => omega
      case c5 => simp; omega
      intro v3 w3 hown3 hgrow _
      rw [strCells_snoc, Hx.out] at hown3
      have hbel3 : Below base w w3 := (hbel.alloc (by omega) _).grown hgrow (by simp; omega) (fun q hq => (hown.lt q hq).1)
      clear hown hbel hgrow hck
      go_wp2
      go_roundw
      case rel => exact ⟨k + 1, by omega, by go_num, hown3, hbel3⟩
      case measure => simp [intOf]; omega
    · have hks : k = size := by omega
      subst hks
      go_wp2
      go_ret2
      exact ⟨_, rfl, hown, hbel⟩

end Go.Proofs.Ytodmdkhdbfbfgaa
