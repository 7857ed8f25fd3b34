/- What places of package pack does: start, agree, top. -/
import Derived.Test.YtodmdkhdbfbfgaaPkLens
import Derived.Test.YtodmdkhdbfbfgaaRefSym
import Derived.StringKeys
import Derived.Maps.OwnSet
import Derived.Maps.Views
import Derived.Deep.RegionHeld3
namespace Go.Proofs.Ytodmdkhdbfbfgaa
open Go.RowKit Pk
set_option linter.unusedVariables false
set_option linter.unusedSimpArgs false

/-- What a map of texts to numbers holds, as a function. -/
structure MD (D : DataW Unit) (mp : List UInt8 → Option Nat) : Prop where
  is : Maps.IsMap D
  no : ∀ s, mp s = none → Maps.has D (.string s) = false
  yes : ∀ s v, mp s = some v → Maps.has D (.string s) = true ∧ D.atKey (.string s) (.lit (.int .i64 0)) = .lit (.int .i64 (v : Nat))

theorem MD.nil : MD (.map []) (fun _ => none) := ⟨Maps.isMap_empty, fun _ _ => rfl, fun _ _ h => by cases h⟩
theorem MD.put {D : DataW Unit} {mp : List UInt8 → Option Nat} (h : MD D mp) (k : List UInt8) (v : Nat) : MD (D.put (.string k) (.lit (.int .i64 (v : Nat)))) (fun s => if s = k then some v else mp s) := by
  have hk : WideAt.IsKeyLit (Lit.string k) := trivial
  refine ⟨h.is.put _ _, fun s hs => ?_, fun s u hs => ?_⟩
  · by_cases e : s = k
    · rw [if_pos e] at hs; cases hs
    · rw [if_neg e] at hs
      rw [Maps.has_put_other (fun e2 => e (by injection e2))]
      exact h.no s hs
  · by_cases e : s = k
    · rw [if_pos e] at hs
      cases hs
      subst e
      exact ⟨Maps.has_put_same h.is hk _, Maps.atKey_put_same h.is hk _ _⟩
    · rw [if_neg e] at hs
      rw [Maps.has_put_other (fun e2 => e (by injection e2)), Maps.atKey_put_other (fun e2 => e (by injection e2))]
      exact h.yes s u hs

/-- The places in memory. -/
structure PM (w : World) (B pb mb bb : Nat) (d : List UInt8) (m : Nat) (mp : List UInt8 → Option Nat) (bf : Nat → Int) : Prop where
  hp : B ≤ pb
  hm : B ≤ mb
  hb : B ≤ bb
  st : w.heap[pb]? = some (.cells #[.string (txt d), .map (some mb), .slice (some ⟨bb, 0, none⟩) d.length d.length] 116 (0, 0))
  mo : ∃ D, w.ownsMap Try.prog 9 (plainElem Try.prog 3) mb m D ∧ MD D mp
  bo : w.rowIs bb 3 d.length (fun j => .int .i64 (bf j))

/-- The three bytes at a place. -/
def key3 (d : List UInt8) (v : Nat) : List UInt8 := (d.drop v).take 3

set_option maxRecDepth 100000 in
set_option maxHeartbeats 1000000 in
theorem start_no (w : World) (pb a : Nat) (d : List UInt8) (x y : Value) (hd : d.length ≤ 4000) (ha : a ≤ 4000) (h : d.length < a + 3) (hst : w.heap[pb]? = some (.cells #[.string (txt d), x, y] 116 (0, 0))) :
    Calls Try.prog 87 #[.pointer (some ⟨pb, 0, none⟩), .int .i64 (a : Nat)] w fun e w' => e = .returned (.tuple #[.string ⟨#[]⟩, .bool false]) ∧ w' = w := by
  have x0 : w.cell? ⟨pb, 0, none⟩ = some (.string (txt d)) := by rw [cell_of_row w pb 0 _ 116 (0, 0) hst]; rfl
  have hs : (txt d).size = d.length := txt_size d
  generalize txt d = t at *
  have h1 : ((t.size : Nat) : Int) < (a : Int) + 3 := by omega
  clear hst hs
  go_enter Try.func87, Try.ntmps87
  go_wp2
  go_ret2
  exact ⟨rfl, rfl⟩

set_option maxRecDepth 100000 in
set_option maxHeartbeats 1000000 in
theorem start_yes (w : World) (pb a : Nat) (d : List UInt8) (x y : Value) (hd : d.length ≤ 4000) (h : a + 3 ≤ d.length) (hst : w.heap[pb]? = some (.cells #[.string (txt d), x, y] 116 (0, 0))) :
    Calls Try.prog 87 #[.pointer (some ⟨pb, 0, none⟩), .int .i64 (a : Nat)] w fun e w' => e = .returned (.tuple #[.string (txt (key3 d a)), .bool true]) ∧ w' = w := by
  have x0 : w.cell? ⟨pb, 0, none⟩ = some (.string (txt d)) := by rw [cell_of_row w pb 0 _ 116 (0, 0) hst]; rfl
  have hs : (txt d).size = d.length := txt_size d
  have hex := txt_extract d a (a + 3)
  have Hex : Hid ((txt d).extract a (a + 3) = txt (key3 d a)) := by
    show _ = _
    rw [hex]; unfold key3; rw [show a + 3 - a = 3 by omega]
  generalize txt d = t at *
  have h1 : ¬ ((t.size : Nat) : Int) < (a : Int) + 3 := by omega
  have h2 : a + 3 ≤ t.size := by omega
  have h4 : t.size ≤ 4000 := by omega
  clear hst hex hs
  go_enter Try.func87, Try.ntmps87
  go_wp2
  go_ret2
  refine ⟨?_, rfl⟩
  rw [← Hex.out]
  rfl

set_option maxRecDepth 100000 in
set_option maxHeartbeats 2000000 in
theorem agree_any (w : World) (pb a f : Nat) (d : List UInt8) (x y : Value) (hd : d.length ≤ 4000) (hf : f < a) (ha : a ≤ d.length) (hst : w.heap[pb]? = some (.cells #[.string (txt d), x, y] 116 (0, 0))) :
    Calls Try.prog 89 #[.pointer (some ⟨pb, 0, none⟩), .int .i64 (f : Nat), .int .i64 (a : Nat)] w fun e w' => ∃ k q : Nat, e = .returned (.int .i64 (k : Nat)) ∧ w' = w.drewN q ∧ k ≤ 34 ∧ a + k ≤ d.length ∧ (∀ j, j < k → d.getD (f + j) 0 = d.getD (a + j) 0) ∧ (k = 34 ∨ a + k = d.length ∨ d.getD (f + k) 0 ≠ d.getD (a + k) 0) := by
  have x0 : w.cell? ⟨pb, 0, none⟩ = some (.string (txt d)) := by rw [cell_of_row w pb 0 _ 116 (0, 0) hst]; rfl
  have hs : (txt d).size = d.length := txt_size d
  have hgd : ∀ k (h : k < (txt d).size), ((txt d)[k]'h).toNat = (d.getD k 0).toNat := fun k h => by rw [txt_getD]
  generalize txt d = t at *
  have Hs := hidI hs
  have Hgd := hidI hgd
  clear hst hgd hs
  go_enter Try.func89, Try.ntmps89
  go_wp2
  go_loopw [7] (fun i wr => ∃ k q : Nat, i = .int .i64 (k : Nat) ∧ wr = w.drewN q ∧ k ≤ 34 ∧ a + k ≤ d.length ∧ Hid (∀ j, j < k → d.getD (f + j) 0 = d.getD (a + j) 0)) (fun i _ => 34 - (intOf i).toNat)
  case atStart => exact ⟨0, 0, rfl, rfl, by omega, by omega, fun j hj => by omega⟩
  case round =>
    obtain ⟨k, q, rfl, rfl, hk, hak, Hk⟩ := hrel
    have hts := Hs.out
    have x1 : (w.drewN q).cell? ⟨pb, 0, none⟩ = some (.string t) := x0
    by_cases h34 : k = 34
    · have g1 : decide ((k : Int) < 34) = false := by simp; omega
      have Hts := hidI hts
      clear hts
      go_wp2
      go_quiet (fail)
      go_wp2
      go_ret
      exact ⟨k, _, rfl, by simp only [World.drewN_drewN, World.drew_drewN]; rfl, by omega, by omega, Hk.out, .inl h34⟩
    · have g1 : decide ((k : Int) < 34) = true := by simp; omega
      by_cases han : a + k = d.length
      · have g2 : decide ((a : Int) + (k : Int) < (t.size : Int)) = false := by simp; omega
        have Hts := hidI hts
        clear hts
        go_wp2
        go_quiet (fail)
        go_wp2
        go_ret
        exact ⟨k, _, rfl, by simp only [World.drewN_drewN, World.drew_drewN]; rfl, by omega, by omega, Hk.out, .inr (.inl han)⟩
      · obtain ⟨A, hA⟩ : ∃ A, A = a + k := ⟨_, rfl⟩
        obtain ⟨F, hF⟩ : ∃ F, F = f + k := ⟨_, rfl⟩
        have g2 : decide ((A : Int) < (t.size : Int)) = true := by simp; omega
        have i1 : F < t.size := by omega
        have i2 : A < t.size := by omega
        have e1 := Hgd.out F i1
        have e2 := Hgd.out A i2
        have ht4 : t.size ≤ 4000 := by omega
        have w1 : IntKind.i64.wrap ((a : Int) + (k : Int)) = (A : Int) := by rw [IntKind.wrap_i64]; omega
        have w2 : IntKind.i64.wrap ((f : Int) + (k : Int)) = (F : Int) := by rw [IntKind.wrap_i64]; omega
        have v1 : (a : Int) + (k : Int) = (A : Int) := by omega
        have v2 : (f : Int) + (k : Int) = (F : Int) := by omega
        have hk34 : k + 1 ≤ 34 ∧ a + (k + 1) ≤ d.length := by omega
        have HA := hidI hA
        have HF := hidI hF
        have Hts := hidI hts
        by_cases hc : d.getD F 0 = d.getD A 0
        · have Hk2 : Hid (∀ j, j < k + 1 → d.getD (f + j) 0 = d.getD (a + j) 0) := fun j hj => by
            by_cases e : j = k
            · subst e; rw [← HA.out, ← HF.out]; exact hc
            · exact Hk.out j (by omega)
          rw [← hc] at e2
          generalize (d.getD F 0).toNat = u at *
          clear hts hc Hk hA hF
          go_wp2
          go_quiet (fail)
          go_wp2
          go_roundw
          case rel => exact ⟨k + 1, _, by go_num, by first | rfl | trivial | (simp only [World.drewN_drewN, World.drew_drewN]; rfl), hk34.1, hk34.2, Hk2⟩
          case measure => simp [intOf]; omega
        · have hne : (d.getD F 0).toNat ≠ (d.getD A 0).toNat := fun h => hc (UInt8.toNat_inj.1 h)
          have Hc := hidI hc
          generalize (d.getD F 0).toNat = u at *
          generalize (d.getD A 0).toNat = v at *
          have g3 : ((u : Int) == (v : Int)) = false := by simp; omega
          clear hts hc hA hF
          go_wp2
          go_quiet (fail)
          go_wp2
          go_ret
          exact ⟨k, _, rfl, by simp only [World.drewN_drewN, World.drew_drewN]; rfl, by omega, by omega, Hk.out, .inr (.inr (by rw [← HA.out, ← HF.out]; exact Hc.out))⟩

/-- A place, or -1. -/
def topV : Option Nat → Int
  | some v => ((v : Nat) : Int)
  | none => -1

theorem Try.keyed9 : Maps.Keyed Try.prog 9 := Maps.string_keyed Try.underlying9

set_option maxRecDepth 100000 in
set_option maxHeartbeats 2000000 in
theorem top_any (w : World) (B pb mb bb m : Nat) (d s : List UInt8) (mp : List UInt8 → Option Nat) (bf : Nat → Int) (hs : s.length ≤ 4000) (h : PM w B pb mb bb d m mp bf) :
    Calls Try.prog 88 #[.pointer (some ⟨pb, 0, none⟩), .string (txt s)] w fun e w' => e = .returned (.int .i64 (topV (mp s))) ∧ w' = w := by
  obtain ⟨D, hD, hMD⟩ := h.mo
  have x1 : w.cell? ⟨pb, 1, none⟩ = some (.map (some mb)) := by rw [cell_of_row w pb 1 _ 116 (0, 0) h.st]; rfl
  have hkey : keyOf Try.prog 9 (.string (txt s)) = some (.string s) := WideMaps.keyOf_string_mk Try.underlying9 (by rw [txt_size]; unfold maxLen; omega)
  have hz : (zeroValue 3).run Try.prog w = .ok (.int .i64 0) w := by
    obtain ⟨i0, hi, hz0, _⟩ := info_parts Try.info3
    simp [zeroValue, typeInfo, hi, hz0]
  have HMD := hidI hMD
  clear h hMD
  generalize txt s = t at *
  go_enter Try.func88, Try.ntmps88
  cases hm : mp s with
  | none =>
    have hno := HMD.out.no s hm
    go_wp2_with (at_lookup; refine wpList_lookup_own_ok_int _ rfl _ _ 114 rfl 9 3 .i64 Try.keyed9 Try.underlying114 Try.underlying3 hz mb m D rfl hD _ (.string s) rfl hkey ?_; intro c hat hwc)
    go_ret
    exact ⟨rfl, rfl⟩
  | some v =>
    have hyes := HMD.out.yes s v hm
    have hy1 := hyes.1
    have Hy2 := hidI hyes.2
    clear hyes
    go_wp2_with (at_lookup; refine wpList_lookup_own_ok_int _ rfl _ _ 114 rfl 9 3 .i64 Try.keyed9 Try.underlying114 Try.underlying3 hz mb m D rfl hD _ (.string s) rfl hkey ?_; intro c hat hwc)
    go_ret
    rw [Hy2.out] at hat
    injection hat with h1
    injection h1 with h2 h3
    exact ⟨ret_int (by rw [← h3]; rfl), rfl⟩
end Go.Proofs.Ytodmdkhdbfbfgaa
