/- What Unpack of the document's own answer (package nandref) returns of texts that are not coded, or whose number of bytes may not be. -/
import Derived.Test.YtodmdkhdbfbfgaaRefLens
namespace Go.Proofs.Ytodmdkhdbfbfgaa
open Go.RowKit Pk
set_option linter.unusedVariables false

/-- What Unpack answers. -/
def ansU : Option (List UInt8) → Ending
  | none => .returned (.tuple #[.string ⟨#[]⟩, .int .i64 2])
  | some l => .returned (.tuple #[.string (txt l), .int .i64 0])

set_option maxRecDepth 100000 in
set_option maxHeartbeats 1000000 in
theorem refU_nil (w : World) : Calls Try.prog 15 #[.string (txt [])] w fun e w' => e = ansU none ∧ w' = w := by
  have h0 : (txt []).toList.isEmpty = true := by rw [txt_toList]; rfl
  go_enter Try.func15, Try.ntmps15
  go_wp2
  go_ret2
  exact ⟨rfl, rfl⟩

set_option maxRecDepth 100000 in
set_option maxHeartbeats 1000000 in
theorem refU_other (c : UInt8) (r : List UInt8) (h : 1 < c.toNat) (w : World) : Calls Try.prog 15 #[.string (txt (c :: r))] w fun e w' => e = ansU none ∧ w' = w := by
  obtain ⟨t, ht⟩ : ∃ t, t = txt (c :: r) := ⟨_, rfl⟩
  have h0 : t.toList.isEmpty = false := by rw [ht, txt_toList]; rfl
  have hs : 0 < t.size := by rw [ht, txt_size]; simp
  have hc : (t[0]'hs).toNat = c.toNat := by subst ht; rw [txt_getD]; rfl
  rw [← ht]
  clear ht
  go_enter Try.func15, Try.ntmps15
  go_wp2
  go_ret2
  exact ⟨rfl, rfl⟩

/-- What is known of a text that begins with the byte c. -/
theorem txt_head (c : UInt8) (r : List UInt8) : ∃ t, t = txt (c :: r) ∧ t.toList.isEmpty = false ∧ t.size = r.length + 1 ∧ (∀ h : 0 < t.size, (t[0]'h).toNat = c.toNat) :=
  ⟨_, rfl, by rw [txt_toList]; rfl, by rw [txt_size]; rfl, fun h => by rw [txt_getD]; rfl⟩

set_option maxRecDepth 100000 in
set_option maxHeartbeats 1000000 in
theorem refU_zero (r : List UInt8) (w : World) (hr : r.length ≤ 1048576) : Calls Try.prog 15 #[.string (txt (0 :: r))] w fun e w' => e = ansU (unpF 288 (0 :: r)) ∧ w' = w := by
  obtain ⟨t, ht, h0, hs, hc⟩ := txt_head 0 r
  have hs0 : 0 < t.size := by omega
  have hc0 : (t[0]'hs0).toNat = 0 := hc hs0
  have hex : t.extract 1 t.size = txt r := by rw [ht, txt_extract, txt_size]; simp
  rw [← ht]
  have Hs : Hid (t.size = r.length + 1) := hs
  have hs1 : t.size ≤ r.length + 1 := by omega
  have hs2 : r.length + 1 ≤ t.size := by omega
  clear ht hc hs
  by_cases h4 : 4000 < r.length
  · rw [unpF_long 288 r h4]
    go_enter Try.func15, Try.ntmps15
    go_wp2
    go_ret2
    exact ⟨rfl, rfl⟩
  · rw [unpF_plain 288 r (by omega)]
    have Hex : Hid (t.extract 1 t.size = txt r) := hex
    clear hex
    go_enter Try.func15, Try.ntmps15
    go_wp2
    go_ret2
    exact ⟨by show _ = Ending.returned (.tuple #[.string (txt r), .int .i64 0]); rw [← Hex.out]; rfl, rfl⟩

set_option maxRecDepth 100000 in
set_option maxHeartbeats 1000000 in
theorem refU_short (r : List UInt8) (w : World) (hr : r.length < 2) : Calls Try.prog 15 #[.string (txt (1 :: r))] w fun e w' => e = ansU none ∧ w' = w := by
  obtain ⟨t, ht, h0, hs, hc⟩ := txt_head 1 r
  have hs0 : 0 < t.size := by omega
  have hc0 : (t[0]'hs0).toNat = 1 := hc hs0
  rw [← ht]
  have hs1 : t.size < 3 := by omega
  clear ht hc hs
  go_enter Try.func15, Try.ntmps15
  go_wp2
  go_ret2
  exact ⟨rfl, rfl⟩

/-- .. and that has two bytes more. -/
theorem txt_head3 (r : List UInt8) (hr : ¬ r.length < 2) : ∃ t, t = txt (1 :: r) ∧ t.toList.isEmpty = false ∧ t.size = r.length + 1 ∧ (∀ h : 0 < t.size, (t[0]'h).toNat = 1) ∧
    (∀ h : 1 < t.size, (t[1]'h).toNat = (r.getD 0 0).toNat) ∧ (∀ h : 2 < t.size, (t[2]'h).toNat = (r.getD 1 0).toNat) ∧ t.extract 3 t.size = txt (r.drop 2) := by
  refine ⟨_, rfl, by rw [txt_toList]; rfl, by rw [txt_size]; rfl, fun h => by rw [txt_getD]; rfl, fun h => by rw [txt_getD]; rfl, fun h => by rw [txt_getD]; rfl, ?_⟩
  rw [txt_extract, txt_size]
  congr 1
  simp only [List.length_cons, List.drop_succ_cons]
  apply List.take_of_length_le
  simp

set_option maxRecDepth 100000 in
set_option maxHeartbeats 1000000 in
theorem refU_size (r : List UInt8) (w : World) (hr : ¬ r.length < 2) (hr2 : r.length ≤ 1048576) (h : 256 * (r.getD 0 0).toNat + (r.getD 1 0).toNat < 1 ∨ 4000 < 256 * (r.getD 0 0).toNat + (r.getD 1 0).toNat) :
    Calls Try.prog 15 #[.string (txt (1 :: r))] w fun e w' => e = ansU none ∧ ∃ q, w' = w.drewN q := by
  obtain ⟨t, ht, h0, hs, hc0, hc1, hc2, _⟩ := txt_head3 r hr
  have hs2 : 2 < t.size := by omega
  have hs1 : 1 < t.size := by omega
  have hs0 : 0 < t.size := by omega
  have hsb : t.size ≤ 1048577 := by omega
  have hc0 := hc0 hs0
  have hc1 := hc1 hs1
  have hc2 := hc2 hs2
  rw [← ht]
  clear ht hs
  have hx1 := (r.getD 0 0).toNat_lt
  have hx2 := (r.getD 1 0).toNat_lt
  generalize (r.getD 0 0).toNat = x1 at *
  generalize (r.getD 1 0).toNat = x2 at *
  have hlt1 : (0 : Int) < (t.size : Int) := by omega
  have hlt2 : (1 : Int) < (t.size : Int) := by omega
  have hlt3 : (2 : Int) < (t.size : Int) := by omega
  by_cases hd : 256 * x1 + x2 < 1
  · go_enter Try.func15, Try.ntmps15
    go_wp2
    go_quiet (fail)
    go_wp2
    go_ret2
    exact ⟨rfl, _, rfl⟩
  · have h' : 4000 < 256 * x1 + x2 := by omega
    clear h
    go_enter Try.func15, Try.ntmps15
    go_wp2
    go_quiet (fail)
    go_wp2
    go_ret2
    exact ⟨rfl, _, rfl⟩
end Go.Proofs.Ytodmdkhdbfbfgaa
