/- What Pack of package pack returns: the error, or a packed text of the bytes, no longer than it may be. -/
import Derived.Test.YtodmdkhdbfbfgaaPkEncode
namespace Go.Proofs.Ytodmdkhdbfbfgaa
open Go.RowKit Pk
set_option linter.unusedVariables false
set_option linter.unusedSimpArgs false

/-- What Pack answers of at most 4000 bytes. -/
def PackP (d : List UInt8) (w : World) (e : Ending) (w' : World) : Prop := ∃ T, e = .returned (.tuple #[.string (txt T), .int .i64 0]) ∧ unpF 288 T = some d ∧ T.length ≤ d.length + 1 ∧ (∀ c, (∀ i, i < d.length → (d.getD i 0).toNat = c) → T.length ≤ 40 + d.length / 16) ∧ Below w.heap.size w w'

set_option maxRecDepth 100000 in
set_option maxHeartbeats 2000000 in
theorem pack_long (w : World) (t : ByteArray) (h : 4000 < t.size) : Calls Try.prog 16 #[.string t] w fun e w' => e = .returned (.tuple #[.string ⟨#[]⟩, .int .i64 8]) ∧ w' = w := by
  go_enter Try.func16, Try.ntmps16
  go_wp2
  go_ret2
  exact ⟨rfl, rfl⟩

theorem txt_zero (d : List UInt8) : txt [0] ++ txt d = txt (0 :: d) := by
  apply ByteArray.ext
  simp [txt]

theorem conv_zero (W : World) : (convert 67 9 (.slice (some ⟨W.heap.size, 0, none⟩) 1 1)).run Try.prog (W.alloc (.cells #[.int .u8 0] 5)) = .ok (.string (txt [0])) (W.alloc (.cells #[.int .u8 0] 5)) :=
  conv_own (base := 0) (n := 1) (l := [0]) ⟨rfl, .inr ⟨_, 1, _, rfl, Nat.zero_le _, heap_alloc_new _ _, Nat.le_refl _, by unfold maxLen; omega, rfl, rfl⟩⟩

set_option maxRecDepth 100000 in
set_option maxHeartbeats 2000000 in
theorem pack_any (w : World) (d : List UInt8) (hd : d.length ≤ 4000) : Calls Try.prog 16 #[.string (txt d)] w fun e w' => PackP d w e w' := by
  have hts : (txt d).size = d.length := txt_size d
  have hpl : unpF 288 (0 :: d) = some d := unpF_plain 288 d hd
  have hz := txt_zero d
  obtain ⟨i0, hi, hz0, hz1, hz2⟩ := info_parts Try.info5
  by_cases h0 : d.length = 0
  · have hnil : d = [] := List.length_eq_zero_iff.1 h0
    subst hnil
    have hcv := conv_zero w
    have hts0 : (txt ([] : List UInt8)).size = 0 := hts
    have hz1s : (txt [0]).size = 1 := rfl
    obtain ⟨z0, hz0'⟩ : ∃ z, z = txt [0] := ⟨_, rfl⟩
    obtain ⟨t, ht⟩ : ∃ z, z = txt ([] : List UInt8) := ⟨_, rfl⟩
    have Hz : Hid (z0 ++ t = txt [0]) := by rw [hz0', ht]; exact hz
    rw [← hz0'] at hcv hz1s
    rw [← ht] at hts0 ⊢
    clear hz hts hz0' ht
    go_enter Try.func16, Try.ntmps16
    go_wp2
    go_ret2
    refine ⟨[0], ?_, hpl, by simp, fun _ _ => by simp, (Below.refl _ w).alloc (Nat.le_refl _) _⟩
    rw [← Hz.out]; rfl
  · have Henc := hidI (encode_any w d (by omega) hd)
    have h0' : 0 < d.length := by omega
    have Hpl := hidI hpl
    have Hz := hidI hz
    clear hpl hz
    have Htd : Hid (∃ t, t = txt d) := ⟨_, rfl⟩
    generalize htd : txt d = t at *
    have Htd := hidI htd
    clear htd
    go_enter Try.func16, Try.ntmps16
    go_wp2_with fail
    refine Henc.out.mono ?_
    rintro e w1 ⟨T, rfl, hunp, hl5, hsame, hb⟩
    have hTs : (txt T).size = T.length := txt_size T
    obtain ⟨tT, htT⟩ : ∃ x, x = txt T := ⟨_, rfl⟩
    rw [← htT] at hTs ⊢
    have HtT := hidI htT
    have Hunp := hidI hunp
    have Hsame := hidI hsame
    have Hb := hidI hb
    clear htT hunp hsame hb Henc
    by_cases hle : T.length ≤ d.length
    · go_wp2
      go_ret2
      refine ⟨T, ?_, Hunp.out, by omega, Hsame.out, Hb.out⟩
      rw [← HtT.out]; rfl
    · have hcv := conv_zero w1
      have hz1s : (txt [0]).size = 1 := rfl
      generalize txt [0] = z0 at *
      go_wp2
      go_ret2
      refine ⟨0 :: d, ?_, Hpl.out, by simp, fun c hc => ?_, Hb.out.alloc Hb.out.size _⟩
      · rw [← Hz.out]; rfl
      · have := Hsame.out c hc
        simp only [List.length_cons]; omega
end Go.Proofs.Ytodmdkhdbfbfgaa
