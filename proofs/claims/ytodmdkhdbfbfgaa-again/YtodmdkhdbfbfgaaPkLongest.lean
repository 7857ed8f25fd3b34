/- What places of package pack does: longest. -/
import Derived.Test.YtodmdkhdbfbfgaaPkPlaces
namespace Go.Proofs.Ytodmdkhdbfbfgaa
open Go.RowKit Pk
set_option linter.unusedVariables false
set_option linter.unusedSimpArgs false

/-- Of the places below a all are known. -/
structure PI (d : List UInt8) (mp : List UInt8 → Option Nat) (bf : Nat → Int) (a : Nat) : Prop where
  lt : ∀ s v, mp s = some v → v < a ∧ v + 3 ≤ d.length ∧ key3 d v = s
  ch : ∀ v, v < a → v + 3 ≤ d.length → bf v = -1 ∨ ∃ u : Nat, bf v = (u : Int) ∧ u < v ∧ key3 d u = key3 d v
  all : ∀ v, v < a → v + 3 ≤ d.length → ∃ u, mp (key3 d v) = some u

theorem key3_get (d : List UInt8) (u a j : Nat) (h : key3 d u = key3 d a) (hj : j < 3) (hu : u + 3 ≤ d.length) (ha : a + 3 ≤ d.length) : d.getD (u + j) 0 = d.getD (a + j) 0 := by
  have h1 := congrArg (fun l => l.getD j 0) h
  unfold key3 at h1
  simp only [List.getD_eq_getElem?_getD, List.getElem?_take_of_lt hj, List.getElem?_drop] at h1
  simpa [List.getD_eq_getElem?_getD] using h1
theorem key3_len (d : List UInt8) (a : Nat) : (key3 d a).length ≤ 3 := by unfold key3; rw [List.length_take]; omega

/-- A copy that makes what is at a. -/
structure Good (d : List UInt8) (a len bk : Nat) : Prop where
  lo : 3 ≤ len
  hi : len ≤ 34
  b1 : 1 ≤ bk
  b2 : bk ≤ a
  fit : a + len ≤ d.length
  same : ∀ j, j < len → d.getD (a + j) 0 = d.getD (a + j - bk) 0

set_option maxRecDepth 100000 in
set_option maxHeartbeats 4000000 in
theorem longest_no (w : World) (B pb mb bb m a : Nat) (d : List UInt8) (mp : List UInt8 → Option Nat) (bf : Nat → Int) (hd : d.length ≤ 4000) (ha : a ≤ d.length) (h3 : d.length < a + 3) (h : PM w B pb mb bb d m mp bf) :
    Calls Try.prog 82 #[.pointer (some ⟨pb, 0, none⟩), .int .i64 (a : Nat)] w fun e w' => e = .returned (.tuple #[.int .i64 0, .int .i64 0]) ∧ w' = w := by
  have Hst := hidI (start_no w pb a d _ _ hd (by omega) h3 h.st)
  clear h
  go_enter Try.func82, Try.ntmps82
  go_wp2_with (go_at_call 87; refine Hst.out.mono ?_; rintro e w' ⟨rfl, rfl⟩)
  go_ret2
  exact ⟨rfl, rfl⟩

/-- What longest answers. -/
def LongP (d : List UInt8) (a : Nat) (mp : List UInt8 → Option Nat) (w : World) (e : Ending) (w' : World) : Prop :=
  ∃ len bk q : Nat, e = .returned (.tuple #[.int .i64 (len : Nat), .int .i64 (bk : Nat)]) ∧ w' = w.drewN q ∧ ((len = 0 ∧ bk = 0) ∨ Good d a len bk) ∧ (∀ v, mp (key3 d a) = some v → (∀ j, a + j < d.length → d.getD (v + j) 0 = d.getD (a + j) 0) → min 34 (d.length - a) ≤ len)

set_option maxRecDepth 100000 in
set_option maxHeartbeats 4000000 in
theorem longest_any (w : World) (B pb mb bb m a : Nat) (d : List UInt8) (mp : List UInt8 → Option Nat) (bf : Nat → Int) (hd : d.length ≤ 4000) (h3 : a + 3 ≤ d.length) (h : PM w B pb mb bb d m mp bf) (hpi : PI d mp bf a) :
    Calls Try.prog 82 #[.pointer (some ⟨pb, 0, none⟩), .int .i64 (a : Nat)] w fun e w' => LongP d a mp w e w' := by
  have Hst := hidI (start_yes w pb a d _ _ hd h3 h.st)
  have Htop := hidI (top_any w B pb mb bb m d (key3 d a) mp bf (by have := key3_len d a; omega) h)
  have Hag : Hid (∀ f q, f < a → Calls Try.prog 89 #[.pointer (some ⟨pb, 0, none⟩), .int .i64 (f : Nat), .int .i64 (a : Nat)] (w.drewN q) _) := fun f q hf => agree_any (w.drewN q) pb a f d _ _ hd hf (by omega) h.st
  have x2 : ∀ q, (w.drewN q).cell? ⟨pb, 2, none⟩ = some (.slice (some ⟨bb, 0, none⟩) d.length d.length) := fun q => by
    show w.cell? _ = _
    rw [cell_of_row w pb 2 _ 116 (0, 0) h.st]; rfl
  have Hbo := hidI h.bo
  have Hpi := hidI hpi
  have hmax : max (0 : Int) ((a : Int) - 4096) = 0 := by omega
  clear h hpi
  obtain ⟨tp, htp⟩ : ∃ tp : Int, tp = topV (mp (key3 d a)) := ⟨_, rfl⟩
  rw [← htp] at Htop
  have Htp : Hid (tp = -1 ∨ ∃ u : Nat, tp = (u : Int) ∧ u < a ∧ key3 d u = key3 d a) := by
    cases hm : mp (key3 d a) with
    | none => rw [hm] at htp; exact .inl htp
    | some v => rw [hm] at htp; have := Hpi.out.lt _ _ hm; exact .inr ⟨v, htp, this.1, this.2.2⟩
  have Hv : Hid (∀ v, mp (key3 d a) = some v → tp = (v : Int)) := fun v hm => by rw [hm] at htp; exact htp
  clear htp
  go_enter Try.func82, Try.ntmps82
  go_wp2_with (first | (go_at_call 87; refine Hst.out.mono ?_; rintro e w' ⟨rfl, hw⟩; have hw' := hw.symm; subst hw') | (go_at_call 88; refine Htop.out.mono ?_; rintro e w' ⟨rfl, hw⟩; have hw' := hw.symm; subst hw'))
  go_loopw [8, 4, 5] (fun f l b wr => ∃ fr : Int, ∃ len bk q : Nat, f = .int .i64 fr ∧ l = .int .i64 (len : Nat) ∧ b = .int .i64 (bk : Nat) ∧ wr = w.drewN q ∧ len ≤ 34 ∧ -1 ≤ fr ∧ fr ≤ 4000 ∧ Hid (fr = -1 ∨ ∃ u : Nat, fr = (u : Int) ∧ u < a ∧ key3 d u = key3 d a) ∧ Hid ((len = 0 ∧ bk = 0) ∨ Good d a len bk) ∧ Hid ((fr = tp ∧ len = 0) ∨ (∀ v, mp (key3 d a) = some v → (∀ j, a + j < d.length → d.getD (v + j) 0 = d.getD (a + j) 0) → min 34 (d.length - a) ≤ len))) (fun f _ _ _ => (intOf f + 1).toNat)
  case atStart => exact ⟨tp, 0, 0, 0, rfl, rfl, rfl, rfl, by omega, by rcases Htp.out with h | ⟨u, h, _⟩ <;> omega, by rcases Htp.out with h | ⟨u, h, h2, _⟩ <;> omega, Htp, .inl ⟨rfl, rfl⟩, .inl ⟨rfl, rfl⟩⟩
  case round =>
    clear Hst Htop
    obtain ⟨fr, len, bk, q, rfl, rfl, rfl, rfl, hl34, hf1, hf2, Hfr, Hgd, Hlow⟩ := hrel
    by_cases hfr : fr = -1
    · subst hfr
      have Hend : Hid (∀ v, mp (key3 d a) = some v → (∀ j, a + j < d.length → d.getD (v + j) 0 = d.getD (a + j) 0) → min 34 (d.length - a) ≤ len) := fun v hv hall => by
        rcases Hlow.out with ⟨h1, h2⟩ | h1
        · have := Hv.out v hv; omega
        · exact h1 v hv hall
      go_wp2
      go_ret2
      exact ⟨len, bk, q, rfl, rfl, Hgd.out, Hend.out⟩
    · obtain ⟨u, hu, hua, hku⟩ : ∃ u : Nat, fr = (u : Int) ∧ u < a ∧ key3 d u = key3 d a := by
        rcases Hfr.out with h | h
        · exact absurd h hfr
        · exact h
      have Hlow2 : Hid (((u : Int) = tp ∧ len = 0) ∨ (∀ v, mp (key3 d a) = some v → (∀ j, a + j < d.length → d.getD (v + j) 0 = d.getD (a + j) 0) → min 34 (d.length - a) ≤ len)) := by
        rw [← hu]; exact Hlow
      subst hu
      have Hku := hidI hku
      have hch := Hpi.out.ch u hua (by omega)
      have y2 := x2 q
      have hun : u < d.length := by omega
      clear Hlow Hfr hku hf1 hf2 hfr
      go_wp2_with fail
      refine (Hag.out u q hua).mono ?_
      rintro e w2 ⟨k, q2, rfl, rfl, hk34, hak, hsame, hstop⟩
      have hk3 : 3 ≤ k := by
        by_cases e0 : 3 ≤ k
        · exact e0
        · exfalso
          rcases hstop with h | h | h
          · omega
          · omega
          · exact h (key3_get d u a k Hku.out (by omega) (by omega) h3)
      have Hgood : Hid (Good d a k (a - u)) := ⟨hk3, hk34, by omega, by omega, hak, fun j hj => by
        rw [show a + j - (a - u) = u + j by omega]
        exact (hsame j hj).symm⟩
      have Hkmax : Hid (∀ v, mp (key3 d a) = some v → (u : Int) = tp → (∀ j, a + j < d.length → d.getD (v + j) 0 = d.getD (a + j) 0) → min 34 (d.length - a) ≤ k) := fun v hv htp hall => by
        have := Hv.out v hv
        have hvu : v = u := by omega
        subst hvu
        rcases hstop with h | h | h
        · omega
        · omega
        · by_cases e : a + k < d.length
          · exact absurd (hall k e) h
          · omega
      have hsub : (a : Int) - (u : Int) = ((a - u : Nat) : Int) := by omega
      have z0 : ∀ q', (w.drewN q').cell? ⟨bb, u, none⟩ = some (.int .i64 (bf u)) := fun q' => Hbo.out.cell (i := u) hun
      have x2b := x2 (q + q2)
      have z0b := z0 (q + q2)
      have Hnext : Hid (bf u = -1 ∨ ∃ u2 : Nat, bf u = (u2 : Int) ∧ u2 < a ∧ key3 d u2 = key3 d a) := by
        rcases hch with h | ⟨u2, h1, h2, h4⟩
        · exact .inl h
        · exact .inr ⟨u2, h1, by omega, h4.trans Hku.out⟩
      have hb1 : -1 ≤ bf u ∧ bf u < u := by rcases hch with h | ⟨u2, h1, h2, _⟩ <;> omega
      have hun' : (u : Int) < (d.length : Int) := by omega
      rw [World.drewN_drewN]
      generalize bf u = fn at *
      clear hsame hstop hch z0 x2 y2
      by_cases hgt : len < k
      · have hgt' : decide ((len : Int) < (k : Int)) = true := by simp; omega
        have Hlow3 : Hid (∀ v, mp (key3 d a) = some v → (∀ j, a + j < d.length → d.getD (v + j) 0 = d.getD (a + j) 0) → min 34 (d.length - a) ≤ k) := fun v hv hall => by
          rcases Hlow2.out with ⟨h1, h2⟩ | h1
          · exact Hkmax.out v hv h1 hall
          · have := h1 v hv hall; omega
        clear Hlow2 Hkmax Hgd
        by_cases h34 : k = 34
        · subst h34
          go_wp2
          go_ret2
          exact ⟨34, a - u, q + q2, rfl, rfl, .inr Hgood.out, Hlow3.out⟩
        · have h34' : ((k : Int) == 34) = false := by simp; omega
          go_wp2
          go_roundw
          case rel => exact ⟨fn, k, a - u, q + q2, rfl, rfl, rfl, by first | rfl | trivial, by omega, by omega, by omega, Hnext, .inr Hgood.out, .inr Hlow3.out⟩
          case measure => simp [intOf]; omega
      · have hgt' : decide ((len : Int) < (k : Int)) = false := by simp; omega
        have Hlow3 : Hid (∀ v, mp (key3 d a) = some v → (∀ j, a + j < d.length → d.getD (v + j) 0 = d.getD (a + j) 0) → min 34 (d.length - a) ≤ len) := fun v hv hall => by
          rcases Hlow2.out with ⟨h1, h2⟩ | h1
          · omega
          · exact h1 v hv hall
        clear Hlow2 Hkmax
        by_cases h34 : len = 34
        · subst h34
          go_wp2
          go_ret2
          exact ⟨34, bk, q + q2, rfl, rfl, Hgd.out, Hlow3.out⟩
        · have h34' : ((len : Int) == 34) = false := by simp; omega
          go_wp2
          go_roundw
          case rel => exact ⟨fn, len, bk, q + q2, rfl, rfl, rfl, by first | rfl | trivial, by omega, by omega, by omega, Hnext, Hgd, .inr Hlow3.out⟩
          case measure => simp [intOf]; omega
end Go.Proofs.Ytodmdkhdbfbfgaa
