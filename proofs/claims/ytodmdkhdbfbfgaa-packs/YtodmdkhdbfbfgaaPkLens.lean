/- What writeLengths of package pack does. -/
import Derived.Test.YtodmdkhdbfbfgaaPkPut
import Derived.Test.YtodmdkhdbfbfgaaPkRead
namespace Go.Proofs.Ytodmdkhdbfbfgaa
open Go.RowKit Pk
set_option linter.unusedVariables false
set_option linter.unusedSimpArgs false

/-- The lengths below p are written, up to bit pos. -/
structure WL (z : Nat → Int) (c : List UInt8) (p pos : Nat) : Prop where
  hp : p ≤ 288
  ps : ∃ ch, pos = 24 + 4 * nz z p + 9 * ch ∧ (32 * ch ≤ p + 32 * nz z p ∨ (32 * ch ≤ p + 32 * (nz z p + 1) ∧ (p = 288 ∨ z p ≠ 0)))
  rd : ∃ F, 288 ≤ p + F ∧ ∀ f, Ag c f pos → lensF (f.drop 3) 288 0 0 (fun _ => 0) = lensF (f.drop 3) F p (pos - 24) (zp z p)

theorem WL.init (z : Nat → Int) (c : List UInt8) : WL z c 0 24 :=
  ⟨by omega, ⟨0, rfl, .inl (by omega)⟩, 288, by omega, fun f _ => by rw [zp_zero]⟩

theorem WL.bound {z : Nat → Int} {c : List UInt8} {p pos : Nat} (h : WL z c p pos) : 24 ≤ pos ∧ pos ≤ 24 + 13 * nz z p + 90 := by
  obtain ⟨ch, h1, h2⟩ := h.ps
  have := h.hp
  omega

theorem WL.one {z : Nat → Int} {c c' : List UInt8} {p pos : Nat} (h : WL z c p pos) (hp : p < 288) (hz : 1 ≤ z p) (hw : Wr c' (pos + 4)) (hv : val c' pos 4 = (z p).toNat) (ha : Ag c c' pos) : WL z c' (p + 1) (pos + 4) := by
  obtain ⟨ch, h1, h2⟩ := h.ps
  obtain ⟨F, hF, hr⟩ := h.rd
  have hn : nz z (p + 1) = nz z p + 1 := by rw [nz, if_neg (by omega)]
  obtain ⟨F', rfl⟩ : ∃ F', F = F' + 1 := ⟨F - 1, by omega⟩
  exact ⟨by omega, ⟨ch, by omega, .inl (by omega)⟩, F', by omega, lens_one hp h.bound.1 hz hw.lo hv ha _ hr⟩

theorem WL.run {z : Nat → Int} {c c' : List UInt8} {p pos k : Nat} (h : WL z c p pos) (hp : p + k < 288) (hk : k ≤ 31) (hz : ∀ i, i < k + 1 → z (p + i) = 0) (he : k = 31 ∨ p + 1 + k = 288 ∨ z (p + 1 + k) ≠ 0) (hw : Wr c' (pos + 9)) (hv : val c' pos 4 = 0) (hv2 : val c' (pos + 4) 5 = k) (ha : Ag c c' pos) : WL z c' (p + 1 + k) (pos + 9) := by
  obtain ⟨ch, h1, h2⟩ := h.ps
  obtain ⟨F, hF, hr⟩ := h.rd
  have hn : nz z (p + 1 + k) = nz z p := by rw [show p + 1 + k = p + (k + 1) by omega]; exact nz_run z p (k + 1) hz
  obtain ⟨F', rfl⟩ : ∃ F', F = F' + 1 := ⟨F - 1, by omega⟩
  have hz0 := hz 0 (by omega)
  rw [Nat.add_zero] at hz0
  have h3 : 32 * ch ≤ p + 32 * nz z p := by
    rcases h2 with h2 | ⟨_, h2 | h2⟩
    · exact h2
    · omega
    · exact absurd hz0 h2
  refine ⟨by omega, ⟨ch + 1, by omega, ?_⟩, F', by omega, lens_run hp h.bound.1 hz hw.lo hv hv2 ha _ hr⟩
  rw [hn]
  rcases he with he | he | he
  · left; omega
  · right; exact ⟨by omega, .inl he⟩
  · right; exact ⟨by omega, .inr he⟩

theorem WL.done {z : Nat → Int} {c : List UInt8} {pos : Nat} (h : WL z c 288 pos) (hz : ∀ i, 288 ≤ i → z i = 0) : ∀ f, Ag c f pos → lensF (f.drop 3) 288 0 0 (fun _ => 0) = some (z, pos - 24) := by
  intro f hf
  obtain ⟨F, hF, hr⟩ := h.rd
  rw [hr f hf, lensF_done, zp_all z 288 hz]

set_option maxRecDepth 100000 in
set_option maxHeartbeats 4000000 in
theorem lens_any (w : World) (B g lb : Nat) (b : List UInt8) (z : Nat → Int) (hB : B ≤ w.heap.size) (hb : 0 < b.length) (hlb : lb < B) (hrow : w.rowIs lb 3 288 (fun j => .int .i64 (z j))) (hz : ∀ i, 0 ≤ z i ∧ z i ≤ 12) (hz0 : ∀ i, 288 ≤ i → z i = 0) (h : BW w B g b 24) :
    Calls Try.prog 75 #[.pointer (some ⟨g, 0, none⟩), .slice (some ⟨lb, 0, none⟩) 288 288] w fun e w' => e = .returned (.tuple #[]) ∧ ∃ b' pos, BW w' B g b' pos ∧ Ag b b' 24 ∧ 24 ≤ pos ∧ pos ≤ 24 + 13 * nz z 288 + 90 ∧ (∀ f, Ag b' f pos → lensF (f.drop 3) 288 0 0 (fun _ => 0) = some (z, pos - 24)) ∧ Below B w w' := by
  have Hh := hidI h
  have Hz := hidI hz
  have Hz0 := hidI hz0
  have Hrow := hidI hrow
  clear hz hz0 h hrow
  go_enter Try.func75, Try.ntmps75
  go_wp2
  go_loopw [4] (fun i wr => ∃ p pos : Nat, ∃ c, i = .int .i64 (p : Nat) ∧ Hid (WL z c p pos) ∧ Hid (BW wr B g c pos) ∧ Hid (Ag b c 24) ∧ Hid (Below B w wr)) (fun i _ => 288 - (intOf i).toNat)
  case atStart => exact ⟨0, 24, b, rfl, WL.init z b, Hh, Ag.refl _ _, Below.refl _ _⟩
  case round =>
    clear Hh
    obtain ⟨p, pos, c, rfl, Hw, Hbw, Hag, Hbel⟩ := hrel
    have hp := Hw.out.hp
    have hpos := Hw.out.bound
    have hnz := nz_le z p
    by_cases hlt : p < 288
    · have hc0 := (rowIs_below Hrow.out Hbel.out hlb).cell (i := p) hlt
      have hzp := Hz.out p
      obtain ⟨n, hn⟩ : ∃ n : Nat, z p = (n : Int) := ⟨(z p).toNat, by omega⟩
      have Hn := hidI hn
      rw [hn] at hc0
      have hn12 : n ≤ 12 := by omega
      clear hn hzp
      have hwB : B ≤ wr.heap.size := Nat.le_trans hB Hbel.out.size
      go_wp2_with fail
      refine (put_any _ B g c pos n 4 hwB (Nat.lt_of_lt_of_le hb Hag.out.len) (by omega) (by omega) (by omega) Hbw.out).mono ?_
      rintro e w1 ⟨rfl, c1, hbw1, ha1, hv1, hb1⟩
      have Hbel1 := hidI (Hbel.out.trans hb1)
      have hrow1 := rowIs_below Hrow.out Hbel1.out hlb
      have hc1 := hrow1.cell (i := p) hlt
      rw [Hn.out] at hc1
      have Hag1 := hidI (Hag.out.trans ha1 hpos.1)
      have Hbw1 := hidI hbw1
      have Ha1 := hidI ha1
      have Hv1 := hidI hv1
      have hwB1 : B ≤ w1.heap.size := Nat.le_trans hB Hbel1.out.size
      clear hbw1 ha1 hv1 hb1 hc0 Hbel Hag Hbw
      by_cases h0 : n = 0
      · subst h0
        go_wp2
        have hzr : ∀ i, i < 288 → w1.cell? ⟨lb, i, none⟩ = some (.int .i64 (z i)) := fun i hi => hrow1.cell hi
        have Hzr := hidI hzr
        have HzA := hidI (fun i => (Hz.out i).1)
        clear hzr hrow1 hc1
        go_loopw [5] (fun i wr => ∃ q : Nat, i = .int .i64 (q : Nat) ∧ q ≤ 31 ∧ p + q < 288 ∧ Hid (∀ j, j < q + 1 → z (p + j) = 0) ∧ wr = w1) (fun i _ => 32 - (intOf i).toNat)
        case atStart => exact ⟨0, rfl, by omega, by omega, fun j hj => by rw [show p + j = p by omega]; exact Hn.out, rfl⟩
        case round =>
          obtain ⟨q, rfl, hq, hpq, Hq, rfl⟩ := hrel
          have Hend : Hid (q = 31 ∨ p + 1 + q = 288 ∨ z (p + 1 + q) ≠ 0 → ∀ c2, Wr c2 (pos + 9) → Ag c1 c2 (pos + 4) → val c2 (pos + 4) 5 = q → WL z c2 (p + q + 1) (pos + 9)) := fun he c2 hw2 ha2 hv2 => by
            rw [show p + q + 1 = p + 1 + q by omega]
            exact Hw.out.run hpq hq Hq.out he hw2 (by rw [ha2.val pos 4 (Nat.le_refl _)]; exact Hv1.out) hv2 (Ha1.out.trans ha2 (by omega))
          by_cases hg : q < 31 ∧ p + q + 1 < 288 ∧ z (p + q + 1) = 0
          · obtain ⟨g1, g2, g3⟩ := hg
            have hx := Hzr.out (p + q + 1) g2
            rw [g3] at hx
            have Hq2 : Hid (∀ j, j < q + 1 + 1 → z (p + j) = 0) := fun j hj => by
              by_cases e : j = q + 1
              · subst e; exact g3
              · exact Hq.out j (by omega)
            clear Hq g3 Hend
            have g1' : decide ((q : Int) < 31) = true := by simp; omega
            have g2' : decide ((p : Int) + (q : Int) + 1 < 288) = true := by simp; omega
            go_wp2
            go_roundw
            case rel => exact ⟨q + 1, by go_num, by omega, by omega, Hq2, by trivial⟩
            case measure => simp [intOf]; omega
          · have Hend2 : Hid (∀ c2, Wr c2 (pos + 9) → Ag c1 c2 (pos + 4) → val c2 (pos + 4) 5 = q → WL z c2 (p + q + 1) (pos + 9)) := Hend.out (by
              by_cases a : q = 31
              · exact .inl a
              · by_cases b : p + 1 + q = 288
                · exact .inr (.inl b)
                · refine .inr (.inr fun h => hg ⟨by omega, by omega, ?_⟩)
                  rw [show p + q + 1 = p + 1 + q by omega]; exact h)
            clear Hend Hq
            have hput := put_any wr B g c1 (pos + 4) q 5 hwB1 (Nat.lt_of_lt_of_le hb Hag1.out.len) (by omega) (by omega) (by omega) Hbw1.out
            have Hput := hidI hput
            clear hput
            have hcs : (31 ≤ q) ∨ (q < 31 ∧ p + q + 1 = 288) ∨ (q < 31 ∧ p + q + 1 < 288 ∧ z (p + q + 1) ≠ 0) := by
              by_cases a : 31 ≤ q
              · exact .inl a
              · by_cases b : p + q + 1 = 288
                · exact .inr (.inl ⟨by omega, b⟩)
                · exact .inr (.inr ⟨by omega, by omega, fun h => hg ⟨by omega, by omega, h⟩⟩)
            clear hg
            rcases hcs with a | ⟨a, b⟩ | ⟨a, b, c0⟩
            · have a1 : decide ((q : Int) < 31) = false := by simp; omega
              go_wp2_with fail
              refine Hput.out.mono ?_
              rintro e w2 ⟨rfl, c2, hbw2, ha2, hv2, hb2⟩
              have Hfin := hidI (Hend2.out c2 hbw2.wr ha2 hv2)
              have Hag2 := hidI (Hag1.out.trans ha2 (by omega))
              have Hbel2 := hidI (Hbel1.out.trans hb2)
              have Hbw2 := hidI hbw2
              clear hbw2 ha2 hv2 hb2 Hput Hend2 Hzr Hv1 Ha1
              go_wp2
              go_roundw
              case rel => exact ⟨p + q + 1, pos + 9, c2, by go_num, Hfin, Hbw2, Hag2, Hbel2⟩
              case measure => simp [intOf]; omega
            · have a1 : decide ((q : Int) < 31) = true := by simp; omega
              have a2 : decide ((p : Int) + (q : Int) + 1 < 288) = false := by simp; omega
              go_wp2_with fail
              refine Hput.out.mono ?_
              rintro e w2 ⟨rfl, c2, hbw2, ha2, hv2, hb2⟩
              have Hfin := hidI (Hend2.out c2 hbw2.wr ha2 hv2)
              have Hag2 := hidI (Hag1.out.trans ha2 (by omega))
              have Hbel2 := hidI (Hbel1.out.trans hb2)
              have Hbw2 := hidI hbw2
              clear hbw2 ha2 hv2 hb2 Hput Hend2 Hzr Hv1 Ha1
              go_wp2
              go_roundw
              case rel => exact ⟨p + q + 1, pos + 9, c2, by go_num, Hfin, Hbw2, Hag2, Hbel2⟩
              case measure => simp [intOf]; omega
            · have a1 : decide ((q : Int) < 31) = true := by simp; omega
              have a2 : decide ((p : Int) + (q : Int) + 1 < 288) = true := by simp; omega
              have hx := Hzr.out (p + q + 1) b
              have hzb := Hz.out (p + q + 1)
              have a3 : (z (p + q + 1) == 0) = false := by simp; exact c0
              clear c0
              generalize z (p + q + 1) = y at *
              go_wp2_with fail
              refine Hput.out.mono ?_
              rintro e w2 ⟨rfl, c2, hbw2, ha2, hv2, hb2⟩
              have Hfin := hidI (Hend2.out c2 hbw2.wr ha2 hv2)
              have Hag2 := hidI (Hag1.out.trans ha2 (by omega))
              have Hbel2 := hidI (Hbel1.out.trans hb2)
              have Hbw2 := hidI hbw2
              clear hbw2 ha2 hv2 hb2 Hput Hend2 Hzr Hv1 Ha1 hx
              go_wp2
              go_roundw
              case rel => exact ⟨p + q + 1, pos + 9, c2, by go_num, Hfin, Hbw2, Hag2, Hbel2⟩
              case measure => simp [intOf]; omega
      · have hn0 : (0 : Int) < (n : Int) := by omega
        have Hend := hidI (Hw.out.one hlt (by have := Hn.out; omega) Hbw1.out.wr (by rw [Hv1.out, Hn.out]; rfl) Ha1.out)
        clear Hw Hn Hv1 Ha1 hrow1
        go_wp2
        go_roundw
        case rel => exact ⟨p + 1, pos + 4, c1, by go_num, Hend, Hbw1, Hag1, Hbel1⟩
        case measure => simp [intOf]; omega
    · have h288 : p = 288 := by omega
      subst h288
      go_wp2
      go_end0
      exact ⟨rfl, c, pos, Hbw.out, Hag.out, hpos.1, hpos.2, Hw.out.done Hz0.out, Hbel.out⟩
end Go.Proofs.Ytodmdkhdbfbfgaa
