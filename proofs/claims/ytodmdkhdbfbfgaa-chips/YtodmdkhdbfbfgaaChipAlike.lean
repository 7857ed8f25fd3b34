/- Both chips read alike. -/
import Derived.Test.YtodmdkhdbfbfgaaChipRead
namespace Go.Proofs.Ytodmdkhdbfbfgaa
open Go.RowKit Pk
set_option linter.unusedVariables false
set_option linter.unusedSimpArgs false

theorem ansR_form (o : Option (List UInt8)) : ∃ t ok, ansR o = .returned (.tuple #[.string t, .bool ok]) := by
  cases o with
  | none => exact ⟨_, _, rfl⟩
  | some l => exact ⟨_, _, rfl⟩

set_option maxRecDepth 100000 in
set_option maxHeartbeats 4000000 in
theorem alike_any (w : World) (lo hi cb : Nat) (L : Loc) (lo' hi' cb' : Nat) (L' : Loc) (m : M) (hw : WF m) (h : CP w lo hi cb L m) (h' : CR w lo' hi' cb' L' m) (hsz : hi ≤ w.heap.size) (hsz' : hi' ≤ w.heap.size) :
    Calls Try.prog 33 #[.pointer (some ⟨cb, 0, none⟩), .pointer (some ⟨cb', 0, none⟩)] w fun e w' => e = .returned (.bool true) ∧ Below w.heap.size w w' := by
  have Hh : Hid (∀ W, Below w.heap.size w W → CP W lo hi cb L m) := fun W hb => MemX.below h hsz hb
  have Hh' : Hid (∀ W, Below w.heap.size w W → CR W lo' hi' cb' L' m) := fun W hb => MemX.below h' hsz' hb
  have Hb0 : Hid (Below w.heap.size w w) := Below.refl _ _
  have hnb2 := hw.nb2
  have hnp2 := hw.np2
  have hn1 : ((m.nb : Int) != (m.nb : Int)) = false := by simp
  have hn2 : ((m.np : Int) != (m.np : Int)) = false := by simp
  have hn3 : ((m.life == 0) != (m.life == 0)) = false := by simp
  clear h h'
  go_enter Try.func33, Try.ntmps33
  go_wp2_with (first
    | (go_at_call 59; refine (blocks_any _ lo hi cb L m (Hh.out _ Hb0.out)).mono ?_; rintro e w1 ⟨rfl, rfl⟩)
    | (go_at_call 60; refine (blocksR_any _ lo' hi' cb' L' m (Hh'.out _ Hb0.out)).mono ?_; rintro e w1 ⟨rfl, rfl⟩)
    | (go_at_call 61; refine (pages_any _ lo hi cb L m (Hh.out _ Hb0.out)).mono ?_; rintro e w1 ⟨rfl, rfl⟩)
    | (go_at_call 62; refine (pagesR_any _ lo' hi' cb' L' m (Hh'.out _ Hb0.out)).mono ?_; rintro e w1 ⟨rfl, rfl⟩)
    | (go_at_call 63; refine (dead_any _ lo hi cb L m (Hh.out _ Hb0.out)).mono ?_; rintro e w1 ⟨rfl, rfl⟩)
    | (go_at_call 64; refine (deadR_any _ lo' hi' cb' L' m (Hh'.out _ Hb0.out)).mono ?_; rintro e w1 ⟨rfl, rfl⟩))
  go_loopw [5] (fun x wr => ∃ k : Nat, k ≤ m.nb + 2 ∧ x = .int .i64 ((k : Int) - 1) ∧ Below w1.heap.size w1 wr) (fun x _ => m.nb + 2 - (intOf x + 1).toNat)
  case atStart => exact ⟨0, by omega, rfl, Hb0.out⟩
  case round =>
    obtain ⟨k, hk, rfl, hbel⟩ := hrel
    have Hbel := hidI hbel
    clear hbel
    by_cases hlt : (k : Int) - 1 ≤ (m.nb : Int)
    · have hbb : ((badB m ((k : Int) - 1)) != (badB m ((k : Int) - 1))) = false := by simp
      go_wp2_with (first
        | (go_at_call 60; refine (blocksR_any _ lo' hi' cb' L' m (Hh'.out _ Hbel.out)).mono ?_; rintro e w2 ⟨rfl, h2⟩; subst h2)
        | (go_at_call 51; refine (bad_any _ lo hi cb L m _ (Hh.out _ Hbel.out)).mono ?_; rintro e w2 ⟨rfl, h2⟩; subst h2)
        | (go_at_call 53; refine (badR_any _ lo' hi' cb' L' m _ (Hh'.out _ Hbel.out)).mono ?_; rintro e w2 ⟨rfl, h2⟩; subst h2))
      go_loopw [6] (fun x wr => ∃ p : Nat, p ≤ m.np + 2 ∧ x = .int .i64 ((p : Int) - 1) ∧ Below w1.heap.size w1 wr) (fun x _ => m.np + 2 - (intOf x + 1).toNat)
      case atStart => exact ⟨0, by omega, rfl, Hbel.out⟩
      case round =>
        clear Hbel
        obtain ⟨p, hp, rfl, hbel⟩ := hrel
        have Hbel := hidI hbel
        clear hbel
        by_cases hlp : (p : Int) - 1 ≤ (m.np : Int)
        · obtain ⟨t, ok, han⟩ := ansR_form (readF m ((k : Int) - 1) ((p : Int) - 1))
          have Han := hidI han
          have hoo : (ok != ok) = false := by simp
          clear han
          go_wp2_with (first
            | (go_at_call 62; refine (pagesR_any _ lo' hi' cb' L' m (Hh'.out _ Hbel.out)).mono ?_; rintro e w3 ⟨rfl, h3⟩; subst h3)
            | (go_at_call 65; refine (read_any _ lo hi cb L m _ _ hw (Hh.out _ Hbel.out)).mono ?_; rintro e w4 ⟨he, hb4⟩; rw [Han.out] at he; subst he; have Hb4 := hidI (Hbel.out.trans (hb4.mono Hbel.out.size)); clear hb4)
            | (go_at_call 66; refine (readR_any _ lo' hi' cb' L' m _ _ hw (Hh'.out _ Hb4.out)).mono ?_; rintro e w5 ⟨he, h5⟩; rw [Han.out] at he; subst he; subst h5))
          exact ⟨⟨p + 1, by omega, by simp, Hb4.out⟩, by simp [intOf]; omega⟩
        · go_wp2_with (first
            | (go_at_call 62; refine (pagesR_any _ lo' hi' cb' L' m (Hh'.out _ Hbel.out)).mono ?_; rintro e w3 ⟨rfl, h3⟩; subst h3))
          go_roundw
          case rel => exact ⟨k + 1, by omega, by simp, Hbel.out⟩
          case measure => simp [intOf]; omega
    · go_wp2_with (first
        | (go_at_call 60; refine (blocksR_any _ lo' hi' cb' L' m (Hh'.out _ Hbel.out)).mono ?_; rintro e w2 ⟨rfl, h2⟩; subst h2))
      go_ret
      exact ⟨rfl, Hbel.out⟩
end Go.Proofs.Ytodmdkhdbfbfgaa
