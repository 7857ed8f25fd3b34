/- What lengths of the document's own answer (package nandref) returns: the lengths of all codes and the place behind them, or nothing. -/
import Derived.Test.YtodmdkhdbfbfgaaRefCopy
import Derived.Test.YtodmdkhdbfbfgaaPrefixed
namespace Go.Proofs.Ytodmdkhdbfbfgaa
open Go.RowKit Pk
set_option linter.unusedVariables false

theorem hidI {p : Prop} (h : p) : Hid p := h

/-- A slice's length, for a measure. -/
def lenOf : Value → Nat
  | .slice _ n _ => n
  | _ => 0

/-- The state of the reading of lengths: p lengths z are there, pos bits have been read, and what is to come is R. -/
def LensAt (s : List UInt8) (R : Option ((Nat → Int) × Nat)) (p pos : Nat) (z : Nat → Int) : Prop :=
  (p ≤ 288 ∧ pos ≤ 8 * s.length ∧ (∀ j, p ≤ j → z j = 0) ∧ ∃ f, 288 ≤ p + f ∧ lensF s f p pos z = R) ∨ (288 < p ∧ p ≤ 320 ∧ R = none)

theorem lensAt_one {s : List UInt8} {R : Option ((Nat → Int) × Nat)} {p pos : Nat} {z : Nat → Int} (h : LensAt s R p pos z) (hp : p < 288) (h4 : ¬ 8 * s.length < pos + 4) (hv : val s pos 4 ≠ 0) :
    LensAt s R (p + 1) (pos + 4) (upd z p (val s pos 4)) := by
  rcases h with ⟨_, hpos, hz, f, hf, hR⟩ | ⟨h, _⟩
  · refine .inl ⟨by omega, by omega, fun j hj => ?_, ?_⟩
    · unfold upd; rw [if_neg (by omega)]; exact hz j (by omega)
    · obtain ⟨g, rfl⟩ : ∃ g, f = g + 1 := ⟨f - 1, by omega⟩
      exact ⟨g, by omega, by rw [← hR, lensF_one s g p pos z hp h4 hv]⟩
  · omega

theorem lensAt_run {s : List UInt8} {R : Option ((Nat → Int) × Nat)} {p pos : Nat} {z : Nat → Int} (h : LensAt s R p pos z) (hp : p < 288) (h4 : ¬ 8 * s.length < pos + 4) (hv : val s pos 4 = 0) (h9 : ¬ 8 * s.length < pos + 9) :
    LensAt s R (p + 1 + val s (pos + 4) 5) (pos + 9) z := by
  have h32 := val_lt s (pos + 4) 5
  rcases h with ⟨_, hpos, hz, f, hf, hR⟩ | ⟨h, _⟩
  · obtain ⟨g, rfl⟩ : ∃ g, f = g + 1 := ⟨f - 1, by omega⟩
    by_cases hov : 288 < p + 1 + val s (pos + 4) 5
    · refine .inr ⟨hov, by omega, ?_⟩
      rw [← hR, lensF_over s g p pos z hp h4 hv h9 hov]
    · refine .inl ⟨by omega, by omega, fun j hj => hz j (by omega), g, by omega, ?_⟩
      rw [← hR, lensF_run s g p pos z hp h4 hv h9 hov]
  · omega

theorem lensAt_short {s : List UInt8} {R : Option ((Nat → Int) × Nat)} {p pos : Nat} {z : Nat → Int} (h : LensAt s R p pos z) (hp : p < 288) (h4 : 8 * s.length < pos + 4) : R = none := by
  rcases h with ⟨_, hpos, hz, f, hf, hR⟩ | ⟨h, _⟩
  · rw [← hR, lensF_short s f p pos z hp hf h4]
  · omega

theorem lensAt_short2 {s : List UInt8} {R : Option ((Nat → Int) × Nat)} {p pos : Nat} {z : Nat → Int} (h : LensAt s R p pos z) (hp : p < 288) (h4 : ¬ 8 * s.length < pos + 4) (hv : val s pos 4 = 0) (h9 : 8 * s.length < pos + 9) : R = none := by
  rcases h with ⟨_, hpos, hz, f, hf, hR⟩ | ⟨h, _⟩
  · obtain ⟨g, rfl⟩ : ∃ g, f = g + 1 := ⟨f - 1, by omega⟩
    rw [← hR, lensF_short2 s g p pos z hp h4 hv h9]
  · omega

theorem lensAt_end {s : List UInt8} {R : Option ((Nat → Int) × Nat)} {pos : Nat} {z : Nat → Int} (h : LensAt s R 288 pos z) : R = some (z, pos) ∧ pos ≤ 8 * s.length := by
  rcases h with ⟨_, hpos, hz, f, hf, hR⟩ | ⟨h, _⟩
  · rw [← hR, lensF_done]; exact ⟨rfl, hpos⟩
  · omega

theorem lensAt_pos {s : List UInt8} {R : Option ((Nat → Int) × Nat)} {p pos : Nat} {z : Nat → Int} (h : LensAt s R p pos z) (hp : p < 288) : pos ≤ 8 * s.length ∧ ∀ j, p ≤ j → z j = 0 := by
  rcases h with ⟨_, hpos, hz, _⟩ | ⟨h, _⟩
  · exact ⟨hpos, hz⟩
  · omega

theorem lens_snoc (p : Nat) (z : Nat → Int) (v : Int) : (List.range p).map (fun j => Value.int .i64 (z j)) ++ [Value.int .i64 v] = (List.range (p + 1)).map (fun j => Value.int .i64 (upd z p v j)) := by
  rw [range_snoc]
  apply List.map_congr_left
  intro j hj
  have : j < p + 1 := by simpa using hj
  unfold upd
  by_cases e : j < p
  · rw [if_pos e, if_neg (by omega)]
  · rw [if_neg e, if_pos (by omega)]

theorem lens_zero (p : Nat) (z : Nat → Int) (h : z p = 0) : (List.range p).map (fun j => Value.int .i64 (z j)) ++ [Value.int .i64 0] = (List.range (p + 1)).map (fun j => Value.int .i64 (z j)) := by
  rw [lens_snoc]
  apply List.map_congr_left
  intro j hj
  unfold upd
  by_cases e : j = p
  · rw [if_pos e, e, h]
  · rw [if_neg e]

set_option maxRecDepth 100000 in
set_option maxHeartbeats 2000000 in
theorem lengths_any (s : List UInt8) (hs : s.length ≤ 1048576) (R : Option ((Nat → Int) × Nat)) (hR : lensF s 288 0 0 (fun _ => 0) = R) (w : World) :
    Calls Try.prog 43 #[.string (txt (bl s (8 * s.length)))] w fun e w' => Below w.heap.size w w' ∧
      ((∃ z pos a c, R = some (z, pos) ∧ pos ≤ 8 * s.length ∧ e = .returned (.tuple #[.slice a 288 c, .int .i64 (pos : Nat)]) ∧ IntsIn w' a 288 z) ∨
       (R = none ∧ e = .returned (.tuple #[.slice none 0 0, .int .i64 (-1)]))) := by
  obtain ⟨i0, hi, hz0, hz1, hz2⟩ := info_parts Try.info3
  have hstart : LensAt s R 0 0 (fun _ => 0) := .inl ⟨by omega, by omega, fun _ _ => rfl, 288, by omega, hR⟩
  have Hst : Hid (LensAt s R 0 0 (fun _ => 0)) := hstart
  clear hstart hR
  have hbs : (txt (bl s (8 * s.length))).size = 8 * s.length := by rw [txt_size, bl_length]
  have hnum := fun pos d hd h w => number_at s (8 * s.length) pos d hd h w
  obtain ⟨b, hb⟩ : ∃ b, b = txt (bl s (8 * s.length)) := ⟨_, rfl⟩
  rw [← hb] at hbs hnum ⊢
  clear hb
  have Hnum := hidI hnum
  have hbl : b.size ≤ 8 * s.length := by omega
  have hbg : 8 * s.length ≤ b.size := by omega
  clear hnum hbs
  go_enter Try.func43, Try.ntmps43
  go_wp2
  go_loopw [4, 5] (fun v x wr => ∃ p pos : Nat, x = .int .i64 pos ∧ ∃ z a' c', v = .slice a' p c' ∧ p ≤ 320 ∧ pos ≤ 8 * s.length + 9 ∧ Hid (LensAt s R p pos z) ∧ wr.ownsRow w.heap.size 3 1 v p ((List.range p).map fun j => .int .i64 (z j)) ∧ Below w.heap.size w wr) (fun v _ _ => 400 - lenOf v)
  case atStart => exact ⟨0, 0, rfl, fun _ => 0, none, 0, rfl, by omega, by omega, Hst, World.ownsRow_nil _ _ _ _, Below.refl _ _⟩
  case round =>
    clear Hst
    obtain ⟨p, pos, rfl, z, a', c', rfl, hp, hpos, Hl, hown, hbel⟩ := hrel
    have hsz := hbel.size
    by_cases hlt : p < 288
    · have hps := (lensAt_pos Hl.out hlt).1
      by_cases h4 : 8 * s.length < pos + 4
      · have HR : Hid (R = none) := lensAt_short Hl.out hlt h4
        go_wp2
        go_ret2
        exact ⟨hbel, .inr ⟨HR.out, rfl⟩⟩
      · have hzp := (lensAt_pos Hl.out hlt).2
        have Hzp : Hid (∀ j, p ≤ j → z j = 0) := hzp
        clear hzp
        go_wp2_with fail
        refine (Hnum.out pos 4 (by omega) (by omega) _).mono ?_
        rintro e w2 ⟨rfl, rfl⟩
        have h16 := val_lt s pos 4
        have Hone : Hid (val s pos 4 ≠ 0 → LensAt s R (p + 1) (pos + 4) (upd z p (val s pos 4))) := fun h => lensAt_one Hl.out hlt h4 h
        have Hrun : Hid (val s pos 4 = 0 → ¬ 8 * s.length < pos + 9 → LensAt s R (p + 1 + val s (pos + 4) 5) (pos + 9) z) := fun h h9 => lensAt_run Hl.out hlt h4 h h9
        have Hsh : Hid (val s pos 4 = 0 → 8 * s.length < pos + 9 → R = none) := fun h h9 => lensAt_short2 Hl.out hlt h4 h h9
        generalize val s pos 4 = v4 at *
        go_wp2_with (at_builtin; refine wpList_append_own _ rfl (.tmp 25) (.tmp 27) 22 rfl w.heap.size 3 i0 (.int .i64 0) 1 8 Try.underlying22 hi hz0 hz1 hz2 rfl (by decide) _ _ _ rfl (hown.alloc _) ⟨w2.heap.size, 0, none⟩ 1 1 [.int .i64 v4] rfl rfl ?c1 ?c2 ?c3 ?c4 ?c5 ?_)
        case c1 => exact cell_one_new _ _ _
        case c2 => intro u hu; simp at hu; subst hu; rfl
        case c3 => unfold maxLen; omega
        case c4 => omega
        case c5 => simp; omega
        intro v3 w3 hown3 hgrow _
        have hbel3 : Below w.heap.size w w3 := (hbel.alloc (by omega) _).grown hgrow (by simp; omega) (fun q hq => (hown.lt q hq).1)
        have hsz3 := hbel3.size
        clear hown hgrow hbel
        by_cases hv : v4 = 0
        · subst hv
          have hown3' : w3.ownsRow w.heap.size 3 1 v3 (p + 1) ((List.range (p + 1)).map fun j => Value.int .i64 (z j)) := by
            have h := hown3
            rw [show ((0 : Nat) : Int) = 0 from rfl, lens_zero p z (Hzp.out p (Nat.le_refl _))] at h
            exact h
          clear hown3
          obtain ⟨a3, c3, hv3, _⟩ := own_ints hown3'
          subst hv3
          by_cases h9 : 8 * s.length < pos + 9
          · have HR : Hid (R = none) := Hsh.out rfl h9
            go_wp2
            go_ret2
            exact ⟨hbel3, .inr ⟨HR.out, rfl⟩⟩
          · go_wp2_with fail
            refine (Hnum.out (pos + 4) 5 (by omega) (by omega) _).mono ?_
            rintro e w4 ⟨rfl, rfl⟩
            have h32 := val_lt s (pos + 4) 5
            have Hend := Hrun.out (by trivial) h9
            have HE : Hid (LensAt s R (p + 1 + val s (pos + 4) 5) (pos + 9) z) := Hend
            clear Hend Hrun Hone Hsh
            generalize val s (pos + 4) 5 = v5 at *
            go_wp2
            go_loopw [4, 8] (fun v i wr => ∃ k : Nat, k ≤ v5 ∧ i = .int .i64 k ∧ ∃ a' c', v = .slice a' (p + 1 + k) c' ∧ wr.ownsRow w.heap.size 3 1 v (p + 1 + k) ((List.range (p + 1 + k)).map fun j => .int .i64 (z j)) ∧ Below w.heap.size w wr) (fun _ i _ => v5 - (intOf i).toNat)
            case atStart => exact ⟨0, by omega, rfl, a3, c3, rfl, hown3', hbel3⟩
            case round =>
              clear hown3' hbel3 hsz3
              obtain ⟨k, hk, rfl, a5, c5, rfl, hown, hbel⟩ := hrel
              have hsz := hbel.size
              by_cases hk5 : k < v5
              · go_wp2_with (at_builtin; refine wpList_append_own _ rfl (.tmp 49) (.tmp 50) 22 rfl w.heap.size 3 i0 (.int .i64 0) 1 8 Try.underlying22 hi hz0 hz1 hz2 rfl (by decide) _ _ _ rfl (hown.alloc _) ⟨wr.heap.size, 0, none⟩ 1 1 [.int .i64 0] rfl rfl ?d1 ?d2 ?d3 ?d4 ?d5 ?_)
                case d1 => exact cell_one_new _ _ _
                case d2 => intro u hu; simp at hu; subst hu; rfl
                case d3 => unfold maxLen; omega
                case d4 => omega
                case d5 => simp; omega
                intro v6 w6 hown6 hgrow _
                rw [lens_zero _ z (Hzp.out _ (by omega))] at hown6
                have hbel6 : Below w.heap.size w w6 := (hbel.alloc (by omega) _).grown hgrow (by simp; omega) (fun q hq => (hown.lt q hq).1)
                obtain ⟨a6, c6, hv6, _⟩ := own_ints hown6
                subst hv6
                clear hown hgrow hbel
                go_wp2
                go_roundw
                case rel => exact ⟨k + 1, by omega, by go_num, a6, c6, rfl, hown6, hbel6⟩
                case measure => simp [intOf]; omega
              · have hk5' : k = v5 := by omega
                subst hk5'
                go_wp2
                go_roundw
                case rel => exact ⟨p + 1 + k, pos + 9, by go_num, z, a5, c5, rfl, by omega, by omega, HE, hown, hbel⟩
                case measure => simp [lenOf]; omega
        · have hne : ((v4 : Int) != 0) = true := by simp; omega
          rw [lens_snoc] at hown3
          obtain ⟨a3, c3, hv3, _⟩ := own_ints hown3
          subst hv3
          have HE : Hid (LensAt s R (p + 1) (pos + 4) (upd z p v4)) := Hone.out hv
          clear Hrun Hone Hsh
          go_wp2
          go_roundw
          case rel => exact ⟨p + 1, pos + 4, by go_num, _, a3, c3, rfl, by omega, by omega, HE, hown3, hbel3⟩
          case measure => simp [lenOf]; omega
    · by_cases h288 : p = 288
      · subst h288
        obtain ⟨hRs, hpl⟩ := lensAt_end Hl.out
        have HR : Hid (R = some (z, pos)) := hRs
        clear hRs Hl
        obtain ⟨a3, c3, hv3, hin⟩ := own_ints hown
        simp at hv3
        obtain ⟨rfl, rfl⟩ := hv3
        go_wp2
        go_ret2
        exact ⟨hbel, .inl ⟨z, pos, _, _, HR.out, hpl, rfl, hin⟩⟩
      · have HR : Hid (R = none) := by
          rcases Hl.out with ⟨h, _⟩ | ⟨_, _, h⟩
          · omega
          · exact h
        have hgt : 288 < p := by omega
        go_wp2
        go_ret2
        exact ⟨hbel, .inr ⟨HR.out, rfl⟩⟩
end Go.Proofs.Ytodmdkhdbfbfgaa
