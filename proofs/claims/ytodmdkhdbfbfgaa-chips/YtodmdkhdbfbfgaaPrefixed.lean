/- nandkeep.Prefixed of any list of ints returns true, and writes nothing that was there: the walk. -/
import Derived.Test.YtodmdkhdbfbfgaaCodes
import Derived.Lib.Strings
namespace Go.Proofs.Ytodmdkhdbfbfgaa
open Go.RowKit Pk
set_option linter.unusedVariables false

theorem Try.info3 : (Try.prog.info? 3).map (fun i => (i.zero, i.size, i.bytes)) = some (some (.int .i64 0), 1, 8) := by kernel_rfl

/-- The document's small example. -/
def z0 : Nat → Int := fun k => [1, 2, 2].getD k 0
theorem z0_fits : Fits z0 3 := by
  refine ⟨fun k hk => ?_, by decide⟩
  match k, hk with
  | 0, _ => decide
  | 1, _ => decide
  | 2, _ => decide

/-- The ints of a list that the call has built. -/
theorem own_ints {w : World} {base : Nat} {v : Value} {k : Nat} {zs : Nat → Int} (h : w.ownsRow base 3 1 v k ((List.range k).map fun j => Value.int .i64 (zs j))) :
    ∃ a cap, v = .slice a k cap ∧ IntsIn w a k zs := by
  obtain ⟨hl, h⟩ := h
  rcases h with ⟨rfl, rfl⟩ | ⟨g, cap, cur, rfl, hg, hh, hk, hm, hs, ht⟩
  · exact ⟨none, 0, rfl, fun h => absurd h (by omega)⟩
  · refine ⟨_, cap, rfl, fun _ => ⟨g, 0, rfl, fun j hj => ?_⟩⟩
    have hown : w.ownsRow base 3 1 (.slice (some ⟨g, 0, none⟩) k cap) k ((List.range k).map fun j => Value.int .i64 (zs j)) := ⟨hl, .inr ⟨g, cap, cur, rfl, hg, hh, hk, hm, hs, ht⟩⟩
    rw [Nat.zero_add, hown.cellAt j (by omega)]
    simp [hj]

theorem range_snoc (k : Nat) (zs : Nat → Int) (r : Int) : (List.range k).map (fun j => Value.int .i64 (zs j)) ++ [Value.int .i64 r] = (List.range (k + 1)).map (fun j => Value.int .i64 (if j < k then zs j else r)) := by
  rw [List.range_succ, List.map_append]
  congr 1
  · apply List.map_congr_left
    intro j hj
    rw [if_pos (by simpa using hj)]
  · simp

theorem part_ne (z : Nat → Int) (n s t : Nat) (hf : Fits z n) (hs : s < n) (ht : t < n) (hst : s ≠ t) (h1 : 1 ≤ z s) (h2 : z s ≤ z t) :
    (((txt (code z n t)).extract 0 (z s).toNat).toList == (txt (code z n s)).toList) = false := by
  rw [Lib.extract_toList, Lib.toList_data, txt_data, txt_data, List.drop_zero, Nat.sub_zero]
  exact beq_eq_false_iff_ne.2 (code_prefix z n s t hf hs ht hst h1 h2)

theorem part_ne' (z : Nat → Int) (n s t : Nat) (hf : Fits z n) (hs : s < n) (ht : t < n) (hst : s ≠ t) (h1 : 1 ≤ z s) (h2 : z s ≤ z t) :
    ((txt (code z n s)).toList == ((txt (code z n t)).extract 0 (z s).toNat).toList) = false := by
  rw [Lib.extract_toList, Lib.toList_data, txt_data, txt_data, List.drop_zero, Nat.sub_zero]
  exact beq_eq_false_iff_ne.2 (fun h => code_prefix z n s t hf hs ht hst h1 h2 h.symm)

set_option maxRecDepth 100000 in
set_option maxHeartbeats 2000000 in
theorem prefixed_walk (a : Option Addr) (n cap : Nat) (z : Nat → Int) (w : World) (hn : n ≤ 9223372036854775807) (hz : IntsIn w a n z) (hr : ∀ k, k < n → -9223372036854775808 ≤ z k ∧ z k ≤ 9223372036854775807) :
    Calls Try.prog 7 #[.slice a n cap] w fun e w' => e = .returned (.bool true) ∧ Below w.heap.size w w' := by
  obtain ⟨i0, hi, hz0, hz1, hz2⟩ := info_parts Try.info3
  have h0 : IntsIn (w.alloc (.cells #[.int .i64 1, .int .i64 2, .int .i64 2] 3)) (some ⟨w.heap.size, 0, none⟩) 3 z0 := fun _ => ⟨w.heap.size, 0, rfl, fun k hk => by
    match k, hk with
    | 0, _ => simp [z0]
    | 1, _ => simp [z0]
    | 2, _ => simp [z0]⟩
  go_enter Try.func7, Try.ntmps7
  go_wp2_with fail
  refine (codes_fit _ 3 _ z0 _ (by omega) h0 z0_fits).mono ?_
  rintro e w1 ⟨rfl, hb1, hr1⟩
  have hs1 := hb1.size
  simp only [World.size_alloc] at hs1 hr1 hb1 ⊢
  have hc0 : w1.cell? ⟨w.heap.size + 1, 0, none⟩ = some (.string ⟨#[48]⟩) := hr1.cell (i := 0) (by omega)
  have hc1 : w1.cell? ⟨w.heap.size + 1, 1, none⟩ = some (.string ⟨#[49, 48]⟩) := hr1.cell (i := 1) (by omega)
  have hc2 : w1.cell? ⟨w.heap.size + 1, 2, none⟩ = some (.string ⟨#[49, 49]⟩) := hr1.cell (i := 2) (by omega)
  have hbw : Below w.heap.size w w1 := ((Below.refl _ _).alloc (Nat.le_refl _) _).trans (hb1.mono (by omega))
  clear hb1 hr1 h0
  go_wp2
  clear hc0 hc1 hc2
  go_loopw [5, 6] (fun v i wr => ∃ k : Nat, k ≤ n ∧ k ≤ 288 ∧ i = .int .i64 k ∧ ∃ zs a' c', v = .slice a' k c' ∧ IntsIn wr a' k zs ∧ (∀ j, j < k → 0 ≤ zs j ∧ zs j ≤ 12) ∧ wr.ownsRow w.heap.size 3 1 v k ((List.range k).map fun j => .int .i64 (zs j)) ∧ Below w.heap.size w wr) (fun _ i _ => 288 - (intOf i).toNat)
  case atStart => exact ⟨0, Nat.zero_le _, Nat.zero_le _, rfl, fun _ => 0, none, 0, rfl, fun h => absurd h (by omega), fun j hj => absurd hj (by omega), World.ownsRow_nil _ _ _ _, hbw⟩
  case round =>
    clear hbw hs1
    obtain ⟨k, hk, hk2, rfl, zs, a', c', rfl, hin, hzs, hown, hbw⟩ := hrel
    have hsz := hbw.size
    by_cases hlt3 : k < n ∧ k < 288
    · obtain ⟨hlt, hlt2⟩ := hlt3
      · obtain ⟨b, off, rfl, hc⟩ := hz (by omega)
        have hck : wr.cell? { block := b, off := off + k } = some (Value.int IntKind.i64 (z k)) := by
          rw [hbw.cell (p := ⟨b, off + k, none⟩) (World.block_lt_of_cell? w _ (hc k hlt))]
          exact hc k hlt
        have hrk := hr k hlt
        have Hzs : Hid (∀ j, j < k → 0 ≤ zs j ∧ zs j ≤ 12) := hzs
        clear hc hz hr hin hzs
        go_wp2_with fail
        refine (pick13 _ hrk.1 hrk.2 _).mono ?_
        rintro e w2 ⟨r, rfl, rfl, hr0, hr1⟩
        go_wp2_with (at_builtin; refine wpList_append_own _ rfl (.tmp 52) (.tmp 58) 22 rfl w.heap.size 3 i0 (.int .i64 0) 1 8 Try.underlying22 hi hz0 hz1 hz2 rfl (by decide) _ _ _ rfl (hown.alloc _) ⟨w2.heap.size, 0, none⟩ 1 1 [.int .i64 r] rfl rfl ?c1 ?c2 ?c3 ?c4 ?c5 ?_)
        case c1 => exact cell_one_new _ _ _
        case c2 => intro u hu; simp at hu; subst hu; rfl
        case c3 => unfold maxLen; omega
        case c4 => omega
        case c5 => simp; omega
        intro v' w3 hown' hgrow _
        rw [range_snoc] at hown'
        have hbw3 : Below w.heap.size w w3 := (hbw.alloc hsz _).grown hgrow (by simp; omega) (fun q hq => (hown.lt q hq).1)
        obtain ⟨a3, c3, rfl, hin3⟩ := own_ints hown'
        clear hown hgrow hbw hck
        go_wp2
        go_roundw
        case rel =>
          refine ⟨k + 1, by omega, by omega, by go_num, _, a3, c3, rfl, hin3, fun j hj => ?_, hown', hbw3⟩
          by_cases e : j < k
          · rw [if_pos e]; exact Hzs.out j e
          · rw [if_neg e]; omega
        case measure => simp [intOf]; omega
    · have hd3 : (k < n ∧ ¬ k < 288) ∨ ¬ k < n := by omega
      clear hlt3 hz hr
      have hd4 : (k < n ∧ ¬ k < 288 ∧ decide ((k : Int) < (n : Int)) = true ∧ decide ((k : Int) < 288) = false) ∨ (¬ k < n ∧ decide ((k : Int) < (n : Int)) = false) := by
        rcases hd3 with ⟨h1, h2⟩ | h1
        · exact .inl ⟨h1, h2, by simp; omega, by simp; omega⟩
        · exact .inr ⟨h1, by simp; omega⟩
      clear hd3
      by_cases hsum : 4096 < sumTo zs k
      · have H := fun c => codes_over a' k c zs wr hk2 hin hzs hsum
        clear hin hzs hsum
        rcases hd4 with ⟨hlt, hlt2, hdec, hdec2⟩ | ⟨hlt, hdec⟩
        all_goals
          go_wp2_with fail
          refine (H _).mono ?_
          rintro e w3 ⟨rfl, rfl⟩
          go_wp2
          go_ret
          exact ⟨rfl, hbw⟩
      · have hf : Fits zs k := ⟨hzs, by omega⟩
        have hin' : ∀ W, Below wr.heap.size wr W → IntsIn W a' k zs := fun W hW => hin.below hW
        clear hsum hzs
        rcases hd4 with ⟨hlt, hlt2, hdec, hdec2⟩ | ⟨hlt, hdec⟩
        all_goals
          go_wp2_with fail
          refine (codes_fit a' k _ zs wr hk2 hin hf).mono ?_
          rintro e w3 ⟨rfl, hb3, hr3⟩
          have hin3 := hin' w3 hb3
          have hbw3 : Below w.heap.size w w3 := hbw.trans (hb3.mono hsz)
          clear hb3 hbw hown hin hin' hsz
          generalize wr.heap.size = R at *
          go_wp2
          go_loopw [9] (fun i wq => ∃ p : Nat, p ≤ k ∧ i = .int .i64 p ∧ IntsIn wq a' k zs ∧ wq.rowIs R 9 k (fun s => .string (txt (code zs k s))) ∧ Below w.heap.size w wq) (fun i _ => k - (intOf i).toNat)
          case atStart => exact ⟨0, by omega, rfl, hin3, hr3, hbw3⟩
          case round =>
            clear hin3 hr3 hbw3
            obtain ⟨p, hp, rfl, hin, hrow, hbw⟩ := hrel
            by_cases hpk : p < k
            · obtain ⟨b, off, ha, hc⟩ := hin (by omega)
              subst ha
              have hcl := hc p hpk
              have hcs := hrow.cell hpk
              have hrg := hf.rng p hpk
              have Hf : Hid (Fits zs k) := hf
              have hlen : (txt (code zs k p)).size = (zs p).toNat := by rw [txt_size, code_length]
              have hne : (((txt (code zs k p)).size : Int) != zs p) = false := by
                rw [hlen]; simp; omega
              clear hlen hf
              go_wp2
              go_quiet (fail)
              go_wp2
              clear hcl hcs hne hc
              go_loopw [10] (fun i wq => ∃ q : Nat, q ≤ p ∧ i = .int .i64 q ∧ IntsIn wq (some ⟨b, off, none⟩) k zs ∧ wq.rowIs R 9 k (fun s => .string (txt (code zs k s))) ∧ Below w.heap.size w wq) (fun i _ => p - (intOf i).toNat)
              case atStart => exact ⟨0, by omega, rfl, hin, hrow, below_drewN hbw _⟩
              case round =>
                clear hin hrow hbw
                obtain ⟨q, hq, rfl, hin, hrow, hbw⟩ := hrel
                by_cases hqp : q < p
                · have hcp := hrow.cell hpk
                  have hcq := hrow.cell (i := q) (by omega)
                  have hrq := Hf.out.rng q (by omega)
                  obtain ⟨sp, hsp⟩ : ∃ s, s = txt (code zs k p) := ⟨_, rfl⟩
                  obtain ⟨sq, hsq⟩ : ∃ s, s = txt (code zs k q) := ⟨_, rfl⟩
                  rw [← hsp] at hcp
                  rw [← hsq] at hcq
                  have hzp : sp.size = (zs p).toNat := by rw [hsp, txt_size, code_length]
                  have hzq : sq.size = (zs q).toNat := by rw [hsq, txt_size, code_length]
                  have Hlt : Hid (0 < sq.size → sq.size < sp.size → ((sp.extract 0 sq.size).toList == sq.toList) = false) := fun h1 h2 => by
                    rw [hzq, hsp, hsq]
                    exact part_ne zs k q p Hf.out (by omega) hpk (by omega) (by omega) (by omega)
                  have Hge : Hid (0 < sp.size → ¬ sq.size < sp.size → (sp.toList == (sq.extract 0 sp.size).toList) = false) := fun h1 h2 => by
                    rw [hzp, hsp, hsq]
                    exact part_ne' zs k p q Hf.out hpk (by omega) (by omega) (by omega) (by omega)
                  clear hsp hsq hzp hzq hrq
                  by_cases hle : sq.size < sp.size
                  · go_wp2
                    go_region
                    by_cases h0 : (0 : Int) < (sq.size : Int)
                    · have hN : 0 < sq.size := by omega
                      have hd0 : decide ((0 : Int) < (sq.size : Int)) = true := by simpa using h0
                      have hE := Hlt.out hN hle
                      go_wp2
                      go_quiet (fail)
                      go_wp2
                      go_roundw
                      case rel => exact ⟨q + 1, by omega, by go_num, hin, hrow, below_drewN hbw _⟩
                      case measure => simp [intOf]; omega
                    · have hN : ¬ 0 < sq.size := by omega
                      have hd0 : decide ((0 : Int) < (sq.size : Int)) = false := by simpa using h0
                      go_wp2
                      go_quiet (fail)
                      go_wp2
                      go_roundw
                      case rel => exact ⟨q + 1, by omega, by go_num, hin, hrow, below_drewN hbw _⟩
                      case measure => simp [intOf]; omega
                  · go_wp2
                    go_region
                    by_cases h0 : (0 : Int) < (sp.size : Int)
                    · have hN : 0 < sp.size := by omega
                      have hd0 : decide ((0 : Int) < (sp.size : Int)) = true := by simpa using h0
                      have hE := Hge.out hN hle
                      go_wp2
                      go_quiet (fail)
                      go_wp2
                      go_roundw
                      case rel => exact ⟨q + 1, by omega, by go_num, hin, hrow, below_drewN hbw _⟩
                      case measure => simp [intOf]; omega
                    · have hN : ¬ 0 < sp.size := by omega
                      have hd0 : decide ((0 : Int) < (sp.size : Int)) = false := by simpa using h0
                      go_wp2
                      go_quiet (fail)
                      go_wp2
                      go_roundw
                      case rel => exact ⟨q + 1, by omega, by go_num, hin, hrow, below_drewN hbw _⟩
                      case measure => simp [intOf]; omega
                · go_wp2
                  go_roundw
                  case rel => exact ⟨p + 1, by omega, by go_num, hin, hrow, hbw⟩
                  case measure => simp [intOf]; omega
            · go_wp2
              go_ret
              exact ⟨rfl, hbw⟩
end Go.Proofs.Ytodmdkhdbfbfgaa
