/- What newDecoder of package pack makes: how many codes each length has, and the symbols by their lengths. -/
import Derived.Test.YtodmdkhdbfbfgaaReader
import Derived.Test.YtodmdkhdbfbfgaaDec
namespace Go.Proofs.Ytodmdkhdbfbfgaa
open Go.RowKit Pk
set_option linter.unusedVariables false

/-- The type of the block that is written. -/
def RowT (w : World) (row : Option Nat) (t : TypeId) : Prop := ∀ g, row = some g → ∃ cur fz, w.heap[g]? = some (.cells cur t fz)

theorem keep_blk {w w' : World} {row : Option Nat} {tr t : TypeId} {b : Nat} {c : Array Value} {fz : Nat × Nat} (hg : w.grownBy w' row) (ht : RowT w row tr) (hb : w.heap[b]? = some (.cells c t fz)) (hne : t ≠ tr) : w'.heap[b]? = w.heap[b]? := by
  refine hg.block b (lt_of_heap hb) fun e => ?_
  obtain ⟨cur, f, h⟩ := ht b e.symm
  rw [hb] at h
  simp at h
  exact hne h.2.1

/-- A decoder: how many codes each length has, and the symbols. -/
def decC (z : Nat → Int) (v : Value) (j : Nat) : Value := if j ≤ 12 then .int .i64 (if j = 0 then 0 else (cnt z j 288 : Nat)) else v
def Dc (w : World) (base db : Nat) (z : Nat → Int) : Prop :=
  ∃ v, w.rowIs db 108 14 (decC z v) ∧ w.ownsRow base 3 1 v (symL z 288 12).length ((symL z 288 12).map fun i => .int .i64 (i : Nat))

/-- Cell j of the decoder behind the lengths up to d, and length d + 1 of the first k symbols. -/
def decD (z : Nat → Int) (d k : Nat) (v : Value) (j : Nat) : Value := if j ≤ 12 then .int .i64 (if j = 0 then 0 else if j ≤ d then (cnt z j 288 : Nat) else if j = d + 1 then (cnt z j k : Nat) else 0) else v

theorem decD_start (z : Nat → Int) (j : Nat) (h : j < 14) : (#[Value.int .i64 0, .int .i64 0, .int .i64 0, .int .i64 0, .int .i64 0, .int .i64 0, .int .i64 0, .int .i64 0, .int .i64 0, .int .i64 0, .int .i64 0, .int .i64 0, .int .i64 0, .slice none 0 0] : Array Value)[j]? = some (decD z 0 0 (.slice none 0 0) j) := by
  unfold decD
  match j, h with
  | 0, _ => rfl
  | 1, _ => rfl
  | 2, _ => rfl
  | 3, _ => rfl
  | 4, _ => rfl
  | 5, _ => rfl
  | 6, _ => rfl
  | 7, _ => rfl
  | 8, _ => rfl
  | 9, _ => rfl
  | 10, _ => rfl
  | 11, _ => rfl
  | 12, _ => rfl
  | 13, _ => rfl

theorem decD_v (z : Nat → Int) (d k : Nat) (v u : Value) (j : Nat) (hj : j < 14) : (if j = 13 then u else decD z d k v j) = decD z d k u j := by
  unfold decD
  by_cases h : j = 13
  · rw [if_pos h, if_neg (by omega)]
  · rw [if_neg h, if_pos (show j ≤ 12 by omega), if_pos (show j ≤ 12 by omega)]

theorem decD_hit (z : Nat → Int) (d k : Nat) (v : Value) (j : Nat) (hd : d < 12) (h : z k = ((d + 1 : Nat) : Int)) : (if j = d + 1 then Value.int .i64 ((cnt z (d + 1) k : Nat) + 1) else decD z d k v j) = decD z d (k + 1) v j := by
  unfold decD
  by_cases e : j = d + 1
  · subst e
    rw [if_pos rfl, if_pos (by omega), if_neg (by omega), if_neg (by omega), if_pos rfl]
    simp only [cnt, if_pos h]; go_num
  · rw [if_neg e]
    by_cases e1 : j ≤ 12
    · rw [if_pos e1, if_pos e1, if_neg e, if_neg e]
    · rw [if_neg e1, if_neg e1]

theorem decD_miss (z : Nat → Int) (d k : Nat) (v : Value) (j : Nat) (h : z k ≠ ((d + 1 : Nat) : Int)) : decD z d k v j = decD z d (k + 1) v j := by
  have e1 : cnt z (d + 1) (k + 1) = cnt z (d + 1) k := by rw [cnt, if_neg h, Nat.add_zero]
  unfold decD
  by_cases e : j = d + 1
  · subst e
    rw [e1]
  · rw [if_neg e, if_neg e]

theorem decD_next (z : Nat → Int) (d : Nat) (v : Value) (j : Nat) : decD z d 288 v j = decD z (d + 1) 0 v j := by
  unfold decD
  by_cases e : j ≤ 12
  · rw [if_pos e, if_pos e]
    by_cases e0 : j = 0
    · rw [if_pos e0, if_pos e0]
    · rw [if_neg e0, if_neg e0]
      by_cases e1 : j ≤ d
      · rw [if_pos e1, if_pos (by omega)]
      · rw [if_neg e1]
        by_cases e2 : j = d + 1
        · rw [if_pos e2, if_pos (by omega)]
        · rw [if_neg e2, if_neg (by omega)]
          by_cases e3 : j = d + 1 + 1
          · rw [if_pos e3]; simp [cnt]
          · rw [if_neg e3]
  · rw [if_neg e, if_neg e]

theorem decD_end (z : Nat → Int) (v : Value) (j : Nat) : decD z 12 0 v j = decC z v j := by
  unfold decD decC
  by_cases e : j ≤ 12
  · rw [if_pos e, if_pos e, if_pos e]
  · rw [if_neg e, if_neg e]

theorem own_rowT {w : World} {base : Nat} {e : TypeId} {v : Value} {n : Nat} {xs : List Value} (h : w.ownsRow base e 1 v n xs) : RowT w v.ownBlock e := fun g hg => by
  obtain ⟨cur, _, _, _, hh, _⟩ := own_block h hg
  exact ⟨cur, _, hh⟩

theorem rowIs_keep {w w' : World} {row : Option Nat} {tr t : TypeId} {b n : Nat} {f : Nat → Value} (h : w.rowIs b t n f) (hg : w.grownBy w' row) (ht : RowT w row tr) (hne : t ≠ tr) : w'.rowIs b t n f := by
  obtain ⟨c, hc, h1, h2⟩ := h
  exact ⟨c, (keep_blk hg ht hc hne).trans hc, h1, h2⟩

theorem own_keep {w w' : World} {row : Option Nat} {tr e : TypeId} {base n : Nat} {v : Value} {xs : List Value} (h : w.ownsRow base e 1 v n xs) (hg : w.grownBy w' row) (ht : RowT w row tr) (hne : e ≠ tr) : w'.ownsRow base e 1 v n xs := by
  refine h.kept hg ?_
  cases hv : v.ownBlock with
  | none => exact .inl rfl
  | some g =>
    refine .inr fun he => ?_
    obtain ⟨c1, _, _, _, h1, _⟩ := own_block h hv
    obtain ⟨c2, f2, h2⟩ := ht g he.symm
    rw [h1] at h2
    simp at h2
    exact hne h2.2.1

theorem own_setOther {w : World} {base b n : Nat} {e t : TypeId} {v u : Value} {xs : List Value} {f : Nat → Value} {N o : Nat} (h : w.ownsRow base e 1 v n xs) (hr : w.rowIs b t N f) (hne : e ≠ t) : (w.setCell ⟨b, o, none⟩ u).ownsRow base e 1 v n xs := by
  obtain ⟨c, hc, _, _⟩ := hr
  exact own_keep h (row := some b) (tr := t) ⟨rfl, rfl, rfl, by simp, fun k _ hk => Below.heap_setCell w ⟨b, o, none⟩ u k (fun e => hk (by simp [e]))⟩ (fun g hg => by simp at hg; subst hg; exact ⟨c, _, hc⟩) hne

theorem own_nums {w : World} {base : Nat} {v : Value} {n : Nat} {xs : List Nat} (h : w.ownsRow base 3 1 v n (xs.map fun i => Value.int .i64 (i : Nat))) : xs.length = n ∧ ∃ a c, v = .slice a n c ∧ IntsIn w a n (fun j => ((xs.getD j 0 : Nat) : Int)) := by
  have hl : xs.length = n := by have := h.1; simpa using this
  refine ⟨hl, ?_⟩
  have h' : w.ownsRow base 3 1 v n ((List.range n).map fun j => Value.int .i64 ((xs.getD j 0 : Nat) : Int)) := by
    have e : (xs.map fun i => Value.int .i64 (i : Nat)) = (List.range n).map fun j => Value.int .i64 ((xs.getD j 0 : Nat) : Int) := by
      apply List.ext_getElem?
      intro j
      by_cases hj : j < n
      · have hj' : j < xs.length := by omega
        simp [hj, hj']
      · rw [List.getElem?_eq_none (by simp; omega), List.getElem?_eq_none (by simp; omega)]
    rw [← e]; exact h
  exact own_ints h'

set_option maxRecDepth 100000 in
set_option maxHeartbeats 2000000 in
theorem newDecoder_any (a : Option Addr) (cap : Nat) (z : Nat → Int) (w : World) (hz : IntsIn w a 288 z) :
    Calls Try.prog 70 #[.slice a 288 cap] w fun e w' => e = .returned (.pointer (some ⟨w.heap.size, 0, none⟩)) ∧ Below w.heap.size w w' ∧ Dc w' w.heap.size w.heap.size z := by
  obtain ⟨i0, hi, hz0, hz1, hz2⟩ := info_parts Try.info3
  obtain ⟨b, off, rfl, hc⟩ := hz (by omega)
  have Hc := hidI hc
  clear hc hz
  go_enter Try.func70, Try.ntmps70
  go_wp2
  go_loopw [4] (fun i wr => ∃ d D : Nat, d ≤ 12 ∧ D ≤ d + 1 ∧ d + 1 ≤ D ∧ i = .int .i64 D ∧ Below w.heap.size w wr ∧ ∃ v, wr.rowIs w.heap.size 108 14 (decD z d 0 v) ∧ wr.ownsRow w.heap.size 3 1 v (symL z 288 d).length ((symL z 288 d).map fun i => .int .i64 (i : Nat))) (fun i _ => 13 - (intOf i).toNat)
  case atStart =>
    refine ⟨0, 1, by omega, by omega, by omega, rfl, (Below.refl _ _).alloc (Nat.le_refl _) _, .slice none 0 0, ?_, World.ownsRow_nil _ _ _ _⟩
    exact World.rowIs_alloc w _ 108 _ (fun j hj => decD_start z j hj)
  case round =>
    obtain ⟨d, D, hd, hD1, hD2, rfl, hbel, v, hrow, hown⟩ := hrel
    by_cases hlt : d < 12
    · have hdle : decide ((D : Int) ≤ 12) = true := by simp; omega
      go_wp2
      go_loopw [15] (fun i wr => ∃ k : Nat, k ≤ 288 ∧ i = .int .i64 k ∧ Below w.heap.size w wr ∧ ∃ v n, wr.rowIs w.heap.size 108 14 (decD z d k v) ∧ n ≤ 3456 + k ∧ wr.ownsRow w.heap.size 3 1 v n ((symL z 288 d ++ flt z (d + 1) k).map fun i => .int .i64 (i : Nat))) (fun i _ => 288 - (intOf i).toNat)
      case atStart =>
        have hsl := symL_bound z 288 d
        exact ⟨0, by omega, rfl, hbel, v, (symL z 288 d).length, hrow, by omega, by simpa [flt] using hown⟩
      case round =>
        clear hbel hrow hown v
        obtain ⟨k, hk, rfl, hbel, v, n, hrow, hn, hown⟩ := hrel
        have hsz := hbel.size
        by_cases hlt2 : k < 288
        · have hck : wr.cell? { block := b, off := off + k } = some (Value.int IntKind.i64 (z k)) := by
            rw [hbel.cell (p := ⟨b, off + k, none⟩) (World.block_lt_of_cell? w _ (Hc.out k hlt2))]
            exact Hc.out k hlt2
          by_cases he : z k = ((d + 1 : Nat) : Int)
          · have heb : (z k == (D : Int)) = true := by rw [he, show D = d + 1 by omega]; simp
            have He := hidI he
            clear he
            obtain ⟨_, av, cv, hv, _⟩ := own_nums hown
            subst hv
            have hc13 : wr.cell? ⟨w.heap.size, 13, none⟩ = some (.slice av n cv) := by rw [hrow.cell (by omega)]; rfl
            have hlw := hrow.lt
            go_wp2_with (at_builtin; refine wpList_append_own _ rfl (.tmp 27) (.tmp 29) 22 rfl w.heap.size 3 i0 (.int .i64 0) 1 8 Try.underlying22 hi hz0 hz1 hz2 rfl (by decide) _ _ _ rfl (hown.alloc _) ⟨wr.heap.size, 0, none⟩ 1 1 [.int .i64 k] rfl rfl ?c1 ?c2 ?c3 ?c4 ?c5 ?_)
            case c1 => exact cell_one_new _ _ _
            case c2 => intro u hu; simp at hu; subst hu; rfl
            case c3 => unfold maxLen; omega
            case c4 => omega
            case c5 => simp; omega
            intro v3 w3 hown3 hgrow _
            have hbel3 : Below w.heap.size w w3 := (hbel.alloc (by omega) _).grown hgrow (by simp; omega) (fun q hq => (hown.lt q hq).1)
            have hrow3 := rowIs_keep (hrow.alloc _) hgrow (own_rowT (hown.alloc _)) (by decide)
            have hown3' : w3.ownsRow w.heap.size 3 1 v3 (n + 1) ((symL z 288 d ++ flt z (d + 1) (k + 1)).map fun i => Value.int .i64 (i : Nat)) := by
              rw [flt_hit z (d + 1) k He.out, List.map_append, List.map_append]; exact hown3
            obtain ⟨_, av3, cv3, hv3, _⟩ := own_nums hown3'
            subst hv3
            clear hown3 hgrow hown hbel hrow hc13
            have hf13 := hrow3.frozen 13
            have hfD := hrow3.frozen D
            obtain ⟨u13, hc13⟩ : ∃ u, w3.cell? ⟨w.heap.size, 13, none⟩ = some u := ⟨_, hrow3.cell (by omega)⟩
            have hcD : w3.cell? ⟨w.heap.size, D, none⟩ = some (.int .i64 (cnt z (d + 1) k : Nat)) := by
              rw [hrow3.cell (by omega)]
              unfold decD
              rw [if_pos (by omega), if_neg (by omega), if_neg (by omega), if_pos (by omega), show D = d + 1 by omega]
            have hkc : cnt z (d + 1) k ≤ k := cnt_le _ _ _
            have hcD' : (w3.setCell ⟨w.heap.size, 13, none⟩ (.slice av3 (n + 1) cv3)).cell? ⟨w.heap.size, D, none⟩ = some (.int .i64 (cnt z (d + 1) k : Nat)) := by
              rw [((hrow3.set 13 (.slice av3 (n + 1) cv3)).cell (i := D) (by omega)), if_neg (by omega), ← hrow3.cell (i := D) (by omega)]; exact hcD
            have hD13 : (D : Int) < 13 := by omega
            have hrow4 : ((w3.setCell ⟨w.heap.size, 13, none⟩ (.slice av3 (n + 1) cv3)).setCell ⟨w.heap.size, D, none⟩ (.int .i64 ((cnt z (d + 1) k : Nat) + 1))).rowIs w.heap.size 108 14 (decD z d (k + 1) (.slice av3 (n + 1) cv3)) := by
              refine ((hrow3.set 13 _).set D _).congr fun j hj => ?_
              rw [decD_v z d k _ _ j hj, show D = d + 1 by omega]
              exact decD_hit z d k _ j hlt He.out
            have hown4 : ((w3.setCell ⟨w.heap.size, 13, none⟩ (.slice av3 (n + 1) cv3)).setCell ⟨w.heap.size, D, none⟩ (.int .i64 ((cnt z (d + 1) k : Nat) + 1))).ownsRow w.heap.size 3 1 (.slice av3 (n + 1) cv3) (n + 1) ((symL z 288 d ++ flt z (d + 1) (k + 1)).map fun i => Value.int .i64 (i : Nat)) :=
              own_setOther (own_setOther hown3' hrow3 (by decide)) (hrow3.set 13 _) (by decide)
            have hbel4 : Below w.heap.size w ((w3.setCell ⟨w.heap.size, 13, none⟩ (.slice av3 (n + 1) cv3)).setCell ⟨w.heap.size, D, none⟩ (.int .i64 ((cnt z (d + 1) k : Nat) + 1))) :=
              (hbel3.setCell (Nat.le_refl _) _).setCell (Nat.le_refl _) _
            clear hown3' hrow3 hbel3
            go_wp2
            go_region
            go_wp2
            go_roundw
            case rel => exact ⟨k + 1, by omega, by go_num, hbel4.drew, _, n + 1, hrow4.drew, by omega, hown4.drew⟩
            case measure => simp [intOf]; omega
          · have heb : (z k == (D : Int)) = false := by rw [show D = d + 1 by omega]; simpa using he
            have He := hidI he
            clear he
            go_wp2
            go_roundw
            case rel => exact ⟨k + 1, by omega, by go_num, hbel, v, n, hrow.congr (fun j _ => decD_miss z d k v j He.out), by omega, by rw [flt_miss z (d + 1) k He.out]; exact hown⟩
            case measure => simp [intOf]; omega
        · have hk8 : k = 288 := by omega
          subst hk8
          go_wp2
          go_roundw
          case rel =>
            have hl := (own_nums hown).1
            refine ⟨d + 1, D + 1, by omega, by omega, by omega, by go_num, hbel, v, hrow.congr (fun j _ => decD_next z d v j), ?_⟩
            show wr.ownsRow w.heap.size 3 1 v (symL z 288 d ++ flt z (d + 1) 288).length ((symL z 288 d ++ flt z (d + 1) 288).map fun i => Value.int .i64 (i : Nat))
            rw [hl]; exact hown
          case measure => simp [intOf]; omega
    · have hd12 : d = 12 := by omega
      subst hd12
      go_wp2
      go_ret
      exact ⟨rfl, hbel, v, hrow.congr (fun j _ => decD_end z v j), hown⟩
end Go.Proofs.Ytodmdkhdbfbfgaa
