/- What sameTexts, ownTexts and keptTexts of the statements do: lists that their owner has written into, and behind, read as he left them. -/
import Derived.Test.YtodmdkhdbfbfgaaKeep
namespace Go.Proofs.Ytodmdkhdbfbfgaa
open Go.RowKit
set_option linter.unusedVariables false

theorem Try.info23 : (Try.prog.info? 23).map (fun i => (i.zero, i.size, i.bytes)) = some (some (.slice none 0 0), 1, 24) := by kernel_rfl

/-- A slice of n texts, f i the i-th, as a call reads it. -/
def TextsIn (w : World) (a : Option Addr) (n : Nat) (f : Nat → ByteArray) : Prop :=
  0 < n → ∃ b off, a = some ⟨b, off, none⟩ ∧ ∀ k, k < n → w.cell? ⟨b, off + k, none⟩ = some (.string (f k))

theorem TextsIn.below {w w' : World} {a : Option Addr} {n : Nat} {f : Nat → ByteArray} (h : TextsIn w a n f) (hb : Below w.heap.size w w') : TextsIn w' a n f := by
  intro hn
  obtain ⟨b, off, rfl, hc⟩ := h hn
  refine ⟨b, off, rfl, fun k hk => ?_⟩
  rw [hb.cell (p := ⟨b, off + k, none⟩) (World.block_lt_of_cell? w _ (hc k hk))]
  exact hc k hk

theorem rowIs_texts {w : World} {b : Nat} {t : TypeId} {n : Nat} {f : Nat → ByteArray} (h : w.rowIs b t n (fun j => .string (f j))) : TextsIn w (some ⟨b, 0, none⟩) n f :=
  fun _ => ⟨b, 0, rfl, fun k hk => by rw [Nat.zero_add]; exact h.cell hk⟩

set_option maxRecDepth 100000 in
set_option maxHeartbeats 400000 in
theorem same_any (a b : Option Addr) (n c d : Nat) (f : Nat → ByteArray) (w : World) (hn : n ≤ 288) (ha : TextsIn w a n f) (hb : TextsIn w b n f) :
    Calls Try.prog 11 #[.slice a n c, .slice b n d] w fun e w' => e = .returned (.bool true) ∧ ∃ q, w' = w.drewN q := by
  go_enter Try.func11, Try.ntmps11
  go_wp2
  go_loopw [5] (fun i wr => ∃ k : Nat, k ≤ n ∧ i = .int .i64 k ∧ ∃ q, wr = w.drewN q) (fun i _ => n - (intOf i).toNat)
  case atStart => exact ⟨0, Nat.zero_le _, rfl, 0, rfl⟩
  case round =>
    obtain ⟨k, hk, rfl, q, rfl⟩ := hrel
    by_cases hlt : k < n
    · obtain ⟨b1, o1, e1, h1⟩ := ha (by omega)
      obtain ⟨b2, o2, e2, h2⟩ := hb (by omega)
      subst e1
      subst e2
      have h1k := h1 k hlt
      have h2k := h2 k hlt
      clear h1 h2 ha hb
      generalize f k = s at *
      go_wp2
      go_quiet (fail)
      go_wp2
      go_roundw
      case rel => exact ⟨k + 1, by omega, by go_num, _, rfl⟩
      case measure => simp [intOf]; omega
    · go_wp2
      go_ret
      exact ⟨rfl, q, rfl⟩

/-- An array of texts of which the first n are the mark. -/
def MarkRow (w : World) (B : Nat) (mk : Value) (a : Option Addr) (n : Nat) : Prop :=
  0 < n → ∃ g cur, a = some ⟨g, 0, none⟩ ∧ B ≤ g ∧ w.heap[g]? = some (.cells cur 9 (0, 0)) ∧ ∀ j, j < n → cur[j]? = some mk

theorem lt_of_heap {w : World} {g : Nat} {o : Obj} (h : w.heap[g]? = some o) : g < w.heap.size := (Array.getElem?_eq_some_iff.1 h).1

theorem MarkRow.below {w w' : World} {B : Nat} {mk : Value} {a : Option Addr} {n : Nat} (h : MarkRow w B mk a n) (hb : Below w.heap.size w w') : MarkRow w' B mk a n := by
  intro hn
  obtain ⟨g, cur, rfl, hg, hh, hc⟩ := h hn
  exact ⟨g, cur, rfl, hg, (hb.block g (lt_of_heap hh)).trans hh, hc⟩

theorem MarkRow.grown {w w' : World} {B : Nat} {mk : Value} {a : Option Addr} {n : Nat} {row : Option Nat} (h : MarkRow w B mk a n) (hg : w.grownBy w' row) (hne : ∀ g cur, row = some g → w.heap[g]? ≠ some (.cells cur 9 (0, 0))) : MarkRow w' B mk a n := by
  intro hn
  obtain ⟨g, cur, rfl, hB, hh, hc⟩ := h hn
  refine ⟨g, cur, rfl, hB, (hg.block g (lt_of_heap hh) (fun e => hne g cur e.symm hh)).trans hh, hc⟩

theorem MarkRow.cell {w : World} {B : Nat} {mk : Value} {a : Option Addr} {n : Nat} (h : MarkRow w B mk a n) (hn : 0 < n) : ∃ g, a = some ⟨g, 0, none⟩ ∧ ∀ j, j < n → w.cell? ⟨g, j, none⟩ = some mk := by
  obtain ⟨g, cur, rfl, hB, hh, hc⟩ := h hn
  exact ⟨g, rfl, fun j hj => by rw [cell_of_row w g j cur 9 (0, 0) hh, hc j hj]⟩

theorem own_block {w : World} {base : Nat} {e : TypeId} {size : Nat} {v : Value} {n : Nat} {xs : List Value} {g : Nat} (h : w.ownsRow base e size v n xs) (hg : v.ownBlock = some g) :
    ∃ cur cap, v = .slice (some ⟨g, 0, none⟩) n cap ∧ base ≤ g ∧ w.heap[g]? = some (.cells cur e (0, 0)) ∧ cur.toList.take (n * size) = xs := by
  rcases h.2 with ⟨rfl, _⟩ | ⟨g', cap, cur, rfl, hb, hh, h1, h2, h3, h4⟩
  · simp [Value.ownBlock] at hg
  · simp [Value.ownBlock] at hg
    subst hg
    exact ⟨cur, cap, rfl, hb, hh, h4⟩

/-- A list that owns n marks, as an array of marks. -/
theorem own_marks {w : World} {base : Nat} {v : Value} {n : Nat} {mk : Value} (h : w.ownsRow base 9 1 v n (List.replicate n mk)) : ∃ a c, v = .slice a n c ∧ MarkRow w base mk a n := by
  rcases h.2 with ⟨rfl, rfl⟩ | ⟨g, cap, cur, rfl, hb, hh, h1, h2, h3, h4⟩
  · exact ⟨none, 0, rfl, fun h => absurd h (by omega)⟩
  · refine ⟨_, cap, rfl, fun _ => ⟨g, cur, rfl, hb, hh, fun j hj => ?_⟩⟩
    have := congrArg (fun l : List Value => l[j]?) h4
    simpa [hj] using this

theorem marks_kept {w w' : World} {B : Nat} {mk : Value} {a : Option Addr} {n N : Nat} {v v' : Value} (h : MarkRow w B mk a n) (hg : w.grownBy w' v.ownBlock) (hN : n ≤ N)
    (hown : w'.ownsRow B 9 1 v' N (List.replicate N mk)) (hk : ∀ g, v.ownBlock = some g → w'.heap[g]? = w.heap[g]? ∨ v'.ownBlock = some g) : MarkRow w' B mk a n := by
  intro hn
  obtain ⟨g, cur, rfl, hB, hh, hc⟩ := h hn
  by_cases e : v.ownBlock = some g
  · rcases hk g e with h1 | h1
    · exact ⟨g, cur, rfl, hB, h1.trans hh, hc⟩
    · obtain ⟨cur', cap', rfl, _, h2, h3⟩ := own_block hown h1
      refine ⟨g, cur', rfl, hB, h2, fun j hj => ?_⟩
      have := congrArg (fun l : List Value => l[j]?) h3
      have hjN : j < N := by omega
      simpa [hjN] using this
  · exact ⟨g, cur, rfl, hB, (hg.block g (lt_of_heap hh) (fun e' => e e'.symm)).trans hh, hc⟩

/-- The lists that an owner has left: of n marks, and of one, two, three more. -/
def Marks (w : World) (B : Nat) (v : Value) (n : Nat) (mk : Value) : Prop :=
  ∃ (O co : Nat) (A : Nat → Option Addr) (C : Nat → Nat), v = .slice (some ⟨O, 0, none⟩) 4 co ∧ B ≤ O ∧ ∀ p, p < 4 → w.cell? ⟨O, p, none⟩ = some (.slice (A p) (n + p) (C p)) ∧ MarkRow w B mk (A p) (n + p)

theorem Marks.below {w w' : World} {B : Nat} {v : Value} {n : Nat} {mk : Value} (h : Marks w B v n mk) (hb : Below w.heap.size w w') : Marks w' B v n mk := by
  obtain ⟨O, co, A, C, rfl, hO, hp⟩ := h
  refine ⟨O, co, A, C, rfl, hO, fun p hlt => ⟨?_, (hp p hlt).2.below hb⟩⟩
  rw [hb.cell (p := ⟨O, p, none⟩) (World.block_lt_of_cell? w _ (hp p hlt).1)]
  exact (hp p hlt).1

theorem kept_list {w w' : World} {base : Nat} {e : TypeId} {v u : Value} {n m : Nat} {xs ys : List Value} {e' : TypeId} (h : w.ownsRow base e 1 v n xs) (hu : w.ownsRow base e' 1 u m ys) (hne : e ≠ e') (hg : w.grownBy w' u.ownBlock) :
    w'.ownsRow base e 1 v n xs := by
  refine h.kept hg ?_
  cases hv : v.ownBlock with
  | none => exact .inl rfl
  | some g =>
    refine .inr fun he => ?_
    obtain ⟨c1, _, _, _, h1, _⟩ := own_block h hv
    obtain ⟨c2, _, _, _, h2, _⟩ := own_block hu he.symm
    rw [h1] at h2
    simp at h2
    exact hne h2.2

theorem block_type {w : World} {base : Nat} {u : Value} {m : Nat} {ys : List Value} (hu : w.ownsRow base 23 1 u m ys) : ∀ g cur, u.ownBlock = some g → w.heap[g]? ≠ some (.cells cur 9 (0, 0)) := by
  intro g cur hg hh
  obtain ⟨c2, _, _, _, h2, _⟩ := own_block hu hg
  rw [hh] at h2
  simp at h2

/-- Behind out = append(out, g). -/
theorem own_step1 {B N p n : Nat} {w wr w2 : World} {ag : Option Addr} {cg : Nat} {vo mk : Value} {L : List Value} {A : Nat → Option Addr} {O : Obj}
    (hvg : wr.ownsRow B 9 1 (.slice ag N cg) N (List.replicate N mk)) (hvo : wr.ownsRow B 23 1 vo p L) (hM : ∀ q, q < p → MarkRow wr B mk (A q) (n + q)) (hb : Below B w wr) (hB : B ≤ w.heap.size)
    (hg : (wr.alloc O).grownBy w2 vo.ownBlock) :
    w2.ownsRow B 9 1 (.slice ag N cg) N (List.replicate N mk) ∧ (∀ q, q < p → MarkRow w2 B mk (A q) (n + q)) ∧ Below B w w2 := by
  have hs := hb.size
  have hbl : Below wr.heap.size wr (wr.alloc O) := (Below.refl _ _).alloc (Nat.le_refl _) _
  refine ⟨kept_list (hvg.alloc O) (hvo.alloc O) (by decide) hg, fun q hq => ((hM q hq).below hbl).grown hg (block_type (hvo.alloc O)), ?_⟩
  exact (hb.alloc (by omega) O).grown hg (by simp; omega) (fun k hk => ((hvo.alloc O).lt k hk).1)

/-- Behind g = append(g, mark). -/
theorem own_step2 {B N p n : Nat} {w w2 w3 : World} {v v' vo mk : Value} {L : List Value} {A : Nat → Option Addr} {O : Obj}
    (hv : w2.ownsRow B 9 1 v N (List.replicate N mk)) (hv' : w3.ownsRow B 9 1 v' (N + 1) (List.replicate (N + 1) mk)) (hvo : w2.ownsRow B 23 1 vo p L) (hM : ∀ q, q < p → MarkRow w2 B mk (A q) (n + q)) (hN : n + p ≤ N + 1) (hb : Below B w w2) (hB : B ≤ w.heap.size)
    (hg : (w2.alloc O).grownBy w3 v.ownBlock) (hk : ∀ g, v.ownBlock = some g → w3.heap[g]? = (w2.alloc O).heap[g]? ∨ v'.ownBlock = some g) :
    w3.ownsRow B 23 1 vo p L ∧ (∀ q, q < p → MarkRow w3 B mk (A q) (n + q)) ∧ Below B w w3 := by
  have hs := hb.size
  have hbl : Below w2.heap.size w2 (w2.alloc O) := (Below.refl _ _).alloc (Nat.le_refl _) _
  refine ⟨kept_list (hvo.alloc O) (hv.alloc O) (by decide) hg, fun q hq => ?_, ?_⟩
  · exact marks_kept ((hM q hq).below hbl) hg (by omega) hv' hk
  · exact (hb.alloc (by omega) O).grown hg (by simp; omega) (fun k hk => ((hv.alloc O).lt k hk).1)

theorem range_snocV (k : Nat) (f : Nat → Value) (r : Value) : (List.range k).map f ++ [r] = (List.range (k + 1)).map (fun j => if j < k then f j else r) := by
  rw [List.range_succ, List.map_append]
  congr 1
  · apply List.map_congr_left
    intro j hj
    rw [if_pos (by simpa using hj)]
  · simp

theorem lists_snoc (p n : Nat) (A : Nat → Option Addr) (C : Nat → Nat) (ag : Option Addr) (cg : Nat) :
    ((List.range p).map fun q => Value.slice (A q) (n + q) (C q)) ++ [.slice ag (n + p) cg] = (List.range (p + 1)).map fun q => Value.slice (if q < p then A q else ag) (n + q) (if q < p then C q else cg) := by
  rw [range_snocV]
  apply List.map_congr_left
  intro q hq
  have : q < p + 1 := by simpa using hq
  by_cases e : q < p
  · rw [if_pos e, if_pos e, if_pos e]
  · rw [if_neg e, if_neg e, if_neg e, show q = p by omega]

end Go.Proofs.Ytodmdkhdbfbfgaa
