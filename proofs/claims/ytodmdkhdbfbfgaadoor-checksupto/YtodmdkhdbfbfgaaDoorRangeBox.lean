/- A range over an iterator that keeps its state in a box of its own, laid ahead of the loop: the law of the caller. -/
import Derived.RangeFuncWrites
import Derived.WalkKit
import Derived.Deep.Draws
namespace Go.Proofs.YtodmdkhdbfbfgaaDoor
open Go.RowKit
set_option linter.unusedVariables false

/-- It abides a store into the box bs, and draws. -/
structure AbBox {β : Type} (bs : Nat) (J : β → World → Prop) : Prop where
  set : ∀ s W v, J s W → J s (W.setCell ⟨bs, 0, none⟩ v)
  drew : ∀ s W q, J s W → J s (W.drewN q)

/-- An iterator that hands out xs and keeps its state in the box bs. -/
def SeqBox {α : Type} (F : Fence) (n : Nat) (P : Program) (g : Nat) (lb : Array Value) (enc : α → Value) (n₀ bs : Nat) (xs : List α) (w : World) : Prop :=
  ∀ (l : Nat) (J Jx : List α → World → Prop) (W : World), Below n₀ w W → AbBox bs J → AbBox bs Jx →
    (∀ pre x W1, J pre W1 → pre ++ [x] <+: xs → YieldAt F (n - 1) P l #[enc x] W1 fun e W' => (e = .returned (.bool true) ∧ J (pre ++ [x]) W' ∧ Below n₀ W1 W') ∨ (e = .returned (.bool false) ∧ Jx (pre ++ [x]) W')) →
    J [] W → CallsIn F n P g (#[.func (.yield l) #[] #[]] ++ lb) W fun e W' => (∃ v, e = .returned v) ∧ (J xs W' ∨ ∃ pre, pre <+: xs ∧ Jx pre W')

/-- How a round may be left: at its end, or by a return. -/
def boxPost {α : Type} (B : Nat) (I Ix : List α → World → Prop) (xs : List α) (W : World) : Exit → Act → World → Prop
  | .normal, _, W' => KeepsFrom B W W' ∧ Below B W W' ∧ I xs W'
  | .ret, _, W' => KeepsFrom B W W' ∧ Ix xs W'
  | .exit _, _, _ => False
  | .goto _, _, _ => False
  | .panic _, _, _ => False
  | .outgrown, _, _ => False

/-- The loop's record and its block for deferred calls, as they lie. -/
def LoopAt (w : World) (r : Loop) (W : World) : Prop := W.heap[w.heap.size + 1]? = some (.loop r) ∧ W.heap[w.heap.size]? = some (.deferred (some []))

theorem LoopAt.turn {w W : World} {r : Loop} (h : LoopAt w r W) (r' : Loop) : LoopAt w r' (W.putObj (w.heap.size + 1) (.loop r')) :=
  ⟨World.putObj_heap_same (Array.getElem?_eq_some_iff.1 h.1).1, (World.putObj_heap_other (by omega)).trans h.2⟩
theorem LoopAt.kept {w W W' : World} {r : Loop} (h : LoopAt w r W) (k : KeepsFrom w.heap.size W W') : LoopAt w r W' :=
  ⟨k.same _ _ (by omega) h.1 rfl, k.same _ _ (Nat.le_refl _) h.2 rfl⟩
theorem LoopAt.set {w W : World} {r : Loop} (h : LoopAt w r W) {bs : Nat} (hb : bs < w.heap.size) (v : Value) : LoopAt w r (W.setCell ⟨bs, 0, none⟩ v) :=
  ⟨(Below.heap_setCell W ⟨bs, 0, none⟩ v _ (by simp; omega)).trans h.1, (Below.heap_setCell W ⟨bs, 0, none⟩ v _ (by simp; omega)).trans h.2⟩

variable {F : Fence} {n : Nat} {P : Program}

theorem wpIn_rangeBox {α : Type} {g : Operand} {ps : Array Tmp} {assign body : Code} {Q : Exit → Act → World → Prop} {a : Act} {w : World}
    (hro : F.round = none) (h1 : 1 ≤ n) {gf : Nat} {lb : Array Value} (hg : a.eval g = .func (.func gf) #[] lb) (hFg : F.fn gf) (eg : ∀ args w, (callFunc gf args).run P w = .ok (.enter gf args) w)
    {enc : α → Value} {bs : Nat} {xs : List α} (hseq : SeqBox F (n - 1) P gf lb enc w.heap.size bs xs w) (hbs : bs < w.heap.size) (hps : ps.size = 1)
    (I Ix : List α → World → Prop) (hI : OwnFrom w.heap.size I) (hIb : AbBox bs I) (hIx : OwnFrom w.heap.size Ix) (hIxb : AbBox bs Ix) (h0 : I [] w) (a₁ : α → Act)
    (hassign : ∀ (l : Nat) (x : α) (W : World) (K : Act → World → Prop), K (a₁ x) W →
      assign.wpIn (F.inRound l) (n - 1 - 1) P (Exit.then K (fun _ _ _ => False)) { tmps := (ps.zip #[enc x]).foldl (fun t (p, v) => t.setIfInBounds p v) a.tmps, defers := [] } W)
    (hbody : ∀ (l : Nat) (pre : List α) (x : α) (W : World), I pre W → pre ++ [x] <+: xs → w.heap.size ≤ W.heap.size → body.wpIn (F.inRound l) (n - 1 - 1) P (boxPost w.heap.size I Ix (pre ++ [x]) W) (a₁ x) W)
    (hdone : ∀ (D : Nat) (W : World), w.heap.size ≤ D → I xs W → W.heap[D]? = some (.deferred (some [])) → Q .normal { a with defers := { target := .collected D, args := #[] } :: a.defers } W)
    (hstop : ∀ (D : Nat) (pre : List α) (W : World), w.heap.size ≤ D → pre <+: xs → Ix pre W → W.heap[D]? = some (.deferred (some [])) → Code.ret.wpIn F n P Q { a with defers := { target := .collected D, args := #[] } :: a.defers } W) :
    (Code.rangeFunc g ps assign body).wpIn F n P Q a w := by
  refine wpIn_rangeFunc fun fn hfn => ?_
  rw [hro]
  obtain ⟨r, hr⟩ : ∃ r : LoopState → Option Code → Loop, r = fun st pe => { state := st, pending := pe, fn, tmps := a.tmps, params := ps, assign, body, defers := w.heap.size } := ⟨_, rfl⟩
  obtain ⟨V, hV⟩ : ∃ V, V = (w.alloc (.deferred (some []))).alloc (.loop (r .ready none)) := ⟨_, rfl⟩
  have hL : LoopAt w (r .ready none) V := by
    rw [hV]
    refine ⟨?_, (Below.heap_alloc _ _ _ (by simp)).trans (World.alloc_heap_new w _)⟩
    have := World.alloc_heap_new (w.alloc (.deferred (some []))) (.loop (r .ready none))
    rwa [World.size_alloc] at this
  have hIV : I [] V := by rw [hV]; exact hI.alloc _ (hI.alloc _ h0)
  have hBV : Below w.heap.size w V := by rw [hV]; exact ((Below.refl _ w).alloc (Nat.le_refl _) _).alloc (by simp) _
  refine ⟨w.heap.size + 1, [{ target := .collected w.heap.size, args := #[] }], V, { target := .fn (.func gf) lb, args := #[.func (.yield (w.heap.size + 1)) #[] #[]] }, V, gf,
    #[.func (.yield (w.heap.size + 1)) #[] #[]] ++ lb, V, ?_, ?_, ?_, ?_, fun _ => h1, ?_⟩
  · rw [hV, hr]; exact run_enterLoop_outer _ _ _ _ _
  · simp only [resolve, hg]
    simp [go_sem]
  · intro f' hf'; simp [Target.leads] at hf'; subst hf'; exact hFg
  · simp [invoke, go_sem, eg]
  refine (hseq (w.heap.size + 1) (fun pre W => I pre W ∧ LoopAt w (r .ready none) W) (fun pre W => Ix pre W ∧ LoopAt w (r .done (some .ret)) W) V hBV
    ⟨fun s W v h => ⟨hIb.set s W v h.1, h.2.set hbs v⟩, fun s W q h => ⟨hIb.drew s W q h.1, h.2⟩⟩ ⟨fun s W v h => ⟨hIxb.set s W v h.1, h.2.set hbs v⟩, fun s W q h => ⟨hIxb.drew s W q h.1, h.2⟩⟩ ?_ ⟨hIV, hL⟩).mono ?_
  · rintro pre x W ⟨hi, hl⟩ hpre
    have hlt := (Array.getElem?_eq_some_iff.1 hl.1).1
    have hy := run_yield (P := P) (args := #[enc x]) hl.1 (by rw [hr]; simp [hps])
    rw [hr] at hy
    refine ⟨fn, _, assign, body, hy, roundIn_of_wpIn hfn (hassign _ x W _ ⟨_, run_beginRound hl.1 (by rw [hr]), ?_⟩)⟩
    clear hy
    have hl2 : LoopAt w { r .ready none with state := .busy } (W.putObj (w.heap.size + 1) (.loop { r .ready none with state := .busy })) := hl.turn _
    have hb2 : Below w.heap.size W (W.putObj (w.heap.size + 1) (.loop { r .ready none with state := .busy })) := belowK_b (w := w) (Nat.le_refl _) W _ _ _ (by omega) hl.1 rfl rfl
    refine wpIn_mono (hbody _ pre x _ (hI.putObj _ hi (by omega) hl.1 rfl) hpre (Nat.le_trans (by omega) hb2.size)) ?_
    rintro e a3 W3 hp
    cases e with
    | normal =>
      obtain ⟨hk, hb, hi3⟩ := hp
      have hl3 := hl2.kept hk
      have he := run_endRound (P := P) none hl3.1
      rw [hr] at he
      refine ⟨_, _, he, .inl ⟨rfl, ⟨hI.putObj _ hi3 (by omega) hl3.1 rfl, ?_⟩, (hb2.trans hb).trans (belowK_b (w := w) (Nat.le_refl _) _ _ _ _ (by omega) hl3.1 rfl rfl)⟩⟩
      have := hl3.turn (r .ready none)
      rw [hr] at this ⊢
      exact this
    | ret =>
      obtain ⟨hk, hi3⟩ := hp
      have hl3 := hl2.kept hk
      have he := run_endRound (P := P) (some .ret) hl3.1
      rw [hr] at he
      refine ⟨_, _, he, .inr ⟨rfl, hIx.putObj _ hi3 (by omega) hl3.1 rfl, ?_⟩⟩
      have := hl3.turn (r .done (some .ret))
      rw [hr] at this ⊢
      exact this
    | exit id => exact hp.elim
    | goto t => exact hp.elim
    | panic ch => exact hp.elim
    | outgrown => exact hp.elim
  · rintro e W2 ⟨⟨v, rfl⟩, (⟨hi, hl⟩ | ⟨pre, hpre, hi, hl⟩)⟩
    · exact ⟨none, _, by have := run_endLoop (P := P) hl.1 (by rw [hr]; simp); rw [hr] at this; exact this, hdone _ _ (Nat.le_refl _) (hI.putObj _ hi (by omega) hl.1 rfl) ((World.putObj_heap_other (by omega)).trans hl.2)⟩
    · exact ⟨some .ret, _, by have := run_endLoop (P := P) hl.1 (by rw [hr]; simp); rw [hr] at this; exact this, hstop _ pre _ (Nat.le_refl _) hpre (hIx.putObj _ hi (by omega) hl.1 rfl) ((World.putObj_heap_other (by omega)).trans hl.2)⟩
end Go.Proofs.YtodmdkhdbfbfgaaDoor
