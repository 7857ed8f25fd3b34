/- Groups of symbols that are joined, the two lightest first: plain facts on how long codes come to be. -/
import Derived.Test.YtodmdkhdbfbfgaaPkHeap
namespace Go.Proofs.Ytodmdkhdbfbfgaa.Pk
open Go
set_option linter.unusedVariables false
set_option linter.unusedSimpArgs false

def sumL {α : Type} (f : α → Nat) : List α → Nat
  | [] => 0
  | x :: l => f x + sumL f l

theorem sumL_append {α : Type} (f : α → Nat) (a b : List α) : sumL f (a ++ b) = sumL f a + sumL f b := by
  induction a with
  | nil => simp [sumL]
  | cons x a ih => simp [sumL, ih]; omega
theorem sumL_perm {α : Type} (f : α → Nat) {a b : List α} (h : List.Perm a b) : sumL f a = sumL f b := by
  induction h with
  | nil => rfl
  | cons x _ ih => simp [sumL, ih]
  | swap x y l => simp [sumL]; omega
  | trans _ _ ih1 ih2 => exact ih1.trans ih2
theorem sumL_congr {α : Type} {f g : α → Nat} {l : List α} (h : ∀ x ∈ l, f x = g x) : sumL f l = sumL g l := by
  induction l with
  | nil => rfl
  | cons x l ih => simp only [sumL]; rw [h x (by simp), ih (fun y hy => h y (by simp [hy]))]
theorem sumL_le {α : Type} {f g : α → Nat} {l : List α} (h : ∀ x ∈ l, f x ≤ g x) : sumL f l ≤ sumL g l := by
  induction l with
  | nil => exact Nat.le_refl _
  | cons x l ih => simp only [sumL]; have := h x (by simp); have := ih (fun y hy => h y (by simp [hy])); omega
theorem sumL_mul {α : Type} (f : α → Nat) (k : Nat) (l : List α) : sumL (fun x => k * f x) l = k * sumL f l := by
  induction l with
  | nil => simp [sumL]
  | cons x l ih => simp only [sumL]; rw [ih, Nat.mul_add]

/-- 1, 2, 3, 5, 8 .. -/
def Fb : Nat → Nat
  | 0 => 1
  | 1 => 2
  | n + 2 => Fb (n + 1) + Fb n

theorem Fb_next (d : Nat) : Fb (d + 1) = Fb d + Fb (d - 1) := by
  cases d with
  | zero => rfl
  | succ d => rfl
theorem Fb_pos (d : Nat) : 1 ≤ Fb d ∧ 1 ≤ Fb (d + 1) := by
  induction d with
  | zero => decide
  | succ d ih => exact ⟨ih.2, by rw [Fb]; omega⟩
theorem Fb_mono_one (d : Nat) : Fb d ≤ Fb (d + 1) := by rw [Fb_next]; omega
theorem Fb_mono {a b : Nat} (h : a ≤ b) : Fb a ≤ Fb b := by
  induction b with
  | zero => rw [show a = 0 by omega]; exact Nat.le_refl _
  | succ b ih =>
    by_cases e : a = b + 1
    · rw [e]; exact Nat.le_refl _
    · exact Nat.le_trans (ih (by omega)) (Fb_mono_one b)
theorem Fb_13 : Fb 13 = 610 := by decide

/-- The state of joining: the entries es, of each block b the symbols G b and a bound D b of their codes' lengths. -/
structure JI (K : Nat) (es : List Ent) (G : Nat → List Nat) (D : Nat → Nat) (ln : Nat → Nat) (S : List Nat) (W : Nat) : Prop where
  sym : List.Perm ((es.map fun e => G e.b).flatten) S
  len : ∀ e ∈ es, ∀ i ∈ G e.b, ln i + 1 ≤ (G e.b).length
  kr : ∀ e ∈ es, sumL (fun i => 2 ^ (K - ln i)) (G e.b) = 2 ^ K
  dep : ∀ e ∈ es, ∀ i ∈ G e.b, ln i ≤ D e.b
  fib : ∀ e ∈ es, Fb (D e.b) ≤ e.wt
  fib2 : ∀ e ∈ es, ∀ e' ∈ es, Fb (D e.b - 1) ≤ e'.wt
  sum : sumL (fun e => e.wt) es = W
  zero : ∀ i, i ∉ S → ln i = 0

theorem JI.perm {K : Nat} {es es' : List Ent} {G : Nat → List Nat} {D ln : Nat → Nat} {S : List Nat} {W : Nat} (h : JI K es G D ln S W) (p : List.Perm es' es) : JI K es' G D ln S W :=
  ⟨((p.map _).flatten).trans h.sym, fun e he => h.len e (p.mem_iff.1 he), fun e he => h.kr e (p.mem_iff.1 he), fun e he => h.dep e (p.mem_iff.1 he), fun e he => h.fib e (p.mem_iff.1 he), fun e he e' he' => h.fib2 e (p.mem_iff.1 he) e' (p.mem_iff.1 he'), (sumL_perm _ p).trans h.sum, h.zero⟩

/-- Of the symbols of a group, by a step. -/
theorem glen {K : Nat} {es : List Ent} {G : Nat → List Nat} {D ln : Nat → Nat} {S : List Nat} {W : Nat} (h : JI K es G D ln S W) {e : Ent} (he : e ∈ es) : (G e.b).length ≤ S.length := by
  rw [← h.sym.length_eq]
  clear h
  induction es with
  | nil => simp at he
  | cons x es ih =>
    simp only [List.map_cons, List.flatten_cons, List.length_append]
    rcases List.mem_cons.1 he with rfl | he
    · omega
    · have := ih he; omega

theorem JI.start (K : Nat) (G : Nat → List Nat) : JI K [] G (fun _ => 0) (fun _ => 0) [] 0 :=
  ⟨by simp, by simp, by simp, by simp, by simp, by simp, rfl, by simp⟩

theorem JI.one {K : Nat} {es : List Ent} {G : Nat → List Nat} {S : List Nat} {W : Nat} (h : JI K es G (fun _ => 0) (fun _ => 0) S W) (c : Ent) (i : Nat) (hw : 0 < c.wt) (hc : ∀ e ∈ es, e.b ≠ c.b) :
    JI K (c :: es) (fun b => if b = c.b then [i] else G b) (fun _ => 0) (fun _ => 0) (S ++ [i]) (W + c.wt) := by
  have hG : ∀ e ∈ es, (fun b => if b = c.b then [i] else G b) e.b = G e.b := fun e he => if_neg (hc e he)
  have hm : es.map (fun e => (fun b => if b = c.b then [i] else G b) e.b) = es.map fun e => G e.b := List.map_congr_left hG
  refine ⟨?_, ?_, ?_, fun _ _ _ _ => Nat.zero_le _, ?_, ?_, ?_, fun _ _ => rfl⟩
  · rw [List.map_cons, hm]
    simp only [if_pos, List.flatten_cons]
    exact (List.perm_append_comm).trans (h.sym.append_right _)
  · intro e he j hj
    rcases List.mem_cons.1 he with rfl | he
    · simp
    · simp only [hG e he] at hj ⊢
      exact h.len e he j hj
  · intro e he
    rcases List.mem_cons.1 he with rfl | he
    · simp [sumL]
    · simp only [hG e he]
      exact h.kr e he
  · intro e he
    rcases List.mem_cons.1 he with rfl | he
    · simp [Fb]; omega
    · exact h.fib e he
  · intro e he e' he'
    rcases List.mem_cons.1 he' with rfl | k'
    · simp [Fb]; omega
    · rcases List.mem_cons.1 he with rfl | k
      · have := h.fib e' k'; simp [Fb] at this ⊢; omega
      · exact h.fib2 e k e' k'
  · simp only [sumL]; rw [h.sum]; omega

theorem two_half (K a : Nat) (h : a + 1 ≤ K) : 2 * 2 ^ (K - (a + 1)) = 2 ^ (K - a) := by
  rw [← Nat.pow_succ']; congr 1; omega

/-- Two groups are joined, the two lightest. -/
theorem JI.join {K : Nat} {r : List Ent} {e1 e2 : Ent} {G : Nat → List Nat} {D ln : Nat → Nat} {S : List Nat} {W : Nat} (h : JI K (e1 :: e2 :: r) G D ln S W) (hS : S.Nodup) (hK : S.length ≤ K) (h12 : e1.wt ≤ e2.wt) (hr : ∀ e ∈ r, e2.wt ≤ e.wt)
    (c : Ent) (hw : c.wt = e1.wt + e2.wt) (hc : ∀ e ∈ r, e.b ≠ c.b) (ln' : Nat → Nat) (hl1 : ∀ i, i ∈ G e1.b ++ G e2.b → ln' i = ln i + 1) (hl2 : ∀ i, i ∉ G e1.b ++ G e2.b → ln' i = ln i) :
    JI K (c :: r) (fun b => if b = c.b then G e1.b ++ G e2.b else G b) (fun b => if b = c.b then max (D e1.b) (D e2.b) + 1 else D b) ln' S W := by
  have m1 : e1 ∈ e1 :: e2 :: r := by simp
  have m2 : e2 ∈ e1 :: e2 :: r := by simp
  have mr : ∀ e ∈ r, e ∈ e1 :: e2 :: r := fun e he => by simp [he]
  have hsym := h.sym
  simp only [List.map_cons, List.flatten_cons] at hsym
  have hnd := hsym.symm.nodup hS
  rw [← List.append_assoc] at hnd
  have hdis : ∀ i, i ∈ G e1.b ++ G e2.b → ∀ e ∈ r, i ∉ G e.b := by
    intro i hi e he hie
    exact (List.nodup_append.1 hnd).2.2 i hi i (List.mem_flatten.2 ⟨G e.b, List.mem_map.2 ⟨e, he, rfl⟩, hie⟩) rfl
  have hln : ∀ e ∈ r, ∀ i ∈ G e.b, ln' i = ln i := fun e he i hi => hl2 i fun hm => hdis i hm e he hi
  have hlen1 : ∀ i ∈ G e1.b, ln i + 1 ≤ K := fun i hi => by
    have a := h.len e1 m1 i hi; have b := glen h m1; omega
  have hlen2 : ∀ i ∈ G e2.b, ln i + 1 ≤ K := fun i hi => by
    have a := h.len e2 m2 i hi; have b := glen h m2; omega
  have hG : ∀ e ∈ r, (if e.b = c.b then G e1.b ++ G e2.b else G e.b) = G e.b := fun e he => if_neg (hc e he)
  have hD : ∀ e ∈ r, (if e.b = c.b then max (D e1.b) (D e2.b) + 1 else D e.b) = D e.b := fun e he => if_neg (hc e he)
  have hf1 := h.fib e1 m1
  have hf2 := h.fib e2 m2
  have hf12 := h.fib2 e1 m1 e2 m2
  have hf21 := h.fib2 e2 m2 e1 m1
  have hFc : Fb (max (D e1.b) (D e2.b) + 1) ≤ c.wt := by
    rw [hw]
    rcases Nat.le_total (D e1.b) (D e2.b) with hle | hle
    · rw [Nat.max_eq_right hle, Fb_next]; omega
    · rw [Nat.max_eq_left hle, Fb_next]; omega
  have hFm : Fb (max (D e1.b) (D e2.b)) ≤ e2.wt := by
    rcases Nat.le_total (D e1.b) (D e2.b) with hle | hle
    · rw [Nat.max_eq_right hle]; exact hf2
    · rw [Nat.max_eq_left hle]; omega
  refine ⟨?_, ?_, ?_, ?_, ?_, ?_, ?_, ?_⟩
  · have hm : r.map (fun e => if e.b = c.b then G e1.b ++ G e2.b else G e.b) = r.map fun e => G e.b := List.map_congr_left hG
    rw [List.map_cons, hm]
    simp only [if_pos, List.flatten_cons]
    rw [List.append_assoc]
    exact hsym
  · intro e he i hi
    rcases List.mem_cons.1 he with rfl | he
    · simp only [if_pos] at hi ⊢
      rw [hl1 i hi]
      rw [List.length_append]
      rcases List.mem_append.1 hi with hi | hi
      · have := h.len e1 m1 i hi
        have : 0 < (G e2.b).length := by
          have hk := h.kr e2 m2
          cases hg : G e2.b with
          | nil => rw [hg] at hk; simp only [sumL] at hk; have := Nat.pow_pos (n := K) (show 0 < 2 by omega); omega
          | cons x l => simp
        omega
      · have := h.len e2 m2 i hi
        have : 0 < (G e1.b).length := by
          have hk := h.kr e1 m1
          cases hg : G e1.b with
          | nil => rw [hg] at hk; simp only [sumL] at hk; have := Nat.pow_pos (n := K) (show 0 < 2 by omega); omega
          | cons x l => simp
        omega
    · simp only [hG e he] at hi ⊢
      rw [hln e he i hi]
      exact h.len e (mr e he) i hi
  · intro e he
    rcases List.mem_cons.1 he with rfl | he
    · simp only [if_pos]
      rw [sumL_append]
      have k1 : 2 * sumL (fun i => 2 ^ (K - ln' i)) (G e1.b) = 2 ^ K := by
        rw [← sumL_mul, ← h.kr e1 m1]
        refine sumL_congr fun i hi => ?_
        rw [hl1 i (List.mem_append.2 (.inl hi))]
        exact two_half K _ (hlen1 i hi)
      have k2 : 2 * sumL (fun i => 2 ^ (K - ln' i)) (G e2.b) = 2 ^ K := by
        rw [← sumL_mul, ← h.kr e2 m2]
        refine sumL_congr fun i hi => ?_
        rw [hl1 i (List.mem_append.2 (.inr hi))]
        exact two_half K _ (hlen2 i hi)
      omega
    · simp only [hG e he]
      rw [← h.kr e (mr e he)]
      exact sumL_congr fun i hi => by rw [hln e he i hi]
  · intro e he i hi
    rcases List.mem_cons.1 he with rfl | he
    · simp only [if_pos] at hi ⊢
      rw [hl1 i hi]
      rcases List.mem_append.1 hi with hi | hi
      · have := h.dep e1 m1 i hi; omega
      · have := h.dep e2 m2 i hi; omega
    · simp only [hG e he] at hi
      simp only [hD e he]
      rw [hln e he i hi]
      exact h.dep e (mr e he) i hi
  · intro e he
    rcases List.mem_cons.1 he with rfl | he
    · simp only [if_pos]; exact hFc
    · simp only [hD e he]; exact h.fib e (mr e he)
  · intro e he e' he'
    rcases List.mem_cons.1 he with rfl | k
    · simp only [if_pos, Nat.add_sub_cancel]
      rcases List.mem_cons.1 he' with rfl | k'
      · omega
      · have := hr e' k'; omega
    · simp only [hD e k]
      rcases List.mem_cons.1 he' with rfl | k'
      · have := h.fib2 e (mr e k) e1 m1; omega
      · exact h.fib2 e (mr e k) e' (mr e' k')
  · have := h.sum
    simp only [sumL] at this ⊢
    omega
  · intro i hi
    have h1 : i ∉ G e1.b ++ G e2.b := fun hm => hi (hsym.mem_iff.1 (by rw [← List.append_assoc]; exact List.mem_append.2 (.inl hm)))
    rw [hl2 i h1]
    exact h.zero i hi
end Go.Proofs.Ytodmdkhdbfbfgaa.Pk
