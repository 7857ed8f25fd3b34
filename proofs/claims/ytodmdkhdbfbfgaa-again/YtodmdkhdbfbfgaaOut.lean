/- pack.Codes and the document's own Codes answer alike, whatever the lengths: one contract for both; and a law on copy into a row that the call has made. -/
import Derived.Test.YtodmdkhdbfbfgaaOwnWalks
import Derived.Laws.CopyOwn
namespace Go.Proofs.Ytodmdkhdbfbfgaa
open Go.RowKit Pk
set_option linter.unusedVariables false

/-- 'copy' into a row that the call has made. -/
theorem wpList_copy_rowIs {P : Program} {w : World} {ops : Array Oper} {rest : List Oper} {o : Oper} {a : Act} {Q : Exit → Act → World → Prop} (hgd : o.guard = none) (d s : Operand) (dT sT : TypeId)
    (ho : o.op = .call { callee := .builtin .copy, args := #[d, s], argTypes := #[dT, sT] }) (elem : TypeId) (hu : P.underlying dT = some (.slice elem)) (hsz : (P.info? elem).map (·.size) = some 1)
    (g off dLen dCap : Nat) (sp : Option Addr) (sLen sCap : Nat) (hd : a.eval d = .slice (some ⟨g, off, none⟩) dLen dCap) (hs : a.eval s = .slice sp sLen sCap)
    (t : TypeId) (N : Nat) (f : Nat → Value) (hrow : w.rowIs g t N f) (src : Nat → Value) (c : Nat) (hc : c = Nat.min sLen dLen)
    (hsrc : 0 < c → ∃ b q, sp = some ⟨b, q, none⟩ ∧ ∀ j, j < c → w.cell? ⟨b, q + j, none⟩ = some (src j))
    (hfit : off + c ≤ N) (h1 : ∀ j, j < c → (src j).oneCell' = true) (B : Nat) (w0 : World) (hb : Below B w0 w) (hBg : B ≤ g)
    (h : ∀ w', w'.rowIs g t N (fun j => if off ≤ j ∧ j < off + c then src (j - off) else f j) → Below B w0 w' → wpList P ops Q rest (a.put o.dst (goInt c)) w') :
    wpList P ops Q (o :: rest) a w := by
  obtain ⟨cur, hg, hcs, hcf⟩ := hrow
  have hl : ((List.range c).map src).length = c := by simp
  refine wpList_copy_splice hgd d s dT sT ho elem hu hsz (some ⟨g, off, none⟩) sp dLen dCap sLen sCap hd hs g off cur.toList t (by simpa using hg) ((List.range c).map src) (by rw [hl, hc]) ?_ (by rw [hl]; simpa [hcs] using hfit) ?_ B w0 hb hBg ?_
  · intro hp
    rw [hl] at hp
    obtain ⟨b, q, rfl, hq⟩ := hsrc hp
    refine ⟨rfl, _, rfl, fun j v hj => ?_⟩
    have hjc : j < c := by
      rcases Nat.lt_or_ge j c with h | h
      · exact h
      · rw [List.getElem?_eq_none (by omega)] at hj; cases hj
    simp [hjc] at hj
    subst hj
    have hplain : (⟨b, q, none⟩ : Addr).add j = ⟨b, q + j, none⟩ := by unfold Addr.add; split <;> simp_all
    rw [hplain]
    exact hq j hjc
  · intro v hv
    obtain ⟨j, hj, rfl⟩ := List.mem_map.1 hv
    exact h1 j (by simpa using hj)
  · intro w' hw' hb'
    rw [hl]
    refine h w' ⟨_, hw'.out, ?_, fun i hi => ?_⟩ hb'
    · rw [List.size_toArray, length_splice _ _ _ (by rw [hl, Array.length_toList]; omega), Array.length_toList, hcs]
    · show _ = some (if off ≤ i ∧ i < off + c then src (i - off) else f i)
      rw [List.getElem?_toArray]
      unfold splice
      rw [hl]
      have hi' : i < cur.toList.length := by rw [Array.length_toList]; omega
      by_cases h2 : i < off
      · rw [List.getElem?_append_left (by rw [List.length_take]; omega), List.getElem?_take_of_lt h2, if_neg (by omega), Array.getElem?_toList]
        exact hcf i hi
      · rw [List.getElem?_append_right (by rw [List.length_take]; omega), List.length_take, Nat.min_eq_left (by omega)]
        by_cases h3 : i < off + c
        · rw [List.getElem?_append_left (by rw [hl]; omega), if_pos ⟨by omega, h3⟩]
          have : i - off < c := by omega
          simp [this]
        · rw [List.getElem?_append_right (by rw [hl]; omega), hl, if_neg (by omega), List.getElem?_drop, show off + c + (i - off - c) = i by omega, Array.getElem?_toList]
          exact hcf i hi

theorem first_bad (z : Nat → Int) (n : Nat) : (∀ j, j < n → 0 ≤ z j ∧ z j ≤ 12) ∨ ∃ q, q < n ∧ ¬ (0 ≤ z q ∧ z q ≤ 12) ∧ ∀ j, j < q → 0 ≤ z j ∧ z j ≤ 12 := by
  induction n with
  | zero => exact .inl fun j hj => absurd hj (by omega)
  | succ n ih =>
    rcases ih with h | ⟨q, hq, hb, hg⟩
    · by_cases hn : 0 ≤ z n ∧ z n ≤ 12
      · refine .inl fun j hj => ?_
        by_cases e : j = n
        · subst e; exact hn
        · exact h j (by omega)
      · exact .inr ⟨n, by omega, hn, h⟩
    · exact .inr ⟨q, by omega, hb, hg⟩

/-- What Codes answers of n lengths z: m codes f, and the error er. -/
def Out (n : Nat) (z : Nat → Int) (m : Nat) (er : Int) (f : Nat → ByteArray) : Prop :=
  (288 < n ∧ m = 0 ∧ er = 1) ∨
  (n ≤ 288 ∧ (∃ q, q < n ∧ ¬ (0 ≤ z q ∧ z q ≤ 12) ∧ ∀ j, j < q → 0 ≤ z j ∧ z j ≤ 12) ∧ m = 0 ∧ er = 1) ∨
  (n ≤ 288 ∧ (∀ j, j < n → 0 ≤ z j ∧ z j ≤ 12) ∧ 4096 < sumTo z n ∧ m = 0 ∧ er = 2) ∨
  (n ≤ 288 ∧ Fits z n ∧ m = n ∧ er = 0 ∧ f = fun s => txt (code z n s))

theorem out_total (n : Nat) (z : Nat → Int) : ∃ m er f, Out n z m er f := by
  by_cases hn : 288 < n
  · exact ⟨0, 1, fun _ => txt [], .inl ⟨hn, rfl, rfl⟩⟩
  · rcases first_bad z n with h | h
    · by_cases hs : 4096 < sumTo z n
      · exact ⟨0, 2, fun _ => txt [], .inr (.inr (.inl ⟨by omega, h, hs, rfl, rfl⟩))⟩
      · exact ⟨n, 0, _, .inr (.inr (.inr ⟨by omega, ⟨h, by omega⟩, rfl, rfl, rfl⟩))⟩
    · exact ⟨0, 1, fun _ => txt [], .inr (.inl ⟨by omega, h, rfl, rfl⟩)⟩

theorem Out.le {n : Nat} {z : Nat → Int} {m : Nat} {er : Int} {f : Nat → ByteArray} (h : Out n z m er f) : m ≤ 288 := by
  rcases h with ⟨_, h, _⟩ | ⟨_, _, h, _⟩ | ⟨_, _, _, h, _⟩ | ⟨_, _, h, _⟩ <;> omega

theorem rowIs_own {w : World} {base b n : Nat} {f : Nat → Value} (h : w.rowIs b 9 n f) (hb : base ≤ b) (hn : n ≤ 288) : w.ownsRow base 9 1 (.slice (some ⟨b, 0, none⟩) n n) n ((List.range n).map f) := by
  obtain ⟨c, hc, hs, hf⟩ := h
  refine ⟨by simp, .inr ⟨b, n, c, rfl, hb, hc, Nat.le_refl _, by unfold maxLen; omega, by omega, ?_⟩⟩
  apply List.ext_getElem?
  intro j
  by_cases hj : j < n
  · rw [List.getElem?_take_of_lt (by omega), Array.getElem?_toList, hf j hj]; simp [hj]
  · rw [List.getElem?_eq_none (by rw [List.length_take, Array.length_toList]; omega), List.getElem?_eq_none (by simp; omega)]

/-- The answer as it lies in memory. -/
def Ans (w w' : World) (m : Nat) (er : Int) (f : Nat → ByteArray) (e : Ending) : Prop :=
  ∃ a c xs, e = .returned (.tuple #[.slice a m c, .int .i64 er]) ∧ Below w.heap.size w w' ∧ w'.ownsRow w.heap.size 9 1 (.slice a m c) m xs ∧ TextsIn w' a m f

theorem ans_none (w : World) (er : Int) (f : Nat → ByteArray) : Ans w w 0 er f (.returned (.tuple #[.slice none 0 0, .int .i64 er])) :=
  ⟨none, 0, [], rfl, Below.refl _ _, World.ownsRow_nil _ _ _ _, fun h => absurd h (by omega)⟩

theorem codes_out (a : Option Addr) (n cap : Nat) (z : Nat → Int) (w : World) (m : Nat) (er : Int) (f : Nat → ByteArray) (hn : n ≤ 140737488351232) (hz : IntsIn w a n z) (ho : Out n z m er f) :
    Calls Try.prog 9 #[.slice a n cap] w fun e w' => Ans w w' m er f e := by
  rcases ho with ⟨h, rfl, rfl⟩ | ⟨h, ⟨q, hq, hb, hg⟩, rfl, rfl⟩ | ⟨h, hg, hs, rfl, rfl⟩ | ⟨h, hf, rfl, rfl, rfl⟩
  · exact (codes_many a n cap w hn h).mono fun e w' ⟨he, hw⟩ => by rw [he, hw]; exact ans_none w _ _
  · exact (codes_bad a n cap z w h hz q hq hb hg).mono fun e w' ⟨he, hw⟩ => by rw [he, hw]; exact ans_none w _ _
  · exact (codes_over a n cap z w h hz hg hs).mono fun e w' ⟨he, hw⟩ => by rw [he, hw]; exact ans_none w _ _
  · exact (codes_fit a m cap z w h hz hf).mono fun e w' ⟨he, hb, hr⟩ => ⟨_, _, _, he, hb, rowIs_own hr (Nat.le_refl _) h, rowIs_texts hr⟩

theorem ref_out (a : Option Addr) (n cap : Nat) (z : Nat → Int) (w : World) (m : Nat) (er : Int) (f : Nat → ByteArray) (hn : n ≤ 140737488351232) (hz : IntsIn w a n z) (ho : Out n z m er f) :
    Calls Try.prog 10 #[.slice a n cap] w fun e w' => Ans w w' m er f e := by
  rcases ho with ⟨h, rfl, rfl⟩ | ⟨h, ⟨q, hq, hb, hg⟩, rfl, rfl⟩ | ⟨h, hg, hs, rfl, rfl⟩ | ⟨h, hf, rfl, rfl, rfl⟩
  · exact (ref_many a n cap w hn h).mono fun e w' ⟨he, hw⟩ => by rw [he, hw]; exact ans_none w _ _
  · exact (ref_bad a n cap z w h hz q hq hb hg).mono fun e w' ⟨he, hw⟩ => by rw [he, hw]; exact ans_none w _ _
  · exact (ref_over a n cap z w h hz hg hs).mono fun e w' ⟨he, hw⟩ => by rw [he, hw]; exact ans_none w _ _
  · exact (ref_fit a m cap z w h hz hf).mono fun e w' ⟨he, hb, hr⟩ => ⟨_, _, _, he, hb, rowIs_own hr (Nat.le_refl _) h, rowIs_texts hr⟩

end Go.Proofs.Ytodmdkhdbfbfgaa
