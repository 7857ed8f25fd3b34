/- Lemmas and contracts for kept. -/
import Derived.Deep.RegionHeld3
import Derived.OrdersIn
import Derived.Test.YtodmdkhdbfbfgaaGreatDoorProg
import Derived.WalkKit
import Derived.WalkSpells
import Derived.WalkLawsBesides
import Derived.Deep.QuietTactic
import Derived.BigQuiet
import Derived.Outline
import Derived.Deep.OwnRows
import Derived.Laws.BytesArg
import Derived.Lib.Strings
import Derived.Maps.AppendAt
import Derived.Lib.AppendStr
import Derived.Laws.BitsLemmas
import Derived.Laws.StructEq
import Derived.Laws.AppendOwnNone
set_option maxRecDepth 100000
set_option maxHeartbeats 8000000
namespace Go.Proofs.YtodmdkhdbfbfgaaGreatDoor
theorem tk {P : Program} {ops : Array Oper} {Q : Exit → Act → World → Prop} {md : Region.Mode} {S : World → Prop} (i : Nat) (oi : Oper) (v : Value) {fuel : Nat} {listed : Array Bool} {a : Act} {w : World} (hi : ops[i]? = some oi)
 (hc : (Region.noSelect ops && Region.free md ops listed i && (Region.ready md ops listed).contains i && Region.wanted oi (yielded ops a.tmps)) = true)
 (hQ : ∀ c a w, Q (.panic c) (a.put oi.dst v) w → Q (.panic c) a w) (hy : ∀ w, S w → (execOp a.eval oi).run P w = .ok (.value v) w) (hS : S w)
 (h : wpAnyH P md ops Q S fuel (listed.setIfInBounds i true) (a.put oi.dst v) w) : wpAnyH P md ops Q S (fuel + 1) listed a w := by
 simp only [Bool.and_eq_true] at hc
 exact wpAnyH_take hi hc.1.1.1 hc.1.1.2 hc.1.2 hQ (Or.inl ⟨hc.2, hy⟩) hS h
theorem rd {P : Program} {ops : Array Oper} {Q : Exit → Act → World → Prop} {md : Region.Mode} {S : World → Prop} (i : Nat) {o : Oper} {fuel : Nat} {listed : Array Bool} {a : Act} {w : World} (hr : Region.ready md ops listed = [i]) (ho : ops[i]? = some o)
 (h : ∀ K' : Act → World → Prop, Shut (∀ a w, S w → (S w → wpAnyH P md ops Q S fuel (listed.setIfInBounds i true) a w) → K' a w) → if Region.wanted o (yielded ops a.tmps) = true then Oper.wp P o a w K' Q else K' (a.put o.dst undef) w) : wpAnyH P md ops Q S (fuel + 1) listed a w :=
 wpAnyH_ready hr (by simp) (AllReadyH.cons ho h AllReadyH.nil)
theorem rdI {F : Fence} {n : Nat} {P : Program} {ops : Array Oper} {Q : Exit → Act → World → Prop} {md : Region.Mode} (i : Nat) {o : Oper} {fuel : Nat} {listed : Array Bool} {a : Act} {w : World} (hr : Region.ready md ops listed = [i]) (ho : ops[i]? = some o)
 (h : ∀ K' : Act → World → Prop, (∀ a w, wpAnyIn F n P md ops Q fuel (listed.setIfInBounds i true) a w → K' a w) → if Region.wanted o (yielded ops a.tmps) = true then Oper.wpIn F n P o a w K' Q else (∀ f, o.about P w a.eval = some f → F.fn f) ∧ K' (a.put o.dst undef) w) : wpAnyIn F n P md ops Q (fuel + 1) listed a w :=
 wpAnyIn_ready hr (by simp) (AllReadyIn.cons ho h AllReadyIn.nil)
end Go.Proofs.YtodmdkhdbfbfgaaGreatDoor
namespace Go.Nt
set_option linter.unusedVariables false
abbrev Bs := List UInt8
structure It where
 path : Bs
 dir : Bool
 data : Bs
 mode : Int
 time : Int
deriving DecidableEq, Inhabited
def split : Bs → List Bs
 | [] => [[]]
 | c :: cs => if c = 47 then [] :: split cs else
   match split cs with
   | [] => [[c]]
   | n :: ns => (c :: n) :: ns
theorem split_ne (p : Bs) : split p ≠ [] := by
 cases p with
 | nil => simp [split]
 | cons c cs =>
   unfold split
   split
   ·simp
   ·split <;> simp
theorem split_cons (p : Bs) : ∃ n ns, split p = n :: ns := by
 cases h : split p with
 | nil => exact absurd h (split_ne p)
 | cons n ns => exact ⟨n, ns, rfl⟩
def key (c : UInt8) : Nat := if c = 47 then 0 else c.toNat + 1
theorem key_inj {a b : UInt8} (h : key a = key b) : a = b := by
 unfold key at h
 split at h <;> split at h
 ·simp_all
 ·omega
 ·omega
 ·exact UInt8.toNat_inj.1 (by omega)
def less : Bs → Bs → Bool
 | [], [] => false
 | [], _ :: _ => true
 | _ :: _, [] => false
 | a :: as1, b :: bs => if a = b then less as1 bs else decide (key a < key b)
theorem less_irrefl : ∀ a, less a a = false
 | [] => rfl
 | a :: as1 => by simp [less, less_irrefl as1]
theorem less_total : ∀ a b, less a b = false → less b a = false → a = b
 | [], [], _, _ => rfl
 | [], _ :: _, h, _ => by simp [less] at h
 | _ :: _, [], _, h => by simp [less] at h
 | a :: as1, b :: bs, h, h' => by
   unfold less at h h'
   by_cases e : a = b
   ·subst e
    simp at h h'
    rw [less_total as1 bs h h']
   ·rw [if_neg e] at h
    rw [if_neg (fun x => e x.symm)] at h'
    simp at h h'
    exact absurd (key_inj (by omega)) e
theorem less_trans : ∀ a b c, less a b = true → less b c = true → less a c = true
 | [], [], _, h, _ => by simp [less] at h
 | [], _ :: _, [], _, h => by simp [less] at h
 | [], _ :: _, _ :: _, _, _ => by simp [less]
 | _ :: _, [], _, h, _ => by simp [less] at h
 | _ :: _, _ :: _, [], _, h => by simp [less] at h
 | a :: as1, b :: bs, c :: cs, h, h' => by
   unfold less at h h' ⊢
   by_cases e : a = b
   ·subst e
    rw [if_pos rfl] at h
    by_cases e2 : a = c
    ·subst e2
     rw [if_pos rfl] at h' ⊢
     exact less_trans as1 bs cs h h'
    ·rw [if_neg e2] at h' ⊢; exact h'
   ·rw [if_neg e] at h
    by_cases e2 : b = c
    ·subst e2
     rw [if_neg e]; exact h
    ·rw [if_neg e2] at h'
     simp at h h'
     have : a ≠ c := fun x => by subst x; omega
     rw [if_neg this]
     simp; omega
theorem less_asymm {a b : Bs} (h : less a b = true) : less b a = false := by
 cases h' : less b a with
 | false => rfl
 | true => have := less_trans a b a h h'; rw [less_irrefl] at this; cases this
def ltS : Bs → Bs → Bool
 | [], [] => false
 | [], _ :: _ => true
 | _ :: _, [] => false
 | a :: as1, b :: bs => if a = b then ltS as1 bs else decide (a.toNat < b.toNat)
def cmpS (a b : Bs) : Int := if ltS a b then -1 else if ltS b a then 1 else 0
def cmpN : List Bs → List Bs → Int
 | [], [] => 0
 | [], _ :: _ => -1
 | _ :: _, [] => 1
 | a :: as1, b :: bs => if cmpS a b = 0 then cmpN as1 bs else cmpS a b
theorem cmpS_nil_nil : cmpS [] [] = 0 := by simp [cmpS, ltS]
theorem cmpS_nil_cons (c : UInt8) (n : Bs) : cmpS [] (c :: n) = -1 := by simp [cmpS, ltS]
theorem cmpS_cons_nil (c : UInt8) (n : Bs) : cmpS (c :: n) [] = 1 := by simp [cmpS, ltS]
theorem cmpS_same (c : UInt8) (n m : Bs) : cmpS (c :: n) (c :: m) = cmpS n m := by simp [cmpS, ltS]
theorem cmpS_other {x y : UInt8} (h : x ≠ y) (n m : Bs) : cmpS (x :: n) (y :: m) = if x.toNat < y.toNat then -1 else 1 := by
 have h2 : y ≠ x := fun e => h e.symm
 have h3 : x.toNat ≠ y.toNat := fun e => h (UInt8.toNat_inj.1 e)
 simp only [cmpS, ltS, if_neg h, if_neg h2]
 by_cases hh : x.toNat < y.toNat
 ·simp [hh]
 ·have : y.toNat < x.toNat := by omega
  simp [hh, this]
theorem split_slash (cs : Bs) : split (47 :: cs) = [] :: split cs := by simp [split]
theorem split_other {c : UInt8} (h : c ≠ 47) {cs : Bs} {n : Bs} {ns : List Bs} (e : split cs = n :: ns) : split (c :: cs) = (c :: n) :: ns := by
 simp [split, h, e]
theorem cmpN_less : ∀ a b : Bs, decide (cmpN (split a) (split b) < 0) = less a b
 | [], [] => by simp [split, cmpN, cmpS_nil_nil, less]
 | [], c :: cs => by
   obtain ⟨n, ns, e⟩ := split_cons cs
   by_cases h : c = 47
   ·subst h
    rw [split_slash, e]
    simp [split, cmpN, cmpS_nil_nil, less]
   ·rw [split_other h e]
    simp [split, cmpN, cmpS_nil_cons, less]
 | c :: cs, [] => by
   obtain ⟨n, ns, e⟩ := split_cons cs
   by_cases h : c = 47
   ·subst h
    rw [split_slash, e]
    simp [split, cmpN, cmpS_nil_nil, less]
   ·rw [split_other h e]
    simp [split, cmpN, cmpS_cons_nil, less]
 | x :: as1, y :: bs => by
   obtain ⟨n, ns, e1⟩ := split_cons as1
   obtain ⟨m, ms, e2⟩ := split_cons bs
   by_cases hx : x = 47
   ·by_cases hy : y = 47
    ·subst hx; subst hy
     rw [split_slash, split_slash]
     have := cmpN_less as1 bs
     simp only [cmpN, cmpS_nil_nil, if_pos, less]
     exact this
    ·subst hx
     rw [split_slash, split_other hy e2]
     have h1 : (47 : UInt8) ≠ y := fun e => hy e.symm
     simp [cmpN, cmpS_nil_cons, less, h1, key, hy]
   ·by_cases hy : y = 47
    ·subst hy
     rw [split_slash, split_other hx e1]
     simp [cmpN, cmpS_cons_nil, less, hx, key]
    ·rw [split_other hx e1, split_other hy e2]
     by_cases e : x = y
     ·subst e
      have := cmpN_less as1 bs
      rw [e1, e2] at this
      simp only [cmpN, cmpS_same, less, if_pos] at this ⊢
      exact this
     ·simp only [cmpN, cmpS_other e, less, if_neg e, key, if_neg hx, if_neg hy]
      by_cases hh : x.toNat < y.toNat
      ·simp [hh]
      ·simp [hh]
def okName (n : Bs) : Bool := n ≠ [] && n ≠ [46] && n ≠ [46, 46] && decide (n.length ≤ 20) && !n.contains 0
def okPath (p : Bs) : Bool := decide ((split p).length ≤ 6) && (split p).all okName
def par : Bs → Bs
 | [] => []
 | c :: cs => if cs.contains 47 then c :: par cs else []
theorem par_none {p : Bs} (h : ∀ i, i < p.length → p.getD i 0 ≠ 47) : par p = [] := by
 cases p with
 | nil => rfl
 | cons c cs =>
   unfold par
   rw [if_neg]
   intro hc
   obtain ⟨i, hi, he⟩ := List.getElem_of_mem (List.contains_iff_mem.1 hc)
   have := h (i + 1) (by simp; omega)
   simp [List.getD, hi] at this
   exact this he
theorem par_last : ∀ {p : Bs} {j : Nat}, p.getD j 0 = 47 → (∀ i, j < i → i < p.length → p.getD i 0 ≠ 47) → par p = p.take j
 | [], j, h, _ => by simp at h
 | c :: cs, 0, _, h2 => by
   unfold par
   rw [if_neg]
   ·rfl
   ·intro hc
    obtain ⟨i, hi, he⟩ := List.getElem_of_mem (List.contains_iff_mem.1 hc)
    have := h2 (i + 1) (by omega) (by simp; omega)
    simp [List.getD, hi] at this
    exact this he
 | c :: cs, j + 1, h1, h2 => by
   unfold par
   have h1' : cs.getD j 0 = 47 := by simpa [List.getD] using h1
   have hj : j < cs.length := by
    rcases Nat.lt_or_ge j cs.length with h | h
    ·exact h
    ·rw [List.getD, List.getElem?_eq_none h] at h1'; cases h1'
   have hc : cs.contains 47 = true := by
    rw [List.contains_iff_mem]
    have : cs[j] = 47 := by simpa [List.getD, hj] using h1'
    exact this ▸ List.getElem_mem hj
   rw [if_pos hc, par_last h1' (fun i hi hl => ?_)]
   ·rfl
   ·have := h2 (i + 1) (by omega) (by simp; omega)
    simpa [List.getD] using this
def okItem (x : It) : Bool :=
 okPath x.path && decide (x.data.length ≤ 4000) && (!x.dir || x.data.isEmpty) && decide (0 ≤ x.mode) && decide (x.mode ≤ 4095) && decide (0 ≤ x.time) && decide (x.time ≤ 2147483647)
def dirAt (l : List It) (p : Bs) : Bool := l.any fun y => decide (y.path = p) && y.dir
def isTree (l : List It) : Bool :=
 decide (l.length ≤ 60) && l.all okItem && decide ((l.map (·.path)).Nodup) && l.all fun x => decide (par x.path = []) || dirAt l (par x.path)
def inOrder (l : List It) : List It := l.mergeSort fun x y => !less y.path x.path
def entered (l : List It) (p : Bs) : Bool := (List.range p.length).all fun i => decide (p.getD i 0 ≠ 47) || dirAt l (p.take i)
theorem getD_take {p : Bs} {i j : Nat} (h : i < j) : (p.take j).getD i 0 = p.getD i 0 := by
 simp only [List.getD, List.getElem?_take]
 rw [if_pos h]
theorem last_slash (p : Bs) : (∀ i, i < p.length → p.getD i 0 ≠ 47) ∨ ∃ j, j < p.length ∧ p.getD j 0 = 47 ∧ ∀ i, j < i → i < p.length → p.getD i 0 ≠ 47 := by
 have : ∀ n, n ≤ p.length → (∀ i, i < n → p.getD i 0 ≠ 47) ∨ ∃ j, j < n ∧ p.getD j 0 = 47 ∧ ∀ i, j < i → i < n → p.getD i 0 ≠ 47 := by
  intro n
  induction n with
  | zero => exact fun _ => .inl fun i h => absurd h (Nat.not_lt_zero _)
  | succ n ih =>
    intro hn
    by_cases e : p.getD n 0 = 47
    ·exact .inr ⟨n, Nat.lt_succ_self n, e, fun i h1 h2 => absurd h1 (by omega)⟩
    ·rcases ih (by omega) with h | ⟨j, hj, hj1, hj2⟩
     ·refine .inl fun i hi => ?_
      rcases Nat.lt_succ_iff_lt_or_eq.1 hi with h' | rfl
      ·exact h i h'
      ·exact e
     ·refine .inr ⟨j, by omega, hj1, fun i h1 h2 => ?_⟩
      rcases Nat.lt_succ_iff_lt_or_eq.1 h2 with h' | rfl
      ·exact hj2 i h1 h'
      ·exact e
 exact this p.length (Nat.le_refl _)
theorem split_front {p : Bs} (h : okPath p = true) : p.getD 0 0 ≠ 47 := by
 intro e
 cases p with
 | nil => simp at e
 | cons c cs =>
   simp [List.getD] at e
   subst e
   unfold okPath at h
   rw [split_slash] at h
   simp [okName] at h
theorem entered_iff (l : List It) (hok : l.all okItem = true) :
 (l.all fun x => decide (par x.path = []) || dirAt l (par x.path)) = l.all fun x => entered l x.path := by
 rw [Bool.eq_iff_iff]
 constructor
 ·intro h
  have step : ∀ n (x : It), x ∈ l → x.path.length = n → entered l x.path = true := by
   intro n
   induction n using Nat.strongRecOn with
   | ind n ih =>
     intro x hx hn
     unfold entered
     rw [List.all_eq_true]
     intro i hi
     have hi' : i < x.path.length := List.mem_range.1 hi
     by_cases e : x.path.getD i 0 = 47
     ·rcases last_slash x.path with hno | ⟨j, hj, hj1, hj2⟩
      ·exact absurd e (hno i hi')
      ·have hp := par_last hj1 hj2
       have hj0 : j ≠ 0 := by
        intro h0
        subst h0
        have := List.all_eq_true.1 hok x hx
        unfold okItem at this
        simp only [Bool.and_eq_true] at this
        exact split_front this.1.1.1.1.1.1 hj1
       have hx2 := List.all_eq_true.1 h x hx
       have hpne : par x.path ≠ [] := by
        rw [hp]
        intro hnil
        have := congrArg List.length hnil
        rw [List.length_take, List.length_nil] at this
        omega
       have hd : dirAt l (par x.path) = true := by simpa [hpne] using hx2
       by_cases hij : i = j
       ·subst hij
        rw [← hp]
        simp [hd]
       ·have hlt : i < j := by
         rcases Nat.lt_or_ge i j with h' | h'
         ·exact h'
         ·exact absurd e (hj2 i (by omega) hi')
        unfold dirAt at hd
        obtain ⟨y, hy, hyp⟩ := List.any_eq_true.1 hd
        simp at hyp
        have hyl : y.path.length = j := by rw [hyp.1, hp, List.length_take]; omega
        have hy2 := ih j (by omega) y hy hyl
        unfold entered at hy2
        have := List.all_eq_true.1 hy2 i (List.mem_range.2 (by omega))
        rw [hyp.1, hp, getD_take hlt, List.take_take, Nat.min_eq_left (by omega)] at this
        exact this
     ·have e' : ¬ (x.path[i]?.getD 0 = 47) := by simpa [List.getD] using e
      simp [e']
  rw [List.all_eq_true]
  exact fun x hx => step _ x hx rfl
 ·intro h
  rw [List.all_eq_true]
  intro x hx
  have hx2 := List.all_eq_true.1 h x hx
  rcases last_slash x.path with hno | ⟨j, hj, hj1, hj2⟩
  ·rw [par_none hno]; simp
  ·rw [par_last hj1 hj2]
   unfold entered at hx2
   have := List.all_eq_true.1 hx2 j (List.mem_range.2 hj)
   rw [hj1] at this
   simp at this
   simp [this]
end Go.Nt
namespace Go.Nt
set_option linter.unusedVariables false
def num : Bs → Nat
 | b => b.foldl (fun n x => n * 256 + x.toNat) 0
def enc : Nat → Nat → Bs
 | 0, _ => []
 | k + 1, n => enc k (n / 256) ++ [UInt8.ofNat n]
theorem enc_length : ∀ k n, (enc k n).length = k
 | 0, _ => rfl
 | k + 1, n => by simp [enc, enc_length k]
theorem num_snoc (b : Bs) (x : UInt8) : num (b ++ [x]) = num b * 256 + x.toNat := by simp [num]
theorem num_enc : ∀ k n, n < 256 ^ k → num (enc k n) = n
 | 0, n, h => by simp at h; subst h; rfl
 | k + 1, n, h => by
   rw [enc, num_snoc, num_enc k (n / 256) (by rw [Nat.pow_succ] at h; omega), UInt8.toNat_ofNat']
   omega
theorem num_lt : ∀ (b : Bs), num b < 256 ^ b.length := by
 intro b
 have h : ∀ (l : Bs) (a : Nat), l.foldl (fun n x => n * 256 + x.toNat) a < (a + 1) * 256 ^ l.length := by
  intro l
  induction l with
  | nil => intro a; simp
  | cons x xs ih =>
    intro a
    have := ih (a * 256 + x.toNat)
    simp only [List.foldl_cons, List.length_cons]
    refine Nat.lt_of_lt_of_le this ?_
    rw [Nat.pow_succ, Nat.mul_comm (256 ^ xs.length) 256, ← Nat.mul_assoc]
    refine Nat.mul_le_mul_right _ ?_
    have := x.toNat_lt
    omega
 have := h b 0
 simpa [num] using this
abbrev Rd := Bs × Bool
def tk (n : Nat) (r : Rd) : Bs × Rd := if r.1.length < n then ([], ([], false)) else (r.1.take n, (r.1.drop n, r.2))
def nmb (n : Nat) (r : Rd) : Nat × Rd := (num (tk n r).1, (tk n r).2)
def rdItem (u : Bs → Option Bs) (r : Rd) : It × Rd :=
 let k := nmb 2 r
 let t := nmb 4 k.2
 let n := nmb 1 t.2
 let p := tk n.1 n.2
 if 32768 ≤ k.1 then (⟨p.1, true, [], (k.1 % 32768 : Nat), (t.1 : Nat)⟩, p.2)
 else
  let z := nmb 2 p.2
  let b := tk z.1 z.2
  (⟨p.1, false, (u b.1).getD [], (k.1 % 32768 : Nat), (t.1 : Nat)⟩, (b.2.1, b.2.2 && (u b.1).isSome))
def rdItems (u : Bs → Option Bs) : Nat → Rd → List It → List It × Rd
 | 0, r, a => (a, r)
 | k + 1, r, a => if r.2 then rdItems u k (rdItem u r).2 (a ++ [(rdItem u r).1]) else (a, r)
def parse (u : Bs → Option Bs) (t : Bs) : Option (List It) :=
 let n := nmb 1 (t, true)
 let r := rdItems u n.1 n.2 []
 if r.2.2 then some r.1 else none
def IsItem (u : Bs → Option Bs) (x : It) (e : Bs) : Prop :=
 if x.dir then e = enc 2 (x.mode.toNat + 32768) ++ enc 4 x.time.toNat ++ enc 1 x.path.length ++ x.path
 else ∃ t, u t = some x.data ∧ t.length ≤ x.data.length + 1 ∧ e = enc 2 x.mode.toNat ++ enc 4 x.time.toNat ++ enc 1 x.path.length ++ x.path ++ enc 2 t.length ++ t
def AreItems (u : Bs → Option Bs) : List It → Bs → Prop
 | [], e => e = []
 | x :: l, e => ∃ a b, IsItem u x a ∧ AreItems u l b ∧ e = a ++ b
theorem areItems_snoc {u : Bs → Option Bs} : ∀ {l : List It} {e : Bs} {x : It} {a : Bs}, AreItems u l e → IsItem u x a → AreItems u (l ++ [x]) (e ++ a)
 | [], e, x, a, h, hx => by
   simp only [AreItems] at h; subst h
   exact ⟨a, [], hx, rfl, by simp⟩
 | y :: l, e, x, a, h, hx => by
   obtain ⟨b, c, hb, hc, rfl⟩ := h
   exact ⟨b, c ++ a, hb, areItems_snoc hc hx, by simp⟩
def IsText (u : Bs → Option Bs) (l : List It) (t : Bs) : Prop := ∃ e, AreItems u l e ∧ t = enc 1 l.length ++ e
theorem tk_app (a b : Bs) (f : Bool) : tk a.length (a ++ b, f) = (a, (b, f)) := by
 unfold tk
 rw [if_neg (by simp)]
 simp
theorem tk_app' {n : Nat} {a b : Bs} {f : Bool} (h : n = a.length) : tk n (a ++ b, f) = (a, (b, f)) := by subst h; exact tk_app a b f
theorem nmb_app (k n : Nat) (b : Bs) (f : Bool) (h : n < 256 ^ k) : nmb k (enc k n ++ b, f) = (n, (b, f)) := by
 unfold nmb
 rw [tk_app' (enc_length k n).symm]
 simp [num_enc k n h]
structure Fit (x : It) : Prop where
 m0 : 0 ≤ x.mode
 m1 : x.mode ≤ 4095
 t0 : 0 ≤ x.time
 t1 : x.time ≤ 2147483647
 p : x.path.length ≤ 255
 d : x.data.length ≤ 4000
 e : x.dir = true → x.data = []
theorem rdItem_back {u : Bs → Option Bs} {x : It} {e : Bs} (h : IsItem u x e) (hf : Fit x) (r : Bs) : rdItem u (e ++ r, true) = (x, (r, true)) := by
 obtain ⟨m0, m1, t0, t1, hp, hd, he⟩ := hf
 have ht : ((x.time.toNat : Nat) : Int) = x.time := Int.toNat_of_nonneg t0
 unfold IsItem at h
 cases hdir : x.dir with
 | true =>
   rw [hdir, if_pos rfl] at h
   subst h
   unfold rdItem
   simp only [List.append_assoc]
   rw [nmb_app 2 _ _ _ (by omega)]
   simp only []
   rw [nmb_app 4 _ _ _ (by omega)]
   simp only []
   rw [nmb_app 1 _ _ _ (by omega)]
   simp only []
   rw [tk_app, if_pos (by omega)]
   obtain ⟨p, d, dt, m, t⟩ := x
   simp only at *
   subst hdir
   rw [he rfl, ht]
   have : ((m.toNat + 32768) % 32768 : Nat) = m.toNat := by omega
   rw [this, Int.toNat_of_nonneg m0]
 | false =>
   rw [hdir] at h
   simp only [Bool.false_eq_true, if_false] at h
   obtain ⟨t, hu, hl, rfl⟩ := h
   unfold rdItem
   simp only [List.append_assoc]
   rw [nmb_app 2 _ _ _ (by omega)]
   simp only []
   rw [nmb_app 4 _ _ _ (by omega)]
   simp only []
   rw [nmb_app 1 _ _ _ (by omega)]
   simp only []
   rw [tk_app, if_neg (by omega)]
   simp only []
   rw [nmb_app 2 _ _ _ (by omega)]
   simp only []
   rw [tk_app]
   simp only [hu]
   obtain ⟨p, d, dt, m, tt⟩ := x
   simp only at *
   subst hdir
   rw [ht]
   have : (m.toNat % 32768 : Nat) = m.toNat := by omega
   rw [this, Int.toNat_of_nonneg m0]
   rfl
theorem rdItems_back {u : Bs → Option Bs} : ∀ {l : List It} {e : Bs} (h : AreItems u l e) (hf : ∀ x ∈ l, Fit x) (r : Bs) (a : List It), rdItems u l.length (e ++ r, true) a = (a ++ l, (r, true))
 | [], e, h, _, r, a => by simp only [AreItems] at h; subst h; simp [rdItems]
 | x :: l, e, h, hf, r, a => by
   obtain ⟨b, c, hb, hc, rfl⟩ := h
   rw [List.length_cons, rdItems, if_pos rfl, List.append_assoc, rdItem_back hb (hf x (by simp))]
   simp only []
   rw [rdItems_back hc (fun y hy => hf y (by simp [hy]))]
   simp
theorem parse_back {u : Bs → Option Bs} {l : List It} {t : Bs} (h : IsText u l t) (hf : ∀ x ∈ l, Fit x) (hn : l.length ≤ 255) (r : Bs) : parse u (t ++ r) = some l := by
 obtain ⟨e, he, rfl⟩ := h
 unfold parse
 rw [List.append_assoc, nmb_app 1 _ _ _ (by omega)]
 simp only []
 rw [rdItems_back he hf]
 simp
def weigh (l : List It) : Nat := (l.map fun x => 16 + x.path.length + x.data.length).sum
theorem isItem_len {u : Bs → Option Bs} {x : It} {e : Bs} (h : IsItem u x e) : e.length ≤ 10 + x.path.length + x.data.length := by
 unfold IsItem at h
 split at h
 ·subst h; simp [enc_length]; omega
 ·obtain ⟨t, _, hl, rfl⟩ := h
  simp [enc_length]; omega
theorem areItems_len {u : Bs → Option Bs} : ∀ {l : List It} {e : Bs}, AreItems u l e → e.length + 6 * l.length ≤ weigh l
 | [], e, h => by simp only [AreItems] at h; subst h; simp [weigh]
 | x :: l, e, h => by
   obtain ⟨a, b, ha, hb, rfl⟩ := h
   have h1 := isItem_len ha
   have h2 := areItems_len hb
   simp only [weigh, List.map_cons, List.sum_cons, List.length_append, List.length_cons] at h2 ⊢
   omega
theorem isText_len {u : Bs → Option Bs} {l : List It} {t : Bs} (h : IsText u l t) : t.length ≤ weigh l + 1 := by
 obtain ⟨e, he, rfl⟩ := h
 have := areItems_len he
 simp [enc_length]; omega
theorem isText_pos {u : Bs → Option Bs} {l : List It} {t : Bs} (h : IsText u l t) : 0 < t.length := by
 obtain ⟨e, he, rfl⟩ := h
 simp [enc_length]; omega
theorem split_sum : ∀ p : Bs, ((split p).map (fun n => n.length + 1)).sum = p.length + 1
 | [] => by simp [split]
 | c :: cs => by
   obtain ⟨n, ns, e⟩ := split_cons cs
   have ih := split_sum cs
   by_cases h : c = 47
   ·subst h; rw [split_slash]; simp only [List.map_cons, List.sum_cons, List.length_nil, List.length_cons]; omega
   ·rw [split_other h e]; rw [e] at ih; simp only [List.map_cons, List.sum_cons, List.length_cons] at ih ⊢; omega
theorem sum_le {α : Type} (f : α → Nat) (k : Nat) : ∀ l : List α, (∀ x ∈ l, f x ≤ k) → (l.map f).sum ≤ k * l.length
 | [], _ => by simp
 | x :: l, h => by
   have h1 := h x (by simp)
   have h2 := sum_le f k l (fun y hy => h y (by simp [hy]))
   simp only [List.map_cons, List.sum_cons, List.length_cons, Nat.mul_succ]; omega
theorem okPath_len {p : Bs} (h : okPath p = true) : p.length ≤ 125 := by
 unfold okPath at h
 simp only [Bool.and_eq_true, decide_eq_true_eq, List.all_eq_true] at h
 have h1 := split_sum p
 have h2 := sum_le (fun n : Bs => n.length + 1) 21 (split p) (fun n hn => by
  have := h.2 n hn
  unfold okName at this
  simp only [Bool.and_eq_true, decide_eq_true_eq] at this
  omega)
 have h3 : 21 * (split p).length ≤ 21 * 6 := Nat.mul_le_mul_left _ h.1
 omega
theorem okItem_fit {x : It} (h : okItem x = true) : Fit x := by
 unfold okItem at h
 simp only [Bool.and_eq_true, decide_eq_true_eq] at h
 obtain ⟨⟨⟨⟨⟨⟨h1, h2⟩, h3⟩, h4⟩, h5⟩, h6⟩, h7⟩ := h
 refine ⟨h4, h5, h6, h7, by have := okPath_len h1; omega, h2, fun hd => ?_⟩
 rw [hd] at h3
 simpa using h3
theorem isTree_fit {l : List It} (h : isTree l = true) : (∀ x ∈ l, Fit x) ∧ l.length ≤ 60 := by
 unfold isTree at h
 simp only [Bool.and_eq_true, decide_eq_true_eq, List.all_eq_true] at h
 exact ⟨fun x hx => okItem_fit (h.1.1.2 x hx), h.1.1.1⟩
end Go.Nt
namespace Go.Proofs.YtodmdkhdbfbfgaaGreatDoor
open Go.RowKit Go.Nt
set_option linter.unusedVariables false
theorem hidI {p : Prop} (h : p) : Hid p := h
def txt (l : List UInt8) : ByteArray := ⟨l.toArray⟩
theorem txt_size (l : List UInt8) : (txt l).size = l.length := by simp [txt, ByteArray.size]
theorem txt_data (l : List UInt8) : (txt l).data.toList = l := rfl
theorem txt_of (s : ByteArray) : s = txt s.data.toList := (Lib.mk_data s).symm
theorem txt_getD (s : List UInt8) (k : Nat) (h : k < (txt s).size) : (txt s)[k]'h = s.getD k 0 := by
 have h' : k < s.length := by rw [txt_size] at h; exact h
 show s.toArray[k] = _
 simp [List.getD, h']
theorem txt_extract (l : List UInt8) (a b : Nat) : (txt l).extract a b = txt ((l.drop a).take (b - a)) := by
 rw [Lib.extract_eq]; rfl
theorem txt_toList (l : List UInt8) : (txt l).toList = l := by rw [Lib.toList_data]; rfl
theorem txt_beq (a b : List UInt8) : ((txt a).toList == (txt b).toList) = decide (a = b) := by
 rw [txt_toList, txt_toList]
 by_cases h : a = b <;> simp [h]
theorem ret_int {k : IntKind} {a b : Int} (h : a = b) : Ending.returned (.int k a) = .returned (.int k b) := by rw [h]
theorem ret_bool {a b : Bool} (h : a = b) : Ending.returned (.bool a) = .returned (.bool b) := by rw [h]
theorem lt_of_heap {w : World} {g : Nat} {o : Obj} (h : w.heap[g]? = some o) : g < w.heap.size := (Array.getElem?_eq_some_iff.1 h).1
def ItAt (w : World) (b o : Nat) (x : It) : Prop :=
 w.cell? ⟨b, o, none⟩ = some (.string (txt x.path)) ∧ w.cell? ⟨b, o + 1, none⟩ = some (.bool x.dir) ∧ w.cell? ⟨b, o + 2, none⟩ = some (.string (txt x.data)) ∧
 w.cell? ⟨b, o + 3, none⟩ = some (.int .i64 x.mode) ∧ w.cell? ⟨b, o + 4, none⟩ = some (.int .i64 x.time)
theorem ItAt.lt {w : World} {b o : Nat} {x : It} (h : ItAt w b o x) : b < w.heap.size := World.block_lt_of_cell? w _ h.1
theorem ItAt.of_block {w w' : World} {b o : Nat} {x : It} (h : ItAt w b o x) (hb : w'.heap[b]? = w.heap[b]?) : ItAt w' b o x :=
 ⟨(World.cell?_of_block hb).trans h.1, (World.cell?_of_block hb).trans h.2.1, (World.cell?_of_block hb).trans h.2.2.1, (World.cell?_of_block hb).trans h.2.2.2.1, (World.cell?_of_block hb).trans h.2.2.2.2⟩
theorem ItAt.below {w w' : World} {B b o : Nat} {x : It} (h : ItAt w b o x) (hb : Below B w w') (hlt : b < B) : ItAt w' b o x := h.of_block (hb.block b hlt)
def ItsIn (w : World) (a : Option Addr) (l : List It) : Prop :=
 l ≠ [] → ∃ b off, a = some ⟨b, off, none⟩ ∧ ∀ k (x : It), l[k]? = some x → ItAt w b (off + k * 5) x
theorem ItsIn.below {w w' : World} {a : Option Addr} {l : List It} (h : ItsIn w a l) (hb : Below w.heap.size w w') : ItsIn w' a l := by
 intro hn
 obtain ⟨b, off, rfl, hc⟩ := h hn
 exact ⟨b, off, rfl, fun k x hk => (hc k x hk).below hb (hc k x hk).lt⟩
end Go.Proofs.YtodmdkhdbfbfgaaGreatDoor
namespace Go.Proofs.YtodmdkhdbfbfgaaGreatDoor
open Go.RowKit Go.Nt
set_option linter.unusedVariables false
theorem Tryz.info9 : (Tryz.prog.info? 9).map (fun i => (i.zero, i.size, i.bytes)) = some (some (.string ByteArray.empty), 1, 16) := by kernel_rfl
end Go.Proofs.YtodmdkhdbfbfgaaGreatDoor
namespace Go.Proofs.YtodmdkhdbfbfgaaGreatDoor
open Go.RowKit Go.Nt
set_option linter.unusedVariables false
theorem row_succ {w : World} {base : Nat} {e : TypeId} {size : Nat} {v : Value} {n : Nat} {xs : List Value} (h : w.ownsRow base e size v (n + 1) xs) : ∃ g cap, v = .slice (some ⟨g, 0, none⟩) (n + 1) cap := by
 rcases h.2 with ⟨_, h0⟩ | ⟨g, cap, cur, rfl, _⟩
 ·exact absurd h0 (by omega)
 ·exact ⟨g, cap, rfl⟩
end Go.Proofs.YtodmdkhdbfbfgaaGreatDoor
namespace Go.Proofs.YtodmdkhdbfbfgaaGreatDoor
open Go.RowKit Go.Nt
set_option linter.unusedVariables false
def isOf (t : TypeId) : Obj → Bool
 | .cells _ t' _ => t' == t
 | _ => false
structure But (t : TypeId) (w w' : World) : Prop where
 size : w.heap.size ≤ w'.heap.size
 block : ∀ (k : Nat) (o : Obj), w.heap[k]? = some o → isOf t o = false → w'.heap[k]? = some o
namespace But
variable {t : TypeId} {a b c : World}
theorem refl (t : TypeId) (w : World) : But t w w := ⟨Nat.le_refl _, fun _ _ h _ => h⟩
theorem trans (h : But t a b) (k : But t b c) : But t a c := ⟨Nat.le_trans h.size k.size, fun i o e n => k.block i o (h.block i o e n) n⟩
theorem alloc (h : But t a b) (o : Obj) : But t a (b.alloc o) := h.trans ⟨by simp, fun k _ e _ => (Below.heap_alloc b o k (lt_of_heap e)).trans e⟩
theorem below (h : But t a b) (hb : Below b.heap.size b c) : But t a c := h.trans ⟨hb.size, fun k _ e _ => (hb.block k (lt_of_heap e)).trans e⟩
theorem grown (h : But t a b) {base n s : Nat} {v : Value} {xs : List Value} (hown : b.ownsRow base t s v n xs) (hg : b.grownBy c v.ownBlock) : But t a c := by
 refine h.trans ⟨hg.size, fun k o e hn => (hg.block k (lt_of_heap e) (fun he => ?_)).trans e⟩
 rcases hown.2 with ⟨rfl, _⟩ | ⟨g, cap, cur, rfl, _, hh, _⟩
 ·simp [Value.ownBlock] at he
 ·simp [Value.ownBlock] at he
  subst he
  rw [hh] at e
  cases e
  simp [isOf] at hn
theorem cells (h : But t a b) {k : Nat} {x : Array Value} {t' : TypeId} {f : Nat × Nat} (e : a.heap[k]? = some (.cells x t' f)) (hne : t' ≠ t) : b.heap[k]? = some (.cells x t' f) :=
 h.block k _ e (by simp [isOf, hne])
end But
end Go.Proofs.YtodmdkhdbfbfgaaGreatDoor
namespace Go.Proofs.YtodmdkhdbfbfgaaGreatDoor
open Go.RowKit Go.Nt
set_option linter.unusedVariables false
def bv (l : Bs) : List Value := l.map fun b => Value.int .u8 b.toNat
theorem bv_length (l : Bs) : (bv l).length = l.length := by simp [bv]
theorem bv_append (a b : Bs) : bv (a ++ b) = bv a ++ bv b := by simp [bv]
theorem bv_str (l : Bs) : Lib.strCells (txt l) = bv l := rfl
theorem Tryz.info5 : (Tryz.prog.info? 5).map (fun i => (i.zero, i.size, i.bytes)) = some (some (.int .u8 0), 1, 1) := by kernel_rfl
theorem wraps_i64 (n : Int) (h₀ : 0 ≤ n) (h₁ : n < 2 ^ 62) : IntKind.i64.wrap n = n := by rw [IntKind.wrap_i64]; omega
theorem or15 (n : Int) (h0 : 0 ≤ n) (h1 : n ≤ 4095) : bits .or .i64 n 32768 = n + 32768 := by
 obtain ⟨k, rfl⟩ := Int.eq_ofNat_of_zero_le h0
 rw [show (32768 : Int) = ((32768 : Nat) : Int) from rfl, (bits_nat .i64 62 (by decide) wraps_i64 k 32768 (by omega) (by omega)).2]
 have : k ||| 32768 = k + 32768 := by
  rw [Nat.or_comm, show (32768 : Nat) = 2 ^ 15 * 1 from rfl, ← Nat.two_pow_add_eq_or_of_lt (by omega : k < 2 ^ 15) 1]
  omega
 rw [this]
 rfl
theorem or8 (n : Nat) (b : Nat) (hn : n < 1099511627776) (hb : b < 256) : bits .or .i64 ((n : Int) * 256) (b : Int) = ((n * 256 + b : Nat) : Int) := by
 rw [bits_join .i64 62 (by decide) wraps_i64 8 _ _ (by omega) (by omega) (by omega) (by omega) (by omega) (by omega)]
 simp
def Bytes (w : World) (B : Nat) (v : Value) (l : Bs) : Prop := w.ownsRow B 5 1 v l.length (bv l)
theorem Bytes.slice {w : World} {B : Nat} {v : Value} {l : Bs} (h : Bytes w B v l) : ∃ a c, v = .slice a l.length c := by
 rcases h.2 with ⟨rfl, h0⟩ | ⟨g, cap, cur, rfl, _⟩
 ·exact ⟨none, 0, by rw [h0]⟩
 ·exact ⟨_, _, rfl⟩
theorem enc_step (k j n : Nat) (h : j < k) : enc (j + 1) (n / 256 ^ (k - (j + 1))) = enc j (n / 256 ^ (k - j)) ++ [UInt8.ofNat (n / 256 ^ (k - (j + 1)))] := by
 rw [enc, Nat.div_div_eq_div_mul, ← Nat.pow_succ, show (k - (j + 1)).succ = k - j by omega]
theorem addNumber_any (B : Nat) (v : Value) (l : Bs) (k n : Nat) (w : World) (hB : B ≤ w.heap.size) (hv : Bytes w B v l) (hk : k ≤ 4) (hl : l.length ≤ 1000000) (hn : n < 1099511627776) :
 Calls Tryz.prog 130 #[v, .int .i64 k, .int .i64 n] w fun e w' => ∃ v', e = .returned v' ∧ Bytes w' B v' (l ++ enc k n) ∧ Below B w w' ∧ But 5 w w' := by
 obtain ⟨i0, hi, hz0, hz1, hz2⟩ := info_parts Tryz.info5
 have Hv := hidI hv
 clear hv
 go_enter Tryz.func130, Tryz.ntmps130
 go_wp2
 go_loopw [0, 7] (fun b i wr => ∃ j : Nat, j ≤ k ∧ i = .int .i64 ((k : Int) - j - 1) ∧ Hid (Bytes wr B b (l ++ enc j (n / 256 ^ (k - j)))) ∧ Hid (Below B w wr) ∧ Hid (But 5 w wr)) (fun _ i _ => ((intOf i) + 1).toNat)
 case atStart => exact ⟨0, Nat.zero_le _, by go_num, hidI (by simpa [enc] using Hv.out), hidI (Below.refl _ _), hidI (But.refl _ _)⟩
 case round =>
  obtain ⟨j, hj, rfl, Hb, Hbel, Hbut⟩ := hrel
  rcases Nat.lt_or_ge j k with hlt | hge
  ·obtain ⟨m, hm⟩ : ∃ m, m = k - (j + 1) := ⟨_, rfl⟩
   have hmi : (k : Int) - j - 1 = (m : Nat) := by omega
   have hm4 : m ≤ 3 := by omega
   have Hs := hidI (enc_step k j n hlt)
   rw [← hm] at Hs
   have Hj := hidI hmi
   have Hm := hidI hm
   rw [hmi]
   clear hmi hm
   obtain ⟨a, c, rfl⟩ := Hb.out.slice
   obtain ⟨L, hL⟩ : ∃ L, L = (l ++ enc j (n / 256 ^ (k - j))).length := ⟨_, rfl⟩
   have hLl : L ≤ 1000004 := by rw [hL, List.length_append, enc_length]; omega
   rw [← hL] at Hb ⊢
   have HL := hidI hL
   have Ho : Hid (wr.ownsRow B 5 1 (.slice a L c) L (bv (l ++ enc j (n / 256 ^ (k - j))))) := hidI (by have := Hb.out; unfold Bytes at this; rwa [← hL] at this)
   have hsz := Hbel.out.size
   clear hL
   go_wp2_with (at_builtin; refine wpList_append_own _ rfl (.tmp 14) (.tmp 20) 111 rfl B 5 i0 _ 1 1 Tryz.underlying111 hi hz0 hz1 hz2 rfl (by decide) _ _ _ rfl (Ho.out.alloc _) ⟨wr.heap.size, 0, none⟩ 1 1 [.int .u8 ((n : Int) / 2 ^ (8 * m) % 256)] rfl rfl ?c1 ?c2 ?c3 ?c4 ?c5 ?_)
   case c1 => exact cell_one_new _ _ _
   case c2 => intro u hu; simp at hu; subst hu; rfl
   case c3 => unfold maxLen; omega
   case c4 => omega
   case c5 => simp; omega
   intro v3 w3 hown3 hgrow _
   have hbel3 : Below B w w3 := (Hbel.out.alloc (by omega) _).grown hgrow (by simp; omega) (fun q hq => (Ho.out.lt q hq).1)
   have hbut3 : But 5 w w3 := (Hbut.out.alloc _).grown (Ho.out.alloc _) hgrow
   have hB3 : Hid (Bytes w3 B v3 (l ++ enc (j + 1) (n / 256 ^ (k - (j + 1))))) := by
    have h1 := HL.out
    have h2 := Hs.out
    have h3 := Hm.out
    refine hidI ?_
    unfold Bytes
    rw [← h3, h2, ← List.append_assoc, bv_append, List.length_append, ← h1]
    have h4 : bv [UInt8.ofNat (n / 256 ^ m)] = [.int .u8 ((n : Int) / 2 ^ (8 * m) % 256)] := by
     simp only [bv, List.map_cons, List.map_nil, UInt8.toNat_ofNat']
     rw [show (256 : Nat) = 2 ^ 8 from rfl, ← Nat.pow_mul]
     congr 2
    rw [h4]
    exact hown3
   go_wp2
   go_roundw
   case rel => exact ⟨j + 1, by omega, by have := Hj.out; go_num, hB3, hidI hbel3, hidI hbut3⟩
   case measure => simp [intOf]
  ·have hjk : j = k := by omega
   subst hjk
   have e1 : (j : Int) - j - 1 = -1 := by omega
   rw [e1]
   go_wp2
   go_ret
   refine ⟨_, rfl, ?_, Hbel.out, Hbut.out⟩
   have := Hb.out
   simpa using this
end Go.Proofs.YtodmdkhdbfbfgaaGreatDoor
namespace Go.Proofs.YtodmdkhdbfbfgaaGreatDoor
open Go.RowKit Go.Nt
set_option linter.unusedVariables false
def itv (x : It) : Value := .agg #[.string (txt x.path), .bool x.dir, .string (txt x.data), .int .i64 x.mode, .int .i64 x.time]
theorem eqg (op : BinOp) (x y : Operand) (xs ys : Array Value) (w : World) : (eqGuard op 39 x y (.agg xs) (.agg ys)).run Tryz.prog w = .ok () w := run_eqGuard_agg w op 39 x y xs ys (by kernel_rfl)
theorem it_beq (x y : It) : (if (txt x.path).toList == (txt y.path).toList then if x.dir == y.dir then if (txt x.data).toList == (txt y.data).toList then if x.mode == y.mode then x.time == y.time else false else false else false else false) = decide (x = y) := by
 rw [txt_beq, txt_beq]
 obtain ⟨a1, a2, a3, a4, a5⟩ := x
 obtain ⟨b1, b2, b3, b4, b5⟩ := y
 simp only [It.mk.injEq]
 by_cases h1 : a1 = b1 <;> by_cases h2 : a2 = b2 <;> by_cases h3 : a3 = b3 <;> by_cases h4 : a4 = b4 <;> by_cases h5 : a5 = b5 <;> simp [h1, h2, h3, h4, h5]
theorem eq_it (x y : It) (w : World) : (Op.equalIn 10000 39 (itv x) (itv y)).run Tryz.prog w = .ok (decide (x = y)) w := by
 unfold itv
 rw [run_equalIn_agg w 9999 39 _ _ (by kernel_rfl) (by kernel_rfl)]
 rw [show Tryz.prog.fieldsOf 39 = _ from by unfold Program.fieldsOf; rw [Tryz.underlying39]]
 rw [← it_beq]
 simp [Op.eqFields, part, go_sem, Tryz.underlying9, Tryz.underlying4, Tryz.underlying3]
 by_cases h1 : (txt x.path).toList = (txt y.path).toList <;> by_cases h2 : x.dir = y.dir <;> by_cases h3 : (txt x.data).toList = (txt y.data).toList <;> by_cases h4 : x.mode = y.mode <;> by_cases h5 : x.time = y.time <;> simp [h1, h2, h3, h4, h5]
end Go.Proofs.YtodmdkhdbfbfgaaGreatDoor
namespace Go.Proofs.YtodmdkhdbfbfgaaGreatDoor
open Go.RowKit Go.Nt
set_option linter.unusedVariables false
theorem Tryz.info24 : (Tryz.prog.info? 39).map (fun i => (i.zero, i.size, i.bytes)) = some (some (.agg #[.string ByteArray.empty, .bool false, .string ByteArray.empty, .int .i64 0, .int .i64 0]), 5, 56) := by kernel_rfl
def itl (x : It) : List Value := [.string (txt x.path), .bool x.dir, .string (txt x.data), .int .i64 x.mode, .int .i64 x.time]
def its (l : List It) : List Value := l.flatMap itl
theorem its_cons (x : It) (l : List It) : its (x :: l) = itl x ++ its l := rfl
theorem its_append (l m : List It) : its (l ++ m) = its l ++ its m := by simp [its]
theorem its_one (x : It) : its [x] = itl x := by simp [its]
theorem its_get : ∀ {l : List It} {k : Nat} {x : It}, l[k]? = some x → ∀ j, j < 5 → (its l)[k * 5 + j]? = (itl x)[j]?
 | [], k, x, h, _, _ => by simp at h
 | y :: l, 0, x, h, j, hj => by
   simp at h
   subst h
   rw [its_cons, Nat.zero_mul, Nat.zero_add, List.getElem?_append_left (by simp [itl]; omega)]
 | y :: l, k + 1, x, h, j, hj => by
   have h' : l[k]? = some x := by simpa using h
   rw [its_cons, List.getElem?_append_right (by simp [itl]; omega)]
   have : (k + 1) * 5 + j - (itl y).length = k * 5 + j := by simp [itl]; omega
   rw [this]
   exact its_get h' j hj
theorem its_one_cell {l : List It} : ∀ u ∈ its l, u.oneCell' = true := by
 intro u hu
 obtain ⟨x, _, hx⟩ := List.mem_flatMap.1 hu
 simp only [itl, List.mem_cons, List.not_mem_nil, or_false] at hx
 rcases hx with rfl | rfl | rfl | rfl | rfl <;> rfl
theorem addr_add (b o j : Nat) : (⟨b, o, none⟩ : Addr).add j = ⟨b, o + j, none⟩ := by unfold Addr.add; split <;> simp_all
theorem ItAt.of_cells {w : World} {b o : Nat} {x : It} (h : ∀ j u, (itl x)[j]? = some u → w.cell? ⟨b, o + j, none⟩ = some u) : ItAt w b o x :=
 ⟨h 0 _ rfl, h 1 _ rfl, h 2 _ rfl, h 3 _ rfl, h 4 _ rfl⟩
theorem ItAt.cell {w : World} {b o : Nat} {x : It} (h : ItAt w b o x) {j : Nat} {u : Value} (hu : (itl x)[j]? = some u) : w.cell? ⟨b, o + j, none⟩ = some u := by
 obtain ⟨h0, h1, h2, h3, h4⟩ := h
 match j, hu with
 | 0, hu => simp [itl] at hu; subst hu; exact h0
 | 1, hu => simp [itl] at hu; subst hu; exact h1
 | 2, hu => simp [itl] at hu; subst hu; exact h2
 | 3, hu => simp [itl] at hu; subst hu; exact h3
 | 4, hu => simp [itl] at hu; subst hu; exact h4
 | j + 5, hu => simp [itl] at hu
theorem own_items {w : World} {B : Nat} {v : Value} {l : List It} (h : w.ownsRow B 39 5 v l.length (its l)) : (v = .slice none 0 0 ∧ l = []) ∨ ∃ g cap, v = .slice (some ⟨g, 0, none⟩) l.length cap ∧ B ≤ g ∧ g < w.heap.size ∧ l.length ≤ cap ∧ cap ≤ maxLen ∧ ∀ k (x : It), l[k]? = some x → ItAt w g (0 + k * 5) x := by
 rcases h.2 with ⟨rfl, h0⟩ | ⟨g, cap, cur, rfl, hb, hh, h1, h2, h3, h4⟩
 ·exact .inl ⟨rfl, List.eq_nil_of_length_eq_zero h0⟩
 ·refine .inr ⟨g, cap, rfl, hb, lt_of_heap hh, h1, h2, fun k x hx => ItAt.of_cells fun j u hu => ?_⟩
  have hk : k < l.length := (List.getElem?_eq_some_iff.1 hx).1
  have hj : j < 5 := by have := (List.getElem?_eq_some_iff.1 hu).1; simpa [itl] using this
  have := its_get hx j hj
  rw [hu, ← h4, List.getElem?_take_of_lt (by omega)] at this
  rw [cell_of_row w g _ cur 39 (0, 0) hh, Nat.zero_add]
  simpa using this
theorem own_in {w : World} {B : Nat} {v : Value} {l : List It} (h : w.ownsRow B 39 5 v l.length (its l)) : ∃ a c, v = .slice a l.length c ∧ ItsIn w a l := by
 rcases own_items h with ⟨rfl, rfl⟩ | ⟨g, cap, rfl, _, _, _, _, hc⟩
 ·exact ⟨none, 0, rfl, fun hn => absurd rfl hn⟩
 ·exact ⟨_, cap, rfl, fun _ => ⟨g, 0, rfl, hc⟩⟩
end Go.Proofs.YtodmdkhdbfbfgaaGreatDoor
namespace Go.Proofs.YtodmdkhdbfbfgaaGreatDoor
open Go.Nt
set_option linter.unusedVariables false
/-! ### What makes a list no tree -/
theorem tree_item {l : List It} {x : It} (hx : x ∈ l) (h : okItem x = false) : isTree l = false := by
 have : l.all okItem = false := by
  cases e : l.all okItem with
  | false => rfl
  | true => have := List.all_eq_true.1 e x hx; rw [h] at this; cases this
 unfold isTree
 rw [this]; simp
theorem tree_long {l : List It} (h : 60 < l.length) : isTree l = false := by
 unfold isTree
 have : decide (l.length ≤ 60) = false := by simp; omega
 rw [this]; simp
theorem tree_twice {l : List It} (h : ¬ (l.map (·.path)).Nodup) : isTree l = false := by
 unfold isTree
 simp [h]
theorem twice_at {l : List It} {k j : Nat} {x y : It} (hx : l[k]? = some x) (hy : l[j]? = some y) (hj : j < k) (h : y.path = x.path) : ¬ (l.map (·.path)).Nodup := by
 intro hn
 obtain ⟨hk, rfl⟩ := List.getElem?_eq_some_iff.1 hx
 obtain ⟨hj', rfl⟩ := List.getElem?_eq_some_iff.1 hy
 have h1 := List.pairwise_iff_getElem.1 hn j k (by simp; omega) (by simp; omega) hj
 simp at h1
 exact h1 h
end Go.Proofs.YtodmdkhdbfbfgaaGreatDoor
namespace Go.Proofs.YtodmdkhdbfbfgaaGreatDoor
open Go.RowKit Go.Nt
set_option linter.unusedVariables false
theorem below_drewN {B : Nat} {w W : World} (h : Below B w W) (q : Nat) : Below B w (W.drewN q) := by
 induction q with
 | zero => exact h
 | succ q ih => exact ih.drew
def boxed (w : World) (x : It) : World := w.alloc (.cells #[.string (txt x.path), .bool x.dir, .string (txt x.data), .int .i64 x.mode, .int .i64 x.time] 39)
theorem boxed_at (w : World) (x : It) : ItAt (boxed w x) w.heap.size 0 x := by
 refine ItAt.of_cells fun j u hu => ?_
 rw [cell_of_row (boxed w x) w.heap.size (0 + j) _ 39 (0, 0) (heap_alloc_new _ _)]
 simpa [itl] using hu
end Go.Proofs.YtodmdkhdbfbfgaaGreatDoor
namespace Go.Proofs.YtodmdkhdbfbfgaaGreatDoor
open Go.RowKit Go.Nt
set_option linter.unusedVariables false
theorem own_below {w w' : World} {B N : Nat} {e : TypeId} {size : Nat} {v : Value} {n : Nat} {xs : List Value} (h : w.ownsRow B e size v n xs) (hb : Below N w w') (hlt : ∀ q, v.ownBlock = some q → q < N) : w'.ownsRow B e size v n xs := by
 refine ⟨h.1, ?_⟩
 rcases h.2 with h0 | ⟨g, cap, cur, rfl, h1, h2, h3⟩
 ·exact .inl h0
 ·exact .inr ⟨g, cap, cur, rfl, h1, (hb.block g (hlt g rfl)).trans h2, h3⟩
end Go.Proofs.YtodmdkhdbfbfgaaGreatDoor
