/- Trees as plain lists: the order of paths, when items are a tree, and the tree in its order. No model in this text. -/
namespace Go.Nt
set_option linter.unusedVariables false

abbrev Bs := List UInt8

/-- An item: its path, whether it is a directory, its bytes, its mode and its time. -/
structure It where
  path : Bs
  dir : Bool
  data : Bs
  mode : Int
  time : Int
deriving DecidableEq, Inhabited

/-- The names of a path: what lies between the bytes 47. -/
def split : Bs → List Bs
  | [] => [[]]
  | c :: cs => if c = 47 then [] :: split cs else
    match split cs with
    | [] => [[c]]
    | n :: ns => (c :: n) :: ns

theorem split_ne (p : Bs) : split p ≠ [] := by
  cases p with
  | nil => simp [split]
  | cons c cs =>
    unfold split
    split
    · simp
    · split <;> simp

theorem split_cons (p : Bs) : ∃ n ns, split p = n :: ns := by
  cases h : split p with
  | nil => exact absurd h (split_ne p)
  | cons n ns => exact ⟨n, ns, rfl⟩

/-- The place of a byte in the order of paths: 47 ahead of all others. -/
def key (c : UInt8) : Nat := if c = 47 then 0 else c.toNat + 1

theorem key_inj {a b : UInt8} (h : key a = key b) : a = b := by
  unfold key at h
  split at h <;> split at h
  · simp_all
  · omega
  · omega
  · exact UInt8.toNat_inj.1 (by omega)

/-- Does a path come ahead of another? -/
def less : Bs → Bs → Bool
  | [], [] => false
  | [], _ :: _ => true
  | _ :: _, [] => false
  | a :: as, b :: bs => if a = b then less as bs else decide (key a < key b)

theorem less_irrefl : ∀ a, less a a = false
  | [] => rfl
  | a :: as => by simp [less, less_irrefl as]

theorem less_total : ∀ a b, less a b = false → less b a = false → a = b
  | [], [], _, _ => rfl
  | [], _ :: _, h, _ => by simp [less] at h
  | _ :: _, [], _, h => by simp [less] at h
  | a :: as, b :: bs, h, h' => by
    unfold less at h h'
    by_cases e : a = b
    · subst e
      simp at h h'
      rw [less_total as bs h h']
    · rw [if_neg e] at h
      rw [if_neg (fun x => e x.symm)] at h'
      simp at h h'
      exact absurd (key_inj (by omega)) e

theorem less_trans : ∀ a b c, less a b = true → less b c = true → less a c = true
  | [], [], _, h, _ => by simp [less] at h
  | [], _ :: _, [], _, h => by simp [less] at h
  | [], _ :: _, _ :: _, _, _ => by simp [less]
  | _ :: _, [], _, h, _ => by simp [less] at h
  | _ :: _, _ :: _, [], _, h => by simp [less] at h
  | a :: as, b :: bs, c :: cs, h, h' => by
    unfold less at h h' ⊢
    by_cases e : a = b
    · subst e
      rw [if_pos rfl] at h
      by_cases e2 : a = c
      · subst e2
        rw [if_pos rfl] at h' ⊢
        exact less_trans as bs cs h h'
      · rw [if_neg e2] at h' ⊢; exact h'
    · rw [if_neg e] at h
      by_cases e2 : b = c
      · subst e2
        rw [if_neg e]; exact h
      · rw [if_neg e2] at h'
        simp at h h'
        have : a ≠ c := fun x => by subst x; omega
        rw [if_neg this]
        simp; omega

theorem less_asymm {a b : Bs} (h : less a b = true) : less b a = false := by
  cases h' : less b a with
  | false => rfl
  | true => have := less_trans a b a h h'; rw [less_irrefl] at this; cases this

/-- Texts, byte by byte. -/
def ltS : Bs → Bs → Bool
  | [], [] => false
  | [], _ :: _ => true
  | _ :: _, [] => false
  | a :: as, b :: bs => if a = b then ltS as bs else decide (a.toNat < b.toNat)

def cmpS (a b : Bs) : Int := if ltS a b then -1 else if ltS b a then 1 else 0

/-- Lists of names, name by name. -/
def cmpN : List Bs → List Bs → Int
  | [], [] => 0
  | [], _ :: _ => -1
  | _ :: _, [] => 1
  | a :: as, b :: bs => if cmpS a b = 0 then cmpN as bs else cmpS a b

theorem cmpS_nil_nil : cmpS [] [] = 0 := by simp [cmpS, ltS]
theorem cmpS_nil_cons (c : UInt8) (n : Bs) : cmpS [] (c :: n) = -1 := by simp [cmpS, ltS]
theorem cmpS_cons_nil (c : UInt8) (n : Bs) : cmpS (c :: n) [] = 1 := by simp [cmpS, ltS]
theorem cmpS_same (c : UInt8) (n m : Bs) : cmpS (c :: n) (c :: m) = cmpS n m := by simp [cmpS, ltS]
theorem cmpS_other {x y : UInt8} (h : x ≠ y) (n m : Bs) : cmpS (x :: n) (y :: m) = if x.toNat < y.toNat then -1 else 1 := by
  have h2 : y ≠ x := fun e => h e.symm
  have h3 : x.toNat ≠ y.toNat := fun e => h (UInt8.toNat_inj.1 e)
  simp only [cmpS, ltS, if_neg h, if_neg h2]
  by_cases hh : x.toNat < y.toNat
  · simp [hh]
  · have : y.toNat < x.toNat := by omega
    simp [hh, this]

theorem split_slash (cs : Bs) : split (47 :: cs) = [] :: split cs := by simp [split]
theorem split_other {c : UInt8} (h : c ≠ 47) {cs : Bs} {n : Bs} {ns : List Bs} (e : split cs = n :: ns) : split (c :: cs) = (c :: n) :: ns := by
  simp [split, h, e]

/-- The order of paths, name by name. -/
theorem cmpN_less : ∀ a b : Bs, decide (cmpN (split a) (split b) < 0) = less a b
  | [], [] => by simp [split, cmpN, cmpS_nil_nil, less]
  | [], c :: cs => by
    obtain ⟨n, ns, e⟩ := split_cons cs
    by_cases h : c = 47
    · subst h
      rw [split_slash, e]
      simp [split, cmpN, cmpS_nil_nil, less]
    · rw [split_other h e]
      simp [split, cmpN, cmpS_nil_cons, less]
  | c :: cs, [] => by
    obtain ⟨n, ns, e⟩ := split_cons cs
    by_cases h : c = 47
    · subst h
      rw [split_slash, e]
      simp [split, cmpN, cmpS_nil_nil, less]
    · rw [split_other h e]
      simp [split, cmpN, cmpS_cons_nil, less]
  | x :: as, y :: bs => by
    obtain ⟨n, ns, e1⟩ := split_cons as
    obtain ⟨m, ms, e2⟩ := split_cons bs
    by_cases hx : x = 47
    · by_cases hy : y = 47
      · subst hx; subst hy
        rw [split_slash, split_slash]
        have := cmpN_less as bs
        simp only [cmpN, cmpS_nil_nil, if_pos, less]
        exact this
      · subst hx
        rw [split_slash, split_other hy e2]
        have h1 : (47 : UInt8) ≠ y := fun e => hy e.symm
        simp [cmpN, cmpS_nil_cons, less, h1, key, hy]
    · by_cases hy : y = 47
      · subst hy
        rw [split_slash, split_other hx e1]
        simp [cmpN, cmpS_cons_nil, less, hx, key]
      · rw [split_other hx e1, split_other hy e2]
        by_cases e : x = y
        · subst e
          have := cmpN_less as bs
          rw [e1, e2] at this
          simp only [cmpN, cmpS_same, less, if_pos] at this ⊢
          exact this
        · simp only [cmpN, cmpS_other e, less, if_neg e, key, if_neg hx, if_neg hy]
          by_cases hh : x.toNat < y.toNat
          · simp [hh]
          · simp [hh]

/-- A name. -/
def okName (n : Bs) : Bool := n ≠ [] && n ≠ [46] && n ≠ [46, 46] && decide (n.length ≤ 20) && !n.contains 0
/-- A path. -/
def okPath (p : Bs) : Bool := decide ((split p).length ≤ 6) && (split p).all okName

/-- What a path is in: all ahead of its last byte 47 (nothing: the root). -/
def par : Bs → Bs
  | [] => []
  | c :: cs => if cs.contains 47 then c :: par cs else []

theorem par_none {p : Bs} (h : ∀ i, i < p.length → p.getD i 0 ≠ 47) : par p = [] := by
  cases p with
  | nil => rfl
  | cons c cs =>
    unfold par
    rw [if_neg]
    intro hc
    obtain ⟨i, hi, he⟩ := List.getElem_of_mem (List.contains_iff_mem.1 hc)
    have := h (i + 1) (by simp; omega)
    simp [List.getD, hi] at this
    exact this he

theorem par_last : ∀ {p : Bs} {j : Nat}, p.getD j 0 = 47 → (∀ i, j < i → i < p.length → p.getD i 0 ≠ 47) → par p = p.take j
  | [], j, h, _ => by simp at h
  | c :: cs, 0, _, h2 => by
    unfold par
    rw [if_neg]
    · rfl
    · intro hc
      obtain ⟨i, hi, he⟩ := List.getElem_of_mem (List.contains_iff_mem.1 hc)
      have := h2 (i + 1) (by omega) (by simp; omega)
      simp [List.getD, hi] at this
      exact this he
  | c :: cs, j + 1, h1, h2 => by
    unfold par
    have h1' : cs.getD j 0 = 47 := by simpa [List.getD] using h1
    have hj : j < cs.length := by
      rcases Nat.lt_or_ge j cs.length with h | h
      · exact h
      · rw [List.getD, List.getElem?_eq_none h] at h1'; cases h1'
    have hc : cs.contains 47 = true := by
      rw [List.contains_iff_mem]
      have : cs[j] = 47 := by simpa [List.getD, hj] using h1'
      exact this ▸ List.getElem_mem hj
    rw [if_pos hc, par_last h1' (fun i hi hl => ?_)]
    · rfl
    · have := h2 (i + 1) (by omega) (by simp; omega)
      simpa [List.getD] using this

/-- An item by itself. -/
def okItem (x : It) : Bool :=
  okPath x.path && decide (x.data.length ≤ 4000) && (!x.dir || x.data.isEmpty) && decide (0 ≤ x.mode) && decide (x.mode ≤ 4095) && decide (0 ≤ x.time) && decide (x.time ≤ 2147483647)

/-- Is there a directory at a path? -/
def dirAt (l : List It) (p : Bs) : Bool := l.any fun y => decide (y.path = p) && y.dir

/-- P6: items that are a tree. -/
def isTree (l : List It) : Bool :=
  decide (l.length ≤ 60) && l.all okItem && decide ((l.map (·.path)).Nodup) && l.all fun x => decide (par x.path = []) || dirAt l (par x.path)

/-- The tree in its order. -/
def inOrder (l : List It) : List It := l.mergeSort fun x y => !less y.path x.path

/-- Every directory in which a path is, is there. -/
def entered (l : List It) (p : Bs) : Bool := (List.range p.length).all fun i => decide (p.getD i 0 ≠ 47) || dirAt l (p.take i)

theorem getD_take {p : Bs} {i j : Nat} (h : i < j) : (p.take j).getD i 0 = p.getD i 0 := by
  simp only [List.getD, List.getElem?_take]
  rw [if_pos h]

theorem last_slash (p : Bs) : (∀ i, i < p.length → p.getD i 0 ≠ 47) ∨ ∃ j, j < p.length ∧ p.getD j 0 = 47 ∧ ∀ i, j < i → i < p.length → p.getD i 0 ≠ 47 := by
  have : ∀ n, n ≤ p.length → (∀ i, i < n → p.getD i 0 ≠ 47) ∨ ∃ j, j < n ∧ p.getD j 0 = 47 ∧ ∀ i, j < i → i < n → p.getD i 0 ≠ 47 := by
    intro n
    induction n with
    | zero => exact fun _ => .inl fun i h => absurd h (Nat.not_lt_zero _)
    | succ n ih =>
      intro hn
      by_cases e : p.getD n 0 = 47
      · exact .inr ⟨n, Nat.lt_succ_self n, e, fun i h1 h2 => absurd h1 (by omega)⟩
      · rcases ih (by omega) with h | ⟨j, hj, hj1, hj2⟩
        · refine .inl fun i hi => ?_
          rcases Nat.lt_succ_iff_lt_or_eq.1 hi with h' | rfl
          · exact h i h'
          · exact e
        · refine .inr ⟨j, by omega, hj1, fun i h1 h2 => ?_⟩
          rcases Nat.lt_succ_iff_lt_or_eq.1 h2 with h' | rfl
          · exact hj2 i h1 h'
          · exact e
  exact this p.length (Nat.le_refl _)

theorem split_front {p : Bs} (h : okPath p = true) : p.getD 0 0 ≠ 47 := by
  intro e
  cases p with
  | nil => simp at e
  | cons c cs =>
    simp [List.getD] at e
    subst e
    unfold okPath at h
    rw [split_slash] at h
    simp [okName] at h

/-- The two ways to say that what an item is in, is there. -/
theorem entered_iff (l : List It) (hok : l.all okItem = true) :
    (l.all fun x => decide (par x.path = []) || dirAt l (par x.path)) = l.all fun x => entered l x.path := by
  rw [Bool.eq_iff_iff]
  constructor
  · intro h
    have step : ∀ n (x : It), x ∈ l → x.path.length = n → entered l x.path = true := by
      intro n
      induction n using Nat.strongRecOn with
      | ind n ih =>
        intro x hx hn
        unfold entered
        rw [List.all_eq_true]
        intro i hi
        have hi' : i < x.path.length := List.mem_range.1 hi
        by_cases e : x.path.getD i 0 = 47
        · rcases last_slash x.path with hno | ⟨j, hj, hj1, hj2⟩
          · exact absurd e (hno i hi')
          · have hp := par_last hj1 hj2
            have hj0 : j ≠ 0 := by
              intro h0
              subst h0
              have := List.all_eq_true.1 hok x hx
              unfold okItem at this
              simp only [Bool.and_eq_true] at this
              exact split_front this.1.1.1.1.1.1 hj1
            have hx2 := List.all_eq_true.1 h x hx
            have hpne : par x.path ≠ [] := by
              rw [hp]
              intro hnil
              have := congrArg List.length hnil
              rw [List.length_take, List.length_nil] at this
              omega
            have hd : dirAt l (par x.path) = true := by simpa [hpne] using hx2
            by_cases hij : i = j
            · subst hij
              rw [← hp]
              simp [hd]
            · have hlt : i < j := by
                rcases Nat.lt_or_ge i j with h' | h'
                · exact h'
                · exact absurd e (hj2 i (by omega) hi')
              unfold dirAt at hd
              obtain ⟨y, hy, hyp⟩ := List.any_eq_true.1 hd
              simp at hyp
              have hyl : y.path.length = j := by rw [hyp.1, hp, List.length_take]; omega
              have hy2 := ih j (by omega) y hy hyl
              unfold entered at hy2
              have := List.all_eq_true.1 hy2 i (List.mem_range.2 (by omega))
              rw [hyp.1, hp, getD_take hlt, List.take_take, Nat.min_eq_left (by omega)] at this
              exact this
        · have e' : ¬ (x.path[i]?.getD 0 = 47) := by simpa [List.getD] using e
          simp [e']
    rw [List.all_eq_true]
    exact fun x hx => step _ x hx rfl
  · intro h
    rw [List.all_eq_true]
    intro x hx
    have hx2 := List.all_eq_true.1 h x hx
    rcases last_slash x.path with hno | ⟨j, hj, hj1, hj2⟩
    · rw [par_none hno]; simp
    · rw [par_last hj1 hj2]
      unfold entered at hx2
      have := List.all_eq_true.1 hx2 j (List.mem_range.2 hj)
      rw [hj1] at this
      simp at this
      simp [this]
end Go.Nt
