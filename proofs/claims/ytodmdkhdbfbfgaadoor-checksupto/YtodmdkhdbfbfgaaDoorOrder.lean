/- Items put into a list one by one, each in its place: the list is in order, and it is the one order of these items. No model in this text. -/
import Derived.Test.YtodmdkhdbfbfgaaDoorRows5
namespace Go.Proofs.YtodmdkhdbfbfgaaDoor
open Go.Nt
set_option linter.unusedVariables false

/-- In order: each path ahead of the next ones. -/
def Ordered (l : List It) : Prop := l.Pairwise fun x y => less x.path y.path = true

theorem ins_perm (l : List It) (x : It) : (ins l x).Perm (x :: l) := by
  unfold ins
  have h : l.takeWhile (fun y => less y.path x.path) ++ l.dropWhile (fun y => less y.path x.path) = l := List.takeWhile_append_dropWhile
  have : (l.takeWhile (fun y => less y.path x.path) ++ x :: l.dropWhile (fun y => less y.path x.path)).Perm (x :: (l.takeWhile (fun y => less y.path x.path) ++ l.dropWhile (fun y => less y.path x.path))) := List.perm_middle
  rw [h] at this
  exact this

theorem ins_ordered {l : List It} {x : It} (h : Ordered l) (hx : ∀ y ∈ l, y.path ≠ x.path) : Ordered (ins l x) := by
  induction l with
  | nil => simp [ins, Ordered]
  | cons y l ih =>
    have hy := List.pairwise_cons.1 h
    have hl : Ordered l := hy.2
    have ihh := ih hl (fun z hz => hx z (by simp [hz]))
    by_cases e : less y.path x.path = true
    · have e1 : ins (y :: l) x = y :: ins l x := by simp [ins, e]
      rw [e1]
      refine List.pairwise_cons.2 ⟨fun z hz => ?_, ihh⟩
      have := (ins_perm l x).mem_iff.1 hz
      rcases List.mem_cons.1 this with rfl | hz'
      · exact e
      · exact hy.1 z hz'
    · have e1 : ins (y :: l) x = x :: y :: l := by simp [ins, e]
      rw [e1]
      have hlt : less x.path y.path = true := by
        cases h' : less x.path y.path with
        | true => rfl
        | false => exact absurd (less_total _ _ (by simpa using e) h') (hx y (by simp))
      refine List.pairwise_cons.2 ⟨fun z hz => ?_, h⟩
      rcases List.mem_cons.1 hz with rfl | hz'
      · exact hlt
      · exact less_trans _ _ _ hlt (hy.1 z hz')

/-- All of them, one by one. -/
def insAll (l : List It) : List It := l.foldl ins []

theorem insAll_snoc (l : List It) (x : It) : insAll (l ++ [x]) = ins (insAll l) x := by simp [insAll]

theorem insAll_perm_aux : ∀ (l m : List It), (l.foldl ins m).Perm (m ++ l)
  | [], m => by simp
  | x :: l, m => by
    rw [List.foldl_cons]
    refine (insAll_perm_aux l (ins m x)).trans ?_
    refine ((ins_perm m x).append_right l).trans ?_
    rw [List.cons_append]
    exact List.perm_middle.symm

theorem insAll_perm (l : List It) : (insAll l).Perm l := by unfold insAll; simpa using insAll_perm_aux l []
theorem insAll_length (l : List It) : (insAll l).length = l.length := (insAll_perm l).length_eq
theorem insAll_mem (l : List It) (x : It) : x ∈ insAll l ↔ x ∈ l := (insAll_perm l).mem_iff

theorem insAll_ordered (l : List It) (hn : (l.map (·.path)).Nodup) : Ordered (insAll l) := by
  have : ∀ k, k ≤ l.length → Ordered (insAll (l.take k)) := by
    intro k
    induction k with
    | zero => intro _; simp [insAll, Ordered]
    | succ k ih =>
      intro hk
      have hlt : k < l.length := by omega
      rw [List.take_add_one, List.getElem?_eq_getElem hlt]
      simp only [Option.toList_some]
      rw [insAll_snoc]
      refine ins_ordered (ih (by omega)) fun y hy he => ?_
      have hy' := (insAll_mem _ _).1 hy
      obtain ⟨j, hj, hje⟩ := List.getElem_of_mem hy'
      have hj' : j < k := by rw [List.length_take] at hj; omega
      rw [List.getElem_take] at hje
      have h1 := List.pairwise_iff_getElem.1 hn j k (by simp; omega) (by simp; omega) hj'
      simp at h1
      exact h1 (by rw [hje]; exact he)
  have := this l.length (Nat.le_refl _)
  rwa [List.take_length] at this

/-- There is one order. -/
theorem ordered_eq {l m : List It} (h : l.Perm m) (h1 : Ordered l) (h2 : Ordered m) : l = m := by
  refine List.Perm.eq_of_pairwise (le := fun x y : It => less x.path y.path = true) (fun a b _ _ h1 h2 => ?_) h1 h2 h
  rw [less_asymm h1] at h2
  cases h2

theorem nodup_paths {l m : List It} (h : l.Perm m) (hn : (l.map (·.path)).Nodup) : (m.map (·.path)).Nodup := (h.map _).nodup_iff.1 hn

theorem insAll_order (l : List It) (hn : (l.map (·.path)).Nodup) : insAll l = inOrder l := by
  have hp : (inOrder l).Perm l := List.mergeSort_perm _ _
  refine ordered_eq ((insAll_perm l).trans hp.symm) (insAll_ordered l hn) ?_
  have hs : (inOrder l).Pairwise fun x y => (!less y.path x.path) = true := List.pairwise_mergeSort
    (fun a b c h1 h2 => by
      simp at h1 h2 ⊢
      cases h : less c.path a.path with
      | false => rfl
      | true =>
        by_cases e : less b.path a.path = true
        · rw [h1] at e; cases e
        · by_cases e2 : a.path = b.path
          · rw [e2] at h; rw [h2] at h; cases h
          · have hab : less a.path b.path = true := by
              cases h' : less a.path b.path with
              | true => rfl
              | false => exact absurd (less_total _ _ h' h1) e2
            have := less_trans _ _ _ h hab
            rw [h2] at this; cases this)
    (fun a b => by
      cases h : less b.path a.path with
      | false => simp
      | true => simp [less_asymm h]) l
  have hn2 : ((inOrder l).map (·.path)).Nodup := nodup_paths hp.symm hn
  have hn3 : (inOrder l).Pairwise fun x y => x.path ≠ y.path := List.pairwise_map.1 hn2
  refine (hs.and hn3).imp fun {a b} hh => ?_
  obtain ⟨h1, h2⟩ := hh
  cases h' : less a.path b.path with
  | true => rfl
  | false => exact absurd (less_total _ _ h' (by simpa using h1)) h2

theorem inOrder_ordered (l : List It) (hn : (l.map (·.path)).Nodup) : Ordered (inOrder l) := by rw [← insAll_order l hn]; exact insAll_ordered l hn

/-! ### What makes a list no tree -/
theorem tree_item {l : List It} {x : It} (hx : x ∈ l) (h : okItem x = false) : isTree l = false := by
  have : l.all okItem = false := by
    cases e : l.all okItem with
    | false => rfl
    | true => have := List.all_eq_true.1 e x hx; rw [h] at this; cases this
  unfold isTree
  rw [this]; simp

theorem tree_long {l : List It} (h : 60 < l.length) : isTree l = false := by
  unfold isTree
  have : decide (l.length ≤ 60) = false := by simp; omega
  rw [this]; simp

theorem tree_twice {l : List It} (h : ¬ (l.map (·.path)).Nodup) : isTree l = false := by
  unfold isTree
  simp [h]

theorem tree_par {l : List It} {x : It} (hx : x ∈ l) (h : par x.path ≠ []) (h2 : dirAt l (par x.path) = false) : isTree l = false := by
  have : (l.all fun x => decide (par x.path = []) || dirAt l (par x.path)) = false := by
    cases e : l.all fun x => decide (par x.path = []) || dirAt l (par x.path) with
    | false => rfl
    | true => have := List.all_eq_true.1 e x hx; simp [h, h2] at this
  unfold isTree
  rw [this]; simp

theorem twice_at {l : List It} {k j : Nat} {x y : It} (hx : l[k]? = some x) (hy : l[j]? = some y) (hj : j < k) (h : y.path = x.path) : ¬ (l.map (·.path)).Nodup := by
  intro hn
  obtain ⟨hk, rfl⟩ := List.getElem?_eq_some_iff.1 hx
  obtain ⟨hj', rfl⟩ := List.getElem?_eq_some_iff.1 hy
  have h1 := List.pairwise_iff_getElem.1 hn j k (by simp; omega) (by simp; omega) hj
  simp at h1
  exact h1 h

theorem nodup_snoc {l : List It} {k : Nat} {x : It} (hx : l[k]? = some x) (hn : ((l.take k).map (·.path)).Nodup) (h : ∀ y ∈ l.take k, y.path ≠ x.path) : ((l.take (k + 1)).map (·.path)).Nodup := by
  rw [List.take_add_one, hx]
  simp only [Option.toList_some, List.map_append, List.map_cons, List.map_nil]
  rw [List.nodup_append]
  refine ⟨hn, by simp, fun a ha b hb => ?_⟩
  obtain ⟨y, hy, rfl⟩ := List.mem_map.1 ha
  simp at hb
  subst hb
  exact h y hy

end Go.Proofs.YtodmdkhdbfbfgaaDoor
