/- A map from paths to nodes, read as a list of items: what look-ups, stores and removals do to it. -/
import Derived.Test.YtodmdkhdbfbfgaaDoorRows5
import Derived.Maps.OwnSet
import Derived.Maps.OwnOps
import Derived.Sort.KeysCollected
namespace Go.Proofs.YtodmdkhdbfbfgaaDoor
open Go.RowKit Go.Nt
set_option linter.unusedVariables false

/-- A file or a directory without its path. -/
structure Nd where
  dir : Bool
  data : Bs
  mode : Int
  time : Int
deriving DecidableEq, Inhabited

def nd (x : It) : Nd := ⟨x.dir, x.data, x.mode, x.time⟩
def itOf (p : Bs) (n : Nd) : It := ⟨p, n.dir, n.data, n.mode, n.time⟩
theorem itOf_nd (x : It) : itOf x.path (nd x) = x := rfl
theorem nd_itOf (p : Bs) (n : Nd) : nd (itOf p n) = n := rfl

/-- A node as one value. -/
def ndv (n : Nd) : Value := .agg #[.bool n.dir, .string (txt n.data), .int .i64 n.mode, .int .i64 n.time]

/-- How a map's element reads. -/
def ndOf : Value → Option (DataW Nd × List MemPlace)
  | .agg cs => match cs.toList with
    | [.bool d, .string s, .int .i64 m, .int .i64 t] => some (.held ⟨d, s.data.toList, m, t⟩, [])
    | _ => none
  | _ => none

theorem ndOf_mk (n : Nd) : ndOf (ndv n) = some (.held n, []) := rfl
theorem ndOf_inv {v : Value} {n : Nd} {ps : List MemPlace} (h : ndOf v = some (.held n, ps)) : v = ndv n := by
  unfold ndOf at h
  split at h
  · rename_i cs
    split at h
    · rename_i d s m t hc
      simp at h
      obtain ⟨rfl, _⟩ := h
      have : cs = #[.bool d, .string s, .int .i64 m, .int .i64 t] := by
        apply Array.toList_inj.1
        exact hc
      rw [this]
      unfold ndv
      rw [← txt_of]
    · cases h
  · cases h

/-- The item at a path. -/
def at? (l : List It) (p : Bs) : Option It := l.find? fun x => decide (x.path = p)

theorem at_some {l : List It} {p : Bs} {x : It} (h : at? l p = some x) : x ∈ l ∧ x.path = p := ⟨List.mem_of_find?_eq_some h, by simpa using List.find?_some h⟩
theorem at_none {l : List It} {p : Bs} : at? l p = none ↔ ∀ x ∈ l, x.path ≠ p := by simp [at?]
theorem at_mem {l : List It} (hn : (l.map (·.path)).Nodup) {x : It} (hx : x ∈ l) : at? l x.path = some x := by
  induction l with
  | nil => simp at hx
  | cons y l ih =>
    unfold at?
    rw [List.find?_cons]
    by_cases e : y.path = x.path
    · simp [e]
      simp at hn hx
      rcases hx with rfl | hx
      · rfl
      · exact absurd e.symm (fun e' => hn.1 x hx e')
    · simp [e]
      simp at hn hx
      rcases hx with rfl | hx
      · exact absurd rfl e
      · exact ih hn.2 hx
theorem at_dir {l : List It} (hn : (l.map (·.path)).Nodup) (p : Bs) : dirAt l p = (match at? l p with | some x => x.dir | none => false) := by
  cases h : at? l p with
  | none =>
    have h' := at_none.1 h
    unfold dirAt
    simp only [List.any_eq_false]
    intro x hx
    simp [h' x hx]
  | some x =>
    obtain ⟨hx, rfl⟩ := at_some h
    obtain ⟨k, hk, rfl⟩ := List.getElem_of_mem hx
    show dirAt l _ = l[k].dir
    unfold dirAt
    cases hd : l[k].dir with
    | true => exact List.any_eq_true.2 ⟨_, hx, by simp [hd]⟩
    | false =>
      rw [List.any_eq_false]
      intro y hy
      by_cases e : y.path = l[k].path
      · have h1 := at_mem hn hy
        have h2 := at_mem hn hx
        rw [e, h2] at h1
        cases h1
        simp [hd]
      · simp [e]

/-- A datum has just these items. -/
def Has (D : DataW Nd) (l : List It) : Prop :=
  ∀ p, Maps.has D (.string p) = (at? l p).isSome ∧ ∀ x, at? l p = some x → ∀ z, D.atKey (.string p) z = .held (nd x)

/-- Block b is a map that has just these items. -/
def TreeAt (w : World) (b : Nat) (l : List It) : Prop :=
  ∃ D : DataW Nd, w.ownsMap Tryd.prog 9 ndOf b (Maps.size D) D ∧ Has D l

theorem law9 : Maps.Keyed Tryd.prog 9 := Maps.string_keyed Tryd.underlying9
theorem zero46 (w : World) : (zeroValue 46).run Tryd.prog w = .ok (ndv ⟨false, [], 0, 0⟩) w := by kernel_rfl

theorem tight {w : World} {b n : Nat} {D : DataW Nd} (h : w.ownsMap Tryd.prog 9 ndOf b n D) : w.ownsMap Tryd.prog 9 ndOf b (Maps.size D) D := by
  obtain ⟨es, clock, hb, F, hs, rfl⟩ := h
  exact ⟨es, clock, hb, F, by simp [Maps.size, length_sorted], rfl⟩

theorem TreeAt.lt {w : World} {b : Nat} {l : List It} (h : TreeAt w b l) : b < w.heap.size := by
  obtain ⟨D, h, _⟩ := h
  exact h.lt

theorem TreeAt.of_block {w w' : World} {b : Nat} {l : List It} (h : TreeAt w b l) (hb : w'.heap[b]? = w.heap[b]?) : TreeAt w' b l := by
  obtain ⟨D, ⟨es, clock, h1, h2⟩, hh⟩ := h
  exact ⟨D, ⟨es, clock, hb.trans h1, h2⟩, hh⟩

theorem TreeAt.below {w w' : World} {B b : Nat} {l : List It} (h : TreeAt w b l) (hb : Below B w w') (hlt : b < B) : TreeAt w' b l := h.of_block (hb.block b hlt)

theorem made_tree (w : World) : TreeAt (w.alloc (.map #[] 0)) w.heap.size [] :=
  ⟨.map [], World.ownsMap_made w _ _ _, fun p => ⟨rfl, fun x hx => by simp [at?] at hx⟩⟩

theorem key9 {p : Bs} (h : p.length ≤ maxLen) : keyOf Tryd.prog 9 (.string (txt p)) = some (.string p) := WideMaps.keyOf_string_mk Tryd.underlying9 (by rw [txt_size]; exact h)

theorem TreeAt.look_some {w : World} {b : Nat} {l : List It} {p : Bs} {x : It} (h : TreeAt w b l) (hp : p.length ≤ maxLen) (hx : at? l p = some x) :
    (Instr.lookup 35 (.map (some b)) (.string (txt p)) true).run Tryd.prog w = .ok (.tuple #[ndv (nd x), .bool true]) w ∧ (Instr.lookup 35 (.map (some b)) (.string (txt p)) false).run Tryd.prog w = .ok (ndv (nd x)) w := by
  obtain ⟨D, ho, hh⟩ := h
  obtain ⟨v, ps, h1, h2⟩ := ho.look_ok law9 Tryd.underlying35 (zero46 w) (ndOf_mk _) (key9 hp)
  obtain ⟨v', ps', h3, h4⟩ := ho.lookup law9 Tryd.underlying35 (zero46 w) (ndOf_mk _) (key9 hp)
  rw [(hh p).2 x hx] at h2 h4
  rw [ndOf_inv h2, (hh p).1, hx] at h1
  rw [ndOf_inv h4] at h3
  exact ⟨h1, h3⟩

theorem TreeAt.look_none {w : World} {b : Nat} {l : List It} {p : Bs} (h : TreeAt w b l) (hp : p.length ≤ maxLen) (hx : at? l p = none) :
    (Instr.lookup 35 (.map (some b)) (.string (txt p)) true).run Tryd.prog w = .ok (.tuple #[ndv ⟨false, [], 0, 0⟩, .bool false]) w ∧ (Instr.lookup 35 (.map (some b)) (.string (txt p)) false).run Tryd.prog w = .ok (ndv ⟨false, [], 0, 0⟩) w := by
  obtain ⟨D, ho, hh⟩ := h
  have hno : Maps.has D (.string p) = false := by rw [(hh p).1, hx]; rfl
  obtain ⟨v, ps, h1, h2⟩ := ho.look_ok law9 Tryd.underlying35 (zero46 w) (ndOf_mk _) (key9 hp)
  obtain ⟨v', ps', h3, h4⟩ := ho.lookup law9 Tryd.underlying35 (zero46 w) (ndOf_mk _) (key9 hp)
  rw [Maps.atKey_of_not_has hno] at h2 h4
  rw [ndOf_inv h2, hno] at h1
  rw [ndOf_inv h4] at h3
  exact ⟨h1, h3⟩

/-- The keys are the paths, in some order. -/
theorem keys_perm {w : World} {b n : Nat} {l : List It} {D : DataW Nd} (ho : w.ownsMap Tryd.prog 9 ndOf b n D) (hh : Has D l) (hn : (l.map (·.path)).Nodup) : (l.map (·.path)).Perm (strKeys D) := by
  obtain ⟨es, rfl, hp⟩ := ho.tidy law9
  obtain ⟨es', e, hk⟩ := ho.keysOf
  cases e
  refine perm_strKeys hp (fun p h => ?_) hn (fun x => ?_)
  · obtain ⟨v, hv⟩ := hk p h
    obtain ⟨x, _, hx, _⟩ := Maps.keyOf_str Tryd.underlying9 hv
    exact ⟨x, hx⟩
  · rw [(hh x).1]
    constructor
    · intro h
      obtain ⟨y, hy, rfl⟩ := List.mem_map.1 h
      rw [at_mem hn hy]
      rfl
    · intro h
      obtain ⟨y, hy⟩ := Option.isSome_iff_exists.1 h
      obtain ⟨h1, rfl⟩ := at_some hy
      exact List.mem_map.2 ⟨y, h1, rfl⟩

theorem strKeys_size (D : DataW Nd) (h : Maps.IsMap D) : (strKeys D).length = Maps.size D := by
  obtain ⟨es, rfl⟩ := h
  simp [strKeys, Maps.size]

theorem size_tree {w : World} {b n : Nat} {l : List It} {D : DataW Nd} (ho : w.ownsMap Tryd.prog 9 ndOf b n D) (hh : Has D l) (hn : (l.map (·.path)).Nodup) : Maps.size D = l.length := by
  have h := (keys_perm ho hh hn).length_eq
  rw [strKeys_size D ho.isMap] at h
  simpa using h.symm

theorem TreeAt.len {w : World} {b : Nat} {l : List It} (h : TreeAt w b l) (hn : (l.map (·.path)).Nodup) (ty : TypeId) : (Builtin.len_ #[35] ty #[.map (some b)]).run Tryd.prog w = .ok (.int .i64 l.length) w := by
  obtain ⟨D, ho, hh⟩ := h
  have := ho.len Tryd.underlying35 ty
  rw [size_tree ho hh hn] at this
  exact this

/-- Items in which the one at a path is as it is told. -/
def setIt (l : List It) (x : It) : List It := l.filter (fun y => decide (y.path ≠ x.path)) ++ [x]

theorem at_append (l m : List It) (p : Bs) : at? (l ++ m) p = (at? l p).or (at? m p) := by simp [at?, List.find?_append]
theorem at_filter_other {l : List It} {p q : Bs} (h : p ≠ q) : at? (l.filter (fun y => decide (y.path ≠ q))) p = at? l p := by
  induction l with
  | nil => rfl
  | cons y l ih =>
    unfold at? at ih ⊢
    by_cases e : y.path = q
    · have : y.path ≠ p := fun e' => h (e'.symm.trans e)
      rw [List.filter_cons_of_neg (by simp [e]), List.find?_cons_of_neg (by simp [this]), ih]
    · rw [List.filter_cons_of_pos (by simp [e]), List.find?_cons, List.find?_cons, ih]
theorem at_filter_same (l : List It) (q : Bs) : at? (l.filter (fun y => decide (y.path ≠ q))) q = none := by
  rw [at_none]
  intro x hx
  simpa using (List.mem_filter.1 hx).2

theorem at_set_same (l : List It) (x : It) : at? (setIt l x) x.path = some x := by
  rw [setIt, at_append, at_filter_same]
  simp [at?]
theorem at_set_other {l : List It} {x : It} {p : Bs} (h : p ≠ x.path) : at? (setIt l x) p = at? l p := by
  rw [setIt, at_append, at_filter_other h]
  have : at? [x] p = none := by rw [at_none]; intro y hy; simp at hy; subst hy; exact fun e => h e.symm
  rw [this]
  cases at? l p <;> rfl

theorem Has.put {D : DataW Nd} {l : List It} (h : Has D l) (hm : Maps.IsMap D) (x : It) : Has (D.put (.string x.path) (.held (nd x))) (setIt l x) := by
  intro p
  by_cases e : p = x.path
  · subst e
    rw [at_set_same, Maps.has_put_same hm (k := .string x.path) trivial]
    refine ⟨rfl, fun y hy z => ?_⟩
    cases hy
    exact Maps.atKey_put_same hm (k := .string x.path) trivial _ _
  · have hne : (Lit.string p) ≠ .string x.path := fun h => e (by cases h; rfl)
    rw [at_set_other e, Maps.has_put_other hne]
    exact ⟨(h p).1, fun y hy z => by rw [Maps.atKey_put_other hne]; exact (h p).2 y hy z⟩

theorem Has.del {D : DataW Nd} {l : List It} (h : Has D l) (q : Bs) : Has (D.del (.string q)) (l.filter (fun y => decide (y.path ≠ q))) := by
  intro p
  by_cases e : p = q
  · subst e
    rw [at_filter_same, Maps.has_del_same]
    exact ⟨rfl, fun y hy => by cases hy⟩
  · have hne : (Lit.string p) ≠ .string q := fun h => e (by cases h; rfl)
    rw [at_filter_other e, Maps.has_del_other hne]
    exact ⟨(h p).1, fun y hy z => by rw [Maps.atKey_del_other hne]; exact (h p).2 y hy z⟩

theorem Has.same {D : DataW Nd} {l m : List It} (h : Has D l) (e : ∀ p, at? l p = at? m p) : Has D m := fun p => by rw [← e p]; exact h p

theorem at_snoc {l : List It} {x : It} (h : ∀ y ∈ l, y.path ≠ x.path) : setIt l x = l ++ [x] := by
  unfold setIt
  rw [List.filter_eq_self.2 (fun y hy => by simpa using h y hy)]

/-- A store. -/
theorem TreeAt.store {w : World} {b : Nat} {l : List It} (h : TreeAt w b l) (hn : (l.map (·.path)).Nodup) (hl : l.length < maxLen) (x : It) (hp : x.path.length ≤ maxLen) :
    ∃ w', (Instr.mapUpdate 35 (.map (some b)) (.string (txt x.path)) (ndv (nd x))).run Tryd.prog w = .ok () w' ∧ TreeAt w' b (setIt l x) ∧ w.mapTurned w' b := by
  obtain ⟨D, ho, hh⟩ := h
  obtain ⟨w', h1, h2, h3⟩ := ho.store law9 Tryd.underlying35 (by rw [size_tree ho hh hn]; exact hl) (key9 hp) (ndOf_mk (nd x))
  exact ⟨w', h1, ⟨_, tight h2, hh.put ho.isMap x⟩, h3⟩

/-- A removal. -/
theorem TreeAt.drop {w : World} {b : Nat} {l : List It} (h : TreeAt w b l) (p : Bs) (hp : p.length ≤ maxLen) (ty : TypeId) :
    ∃ w', (Builtin.delete_ #[35, 9] ty #[.map (some b), .string (txt p)]).run Tryd.prog w = .ok (.tuple #[]) w' ∧ TreeAt w' b (l.filter (fun y => decide (y.path ≠ p))) ∧ w.mapTurned w' b := by
  obtain ⟨D, ho, hh⟩ := h
  obtain ⟨w', h1, h2, h3⟩ := ho.drop law9 Tryd.underlying35 (key9 hp) ty
  exact ⟨w', h1, ⟨_, tight h2, hh.del p⟩, h3⟩

/-- A map that is made for so many. -/
theorem run_make35 (n : Int) (w : World) : (Instr.makeMap 35 (some (.int .i64 n))).run Tryd.prog w = .ok (.map (some w.heap.size)) (w.alloc (.map #[] 0)) := by
  simp [Instr.makeMap, run_underlying Tryd.underlying35, asInt, asIntOf, Result.andThen]

end Go.Proofs.YtodmdkhdbfbfgaaDoor
