/- nandlaw.Checks returns true for every list of items of bulk at most 1048576, and the list reads afterwards as it did; the listed tables of the library start as the program's text lays them. -/
import Derived.Test.YtodmdkhdbfbfgaaDoorCards
import Derived.Test.YtodmdkhdbfbfgaaDoorTie
import Derived.Test.YtodmdkhdbfbfgaaDoorChecksW
import Derived.Deep.Slices
import Derived.WalkKit
import Derived.ProofKit
import Derived.OpenShut
import Derived.ShutString
import Derived.Below
import Derived.Deep.DeepHandedRow
import Derived.Lib.LaidTab
import Derived.Shelf.Vars
namespace Go.Proofs.YtodmdkhdbfbfgaaDoor.checks
open Go.ChangeShapes Go.WideShapes Go.ChangeAt Go.RowKit Go.Nt
open Go.ChangeMaps (open_string shut_string)
set_option linter.unusedVariables false

theorem own : ownKnob Tryd.prog.godebug = none := by kernel_rfl
theorem laidOut : laidOutB Tryd.prog = true := by kernel_rfl
theorem cells24 : Tryd.prog.cellsOf 24 = 5 := by kernel_rfl
theorem cells3 : Tryd.prog.cellsOf 3 = 1 := by kernel_rfl
theorem cells4 : Tryd.prog.cellsOf 4 = 1 := by kernel_rfl
theorem cells9 : Tryd.prog.cellsOf 9 = 1 := by kernel_rfl

theorem one_le {H : Type} (d : DataW H) : 1 ≤ Rows.uptoBulk d := by
  cases d with
  | lit l => cases l <;> simp [Rows.uptoBulk]
  | nil => simp [Rows.uptoBulk]
  | ptr d => simp [Rows.uptoBulk]
  | slice elems spare => simp [Rows.uptoBulk]
  | agg parts => simp [Rows.uptoBulk]
  | iface t d => simp [Rows.uptoBulk]
  | map entries => simp [Rows.uptoBulk]
  | held h => simp [Rows.uptoBulk]
theorem part_le {H : Type} {d : DataW H} {l : List (DataW H)} (h : d ∈ l) : Rows.uptoBulk d ≤ Rows.uptoBulkAll l := by
  induction l with
  | nil => cases h
  | cons x r ih =>
    simp only [Rows.uptoBulkAll]
    rcases List.mem_cons.1 h with e | e
    · subst e; omega
    · have := ih e; omega
theorem length_le {H : Type} (l : List (DataW H)) : l.length ≤ Rows.uptoBulkAll l := by
  induction l with
  | nil => simp [Rows.uptoBulkAll]
  | cons x r ih => have := one_le x; simp only [Rows.uptoBulkAll, List.length_cons]; omega

set_option maxRecDepth 100000 in
/-- A list of items, opened. -/
theorem open_items {H : Type} {enc : TypeId × Value → H} {W : World} {spare : Nat → Bool} {fuel : Nat} {sa : Option Addr} {sn scap : Nat} {x : DataW H × List MemPlace} (h : DataW.trod enc Tryd.prog W 0 spare true fuel 22 [.slice sa sn scap] = some x) :
    ∃ l : List It, l.length = sn ∧ ItsIn W sa l ∧ (sa = none → l = []) ∧ l.length ≤ Rows.uptoBulk x.1 ∧ ∀ y ∈ l, y.path.length ≤ Rows.uptoBulk x.1 ∧ y.data.length ≤ Rows.uptoBulk x.1 := by
  rcases Deep.open_slice Tryd.underlying22 h with ⟨hcs, _⟩ | ⟨a, len, cap, m, nn, D, Pl, hcs, _, hl, hm, hmm, rfl, hx⟩
  · simp at hcs
    obtain ⟨rfl, rfl, rfl⟩ := hcs
    exact ⟨[], rfl, fun h => absurd rfl h, fun _ => rfl, by simp, by simp⟩
  · simp at hcs
    obtain ⟨rfl, rfl, rfl⟩ := hcs
    have hle : sn ≤ m := by rw [hmm]; split <;> omega
    rw [cells24] at hx
    have each : ∀ i, i < sn → ∃ y : It, W.cell? (a.add (i * 5)) = some (.string (txt y.path)) ∧ W.cell? ((a.add (i * 5)).add 1) = some (.bool y.dir) ∧ W.cell? ((a.add (i * 5)).add 2) = some (.string (txt y.data)) ∧ W.cell? ((a.add (i * 5)).add 3) = some (.int .i64 y.mode) ∧ W.cell? ((a.add (i * 5)).add 4) = some (.int .i64 y.time) ∧ y.path.length ≤ Rows.uptoBulk (D i) ∧ y.data.length ≤ Rows.uptoBulk (D i) := by
      intro i hi
      obtain ⟨cs, hc, ht⟩ := hx i (by omega)
      obtain ⟨_, hlen, hcell⟩ := World.cells?_some hc
      obtain ⟨xs, q, _, hD, hcl, hxl, hf⟩ := DataW.trod_struct Tryd.underlying24 ht
      match cs, hlen with
      | [u0, u1, u2, u3, u4], _ =>
        match xs, hxl with
        | [y0, y1, y2, y3, y4], _ =>
          have f0 : DataW.trod enc Tryd.prog W 0 spare true q 9 (([u0, u1, u2, u3, u4].drop 0).take (Tryd.prog.cellsOf 9)) = [y0, y1, y2, y3, y4][0]? := hf 0 _ rfl
          have f1 : DataW.trod enc Tryd.prog W 0 spare true q 4 (([u0, u1, u2, u3, u4].drop 1).take (Tryd.prog.cellsOf 4)) = [y0, y1, y2, y3, y4][1]? := hf 1 _ rfl
          have f2 : DataW.trod enc Tryd.prog W 0 spare true q 9 (([u0, u1, u2, u3, u4].drop 2).take (Tryd.prog.cellsOf 9)) = [y0, y1, y2, y3, y4][2]? := hf 2 _ rfl
          have f3 : DataW.trod enc Tryd.prog W 0 spare true q 3 (([u0, u1, u2, u3, u4].drop 3).take (Tryd.prog.cellsOf 3)) = [y0, y1, y2, y3, y4][3]? := hf 3 _ rfl
          have f4 : DataW.trod enc Tryd.prog W 0 spare true q 3 (([u0, u1, u2, u3, u4].drop 4).take (Tryd.prog.cellsOf 3)) = [y0, y1, y2, y3, y4][4]? := hf 4 _ rfl
          rw [cells9] at f0 f2
          rw [cells4] at f1
          rw [cells3] at f3 f4
          have f0 : DataW.trod enc Tryd.prog W 0 spare true q 9 [u0] = some y0 := f0
          have f1 : DataW.trod enc Tryd.prog W 0 spare true q 4 [u1] = some y1 := f1
          have f2 : DataW.trod enc Tryd.prog W 0 spare true q 9 [u2] = some y2 := f2
          have f3 : DataW.trod enc Tryd.prog W 0 spare true q 3 [u3] = some y3 := f3
          have f4 : DataW.trod enc Tryd.prog W 0 spare true q 3 [u4] = some y4 := f4
          obtain ⟨s0, e0, x0, _⟩ := DataW.trod_string Tryd.underlying9 f0
          obtain ⟨b1, e1, _⟩ := DataW.trod_bool Tryd.underlying4 f1
          obtain ⟨s2, e2, x2, _⟩ := DataW.trod_string Tryd.underlying9 f2
          obtain ⟨n3, e3, _, _⟩ := DataW.trod_int Tryd.underlying3 f3
          obtain ⟨n4, e4, _, _⟩ := DataW.trod_int Tryd.underlying3 f4
          simp only [List.cons.injEq, and_true] at e0 e1 e2 e3 e4
          subst e0 e1 e2 e3 e4
          have hd : D i = .agg [y0.1, y1.1, y2.1, y3.1, y4.1] := by
            have := congrArg Prod.fst hD
            simpa using this
          have hb0 : s0.data.toList.length + 1 ≤ Rows.uptoBulk (D i) := by
            rw [hd, x0]
            simp only [Rows.uptoBulk, Rows.uptoBulkAll]
            omega
          have hb2 : s2.data.toList.length + 1 ≤ Rows.uptoBulk (D i) := by
            rw [hd, x2]
            simp only [Rows.uptoBulk, Rows.uptoBulkAll]
            omega
          refine ⟨⟨s0.data.toList, b1, s2.data.toList, n3, n4⟩, ?_, ?_, ?_, ?_, ?_, by show s0.data.toList.length ≤ _; omega, by show s2.data.toList.length ≤ _; omega⟩
          · have := hcell 0 (by omega)
            rw [show (a.add (i * 5)).add 0 = a.add (i * 5) by simp [Addr.add]] at this
            exact this
          · exact hcell 1 (by omega)
          · exact hcell 2 (by omega)
          · exact hcell 3 (by omega)
          · exact hcell 4 (by omega)
    obtain ⟨Y, hY⟩ := Deep.choose_lt each
    have hbulk : ∀ i, i < sn → Rows.uptoBulk (D i) ≤ Rows.uptoBulk (.slice ((List.range sn).map D) ((List.range (m - sn)).map fun j => D (sn + j))) := fun i hi => by
      have h1 : Rows.uptoBulk (D i) ≤ Rows.uptoBulkAll ((List.range sn).map D) := part_le (List.mem_map.2 ⟨i, List.mem_range.2 hi, rfl⟩)
      simp only [Rows.uptoBulk]
      omega
    refine ⟨(List.range sn).map Y, by simp, fun h0 => ?_, (fun h => by cases h), ?_, fun y hy => ?_⟩
    · have h0 : 0 < sn := by
        rcases Nat.eq_zero_or_pos sn with e | e
        · subst e; exact absurd rfl h0
        · exact e
      obtain ⟨b, off, spot⟩ := a
      have hc := (hY 0 h0).1
      have hspot : spot = none := by simpa [Addr.add] using World.cell?_spot hc
      subst hspot
      have hadd : ∀ o k, (⟨b, o, none⟩ : Addr).add k = ⟨b, o + k, none⟩ := fun o k => by unfold Addr.add; split <;> simp_all
      refine ⟨b, off, rfl, fun i x hi => ?_⟩
      have hlt : i < sn := by have := (List.getElem?_eq_some_iff.1 hi).1; simpa using this
      have hx' : Y i = x := by simpa [hlt] using hi
      subst hx'
      obtain ⟨h0, h1, h2, h3, h4, _, _⟩ := hY i hlt
      rw [hadd] at h0 h1 h2 h3 h4
      rw [hadd] at h1 h2 h3 h4
      exact ⟨h0, h1, h2, h3, h4⟩
    · have h1 := length_le ((List.range sn).map D)
      simp only [List.length_map, List.length_range] at h1 ⊢
      simp only [Rows.uptoBulk]
      omega
    · obtain ⟨i, hi, rfl⟩ := List.mem_map.1 hy
      have hlt := List.mem_range.1 hi
      have hb := hbulk i hlt
      obtain ⟨_, _, _, _, _, h1, h2⟩ := hY i hlt
      exact ⟨Nat.le_trans h1 hb, Nat.le_trans h2 hb⟩

/-- The library's own number is there. -/
theorem maxlen {W : World} (h : W.ShapedOpen Tryd.prog) : ML W :=
  cell_of_shapedOpen_int (g := 0) (t := 3) (zero := #[.int .i64 0]) (k := .i64) h (by decide +kernel) (by kernel_rfl) rfl (by kernel_rfl) (by kernel_rfl) Tryd.underlying3

set_option maxRecDepth 100000 in
theorem contract (H : Type) (enc : TypeId × Value → H) (W : World) (base : Nat) (args : Array Value) (ds gs : List (DataW H)) (before : List MemPlace)
    (hval : ∀ (j : Nat) t v, Tryd.f3.params[j]? = some t → args[j]? = some v → Value.okWide Tryd.prog W .any base t v)
    (hW : DataW.Whole enc Tryd.prog Tryd.f3.params.toList Rows.checksSpec.vars false W args.toList ds gs before) (hk : Rows.uptoSmall H (ds ++ gs) = true) (hsh : W.ShapedOpen Tryd.prog) :
    Calls Tryd.prog 3 args W fun e W' => ∃ v, e = .returned v ∧ Rows.checksSpec.post enc Tryd.prog Tryd.f3 false true false false W args v W' := by
  have hW' := hW
  obtain ⟨p, q, hA0, hV, rfl, hfz, hnd⟩ := hW
  have hA : DataW.TrodAll enc Tryd.prog W 0 (fun _ => true) true Tryd.f3.params.toList args.toList ds p := hA0
  rw [Tryd.params3] at hA hval
  obtain ⟨v0, vs0, d0, ds0, p0, q0, hargs, rfl, rfl, h0, r0⟩ := trodAll_cons hA
  obtain ⟨rfl, rfl, rfl⟩ := trodAll_nil r0
  obtain rfl : args = #[v0] := by cases args; simp_all
  obtain ⟨rfl, rfl⟩ := trodVars_none hV
  obtain ⟨a, len, cap, rfl⟩ := okWide_slice Tryd.underlying22 (hval 0 22 v0 rfl rfl)
  have k0 := h0
  have lt0 : ∀ x ∈ p0, x.block < W.heap.size := by obtain ⟨m, hm⟩ := k0; exact DataW.trod_lt m _ _ _ hm
  clear hA0
  simp only [List.append_nil] at hW' hk
  have hbulk : Rows.uptoBulk d0 ≤ 1048576 := by
    have h : Rows.uptoBulkAll [d0] ≤ 1048576 := of_decide_eq_true hk
    simp only [Rows.uptoBulkAll] at h
    omega
  obtain ⟨fuel, hf⟩ := h0
  obtain ⟨l, rfl, hin, hnil, hlen, hbounds⟩ := open_items (by simpa [Value.cells] using hf)
  simp only at hlen hbounds
  refine (checks_walk a cap l W (maxlen hsh) hin hnil (by omega) (fun x hx => by have := (hbounds x hx).1; omega) (fun x hx => by have := (hbounds x hx).2; omega)).mono fun e W' ⟨he, bel⟩ => ?_
  subst he
  exact ⟨_, rfl, _, _, _, [], _, [], hW', trodAll_mk1 (shut_bool Tryd.underlying4 _), trodAll_cons_mk (Below.trod laidOut (by kernel_rfl) (of_decide_eq_true (by kernel_rfl)) k0 bel lt0) trodAll_mk0, rfl, bel.frame _, fun h => by cases h⟩

/-- A block with other cells. -/
def holds (vs : List Value) : Obj → Obj
  | .cells _ t frozen => .cells vs.toArray t frozen
  | o => o
def ranges : List Int := [128, 191, 160, 191, 128, 159, 144, 191, 128, 143, 0, 0, 0, 0, 0, 0, 0, 0, 0, 0, 0, 0, 0, 0, 0, 0, 0, 0, 0, 0, 0, 0]
/-- A world for the witness: the settled one, the two tables holding what is listed. -/
noncomputable def laidWorld (os : Os) : World :=
  { World.holding Tryd.prog os ⟨#[], #[], []⟩ with heap := ((World.holding Tryd.prog os ⟨#[], #[], []⟩).heap.modify 1 (holds (Go.Pinned.utf8FirstZ.map fun z : Nat => Value.int .u8 (z : Int)))).modify 2 (holds (ranges.map fun z => Value.int .u8 z)) }
theorem laid_met (os : Os) : laidMet Tryd.prog Rows.checksUptoRow.laid ((laidWorld os).forCall (fun _ _ => 0) ⟨#[], #[.slice none 0 0], []⟩).memory :=
  laidMet_of_run' 8 (by kernel_rfl) (by kernel_rfl)
theorem reads (os : Os) {H : Type} (enc : TypeId × Value → H) : ∃ places, DataW.whole enc Tryd.prog ((laidWorld os).forCall (fun _ _ => 0) ⟨#[], #[.slice none 0 0], []⟩).memory Tryd.f3.params.toList Rows.checksSpec.vars false #[Value.slice none 0 0].toList 8 = some ([.nil], [], places) :=
  ⟨[], by kernel_rfl⟩

set_option maxRecDepth 100000 in
theorem liftedUpto (os : Os) (started : os.Started) (H : Type) (enc : TypeId × Value → H) (F : Stop.Interp) :
    ReturnsInHanded {} Tryd.checked os 3 .any ((Rows.OpenSpec.upto Rows.checksSpec).preRow enc Tryd.prog Tryd.f3 Rows.checksUptoRow.domain false Rows.checksUptoRow.laid) (((Rows.OpenSpec.upto Rows.checksSpec).at F).post enc Tryd.prog Tryd.f3 false true false false) := by
  obtain ⟨places, hx⟩ := reads os enc
  refine returnsInHanded_of_row (C := Tryd.checked) (s := Rows.OpenSpec.upto Rows.checksSpec) own started (by kernel_rfl) Tryd.func3
    (witness_row_at (enc := enc) (C := Tryd.checked) false (laidWorld os) #[.slice none 0 0] rfl (by kernel_rfl) (by kernel_rfl) (by kernel_rfl)
      (OpenSpec.preRow_of_cond 8 hx (by kernel_rfl) (fun k hk => by cases hk; kernel_rfl) (by kernel_rfl) (laid_met os))) ?_
  intro W base args ds gs before hval hW _ hcond _ _ hsh _
  exact contract H enc W base args ds gs before hval hW (hcond _ rfl) hsh

theorem saidUpto : Rows.ChecksUptoSaid :=
  OpenClaim.holds_of_cond 3 Tryd.f3 rfl rfl rfl rfl rfl rfl rfl ⟨rfl, rfl, rfl, rfl, rfl⟩ rfl rfl rfl rfl rfl (by kernel_rfl) Tryd.func3 (by kernel_rfl)
    (of_decide_eq_true (by kernel_rfl)) (by unfold Func.isWrapper; first | (rw [if_pos (by decide +kernel)]; kernel_rfl) | (rw [if_neg (by decide +kernel)]; exact ⟨rfl, rfl⟩))
    (fun os started H enc _ F => by rw [OpenClaim.pre_eq_preRow]; exact liftedUpto os started H enc F)

/-- No parameter wants a stand-in; the program's own looks are off. -/
theorem plain (f : FuncId) (fn : Func) (hf : Tryd.pinned.checked.prog.funcNamed "nand/nandlaw.Checks" = some f) (hfn : Tryd.pinned.checked.prog.funcs[f]? = some fn) :
    false = Tryd.pinned.checked.prog.looks [] ∧ ∀ (j : Nat) t, fn.params[j]? = some t → Tryd.pinned.checked.prog.wantsStandIn t = false := by
  obtain rfl : f = 3 := Option.some.inj ((show Tryd.prog.funcNamed "nand/nandlaw.Checks" = some 3 by kernel_rfl).symm.trans hf) |>.symm
  obtain rfl : fn = Tryd.f3 := (Option.some.inj (Tryd.func3.symm.trans hfn)).symm
  refine ⟨by kernel_rfl, fun j t ht => ?_⟩
  rw [Tryd.params3] at ht
  obtain rfl : t = 22 := by simpa using Array.mem_of_getElem? ht
  exact (show Tryd.prog.wantsStandIn 22 = false by kernel_rfl)

theorem cardUpto : Rows.ChecksUptoCardSaid :=
  Claim7.holds_tied_plain_at .later [] _ _ _ _ saidUpto (fun _ h => by cases h) (by kernel_rfl) (fun _ h => by cases h) checksUpto_row_tie rfl ⟨rfl, rfl⟩ (by kernel_rfl) rfl plain (by kernel_rfl)
end Go.Proofs.YtodmdkhdbfbfgaaDoor.checks
namespace Go.Proofs.YtodmdkhdbfbfgaaDoor
/-- The statement, under the seat's own name. -/
theorem checks_holds : Rows.ChecksUptoCardSaid := checks.cardUpto
end Go.Proofs.YtodmdkhdbfbfgaaDoor
