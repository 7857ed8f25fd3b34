/- nandlaw.Chips returns true for every number of blocks and pages, every list of bad blocks and every script, and the lists read afterwards as they did (no condition). -/
import Derived.Test.YtodmdkhdbfbfgaaRows
import Derived.Test.YtodmdkhdbfbfgaaChipWalk
import Derived.Deep.Slices
import Derived.SizedLaws
import Derived.WalkKit
import Derived.ProofKit
import Derived.OpenShut
import Derived.ShutString
import Derived.ChangeOld
import Derived.Below
namespace Go.Proofs.Ytodmdkhdbfbfgaa.chips
open Go.ChangeShapes Go.WideShapes Go.ChangeAt Go.RowKit
open Go.ChangeMaps (open_string shut_string)
set_option linter.unusedVariables false

theorem own : ownKnob Try.prog.godebug = none := by kernel_rfl
theorem laidOut : laidOutB Try.prog = true := by kernel_rfl
theorem bytes3 : Try.prog.bytesOf 3 = 8 := by kernel_rfl
theorem bytes43 : Try.prog.bytesOf 43 = 40 := by kernel_rfl
theorem cells43 : Try.prog.cellsOf 43 = 4 := by kernel_rfl
theorem cells3 : Try.prog.cellsOf 3 = 1 := by kernel_rfl
theorem cells9 : Try.prog.cellsOf 9 = 1 := by kernel_rfl

theorem weights_all {H : Type} {P : Program} {e : TypeId} {n : Nat} : ∀ {l : List (DataW H)} {d : DataW H}, d ∈ l → n ∈ d.weights P e → n ∈ DataW.weightsAll P e l
  | [], _, h, _ => by cases h
  | x :: r, d, h, hn => by
    rw [DataW.weightsAll, List.mem_append]
    rcases List.mem_cons.1 h with rfl | h
    · exact .inl hn
    · exact .inr (weights_all h hn)

set_option maxRecDepth 100000 in
/-- A script, opened. -/
theorem open_steps {H : Type} {enc : TypeId × Value → H} {W : World} {spare : Nat → Bool} {fuel : Nat} {sa : Option Addr} {sn scap : Nat} {x : DataW H × List MemPlace} (h : DataW.trod enc Try.prog W 0 spare true fuel 35 [.slice sa sn scap] = some x) :
    ∃ K A C D, StepsIn W sa sn K A C D ∧ (∀ i, i < sn → -9223372036854775808 ≤ C i ∧ C i ≤ 9223372036854775807) ∧ (∀ i, i < sn → (D i).length ∈ x.1.weights Try.prog 35) ∧ (0 < sn → ∃ r, (sn + r) * 40 ∈ x.1.weights Try.prog 35) := by
  rcases Deep.open_slice Try.underlying35 h with ⟨hcs, _⟩ | ⟨a, len, cap, m, nn, D, Pl, hcs, _, hl, hm, hmm, rfl, hx⟩
  · simp at hcs
    obtain ⟨rfl, rfl, rfl⟩ := hcs
    exact ⟨fun _ => 0, fun _ => 0, fun _ => 0, fun _ => [], fun h => absurd h (by omega), fun i hi => by omega, fun i hi => by omega, fun h => by omega⟩
  · simp at hcs
    obtain ⟨rfl, rfl, rfl⟩ := hcs
    have hle : sn ≤ m := by rw [hmm]; split <;> omega
    rw [cells43] at hx
    have each : ∀ i, i < sn → ∃ (y : Int × Int × Int × List UInt8), W.cell? (a.add (i * 4)) = some (.int .i64 y.1) ∧ W.cell? ((a.add (i * 4)).add 1) = some (.int .i64 y.2.1) ∧ W.cell? ((a.add (i * 4)).add 2) = some (.int .i64 y.2.2.1) ∧ W.cell? ((a.add (i * 4)).add 3) = some (.string (txt y.2.2.2)) ∧ (-9223372036854775808 ≤ y.2.2.1 ∧ y.2.2.1 ≤ 9223372036854775807) ∧ y.2.2.2.length ∈ (D i).weights Try.prog 43 := by
      intro i hi
      obtain ⟨cs, hc, ht⟩ := hx i (by omega)
      obtain ⟨_, hlen, hcell⟩ := World.cells?_some hc
      obtain ⟨xs, q, _, hD, hcl, hxl, hf⟩ := DataW.trod_struct Try.underlying43 ht
      match cs, hlen with
      | [u0, u1, u2, u3], _ =>
        match xs, hxl with
        | [y0, y1, y2, y3], _ =>
          have f0 : DataW.trod enc Try.prog W 0 spare true q 3 (([u0, u1, u2, u3].drop 0).take (Try.prog.cellsOf 3)) = [y0, y1, y2, y3][0]? := hf 0 _ rfl
          have f1 : DataW.trod enc Try.prog W 0 spare true q 3 (([u0, u1, u2, u3].drop 1).take (Try.prog.cellsOf 3)) = [y0, y1, y2, y3][1]? := hf 1 _ rfl
          have f2 : DataW.trod enc Try.prog W 0 spare true q 3 (([u0, u1, u2, u3].drop 2).take (Try.prog.cellsOf 3)) = [y0, y1, y2, y3][2]? := hf 2 _ rfl
          have f3 : DataW.trod enc Try.prog W 0 spare true q 9 (([u0, u1, u2, u3].drop 3).take (Try.prog.cellsOf 9)) = [y0, y1, y2, y3][3]? := hf 3 _ rfl
          rw [cells3] at f0 f1 f2
          rw [cells9] at f3
          have f0 : DataW.trod enc Try.prog W 0 spare true q 3 [u0] = some y0 := f0
          have f1 : DataW.trod enc Try.prog W 0 spare true q 3 [u1] = some y1 := f1
          have f2 : DataW.trod enc Try.prog W 0 spare true q 3 [u2] = some y2 := f2
          have f3 : DataW.trod enc Try.prog W 0 spare true q 9 [u3] = some y3 := f3
          obtain ⟨n0, e0, _, _⟩ := DataW.trod_int Try.underlying3 f0
          obtain ⟨n1, e1, _, _⟩ := DataW.trod_int Try.underlying3 f1
          obtain ⟨n2, e2, _, w2⟩ := DataW.trod_int Try.underlying3 f2
          obtain ⟨s, e3, x3, _⟩ := DataW.trod_string Try.underlying9 f3
          simp only [List.cons.injEq, and_true] at e0 e1 e2 e3
          subst e0 e1 e2 e3
          refine ⟨(n0, n1, n2, s.data.toList), ?_, ?_, ?_, ?_, ?_, ?_⟩
          · have := hcell 0 (by omega)
            rw [show (a.add (i * 4)).add 0 = a.add (i * 4) by simp [Addr.add]] at this
            exact this
          · exact hcell 1 (by omega)
          · exact hcell 2 (by omega)
          · exact hcell 3 (by omega)
          · simp only [Lit.wf, Bool.and_eq_true, decide_eq_true_eq] at w2
            have h1 : IntKind.i64.min ≤ n2 := w2.1
            have h2 : n2 ≤ IntKind.i64.max := w2.2
            rw [show IntKind.i64.min = -9223372036854775808 from rfl] at h1
            rw [show IntKind.i64.max = 9223372036854775807 from rfl] at h2
            exact ⟨h1, h2⟩
          · have hd : D i = .agg [y0.1, y1.1, y2.1, y3.1] := by
              have := congrArg Prod.fst hD
              simpa using this
            rw [hd, DataW.weights, Try.underlying43]
            refine DataW.weights_mem_each (j := 3) (t := 9) (d := y3.1) rfl rfl _ ?_
            rw [x3]
            simp [DataW.weights]
    obtain ⟨Y, hY⟩ := Deep.choose_lt each
    refine ⟨fun i => (Y i).1, fun i => (Y i).2.1, fun i => (Y i).2.2.1, fun i => (Y i).2.2.2, fun h0 => ?_, fun i hi => (hY i hi).2.2.2.2.1, fun i hi => ?_, fun h0 => ?_⟩
    · obtain ⟨b, off, spot⟩ := a
      have hc := (hY 0 h0).1
      have hspot : spot = none := by simpa [Addr.add] using World.cell?_spot hc
      subst hspot
      have hadd : ∀ o k, (⟨b, o, none⟩ : Addr).add k = ⟨b, o + k, none⟩ := fun o k => by unfold Addr.add; split <;> simp_all
      refine ⟨b, off, rfl, fun i hi => ?_⟩
      obtain ⟨h0, h1, h2, h3, _, _⟩ := hY i hi
      rw [hadd] at h0 h1 h2 h3
      rw [hadd] at h1 h2 h3
      exact ⟨h0, h1, h2, h3⟩
    · rw [DataW.weights, Try.underlying35]
      refine List.mem_cons_of_mem _ (List.mem_append_left _ (weights_all (d := D i) ?_ (hY i hi).2.2.2.2.2))
      exact List.mem_map.2 ⟨i, List.mem_range.2 hi, rfl⟩
    · refine ⟨m - sn, ?_⟩
      rw [DataW.weights, Try.underlying35]
      have : (sn + (m - sn)) * 40 = (((List.range sn).map D).length + ((List.range (m - sn)).map fun j => D (sn + j)).length) * Try.prog.bytesOf 43 := by rw [bytes43]; simp
      rw [this]
      exact List.mem_cons_self

/-- WHAT THE WALK IS TOLD OF A SLICE OF INTEGERS THAT CAME IN. -/
theorem row_ints {W : World} {x : Addr} {len cap : Nat} {zs : List Int} (hl : len ≤ cap) (hz : zs.length = cap) (hcell : ∀ i, i < zs.length → W.cell? (x.add i) = some (.int .i64 (zs.getD i 0))) : IntsIn W (some x) len (fun k => zs.getD k 0) := by
  intro h0
  obtain ⟨b, off, spot⟩ := x
  have hc := hcell 0 (by omega)
  have hspot : spot = none := by simpa [Addr.add] using World.cell?_spot hc
  subst hspot
  refine ⟨b, off, rfl, fun k hk => ?_⟩
  have h1 := hcell k (by omega)
  have hplain : (⟨b, off, none⟩ : Addr).add k = ⟨b, off + k, none⟩ := by unfold Addr.add; split <;> simp_all
  rw [hplain] at h1
  exact h1

/-! ### THE ROW's STEP -/
set_option maxRecDepth 100000 in
theorem lifted (os : Os) (started : os.Started) (H : Type) (enc : TypeId × Value → H) :
    ReturnsInHanded {} Try.checked os 6 .any (Rows.chipsSpec.pre6 enc Try.prog Try.f6 Rows.chipsRow.domain false) (Rows.chipsSpec.post enc Try.prog Try.f6 false true false false) := by
  refine returnsInHanded_of_change_sized (C := Try.checked) own started (by kernel_rfl) Try.func6
    (ChangeSpec.witness6 (enc := enc) (C := Try.checked) false ⟨#[], #[.int .i64 0, .int .i64 0, .slice none 0 0, .slice none 0 0], []⟩ 8 (by kernel_rfl) (by kernel_rfl) (by kernel_rfl) (by kernel_rfl)) ?_
  intro W base args ds gs before hval0 hW hcnd hsz0 _
  have hval : ∀ (j : Nat) t v, Try.f6.params[j]? = some t → args[j]? = some v → Value.okWide Try.prog W .any base t v := hval0
  have hW' := hW
  obtain ⟨p, q, hA0, hV, rfl, hfz, hnd⟩ := hW
  have hA : DataW.TrodAll enc Try.prog W 0 (fun _ => true) true Try.f6.params.toList args.toList ds p := hA0
  have hsz : (DataW.weightsEach Try.prog (Try.f6.params.toList ++ Rows.chipsSpec.plain.varTypes Try.prog) (ds ++ gs)).all (· ≤ reachBytes) = true := hsz0
  rw [Try.params6] at hA hval hsz
  obtain ⟨v0, vs0, d0, ds0, p0, q0, hargs, rfl, rfl, h0, r0⟩ := trodAll_cons hA
  obtain ⟨v1, vs1, d1, ds1, p1, q1, hargs1, rfl, rfl, h1, r1⟩ := trodAll_cons r0
  obtain ⟨v2, vs2, d2, ds2, p2, q2, hargs2, rfl, rfl, h2, r2⟩ := trodAll_cons r1
  obtain ⟨v3, vs3, d3, ds3, p3, q3, hargs3, rfl, rfl, h3, r3⟩ := trodAll_cons r2
  obtain ⟨rfl, rfl, rfl⟩ := trodAll_nil r3
  subst hargs1 hargs2 hargs3
  obtain rfl : args = #[v0, v1, v2, v3] := by cases args; simp_all
  obtain ⟨rfl, rfl⟩ := trodVars_none hV
  obtain ⟨a2, len2, cap2, rfl⟩ := okWide_slice Try.underlying22 (hval 2 22 v2 rfl rfl)
  obtain ⟨a3, len3, cap3, rfl⟩ := okWide_slice Try.underlying35 (hval 3 35 v3 rfl rfl)
  have k0 := h0
  have k1 := h1
  have k2 := h2
  have k3 := h3
  have lt0 : ∀ x ∈ p0, x.block < W.heap.size := by obtain ⟨m, hm⟩ := k0; exact DataW.trod_lt m _ _ _ hm
  have lt1 : ∀ x ∈ p1, x.block < W.heap.size := by obtain ⟨m, hm⟩ := k1; exact DataW.trod_lt m _ _ _ hm
  have lt2 : ∀ x ∈ p2, x.block < W.heap.size := by obtain ⟨m, hm⟩ := k2; exact DataW.trod_lt m _ _ _ hm
  have lt3 : ∀ x ∈ p3, x.block < W.heap.size := by obtain ⟨m, hm⟩ := k3; exact DataW.trod_lt m _ _ _ hm
  obtain ⟨n0, rfl, _, _, _⟩ := open_int Try.underlying3 (hval 0 3 v0 rfl rfl) h0
  obtain ⟨n1, rfl, _, _, _⟩ := open_int Try.underlying3 (hval 1 3 v1 rfl rfl) h1
  obtain ⟨z2, w2, hlen2⟩ : ∃ z : Nat → Int, IntsIn W a2 len2 z ∧ len2 ≤ 17592186043904 := by
    obtain ⟨fuel, hf⟩ := h2
    rcases open_ints Try.underlying22 Try.underlying3 (by kernel_rfl) hf with ⟨hcs, _⟩ | ⟨x, l, c, zs, hcs, _, hl, hm, hz, hx, hcell, hwz⟩
    · simp [Value.cells] at hcs
      obtain ⟨rfl, rfl, rfl⟩ := hcs
      exact ⟨fun _ => 0, fun h => absurd h (by omega), by omega⟩
    · simp [Value.cells] at hcs
      obtain ⟨rfl, rfl, rfl⟩ := hcs
      have hz' : zs.length = cap2 := by simpa using hz
      refine ⟨_, row_ints hl hz' hcell, ?_⟩
      simp only [Prod.mk.injEq] at hx
      obtain ⟨hd, _⟩ := hx
      subst hd
      have hr := sized_slice hsz (j := 2) (t := 22) (e := 3) rfl rfl Try.underlying22
      rw [bytes3] at hr
      simp only [lits, List.length_map, List.length_take, List.length_drop, reachBytes] at hr
      omega
  obtain ⟨K, A, C, D, hst, hC, hD, hlen3⟩ : ∃ K A C D, StepsIn W a3 len3 K A C D ∧ (∀ i, i < len3 → -9223372036854775808 ≤ C i ∧ C i ≤ 9223372036854775807) ∧ (∀ i, i < len3 → (D i).length ≤ 140737488351232) ∧ len3 ≤ 4398046511104 := by
    obtain ⟨fuel, hf⟩ := h3
    obtain ⟨K, A, C, D, h1, h2, h3, h4⟩ := open_steps (by simpa [Value.cells] using hf)
    have hw : ∀ n, n ∈ d3.weights Try.prog 35 → n ≤ reachBytes := fun n hn => by
      have := List.all_eq_true.1 hsz n (DataW.weights_mem_each (j := 3) (t := 35) (d := d3) rfl rfl n hn)
      simpa using this
    refine ⟨K, A, C, D, h1, h2, fun i hi => ?_, ?_⟩
    · have := hw _ (h3 i hi)
      unfold reachBytes at this
      omega
    · rcases Nat.eq_zero_or_pos len3 with h | h
      · omega
      · obtain ⟨r, hr⟩ := h4 h
        have := hw _ hr
        unfold reachBytes at this
        omega
  clear hA0 hval0
  refine (chips_walk n0 n1 a2 len2 cap2 z2 a3 len3 cap3 K A C D W hlen2 w2 hlen3 hst hC hD).mono fun e W' ⟨he, bel⟩ => ?_
  subst he
  exact ⟨_, rfl, _, _, _, [], _, [], hW', trodAll_mk1 (shut_bool Try.underlying4 _), (trodAll_cons_mk (Below.trod laidOut (by kernel_rfl) (of_decide_eq_true (by kernel_rfl)) k0 bel lt0) (trodAll_cons_mk (Below.trod laidOut (by kernel_rfl) (of_decide_eq_true (by kernel_rfl)) k1 bel lt1) (trodAll_cons_mk (Below.trod laidOut (by kernel_rfl) (of_decide_eq_true (by kernel_rfl)) k2 bel lt2) (trodAll_cons_mk (Below.trod laidOut (by kernel_rfl) (of_decide_eq_true (by kernel_rfl)) k3 bel lt3) trodAll_mk0)))), rfl, bel.frame _, fun h => by cases h⟩

theorem over : Rows.chipsRow.holds Try.pinned (OpenSpec.ofChange Rows.chipsSpec) :=
  OpenClaim.holds_of_wide 6 Try.f6 rfl rfl rfl rfl rfl rfl rfl ⟨rfl, rfl, rfl, rfl, rfl⟩ rfl rfl rfl rfl rfl (by kernel_rfl) Try.func6 (by kernel_rfl)
    (of_decide_eq_true (by kernel_rfl)) (by unfold Func.isWrapper; first | (rw [if_pos (by decide +kernel)]; kernel_rfl) | (rw [if_neg (by decide +kernel)]; exact ⟨rfl, rfl⟩))
    (fun os started H enc _ => lifted os started H enc)

/-- The statement. -/
theorem proved : Rows.ChipsSaid := over
end Go.Proofs.Ytodmdkhdbfbfgaa.chips
namespace Go.Proofs.Ytodmdkhdbfbfgaa
/-- The statement, under the seat's own name. -/
theorem chips_holds : Rows.ChipsSaid := chips.proved
end Go.Proofs.Ytodmdkhdbfbfgaa
