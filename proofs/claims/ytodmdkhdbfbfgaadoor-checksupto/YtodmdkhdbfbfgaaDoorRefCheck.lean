/- What Check of the document's own answer returns: the tree in its order, or that the items are none. -/
import Derived.Test.YtodmdkhdbfbfgaaDoorRefChk
namespace Go.Proofs.YtodmdkhdbfbfgaaDoor
open Go.RowKit Go.Nt
set_option linter.unusedVariables false

theorem own_mono {w : World} {base base' : Nat} {e : TypeId} {size : Nat} {v : Value} {n : Nat} {xs : List Value} (h : w.ownsRow base e size v n xs) (hb : base' ≤ base) : w.ownsRow base' e size v n xs := by
  refine ⟨h.1, ?_⟩
  rcases h.2 with h0 | ⟨g, cap, cur, rfl, h1, h2, h3⟩
  · exact .inl h0
  · exact .inr ⟨g, cap, cur, rfl, Nat.le_trans hb h1, h2, h3⟩

theorem own_below {w w' : World} {B N : Nat} {e : TypeId} {size : Nat} {v : Value} {n : Nat} {xs : List Value} (h : w.ownsRow B e size v n xs) (hb : Below N w w') (hlt : ∀ q, v.ownBlock = some q → q < N) : w'.ownsRow B e size v n xs := by
  refine ⟨h.1, ?_⟩
  rcases h.2 with h0 | ⟨g, cap, cur, rfl, h1, h2, h3⟩
  · exact .inl h0
  · exact .inr ⟨g, cap, cur, rfl, h1, (hb.block g (hlt g rfl)).trans h2, h3⟩

set_option maxRecDepth 100000 in
set_option maxHeartbeats 2000000 in
theorem refCheck_any (a : Option Addr) (c : Nat) (l : List It) (w : World) (hl : ItsIn w a l) (hn : l.length ≤ 1048576) (hp : ∀ x ∈ l, x.path.length ≤ 1048576) :
    Calls Tryd.prog 7 #[.slice a l.length c] w fun e w' => Below w.heap.size w w' ∧
      ((isTree l = false ∧ e = .returned (.tuple #[.slice none 0 0, .int .i64 3])) ∨ (isTree l = true ∧ ∃ v, e = .returned (.tuple #[v, .int .i64 0]) ∧ w'.ownsRow w.heap.size 24 5 v l.length (its (inOrder l)))) := by
  have Hl := hidI hl
  have Hp := hidI hp
  clear hl hp
  by_cases h60 : l.length ≤ 60
  · go_enter Tryd.func7, Tryd.ntmps7
    go_wp2
    go_loopw [4, 5] (fun v i wr => ∃ (k : Nat) (a' : Option Addr) (c' : Nat), v = .slice a' k c' ∧ k ≤ l.length ∧ i = .int .i64 k ∧ Hid (wr.ownsRow w.heap.size 24 5 v k (its (insAll (l.take k)))) ∧ Hid (ChkAt l k) ∧ Hid (Below w.heap.size w wr)) (fun _ i _ => l.length - (intOf i).toNat)
    case atStart => exact ⟨0, none, 0, rfl, Nat.zero_le _, rfl, hidI (World.ownsRow_nil _ _ _ _), hidI ⟨by simp, by simp, by simp⟩, hidI (Below.refl _ _)⟩
    case round =>
      obtain ⟨k, a', c', rfl, hk, rfl, Hown, Hchk, Hbel⟩ := hrel
      by_cases hlt : k < l.length
      · have hlt' : decide ((k : Int) < (l.length : Int)) = true := by simpa using hlt
        obtain ⟨x, hx⟩ : ∃ x, l[k]? = some x := ⟨_, List.getElem?_eq_getElem hlt⟩
        obtain ⟨b, off, rfl, hc⟩ := (Hl.out.below Hbel.out) (fun h => by rw [h] at hlt; simp at hlt)
        obtain ⟨x0, x1, x2, x3, x4⟩ := hc k x hx
        have hxp := Hp.out x (List.mem_of_getElem? hx)
        have Hx := hidI hx
        have Hc := hidI hc
        have Hnm := hidI (fun W => names_any x.path W hxp)
        clear hx hc
        go_wp2_with fail
        refine (Hnm.out _).mono ?_
        rintro e W ⟨hbN, vn, rfl, _⟩
        have hbN' : Below (wr.heap.size + 1) (boxed wr x) W := by have h := hbN; simp at h; exact h
        have hszb := Hbel.out.size
        have hszW := hbN'.size
        have HbW : Hid (Below w.heap.size w W) := (Hbel.out.alloc hszb _).trans (hbN'.mono (by omega))
        have hxW : ItAt W wr.heap.size 0 x := (boxed_at wr x).below hbN' (by omega)
        have HcW : Hid (ItsIn W (some ⟨b, off, none⟩) l) := Hl.out.below HbW.out
        have HoW : Hid (W.ownsRow w.heap.size 24 5 (.slice a' k c') k (its (insAll (l.take k)))) := by
          have h1 := Hown.out.alloc (.cells #[.string (txt x.path), .bool x.dir, .string (txt x.data), .int .i64 x.mode, .int .i64 x.time] 24)
          exact own_below h1 hbN' (fun q hq => by have := (h1.lt q hq).2; simp at this; exact this)
        have Hk : Hid ((insAll (l.take k)).length = k) := by
          show (insAll (l.take k)).length = k
          rw [insAll_length, List.length_take]; omega
        have Hpar := hidI (parent_any x.path W hxp)
        have HF1 := hidI (find_any (some ⟨b, off, none⟩) c l (par x.path) W HcW.out hn)
        have HF2 : Hid (Calls Tryd.prog 15 #[.slice a' k c', .string (txt x.path)] W fun e w' => e = .returned (.int .i64 (fidx (insAll (l.take k)) x.path)) ∧ w' = W) := by
          have ho : W.ownsRow w.heap.size 24 5 (.slice a' k c') (insAll (l.take k)).length (its (insAll (l.take k))) := by rw [Hk.out]; exact HoW.out
          obtain ⟨a2, c2, e2, h2⟩ := own_in ho
          rw [Hk.out] at e2
          cases e2
          have := find_any a' c' (insAll (l.take k)) x.path W h2 (by rw [Hk.out]; omega)
          rw [Hk.out] at this
          exact this
        obtain ⟨y0, y1, y2, y3, y4⟩ := hxW
        rw [Nat.zero_add] at y1 y2 y3 y4
        have hbN9 : True := trivial
        clear hbN hbN' x0 x1 x2 x3 x4 hszb Hnm Hown Hbel
        obtain ⟨okp, hokp⟩ : ∃ o, o = okPath x.path := ⟨_, rfl⟩
        rw [← hokp]
        have Hokp := hidI hokp
        obtain ⟨up, hup⟩ : ∃ o, o = txt (par x.path) := ⟨_, rfl⟩
        rw [← hup] at Hpar HF1
        have Hup := hidI hup
        obtain ⟨f1, hf1⟩ : ∃ o, o = fidx l (par x.path) := ⟨_, rfl⟩
        rw [← hf1] at HF1
        have Hf1 := hidI hf1
        obtain ⟨f2, hf2⟩ : ∃ o, o = fidx (insAll (l.take k)) x.path := ⟨_, rfl⟩
        rw [← hf2] at HF2
        have Hf2 := hidI hf2
        obtain ⟨D, hD⟩ : ∃ o, o = txt x.data := ⟨_, rfl⟩
        rw [← hD] at y2
        have HD := hidI hD
        obtain ⟨xd, hxd⟩ : ∃ o, o = x.dir := ⟨_, rfl⟩
        rw [← hxd] at y1
        have Hxd := hidI hxd
        clear hokp hup hf1 hf2 hD hxd
        go_wp2_with fail
        refine Hpar.out.mono ?_
        rintro e w' ⟨rfl, hw⟩
        have hw' := hw.symm
        subst hw'
        go_wp2_with fail
        refine HF1.out.mono ?_
        rintro e w' ⟨rfl, hw⟩
        have hw' := hw.symm
        subst hw'
        go_wp2_with fail
        refine HF2.out.mono ?_
        rintro e w' ⟨rfl, hw⟩
        have hw' := hw.symm
        subst hw'
        clear Hpar HF1 HF2
        have HcD : Hid (∀ (j : Nat) y, l[j]? = some y → W.cell? ⟨b, off + j * 5 + 1, none⟩ = some (.bool y.dir)) := fun j y hy => by
          obtain ⟨b', off', e', hcc⟩ := HcW.out (fun h => by rw [h] at hlt; simp at hlt)
          cases e'
          exact (hcc j y hy).2.1
        have HA : Hid (Calls Tryd.prog 16 #[.slice a' k c', .agg #[.string (txt x.path), .bool xd, .string D, .int .i64 x.mode, .int .i64 x.time]] W fun e w' => Below W.heap.size W w' ∧ ∃ v', e = .returned v' ∧ w'.ownsRow W.heap.size 24 5 v' (k + 1) (its (ins (insAll (l.take k)) x))) := by
          have ho : W.ownsRow w.heap.size 24 5 (.slice a' k c') (insAll (l.take k)).length (its (insAll (l.take k))) := by rw [Hk.out]; exact HoW.out
          have := add_any _ _ x _ W ho (by rw [Hk.out]; omega) hxp (fun y hy => Hp.out y (List.mem_of_mem_take ((insAll_mem _ _).1 hy)))
          rw [Hk.out] at this
          unfold itv at this
          rw [← HD.out, ← Hxd.out] at this
          exact this
        have hszk : w.heap.size ≤ W.heap.size := HbW.out.size
        cases okp with
        | false =>
          have HR : Hid (isTree l = false) := tree_item (List.mem_of_getElem? Hx.out) (by unfold okItem; rw [← Hokp.out]; simp)
          clear HA HcD
          go_wp2
          go_ret2
          exact ⟨HbW.out, .inl ⟨HR.out, rfl⟩⟩
        | true =>
          rcases fidx_cases (insAll (l.take k)) x.path with ⟨hf, hno⟩ | ⟨j, z, hf, hz, hzp, _⟩
          · have hf2 : f2 = -1 := Hf2.out.trans hf
            subst hf2
            have Hno : Hid (∀ y ∈ l.take k, y.path ≠ x.path) := fun y hy => hno y ((insAll_mem _ _).2 hy)
            clear hf hno
            rcases item_cases x D HD.out xd Hxd.out Hokp.out.symm with ⟨hbad, hh⟩ | ⟨hgood, g1, g2, g3, g4, g5, g6⟩
            · have HR : Hid (isTree l = false) := tree_item (List.mem_of_getElem? Hx.out) hbad
              clear HA HcD hbad
              rcases hh with h1 | ⟨h1, ⟨h2, h3⟩ | ⟨h2 | ⟨h2, h3⟩, h4 | ⟨h4, h5 | ⟨h5, h6 | ⟨h6, h7⟩⟩⟩⟩⟩
              all_goals (try subst h2)
              all_goals
                go_wp2
                go_ret2
                exact ⟨HbW.out, .inl ⟨HR.out, rfl⟩⟩
            · have Hgood := hidI hgood
              clear hgood
              by_cases hpe : par x.path = []
              · have hu : up.toList.isEmpty = true := by rw [Hup.out, txt_toList, hpe]; rfl
                have Hch : Hid (ChkAt l (k + 1)) := Hchk.out.next Hx.out Hgood.out Hno.out (.inl hpe)
                clear hpe HcD
                rcases g2 with g2 | ⟨g2, g7⟩ <;> subst g2
                all_goals
                  go_wp2_with fail
                  refine HA.out.mono ?_
                  rintro e W2 ⟨hbA, v', rfl, ho⟩
                  obtain ⟨g', cap', rfl⟩ := row_succ ho
                  have HbW2 : Hid (Below w.heap.size w W2) := HbW.out.trans (hbA.mono hszk)
                  have Ho2 : Hid (W2.ownsRow w.heap.size 24 5 (.slice (some ⟨g', 0, none⟩) (k + 1) cap') (k + 1) (its (insAll (l.take (k + 1))))) := by
                    have e : l.take (k + 1) = l.take k ++ [x] := by rw [List.take_add_one, Hx.out]; rfl
                    rw [e, insAll_snoc]
                    exact own_mono ho hszk
                  clear hbA ho HA y0 y1 y2 y3 y4
                  go_wp2
                  go_roundw
                  case rel => exact ⟨k + 1, some ⟨g', 0, none⟩, cap', rfl, by omega, by go_num, Ho2, Hch, HbW2⟩
                  case measure => simp [intOf]; omega
              · have hu : up.toList.isEmpty = false := by rw [Hup.out, txt_toList]; simpa using hpe
                rcases fidx_cases l (par x.path) with ⟨hf, hno⟩ | ⟨j, z, hf, hz, hzp, _⟩
                · have hf1 : f1 = -1 := Hf1.out.trans hf
                  subst hf1
                  have HR : Hid (isTree l = false) := tree_par (List.mem_of_getElem? Hx.out) hpe (by
                    cases h : dirAt l (par x.path) with
                    | false => rfl
                    | true =>
                      unfold dirAt at h
                      obtain ⟨y, hy, hyp⟩ := List.any_eq_true.1 h
                      simp at hyp
                      exact absurd hyp.1 (hno y hy))
                  clear HA HcD hpe hno hf
                  rcases g2 with g2 | ⟨g2, g7⟩ <;> subst g2
                  all_goals
                    go_wp2
                    go_ret2
                    exact ⟨HbW.out, .inl ⟨HR.out, rfl⟩⟩
                · have hf1 : f1 = (j : Nat) := Hf1.out.trans hf
                  subst hf1
                  have hj : j < l.length := (List.getElem?_eq_some_iff.1 hz).1
                  have hcz := HcD.out j z hz
                  have Hz := hidI hz
                  have Hzp := hidI hzp
                  have Hpe := hidI hpe
                  clear hf hz hzp hpe HcD
                  obtain ⟨zd, hzd⟩ : ∃ o, o = z.dir := ⟨_, rfl⟩
                  rw [← hzd] at hcz
                  have Hzd := hidI hzd
                  clear hzd
                  cases zd with
                  | false =>
                    have HR : Hid (isTree l = false) := by
                      by_cases hnd : (l.map (·.path)).Nodup
                      · exact tree_par (List.mem_of_getElem? Hx.out) Hpe.out ((dirAt_find Hz.out Hzp.out hnd).trans Hzd.out.symm)
                      · exact tree_twice hnd
                    clear HA
                    rcases g2 with g2 | ⟨g2, g7⟩ <;> subst g2
                    all_goals
                      go_wp2
                      go_ret2
                      exact ⟨HbW.out, .inl ⟨HR.out, rfl⟩⟩
                  | true =>
                    have Hch : Hid (ChkAt l (k + 1)) := Hchk.out.next Hx.out Hgood.out Hno.out (.inr (by
                      unfold dirAt
                      rw [List.any_eq_true]
                      exact ⟨z, List.mem_of_getElem? Hz.out, by simp [Hzp.out, Hzd.out.symm]⟩))
                    rcases g2 with g2 | ⟨g2, g7⟩ <;> subst g2
                    all_goals
                      go_wp2_with fail
                      refine HA.out.mono ?_
                      rintro e W2 ⟨hbA, v', rfl, ho⟩
                      obtain ⟨g', cap', rfl⟩ := row_succ ho
                      have HbW2 : Hid (Below w.heap.size w W2) := HbW.out.trans (hbA.mono hszk)
                      have Ho2 : Hid (W2.ownsRow w.heap.size 24 5 (.slice (some ⟨g', 0, none⟩) (k + 1) cap') (k + 1) (its (insAll (l.take (k + 1))))) := by
                        have e : l.take (k + 1) = l.take k ++ [x] := by rw [List.take_add_one, Hx.out]; rfl
                        rw [e, insAll_snoc]
                        exact own_mono ho hszk
                      clear hbA ho HA y0 y1 y2 y3 y4 hcz
                      go_wp2
                      go_roundw
                      case rel => exact ⟨k + 1, some ⟨g', 0, none⟩, cap', rfl, by omega, by go_num, Ho2, Hch, HbW2⟩
                      case measure => simp [intOf]; omega
          · have hf2 : f2 = (j : Nat) := Hf2.out.trans hf
            subst hf2
            have HR : Hid (isTree l = false) := by
              have hm := (insAll_mem _ _).1 (List.mem_of_getElem? hz)
              obtain ⟨j', hj', hje⟩ := List.getElem_of_mem hm
              have hj2 : j' < k := by rw [List.length_take] at hj'; omega
              rw [List.getElem_take] at hje
              exact tree_twice (twice_at Hx.out (List.getElem?_eq_getElem (by omega)) hj2 (by rw [hje]; exact hzp))
            clear HA HcD hf hz hzp
            go_wp2
            go_ret2
            exact ⟨HbW.out, .inl ⟨HR.out, rfl⟩⟩
      · have hke : k = l.length := by omega
        have Hlast : Hid (isTree l = true) := by have h := Hchk.out; rw [hke] at h; exact h.all h60
        have Hfin : Hid (wr.ownsRow w.heap.size 24 5 (.slice a' k c') l.length (its (inOrder l))) := by
          have h := Hown.out
          have hnd : (l.map (·.path)).Nodup := by have h2 := Hchk.out.nd; rw [hke, List.take_length] at h2; exact h2
          rw [← insAll_order l hnd]
          rw [hke] at h ⊢
          rw [List.take_length] at h
          exact h
        clear hke Hown
        go_wp2
        go_ret2
        exact ⟨Hbel.out, .inr ⟨Hlast.out, _, rfl, Hfin.out⟩⟩
  · have HR : Hid (isTree l = false) := tree_long (by omega)
    go_enter Tryd.func7, Tryd.ntmps7
    go_wp2
    go_ret2
    exact ⟨Below.refl _ _, .inl ⟨HR.out, rfl⟩⟩
end Go.Proofs.YtodmdkhdbfbfgaaDoor
