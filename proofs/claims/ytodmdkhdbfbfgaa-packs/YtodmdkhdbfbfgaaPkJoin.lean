/- What join of package pack does. -/
import Derived.Test.YtodmdkhdbfbfgaaPkJoinPre
namespace Go.Proofs.Ytodmdkhdbfbfgaa
open Go.RowKit Pk
set_option linter.unusedVariables false
set_option linter.unusedSimpArgs false

theorem own_mono {w : World} {B C n : Nat} {e : TypeId} {size : Nat} {v : Value} {xs : List Value} (h : w.ownsRow B e size v n xs) (hC : C ≤ B) : w.ownsRow C e size v n xs := by
  refine ⟨h.1, ?_⟩
  rcases h.2 with h1 | ⟨g, cap, cur, h1, h2, h3⟩
  · exact .inl h1
  · exact .inr ⟨g, cap, cur, h1, Nat.le_trans hC h2, h3⟩

set_option maxRecDepth 100000 in
set_option maxHeartbeats 8000000 in
theorem join_any (w : World) (wb c : Nat) (wv : Nat → Nat) (W : Nat) (hW : W = sumW wv 288) (hW2 : W ≤ 1000000) (hne : 0 < W) (hz : ∀ i, i < 288 → w.cell? ⟨wb, i, none⟩ = some (.int .i64 (wv i : Nat))) :
    Calls Try.prog 85 #[.slice (some ⟨wb, 0, none⟩) 288 c] w fun e w' => ∃ ln : Nat → Nat, e = .returned (.slice (some ⟨w.heap.size, 0, none⟩) 288 288) ∧ w'.rowIs w.heap.size 3 288 (fun j => .int .i64 (ln j : Nat)) ∧ Below w.heap.size w w' ∧ (∀ i, i < 288 → (0 < ln i ↔ 0 < wv i)) ∧ (∀ i, 288 ≤ i → ln i = 0) ∧ (∀ i, ln i ≤ 1 ∨ (Fb (ln i) ≤ W ∧ ln i + 1 ≤ (symsTo wv 288).length)) ∧ sumL (fun i => 2 ^ (288 - ln i)) (symsTo wv 288) ≤ 2 ^ 288 := by
  have hwb : wb < w.heap.size := World.block_lt_of_cell? w _ (hz 0 (by omega))
  obtain ⟨M, hM⟩ : ∃ M, M = madeCells #[Value.int .i64 0] 288 := ⟨_, rfl⟩
  have hmk : ∀ W : World, (Instr.makeSlice 22 (.int .i64 288) (.int .i64 288)).run Try.prog W = .ok (.slice (some ⟨W.heap.size, 0, none⟩) 288 288) (W.alloc (.cells M 3)) := fun W => by
    rw [hM]
    exact run_make_row' (P := Try.prog) 22 3 (.int .i64 0) 8 Try.underlying22 Try.info3 rfl .i64 .i64 288 (by omega) (by omega) W
  have hrow0 : (w.alloc (.cells M 3)).rowIs w.heap.size 3 288 (fun j => .int .i64 ((fun _ => 0 : Nat → Nat) j : Nat)) := by rw [hM]; exact World.rowIs_made w (.int .i64 0) 288 3
  clear hM
  have Hq0 : Hid (QM ((w.alloc (.cells M 3)).alloc (.cells #[.slice none 0 0, .int .i64 0] 120)) (w.heap.size + 1) (w.heap.size + 1) [] 0) := QM.make (v := .slice none 0 0) (n := 0) (Nat.le_refl _) (by
    have := heap_alloc_new (w.alloc (.cells M 3)) (.cells #[.slice none 0 0, .int .i64 0] 120)
    simp only [World.size_alloc] at this
    exact this) rfl (World.ownsRow_nil _ _ _ _)
  have Hl0 := hidI (hrow0.alloc (.cells #[.slice none 0 0, .int .i64 0] 120))
  have Hb0 : Hid (Below w.heap.size w ((w.alloc (.cells M 3)).alloc (.cells #[.slice none 0 0, .int .i64 0] 120))) := ((Below.refl _ w).alloc (Nat.le_refl _) _).alloc (by simp) _
  have Hs0 : Hid (((w.alloc (.cells M 3)).alloc (.cells #[.slice none 0 0, .int .i64 0] 120)).heap.size = w.heap.size + 2) := by
    show _ = _
    simp
  have Hz := hidI hz
  have HW := hidI hW
  clear hrow0 hz hW
  go_enter Try.func85, Try.ntmps85
  go_wp2
  clear hmk
  generalize ((w.alloc (.cells M 3)).alloc (.cells #[.slice none 0 0, .int .i64 0] 120)) = W0 at *
  have Hwz : Hid (∀ V, Below (w.heap.size + 1) W0 V → ∀ i, i < 288 → V.cell? ⟨wb, i, none⟩ = some (.int .i64 (wv i : Nat))) := fun V hV i hi => by
    rw [hV.cell (p := ⟨wb, i, none⟩) (by simp; omega), Hb0.out.cell (p := ⟨wb, i, none⟩) (by simp; omega)]
    exact Hz.out i hi
  have hB0 : w.heap.size + 1 ≤ W0.heap.size := by have := Hs0.out; omega
  go_loopw [21] (fun i wr => ∃ k pu : Nat, ∃ es G, i = .int .i64 (k : Nat) ∧ k ≤ 288 ∧ pu ≤ k ∧ es.length ≤ k ∧ Hid (JS 288 wr (w.heap.size + 1) (w.heap.size + 1) es pu G (fun _ => 0) (fun _ => 0) (symsTo wv k) (sumW wv k)) ∧ Hid (Fr (w.heap.size + 1) W0 wr)) (fun i _ => 288 - (intOf i).toNat)
  case atStart => exact ⟨0, 0, [], fun _ => [], rfl, by omega, by omega, by simp, ⟨Hq0.out, by intro i h1 h2; simp at h2, by intro e he; simp at he, JI.start _ _⟩, Fr.refl _ _⟩
  case round =>
    clear Hq0
    obtain ⟨k, pu, es, G, rfl, hk, hpu, hes, Hj, Hf⟩ := hrel
    by_cases hlt : k < 288
    · have x0 := Hwz.out _ Hf.out.bel k hlt
      have hBr := Hf.out.size hB0
      by_cases h0 : wv k = 0
      · have Hj2 : Hid (JS 288 wr (w.heap.size + 1) (w.heap.size + 1) es pu G (fun _ => 0) (fun _ => 0) (symsTo wv (k + 1)) (sumW wv (k + 1))) := by
          have h := Hj.out
          rw [symsTo_no wv k h0, sumW, h0]
          exact h
        rw [h0] at x0
        clear Hj h0
        go_wp2
        go_roundw
        case rel => exact ⟨k + 1, pu, es, G, by go_num, by omega, by omega, by omega, Hj2, Hf⟩
        case measure => simp [intOf]; omega
      · obtain ⟨y, hy⟩ : ∃ y, y = wv k := ⟨_, rfl⟩
        have Hy := hidI hy
        rw [← hy] at x0 h0
        have hy0 : (0 : Int) < (y : Int) := by omega
        clear hy
        have hqn := Hj.out.q.of (w' := wr.alloc (.cells #[.int .i64 (k : Nat)] 3)) (fun j hj => Below.heap_alloc _ _ j hj)
        have hfn := Hf.out.alloc hBr (.cells #[.int .i64 (k : Nat)] 3)
        have Hput := hidI (put_q _ (w.heap.size + 1) (w.heap.size + 1) es pu y wr.heap.size 1 1 (by simp; omega) (by omega) (by omega) Hj.out.h hqn)
        have Hgn : Hid (GM (wr.alloc (.cells #[.int .i64 (k : Nat)] 3)) (w.heap.size + 1) es G) := Hj.out.g.fr (K := 0) ((Keeps.refl 3 wr).alloc _)
        have Hon := hidI (own_one wr (w.heap.size + 1) k hBr)
        have Hfn := hidI hfn
        have Hnew : Hid (∀ e ∈ es, e.b ≠ wr.heap.size) := fun e he => Nat.ne_of_lt (Hj.out.g.lt he)
        have Hjj := hidI Hj.out.j
        clear hqn hfn Hj
        go_wp2_with fail
        refine Hput.out.mono ?_
        rintro e w2 ⟨rfl, es2, hp, hh, hq, hf⟩
        have Hj2 : Hid (JS 288 w2 (w.heap.size + 1) (w.heap.size + 1) es2 (pu + 1) (fun b => if b = wr.heap.size then [k] else G b) (fun _ => 0) (fun _ => 0) (symsTo wv (k + 1)) (sumW wv (k + 1))) := by
          rw [symsTo_yes wv k (by have := Hy.out; omega), sumW, ← Hy.out]
          exact ⟨hq, hh, (GM.cons (c := ⟨y, pu, wr.heap.size, 1, 1⟩) (Hgn.out.fr (K := 0) hf.ints) (hf.ints.own Hon.out) Hnew.out).perm hp, (JI.one Hjj.out ⟨y, pu, wr.heap.size, 1, 1⟩ k (by omega) Hnew.out).perm hp⟩
        have Hf2 := hidI (Hfn.out.trans hf)
        have hl2 : es2.length ≤ k + 1 := by rw [hp.length_eq]; simp; omega
        clear Hput Hgn Hon Hfn Hnew Hjj hp hh hq hf x0
        go_wp2
        go_roundw
        case rel => exact ⟨k + 1, pu + 1, es2, _, by go_num, by omega, by omega, hl2, Hj2, Hf2⟩
        case measure => simp [intOf]; omega
    · have hk288 : k = 288 := by omega
      subst hk288
      go_wp2
      have Hl1 := hidI (rowIs_below Hl0.out Hf.out.bel (by omega))
      have Hb1 := hidI (Hb0.out.trans (Hf.out.bel.mono (by omega)))
      have hsz1 := Hf.out.size hB0
      have hpe : pu + es.length ≤ 576 := by omega
      have HN := hidI (symsTo_nodup wv 288)
      have HL := hidI (symsTo_length wv 288)
      have Hmem := hidI (mem_symsTo wv 288)
      have Hj1 : Hid (JS 288 wr (w.heap.size + 1) (w.heap.size + 1) es pu G (fun _ => 0) (fun _ => 0) (symsTo wv 288) W) := by
        rw [HW.out]; exact Hj
      clear Hf Hj Hl0 Hb0 Hwz Hz Hs0 hB0 HW hes hpu hwb
      generalize hSe : symsTo wv 288 = S at *
      generalize hlb : w.heap.size = lb at *
      have HSe := hidI hSe
      have Hlb := hidI hlb
      clear hSe hlb
      go_loopw [] (fun wr => ∃ pu : Nat, ∃ es G D ln, pu + es.length ≤ 576 ∧ lb + 1 ≤ wr.heap.size ∧ Hid (JS 288 wr (lb + 1) (lb + 1) es pu G D ln S W) ∧ Hid (wr.rowIs lb 3 288 (fun j => .int .i64 (ln j : Nat))) ∧ Hid (Below lb w wr)) (fun wr => qlen wr (lb + 1))
      case atStart => exact ⟨pu, es, G, _, _, hpe, hsz1, Hj1, Hl1, Hb1⟩
      case round =>
        clear Hj1 Hl1 Hb1 hsz1 hpe G pu es
        obtain ⟨pu, es, G, D, ln, hpe, hsz, Hj, Hl, Hb⟩ := hrel
        cases es with
        | nil => exfalso; have := Hj.out.j.sum; simp [sumL] at this; omega
        | cons e1 t =>
          have ht : t.length ≤ 575 := by simp at hpe; omega
          have Htk := hidI (take_some wr (lb + 1) (lb + 1) (e1 :: t) e1 pu t.length hsz rfl (by omega) rfl Hj.out.h Hj.out.q)
          go_wp2_with fail
          refine Htk.out.mono ?_
          rintro e w1 ⟨rfl, es1, hp1, hh1, hq1, hf1, hfar1⟩
          have hpt : List.Perm es1 t := hp1.trans (popped_perm e1 t)
          have hg1 : GM w1 (lb + 1) (e1 :: t) G := Hj.out.g.fr (K := 0) hf1.ints
          have hsz1 : lb + 1 ≤ w1.heap.size := hf1.size hsz
          obtain ⟨F1, hF1⟩ : ∃ F, F = w1.heap.size := ⟨_, rfl⟩
          have hq1n := hq1.notnew F1 (by omega)
          have hqlt := hq1.lt
          have Hl1 := hidI (rowIs_below Hl.out hf1.bel (by omega))
          have Hb1 := hidI (Hb.out.trans (hf1.bel.mono (by omega)))
          have Hpt := hidI hpt
          have Hg1 := hidI hg1
          have Hq1 := hidI hq1
          have Hh1 := hidI hh1
          have Hji := hidI Hj.out.j
          have Hhp := hidI Hj.out.h
          have Hql : Hid (qlen wr (lb + 1) = t.length + 1) := Hj.out.q.qlen
          clear Htk hp1 hh1 hq1 hf1 hfar1 hpt hg1 Hj Hl Hb
          cases es1 with
          | nil =>
            have ht0 : t = [] := List.Perm.nil_eq Hpt.out |>.symm
            subst ht0
            have hq1' : QM (w1.alloc (.cells #[.int .i64 (e1.wt : Nat), .int .i64 (e1.tn : Nat), .slice (some ⟨e1.b, 0, none⟩) e1.n e1.c] 123)) (lb + 1) (lb + 1) [] pu := Hq1.out.of fun k hk => Below.heap_alloc _ _ k hk
            have Htk := hidI (take_none _ (lb + 1) (lb + 1) pu (by simp; omega) hq1')
            have Hl2 := hidI (Hl1.out.alloc (.cells #[.int .i64 (e1.wt : Nat), .int .i64 (e1.tn : Nat), .slice (some ⟨e1.b, 0, none⟩) e1.n e1.c] 123))
            have Hg2 := hidI (Hg1.out.fr (K := 0) ((Keeps.refl 3 w1).alloc (.cells #[.int .i64 (e1.wt : Nat), .int .i64 (e1.tn : Nat), .slice (some ⟨e1.b, 0, none⟩) e1.n e1.c] 123)))
            have Hb2 := hidI (Hb1.out.alloc (by omega) (.cells #[.int .i64 (e1.wt : Nat), .int .i64 (e1.tn : Nat), .slice (some ⟨e1.b, 0, none⟩) e1.n e1.c] 123))
            have HF : Hid ((w1.alloc (.cells #[.int .i64 (e1.wt : Nat), .int .i64 (e1.tn : Nat), .slice (some ⟨e1.b, 0, none⟩) e1.n e1.c] 123)).heap[F1]? = some (.cells #[.int .i64 (e1.wt : Nat), .int .i64 (e1.tn : Nat), .slice (some ⟨e1.b, 0, none⟩) e1.n e1.c] 123 (0, 0))) := by
              rw [hF1]; exact heap_alloc_new _ _
            have HFn : Hid (∀ n cap, (w1.alloc (.cells #[.int .i64 (e1.wt : Nat), .int .i64 (e1.tn : Nat), .slice (some ⟨e1.b, 0, none⟩) e1.n e1.c] 123)).cell? ⟨lb + 1, 0, none⟩ ≠ some (.slice (some ⟨F1, 0, none⟩) n cap)) := fun n cap => by
              rw [World.cell?_of_block (Below.heap_alloc w1 _ (lb + 1) hqlt)]
              exact hq1n n cap
            have hFq : F1 ≠ lb + 1 := by omega
            have hFs : F1 < (w1.alloc (.cells #[.int .i64 (e1.wt : Nat), .int .i64 (e1.tn : Nat), .slice (some ⟨e1.b, 0, none⟩) e1.n e1.c] 123)).heap.size := by simp; omega
            have hFb : e1.b ≠ lb := by
              have := (Hg1.out e1 (by simp)).lt e1.b rfl
              omega
            have HF1 := hidI hF1
            have hlF : lb + 1 ≤ F1 := by omega
            clear hq1' hF1 Hl1 Hg1 Hb1 hq1n
            go_wp2_with fail
            rw [← HF1.out]
            generalize (w1.alloc (.cells #[.int .i64 (e1.wt : Nat), .int .i64 (e1.tn : Nat), .slice (some ⟨e1.b, 0, none⟩) e1.n e1.c] 123)) = V at *
            refine Htk.out.mono ?_
            rintro e w2 ⟨rfl, hq2, hf2, hfar2⟩
            have hF2 := (hfar2 F1 hFs hFq HFn.out).trans HF.out
            have hg2 : GM w2 (lb + 1) [e1] G := Hg2.out.fr (K := 0) hf2.ints
            have Hl3 := hidI ((rowIs_below Hl2.out hf2.bel (by omega)).alloc (.cells #[.int .i64 0, .int .i64 0, .slice none 0 0] 123))
            have Hb3 := hidI ((Hb2.out.trans (hf2.bel.mono (by omega))).alloc (by have := hf2.bel.size; omega) (.cells #[.int .i64 0, .int .i64 0, .slice none 0 0] 123))
            have Hg3 := hidI (hg2.fr (K := 0) ((Keeps.refl 3 w2).alloc (.cells #[.int .i64 0, .int .i64 0, .slice none 0 0] 123)))
            have hF3 := (Below.heap_alloc w2 (.cells #[.int .i64 0, .int .i64 0, .slice none 0 0] 123) F1 (lt_of_heap hF2)).trans hF2
            have f2 : (w2.alloc (.cells #[.int .i64 0, .int .i64 0, .slice none 0 0] 123)).cell? ⟨F1, 2, none⟩ = some (.slice (some ⟨e1.b, 0, none⟩) e1.n e1.c) := by rw [cell_of_row _ F1 2 _ 123 (0, 0) hF3]; rfl
            have hne2 : w2.heap.size ≠ F1 := Nat.ne_of_gt (lt_of_heap hF2)
            clear Htk Hl2 Hb2 Hg2 HF HFn hF2 hF3 hg2 hq2 hf2 hfar2 hFs
            go_wp2
            obtain ⟨l, hl⟩ : ∃ l, l = G e1.b := ⟨_, rfl⟩
            have HlG := hidI hl
            have hown := Hg3.out e1 (by simp)
            rw [← hl] at hown
            have hll := own_length hown
            have Hlt : Hid (∀ i ∈ l, i < 288) := fun i hi => ((Hmem.out i).1 (Hji.out.sym.mem_iff.1 (by rw [hl] at hi; simpa using hi))).1
            have Hln : Hid (∀ i, ln i ≤ 300) := fun i => by
              by_cases hi : i ∈ S
              · have h1 := Hji.out.len e1 (by simp) i (by have := Hji.out.sym.mem_iff.2 hi; simpa using this)
                have h2 := glen Hji.out (e := e1) (by simp)
                have := HL.out; omega
              · rw [Hji.out.zero i hi]; omega
            have Hown := hidI hown
            have Hll := hidI hll
            have hn300 : e1.n ≤ 300 := by
              have h2 := glen Hji.out (e := e1) (by simp)
              have := HL.out
              rw [← hl] at h2; omega
            clear hl hown hll f2 hne2 Hg3
            generalize w2.alloc (.cells #[.int .i64 0, .int .i64 0, .slice none 0 0] 123) = V0 at *
            go_loopw [46] (fun i wq => ∃ k : Nat, i = .int .i64 (k : Nat) ∧ k ≤ e1.n ∧ Hid (wq.ownsRow (lb + 1) 3 1 (.slice (some ⟨e1.b, 0, none⟩) e1.n e1.c) e1.n (intsV l)) ∧ Hid (wq.rowIs lb 3 288 (fun j => .int .i64 ((if j ∈ l.take k then max (ln j) 1 else ln j : Nat) : Int))) ∧ Hid (Below lb w wq)) (fun i _ => e1.n - (intOf i).toNat)
            case atStart => exact ⟨0, rfl, by omega, Hown, by simpa using Hl3, Hb3⟩
            case round =>
              clear Hown Hl3 Hb3
              obtain ⟨k, rfl, hk, Hown, Hlk, Hbk⟩ := hrel
              by_cases hkn : k < e1.n
              · have y0 := own_get Hown.out hkn
                have hkl : k < l.length := by have := Hll.out; omega
                have hsm : l.getD k 0 ∈ l := getD_mem l k hkl
                have hslt := Hlt.out _ hsm
                have hsl := Hln.out (l.getD k 0)
                obtain ⟨sy, hsy⟩ : ∃ sy, sy = l.getD k 0 := ⟨_, rfl⟩
                rw [← hsy] at y0 hslt hsl
                have y1 := Hlk.out.cell (i := sy) hslt
                have yf := Hlk.out.frozen sy
                obtain ⟨x, hx⟩ : ∃ x : Nat, x = if sy ∈ l.take k then max (ln sy) 1 else ln sy := ⟨_, rfl⟩
                rw [← hx] at y1
                have hx300 : x ≤ 300 := by rw [hx]; split <;> omega
                have hset := Hlk.out.set sy (.int .i64 ((max x 1 : Nat) : Int))
                have hrow2 : (wr.setCell ⟨lb, sy, none⟩ (.int .i64 ((max x 1 : Nat) : Int))).rowIs lb 3 288 (fun j => .int .i64 ((if j ∈ l.take (k + 1) then max (ln j) 1 else ln j : Nat) : Int)) := hset.congr fun j _ => by
                  have hms := mem_take_succ l k j hkl
                  rw [← hsy] at hms
                  by_cases e : j = sy
                  · subst e
                    rw [if_pos rfl, if_pos (hms.2 (.inr rfl)), hx]
                    congr 1
                    split <;> omega
                  · rw [if_neg e]
                    by_cases h2 : j ∈ l.take k
                    · rw [if_pos h2, if_pos (hms.2 (.inl h2))]
                    · rw [if_neg h2, if_neg (fun h3 => (hms.1 h3).elim h2 e)]
                have Hrow2 := hidI hrow2
                have Hown2 := hidI (own_high Hown.out (low_keep wr lb sy (.int .i64 ((max x 1 : Nat) : Int))))
                have Hbk2 := hidI (Hbk.out.setCell (p := ⟨lb, sy, none⟩) (Nat.le_refl _) (.int .i64 ((max x 1 : Nat) : Int)))
                clear hset hrow2 hsy hx hsm Hown Hlk Hbk
                have hmx : ((max x 1 : Nat) : Int) = max (x : Int) 1 := by omega
                rw [hmx] at Hrow2 Hown2 Hbk2
                clear hmx
                go_wp2
                go_roundw
                case rel => exact ⟨k + 1, by go_num, by omega, Hown2, Hrow2, Hbk2⟩
                case measure => simp [intOf]; omega
              · have hk2 : k = e1.n := by omega
                subst hk2
                go_wp2
                go_ret
                have htk : l.take e1.n = l := List.take_of_length_le (by have := Hll.out; omega)
                have hrow := Hlk.out
                rw [htk] at hrow
                have hji := Hji.out
                rw [Hlb.out, HSe.out]
                have hlast := JI.last hji wv Hmem.out (fun j => if j ∈ l then max (ln j) 1 else ln j) (fun i hi => by rw [← HlG.out] at hi; exact if_pos hi) (fun i hi => by rw [← HlG.out] at hi; exact if_neg hi)
                exact ⟨fun j => if j ∈ l then max (ln j) 1 else ln j, rfl, hrow, Hbk.out, hlast.1, hlast.2.1, hlast.2.2.1, hlast.2.2.2⟩
          | cons e2 r =>
            have hrl : r.length + 1 = t.length := by have := Hpt.out.length_eq; simpa using this
            have hq1' : QM (w1.alloc (.cells #[.int .i64 (e1.wt : Nat), .int .i64 (e1.tn : Nat), .slice (some ⟨e1.b, 0, none⟩) e1.n e1.c] 123)) (lb + 1) (lb + 1) (e2 :: r) pu := Hq1.out.of fun k hk => Below.heap_alloc _ _ k hk
            have Htk := hidI (take_some _ (lb + 1) (lb + 1) (e2 :: r) e2 pu r.length (by simp; omega) rfl (by omega) rfl Hh1.out hq1')
            have Hl2 := hidI (Hl1.out.alloc (.cells #[.int .i64 (e1.wt : Nat), .int .i64 (e1.tn : Nat), .slice (some ⟨e1.b, 0, none⟩) e1.n e1.c] 123))
            have Hg2 := hidI (Hg1.out.fr (K := 0) ((Keeps.refl 3 w1).alloc (.cells #[.int .i64 (e1.wt : Nat), .int .i64 (e1.tn : Nat), .slice (some ⟨e1.b, 0, none⟩) e1.n e1.c] 123)))
            have Hb2 := hidI (Hb1.out.alloc (by omega) (.cells #[.int .i64 (e1.wt : Nat), .int .i64 (e1.tn : Nat), .slice (some ⟨e1.b, 0, none⟩) e1.n e1.c] 123))
            have HF : Hid ((w1.alloc (.cells #[.int .i64 (e1.wt : Nat), .int .i64 (e1.tn : Nat), .slice (some ⟨e1.b, 0, none⟩) e1.n e1.c] 123)).heap[F1]? = some (.cells #[.int .i64 (e1.wt : Nat), .int .i64 (e1.tn : Nat), .slice (some ⟨e1.b, 0, none⟩) e1.n e1.c] 123 (0, 0))) := by
              rw [hF1]; exact heap_alloc_new _ _
            have HFn : Hid (∀ n cap, (w1.alloc (.cells #[.int .i64 (e1.wt : Nat), .int .i64 (e1.tn : Nat), .slice (some ⟨e1.b, 0, none⟩) e1.n e1.c] 123)).cell? ⟨lb + 1, 0, none⟩ ≠ some (.slice (some ⟨F1, 0, none⟩) n cap)) := fun n cap => by
              rw [World.cell?_of_block (Below.heap_alloc w1 _ (lb + 1) hqlt)]
              exact hq1n n cap
            have hFq : F1 ≠ lb + 1 := by omega
            have hFs : F1 < (w1.alloc (.cells #[.int .i64 (e1.wt : Nat), .int .i64 (e1.tn : Nat), .slice (some ⟨e1.b, 0, none⟩) e1.n e1.c] 123)).heap.size := by simp; omega
            have HF1 := hidI hF1
            have hlF : lb + 1 ≤ F1 := by omega
            have hszV : lb + 1 ≤ (w1.alloc (.cells #[.int .i64 (e1.wt : Nat), .int .i64 (e1.tn : Nat), .slice (some ⟨e1.b, 0, none⟩) e1.n e1.c] 123)).heap.size := by simp; omega
            clear hq1' hF1 Hl1 Hg1 Hb1 hq1n
            go_wp2_with fail
            rw [← HF1.out]
            generalize (w1.alloc (.cells #[.int .i64 (e1.wt : Nat), .int .i64 (e1.tn : Nat), .slice (some ⟨e1.b, 0, none⟩) e1.n e1.c] 123)) = V at *
            refine Htk.out.mono ?_
            rintro e w2 ⟨rfl, es2, hp2, hh2, hq2, hf2, hfar2⟩
            have hpr : List.Perm es2 r := hp2.trans (popped_perm e2 r)
            have hF2 := (hfar2 F1 hFs hFq HFn.out).trans HF.out
            have hg2 : GM w2 (lb + 1) (e1 :: t) G := Hg2.out.fr (K := 0) hf2.ints
            have hsz2 : lb + 1 ≤ w2.heap.size := hf2.size hszV
            obtain ⟨F2, hF2e⟩ : ∃ F, F = w2.heap.size := ⟨_, rfl⟩
            have Hl3 := hidI (((rowIs_below Hl2.out hf2.bel (by omega)).alloc (.cells #[.int .i64 (e2.wt : Nat), .int .i64 (e2.tn : Nat), .slice (some ⟨e2.b, 0, none⟩) e2.n e2.c] 123)).alloc (.cells #[.slice (some ⟨e1.b, 0, none⟩) e1.n e1.c, .slice (some ⟨e2.b, 0, none⟩) e2.n e2.c] 22))
            have Hb3 := hidI (((Hb2.out.trans (hf2.bel.mono (by omega))).alloc (by omega) (.cells #[.int .i64 (e2.wt : Nat), .int .i64 (e2.tn : Nat), .slice (some ⟨e2.b, 0, none⟩) e2.n e2.c] 123)).alloc (by simp; omega) (.cells #[.slice (some ⟨e1.b, 0, none⟩) e1.n e1.c, .slice (some ⟨e2.b, 0, none⟩) e2.n e2.c] 22))
            have Hg3 := hidI ((hg2.fr (K := 0) ((Keeps.refl 3 w2).alloc (.cells #[.int .i64 (e2.wt : Nat), .int .i64 (e2.tn : Nat), .slice (some ⟨e2.b, 0, none⟩) e2.n e2.c] 123))).fr (K := 0) ((Keeps.refl 3 _).alloc (.cells #[.slice (some ⟨e1.b, 0, none⟩) e1.n e1.c, .slice (some ⟨e2.b, 0, none⟩) e2.n e2.c] 22)))
            have Hq3 := hidI ((hq2.of (w' := w2.alloc (.cells #[.int .i64 (e2.wt : Nat), .int .i64 (e2.tn : Nat), .slice (some ⟨e2.b, 0, none⟩) e2.n e2.c] 123)) fun k hk => Below.heap_alloc _ _ k hk).of (w' := (w2.alloc (.cells #[.int .i64 (e2.wt : Nat), .int .i64 (e2.tn : Nat), .slice (some ⟨e2.b, 0, none⟩) e2.n e2.c] 123)).alloc (.cells #[.slice (some ⟨e1.b, 0, none⟩) e1.n e1.c, .slice (some ⟨e2.b, 0, none⟩) e2.n e2.c] 22)) fun k hk => Below.heap_alloc _ _ k hk)
            have hFF : F1 < w2.heap.size := lt_of_heap hF2
            have hF2a := (Below.heap_alloc w2 (.cells #[.int .i64 (e2.wt : Nat), .int .i64 (e2.tn : Nat), .slice (some ⟨e2.b, 0, none⟩) e2.n e2.c] 123) F1 hFF).trans hF2
            have hF2b : (w2.alloc (.cells #[.int .i64 (e2.wt : Nat), .int .i64 (e2.tn : Nat), .slice (some ⟨e2.b, 0, none⟩) e2.n e2.c] 123)).heap[F2]? = some (.cells #[.int .i64 (e2.wt : Nat), .int .i64 (e2.tn : Nat), .slice (some ⟨e2.b, 0, none⟩) e2.n e2.c] 123 (0, 0)) := by rw [hF2e]; exact heap_alloc_new _ _
            have f1 : (w2.alloc (.cells #[.int .i64 (e2.wt : Nat), .int .i64 (e2.tn : Nat), .slice (some ⟨e2.b, 0, none⟩) e2.n e2.c] 123)).cell? ⟨F1, 2, none⟩ = some (.slice (some ⟨e1.b, 0, none⟩) e1.n e1.c) := by rw [cell_of_row _ F1 2 _ 123 (0, 0) hF2a]; rfl
            have f2 : (w2.alloc (.cells #[.int .i64 (e2.wt : Nat), .int .i64 (e2.tn : Nat), .slice (some ⟨e2.b, 0, none⟩) e2.n e2.c] 123)).cell? ⟨F2, 2, none⟩ = some (.slice (some ⟨e2.b, 0, none⟩) e2.n e2.c) := by rw [cell_of_row _ F2 2 _ 123 (0, 0) hF2b]; rfl
            have HFa := hidI ((Below.heap_alloc _ (.cells #[.slice (some ⟨e1.b, 0, none⟩) e1.n e1.c, .slice (some ⟨e2.b, 0, none⟩) e2.n e2.c] 22) F1 (by simp; omega)).trans hF2a)
            have HFb := hidI ((Below.heap_alloc _ (.cells #[.slice (some ⟨e1.b, 0, none⟩) e1.n e1.c, .slice (some ⟨e2.b, 0, none⟩) e2.n e2.c] 22) F2 (by simp; omega)).trans hF2b)
            have HS : Hid (((w2.alloc (.cells #[.int .i64 (e2.wt : Nat), .int .i64 (e2.tn : Nat), .slice (some ⟨e2.b, 0, none⟩) e2.n e2.c] 123)).alloc (.cells #[.slice (some ⟨e1.b, 0, none⟩) e1.n e1.c, .slice (some ⟨e2.b, 0, none⟩) e2.n e2.c] 22)).heap[w2.heap.size + 1]? = some (.cells #[.slice (some ⟨e1.b, 0, none⟩) e1.n e1.c, .slice (some ⟨e2.b, 0, none⟩) e2.n e2.c] 22 (0, 0))) := by
              have := heap_alloc_new (w2.alloc (.cells #[.int .i64 (e2.wt : Nat), .int .i64 (e2.tn : Nat), .slice (some ⟨e2.b, 0, none⟩) e2.n e2.c] 123)) (.cells #[.slice (some ⟨e1.b, 0, none⟩) e1.n e1.c, .slice (some ⟨e2.b, 0, none⟩) e2.n e2.c] 22)
              simp only [World.size_alloc] at this
              exact this
            have hszS : lb + 1 ≤ ((w2.alloc (.cells #[.int .i64 (e2.wt : Nat), .int .i64 (e2.tn : Nat), .slice (some ⟨e2.b, 0, none⟩) e2.n e2.c] 123)).alloc (.cells #[.slice (some ⟨e1.b, 0, none⟩) e1.n e1.c, .slice (some ⟨e2.b, 0, none⟩) e2.n e2.c] 22)).heap.size := by simp; omega
            have HF2e := hidI hF2e
            have hlF2 : lb + 1 ≤ F2 := by omega
            have Hpr := hidI hpr
            have Hh2 := hidI hh2
            clear Htk Hl2 Hb2 Hg2 HF HFn hF2 hg2 hq2 hf2 hfar2 hFs hp2 hh2 hpr hF2a hF2b hF2e
            go_wp2_with fail
            rw [← HF2e.out]
            rw [← HF2e.out] at HS
            generalize ((w2.alloc (.cells #[.int .i64 (e2.wt : Nat), .int .i64 (e2.tn : Nat), .slice (some ⟨e2.b, 0, none⟩) e2.n e2.c] 123)).alloc (.cells #[.slice (some ⟨e1.b, 0, none⟩) e1.n e1.c, .slice (some ⟨e2.b, 0, none⟩) e2.n e2.c] 22)) = V3 at *
            have hme2 : e2 ∈ e1 :: t := List.mem_cons_of_mem _ (Hpt.out.mem_iff.1 List.mem_cons_self)
            have hgA := Hg3.out e1 List.mem_cons_self
            have hgB := Hg3.out e2 hme2
            have hlA := own_length hgA
            have hlB := own_length hgB
            have Hj12 : Hid (JI 288 (e1 :: e2 :: r) G D ln S W) := Hji.out.perm (List.Perm.cons e1 Hpt.out)
            have hsy := Hj12.out.sym
            simp only [List.map_cons, List.flatten_cons] at hsy
            have hsl := hsy.length_eq
            simp only [List.length_append] at hsl
            have hnd := hsy.symm.nodup HN.out
            rw [← List.append_assoc] at hnd
            have HndAB := hidI ((List.nodup_append.1 hnd).1)
            have HmAB : Hid (∀ i, i ∈ G e1.b ++ G e2.b → i < 288) := fun i hi => ((Hmem.out i).1 (hsy.mem_iff.1 (by rw [← List.append_assoc]; exact List.mem_append.2 (.inl hi)))).1
            have hSl := HL.out
            have hn0 : ∀ e ∈ e1 :: e2 :: r, 0 < (G e.b).length := fun e he => by
              have hk := Hj12.out.kr e he
              cases hg : G e.b with
              | nil => rw [hg] at hk; simp only [sumL] at hk; have := Nat.pow_pos (n := 288) (show 0 < 2 by omega); omega
              | cons x l => simp
            have hnA := hn0 e1 (by simp)
            have hnB := hn0 e2 (by simp)
            have Hco := hidI (concat_two V3 (F2 + 1) e1.b e1.n e1.c e2.b e2.n e2.c (G e1.b) (G e2.b) (by omega) (by omega) (by omega) HS.out (own_base hgA) (own_base hgB))
            have Hln : Hid (∀ i, ln i ≤ 300) := fun i => by
              by_cases hi : i ∈ S
              · have := Hj12.out.sym.mem_iff.2 hi
                rw [List.mem_flatten] at this
                obtain ⟨l0, h1, h2⟩ := this
                obtain ⟨e0, h3, rfl⟩ := List.mem_map.1 h1
                have h4 := Hj12.out.len e0 h3 i h2
                have h5 := glen Hj12.out h3
                omega
              · rw [Hj12.out.zero i hi]; omega
            have h12 : e1.wt ≤ e2.wt := heap_min Hhp.out hme2
            have Hr2 : Hid (∀ e ∈ r, e2.wt ≤ e.wt) := fun e he => heap_min Hh1.out (List.mem_cons_of_mem _ he)
            have hWs : e1.wt + e2.wt ≤ 1000000 := by
              have := Hj12.out.sum
              simp only [sumL] at this
              omega
            obtain ⟨l, hl⟩ : ∃ l, l = G e1.b ++ G e2.b := ⟨_, rfl⟩
            have Hll : Hid (l.length = e1.n + e2.n) := by
              show _ = _
              rw [hl, List.length_append]; omega
            rw [← hl] at HndAB HmAB Hco
            have HlG := hidI hl
            have hnn : e1.n + e2.n ≤ 300 := by omega
            clear hl hgA hgB hlA hlB hsy hsl hnd hn0 hnA hnB hme2 HS f1 f2
            refine Hco.out.mono ?_
            rintro e w4 ⟨g, cap, rfl, hown4, hbel4⟩
            have hs34 := hbel4.size
            have hVlt : ∀ k o, V3.heap[k]? = some o → w4.heap[k]? = some o := fun k o ho => (hbel4.block k (lt_of_heap ho)).trans ho
            have HFa4 := hidI (hVlt _ _ HFa.out)
            have HFb4 := hidI (hVlt _ _ HFb.out)
            have Hl4 := hidI (rowIs_below Hl3.out hbel4 Hl3.out.lt)
            have Hb4 := hidI (Hb3.out.trans (hbel4.mono (by omega)))
            have Hg4 := hidI (Hg3.out.fr (K := 0) ((Keeps.refl 3 V3).below hbel4))
            have Hq4 := hidI (Hq3.out.of fun k hk => hbel4.block k hk)
            have hgs := (hown4.lt g rfl).1
            have Hnew : Hid (∀ e ∈ r, e.b ≠ g) := fun e he => by
              have h1 : e ∈ e1 :: t := List.mem_cons_of_mem _ (Hpt.out.mem_iff.1 (List.mem_cons_of_mem _ he))
              have := Hg3.out.lt h1
              omega
            have Hown4 : Hid (w4.ownsRow (lb + 1) 3 1 (.slice (some ⟨g, 0, none⟩) (e1.n + e2.n) cap) (e1.n + e2.n) (intsV l)) := own_mono hown4 (by omega)
            have hsz4 : lb + 1 ≤ w4.heap.size := by omega
            clear hown4 hbel4 hVlt Hco HFa HFb Hl3 Hb3 Hg3 Hq3 hgs hs34
            go_wp2
            try rw [← HF2e.out]
            go_loopw [68] (fun i wq => ∃ k : Nat, i = .int .i64 (k : Nat) ∧ k ≤ e1.n + e2.n ∧ lb + 1 ≤ wq.heap.size ∧ Hid (wq.rowIs lb 3 288 (fun j => .int .i64 ((if j ∈ l.take k then ln j + 1 else ln j : Nat) : Int))) ∧ Hid (wq.ownsRow (lb + 1) 3 1 (.slice (some ⟨g, 0, none⟩) (e1.n + e2.n) cap) (e1.n + e2.n) (intsV l)) ∧ Hid (QM wq (lb + 1) (lb + 1) es2 pu) ∧ Hid (GM wq (lb + 1) (e1 :: t) G) ∧ Hid (wq.heap[F1]? = some (.cells #[.int .i64 (e1.wt : Nat), .int .i64 (e1.tn : Nat), .slice (some ⟨e1.b, 0, none⟩) e1.n e1.c] 123 (0, 0))) ∧ Hid (wq.heap[F2]? = some (.cells #[.int .i64 (e2.wt : Nat), .int .i64 (e2.tn : Nat), .slice (some ⟨e2.b, 0, none⟩) e2.n e2.c] 123 (0, 0))) ∧ Hid (Below lb w wq)) (fun i _ => e1.n + e2.n - (intOf i).toNat)
            case atStart => exact ⟨0, rfl, by omega, hsz4, by simpa using Hl4, Hown4, Hq4, Hg4, HFa4, HFb4, Hb4⟩
            case round =>
              clear Hl4 Hown4 Hq4 Hg4 HFa4 HFb4 Hb4 hsz4
              obtain ⟨k, rfl, hk, hszq, Hlk, Hownk, Hqk, Hgk, HFak, HFbk, Hbk⟩ := hrel
              by_cases hkn : k < e1.n + e2.n
              · have y0 := own_get Hownk.out hkn
                have hkl : k < l.length := by have := Hll.out; omega
                have hsm : l.getD k 0 ∈ l := getD_mem l k hkl
                have hslt := HmAB.out _ hsm
                have hsl := Hln.out (l.getD k 0)
                have hnt := getD_not_take l k HndAB.out hkl
                obtain ⟨sy, hsy⟩ : ∃ sy, sy = l.getD k 0 := ⟨_, rfl⟩
                rw [← hsy] at y0 hslt hsl hnt
                have y1 := Hlk.out.cell (i := sy) hslt
                have yf := Hlk.out.frozen sy
                rw [if_neg hnt] at y1
                obtain ⟨x, hx⟩ : ∃ x : Nat, x = ln sy := ⟨_, rfl⟩
                rw [← hx] at y1 hsl
                have hset := Hlk.out.set sy (.int .i64 ((x + 1 : Nat) : Int))
                have hrow2 : (wr.setCell ⟨lb, sy, none⟩ (.int .i64 ((x + 1 : Nat) : Int))).rowIs lb 3 288 (fun j => .int .i64 ((if j ∈ l.take (k + 1) then ln j + 1 else ln j : Nat) : Int)) := hset.congr fun j _ => by
                  have hms := mem_take_succ l k j hkl
                  rw [← hsy] at hms
                  by_cases e : j = sy
                  · subst e
                    rw [if_pos rfl, if_pos (hms.2 (.inr rfl)), hx]
                  · rw [if_neg e]
                    by_cases h2 : j ∈ l.take k
                    · rw [if_pos h2, if_pos (hms.2 (.inl h2))]
                    · rw [if_neg h2, if_neg (fun h3 => (hms.1 h3).elim h2 e)]
                have hlow := low_keep wr lb sy (.int .i64 ((x + 1 : Nat) : Int))
                have Hrow2 := hidI hrow2
                have Hown2 := hidI (own_high Hownk.out hlow)
                have Hq2 := hidI (Hqk.out.high hlow)
                have Hg2 := hidI (Hgk.out.high hlow)
                have HFa2 := hidI ((hlow F1 (by omega)).trans HFak.out)
                have HFb2 := hidI ((hlow F2 (by omega)).trans HFbk.out)
                have Hbk2 := hidI (Hbk.out.setCell (p := ⟨lb, sy, none⟩) (Nat.le_refl _) (.int .i64 ((x + 1 : Nat) : Int)))
                clear hset hrow2 hsy hx hsm hnt hlow Hlk Hownk Hqk Hgk HFak HFbk Hbk
                have hmx : ((x + 1 : Nat) : Int) = (x : Int) + 1 := by omega
                rw [hmx] at Hrow2 Hown2 Hq2 Hg2 HFa2 HFb2 Hbk2
                clear hmx
                go_wp2
                go_roundw
                case rel => exact ⟨k + 1, by go_num, by omega, by simpa using hszq, Hrow2, Hown2, Hq2, Hg2, HFa2, HFb2, Hbk2⟩
                case measure => simp [intOf]; omega
              · have hk2 : k = e1.n + e2.n := by omega
                subst hk2
                have a1 : wr.cell? ⟨F1, 0, none⟩ = some (.int .i64 (e1.wt : Nat)) := by rw [cell_of_row wr F1 0 _ 123 (0, 0) HFak.out]; rfl
                have a2 : wr.cell? ⟨F2, 0, none⟩ = some (.int .i64 (e2.wt : Nat)) := by rw [cell_of_row wr F2 0 _ 123 (0, 0) HFbk.out]; rfl
                have hes2 : es2.length = r.length := Hpr.out.length_eq
                have hput := put_q wr (lb + 1) (lb + 1) es2 pu (e1.wt + e2.wt) g (e1.n + e2.n) cap hszq (by omega) (by omega) Hh2.out Hqk.out
                rw [show ((e1.wt + e2.wt : Nat) : Int) = (e1.wt : Int) + (e2.wt : Int) by omega] at hput
                have Hput := hidI hput
                have Hes2 := hidI hes2
                have hpu6 : pu + r.length + 2 ≤ 576 := by simp at hpe; omega
                clear hput hes2
                go_wp2_with fail
                refine Hput.out.mono ?_
                rintro e w5 ⟨rfl, es3, hp3, hh3, hq3, hf3⟩
                have htk : l.take (e1.n + e2.n) = l := List.take_of_length_le (by have := Hll.out; omega)
                have hrow := Hlk.out
                rw [htk] at hrow
                have Hrow5 := hidI (rowIs_below hrow hf3.bel (by omega))
                have Hb5 := hidI (Hbk.out.trans (hf3.bel.mono (by omega)))
                have hsz5 : lb + 1 ≤ w5.heap.size := hf3.size hszq
                have hpc : List.Perm es3 (⟨e1.wt + e2.wt, pu, g, e1.n + e2.n, cap⟩ :: r) := hp3.trans (List.Perm.cons _ Hpr.out)
                have Hj5 : Hid (JS 288 w5 (lb + 1) (lb + 1) es3 (pu + 1) (fun b => if b = g then G e1.b ++ G e2.b else G b) (fun b => if b = g then max (D e1.b) (D e2.b) + 1 else D b) (fun j => if j ∈ l then ln j + 1 else ln j) S W) := by
                  refine ⟨hq3, hh3, ?_, ?_⟩
                  · refine GM.perm (GM.cons (c := ⟨e1.wt + e2.wt, pu, g, e1.n + e2.n, cap⟩) (es := r) (G := G) (l := G e1.b ++ G e2.b) ?_ ?_ Hnew.out) hpc
                    · intro e he
                      exact hf3.ints.own (Hgk.out e (List.mem_cons_of_mem _ (Hpt.out.mem_iff.1 (List.mem_cons_of_mem _ he))))
                    · rw [← HlG.out]; exact hf3.ints.own Hownk.out
                  · exact (JI.join Hj12.out HN.out hSl h12 Hr2.out ⟨e1.wt + e2.wt, pu, g, e1.n + e2.n, cap⟩ rfl Hnew.out (fun j => if j ∈ l then ln j + 1 else ln j) (fun i hi => by rw [← HlG.out] at hi; exact if_pos hi) (fun i hi => by rw [← HlG.out] at hi; exact if_neg hi)).perm hpc
                have hl3 : es3.length = r.length + 1 := by rw [hpc.length_eq]; rfl
                have Hql5 : Hid (qlen w5 (lb + 1) = r.length + 1) := by
                  show _ = _
                  rw [hq3.qlen, hl3]
                clear Hput hp3 hh3 hq3 hf3 htk hrow hpc Hlk Hownk Hqk Hgk HFak HFbk Hbk a1 a2
                have Hl3 := hidI hl3
                clear hl3
                go_wp2
                go_roundw
                case rel => exact ⟨pu + 1, es3, _, _, _, by have := Hl3.out; omega, hsz5, Hj5, Hrow5, Hb5⟩
                case measure =>
                  have h1 := Hql5.out
                  have h2 := Hql.out
                  rw [h1, h2]; omega
end Go.Proofs.Ytodmdkhdbfbfgaa
