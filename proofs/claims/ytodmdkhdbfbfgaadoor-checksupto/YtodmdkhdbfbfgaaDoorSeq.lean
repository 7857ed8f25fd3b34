/- strings.SplitSeq at "/": the iterator hands out the names of a path, one by one. -/
import Derived.RangeFuncNested
import Derived.RangeFuncBound
import Derived.RangeFuncCalls
import Derived.RangeFuncLeaves
import Derived.Shelf.Abstract
import Derived.OwnWalkIn
import Derived.TacticsInMore
import Derived.LoopNIn
import Derived.LoopIn
import Derived.Shelf.Strings.Count
import Derived.Test.YtodmdkhdbfbfgaaDoorRangeBox
import Derived.Test.YtodmdkhdbfbfgaaDoorPieces
namespace Go.Proofs.YtodmdkhdbfbfgaaDoor
open Go.RowKit Go.Nt Go.Shelf
set_option linter.unusedVariables false
attribute [local go_sem] Oper.semAt_some

theorem idxB47 (p : Bs) : ((47 : UInt8) ∉ p ∧ Lib.indexByte p 47 = -1) ∨ ∃ c r, p = c ++ 47 :: r ∧ (47 : UInt8) ∉ c ∧ Lib.indexByte p 47 = (c.length : Int) := by
  have := idx47 p
  rw [Lib.index_one] at this
  exact this

theorem index_any (s : ByteArray) (w : World) : Calls Tryd.prog 56 #[.string s, .string ⟨#[47]⟩] w fun e w' => e = .returned (.int .i64 (Lib.indexByte s.data.toList 47)) ∧ w' = w :=
  Any.strings_Index_one ({ Tryd.lays146 with } : Lays.n143 Tryd.prog Tryd.lays146_ren) s 47 w
theorem count_any (s : ByteArray) (w : World) : Calls Tryd.prog 41 #[.string s, .string ⟨#[47]⟩] w fun e w' => e = .returned (.int .i64 (Lib.countByte s.data.toList 47)) ∧ w' = w :=
  Any.strings_Count_one ({ Tryd.lays146 with } : Lays.n138 Tryd.prog Tryd.lays146_ren) s 47 w

theorem split_cnt (p : Bs) : (split p).length = p.count 47 + 1 := by
  induction p with
  | nil => rfl
  | cons c cs ih =>
    obtain ⟨n, ns, e⟩ := split_cons cs
    by_cases h : c = 47
    · subst h; rw [split_slash]; simp [ih]
    · rw [split_other h e]; rw [e] at ih; simp at ih; simp [h, ih]

/-- How much is left in the box. -/
def boxLen (b : Nat) (w : World) : Nat := match w.cell? ⟨b, 0, none⟩ with | some (.string s) => s.size | _ => 0

set_option maxRecDepth 100000 in
set_option maxHeartbeats 2000000 in
theorem splitSeq_box (n b0 n₀ : Nat) (p : Bs) (w : World) (hp : p.length ≤ 1048576) (hn0 : b0 + 2 < n₀) (hsz : n₀ ≤ w.heap.size)
    (h0 : w.heap[b0]? = some (.cells #[.string (txt p)] 9 (0, 0))) (h1 : w.heap[b0 + 1]? = some (.cells #[.string ⟨#[47]⟩] 9 (0, 0))) (h2 : w.heap[b0 + 2]? = some (.cells #[.int .i64 0] 3 (0, 0))) :
    SeqBox Fence.wide n Tryd.prog 59 #[.pointer (some ⟨b0 + 1, 0, none⟩), .pointer (some ⟨b0, 0, none⟩), .pointer (some ⟨b0 + 2, 0, none⟩)] (fun x : Bs => .string (txt x)) n₀ b0 (split p) w := by
  intro l J Jx W hW hJ hJx hY hJ0
  refine callsIn_of_wp Tryd.func59 rfl trivial ?_ rfl
  simp only [Tryd.ntmps59, List.size_toArray, List.length_cons, List.length_nil, Nat.reduceAdd, Nat.reduceSub, Array.replicate_succ, Array.replicate_zero, List.push_toArray, List.append_toArray, List.nil_append, List.cons_append]
  have e0 : W.heap[b0]? = some (.cells #[.string (txt p)] 9 (0, 0)) := (hW.block b0 (by omega)).trans h0
  have e1 : W.heap[b0 + 1]? = some (.cells #[.string ⟨#[47]⟩] 9 (0, 0)) := (hW.block (b0 + 1) (by omega)).trans h1
  have e2 : W.heap[b0 + 2]? = some (.cells #[.int .i64 0] 3 (0, 0)) := (hW.block (b0 + 2) (by omega)).trans h2
  have c1 : W.cell? ⟨b0 + 1, 0, none⟩ = some (.string ⟨#[47]⟩) := by rw [cell_of_row W (b0 + 1) 0 _ 9 (0, 0) e1]; rfl
  gi_wp2
  clear c1
  gi_loopw [] (fun wr => ∃ (pre : List Bs) (rest : Bs), Hid (split p = pre ++ split rest) ∧ rest.length ≤ 1048576 ∧ Hid (wr.heap[b0]? = some (.cells #[.string (txt rest)] 9 (0, 0))) ∧ Hid (wr.heap[b0 + 1]? = some (.cells #[.string ⟨#[47]⟩] 9 (0, 0))) ∧ Hid (wr.heap[b0 + 2]? = some (.cells #[.int .i64 0] 3 (0, 0))) ∧ Hid (J pre wr)) (fun wr => boxLen b0 wr)
  case atStart => exact ⟨[], p, hidI rfl, hp, hidI e0, hidI e1, hidI e2, hidI hJ0⟩
  case round =>
    obtain ⟨pre, rest, Hs, hr, H0, H1, H2, HJ⟩ := hrel
    have c0 : wr.cell? ⟨b0, 0, none⟩ = some (.string (txt rest)) := by rw [cell_of_row wr b0 0 _ 9 (0, 0) H0.out]; rfl
    have c1 : wr.cell? ⟨b0 + 1, 0, none⟩ = some (.string ⟨#[47]⟩) := by rw [cell_of_row wr (b0 + 1) 0 _ 9 (0, 0) H1.out]; rfl
    have c2 : wr.cell? ⟨b0 + 2, 0, none⟩ = some (.int .i64 0) := by rw [cell_of_row wr (b0 + 2) 0 _ 3 (0, 0) H2.out]; rfl
    rcases idxB47 rest with ⟨h47, hix⟩ | ⟨a, r, hrest, h47, hix⟩
    · have HI : Hid (Calls Tryd.prog 56 #[.string (txt rest), .string ⟨#[47]⟩] wr fun e w' => e = .returned (.int .i64 (-1)) ∧ w' = wr) := hidI (by have := index_any (txt rest) wr; rw [txt_data, hix] at this; exact this)
      obtain ⟨fn, tmps, assign, body, hy, hR⟩ := hY pre rest wr HJ.out (by rw [Hs.out, split_none h47]; exact List.prefix_refl _)
      have HR := hidI hR
      have Hn := hidI (split_none h47)
      clear hix hR h47
      gi_wp2
      refine ⟨trivial, fun h => (by cases h), (callsIn_wide.2 HI.out).mono ?_⟩
      rintro e w' ⟨rfl, hw⟩
      have hw' := hw.symm
      subst hw'
      clear hw
      gi_wp2
      refine ⟨fun h => (by cases h), HR.out.mono ?_⟩
      rintro e W3 (⟨rfl, hJ3, hk3⟩ | ⟨rfl, hJx3⟩)
      · gi_wp2
        go_end0
        refine ⟨⟨_, rfl⟩, .inl ?_⟩
        rw [Hs.out, Hn.out]
        exact hJ3
      · gi_wp2
        go_end0
        exact ⟨⟨_, rfl⟩, .inr ⟨_, by rw [Hs.out, Hn.out]; exact List.prefix_refl _, hJx3⟩⟩
    · subst hrest
      have HI : Hid (Calls Tryd.prog 56 #[.string (txt (a ++ 47 :: r)), .string ⟨#[47]⟩] wr fun e w' => e = .returned (.int .i64 a.length) ∧ w' = wr) := hidI (by have := index_any (txt (a ++ 47 :: r)) wr; rw [txt_data, hix] at this; exact this)
      have hsp := split_app (r := r) h47
      have hpre : pre ++ [a] <+: split p := by rw [Hs.out, hsp]; exact ⟨split r, by simp⟩
      obtain ⟨fn, tmps, assign, body, hy, hR⟩ := hY pre a wr HJ.out hpre
      have HR := hidI hR
      have Hsp : Hid (split p = (pre ++ [a]) ++ split r) := hidI (by rw [Hs.out, hsp]; simp)
      have Hpre := hidI hpre
      obtain ⟨X, hX⟩ : ∃ X, X = txt (a ++ 47 :: r) := ⟨_, rfl⟩
      have Sx : X.size = a.length + 1 + r.length := by rw [hX, txt_size]; simp; omega
      have hxa : X.extract 0 a.length = txt a := by rw [hX, txt_extract]; simp
      have hxr : X.extract (a.length + 1) X.size = txt r := by
        rw [Sx, hX, txt_extract]
        congr 1
        rw [← List.drop_drop]
        simp
      rw [← hX] at HI c0 H0
      obtain ⟨k, hk⟩ : ∃ k, k = a.length := ⟨_, rfl⟩
      have Hk := hidI hk
      rw [← hk] at HI hxa hxr Sx
      rw [← hxa] at hy
      have Hxr := hidI hxr
      have hrl : r.length ≤ 1048576 := by simp at hr; omega
      have hXl : X.size ≤ 1048576 := by simp at hr; omega
      have hkX : k + 1 ≤ X.size := by omega
      clear hix hR h47 hsp hpre hX hxa hxr hk Hs hr
      gi_wp2
      refine ⟨trivial, fun h => (by cases h), (callsIn_wide.2 HI.out).mono ?_⟩
      rintro e w' ⟨rfl, hw⟩
      have hw' := hw.symm
      subst hw'
      clear hw
      gi_wp2
      refine ⟨fun h => (by cases h), HR.out.mono ?_⟩
      rintro e W3 (⟨rfl, hJ3, hk3⟩ | ⟨rfl, hJx3⟩)
      · have r0 : W3.heap[b0]? = some (.cells #[.string X] 9 (0, 0)) := (hk3.block b0 (by omega)).trans H0.out
        have r1 : W3.heap[b0 + 1]? = some (.cells #[.string ⟨#[47]⟩] 9 (0, 0)) := (hk3.block (b0 + 1) (by omega)).trans H1.out
        have R2 : Hid (W3.heap[b0 + 2]? = some (.cells #[.int .i64 0] 3 (0, 0))) := hidI ((hk3.block (b0 + 2) (by omega)).trans H2.out)
        have c0' : W3.cell? ⟨b0, 0, none⟩ = some (.string X) := by rw [cell_of_row W3 b0 0 _ 9 (0, 0) r0]; rfl
        have c1' : W3.cell? ⟨b0 + 1, 0, none⟩ = some (.string ⟨#[47]⟩) := by rw [cell_of_row W3 (b0 + 1) 0 _ 9 (0, 0) r1]; rfl
        have f0' : W3.frozen? ⟨b0, 0, none⟩ = false := frozen_of_row W3 b0 0 _ 9 r0
        have R0 := hidI r0
        have R1 := hidI r1
        have HJ3 := hidI hJ3
        clear hJ3 hk3 hy HR HI r0 r1
        gi_wp2
        have hx : X.extract (k + 1) (k + 1 + r.length) = txt r := by have := Hxr.out; rw [Sx] at this; exact this
        rw [hx]
        have hs0 := heap_setCell_same W3 b0 0 #[.string X] 9 (.string (txt r)) R0.out
        refine ⟨⟨pre ++ [a], r, Hsp, hrl, hidI hs0, hidI ((Below.heap_setCell W3 ⟨b0, 0, none⟩ _ (b0 + 1) (by simp)).trans R1.out), hidI ((Below.heap_setCell W3 ⟨b0, 0, none⟩ _ (b0 + 2) (by simp)).trans R2.out), hidI (hJ.set _ _ _ HJ3.out)⟩, ?_⟩
        unfold boxLen
        rw [c0, cell_of_row _ b0 0 _ 9 (0, 0) hs0]
        show (txt r).size < X.size
        rw [txt_size]
        omega
      · gi_wp2
        refine bodyPost_ret (results_none rfl _ _ _) rfl ?_
        exact ⟨⟨_, rfl⟩, .inr ⟨_, Hpre.out, hJx3⟩⟩
end Go.Proofs.YtodmdkhdbfbfgaaDoor
