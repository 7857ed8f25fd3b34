/- What isPath and isItem return: whether a text is a path, whether an item may be in a tree. -/
import Derived.Test.YteihhjeaabjfhaaDoorPieces
import Derived.Test.YteihhjeaabjfhaaDoorAdd
namespace Go.Proofs.YteihhjeaabjfhaaDoor
open Go.RowKit Go.Nt
set_option linter.unusedVariables false

/-- The library's own number that its searches ask for is there. -/
def ML (w : World) : Prop := ∃ m : Int, w.cell? ⟨0, 0, none⟩ = some (.int .i64 m)
theorem ML.lt {w : World} (h : ML w) : 0 < w.heap.size := by obtain ⟨m, hm⟩ := h; exact World.block_lt_of_cell? w _ hm
theorem ML.below {w w' : World} {B : Nat} (h : ML w) (hb : Below B w w') (hB : 0 < B) : ML w' := by
  obtain ⟨m, hm⟩ := h
  exact ⟨m, (hb.cell (p := ⟨0, 0, none⟩) hB).trans hm⟩
theorem ML.drewN {w : World} (h : ML w) (q : Nat) : ML (w.drewN q) := by
  obtain ⟨m, hm⟩ := h
  exact ⟨m, by rw [← hm]; exact World.cell?_of_block (by simp)⟩

theorem cellsOf_get {ps : List ByteArray} {N k : Nat} {x : ByteArray} (h : ps[k]? = some x) : (Lib.cellsOf ps N)[k]? = some (.string x) := by
  unfold Lib.cellsOf
  have hk : k < ps.length := (List.getElem?_eq_some_iff.1 h).1
  rw [List.getElem?_toArray, List.getElem?_append_left (by simpa using hk), List.getElem?_map, h]
  rfl

theorem okPath_all {p : Bs} (h6 : (split p).length ≤ 6) : okPath p = (split p).all okName := by
  unfold okPath
  simp [h6]

set_option maxRecDepth 100000 in
set_option maxHeartbeats 1000000 in
theorem isPath_any (p : Bs) (w : World) (hm : ML w) (hp : p.length ≤ 1048576) :
    Calls Tryd.prog 24 #[.string (txt p)] w fun e w' => Below w.heap.size w w' ∧ e = .returned (.bool (okPath p)) := by
  obtain ⟨m, hm'⟩ := hm
  have HS := hidI (Tryd.strings_SplitN (txt p) (txt [47]) 7 m w (by rw [txt_size]; omega) hm' (by rw [txt_size]; simp) (by decide) (by decide))
  have hsep : (⟨#[47]⟩ : ByteArray) = txt [47] := rfl
  rw [txt_size] at HS
  obtain ⟨K, hK⟩ : ∃ K, K = min 7 (p.length + 1) - 1 := ⟨_, rfl⟩
  rw [← hK] at HS
  obtain ⟨N, hN⟩ : ∃ N, N = min 7 (p.length + 1) := ⟨_, rfl⟩
  rw [← hN] at HS
  have Hsv := hidI (seven p K hK)
  obtain ⟨ps, hps⟩ : ∃ ps, ps = Lib.splitB (txt [47]) 0 K (txt p) := ⟨_, rfl⟩
  rw [← hps] at HS Hsv
  have hN7 : N ≤ 7 := by omega
  obtain ⟨S, hS⟩ : ∃ S, S = txt p := ⟨_, rfl⟩
  rw [← hS] at HS ⊢
  have HS' : Hid (Calls Tryd.prog 31 #[.string S, .string ⟨#[47]⟩, .int .i64 7] w fun e w' => e = .returned (.slice (some ⟨w.heap.size, 0, none⟩) ps.length N) ∧ w' = w.alloc (.cells (Lib.cellsOf ps N) 9)) := HS
  clear HS hps hK hN hm' hS hsep
  rcases Hsv.out with ⟨h7, hpe⟩ | ⟨h7, hpl⟩
  · have hlen : ps.length = (split p).length := by rw [hpe, List.length_map]
    obtain ⟨L, hL⟩ : ∃ L, L = ps.length := ⟨_, rfl⟩
    rw [← hL] at HS'
    have HL := hidI (hL.trans hlen)
    have Hpe := hidI hpe
    have hL7 : L ≤ 7 := by omega
    clear hL hlen hpe
    by_cases h6 : L ≤ 6
    · go_enter Tryd.func24, Tryd.ntmps24
      go_wp2_with (go_at_call 31; refine HS'.out.mono ?_; rintro e w' ⟨rfl, hw⟩; have Hw := hidI hw; clear hw)
      have hc : Hid (∀ k n, (split p)[k]? = some n → w'.cell? ⟨w.heap.size, k, none⟩ = some (.string (txt n))) := fun k n hk => by
        rw [Hw.out, cell_of_row _ w.heap.size k _ 9 (0, 0) (heap_alloc_new _ _)]
        exact cellsOf_get (by rw [Hpe.out, List.getElem?_map, hk]; rfl)
      have Hb : Hid (Below w.heap.size w w') := by rw [Hw.out]; exact (Below.refl _ w).alloc (Nat.le_refl _) _
      have hsz : w.heap.size < w'.heap.size := by rw [Hw.out]; simp
      clear Hw HS'
      go_loopw [13] (fun i wr => ∃ k : Nat, k ≤ L ∧ i = .int .i64 k ∧ Hid (Below w'.heap.size w' wr) ∧ Hid (∀ n ∈ (split p).take k, okName n = true)) (fun i _ => L - (intOf i).toNat)
      case atStart => exact ⟨0, Nat.zero_le _, rfl, hidI (Below.refl _ _), hidI (by simp)⟩
      case round =>
        obtain ⟨k, hk, rfl, Hbr, Hok⟩ := hrel
        have hszr := Hbr.out.size
        by_cases hlt : k < L
        · have hks : k < (split p).length := by have := HL.out; omega
          obtain ⟨n, hn⟩ : ∃ n, (split p)[k]? = some n := ⟨_, List.getElem?_eq_getElem hks⟩
          have hmem := List.mem_of_getElem? hn
          have hcell := (Hbr.out.cell (p := ⟨w.heap.size, k, none⟩) hsz).trans (hc.out k n hn)
          have hnl := split_le p n hmem
          have HN := hidI (isName_any n wr (split_no47 p n hmem) (by omega))
          have Hn := hidI hn
          obtain ⟨T, hT⟩ : ∃ T, T = txt n := ⟨_, rfl⟩
          rw [← hT] at HN hcell
          obtain ⟨o, ho⟩ : ∃ o, o = okName n := ⟨_, rfl⟩
          rw [← ho] at HN
          have Ho := hidI ho
          clear hn hmem hT ho hnl hks
          cases o with
          | true =>
            go_wp2_with (go_at_call 32; refine HN.out.mono ?_; rintro e W ⟨hb, rfl⟩)
            go_roundw
            case rel => exact ⟨k + 1, by omega, by go_num, hidI (Hbr.out.trans (hb.mono hszr)), hidI (fun y hy => by
              rw [List.take_add_one, Hn.out] at hy
              simp at hy
              rcases hy with hy | rfl
              · exact Hok.out y hy
              · exact Ho.out.symm)⟩
            case measure => simp [intOf]; omega
          | false =>
            have HR : Hid (okPath p = false) := by
              show okPath p = false
              have h1 := HL.out
              rw [okPath_all (by omega)]
              cases h : (split p).all okName with
              | false => rfl
              | true => have := List.all_eq_true.1 h n (List.mem_of_getElem? Hn.out); rw [← Ho.out] at this; cases this
            go_wp2_with (go_at_call 32; refine HN.out.mono ?_; rintro e W ⟨hb, rfl⟩)
            go_ret
            rw [HR.out]
            exact ⟨Hb.out.trans ((Hbr.out.trans (hb.mono hszr)).mono (by omega)), rfl⟩
        · have HR : Hid (okPath p = true) := by
            show okPath p = true
            have h1 := HL.out
            have h2 := Hok.out
            rw [okPath_all (by omega), List.all_eq_true]
            rw [List.take_of_length_le (by omega)] at h2
            exact h2
          go_wp2
          go_ret
          rw [HR.out]
          exact ⟨Hb.out.trans (Hbr.out.mono (by omega)), rfl⟩
    · have HR : Hid (okPath p = false) := by
        show okPath p = false
        have h1 := HL.out
        unfold okPath
        have : decide ((split p).length ≤ 6) = false := by simp; omega
        rw [this]; rfl
      go_enter Tryd.func24, Tryd.ntmps24
      go_wp2_with (go_at_call 31; refine HS'.out.mono ?_; rintro e w' ⟨rfl, hw⟩; have Hw := hidI hw; clear hw)
      go_ret
      rw [HR.out]
      exact ⟨by rw [Hw.out]; exact (Below.refl _ w).alloc (Nat.le_refl _) _, rfl⟩
  · have HR : Hid (okPath p = false) := by
      show okPath p = false
      unfold okPath
      have : decide ((split p).length ≤ 6) = false := by simp; omega
      rw [this]; rfl
    go_enter Tryd.func24, Tryd.ntmps24
    rw [hpl] at HS'
    go_wp2_with (go_at_call 31; refine HS'.out.mono ?_; rintro e w' ⟨rfl, hw⟩; have Hw := hidI hw; clear hw)
    go_ret
    rw [HR.out]
    exact ⟨by rw [Hw.out]; exact (Below.refl _ w).alloc (Nat.le_refl _) _, rfl⟩
end Go.Proofs.YteihhjeaabjfhaaDoor
