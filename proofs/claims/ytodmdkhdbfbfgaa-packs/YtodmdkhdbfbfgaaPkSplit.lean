/- What split of package pack does. -/
import Derived.Test.YtodmdkhdbfbfgaaPkSteps
namespace Go.Proofs.Ytodmdkhdbfbfgaa
open Go.RowKit Pk
set_option linter.unusedVariables false
set_option linter.unusedSimpArgs false

/-- The state of splitting, at place a. -/
structure SS (w0 w : World) (B pb mb bb : Nat) (d : List UInt8) (a m : Nat) (v : Value) (l : List (Nat × Nat)) (mp : List UInt8 → Option Nat) (bf : Nat → Int) : Prop where
  pm : PM w B pb mb bb d m mp bf
  pi : PI d mp bf a
  own : w.ownsRow B 101 2 v l.length (stepCells l)
  bel : Below B w0 w

theorem step_row {w : World} {B : Nat} {v : Value} {n : Nat} {xs : List Value} (h : w.ownsRow B 101 2 v n xs) {pb mb bb m : Nat} {d : List UInt8} {mp : List UInt8 → Option Nat} {bf : Nat → Int} (p : PM w B pb mb bb d m mp bf) : v.ownBlock ≠ some pb ∧ v.ownBlock ≠ some mb ∧ v.ownBlock ≠ some bb := by
  obtain ⟨c, hbo, _⟩ := p.bo
  obtain ⟨D, ⟨es, ck, hmo, _⟩, _⟩ := p.mo
  have hst := p.st
  refine ⟨?_, ?_, ?_⟩
  · intro e
    obtain ⟨_, _, hk⟩ := Lib.ownsRow_kind h pb e
    rw [hst] at hk; simp at hk
  · intro e
    obtain ⟨_, _, hk⟩ := Lib.ownsRow_kind h mb e
    rw [hmo] at hk; simp at hk
  · intro e
    obtain ⟨_, _, hk⟩ := Lib.ownsRow_kind h bb e
    rw [hbo] at hk; simp at hk
theorem cell_pair_new (w : World) (a b : Value) (t : TypeId) : ∀ j u, [a, b][j]? = some u → (w.alloc (.cells #[a, b] t)).cell? ((⟨w.heap.size, 0, none⟩ : Addr).add j) = some u :=
  World.news_of_block (cs := #[a, b]) (heap_alloc_new _ _)
theorem slice_form {w : World} {B n : Nat} {e : TypeId} {size : Nat} {v : Value} {xs : List Value} (h : w.ownsRow B e size v n xs) : ∃ a c, v = .slice a n c := by
  rcases h.2 with ⟨rfl, h0⟩ | ⟨g, cap, cur, rfl, _⟩
  · rw [h0]; exact ⟨_, _, rfl⟩
  · exact ⟨_, _, rfl⟩

theorem key3_same (d : List UInt8) (c : Nat) (h : ∀ i, i < d.length → (d.getD i 0).toNat = c) (u a : Nat) (hu : u + 3 ≤ d.length) (ha : a + 3 ≤ d.length) : key3 d u = key3 d a := by
  have key : ∀ v, v + 3 ≤ d.length → key3 d v = [d.getD v 0, d.getD (v + 1) 0, d.getD (v + 2) 0] := fun v hv => by
    unfold key3
    apply List.ext_getElem?
    intro j
    by_cases hj : j < 3
    · rw [List.getElem?_take_of_lt hj, List.getElem?_drop, List.getElem?_eq_getElem (by omega)]
      have h3 : j = 0 ∨ j = 1 ∨ j = 2 := by omega
      rcases h3 with rfl | rfl | rfl <;> simp [List.getD_eq_getElem?_getD, List.getElem?_eq_getElem (show v < d.length by omega), List.getElem?_eq_getElem (show v + 1 < d.length by omega), List.getElem?_eq_getElem (show v + 2 < d.length by omega)]
    · rw [List.getElem?_eq_none (by rw [List.length_take]; omega), List.getElem?_eq_none (by simp; omega)]
  have e : ∀ i j, i < d.length → j < d.length → d.getD i 0 = d.getD j 0 := fun i j hi hj => UInt8.toNat_inj.1 ((h i hi).trans (h j hj).symm)
  rw [key u hu, key a ha, e u a (by omega) (by omega), e (u + 1) (a + 1) (by omega) (by omega), e (u + 2) (a + 2) (by omega) (by omega)]

/-- What add does, in any case. -/
def AddP (w : World) (B pb mb bb m a : Nat) (d : List UInt8) (e : Ending) (w' : World) : Prop := e = .returned (.tuple #[]) ∧ ∃ m2 mp2 bf2, m2 ≤ m + 1 ∧ PM w' B pb mb bb d m2 mp2 bf2 ∧ PI d mp2 bf2 (a + 1) ∧ FrS B w w'
theorem add_both (w : World) (B pb mb bb m a : Nat) (d : List UInt8) (mp : List UInt8 → Option Nat) (bf : Nat → Int) (hd : d.length ≤ 4000) (ha : a ≤ d.length) (hm : m ≤ 1000000) (h : PM w B pb mb bb d m mp bf) (hp : PI d mp bf a) :
    Calls Try.prog 83 #[.pointer (some ⟨pb, 0, none⟩), .int .i64 (a : Nat)] w fun e w' => AddP w B pb mb bb m a d e w' := by
  by_cases h3 : a + 3 ≤ d.length
  · refine (add_any w B pb mb bb m a d mp bf hd h3 hm h).mono ?_
    rintro e w' ⟨rfl, h1, h2⟩
    exact ⟨rfl, _, _, _, Nat.le_refl _, h1, hp.add h3, h2⟩
  · refine (add_no w B pb mb bb m a d mp bf hd ha (by omega) h).mono ?_
    rintro e w' ⟨rfl, rfl⟩
    exact ⟨rfl, _, _, _, by omega, h, hp.skip (by omega), FrS.refl _ _⟩

theorem slen_cp (len bk : Nat) (h : 3 ≤ len) : slen (len + 253, bk) = len := by
  unfold slen
  rw [if_neg (by simp; omega)]
  simp

/-- What split answers. -/
def SplitP (d : List UInt8) (w : World) (e : Ending) (w' : World) : Prop := ∃ l v, e = .returned v ∧ w'.ownsRow w.heap.size 101 2 v l.length (stepCells l) ∧ OkS d l d.length ∧ (∀ c, (∀ i, i < d.length → (d.getD i 0).toNat = c) → AS d.length c d.length l) ∧ Below w.heap.size w w'

set_option maxRecDepth 100000 in
set_option maxHeartbeats 8000000 in
theorem split_any (w : World) (d : List UInt8) (h0 : 0 < d.length) (hd : d.length ≤ 4000) : Calls Try.prog 72 #[.string (txt d)] w fun e w' => SplitP d w e w' := by
  obtain ⟨i0, hi, hz0, hz1, hz2⟩ := info_parts Try.info101
  have Hnew := hidI (new_places w d h0 hd)
  obtain ⟨t, ht⟩ : ∃ t, t = txt d := ⟨_, rfl⟩
  have hs : t.size = d.length := by rw [ht, txt_size]
  have hgd : ∀ k (h : k < t.size), (t[k]'h).toNat = (d.getD k 0).toNat := fun k h => by subst ht; rw [txt_getD]
  rw [← ht] at Hnew ⊢
  have Hs := hidI hs
  have Hgd := hidI hgd
  clear ht hs hgd
  go_enter Try.func72, Try.ntmps72
  go_wp2_with fail
  refine Hnew.out.mono ?_
  rintro e w1 ⟨pb, mb, bb, rfl, hpm, hfr⟩
  have Hss0 : Hid (SS w w1 w.heap.size pb mb bb d 0 0 (.slice none 0 0) [] (fun _ => none) (fun _ => 0)) := ⟨hpm, PI.start _ _, World.ownsRow_nil _ _ _ _, hfr.bel⟩
  clear hpm hfr Hnew
  go_wp2
  go_loopw [5, 3] (fun i v wr => ∃ a m : Nat, ∃ l mp bf, i = .int .i64 (a : Nat) ∧ a ≤ d.length ∧ m ≤ a ∧ l.length ≤ a ∧ Hid (SS w wr w.heap.size pb mb bb d a m v l mp bf) ∧ Hid (OkS d l a) ∧ Hid (∀ c, (∀ i, i < d.length → (d.getD i 0).toNat = c) → AS d.length c a l)) (fun i _ _ => d.length - (intOf i).toNat)
  case atStart => exact ⟨0, 0, [], _, _, rfl, by omega, by omega, by simp, Hss0, ⟨fun k hk => by simp at hk, rfl⟩, fun c _ => .start rfl rfl⟩
  case round =>
    clear Hss0
    obtain ⟨a, m, l, mp, bf, rfl, hal, hma, hla, Hss, Hok, Has⟩ := hrel
    have hts := Hs.out
    by_cases hlt : a < d.length
    · have g1 : a < t.size := by omega
      have e1 := Hgd.out a g1
      obtain ⟨c, hc⟩ : ∃ c, c = (d.getD a 0).toNat := ⟨_, rfl⟩
      have hc256 : c < 256 := by rw [hc]; exact UInt8.toNat_lt _
      rw [← hc] at e1
      have Hc := hidI hc
      have ht4 : t.size ≤ 4000 := by omega
      have Hts := hidI hts
      clear hts hc
      -- what longest answers, in any case
      have Hlong : Hid (Calls Try.prog 82 #[.pointer (some ⟨pb, 0, none⟩), .int .i64 (a : Nat)] wr fun e w' => ∃ len bk q : Nat, e = .returned (.tuple #[.int .i64 (len : Nat), .int .i64 (bk : Nat)]) ∧ w' = wr.drewN q ∧ ((len = 0 ∧ bk = 0 ∧ ∀ c, (∀ i, i < d.length → (d.getD i 0).toNat = c) → d.length < a + 3 ∨ a = 0) ∨ (Good d a len bk ∧ ∀ c, (∀ i, i < d.length → (d.getD i 0).toNat = c) → len = min 34 (d.length - a)))) := by
        by_cases h3 : a + 3 ≤ d.length
        · refine (longest_any wr w.heap.size pb mb bb m a d mp bf hd h3 Hss.out.pm Hss.out.pi).mono ?_
          rintro e w' ⟨len, bk, q, rfl, rfl, hg, hlow⟩
          have hall : ∀ c, (∀ i, i < d.length → (d.getD i 0).toNat = c) → 0 < a → min 34 (d.length - a) ≤ len := fun c hc ha => by
            obtain ⟨u, hu⟩ := Hss.out.pi.all (a - 1) (by omega) (by omega)
            have hk : key3 d (a - 1) = key3 d a := key3_same d c hc (a - 1) a (by omega) h3
            rw [hk] at hu
            have hul := Hss.out.pi.lt _ _ hu
            exact hlow u hu fun j hj => UInt8.toNat_inj.1 ((hc _ (by omega)).trans (hc _ hj).symm)
          refine ⟨len, bk, q, rfl, rfl, ?_⟩
          rcases hg with ⟨g1, g2⟩ | g
          · refine .inl ⟨g1, g2, fun c hc => ?_⟩
            by_cases e0 : a = 0
            · exact .inr e0
            · have := hall c hc (by omega); omega
          · refine .inr ⟨g, fun c hc => ?_⟩
            have h1 := hall c hc (by have := g.b1; have := g.b2; omega)
            have h2 := g.hi
            have h4 := g.fit
            omega
        · refine (longest_no wr w.heap.size pb mb bb m a d mp bf hd (by omega) (by omega) Hss.out.pm).mono ?_
          rintro e w' ⟨rfl, rfl⟩
          exact ⟨0, 0, 0, rfl, rfl, .inl ⟨rfl, rfl, fun _ _ => .inl (by omega)⟩⟩
      go_wp2_with fail
      refine Hlong.out.mono ?_
      rintro e w2 ⟨len, bk, q, rfl, rfl, hres⟩
      have hpm2 := Hss.out.pm.drewN q
      have hown2 := Hss.out.own
      obtain ⟨va, vc, hv⟩ := slice_form hown2
      subst hv
      have Hrow := hidI (step_row hown2 Hss.out.pm)
      have Hpm2 := hidI hpm2
      have Hpi2 := hidI Hss.out.pi
      have Hown2 : Hid ((wr.drewN q).ownsRow w.heap.size 101 2 (.slice va l.length vc) l.length (stepCells l)) := hown2
      have Hbel2 := hidI (below_drewN Hss.out.bel q)
      have hszq : w.heap.size ≤ (wr.drewN q).heap.size := Hbel2.out.size
      clear hpm2 hown2 Hlong Hss
      generalize wr.drewN q = W at *
      rcases hres with ⟨rfl, rfl, hlit⟩ | ⟨hgood, hcp⟩
      · have Hlit := hidI hlit
        clear hlit
        have hl2 : l.length + 1 ≤ 4001 := by omega
        go_wp2_with (at_builtin; refine wpList_append_lies _ rfl _ _ 92 rfl w.heap.size 101 i0 _ 2 16 Try.underlying92 hi hz0 hz1 hz2 rfl (by decide) (.slice va l.length vc) l.length (stepCells l) rfl (Hown2.out.alloc _) ⟨W.heap.size, 0, none⟩ 1 1 [.int .i64 (c : Nat), .int .i64 0] rfl rfl (cell_pair_new W _ _ _) (by intro u hu; simp at hu; rcases hu with rfl | rfl <;> rfl) (by omega) (by unfold maxLen; omega) (by omega) (by simp; omega) (W.heap.size + 1) (by simp) ?_)
        intro g2 cap2 w3 hown3 hgrow3 hat3 hlt3
        have hpm3a := Hpm2.out.kept (World.grownBy_alloc W (.cells #[.int .i64 (c : Nat), .int .i64 0] 101) none) (by simp) (by simp) (by simp)
        have Hpm3 := hidI (hpm3a.kept hgrow3 Hrow.out.1 Hrow.out.2.1 Hrow.out.2.2)
        have Hbel3 : Hid (Below w.heap.size w w3) := (Hbel2.out.alloc hszq _).grown hgrow3 (by simp; omega) (fun k hk => (Hown2.out.lt k hk).1)
        have Hown3 : Hid (w3.ownsRow w.heap.size 101 2 (.slice (some ⟨g2, 0, none⟩) (l.length + 1) cap2) (l.length + 1) (stepCells (l ++ [(c, 0)]))) := by
          show w3.ownsRow _ _ _ _ _ _
          rw [stepCells_append]; exact hown3
        have Hok3 : Hid (OkS d (l ++ [(c, 0)]) (a + 1)) := Hok.out.snoc (c, 0) ⟨by simp; omega, by simp [slen, hc256]; omega, fun _ => Hc.out.symm, fun h => absurd hc256 h⟩ |> fun h => by
          have : slen (c, 0) = 1 := by simp [slen, hc256]
          rw [this] at h; exact h
        have Has3 : Hid (∀ c2, (∀ i, i < d.length → (d.getD i 0).toNat = c2) → AS d.length c2 (a + 1) (l ++ [(c, 0)])) := fun c2 hc2 => by
          have e : c = c2 := Hc.out.trans (hc2 a hlt)
          subst e
          exact (Has.out c hc2).lit hc256 hlt (Hlit.out c hc2)
        have hfit : a + 1 ≤ d.length ∧ 1 ≤ 34 ∧ 1 ≤ 1 := by omega
        clear hpm3a hown3 hgrow3 hat3 hlt3 Hown2 Hpm2 Hbel2 Hrow
        go_wp2
        go_loopw [38, 5] (fun i j wq => ∃ k m2 : Nat, ∃ mp2 bf2, i = .int .i64 (k : Nat) ∧ j = .int .i64 ((a : Int) + (k : Int)) ∧ k ≤ 1 ∧ m2 ≤ a + k ∧ Hid (PM wq w.heap.size pb mb bb d m2 mp2 bf2) ∧ Hid (PI d mp2 bf2 (a + k)) ∧ Hid (wq.ownsRow w.heap.size 101 2 (.slice (some ⟨g2, 0, none⟩) (l.length + 1) cap2) (l.length + 1) (stepCells (l ++ [(c, 0)]))) ∧ Hid (Below w.heap.size w wq)) (fun i _ _ => 1 - (intOf i).toNat)
        case atStart => exact ⟨0, m, mp, bf, rfl, by go_num, by omega, by omega, Hpm3, Hpi2, Hown3, Hbel3⟩
        case round =>
          clear Hpm3 Hpi2 Hown3 Hbel3
          obtain ⟨k, m2, mp2, bf2, rfl, rfl, hk, hm2, Hpm, Hpi, Hown, Hbel⟩ := hrel
          by_cases hkl : k < 1
          · have hcall := add_both wr w.heap.size pb mb bb m2 (a + k) d mp2 bf2 hd (by omega) (by omega) Hpm.out Hpi.out
            rw [show ((a + k : Nat) : Int) = (a : Int) + (k : Int) by omega] at hcall
            have Hcall := hidI hcall
            clear hcall
            go_wp2_with fail
            refine Hcall.out.mono ?_
            rintro e w4 ⟨rfl, m3, mp3, bf3, hm3, hpm4, hpi4, hfr4⟩
            have Hpm4 := hidI hpm4
            have Hpi4 : Hid (PI d mp3 bf3 (a + (k + 1))) := hpi4
            have Hown4 := hidI (hfr4.steps.ownN Hown.out)
            have Hbel4 := hidI (Hbel.out.trans hfr4.bel)
            clear hpm4 hpi4 hfr4 Hcall Hpm Hpi Hown Hbel
            go_wp2
            go_roundw
            case rel => exact ⟨k + 1, m3, mp3, bf3, by go_num, by go_num, by omega, by omega, Hpm4, Hpi4, Hown4, Hbel4⟩
            case measure => simp [intOf]; omega
          · have hke : k = 1 := by omega
            have Hend : Hid (SS w wr w.heap.size pb mb bb d (a + k) m2 (.slice (some ⟨g2, 0, none⟩) (l.length + 1) cap2) (l ++ [(c, 0)]) mp2 bf2) := ⟨Hpm.out, Hpi.out, by rw [List.length_append]; exact Hown.out, Hbel.out⟩
            have Hok4 : Hid (OkS d (l ++ [(c, 0)]) (a + k)) := by rw [hke]; exact Hok3
            have Has4 : Hid (∀ c2, (∀ i, i < d.length → (d.getD i 0).toNat = c2) → AS d.length c2 (a + k) (l ++ [(c, 0)])) := by rw [hke]; exact Has3
            clear Hpm Hpi Hown Hbel
            go_wp2
            go_roundw
            case rel => exact ⟨a + k, m2, _, mp2, bf2, by go_num, by omega, by omega, by simp; omega, Hend, Hok4, Has4⟩
            case measure => simp [intOf]; omega
      · have hlen0 : ((len : Int) == 0) = false := by have := hgood.lo; simp; omega
        have hlen34 : len ≤ 34 := hgood.hi
        have hbk4 : bk ≤ 4000 := by have := hgood.b2; omega
        have Hgood := hidI hgood
        have Hcp := hidI hcp
        clear hgood hcp
        have hl2 : l.length + 1 ≤ 4001 := by omega
        go_wp2_with (at_builtin; refine wpList_append_lies _ rfl _ _ 92 rfl w.heap.size 101 i0 _ 2 16 Try.underlying92 hi hz0 hz1 hz2 rfl (by decide) (.slice va l.length vc) l.length (stepCells l) rfl (Hown2.out.alloc _) ⟨W.heap.size, 0, none⟩ 1 1 [.int .i64 ((len : Int) + 253), .int .i64 (bk : Nat)] rfl rfl (cell_pair_new W _ _ _) (by intro u hu; simp at hu; rcases hu with rfl | rfl <;> rfl) (by omega) (by unfold maxLen; omega) (by omega) (by simp; omega) (W.heap.size + 1) (by simp) ?_)
        intro g2 cap2 w3 hown3 hgrow3 hat3 hlt3
        have hpm3a := Hpm2.out.kept (World.grownBy_alloc W (.cells #[.int .i64 ((len : Int) + 253), .int .i64 (bk : Nat)] 101) none) (by simp) (by simp) (by simp)
        have Hpm3 := hidI (hpm3a.kept hgrow3 Hrow.out.1 Hrow.out.2.1 Hrow.out.2.2)
        have Hbel3 : Hid (Below w.heap.size w w3) := (Hbel2.out.alloc hszq _).grown hgrow3 (by simp; omega) (fun k hk => (Hown2.out.lt k hk).1)
        have Hown3 : Hid (w3.ownsRow w.heap.size 101 2 (.slice (some ⟨g2, 0, none⟩) (l.length + 1) cap2) (l.length + 1) (stepCells (l ++ [(len + 253, bk)]))) := by
          show w3.ownsRow _ _ _ _ _ _
          rw [stepCells_append]; exact hown3
        have Hok3 : Hid (OkS d (l ++ [(len + 253, bk)]) (a + len)) := Hok.out.snoc (len + 253, bk) ⟨by have := Hgood.out.hi; simp; omega, by rw [slen_cp len bk Hgood.out.lo]; exact Hgood.out.fit, fun h => by have := Hgood.out.lo; simp at h; omega, fun _ => ⟨Hgood.out.b1, by have := Hgood.out.b2; simp; omega, Hgood.out.b2, fun i hi => Hgood.out.same i (by simpa using hi)⟩⟩ |> fun h => by
          have : slen (len + 253, bk) = len := slen_cp len bk Hgood.out.lo
          rw [this] at h; exact h
        have Has3 : Hid (∀ c2, (∀ i, i < d.length → (d.getD i 0).toNat = c2) → AS d.length c2 (a + len) (l ++ [(len + 253, bk)])) := fun c2 hc2 => (Has.out c2 hc2).cp (by have := Hgood.out.fit; have := Hgood.out.lo; omega) (by have := Hgood.out.b1; have := Hgood.out.b2; omega) (Hcp.out c2 hc2)
        have hfit : a + len ≤ d.length ∧ len ≤ 34 ∧ 1 ≤ len := by have := Hgood.out.fit; have := Hgood.out.hi; have := Hgood.out.lo; omega
        clear hpm3a hown3 hgrow3 hat3 hlt3 Hown2 Hpm2 Hbel2 Hrow
        go_wp2
        go_loopw [38, 5] (fun i j wq => ∃ k m2 : Nat, ∃ mp2 bf2, i = .int .i64 (k : Nat) ∧ j = .int .i64 ((a : Int) + (k : Int)) ∧ k ≤ len ∧ m2 ≤ a + k ∧ Hid (PM wq w.heap.size pb mb bb d m2 mp2 bf2) ∧ Hid (PI d mp2 bf2 (a + k)) ∧ Hid (wq.ownsRow w.heap.size 101 2 (.slice (some ⟨g2, 0, none⟩) (l.length + 1) cap2) (l.length + 1) (stepCells (l ++ [(len + 253, bk)]))) ∧ Hid (Below w.heap.size w wq)) (fun i _ _ => len - (intOf i).toNat)
        case atStart => exact ⟨0, m, mp, bf, rfl, by go_num, by omega, by omega, Hpm3, Hpi2, Hown3, Hbel3⟩
        case round =>
          clear Hpm3 Hpi2 Hown3 Hbel3
          obtain ⟨k, m2, mp2, bf2, rfl, rfl, hk, hm2, Hpm, Hpi, Hown, Hbel⟩ := hrel
          by_cases hkl : k < len
          · have hcall := add_both wr w.heap.size pb mb bb m2 (a + k) d mp2 bf2 hd (by omega) (by omega) Hpm.out Hpi.out
            rw [show ((a + k : Nat) : Int) = (a : Int) + (k : Int) by omega] at hcall
            have Hcall := hidI hcall
            clear hcall
            go_wp2_with fail
            refine Hcall.out.mono ?_
            rintro e w4 ⟨rfl, m3, mp3, bf3, hm3, hpm4, hpi4, hfr4⟩
            have Hpm4 := hidI hpm4
            have Hpi4 : Hid (PI d mp3 bf3 (a + (k + 1))) := hpi4
            have Hown4 := hidI (hfr4.steps.ownN Hown.out)
            have Hbel4 := hidI (Hbel.out.trans hfr4.bel)
            clear hpm4 hpi4 hfr4 Hcall Hpm Hpi Hown Hbel
            go_wp2
            go_roundw
            case rel => exact ⟨k + 1, m3, mp3, bf3, by go_num, by go_num, by omega, by omega, Hpm4, Hpi4, Hown4, Hbel4⟩
            case measure => simp [intOf]; omega
          · have hke : k = len := by omega
            have Hend : Hid (SS w wr w.heap.size pb mb bb d (a + k) m2 (.slice (some ⟨g2, 0, none⟩) (l.length + 1) cap2) (l ++ [(len + 253, bk)]) mp2 bf2) := ⟨Hpm.out, Hpi.out, by rw [List.length_append]; exact Hown.out, Hbel.out⟩
            have Hok4 : Hid (OkS d (l ++ [(len + 253, bk)]) (a + k)) := by rw [hke]; exact Hok3
            have Has4 : Hid (∀ c2, (∀ i, i < d.length → (d.getD i 0).toNat = c2) → AS d.length c2 (a + k) (l ++ [(len + 253, bk)])) := by rw [hke]; exact Has3
            clear Hpm Hpi Hown Hbel
            go_wp2
            go_roundw
            case rel => exact ⟨a + k, m2, _, mp2, bf2, by go_num, by omega, by omega, by simp; omega, Hend, Hok4, Has4⟩
            case measure => simp [intOf]; omega
    · have haq : a = d.length := by omega
      have g1 : ¬ a < t.size := by omega
      have Hts := hidI hts
      have Haq := hidI haq
      clear hts haq
      go_wp2
      go_ret
      refine ⟨l, _, rfl, Hss.out.own, ?_, ?_, Hss.out.bel⟩
      · rw [← Haq.out]; exact Hok.out
      · intro c hc
        have := Has.out c hc
        rw [Haq.out] at this; exact this
end Go.Proofs.Ytodmdkhdbfbfgaa
