/- nandlaw.Checks of any list of items returns true, and writes nothing that was there: the walk. -/
import Derived.Test.YtodmdkhdbfbfgaaDoorLent
namespace Go.Proofs.YtodmdkhdbfbfgaaDoor
open Go.RowKit Go.Nt
set_option linter.unusedVariables false

/-- What Check answers. -/
def ansL (l : List It) : List It := if isTree l then inOrder l else []
def ansE (l : List It) : Int := if isTree l then 0 else 3

/-- The answer as it lies in memory. -/
def AnsC (w w' : World) (m : List It) (er : Int) (e : Ending) : Prop :=
  Below w.heap.size w w' ∧ ∃ a c, e = .returned (.tuple #[.slice a m.length c, .int .i64 er]) ∧ w'.ownsRow w.heap.size 24 5 (.slice a m.length c) m.length (its m)

theorem ans_of {w w' : World} {l : List It} {e : Ending} (h : Below w.heap.size w w' ∧ ((isTree l = false ∧ e = .returned (.tuple #[.slice none 0 0, .int .i64 3])) ∨ (isTree l = true ∧ ∃ v, e = .returned (.tuple #[v, .int .i64 0]) ∧ w'.ownsRow w.heap.size 24 5 v l.length (its (inOrder l))))) : AnsC w w' (ansL l) (ansE l) e := by
  obtain ⟨hb, ⟨ht, rfl⟩ | ⟨ht, v, rfl, hr⟩⟩ := h
  · refine ⟨hb, none, 0, ?_, ?_⟩
    · simp [ansL, ansE, ht]
    · have e : ansL l = [] := by simp [ansL, ht]
      rw [e]
      exact World.ownsRow_nil _ _ _ _
  · have e : ansL l = inOrder l := by simp [ansL, ht]
    have e2 : ansE l = 0 := by simp [ansE, ht]
    rw [e, e2]
    have hr' : w'.ownsRow w.heap.size 24 5 v (inOrder l).length (its (inOrder l)) := by rw [order_length]; exact hr
    obtain ⟨a, c, rfl, _⟩ := own_in hr'
    exact ⟨hb, a, c, rfl, hr'⟩

theorem ansL_le (l : List It) : (ansL l).length ≤ 60 := by
  unfold ansL
  split
  · rename_i h
    rw [order_length]
    unfold isTree at h
    simp only [Bool.and_eq_true, decide_eq_true_eq] at h
    exact h.1.1.1
  · simp

theorem ref_ans (a : Option Addr) (c : Nat) (l : List It) (w : World) (hl : ItsIn w a l) (hn : l.length ≤ 1048576) (hp : ∀ x ∈ l, x.path.length ≤ 1048576) :
    Calls Tryd.prog 7 #[.slice a l.length c] w fun e w' => AnsC w w' (ansL l) (ansE l) e := (refCheck_any a c l w hl hn hp).mono fun _ _ h => ans_of h
theorem chk_ans (a : Option Addr) (c : Nat) (l : List It) (w : World) (hml : ML w) (hl : ItsIn w a l) (hn : l.length ≤ 1048576) (hp : ∀ x ∈ l, x.path.length ≤ 1048576) (hd : ∀ x ∈ l, x.data.length ≤ 1048576) :
    Calls Tryd.prog 4 #[.slice a l.length c] w fun e w' => AnsC w w' (ansL l) (ansE l) e := (check_any a c l w hml hl hn hp hd).mono fun _ _ h => ans_of h

theorem own_its {w : World} {B : Nat} {a : Option Addr} {c : Nat} {m : List It} (h : w.ownsRow B 24 5 (.slice a m.length c) m.length (its m)) : ItsIn w a m := by
  obtain ⟨a', c', e, h'⟩ := own_in h
  cases e
  exact h'

theorem own_drewN {w : World} {base : Nat} {e : TypeId} {size : Nat} {v : Value} {n : Nat} {xs : List Value} (h : w.ownsRow base e size v n xs) (q : Nat) : (w.drewN q).ownsRow base e size v n xs := by
  obtain ⟨hl, h⟩ := h
  refine ⟨hl, ?_⟩
  have hh : (w.drewN q).heap = w.heap := by simp
  rw [hh]; exact h

theorem below_to_drewN {B : Nat} {w w' : World} {q : Nat} (h : Below B (w.drewN q) w') : Below B w w' := (below_drewN (Below.refl _ _) q).trans h

/-- A tree of one file. -/
def oneIt : It := ⟨[102], false, [120], 7, 8⟩
theorem one_tree : isTree [oneIt] = true := by decide +kernel
theorem one_ans : ansL [oneIt] = [oneIt] ∧ ansE [oneIt] = 0 := by
  unfold ansL ansE
  rw [one_tree]
  exact ⟨by simp [inOrder], rfl⟩

set_option maxRecDepth 100000 in
set_option maxHeartbeats 4000000 in
theorem checks_walk (a : Option Addr) (c : Nat) (l : List It) (w : World) (hml : ML w) (hl : ItsIn w a l) (hnil : a = none → l = []) (hn : l.length ≤ 1048576) (hp : ∀ x ∈ l, x.path.length ≤ 1048576) (hd : ∀ x ∈ l, x.data.length ≤ 1048576) :
    Calls Tryd.prog 3 #[.slice a l.length c] w fun e w' => e = .returned (.bool true) ∧ Below w.heap.size w w' := by
  have hb0 : Below w.heap.size w (boxed w oneIt) := (Below.refl _ w).alloc (Nat.le_refl _) _
  have hin1 : ItsIn (boxed w oneIt) (some ⟨w.heap.size, 0, none⟩) [oneIt] := fun _ => ⟨w.heap.size, 0, rfl, fun k x hx => by
    have hk : k = 0 := by have := (List.getElem?_eq_some_iff.1 hx).1; simp at this; omega
    subst hk
    simp at hx
    subst hx
    exact boxed_at w oneIt⟩
  have HC1 := hidI (chk_ans (some ⟨w.heap.size, 0, none⟩) 1 [oneIt] (boxed w oneIt) (hml.below hb0 hml.lt) hin1 (by simp) (by intro x hx; simp at hx; subst hx; decide) (by intro x hx; simp at hx; subst hx; decide))
  rw [one_ans.1, one_ans.2] at HC1
  have Hin1 := hidI hin1
  have Hml := hidI hml
  have h0 := hml.lt
  have Hl := hidI hl
  have Hp := hidI hp
  have Hd := hidI hd
  have Hnil := hidI hnil
  have hnl := fun (wx : World) (x : Option Addr) (l c : Nat) => Lib.run_eql_slice_nil (P := Tryd.prog) wx 22 24 x l c 0 0 Tryd.underlying22
  clear hml hl hp hd hnil hin1
  go_enter Tryd.func3, Tryd.ntmps3
  go_wp2_with fail
  refine HC1.out.mono ?_
  rintro e w1 ⟨hb1, a1, c1, rfl, ho1⟩
  have hsb : (boxed w oneIt).heap.size = w.heap.size + 1 := by simp [boxed]
  rw [hsb] at hb1
  have hs1 := hb1.size
  rw [hsb] at hs1
  have hbw1 : Below w.heap.size w w1 := hb0.trans (hb1.mono (by omega))
  have HS1 := hidI (same_any a1 (some ⟨w.heap.size, 0, none⟩) c1 1 [oneIt] [oneIt] w1 (own_its ho1) (by
    intro _
    refine ⟨w.heap.size, 0, rfl, fun k x hx => ?_⟩
    have hk : k = 0 := by have := (List.getElem?_eq_some_iff.1 hx).1; simp at this; omega
    subst hk
    simp at hx
    subst hx
    exact (boxed_at w oneIt).below hb1 (by omega)) (by simp) (by simp))
  rw [decide_eq_true rfl] at HS1
  clear ho1 hb1 HC1 Hin1 hb0 hsb
  go_wp2_with fail
  refine HS1.out.mono ?_
  rintro e w2 ⟨rfl, q1, hw2⟩
  have hbw2 : Below w.heap.size w w2 := by rw [hw2]; exact below_drewN hbw1 q1
  clear hw2 HS1 hbw1 hs1 w1
  have HLent := hidI (lent_any a c l w2 (Hl.out.below hbw2) hn)
  go_wp2_with fail
  refine HLent.out.mono ?_
  rintro e w3 ⟨rfl, hb3, hblk3⟩
  have hs2 := hbw2.size
  have hs3 := hb3.size
  have hG3 : w2.heap.size < w3.heap.size := lt_of_heap hblk3
  have hbw3 : Below w.heap.size w w3 := hbw2.trans (hb3.mono hs2)
  obtain ⟨G, hG⟩ : ∃ G, G = w2.heap.size := ⟨_, rfl⟩
  rw [← hG] at hblk3 hG3 ⊢
  have hGw : w.heap.size ≤ G := by omega
  clear hb3 hbw2 HLent hs2 hs3 hG
  obtain ⟨m, hm⟩ : ∃ m, m = ansL l := ⟨_, rfl⟩
  obtain ⟨er, her⟩ : ∃ er, er = ansE l := ⟨_, rfl⟩
  have hm60 : m.length ≤ 60 := by rw [hm]; exact ansL_le l
  have HR := hidI (fun W (h : ItsIn W a l) => ref_ans a c l W h hn Hp.out)
  rw [← hm, ← her] at HR
  have hrefl : (er == er) = true := by simp
  have hn' := hn
  obtain ⟨n, hln⟩ : ∃ n, n = l.length := ⟨_, rfl⟩
  have Hblk3 := hidI hblk3
  clear hblk3
  have Hln := hidI hln
  by_cases hnone : a.isNone = true
  · have hl0 : l = [] := Hnil.out (by simpa using hnone)
    have HA : Hid (∀ W : World, BlockIs W G (l ++ mks 2 (-77)) → ML W → Calls Tryd.prog 4 #[.slice none 0 0] W fun e w' => AnsC W w' m er e) := fun W hW hmW => by
      have h := chk_ans none 0 [] W hmW (fun h => absurd rfl h) (by simp) (by simp) (by simp)
      rw [hm, her, hl0]
      exact h
    rw [← hln] at HR ⊢
    clear hl0
    clear hm her hln hn' Hnil
    have Hasl := hidI (fun W (h1 : BlockIs W G (l ++ mks 2 (-77))) (h2 : ItsIn W a l) => asLent_any G a c l W h1 h2 hn)
    rw [← Hln.out] at Hasl
    go_wp2_with fail
    refine (HR.out w3 (Hl.out.below hbw3)).mono ?_
    rintro e w4 ⟨hb4, a4, c4, rfl, ho4⟩
    have hs4 := hb4.size
    have Ht4 := hidI (own_its ho4)
    have Hblk4 := hidI (Hblk3.out.below hb4 hG3)
    have hbw4 : Below w.heap.size w w4 := hbw3.trans (hb4.mono (by omega))
    clear ho4 hb4 Hblk3 hbw3 HR
    go_wp2_with fail
    refine (HA.out w4 Hblk4.out (Hml.out.below hbw4 h0)).mono ?_
    rintro e w5 ⟨hb5, a5, c5, rfl, ho5⟩
    have hs5 := hb5.size
    have HS5 := hidI (same_any a5 a4 c5 c4 m m w5 (own_its ho5) (Ht4.out.below hb5) (by omega) (by omega))
    rw [decide_eq_true rfl] at HS5
    have Ho5 := hidI ho5
    clear ho5
    go_wp2_with fail
    refine HS5.out.mono ?_
    rintro e w5' ⟨rfl, q5, hw5⟩
    have HO5 := hidI (own_any a5 c5 w4.heap.size m (-1) w5' (by omega) (by rw [hw5]; simpa using hs5) (by rw [hw5]; exact own_drewN Ho5.out q5))
    have hb45' : Below w4.heap.size w4 w5' := by rw [hw5]; exact below_drewN hb5 q5
    clear hw5 HS5 Ho5 hb5
    go_wp2_with fail
    refine HO5.out.mono ?_
    rintro e w6 ⟨v6, rfl, hm6, hb6⟩
    have hb46 : Below w4.heap.size w4 w6 := hb45'.trans hb6
    have hs6 := hb46.size
    have Hblk6 := hidI (Hblk4.out.below hb46 (by omega))
    have hbw6 : Below w.heap.size w w6 := hbw4.trans (hb46.mono (by omega))
    have Hm6 := hidI hm6
    clear hb6 hb45' HO5 Hblk4 hm6
    go_wp2_with fail
    refine (HA.out w6 Hblk6.out (Hml.out.below hbw6 h0)).mono ?_
    rintro e w7 ⟨hb7, a7, c7, rfl, ho7⟩
    have hs7 := hb7.size
    have HS7 := hidI (same_any a7 a4 c7 c4 m m w7 (own_its ho7) (Ht4.out.below (hb46.trans (hb7.mono hs6))) (by omega) (by omega))
    rw [decide_eq_true rfl] at HS7
    have Ho7 := hidI ho7
    clear ho7
    go_wp2_with fail
    refine HS7.out.mono ?_
    rintro e w7' ⟨rfl, q7, hw7⟩
    have HO7 := hidI (own_any a7 c7 w6.heap.size m (-2) w7' (by omega) (by rw [hw7]; simpa using hs7) (by rw [hw7]; exact own_drewN Ho7.out q7))
    have hb67' : Below w6.heap.size w6 w7' := by rw [hw7]; exact below_drewN hb7 q7
    clear hw7 HS7 Ho7 hb7 hb46
    go_wp2_with fail
    refine HO7.out.mono ?_
    rintro e w8 ⟨v8, rfl, hm8, hb8⟩
    have hb68 : Below w6.heap.size w6 w8 := hb67'.trans hb8
    have hs8 := hb68.size
    have Hblk8 := hidI (Hblk6.out.below hb68 (by omega))
    have hbw8 : Below w.heap.size w w8 := hbw6.trans (hb68.mono (by omega))
    have Hm68 := hidI (Hm6.out.below hb68)
    have Hm8 := hidI hm8
    clear hb8 hb67' HO7 Hblk6 hm8 Hm6 hb68
    go_wp2_with fail
    refine (kept_any v6 m.length _ (-1) w8 (by omega) Hm68.out).mono ?_
    rintro e w9 ⟨rfl, hw9⟩
    have hw9' := hw9.symm
    subst hw9'
    go_wp2_with fail
    refine (kept_any v8 m.length _ (-2) _ (by omega) Hm8.out).mono ?_
    rintro e w10 ⟨rfl, hw10⟩
    have hw10' := hw10.symm
    subst hw10'
    clear Hm68 Hm8
    go_wp2_with fail
    refine (Hasl.out _ Hblk8.out (Hl.out.below hbw8)).mono ?_
    rintro e w11 ⟨rfl, q11, hw11⟩
    have HB := hidI (below_drewN hbw8 q11)
    rw [← hw11] at HB
    clear hw11 hbw8 hbw6 hbw4
    go_wp2
    go_ret
    exact ⟨rfl, HB.out⟩
  · have hnone' : a.isNone = false := by cases h : a.isNone <;> simp_all
    clear hnone
    have HA : Hid (∀ W : World, BlockIs W G (l ++ mks 2 (-77)) → ML W → Calls Tryd.prog 4 #[.slice (some ⟨G, 0, none⟩) n (n + 2)] W fun e w' => AnsC W w' m er e) := fun W hW hmW => by
      have h := chk_ans (some ⟨G, 0, none⟩) (n + 2) l W hmW hW.front hn Hp.out Hd.out
      rw [hm, her, hln]
      rw [hln] at h
      exact h
    rw [← hln] at HR ⊢
    clear hm her hln hn' Hnil
    have Hasl := hidI (fun W (h1 : BlockIs W G (l ++ mks 2 (-77))) (h2 : ItsIn W a l) => asLent_any G a c l W h1 h2 hn)
    rw [← Hln.out] at Hasl
    go_wp2_with fail
    refine (HR.out w3 (Hl.out.below hbw3)).mono ?_
    rintro e w4 ⟨hb4, a4, c4, rfl, ho4⟩
    have hs4 := hb4.size
    have Ht4 := hidI (own_its ho4)
    have Hblk4 := hidI (Hblk3.out.below hb4 hG3)
    have hbw4 : Below w.heap.size w w4 := hbw3.trans (hb4.mono (by omega))
    clear ho4 hb4 Hblk3 hbw3 HR
    go_wp2_with fail
    refine (HA.out w4 Hblk4.out (Hml.out.below hbw4 h0)).mono ?_
    rintro e w5 ⟨hb5, a5, c5, rfl, ho5⟩
    have hs5 := hb5.size
    have HS5 := hidI (same_any a5 a4 c5 c4 m m w5 (own_its ho5) (Ht4.out.below hb5) (by omega) (by omega))
    rw [decide_eq_true rfl] at HS5
    have Ho5 := hidI ho5
    clear ho5
    go_wp2_with fail
    refine HS5.out.mono ?_
    rintro e w5' ⟨rfl, q5, hw5⟩
    have HO5 := hidI (own_any a5 c5 w4.heap.size m (-1) w5' (by omega) (by rw [hw5]; simpa using hs5) (by rw [hw5]; exact own_drewN Ho5.out q5))
    have hb45' : Below w4.heap.size w4 w5' := by rw [hw5]; exact below_drewN hb5 q5
    clear hw5 HS5 Ho5 hb5
    go_wp2_with fail
    refine HO5.out.mono ?_
    rintro e w6 ⟨v6, rfl, hm6, hb6⟩
    have hb46 : Below w4.heap.size w4 w6 := hb45'.trans hb6
    have hs6 := hb46.size
    have Hblk6 := hidI (Hblk4.out.below hb46 (by omega))
    have hbw6 : Below w.heap.size w w6 := hbw4.trans (hb46.mono (by omega))
    have Hm6 := hidI hm6
    clear hb6 hb45' HO5 Hblk4 hm6
    go_wp2_with fail
    refine (HA.out w6 Hblk6.out (Hml.out.below hbw6 h0)).mono ?_
    rintro e w7 ⟨hb7, a7, c7, rfl, ho7⟩
    have hs7 := hb7.size
    have HS7 := hidI (same_any a7 a4 c7 c4 m m w7 (own_its ho7) (Ht4.out.below (hb46.trans (hb7.mono hs6))) (by omega) (by omega))
    rw [decide_eq_true rfl] at HS7
    have Ho7 := hidI ho7
    clear ho7
    go_wp2_with fail
    refine HS7.out.mono ?_
    rintro e w7' ⟨rfl, q7, hw7⟩
    have HO7 := hidI (own_any a7 c7 w6.heap.size m (-2) w7' (by omega) (by rw [hw7]; simpa using hs7) (by rw [hw7]; exact own_drewN Ho7.out q7))
    have hb67' : Below w6.heap.size w6 w7' := by rw [hw7]; exact below_drewN hb7 q7
    clear hw7 HS7 Ho7 hb7 hb46
    go_wp2_with fail
    refine HO7.out.mono ?_
    rintro e w8 ⟨v8, rfl, hm8, hb8⟩
    have hb68 : Below w6.heap.size w6 w8 := hb67'.trans hb8
    have hs8 := hb68.size
    have Hblk8 := hidI (Hblk6.out.below hb68 (by omega))
    have hbw8 : Below w.heap.size w w8 := hbw6.trans (hb68.mono (by omega))
    have Hm68 := hidI (Hm6.out.below hb68)
    have Hm8 := hidI hm8
    clear hb8 hb67' HO7 Hblk6 hm8 Hm6 hb68
    go_wp2_with fail
    refine (kept_any v6 m.length _ (-1) w8 (by omega) Hm68.out).mono ?_
    rintro e w9 ⟨rfl, hw9⟩
    have hw9' := hw9.symm
    subst hw9'
    go_wp2_with fail
    refine (kept_any v8 m.length _ (-2) _ (by omega) Hm8.out).mono ?_
    rintro e w10 ⟨rfl, hw10⟩
    have hw10' := hw10.symm
    subst hw10'
    clear Hm68 Hm8
    go_wp2_with fail
    refine (Hasl.out _ Hblk8.out (Hl.out.below hbw8)).mono ?_
    rintro e w11 ⟨rfl, q11, hw11⟩
    have HB := hidI (below_drewN hbw8 q11)
    rw [← hw11] at HB
    clear hw11 hbw8 hbw6 hbw4
    go_wp2
    go_ret
    exact ⟨rfl, HB.out⟩
end Go.Proofs.YtodmdkhdbfbfgaaDoor
