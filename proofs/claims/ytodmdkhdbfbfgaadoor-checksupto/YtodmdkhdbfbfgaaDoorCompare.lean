/- What compare returns: two paths, name by name. -/
import Derived.Test.YtodmdkhdbfbfgaaDoorItem
namespace Go.Proofs.YtodmdkhdbfbfgaaDoor
open Go.RowKit Go.Nt
set_option linter.unusedVariables false

theorem less_bytes : ∀ a b : Bs, Op.bytesLess a b = ltS a b
  | [], [] => rfl
  | [], _ :: _ => rfl
  | _ :: _, [] => rfl
  | x :: a, y :: b => by
    unfold Op.bytesLess ltS
    have ih := less_bytes a b
    by_cases h : x = y
    · subst h
      simp [ih]
    · have h3 : x.toNat ≠ y.toNat := fun e => h (UInt8.toNat_inj.1 e)
      simp [h, ih, UInt8.lt_iff_toNat_lt]

theorem ltS_irrefl : ∀ a, ltS a a = false
  | [] => rfl
  | x :: a => by simp [ltS, ltS_irrefl a]
theorem ltS_total : ∀ a b, ltS a b = false → ltS b a = false → a = b
  | [], [], _, _ => rfl
  | [], _ :: _, h, _ => by simp [ltS] at h
  | _ :: _, [], _, h => by simp [ltS] at h
  | x :: a, y :: b, h, h' => by
    unfold ltS at h h'
    by_cases e : x = y
    · subst e
      simp at h h'
      rw [ltS_total a b h h']
    · rw [if_neg e] at h
      rw [if_neg (fun x => e x.symm)] at h'
      simp at h h'
      exact absurd (UInt8.toNat_inj.1 (by omega)) e

set_option maxRecDepth 100000 in
set_option maxHeartbeats 1000000 in
theorem cmps_any (a b : Bs) (w : World) :
    Calls Tryd.prog 39 #[.string (txt a), .string (txt b)] w fun e w' => e = .returned (.int .i64 (cmpS a b)) ∧ w' = w := by
  obtain ⟨A, hA⟩ : ∃ o, o = txt a := ⟨_, rfl⟩
  obtain ⟨B, hB⟩ : ∃ o, o = txt b := ⟨_, rfl⟩
  rw [← hA, ← hB]
  have HA := hidI hA
  have HB := hidI hB
  clear hA hB
  go_enter Tryd.func39, Tryd.ntmps39
  by_cases h1 : Op.bytesLess A.toList B.toList = true
  · have HR : Hid (cmpS a b = -1) := by
      show cmpS a b = -1
      rw [HA.out, HB.out, txt_toList, txt_toList, less_bytes] at h1
      simp [cmpS, h1]
    go_wp2
    go_ret
    exact ⟨ret_int HR.out.symm, rfl⟩
  · have h1' : Op.bytesLess A.toList B.toList = false := by simpa using h1
    by_cases h2 : (A.toList == B.toList) = true
    · have HR : Hid (cmpS a b = 0) := by
        show cmpS a b = 0
        rw [HA.out, HB.out, txt_beq] at h2
        have : a = b := by simpa using h2
        subst this
        simp [cmpS, ltS_irrefl]
      go_wp2
      go_ret
      exact ⟨ret_int HR.out.symm, rfl⟩
    · have h2' : (A.toList == B.toList) = false := by simpa using h2
      have HR : Hid (cmpS a b = 1) := by
        show cmpS a b = 1
        rw [HA.out, HB.out, txt_beq] at h2
        rw [HA.out, HB.out, txt_toList, txt_toList, less_bytes] at h1'
        have hne : a ≠ b := by simpa using h2
        have : ltS b a = true := by
          cases h : ltS b a with
          | true => rfl
          | false => exact absurd (ltS_total a b h1' h) hne
        simp [cmpS, h1', this]
      go_wp2
      go_ret
      exact ⟨ret_int HR.out.symm, rfl⟩

theorem cmpN_step {n m : List Bs} {k : Nat} {x y : Bs} (hx : n[k]? = some x) (hy : m[k]? = some y) (h : cmpS x y = 0) : cmpN (n.drop k) (m.drop k) = cmpN (n.drop (k + 1)) (m.drop (k + 1)) := by
  obtain ⟨h1, rfl⟩ := List.getElem?_eq_some_iff.1 hx
  obtain ⟨h2, rfl⟩ := List.getElem?_eq_some_iff.1 hy
  rw [List.drop_eq_getElem_cons h1, List.drop_eq_getElem_cons h2]
  simp [cmpN, h]
theorem cmpN_apart {n m : List Bs} {k : Nat} {x y : Bs} (hx : n[k]? = some x) (hy : m[k]? = some y) (h : cmpS x y ≠ 0) : cmpN (n.drop k) (m.drop k) = cmpS x y := by
  obtain ⟨h1, rfl⟩ := List.getElem?_eq_some_iff.1 hx
  obtain ⟨h2, rfl⟩ := List.getElem?_eq_some_iff.1 hy
  rw [List.drop_eq_getElem_cons h1, List.drop_eq_getElem_cons h2]
  simp [cmpN, h]
theorem cmpN_long {n m : List Bs} {k : Nat} (h1 : k < n.length) (h2 : m.length ≤ k) : cmpN (n.drop k) (m.drop k) = 1 := by
  rw [List.drop_eq_getElem_cons h1, List.drop_eq_nil_of_le h2]
  rfl
theorem cmpN_end {n m : List Bs} {k : Nat} (h1 : n.length ≤ k) (h2 : k ≤ m.length) : cmpN (n.drop k) (m.drop k) = if k < m.length then -1 else 0 := by
  rw [List.drop_eq_nil_of_le h1]
  by_cases h : k < m.length
  · rw [List.drop_eq_getElem_cons h, if_pos h]; rfl
  · rw [List.drop_eq_nil_of_le (by omega), if_neg h]; rfl

set_option maxRecDepth 100000 in
set_option maxHeartbeats 1000000 in
theorem cmpn_any (a b : Nat) (N M c d : Nat) (n m : List Bs) (w : World) (hN : n.length = N) (hM : m.length = M) (hN9 : N ≤ 1048577) (hM9 : M ≤ 1048577) (ha : ∀ k x, n[k]? = some x → w.cell? ⟨a, k, none⟩ = some (.string (txt x))) (hb : ∀ k x, m[k]? = some x → w.cell? ⟨b, k, none⟩ = some (.string (txt x))) :
    Calls Tryd.prog 31 #[.slice (some ⟨a, 0, none⟩) N c, .slice (some ⟨b, 0, none⟩) M d] w fun e w' => e = .returned (.int .i64 (cmpN n m)) ∧ w' = w := by
  have Ha := hidI ha
  have Hb := hidI hb
  have HN := hidI hN
  have HM := hidI hM
  clear ha hb hN hM
  go_enter Tryd.func31, Tryd.ntmps31
  go_wp2
  go_loopw [11] (fun i wr => ∃ k : Nat, k ≤ N ∧ k ≤ M ∧ i = .int .i64 k ∧ wr = w ∧ Hid (cmpN n m = cmpN (n.drop k) (m.drop k))) (fun i _ => N - (intOf i).toNat)
  case atStart => exact ⟨0, Nat.zero_le _, Nat.zero_le _, rfl, rfl, hidI rfl⟩
  case round =>
    obtain ⟨k, hk, hk2, rfl, rfl, Hc⟩ := hrel
    by_cases h1 : k < N
    · obtain ⟨x, hx⟩ : ∃ x, n[k]? = some x := ⟨_, List.getElem?_eq_getElem (by have := HN.out; omega)⟩
      have hcx := Ha.out k x hx
      have Hx := hidI hx
      by_cases h2 : k < M
      · obtain ⟨y, hy⟩ : ∃ y, m[k]? = some y := ⟨_, List.getElem?_eq_getElem (by have := HM.out; omega)⟩
        have hcy := Hb.out k y hy
        have Hy := hidI hy
        have HS := hidI (cmps_any x y wr)
        obtain ⟨X, hX⟩ : ∃ o, o = txt x := ⟨_, rfl⟩
        obtain ⟨Y, hY⟩ : ∃ o, o = txt y := ⟨_, rfl⟩
        obtain ⟨z, hz⟩ : ∃ o, o = cmpS x y := ⟨_, rfl⟩
        rw [← hX, ← hY, ← hz] at HS
        rw [← hX] at hcx
        rw [← hY] at hcy
        have Hz := hidI hz
        clear hx hy hX hY hz
        by_cases h0 : z = 0
        · have Hn : Hid (cmpN n m = cmpN (n.drop (k + 1)) (m.drop (k + 1))) := Hc.out.trans (cmpN_step Hx.out Hy.out (Hz.out.symm.trans h0))
          subst h0
          go_wp2_with (go_at_call 39; refine HS.out.mono ?_; rintro e w' ⟨rfl, hw⟩; have hw' := hw.symm; subst hw')
          go_roundw
          case rel => exact ⟨k + 1, by omega, by omega, by go_num, trivial, Hn⟩
          case measure => simp [intOf]; omega
        · have Hn : Hid (cmpN n m = z) := Hc.out.trans ((cmpN_apart Hx.out Hy.out (fun e => h0 (Hz.out.trans e))).trans Hz.out.symm)
          have h0' : (z != 0) = true := bne_iff_ne.2 h0
          go_wp2_with (go_at_call 39; refine HS.out.mono ?_; rintro e w' ⟨rfl, hw⟩; have hw' := hw.symm; subst hw')
          go_ret
          exact ⟨ret_int Hn.out.symm, rfl⟩
      · have Hn : Hid (cmpN n m = 1) := Hc.out.trans (cmpN_long (by have := HN.out; omega) (by have := HM.out; omega))
        clear hx
        go_wp2
        go_ret
        exact ⟨ret_int Hn.out.symm, rfl⟩
    · have Hn : Hid (cmpN n m = if k < M then -1 else 0) := Hc.out.trans (by have h3 := HN.out; have h4 := HM.out; rw [cmpN_end (by omega) (by omega), h4])
      by_cases h2 : N < M
      · have Hn2 : Hid (cmpN n m = -1) := by have := Hn.out; rw [if_pos (by omega)] at this; exact this
        go_wp2
        go_ret
        exact ⟨ret_int Hn2.out.symm, rfl⟩
      · have Hn2 : Hid (cmpN n m = 0) := by have := Hn.out; rw [if_neg (by omega)] at this; exact this
        go_wp2
        go_ret
        exact ⟨ret_int Hn2.out.symm, rfl⟩

theorem split_count (p : Bs) : (split p).length = p.count 47 + 1 := by
  induction p with
  | nil => rfl
  | cons c l ih =>
    by_cases hc : c = 47
    · subst hc; rw [split_slash]; simp [ih]
    · obtain ⟨n, ns, e⟩ := split_cons l
      rw [split_other hc e, List.count_cons_of_ne (by simpa using hc), ← ih, e]
      rfl

theorem split_lib (p : Bs) : Lib.countB (txt p) (txt [47]) + 1 = (split p).length ∧ Lib.splitB (txt [47]) 0 (Lib.countB (txt p) (txt [47])) (txt p) = (split p).map txt := by
  have hc : Lib.countB (txt p) (txt [47]) = p.count 47 := by
    show Lib.count p [47] = _
    rw [Lib.count_one]
  rw [hc]
  have hd : (Lib.splitB (txt [47]) 0 (p.count 47) (txt p)).map (·.data.toList) = Lib.splitK [47] 0 (p.count 47) p := Lib.splitB_data (txt [47]) 0 (p.count 47) (txt p)
  refine ⟨(split_count p).symm, ?_⟩
  rw [(pieces (p.count 47) p).1 (by rw [split_count]; omega)] at hd
  rw [← hd, List.map_map]
  have : (txt ∘ fun x : ByteArray => x.data.toList) = id := by funext x; exact (txt_of x).symm
  rw [this, List.map_id]

/-- A row of texts. -/
def txrow (p : Bs) : Obj := .cells (((split p).map txt).map Value.string).toArray 9

theorem split_any (p : Bs) (w : World) (hm : ML w) (hp : p.length ≤ 1048576) :
    Calls Tryd.prog 32 #[.string (txt p), .string ⟨#[47]⟩] w fun e w' => e = .returned (.slice (some ⟨w.heap.size, 0, none⟩) (split p).length (split p).length) ∧ w' = w.alloc (txrow p) := by
  obtain ⟨m, hm'⟩ := hm
  have h := Tryd.strings_Split (txt p) (txt [47]) m w (by rw [txt_size]; omega) hm' (by rw [txt_size]; simp)
  obtain ⟨h1, h2⟩ := split_lib p
  rw [h1, h2] at h
  exact h

theorem txrow_cell (p : Bs) (w : World) : ∀ k x, (split p)[k]? = some x → (w.alloc (txrow p)).cell? ⟨w.heap.size, k, none⟩ = some (.string (txt x)) := by
  intro k x hx
  unfold txrow
  rw [cell_of_row _ w.heap.size k _ 9 (0, 0) (heap_alloc_new _ _)]
  simp [hx]

set_option maxRecDepth 100000 in
set_option maxHeartbeats 1000000 in
theorem compare_any (a b : Bs) (w : World) (hm : ML w) (ha : a.length ≤ 1048576) (hb : b.length ≤ 1048576) :
    Calls Tryd.prog 22 #[.string (txt a), .string (txt b)] w fun e w' => e = .returned (.int .i64 (cmpN (split a) (split b))) ∧ w' = (w.alloc (txrow a)).alloc (txrow b) := by
  have hla := split_length a
  have hlb := split_length b
  have h1 := split_any a w hm ha
  have hm2 : ML (w.alloc (txrow a)) := hm.below ((Below.refl _ w).alloc (Nat.le_refl _) _) hm.lt
  have h2 := split_any b (w.alloc (txrow a)) hm2 hb
  have h3 := cmpn_any w.heap.size (w.heap.size + 1) (split a).length (split b).length (split a).length (split b).length (split a) (split b) ((w.alloc (txrow a)).alloc (txrow b)) rfl rfl (by omega) (by omega)
    (fun k x hx => by rw [World.cell?_alloc_old _ _ _ (by simp)]; exact txrow_cell a w k x hx)
    (fun k x hx => by have := txrow_cell b (w.alloc (txrow a)) k x hx; simp only [World.size_alloc] at this; exact this)
  rw [World.size_alloc] at h2
  have H1 := hidI h1
  have H2 := hidI h2
  have H3 := hidI h3
  clear h1 h2 h3 hm2 hm
  obtain ⟨A, hA⟩ : ∃ o, o = txt a := ⟨_, rfl⟩
  obtain ⟨B, hB⟩ : ∃ o, o = txt b := ⟨_, rfl⟩
  obtain ⟨N, hN⟩ : ∃ o, o = (split a).length := ⟨_, rfl⟩
  obtain ⟨M, hM⟩ : ∃ o, o = (split b).length := ⟨_, rfl⟩
  obtain ⟨z, hz⟩ : ∃ o, o = cmpN (split a) (split b) := ⟨_, rfl⟩
  rw [← hA, ← hN] at H1
  rw [← hB, ← hM] at H2
  rw [← hN, ← hM, ← hz] at H3
  rw [← hA, ← hB, ← hz]
  clear hA hB hN hM hz hla hlb ha hb
  generalize txrow a = Ra at *
  generalize txrow b = Rb at *
  go_enter Tryd.func22, Tryd.ntmps22
  go_wp2_with fail
  refine H1.out.mono ?_
  rintro e w' ⟨rfl, hw⟩
  subst hw
  go_wp2_with fail
  refine H2.out.mono ?_
  rintro e w' ⟨rfl, hw⟩
  subst hw
  go_wp2_with fail
  refine H3.out.mono ?_
  rintro e w' ⟨rfl, hw⟩
  subst hw
  go_wp2
  go_ret
  exact ⟨rfl, rfl⟩
end Go.Proofs.YtodmdkhdbfbfgaaDoor
