/- Lemmas and contracts for kept. -/
import Derived.Maps.OwnSet
import Derived.Maps.OwnOps
import Derived.Sort.KeysCollected
import Derived.RangeFuncWrites
import Derived.WalkKit
import Derived.Deep.Draws
import Derived.Test.YtodmdkhdbfbfgaaGreatDoorM00
set_option maxRecDepth 100000
set_option maxHeartbeats 8000000
namespace Go.Proofs.YtodmdkhdbfbfgaaGreatDoor
open Go.RowKit Go.Nt
set_option linter.unusedVariables false
structure PackC (u : Bs → Option Bs) : Prop where
 small : ∀ (t d : Bs), u t = some d → d.length ≤ 4000
 pack : ∀ (w : World) (d : Bs), d.length ≤ 4000 → Calls Tryz.prog 131 #[.string (txt d)] w fun e w' => ∃ t, e = .returned (.tuple #[.string (txt t), .int .i64 0]) ∧ u t = some d ∧ t.length ≤ d.length + 1 ∧ Below w.heap.size w w'
 some : ∀ (w : World) (t d : Bs), t.length ≤ 1000000 → u t = some d → Calls Tryz.prog 145 #[.string (txt t)] w fun e w' => e = .returned (.tuple #[.string (txt d), .int .i64 0]) ∧ Below w.heap.size w w'
 none : ∀ (w : World) (t : Bs), t.length ≤ 1000000 → u t = none → Calls Tryz.prog 145 #[.string (txt t)] w fun e w' => e = .returned (.tuple #[.string ⟨#[]⟩, .int .i64 2]) ∧ Below w.heap.size w w'
def headB (k t : Nat) (p : Bs) : Bs := enc 2 k ++ enc 4 t ++ enc 1 p.length ++ p
theorem Bytes.alloc {w : World} {B : Nat} {v : Value} {l : Bs} (h : Bytes w B v l) (o : Obj) : Bytes (w.alloc o) B v l := World.ownsRow.alloc h o
theorem Bytes.below {w w' : World} {B M : Nat} {v : Value} {l : Bs} (h : Bytes w B v l) (hb : Below M w w') (hM : w.heap.size ≤ M) : Bytes w' B v l := own_below h hb (fun q hq => Nat.lt_of_lt_of_le (World.ownsRow.lt h q hq).2 hM)
theorem addItem_dir {u : Bs → Option Bs} (B : Nat) (v : Value) (l : Bs) (x : It) (w : World) (hB : B ≤ w.heap.size) (hv : Bytes w B v l) (hl : l.length ≤ 900000) (hf : Fit x) (hd : x.dir = true) :
 Calls Tryz.prog 79 #[v, itv x] w fun e w' => ∃ v' a, e = .returned v' ∧ IsItem u x a ∧ Bytes w' B v' (l ++ a) ∧ Below B w w' ∧ But 5 w w' := by
 obtain ⟨i0, hi, hz0, hz1, hz2⟩ := info_parts Tryz.info5
 obtain ⟨m0, m1, t0, t1, hp, hda, he⟩ := hf
 obtain ⟨p, d, dt, m, t⟩ := x
 simp only at *
 subst hd
 obtain rfl := he rfl
 obtain ⟨M, rfl⟩ := Int.eq_ofNat_of_zero_le m0
 obtain ⟨T, rfl⟩ := Int.eq_ofNat_of_zero_le t0
 have hor := or15 M m0 m1
 unfold itv
 obtain ⟨X, hX⟩ : ∃ X, X = txt p := ⟨_, rfl⟩
 have Sx : X.size = p.length := by rw [hX, txt_size]
 have HX := hidI hX
 have HS := hidI Sx
 have hXs : X.size ≤ 255 := by omega
 clear Sx
 simp only
 rw [← hX]
 obtain ⟨Wb, hWb⟩ : ∃ Wb, Wb = w.alloc (.cells #[.string X, .bool true, .string (txt []), .int .i64 M, .int .i64 T] 39) := ⟨_, rfl⟩
 have hbx : Wb.heap[w.heap.size]? = some (.cells #[.string X, .bool true, .string (txt []), .int .i64 M, .int .i64 T] 39 (0, 0)) := by rw [hWb]; exact heap_alloc_new _ _
 have hB1 : Below B w Wb := by rw [hWb]; exact (Below.refl _ w).alloc hB _
 have hbut1 : But 5 w Wb := by rw [hWb]; exact (But.refl _ w).alloc _
 have hv1 : Bytes Wb B v l := by rw [hWb]; exact hv.alloc _
 have A1 := hidI (addNumber_any B v l 2 (M + 32768) Wb (by have := hB1.size; omega) hv1 (by decide) (by omega) (by omega))
 have HWb := hidI hWb
 have Hbx := hidI hbx
 have HB1 := hidI hB1
 have Hbut1 := hidI hbut1
 have hszb := hB1.size
 clear hX hbx hB1 hbut1 hv1 hv he hWb
 go_enter Tryz.func79, Tryz.ntmps79
 go_wp2_with fail
 rw [← HWb.out]
 refine A1.out.mono ?_
 rintro e w1 ⟨v1, rfl, hv1, hb1, hk1⟩
 have hx1 := hk1.cells Hbx.out (by decide)
 have c14 : w1.cell? ⟨w.heap.size, 4, none⟩ = some (.int .i64 T) := by rw [cell_of_row w1 w.heap.size 4 _ 39 (0, 0) hx1]; rfl
 have A2 := hidI (addNumber_any B v1 _ 4 T w1 (by have := hb1.size; omega) hv1 (by decide) (by rw [List.length_append, enc_length]; omega) (by omega))
 have Hx1 := hidI hx1
 have Hb1 := hidI (HB1.out.trans hb1)
 have Hk1 := hidI (Hbut1.out.trans hk1)
 have hsz1 := hb1.size
 clear A1 hx1 hb1 hk1 hv1
 go_wp2_with fail
 refine A2.out.mono ?_
 rintro e w2 ⟨v2, rfl, hv2, hb2, hk2⟩
 have hx2 := hk2.cells Hx1.out (by decide)
 have c20 : w2.cell? ⟨w.heap.size, 0, none⟩ = some (.string X) := by rw [cell_of_row w2 w.heap.size 0 _ 39 (0, 0) hx2]; rfl
 have A3 := hidI (addNumber_any B v2 _ 1 X.size w2 (by have := hb2.size; omega) hv2 (by decide) (by rw [List.length_append, List.length_append, enc_length, enc_length]; omega) (by omega))
 have Hx2 := hidI hx2
 have Hb2 := hidI (Hb1.out.trans hb2)
 have Hk2 := hidI (Hk1.out.trans hk2)
 have hsz2 := hb2.size
 clear A2 hx2 hb2 hk2 hv2 c14 Hx1 Hb1 Hk1
 go_wp2_with fail
 refine A3.out.mono ?_
 rintro e w3 ⟨v3, rfl, hv3, hb3, hk3⟩
 have hx3 := hk3.cells Hx2.out (by decide)
 have c30 : w3.cell? ⟨w.heap.size, 0, none⟩ = some (.string X) := by rw [cell_of_row w3 w.heap.size 0 _ 39 (0, 0) hx3]; rfl
 obtain ⟨a3, cp3, rfl⟩ := hv3.slice
 obtain ⟨L, hL⟩ : ∃ L, L = (l ++ enc 2 (M + 32768) ++ enc 4 T ++ enc 1 X.size).length := ⟨_, rfl⟩
 have hLl : L ≤ 900007 := by rw [hL]; simp [enc_length]; omega
 have Ho : Hid (w3.ownsRow B 5 1 (.slice a3 L cp3) L (bv (l ++ enc 2 (M + 32768) ++ enc 4 T ++ enc 1 X.size))) := hidI (by unfold Bytes at hv3; rw [← hL] at hv3; exact hv3)
 rw [← hL]
 have HL := hidI hL
 have Hx3 := hidI hx3
 have Hb3 := hidI (Hb2.out.trans hb3)
 have Hk3 := hidI (Hk2.out.trans hk3)
 have hsz3 := hb3.size
 clear A3 hx3 hb3 hk3 hv3 c20 Hx2 Hb2 Hk2 hL
 go_wp2_with (at_builtin; refine Lib.wpList_append_own_string _ rfl (.tmp 26) (.tmp 28) 111 9 rfl B 5 i0 Tryz.underlying111 Tryz.underlying9 hi hz0 hz1 hz2 _ _ _ rfl Ho.out X rfl ?c3 ?c4 ?c5 ?_)
 case c3 => unfold maxLen; omega
 case c4 => omega
 case c5 => omega
 intro v4 w4 hown4 hgrow _
 have hb4 : Below B w w4 := Hb3.out.grown hgrow (by omega) (fun q hq => (Ho.out.lt q hq).1)
 have hk4 : But 5 w w4 := Hk3.out.grown Ho.out hgrow
 have hx4 := (((But.refl 5 w3).grown Ho.out hgrow).cells Hx3.out (by decide))
 have c41 : w4.cell? ⟨w.heap.size, 1, none⟩ = some (.bool true) := by rw [cell_of_row w4 w.heap.size 1 _ 39 (0, 0) hx4]; rfl
 have hv4 : Hid (Bytes w4 B v4 (l ++ headB (M + 32768) T p)) := by
  refine hidI ?_
  unfold Bytes
  have h1 := HX.out
  have h2 := HL.out
  have Sx := HS.out
  have e1 : l ++ headB (M + 32768) T p = l ++ enc 2 (M + 32768) ++ enc 4 T ++ enc 1 X.size ++ p := by unfold headB; rw [Sx]; simp
  rw [e1, bv_append, List.length_append, ← h2, ← bv_str p, ← h1, ← Sx]
  simp only [List.append_assoc]
  exact hown4
 have Hb4 := hidI hb4
 have Hk4 := hidI hk4
 clear hown4 hgrow hb4 hk4 hx4 c30
 go_wp2
 go_ret
 refine ⟨v4, headB (M + 32768) T p, rfl, ?_, hv4.out, Hb4.out, Hk4.out⟩
 unfold IsItem
 rw [if_pos rfl]
 rfl
theorem addItem_file {u : Bs → Option Bs} (hP : PackC u) (B : Nat) (v : Value) (l : Bs) (x : It) (w : World) (hB : B ≤ w.heap.size) (hv : Bytes w B v l) (hl : l.length ≤ 900000) (hf : Fit x) (hd : x.dir = false) :
 Calls Tryz.prog 79 #[v, itv x] w fun e w' => ∃ v' a, e = .returned v' ∧ IsItem u x a ∧ Bytes w' B v' (l ++ a) ∧ Below B w w' ∧ But 5 w w' := by
 obtain ⟨i0, hi, hz0, hz1, hz2⟩ := info_parts Tryz.info5
 obtain ⟨m0, m1, t0, t1, hp, hda, he⟩ := hf
 obtain ⟨p, d, dt, m, t⟩ := x
 simp only at *
 subst hd
 obtain ⟨M, rfl⟩ := Int.eq_ofNat_of_zero_le m0
 obtain ⟨T, rfl⟩ := Int.eq_ofNat_of_zero_le t0
 unfold itv
 obtain ⟨X, hX⟩ : ∃ X, X = txt p := ⟨_, rfl⟩
 have Sx : X.size = p.length := by rw [hX, txt_size]
 have HX := hidI hX
 obtain ⟨Y, hY⟩ : ∃ Y, Y = txt dt := ⟨_, rfl⟩
 have HPk := hidI (fun W => hP.pack W dt hda)
 rw [← hY] at HPk
 have HS := hidI Sx
 have hXs : X.size ≤ 255 := by omega
 clear Sx
 simp only
 rw [← hX, ← hY]
 obtain ⟨Wb, hWb⟩ : ∃ Wb, Wb = w.alloc (.cells #[.string X, .bool false, .string Y, .int .i64 M, .int .i64 T] 39) := ⟨_, rfl⟩
 have hbx : Wb.heap[w.heap.size]? = some (.cells #[.string X, .bool false, .string Y, .int .i64 M, .int .i64 T] 39 (0, 0)) := by rw [hWb]; exact heap_alloc_new _ _
 have hB1 : Below B w Wb := by rw [hWb]; exact (Below.refl _ w).alloc hB _
 have hbut1 : But 5 w Wb := by rw [hWb]; exact (But.refl _ w).alloc _
 have hv1 : Bytes Wb B v l := by rw [hWb]; exact hv.alloc _
 have A1 := hidI (addNumber_any B v l 2 M Wb (by have := hB1.size; omega) hv1 (by decide) (by omega) (by omega))
 have HWb := hidI hWb
 have Hbx := hidI hbx
 have HB1 := hidI hB1
 have Hbut1 := hidI hbut1
 have hszb := hB1.size
 clear hX hbx hB1 hbut1 hv1 hv he hWb hY hP
 go_enter Tryz.func79, Tryz.ntmps79
 go_wp2_with fail
 rw [← HWb.out]
 refine A1.out.mono ?_
 rintro e w1 ⟨v1, rfl, hv1, hb1, hk1⟩
 have hx1 := hk1.cells Hbx.out (by decide)
 have c14 : w1.cell? ⟨w.heap.size, 4, none⟩ = some (.int .i64 T) := by rw [cell_of_row w1 w.heap.size 4 _ 39 (0, 0) hx1]; rfl
 have A2 := hidI (addNumber_any B v1 _ 4 T w1 (by have := hb1.size; omega) hv1 (by decide) (by rw [List.length_append, enc_length]; omega) (by omega))
 have Hx1 := hidI hx1
 have Hb1 := hidI (HB1.out.trans hb1)
 have Hk1 := hidI (Hbut1.out.trans hk1)
 have hsz1 := hb1.size
 clear A1 hx1 hb1 hk1 hv1
 go_wp2_with fail
 refine A2.out.mono ?_
 rintro e w2 ⟨v2, rfl, hv2, hb2, hk2⟩
 have hx2 := hk2.cells Hx1.out (by decide)
 have c20 : w2.cell? ⟨w.heap.size, 0, none⟩ = some (.string X) := by rw [cell_of_row w2 w.heap.size 0 _ 39 (0, 0) hx2]; rfl
 have A3 := hidI (addNumber_any B v2 _ 1 X.size w2 (by have := hb2.size; omega) hv2 (by decide) (by rw [List.length_append, List.length_append, enc_length, enc_length]; omega) (by omega))
 have Hx2 := hidI hx2
 have Hb2 := hidI (Hb1.out.trans hb2)
 have Hk2 := hidI (Hk1.out.trans hk2)
 have hsz2 := hb2.size
 clear A2 hx2 hb2 hk2 hv2 c14 Hx1 Hb1 Hk1
 go_wp2_with fail
 refine A3.out.mono ?_
 rintro e w3 ⟨v3, rfl, hv3, hb3, hk3⟩
 have hx3 := hk3.cells Hx2.out (by decide)
 have c30 : w3.cell? ⟨w.heap.size, 0, none⟩ = some (.string X) := by rw [cell_of_row w3 w.heap.size 0 _ 39 (0, 0) hx3]; rfl
 obtain ⟨a3, cp3, rfl⟩ := hv3.slice
 obtain ⟨L, hL⟩ : ∃ L, L = (l ++ enc 2 M ++ enc 4 T ++ enc 1 X.size).length := ⟨_, rfl⟩
 have hLl : L ≤ 900007 := by rw [hL]; simp [enc_length]; omega
 have Ho : Hid (w3.ownsRow B 5 1 (.slice a3 L cp3) L (bv (l ++ enc 2 M ++ enc 4 T ++ enc 1 X.size))) := hidI (by unfold Bytes at hv3; rw [← hL] at hv3; exact hv3)
 rw [← hL]
 have HL := hidI hL
 have Hx3 := hidI hx3
 have Hb3 := hidI (Hb2.out.trans hb3)
 have Hk3 := hidI (Hk2.out.trans hk3)
 have hsz3 := hb3.size
 clear A3 hx3 hb3 hk3 hv3 c20 Hx2 Hb2 Hk2 hL
 go_wp2_with (at_builtin; refine Lib.wpList_append_own_string _ rfl (.tmp 26) (.tmp 28) 111 9 rfl B 5 i0 Tryz.underlying111 Tryz.underlying9 hi hz0 hz1 hz2 _ _ _ rfl Ho.out X rfl ?c3 ?c4 ?c5 ?_)
 case c3 => unfold maxLen; omega
 case c4 => omega
 case c5 => omega
 intro v4 w4 hown4 hgrow _
 have hb4 : Below B w w4 := Hb3.out.grown hgrow (by omega) (fun q hq => (Ho.out.lt q hq).1)
 have hk4 : But 5 w w4 := Hk3.out.grown Ho.out hgrow
 have hx4 := (((But.refl 5 w3).grown Ho.out hgrow).cells Hx3.out (by decide))
 have c41 : w4.cell? ⟨w.heap.size, 1, none⟩ = some (.bool false) := by rw [cell_of_row w4 w.heap.size 1 _ 39 (0, 0) hx4]; rfl
 have hv4 : Hid (Bytes w4 B v4 (l ++ headB M T p)) := by
  refine hidI ?_
  unfold Bytes
  have h1 := HX.out
  have h2 := HL.out
  have Sx := HS.out
  have e1 : l ++ headB M T p = l ++ enc 2 M ++ enc 4 T ++ enc 1 X.size ++ p := by unfold headB; rw [Sx]; simp
  rw [e1, bv_append, List.length_append, ← h2, ← bv_str p, ← h1, ← Sx]
  simp only [List.append_assoc]
  exact hown4
 have c42 : w4.cell? ⟨w.heap.size, 2, none⟩ = some (.string Y) := by rw [cell_of_row w4 w.heap.size 2 _ 39 (0, 0) hx4]; rfl
 have Hb4 := hidI hb4
 have Hk4 := hidI hk4
 have hsz4 := hgrow.size
 clear hown4 hgrow hb4 hk4 hx4 c30
 go_wp2_with fail
 refine (HPk.out w4).mono ?_
 rintro e w5 ⟨t, rfl, hu, htl, hb5⟩
 obtain ⟨a4, cp4, rfl⟩ := hv4.out.slice
 obtain ⟨J, hJ⟩ : ∃ J, J = (l ++ headB M T p).length := ⟨_, rfl⟩
 have Hv5 : Hid (Bytes w5 B (.slice a4 J cp4) (l ++ headB M T p)) := hidI (by rw [hJ]; exact hv4.out.below hb5 (Nat.le_refl _))
 have hJl : J ≤ 900270 := by rw [hJ]; simp [headB, enc_length]; omega
 rw [← hJ]
 clear hJ
 obtain ⟨Z, hZ⟩ : ∃ Z, Z = txt t := ⟨_, rfl⟩
 have SZ : Z.size = t.length := by rw [hZ, txt_size]
 have A6 := hidI (addNumber_any B _ _ 2 Z.size w5 (by have := hb5.size; have := Hb4.out.size; omega) Hv5.out (by decide) (by simp [headB, enc_length]; omega) (by omega))
 have hA6 : True := trivial
 rw [← hZ]
 have HZ := hidI hZ
 have HSZ := hidI SZ
 have Hu := hidI hu
 have Htl := hidI htl
 have Hb5 := hidI (Hb4.out.trans (hb5.mono (by have := Hb4.out.size; omega)))
 have Hk5 := hidI (Hk4.out.below hb5)
 have hsz5 := hb5.size
 have hZl : Z.size ≤ 4001 := by omega
 clear hZ SZ hu htl hb5 hv4 Hb4 Hk4 c41 c42 HPk
 go_wp2_with fail
 refine A6.out.mono ?_
 rintro e w6 ⟨v6, rfl, hv6, hb6, hk6⟩
 obtain ⟨a6, cp6, rfl⟩ := hv6.slice
 obtain ⟨K, hK⟩ : ∃ K, K = (l ++ headB M T p ++ enc 2 Z.size).length := ⟨_, rfl⟩
 have hKl : K ≤ 900300 := by rw [hK]; simp [headB, enc_length]; omega
 have Ho6 : Hid (w6.ownsRow B 5 1 (.slice a6 K cp6) K (bv (l ++ headB M T p ++ enc 2 Z.size))) := hidI (by unfold Bytes at hv6; rw [← hK] at hv6; exact hv6)
 rw [← hK]
 have HK := hidI hK
 have Hb6 := hidI (Hb5.out.trans hb6)
 have Hk6 := hidI (Hk5.out.trans hk6)
 have hsz6 := hb6.size
 have hszw := Hb5.out.size
 clear hK hv6 hb6 hk6 Hb5 Hk5 A6 Hv5
 go_wp2_with (at_builtin; refine Lib.wpList_append_own_string _ rfl (.tmp 43) (.tmp 44) 111 9 rfl B 5 i0 Tryz.underlying111 Tryz.underlying9 hi hz0 hz1 hz2 _ _ _ rfl Ho6.out Z rfl ?c3 ?c4 ?c5 ?_)
 case c3 => unfold maxLen; omega
 case c4 => omega
 case c5 => omega
 intro v7 w7 hown7 hgrow7 _
 have hb7 : Below B w w7 := Hb6.out.grown hgrow7 (by omega) (fun q hq => (Ho6.out.lt q hq).1)
 have hk7 : But 5 w w7 := Hk6.out.grown Ho6.out hgrow7
 have hv7 : Hid (Bytes w7 B v7 (l ++ (headB M T p ++ enc 2 t.length ++ t))) := by
  refine hidI ?_
  unfold Bytes
  have h1 := HZ.out
  have h2 := HK.out
  have h3 := HSZ.out
  have e1 : l ++ (headB M T p ++ enc 2 t.length ++ t) = l ++ headB M T p ++ enc 2 Z.size ++ t := by rw [h3]; simp
  rw [e1, bv_append, List.length_append, ← h2, ← bv_str t, ← h1, ← h3]
  simp only [List.append_assoc] at hown7 ⊢
  exact hown7
 have Hb7 := hidI hb7
 have Hk7 := hidI hk7
 clear hown7 hgrow7 hb7 hk7
 go_wp2
 go_ret
 refine ⟨v7, headB M T p ++ enc 2 t.length ++ t, rfl, ?_, hv7.out, Hb7.out, Hk7.out⟩
 unfold IsItem
 exact ⟨t, Hu.out, Htl.out, rfl⟩
theorem addItem_any {u : Bs → Option Bs} (hP : PackC u) (B : Nat) (v : Value) (l : Bs) (x : It) (w : World) (hB : B ≤ w.heap.size) (hv : Bytes w B v l) (hl : l.length ≤ 900000) (hf : Fit x) :
 Calls Tryz.prog 79 #[v, itv x] w fun e w' => ∃ v' a, e = .returned v' ∧ IsItem u x a ∧ Bytes w' B v' (l ++ a) ∧ Below B w w' ∧ But 5 w w' := by
 cases hd : x.dir with
 | true => exact addItem_dir B v l x w hB hv hl hf hd
 | false => exact addItem_file hP B v l x w hB hv hl hf hd
end Go.Proofs.YtodmdkhdbfbfgaaGreatDoor
namespace Go.Proofs.YtodmdkhdbfbfgaaGreatDoor
open Go.RowKit Go.Nt
set_option linter.unusedVariables false
structure Nd where
 dir : Bool
 data : Bs
 mode : Int
 time : Int
deriving DecidableEq, Inhabited
def nd (x : It) : Nd := ⟨x.dir, x.data, x.mode, x.time⟩
def ndv (n : Nd) : Value := .agg #[.bool n.dir, .string (txt n.data), .int .i64 n.mode, .int .i64 n.time]
def ndOf : Value → Option (DataW Nd × List MemPlace)
 | .agg cs => match cs.toList with
   | [.bool d, .string s, .int .i64 m, .int .i64 t] => some (.held ⟨d, s.data.toList, m, t⟩, [])
   | _ => none
 | _ => none
theorem ndOf_mk (n : Nd) : ndOf (ndv n) = some (.held n, []) := rfl
theorem ndOf_inv {v : Value} {n : Nd} {ps : List MemPlace} (h : ndOf v = some (.held n, ps)) : v = ndv n := by
 unfold ndOf at h
 split at h
 ·rename_i cs
  split at h
  ·rename_i d s m t hc
   simp at h
   obtain ⟨rfl, _⟩ := h
   have : cs = #[.bool d, .string s, .int .i64 m, .int .i64 t] := by
    apply Array.toList_inj.1
    exact hc
   rw [this]
   unfold ndv
   rw [← txt_of]
  ·cases h
 ·cases h
def at? (l : List It) (p : Bs) : Option It := l.find? fun x => decide (x.path = p)
theorem at_some {l : List It} {p : Bs} {x : It} (h : at? l p = some x) : x ∈ l ∧ x.path = p := ⟨List.mem_of_find?_eq_some h, by simpa using List.find?_some h⟩
theorem at_none {l : List It} {p : Bs} : at? l p = none ↔ ∀ x ∈ l, x.path ≠ p := by simp [at?]
theorem at_mem {l : List It} (hn : (l.map (·.path)).Nodup) {x : It} (hx : x ∈ l) : at? l x.path = some x := by
 induction l with
 | nil => simp at hx
 | cons y l ih =>
   unfold at?
   rw [List.find?_cons]
   by_cases e : y.path = x.path
   ·simp [e]
    simp at hn hx
    rcases hx with rfl | hx
    ·rfl
    ·exact absurd e.symm (fun e' => hn.1 x hx e')
   ·simp [e]
    simp at hn hx
    rcases hx with rfl | hx
    ·exact absurd rfl e
    ·exact ih hn.2 hx
theorem at_dir {l : List It} (hn : (l.map (·.path)).Nodup) (p : Bs) : dirAt l p = (match at? l p with | some x => x.dir | none => false) := by
 cases h : at? l p with
 | none =>
   have h' := at_none.1 h
   unfold dirAt
   simp only [List.any_eq_false]
   intro x hx
   simp [h' x hx]
 | some x =>
   obtain ⟨hx, rfl⟩ := at_some h
   obtain ⟨k, hk, rfl⟩ := List.getElem_of_mem hx
   show dirAt l _ = l[k].dir
   unfold dirAt
   cases hd : l[k].dir with
   | true => exact List.any_eq_true.2 ⟨_, hx, by simp [hd]⟩
   | false =>
     rw [List.any_eq_false]
     intro y hy
     by_cases e : y.path = l[k].path
     ·have h1 := at_mem hn hy
      have h2 := at_mem hn hx
      rw [e, h2] at h1
      cases h1
      simp [hd]
     ·simp [e]
def Has (D : DataW Nd) (l : List It) : Prop :=
 ∀ p, Maps.has D (.string p) = (at? l p).isSome ∧ ∀ x, at? l p = some x → ∀ z, D.atKey (.string p) z = .held (nd x)
def TreeAt (w : World) (b : Nat) (l : List It) : Prop :=
 ∃ D : DataW Nd, w.ownsMap Tryz.prog 9 ndOf b (Maps.size D) D ∧ Has D l
theorem law9 : Maps.Keyed Tryz.prog 9 := Maps.string_keyed Tryz.underlying9
theorem zero46 (w : World) : (zeroValue 117).run Tryz.prog w = .ok (ndv ⟨false, [], 0, 0⟩) w := by kernel_rfl
theorem tight {w : World} {b n : Nat} {D : DataW Nd} (h : w.ownsMap Tryz.prog 9 ndOf b n D) : w.ownsMap Tryz.prog 9 ndOf b (Maps.size D) D := by
 obtain ⟨es, clock, hb, F, hs, rfl⟩ := h
 exact ⟨es, clock, hb, F, by simp [Maps.size, length_sorted], rfl⟩
theorem TreeAt.lt {w : World} {b : Nat} {l : List It} (h : TreeAt w b l) : b < w.heap.size := by
 obtain ⟨D, h, _⟩ := h
 exact h.lt
theorem TreeAt.of_block {w w' : World} {b : Nat} {l : List It} (h : TreeAt w b l) (hb : w'.heap[b]? = w.heap[b]?) : TreeAt w' b l := by
 obtain ⟨D, ⟨es, clock, h1, h2⟩, hh⟩ := h
 exact ⟨D, ⟨es, clock, hb.trans h1, h2⟩, hh⟩
theorem TreeAt.below {w w' : World} {B b : Nat} {l : List It} (h : TreeAt w b l) (hb : Below B w w') (hlt : b < B) : TreeAt w' b l := h.of_block (hb.block b hlt)
theorem made_tree (w : World) : TreeAt (w.alloc (.map #[] 0)) w.heap.size [] :=
 ⟨.map [], World.ownsMap_made w _ _ _, fun p => ⟨rfl, fun x hx => by simp [at?] at hx⟩⟩
theorem key9 {p : Bs} (h : p.length ≤ maxLen) : keyOf Tryz.prog 9 (.string (txt p)) = some (.string p) := WideMaps.keyOf_string_mk Tryz.underlying9 (by rw [txt_size]; exact h)
theorem TreeAt.look_some {w : World} {b : Nat} {l : List It} {p : Bs} {x : It} (h : TreeAt w b l) (hp : p.length ≤ maxLen) (hx : at? l p = some x) :
 (Instr.lookup 77 (.map (some b)) (.string (txt p)) true).run Tryz.prog w = .ok (.tuple #[ndv (nd x), .bool true]) w ∧ (Instr.lookup 77 (.map (some b)) (.string (txt p)) false).run Tryz.prog w = .ok (ndv (nd x)) w := by
 obtain ⟨D, ho, hh⟩ := h
 obtain ⟨v, ps, h1, h2⟩ := ho.look_ok law9 Tryz.underlying77 (zero46 w) (ndOf_mk _) (key9 hp)
 obtain ⟨v', ps', h3, h4⟩ := ho.lookup law9 Tryz.underlying77 (zero46 w) (ndOf_mk _) (key9 hp)
 rw [(hh p).2 x hx] at h2 h4
 rw [ndOf_inv h2, (hh p).1, hx] at h1
 rw [ndOf_inv h4] at h3
 exact ⟨h1, h3⟩
theorem TreeAt.look_none {w : World} {b : Nat} {l : List It} {p : Bs} (h : TreeAt w b l) (hp : p.length ≤ maxLen) (hx : at? l p = none) :
 (Instr.lookup 77 (.map (some b)) (.string (txt p)) true).run Tryz.prog w = .ok (.tuple #[ndv ⟨false, [], 0, 0⟩, .bool false]) w ∧ (Instr.lookup 77 (.map (some b)) (.string (txt p)) false).run Tryz.prog w = .ok (ndv ⟨false, [], 0, 0⟩) w := by
 obtain ⟨D, ho, hh⟩ := h
 have hno : Maps.has D (.string p) = false := by rw [(hh p).1, hx]; rfl
 obtain ⟨v, ps, h1, h2⟩ := ho.look_ok law9 Tryz.underlying77 (zero46 w) (ndOf_mk _) (key9 hp)
 obtain ⟨v', ps', h3, h4⟩ := ho.lookup law9 Tryz.underlying77 (zero46 w) (ndOf_mk _) (key9 hp)
 rw [Maps.atKey_of_not_has hno] at h2 h4
 rw [ndOf_inv h2, hno] at h1
 rw [ndOf_inv h4] at h3
 exact ⟨h1, h3⟩
theorem keys_perm {w : World} {b n : Nat} {l : List It} {D : DataW Nd} (ho : w.ownsMap Tryz.prog 9 ndOf b n D) (hh : Has D l) (hn : (l.map (·.path)).Nodup) : (l.map (·.path)).Perm (strKeys D) := by
 obtain ⟨es, rfl, hp⟩ := ho.tidy law9
 obtain ⟨es', e, hk⟩ := ho.keysOf
 cases e
 refine perm_strKeys hp (fun p h => ?_) hn (fun x => ?_)
 ·obtain ⟨v, hv⟩ := hk p h
  obtain ⟨x, _, hx, _⟩ := Maps.keyOf_str Tryz.underlying9 hv
  exact ⟨x, hx⟩
 ·rw [(hh x).1]
  constructor
  ·intro h
   obtain ⟨y, hy, rfl⟩ := List.mem_map.1 h
   rw [at_mem hn hy]
   rfl
  ·intro h
   obtain ⟨y, hy⟩ := Option.isSome_iff_exists.1 h
   obtain ⟨h1, rfl⟩ := at_some hy
   exact List.mem_map.2 ⟨y, h1, rfl⟩
theorem strKeys_size (D : DataW Nd) (h : Maps.IsMap D) : (strKeys D).length = Maps.size D := by
 obtain ⟨es, rfl⟩ := h
 simp [strKeys, Maps.size]
theorem size_tree {w : World} {b n : Nat} {l : List It} {D : DataW Nd} (ho : w.ownsMap Tryz.prog 9 ndOf b n D) (hh : Has D l) (hn : (l.map (·.path)).Nodup) : Maps.size D = l.length := by
 have h := (keys_perm ho hh hn).length_eq
 rw [strKeys_size D ho.isMap] at h
 simpa using h.symm
theorem TreeAt.len {w : World} {b : Nat} {l : List It} (h : TreeAt w b l) (hn : (l.map (·.path)).Nodup) (ty : TypeId) : (Builtin.len_ #[77] ty #[.map (some b)]).run Tryz.prog w = .ok (.int .i64 l.length) w := by
 obtain ⟨D, ho, hh⟩ := h
 have := ho.len Tryz.underlying77 ty
 rw [size_tree ho hh hn] at this
 exact this
def setIt (l : List It) (x : It) : List It := l.filter (fun y => decide (y.path ≠ x.path)) ++ [x]
theorem at_append (l m : List It) (p : Bs) : at? (l ++ m) p = (at? l p).or (at? m p) := by simp [at?, List.find?_append]
theorem at_filter_other {l : List It} {p q : Bs} (h : p ≠ q) : at? (l.filter (fun y => decide (y.path ≠ q))) p = at? l p := by
 induction l with
 | nil => rfl
 | cons y l ih =>
   unfold at? at ih ⊢
   by_cases e : y.path = q
   ·have : y.path ≠ p := fun e' => h (e'.symm.trans e)
    rw [List.filter_cons_of_neg (by simp [e]), List.find?_cons_of_neg (by simp [this]), ih]
   ·rw [List.filter_cons_of_pos (by simp [e]), List.find?_cons, List.find?_cons, ih]
theorem at_filter_same (l : List It) (q : Bs) : at? (l.filter (fun y => decide (y.path ≠ q))) q = none := by
 rw [at_none]
 intro x hx
 simpa using (List.mem_filter.1 hx).2
theorem at_set_same (l : List It) (x : It) : at? (setIt l x) x.path = some x := by
 rw [setIt, at_append, at_filter_same]
 simp [at?]
theorem at_set_other {l : List It} {x : It} {p : Bs} (h : p ≠ x.path) : at? (setIt l x) p = at? l p := by
 rw [setIt, at_append, at_filter_other h]
 have : at? [x] p = none := by rw [at_none]; intro y hy; simp at hy; subst hy; exact fun e => h e.symm
 rw [this]
 cases at? l p <;> rfl
theorem Has.put {D : DataW Nd} {l : List It} (h : Has D l) (hm : Maps.IsMap D) (x : It) : Has (D.put (.string x.path) (.held (nd x))) (setIt l x) := by
 intro p
 by_cases e : p = x.path
 ·subst e
  rw [at_set_same, Maps.has_put_same hm (k := .string x.path) trivial]
  refine ⟨rfl, fun y hy z => ?_⟩
  cases hy
  exact Maps.atKey_put_same hm (k := .string x.path) trivial _ _
 ·have hne : (Lit.string p) ≠ .string x.path := fun h => e (by cases h; rfl)
  rw [at_set_other e, Maps.has_put_other hne]
  exact ⟨(h p).1, fun y hy z => by rw [Maps.atKey_put_other hne]; exact (h p).2 y hy z⟩
theorem Has.same {D : DataW Nd} {l m : List It} (h : Has D l) (e : ∀ p, at? l p = at? m p) : Has D m := fun p => by rw [← e p]; exact h p
theorem at_snoc {l : List It} {x : It} (h : ∀ y ∈ l, y.path ≠ x.path) : setIt l x = l ++ [x] := by
 unfold setIt
 rw [List.filter_eq_self.2 (fun y hy => by simpa using h y hy)]
theorem TreeAt.store {w : World} {b : Nat} {l : List It} (h : TreeAt w b l) (hn : (l.map (·.path)).Nodup) (hl : l.length < maxLen) (x : It) (hp : x.path.length ≤ maxLen) :
 ∃ w', (Instr.mapUpdate 77 (.map (some b)) (.string (txt x.path)) (ndv (nd x))).run Tryz.prog w = .ok () w' ∧ TreeAt w' b (setIt l x) ∧ w.mapTurned w' b := by
 obtain ⟨D, ho, hh⟩ := h
 obtain ⟨w', h1, h2, h3⟩ := ho.store law9 Tryz.underlying77 (by rw [size_tree ho hh hn]; exact hl) (key9 hp) (ndOf_mk (nd x))
 exact ⟨w', h1, ⟨_, tight h2, hh.put ho.isMap x⟩, h3⟩
theorem run_make35 (n : Int) (w : World) : (Instr.makeMap 77 (some (.int .i64 n))).run Tryz.prog w = .ok (.map (some w.heap.size)) (w.alloc (.map #[] 0)) := by
 simp [Instr.makeMap, run_underlying Tryz.underlying77, asInt, asIntOf, Result.andThen]
end Go.Proofs.YtodmdkhdbfbfgaaGreatDoor
namespace Go.Proofs.YtodmdkhdbfbfgaaGreatDoor
open Go.RowKit
set_option linter.unusedVariables false
structure AbBox {β : Type} (bs : Nat) (J : β → World → Prop) : Prop where
 set : ∀ s W v, J s W → J s (W.setCell ⟨bs, 0, none⟩ v)
 drew : ∀ s W q, J s W → J s (W.drewN q)
def SeqBox {α : Type} (F : Fence) (n : Nat) (P : Program) (g : Nat) (lb : Array Value) (enc : α → Value) (n₀ bs : Nat) (xs : List α) (w : World) : Prop :=
 ∀ (l : Nat) (J Jx : List α → World → Prop) (W : World), Below n₀ w W → AbBox bs J → AbBox bs Jx →
  (∀ pre x W1, J pre W1 → pre ++ [x] <+: xs → YieldAt F (n - 1) P l #[enc x] W1 fun e W' => (e = .returned (.bool true) ∧ J (pre ++ [x]) W' ∧ Below n₀ W1 W') ∨ (e = .returned (.bool false) ∧ Jx (pre ++ [x]) W')) →
  J [] W → CallsIn F n P g (#[.func (.yield l) #[] #[]] ++ lb) W fun e W' => (∃ v, e = .returned v) ∧ (J xs W' ∨ ∃ pre, pre <+: xs ∧ Jx pre W')
def boxPost {α : Type} (B : Nat) (I Ix : List α → World → Prop) (xs : List α) (W : World) : Exit → Act → World → Prop
 | .normal, _, W' => KeepsFrom B W W' ∧ Below B W W' ∧ I xs W'
 | .ret, _, W' => KeepsFrom B W W' ∧ Ix xs W'
 | .exit _, _, _ => False
 | .goto _, _, _ => False
 | .panic _, _, _ => False
 | .outgrown, _, _ => False
def LoopAt (w : World) (r : Loop) (W : World) : Prop := W.heap[w.heap.size + 1]? = some (.loop r) ∧ W.heap[w.heap.size]? = some (.deferred (some []))
theorem LoopAt.turn {w W : World} {r : Loop} (h : LoopAt w r W) (r' : Loop) : LoopAt w r' (W.putObj (w.heap.size + 1) (.loop r')) :=
 ⟨World.putObj_heap_same (Array.getElem?_eq_some_iff.1 h.1).1, (World.putObj_heap_other (by omega)).trans h.2⟩
theorem LoopAt.kept {w W W' : World} {r : Loop} (h : LoopAt w r W) (k : KeepsFrom w.heap.size W W') : LoopAt w r W' :=
 ⟨k.same _ _ (by omega) h.1 rfl, k.same _ _ (Nat.le_refl _) h.2 rfl⟩
theorem LoopAt.set {w W : World} {r : Loop} (h : LoopAt w r W) {bs : Nat} (hb : bs < w.heap.size) (v : Value) : LoopAt w r (W.setCell ⟨bs, 0, none⟩ v) :=
 ⟨(Below.heap_setCell W ⟨bs, 0, none⟩ v _ (by simp; omega)).trans h.1, (Below.heap_setCell W ⟨bs, 0, none⟩ v _ (by simp; omega)).trans h.2⟩
variable {F : Fence} {n : Nat} {P : Program}
theorem wpIn_rangeBox {α : Type} {g : Operand} {ps : Array Tmp} {assign body : Code} {Q : Exit → Act → World → Prop} {a : Act} {w : World}
 (hro : F.round = none) (h1 : 1 ≤ n) {gf : Nat} {lb : Array Value} (hg : a.eval g = .func (.func gf) #[] lb) (hFg : F.fn gf) (eg : ∀ args w, (callFunc gf args).run P w = .ok (.enter gf args) w)
 {enc : α → Value} {bs : Nat} {xs : List α} (hseq : SeqBox F (n - 1) P gf lb enc w.heap.size bs xs w) (hbs : bs < w.heap.size) (hps : ps.size = 1)
 (I Ix : List α → World → Prop) (hI : OwnFrom w.heap.size I) (hIb : AbBox bs I) (hIx : OwnFrom w.heap.size Ix) (hIxb : AbBox bs Ix) (h0 : I [] w) (a₁ : α → Act)
 (hassign : ∀ (l : Nat) (x : α) (W : World) (K : Act → World → Prop), K (a₁ x) W →
   assign.wpIn (F.inRound l) (n - 1 - 1) P (Exit.then K (fun _ _ _ => False)) { tmps := (ps.zip #[enc x]).foldl (fun t (p, v) => t.setIfInBounds p v) a.tmps, defers := [] } W)
 (hbody : ∀ (l : Nat) (pre : List α) (x : α) (W : World), I pre W → pre ++ [x] <+: xs → w.heap.size ≤ W.heap.size → body.wpIn (F.inRound l) (n - 1 - 1) P (boxPost w.heap.size I Ix (pre ++ [x]) W) (a₁ x) W)
 (hdone : ∀ (D : Nat) (W : World), w.heap.size ≤ D → I xs W → W.heap[D]? = some (.deferred (some [])) → Q .normal { a with defers := { target := .collected D, args := #[] } :: a.defers } W)
 (hstop : ∀ (D : Nat) (pre : List α) (W : World), w.heap.size ≤ D → pre <+: xs → Ix pre W → W.heap[D]? = some (.deferred (some [])) → Code.ret.wpIn F n P Q { a with defers := { target := .collected D, args := #[] } :: a.defers } W) :
 (Code.rangeFunc g ps assign body).wpIn F n P Q a w := by
 refine wpIn_rangeFunc fun fn hfn => ?_
 rw [hro]
 obtain ⟨r, hr⟩ : ∃ r : LoopState → Option Code → Loop, r = fun st pe => { state := st, pending := pe, fn, tmps := a.tmps, params := ps, assign, body, defers := w.heap.size } := ⟨_, rfl⟩
 obtain ⟨V, hV⟩ : ∃ V, V = (w.alloc (.deferred (some []))).alloc (.loop (r .ready none)) := ⟨_, rfl⟩
 have hL : LoopAt w (r .ready none) V := by
  rw [hV]
  refine ⟨?_, (Below.heap_alloc _ _ _ (by simp)).trans (World.alloc_heap_new w _)⟩
  have := World.alloc_heap_new (w.alloc (.deferred (some []))) (.loop (r .ready none))
  rwa [World.size_alloc] at this
 have hIV : I [] V := by rw [hV]; exact hI.alloc _ (hI.alloc _ h0)
 have hBV : Below w.heap.size w V := by rw [hV]; exact ((Below.refl _ w).alloc (Nat.le_refl _) _).alloc (by simp) _
 refine ⟨w.heap.size + 1, [{ target := .collected w.heap.size, args := #[] }], V, { target := .fn (.func gf) lb, args := #[.func (.yield (w.heap.size + 1)) #[] #[]] }, V, gf,
  #[.func (.yield (w.heap.size + 1)) #[] #[]] ++ lb, V, ?_, ?_, ?_, ?_, fun _ => h1, ?_⟩
 ·rw [hV, hr]; exact run_enterLoop_outer _ _ _ _ _
 ·simp only [resolve, hg]
  simp [go_sem]
 ·intro f' hf'; simp [Target.leads] at hf'; subst hf'; exact hFg
 ·simp [invoke, go_sem, eg]
 refine (hseq (w.heap.size + 1) (fun pre W => I pre W ∧ LoopAt w (r .ready none) W) (fun pre W => Ix pre W ∧ LoopAt w (r .done (some .ret)) W) V hBV
  ⟨fun s W v h => ⟨hIb.set s W v h.1, h.2.set hbs v⟩, fun s W q h => ⟨hIb.drew s W q h.1, h.2⟩⟩ ⟨fun s W v h => ⟨hIxb.set s W v h.1, h.2.set hbs v⟩, fun s W q h => ⟨hIxb.drew s W q h.1, h.2⟩⟩ ?_ ⟨hIV, hL⟩).mono ?_
 ·rintro pre x W ⟨hi, hl⟩ hpre
  have hlt := (Array.getElem?_eq_some_iff.1 hl.1).1
  have hy := run_yield (P := P) (args := #[enc x]) hl.1 (by rw [hr]; simp [hps])
  rw [hr] at hy
  refine ⟨fn, _, assign, body, hy, roundIn_of_wpIn hfn (hassign _ x W _ ⟨_, run_beginRound hl.1 (by rw [hr]), ?_⟩)⟩
  clear hy
  have hl2 : LoopAt w { r .ready none with state := .busy } (W.putObj (w.heap.size + 1) (.loop { r .ready none with state := .busy })) := hl.turn _
  have hb2 : Below w.heap.size W (W.putObj (w.heap.size + 1) (.loop { r .ready none with state := .busy })) := belowK_b (w := w) (Nat.le_refl _) W _ _ _ (by omega) hl.1 rfl rfl
  refine wpIn_mono (hbody _ pre x _ (hI.putObj _ hi (by omega) hl.1 rfl) hpre (Nat.le_trans (by omega) hb2.size)) ?_
  rintro e a3 W3 hp
  cases e with
  | normal =>
    obtain ⟨hk, hb, hi3⟩ := hp
    have hl3 := hl2.kept hk
    have he := run_endRound (P := P) none hl3.1
    rw [hr] at he
    refine ⟨_, _, he, .inl ⟨rfl, ⟨hI.putObj _ hi3 (by omega) hl3.1 rfl, ?_⟩, (hb2.trans hb).trans (belowK_b (w := w) (Nat.le_refl _) _ _ _ _ (by omega) hl3.1 rfl rfl)⟩⟩
    have := hl3.turn (r .ready none)
    rw [hr] at this ⊢
    exact this
  | ret =>
    obtain ⟨hk, hi3⟩ := hp
    have hl3 := hl2.kept hk
    have he := run_endRound (P := P) (some .ret) hl3.1
    rw [hr] at he
    refine ⟨_, _, he, .inr ⟨rfl, hIx.putObj _ hi3 (by omega) hl3.1 rfl, ?_⟩⟩
    have := hl3.turn (r .done (some .ret))
    rw [hr] at this ⊢
    exact this
  | exit id => exact hp.elim
  | goto t => exact hp.elim
  | panic ch => exact hp.elim
  | outgrown => exact hp.elim
 ·rintro e W2 ⟨⟨v, rfl⟩, (⟨hi, hl⟩ | ⟨pre, hpre, hi, hl⟩)⟩
  ·exact ⟨none, _, by have := run_endLoop (P := P) hl.1 (by rw [hr]; simp); rw [hr] at this; exact this, hdone _ _ (Nat.le_refl _) (hI.putObj _ hi (by omega) hl.1 rfl) ((World.putObj_heap_other (by omega)).trans hl.2)⟩
  ·exact ⟨some .ret, _, by have := run_endLoop (P := P) hl.1 (by rw [hr]; simp); rw [hr] at this; exact this, hstop _ pre _ (Nat.le_refl _) hpre (hIx.putObj _ hi (by omega) hl.1 rfl) ((World.putObj_heap_other (by omega)).trans hl.2)⟩
end Go.Proofs.YtodmdkhdbfbfgaaGreatDoor
