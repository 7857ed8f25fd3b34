/- Lemmas and contracts for kept. -/
import Derived.Shelf.Sort.Plain
import Derived.Shelf.Slices.In.SortNone
import Derived.Test.YtodmdkhdbfbfgaaGreatDoorProg
import Derived.Deep.RegionHeld3
import Derived.Test.YtodmdkhdbfbfgaaGreatDoorM21
import Derived.Test.YtodmdkhdbfbfgaaGreatDoorM04
import Derived.Test.YtodmdkhdbfbfgaaGreatDoorM20
import Derived.Test.YtodmdkhdbfbfgaaGreatDoorM00
import Derived.Test.YtodmdkhdbfbfgaaGreatDoorM09
set_option maxRecDepth 100000
set_option maxHeartbeats 8000000
namespace Go.Proofs
open Go.Shelf
def Tryz.lays190_ren : Go.Shelf.Ren := ⟨fun | 190 => 70 | 125 => 118 | 258 => 117 | 128 => 184 | 129 => 185 | 302 => 175 | 303 => 176 | 304 => 177 | 305 => 178 | 306 => 179 | 307 => 180 | 308 => 181 | 309 => 182 | 310 => 183 | 333 => 235 | 329 => 236 | 330 => 237 | 334 => 238 | 335 => 239 | 336 => 231 | 344 => 273 | n => n, fun | 31 => 40 | 9 => 9 | 3 => 3 | 46 => 110 | 0 => 0 | 51 => 88 | 53 => 240 | 4 => 4 | 183 => 231 | 182 => 230 | 131 => 236 | 5 => 5 | 218 => 261 | 222 => 265 | 228 => 308 | 229 => 309 | n => n, fun | n => n⟩
theorem Tryz.lays190 : Go.Proofs.Lays.n190 Tryz.prog Tryz.lays190_ren := {
 mixed := by kernel_rfl
 f125 := Tryz.func118.trans (congrArg some (by kernel_rfl))
 f128 := Tryz.func184.trans (congrArg some (by kernel_rfl))
 f129 := Tryz.func185.trans (congrArg some (by kernel_rfl))
 f190 := Tryz.func70.trans (congrArg some (by kernel_rfl))
 f258 := Tryz.func117.trans (congrArg some (by kernel_rfl))
 f302 := Tryz.func175.trans (congrArg some (by kernel_rfl))
 f303 := Tryz.func176.trans (congrArg some (by kernel_rfl))
 f304 := Tryz.func177.trans (congrArg some (by kernel_rfl))
 f305 := Tryz.func178.trans (congrArg some (by kernel_rfl))
 f306 := Tryz.func179.trans (congrArg some (by kernel_rfl))
 f307 := Tryz.func180.trans (congrArg some (by kernel_rfl))
 f308 := Tryz.func181.trans (congrArg some (by kernel_rfl))
 f309 := Tryz.func182.trans (congrArg some (by kernel_rfl))
 f310 := Tryz.func183.trans (congrArg some (by kernel_rfl))
 f329 := Tryz.func236.trans (congrArg some (by kernel_rfl))
 f330 := Tryz.func237.trans (congrArg some (by kernel_rfl))
 f333 := Tryz.func235.trans (congrArg some (by kernel_rfl))
 f334 := Tryz.func238.trans (congrArg some (by kernel_rfl))
 f335 := Tryz.func239.trans (congrArg some (by kernel_rfl))
 f336 := Tryz.func231.trans (congrArg some (by kernel_rfl))
 f344 := Tryz.func273.trans (congrArg some (by kernel_rfl))
 t0 := Tryz.underlying0
 a0 := Tryz.isAgg0
 z0 := Tryz.sizeOf0
 v0 := Tryz.zeroValue0
 t3 := Tryz.underlying3
 a3 := Tryz.isAgg3
 z3 := Tryz.sizeOf3
 v3 := Tryz.zeroValue3
 t4 := Tryz.underlying4
 a4 := Tryz.isAgg4
 z4 := Tryz.sizeOf4
 v4 := Tryz.zeroValue4
 t5 := Tryz.underlying5
 a5 := Tryz.isAgg5
 z5 := Tryz.sizeOf5
 v5 := Tryz.zeroValue5
 t9 := Tryz.underlying9
 a9 := Tryz.isAgg9
 z9 := Tryz.sizeOf9
 v9 := Tryz.zeroValue9
 t31 := Tryz.underlying40
 a31 := Tryz.isAgg40
 z31 := Tryz.sizeOf40
 v31 := Tryz.zeroValue40
 t46 := Tryz.underlying110
 a46 := Tryz.isAgg110
 z46 := Tryz.sizeOf110
 v46 := Tryz.zeroValue110
 t51 := Tryz.underlying88
 a51 := Tryz.isAgg88
 z51 := Tryz.sizeOf88
 v51 := Tryz.zeroValue88
 t53 := Tryz.underlying240
 a53 := Tryz.isAgg240
 z53 := Tryz.sizeOf240
 v53 := Tryz.zeroValue240
 t131 := Tryz.underlying236
 a131 := Tryz.isAgg236
 z131 := Tryz.sizeOf236
 v131 := Tryz.zeroValue236
 t182 := Tryz.underlying230
 a182 := Tryz.isAgg230
 z182 := Tryz.sizeOf230
 v182 := Tryz.zeroValue230
 t183 := Tryz.underlying231
 a183 := Tryz.isAgg231
 z183 := Tryz.sizeOf231
 v183 := Tryz.zeroValue231
 t218 := Tryz.underlying261
 a218 := Tryz.isAgg261
 z218 := Tryz.sizeOf261
 v218 := Tryz.zeroValue261
 t222 := Tryz.underlying265
 a222 := Tryz.isAgg265
 z222 := Tryz.sizeOf265
 v222 := Tryz.zeroValue265
 t228 := Tryz.underlying308
 a228 := Tryz.isAgg308
 z228 := Tryz.sizeOf308
 v228 := Tryz.zeroValue308
 t229 := Tryz.underlying309
 a229 := Tryz.isAgg309
 z229 := Tryz.sizeOf309
 v229 := Tryz.zeroValue309 }
end Go.Proofs
namespace Go.Proofs.YtodmdkhdbfbfgaaGreatDoor
open Go.RowKit Go.Nt Go.Sort Go.Shelf
set_option linter.unusedVariables false
def rise (l : List Bs) : List Bs := l.mergeSort fun x y => decide (x ≤ y)
theorem sv_enc (l : List Bs) : sv l = l.map encStr := rfl
theorem rise_perm {a b : List Bs} (h : a.Perm b) : rise a = rise b := by
 have tr : ∀ x y z : Bs, decide (x ≤ y) = true → decide (y ≤ z) = true → decide (x ≤ z) = true := fun x y z h1 h2 => by simp at h1 h2 ⊢; exact List.le_trans h1 h2
 have tt : ∀ x y : Bs, (decide (x ≤ y) || decide (y ≤ x)) = true := fun x y => by
  rcases List.le_total x y with h | h <;> simp [h]
 unfold rise
 refine List.Perm.eq_of_pairwise (le := fun x y : Bs => decide (x ≤ y) = true) (fun x y _ _ h1 h2 => ?_) (List.pairwise_mergeSort tr tt a) (List.pairwise_mergeSort tr tt b) (((List.mergeSort_perm _ _).trans h).trans (List.mergeSort_perm _ _).symm)
 simp at h1 h2
 exact List.le_antisymm h1 h2
theorem rise_length (l : List Bs) : (rise l).length = l.length := (List.mergeSort_perm _ _).length_eq
theorem sortS_any (B : Nat) (v : Value) (l : List Bs) (w : World) (ho : w.ownsRow B 9 1 v l.length (sv l)) (hl : l.length ≤ 1000) :
 Calls Tryz.prog 70 #[v] w fun e w' => e = .returned (.tuple #[]) ∧ w'.ownsRow B 9 1 v l.length (sv (rise l)) ∧ w.grownBy w' v.ownBlock := by
 rcases ho.2 with ⟨rfl, h0⟩ | ⟨g, cap, cur, rfl, hbase, hgb, r1, r2, r3, r4⟩
 ·have hl0 := List.length_eq_zero_iff.1 h0
  subst hl0
  refine (Any.slices_Sort_string_none Tryz.lays190 none 0 w).mono ?_
  rintro e w' ⟨rfl, rfl⟩
  exact ⟨rfl, by simpa [rise] using ho, ⟨rfl, rfl, rfl, Nat.le_refl _, fun _ _ _ => rfl⟩⟩
 ·have hH : Holds encStr w g 0 l.toArray := holds_of_block hgb (by simpa [sv_enc] using r4)
  have hgl : g < w.heap.size := (Array.getElem?_eq_some_iff.1 hgb).1
  refine (Any.slices_Sort_string Tryz.lays190 g 0 cap l w hH hgl (by omega)).mono ?_
  rintro e w' ⟨rfl, n, os, rfl⟩
  refine ⟨rfl, ?_, grownBy_sorted _⟩
  rw [sv_enc]
  exact ownsRow_sorted (by simp) hbase hgb r1 r2 r3
def listE (l : List It) (p : Bs) : Int := if p = [] then 0 else if findE l p = 0 then (if (findN l p).dir then 0 else 6) else findE l p
def listN (l : List It) (p : Bs) : List Bs := rise (((l.map (·.path)).filter fun q => decide (par q = p)).map nm)
def ListP (l : List It) (p : Bs) (w : World) (e : Ending) (w' : World) : Prop :=
 Below w.heap.size w w' ∧ ((listE l p ≠ 0 ∧ e = .returned (.tuple #[.slice none 0 0, .int .i64 (listE l p)])) ∨
  (listE l p = 0 ∧ ∃ v, e = .returned (.tuple #[v, .int .i64 0]) ∧ w'.ownsRow w.heap.size 9 1 v (listN l p).length (sv (listN l p))))
theorem own_slice9 {w : World} {B n : Nat} {e : TypeId} {v : Value} {xs : List Value} (h : w.ownsRow B e 1 v n xs) : ∃ a c, v = .slice a n c := by
 rcases h.2 with ⟨rfl, h0⟩ | ⟨g, cap, cur, rfl, _⟩
 ·exact ⟨none, 0, by rw [h0]⟩
 ·exact ⟨_, _, rfl⟩
theorem tlist_root (b : Nat) (l : List It) (w : World) (hT : TreeAt w b l) (hn : (l.map (·.path)).Nodup) (hl : l.length ≤ 1000) (hq : ∀ x ∈ l, x.path.length ≤ 1048576) :
 Calls Tryz.prog 40 #[.map (some b), .string (txt [])] w fun e w' => ListP l [] w e w' := by
 obtain ⟨i0, hi, hz0, hz1, hz2⟩ := info_parts Tryz.info9
 have hlt := hT.lt
 have Hn := hidI hn
 have Hq := hidI hq
 obtain ⟨D, ho, hh⟩ := hT
 have Hsz := hidI (size_tree ho hh hn)
 have Hh := hidI hh
 have Hown := hidI ho
 have hemp : (txt []).toList.isEmpty = true := by rw [txt_toList]; rfl
 have HE : Hid (listE l [] = 0) := hidI (if_pos rfl)
 have HBW := hidI (Below.refl w.heap.size w)
 clear hn hq ho hh
 go_enter Tryz.func40, Tryz.ntmps40
 go_wp2_with (first | (at_range; refine wpList_range_own _ rfl _ 77 rfl 9 117 law9 Tryz.underlying77 _ b _ D rfl Hown.out ?_; intro w0 hrg0 hg0 hs0) | go_in)
 go_frame
 have Hb0 : Hid (Below w.heap.size w w0) := hidI (HBW.out.grown hg0 HBW.out.size (fun q hq => by cases hq))
 have Hrg0 := hidI hrg0
 clear hrg0 hg0 Hown
 obtain ⟨r, hr⟩ : ∃ r, r = w.heap.size := ⟨_, rfl⟩
 rw [← hr] at Hrg0 hs0 ⊢
 have hrw : w.heap.size ≤ r := by have := HBW.out.size; omega
 clear hr hs0
 go_loopw [8] (fun v wx => ∃ (left : Lit → Bool) (cnt : Nat) (qs : List Bs), wx.ranges Tryz.prog 9 ndOf b r (Maps.size D) D left cnt ∧ qs.length + cnt ≤ l.length ∧ Hid (Pick l (fun q => decide (par q = ([] : Bs))) left qs) ∧ Hid (wx.ownsRow w.heap.size 9 1 v (qs.map nm).length (sv (qs.map nm))) ∧ Hid (Below w.heap.size w wx))
  (fun _ wx => wx.rangeLeft b r)
 case atStart => exact ⟨_, _, [], Hrg0.out, by have := Hsz.out; simp; omega, hidI ⟨by simp, fun q => by simp; intro h1 h2; exact ((Hh.out q).1).trans h1⟩, hidI (World.ownsRow_nil _ _ _ _), Hb0⟩
 case round =>
  obtain ⟨left, cnt, qs, hrg, hcnt, HP, HO, HB⟩ := hrel
  clear Hb0 Hrg0
  have hszr := HB.out.size
  obtain ⟨a8, c8, rfl⟩ := own_slice9 HO.out
  obtain ⟨L, hL⟩ : ∃ L, L = (qs.map nm).length := ⟨_, rfl⟩
  have hLq : L = qs.length := by rw [hL]; simp
  rw [← hL] at HO ⊢
  have HL := hidI hL
  have HLq := hidI hLq
  have hcnt' : L + cnt ≤ l.length := by omega
  clear hL hLq hcnt
  go_wp2_with (first | (at_next; refine wpList_next_ranges _ rfl _ rfl 9 law9 ndOf (fun x : Bs => .string (txt x)) id (fun key kl hk => by obtain ⟨x, hx, _⟩ := Maps.keyOf_str Tryz.underlying9 hk; exact ⟨x, hx⟩) (fun v _ _ => ⟨v, rfl⟩) b r _ _ _ _ rfl hrg ?_ ?_) | go_in)
  ·intro _ hl0
   have hd := HP.out.done Hn.out hl0
   have HSo := hidI (sortS_any w.heap.size (.slice a8 L c8) (qs.map nm) wr (by have := HL.out; rw [← this]; exact HO.out) (by have := HL.out; omega))
   have HN : Hid (rise (qs.map nm) = listN l ([] : Bs)) := hidI (rise_perm (hd.map nm))
   clear hd hrg
   go_wp2_with fail
   refine HSo.out.mono ?_
   rintro e w5 ⟨rfl, ho5, hg5⟩
   have HB5 : Hid (Below w.heap.size w w5) := hidI (HB.out.grown hg5 hszr (fun q hq => (HO.out.lt q hq).1))
   have HO5 : Hid (w5.ownsRow w.heap.size 9 1 (.slice a8 L c8) (listN l ([] : Bs)).length (sv (listN l ([] : Bs)))) := hidI (by
    have e1 : (listN l ([] : Bs)).length = (qs.map nm).length := by rw [← HN.out, rise_length]
    rw [e1, ← HN.out]; exact ho5)
   clear ho5 hg5 HSo HP HO
   go_wp2
   go_ret2
   exact ⟨HB5.out, .inr ⟨HE.out, _, rfl, HO5.out⟩⟩
  ·intro q cv kl yd yp w2 cnt2 hkey hlk hv hat hrg2 hlt2 hg2 hs2 hen
   obtain ⟨q', ep, rfl, _⟩ := Maps.keyOf_str Tryz.underlying9 hkey
   obtain rfl : q = q' := by cases ep; rfl
   have hhas : Maps.has D (.string q) = true := Maps.has_true_of_atKey hat
   rw [(Hh.out q).1] at hhas
   have Hst := hidI (HP.out.step hhas hlk)
   obtain ⟨x, hx⟩ := Option.isSome_iff_exists.1 hhas
   obtain ⟨hxl, hxp⟩ := at_some hx
   have hql : q.length ≤ 1048576 := by rw [← hxp]; exact Hq.out x hxl
   have HI := hidI (cutLast_any q w2 hql)
   have HB2 : Hid (Below w.heap.size w w2) := hidI (HB.out.grown hg2 hszr (fun k e => by cases e; omega))
   have hrcell : ∃ a b' c d, wr.heap[r]? = some (.mapIter a b' c d) := by obtain ⟨es, cl, si, se, c0, _, _, _, _, h5, _⟩ := hrg; exact ⟨_, _, _, _, h5⟩
   have HO2 : Hid (w2.ownsRow w.heap.size 9 1 (.slice a8 L c8) L (sv (qs.map nm))) := hidI (by
    have hoo := HO.out
    refine ⟨hoo.1, ?_⟩
    rcases hoo.2 with h1 | ⟨g', cap', cur, h1, h2, h3, h4⟩
    ·exact .inl h1
    ·refine .inr ⟨g', cap', cur, h1, h2, (hg2.block g' (lt_of_heap h3) (fun e => ?_)).trans h3, h4⟩
     obtain ⟨a, b', c, d, hh⟩ := hrcell
     cases e
     rw [hh] at h3
     cases h3)
   have Hrg2 := hidI hrg2
   have Hrg := hidI hrg
   have hs2' : wr.heap.size ≤ w2.heap.size := by omega
   obtain ⟨Q, hQ⟩ : ∃ Q, Q = txt q := ⟨_, rfl⟩
   obtain ⟨U, hU⟩ : ∃ U, U = txt (par q) := ⟨_, rfl⟩
   obtain ⟨V, hV⟩ : ∃ V, V = txt (nm q) := ⟨_, rfl⟩
   rw [← hQ] at HI hen ⊢
   rw [← hU, ← hV] at HI
   have HU := hidI hU
   have HV := hidI hV
   obtain ⟨o, hoo⟩ : ∃ o, o = decide (par q = ([] : Bs)) := ⟨_, rfl⟩
   rw [← hoo] at Hst
   have hcmp : (U.toList == (txt ([] : Bs)).toList) = o := by rw [hoo, hU, txt_beq]
   clear hoo hat hv hkey hlk hg2 hs2 hrg2 hrg hhas hx hxl hxp ep hrcell hQ HO HB hU hV
   cases o with
   | false =>
     simp only [Bool.false_eq_true, if_false] at Hst
     go_wp2_with fail
     refine HI.out.mono ?_
     rintro e w3 ⟨rfl, hb3⟩
     have HB3 := hidI (HB2.out.trans (hb3.mono (by omega)))
     have HO3 := hidI (own_below HO2.out hb3 (fun q hq => (HO2.out.lt q hq).2))
     have Hr3 := hidI (Hrg2.out.kept (below_grown hb3) (by simp) (by simp))
     clear hb3 HI
     go_wp2
     go_roundw
     case rel => exact ⟨_, cnt2, qs, Hr3.out, by have := HLq.out; omega, Hst, by have := HL.out; rw [← this]; exact HO3, HB3⟩
     case measure => rw [Hr3.out.left_eq, Hrg.out.left_eq]; exact hlt2
   | true =>
     simp only [if_true] at Hst
     go_wp2_with fail
     refine HI.out.mono ?_
     rintro e w3 ⟨rfl, hb3⟩
     have HB3 := hidI (HB2.out.trans (hb3.mono (by omega)))
     have HO3 := hidI (own_below HO2.out hb3 (fun q hq => (HO2.out.lt q hq).2))
     have Hr3 := hidI (Hrg2.out.kept (below_grown hb3) (by simp) (by simp))
     have hs3 := hb3.size
     clear hb3 HI
     go_wp2_with (at_builtin; refine wpList_append_own _ rfl (.tmp 44) (.tmp 46) 40 rfl w.heap.size 9 i0 (.string ByteArray.empty) 1 16 Tryz.underlying40 hi hz0 hz1 hz2 rfl (by decide) _ _ _ rfl (HO3.out.alloc _) ⟨w3.heap.size, 0, none⟩ 1 1 [.string V] rfl rfl ?c1 ?c2 ?c3 ?c4 ?c5 ?_)
     case c1 => exact cell_one_new _ _ _
     case c2 => intro u hu; simp at hu; subst hu; rfl
     case c3 => unfold maxLen; omega
     case c4 => omega
     case c5 => simp; omega
     intro v4 w4 hown4 hgrow _
     have hb4 : Below w.heap.size w w4 := (HB3.out.alloc (by omega) _).grown hgrow (by simp; omega) (fun k hk => (HO3.out.lt k hk).1)
     have HO4 : Hid (w4.ownsRow w.heap.size 9 1 v4 ((qs ++ [q]).map nm).length (sv ((qs ++ [q]).map nm))) := hidI (by
      have e1 : sv ((qs ++ [q]).map nm) = sv (qs.map nm) ++ [.string V] := by rw [HV.out]; simp [sv]
      rw [e1, List.map_append, List.length_append, ← HL.out]
      exact hown4)
     have hr4 := ranges_grown (Hr3.out.kept (World.grownBy_alloc w3 (.cells #[.string V] 9) none) (by simp) (by simp)) (HO3.out.alloc _) hgrow
     have Hr4 := hidI hr4
     have HB4 := hidI hb4
     clear hown4 hgrow hb4 hr4
     go_wp2
     go_roundw
     case rel => exact ⟨_, cnt2, qs ++ [q], Hr4.out, by rw [List.length_append, ← HLq.out]; simp; omega, Hst, HO4, HB4⟩
     case measure => rw [Hr4.out.left_eq, Hrg.out.left_eq]; exact hlt2
theorem tlist_path (b : Nat) (l : List It) (p : Bs) (w : World) (hT : TreeAt w b l) (hml : ML w) (hp0 : p ≠ []) (hp : p.length ≤ 1048576) (hn : (l.map (·.path)).Nodup) (hl : l.length ≤ 1000) (hq : ∀ x ∈ l, x.path.length ≤ 1048576) :
 Calls Tryz.prog 40 #[.map (some b), .string (txt p)] w fun e w' => ListP l p w e w' := by
 obtain ⟨i0, hi, hz0, hz1, hz2⟩ := info_parts Tryz.info9
 have HR := hidI (tfind_any b l p w hT hml hp)
 have hlt := hT.lt
 have Hn := hidI hn
 have Hq := hidI hq
 have HT := hidI hT
 have hemp : (txt p).toList.isEmpty = false := by rw [txt_toList]; simpa using hp0
 obtain ⟨n, hnn⟩ : ∃ n, n = findN l p := ⟨_, rfl⟩
 obtain ⟨E, hE⟩ : ∃ E, E = findE l p := ⟨_, rfl⟩
 have hle : listE l p = if E = 0 then (if n.dir then 0 else 6) else E := by unfold listE; rw [if_neg hp0, ← hnn, ← hE]
 have Hle := hidI hle
 rw [← hnn, ← hE] at HR
 unfold ndv at HR
 clear hn hq hT hml hnn hE hle
 by_cases hE0 : E = 0
 ·subst hE0
  cases hd : n.dir with
  | false =>
    have HE : Hid (listE l p = 6) := hidI (by rw [Hle.out, if_pos rfl, hd]; rfl)
    rw [hd] at HR
    go_enter Tryz.func40, Tryz.ntmps40
    go_wp2_with fail
    refine HR.out.mono ?_
    rintro e w1 ⟨hb1, rfl⟩
    have HB1 := hidI hb1
    have hs1 := hb1.size
    clear hb1 HR
    go_wp2
    go_ret2
    exact ⟨HB1.out.alloc hs1 _, .inl ⟨by rw [HE.out]; decide, by rw [HE.out]; rfl⟩⟩
  | true =>
    have HE : Hid (listE l p = 0) := hidI (by rw [Hle.out, if_pos rfl, hd]; rfl)
    rw [hd] at HR
    go_enter Tryz.func40, Tryz.ntmps40
    go_wp2_with fail
    refine HR.out.mono ?_
    rintro e w1 ⟨hb1, rfl⟩
    have hT1 := HT.out.below hb1 hlt
    obtain ⟨W2, hW2⟩ : ∃ W2, W2 = w1.alloc (.cells #[.bool true, .string (txt n.data), .int .i64 n.mode, .int .i64 n.time] 117) := ⟨_, rfl⟩
    have hT2 : TreeAt W2 b l := by rw [hW2]; exact hT1.of_block (Below.heap_alloc _ _ _ hT1.lt)
    have HBW : Hid (Below w.heap.size w W2) := hidI (by rw [hW2]; exact hb1.alloc hb1.size _)
    have m0 : W2.cell? ⟨w1.heap.size, 0, none⟩ = some (.bool true) := by rw [hW2, cell_of_row _ w1.heap.size 0 _ 117 (0, 0) (heap_alloc_new _ _)]; rfl
    obtain ⟨D, ho, hh⟩ := hT2
    have Hsz := hidI (size_tree ho hh Hn.out)
    have Hh := hidI hh
    have Hown := hidI ho
    have HW2 := hidI hW2
    clear hb1 HR hT1 hW2 ho hh HT
    go_wp2_with (first | (rw [← HW2.out]) | (at_range; refine wpList_range_own _ rfl _ 77 rfl 9 117 law9 Tryz.underlying77 _ b _ D rfl Hown.out ?_; intro w0 hrg0 hg0 hs0) | go_in)
    go_frame
    have Hb0 : Hid (Below w.heap.size w w0) := hidI (HBW.out.grown hg0 HBW.out.size (fun q hq => by cases hq))
    have Hrg0 := hidI hrg0
    clear hrg0 hg0 Hown
    obtain ⟨r, hr⟩ : ∃ r, r = W2.heap.size := ⟨_, rfl⟩
    rw [← hr] at Hrg0 hs0 ⊢
    have hrw : w.heap.size ≤ r := by have := HBW.out.size; omega
    clear hr hs0
    go_loopw [8] (fun v wx => ∃ (left : Lit → Bool) (cnt : Nat) (qs : List Bs), wx.ranges Tryz.prog 9 ndOf b r (Maps.size D) D left cnt ∧ qs.length + cnt ≤ l.length ∧ Hid (Pick l (fun q => decide (par q = p)) left qs) ∧ Hid (wx.ownsRow w.heap.size 9 1 v (qs.map nm).length (sv (qs.map nm))) ∧ Hid (Below w.heap.size w wx))
     (fun _ wx => wx.rangeLeft b r)
    case atStart => exact ⟨_, _, [], Hrg0.out, by have := Hsz.out; simp; omega, hidI ⟨by simp, fun q => by simp; intro h1 h2; exact ((Hh.out q).1).trans h1⟩, hidI (World.ownsRow_nil _ _ _ _), Hb0⟩
    case round =>
     obtain ⟨left, cnt, qs, hrg, hcnt, HP, HO, HB⟩ := hrel
     clear Hb0 Hrg0
     have hszr := HB.out.size
     obtain ⟨a8, c8, rfl⟩ := own_slice9 HO.out
     obtain ⟨L, hL⟩ : ∃ L, L = (qs.map nm).length := ⟨_, rfl⟩
     have hLq : L = qs.length := by rw [hL]; simp
     rw [← hL] at HO ⊢
     have HL := hidI hL
     have HLq := hidI hLq
     have hcnt' : L + cnt ≤ l.length := by omega
     clear hL hLq hcnt
     go_wp2_with (first | (at_next; refine wpList_next_ranges _ rfl _ rfl 9 law9 ndOf (fun x : Bs => .string (txt x)) id (fun key kl hk => by obtain ⟨x, hx, _⟩ := Maps.keyOf_str Tryz.underlying9 hk; exact ⟨x, hx⟩) (fun v _ _ => ⟨v, rfl⟩) b r _ _ _ _ rfl hrg ?_ ?_) | go_in)
     ·intro _ hl0
      have hd := HP.out.done Hn.out hl0
      have HSo := hidI (sortS_any w.heap.size (.slice a8 L c8) (qs.map nm) wr (by have := HL.out; rw [← this]; exact HO.out) (by have := HL.out; omega))
      have HN : Hid (rise (qs.map nm) = listN l p) := hidI (rise_perm (hd.map nm))
      clear hd hrg
      go_wp2_with fail
      refine HSo.out.mono ?_
      rintro e w5 ⟨rfl, ho5, hg5⟩
      have HB5 : Hid (Below w.heap.size w w5) := hidI (HB.out.grown hg5 hszr (fun q hq => (HO.out.lt q hq).1))
      have HO5 : Hid (w5.ownsRow w.heap.size 9 1 (.slice a8 L c8) (listN l p).length (sv (listN l p))) := hidI (by
       have e1 : (listN l p).length = (qs.map nm).length := by rw [← HN.out, rise_length]
       rw [e1, ← HN.out]; exact ho5)
      clear ho5 hg5 HSo HP HO
      go_wp2
      go_ret2
      exact ⟨HB5.out, .inr ⟨HE.out, _, rfl, HO5.out⟩⟩
     ·intro q cv kl yd yp w2 cnt2 hkey hlk hv hat hrg2 hlt2 hg2 hs2 hen
      obtain ⟨q', ep, rfl, _⟩ := Maps.keyOf_str Tryz.underlying9 hkey
      obtain rfl : q = q' := by cases ep; rfl
      have hhas : Maps.has D (.string q) = true := Maps.has_true_of_atKey hat
      rw [(Hh.out q).1] at hhas
      have Hst := hidI (HP.out.step hhas hlk)
      obtain ⟨x, hx⟩ := Option.isSome_iff_exists.1 hhas
      obtain ⟨hxl, hxp⟩ := at_some hx
      have hql : q.length ≤ 1048576 := by rw [← hxp]; exact Hq.out x hxl
      have HI := hidI (cutLast_any q w2 hql)
      have HB2 : Hid (Below w.heap.size w w2) := hidI (HB.out.grown hg2 hszr (fun k e => by cases e; omega))
      have hrcell : ∃ a b' c d, wr.heap[r]? = some (.mapIter a b' c d) := by obtain ⟨es, cl, si, se, c0, _, _, _, _, h5, _⟩ := hrg; exact ⟨_, _, _, _, h5⟩
      have HO2 : Hid (w2.ownsRow w.heap.size 9 1 (.slice a8 L c8) L (sv (qs.map nm))) := hidI (by
       have hoo := HO.out
       refine ⟨hoo.1, ?_⟩
       rcases hoo.2 with h1 | ⟨g', cap', cur, h1, h2, h3, h4⟩
       ·exact .inl h1
       ·refine .inr ⟨g', cap', cur, h1, h2, (hg2.block g' (lt_of_heap h3) (fun e => ?_)).trans h3, h4⟩
        obtain ⟨a, b', c, d, hh⟩ := hrcell
        cases e
        rw [hh] at h3
        cases h3)
      have Hrg2 := hidI hrg2
      have Hrg := hidI hrg
      have hs2' : wr.heap.size ≤ w2.heap.size := by omega
      obtain ⟨Q, hQ⟩ : ∃ Q, Q = txt q := ⟨_, rfl⟩
      obtain ⟨U, hU⟩ : ∃ U, U = txt (par q) := ⟨_, rfl⟩
      obtain ⟨V, hV⟩ : ∃ V, V = txt (nm q) := ⟨_, rfl⟩
      rw [← hQ] at HI hen ⊢
      rw [← hU, ← hV] at HI
      have HU := hidI hU
      have HV := hidI hV
      obtain ⟨o, hoo⟩ : ∃ o, o = decide (par q = p) := ⟨_, rfl⟩
      rw [← hoo] at Hst
      have hcmp : (U.toList == (txt p).toList) = o := by rw [hoo, hU, txt_beq]
      clear hoo hat hv hkey hlk hg2 hs2 hrg2 hrg hhas hx hxl hxp ep hrcell hQ HO HB hU hV
      cases o with
      | false =>
        simp only [Bool.false_eq_true, if_false] at Hst
        go_wp2_with fail
        refine HI.out.mono ?_
        rintro e w3 ⟨rfl, hb3⟩
        have HB3 := hidI (HB2.out.trans (hb3.mono (by omega)))
        have HO3 := hidI (own_below HO2.out hb3 (fun q hq => (HO2.out.lt q hq).2))
        have Hr3 := hidI (Hrg2.out.kept (below_grown hb3) (by simp) (by simp))
        clear hb3 HI
        go_wp2
        go_roundw
        case rel => exact ⟨_, cnt2, qs, Hr3.out, by have := HLq.out; omega, Hst, by have := HL.out; rw [← this]; exact HO3, HB3⟩
        case measure => rw [Hr3.out.left_eq, Hrg.out.left_eq]; exact hlt2
      | true =>
        simp only [if_true] at Hst
        go_wp2_with fail
        refine HI.out.mono ?_
        rintro e w3 ⟨rfl, hb3⟩
        have HB3 := hidI (HB2.out.trans (hb3.mono (by omega)))
        have HO3 := hidI (own_below HO2.out hb3 (fun q hq => (HO2.out.lt q hq).2))
        have Hr3 := hidI (Hrg2.out.kept (below_grown hb3) (by simp) (by simp))
        have hs3 := hb3.size
        clear hb3 HI
        go_wp2_with (at_builtin; refine wpList_append_own _ rfl (.tmp 44) (.tmp 46) 40 rfl w.heap.size 9 i0 (.string ByteArray.empty) 1 16 Tryz.underlying40 hi hz0 hz1 hz2 rfl (by decide) _ _ _ rfl (HO3.out.alloc _) ⟨w3.heap.size, 0, none⟩ 1 1 [.string V] rfl rfl ?c1 ?c2 ?c3 ?c4 ?c5 ?_)
        case c1 => exact cell_one_new _ _ _
        case c2 => intro u hu; simp at hu; subst hu; rfl
        case c3 => unfold maxLen; omega
        case c4 => omega
        case c5 => simp; omega
        intro v4 w4 hown4 hgrow _
        have hb4 : Below w.heap.size w w4 := (HB3.out.alloc (by omega) _).grown hgrow (by simp; omega) (fun k hk => (HO3.out.lt k hk).1)
        have HO4 : Hid (w4.ownsRow w.heap.size 9 1 v4 ((qs ++ [q]).map nm).length (sv ((qs ++ [q]).map nm))) := hidI (by
         have e1 : sv ((qs ++ [q]).map nm) = sv (qs.map nm) ++ [.string V] := by rw [HV.out]; simp [sv]
         rw [e1, List.map_append, List.length_append, ← HL.out]
         exact hown4)
        have hr4 := ranges_grown (Hr3.out.kept (World.grownBy_alloc w3 (.cells #[.string V] 9) none) (by simp) (by simp)) (HO3.out.alloc _) hgrow
        have Hr4 := hidI hr4
        have HB4 := hidI hb4
        clear hown4 hgrow hb4 hr4
        go_wp2
        go_roundw
        case rel => exact ⟨_, cnt2, qs ++ [q], Hr4.out, by rw [List.length_append, ← HLq.out]; simp; omega, Hst, HO4, HB4⟩
        case measure => rw [Hr4.out.left_eq, Hrg.out.left_eq]; exact hlt2
 ·have HE : Hid (listE l p = E) := hidI (by rw [Hle.out, if_neg hE0])
  go_enter Tryz.func40, Tryz.ntmps40
  go_wp2_with fail
  refine HR.out.mono ?_
  rintro e w1 ⟨hb1, rfl⟩
  have HB1 := hidI hb1
  have hs1 := hb1.size
  clear hb1 HR
  go_wp2
  go_ret2
  exact ⟨HB1.out.alloc hs1 _, .inl ⟨by rw [HE.out]; exact hE0, by rw [HE.out]; rfl⟩⟩
theorem tlist_any (b : Nat) (l : List It) (p : Bs) (w : World) (hT : TreeAt w b l) (ht : TreeP l) (hml : ML w) (hp : p.length ≤ 1048576) :
 Calls Tryz.prog 40 #[.map (some b), .string (txt p)] w fun e w' => ListP l p w e w' := by
 have hq : ∀ x ∈ l, x.path.length ≤ 1048576 := fun x hx => by have := (okItem_fit (ht.ok x hx)).p; omega
 have hl : l.length ≤ 1000 := by have := ht.len; omega
 by_cases h : p = []
 ·subst h; exact tlist_root b l w hT ht.nodup hl hq
 ·exact tlist_path b l p w hT hml h hp ht.nodup hl hq
end Go.Proofs.YtodmdkhdbfbfgaaGreatDoor
namespace Go.Proofs.YtodmdkhdbfbfgaaGreatDoor
open Go.RowKit Go.Nt
set_option linter.unusedVariables false
set_option linter.unusedSimpArgs false
theorem follow_any (w : World) (lo hi cb : Nat) (L : S1.Loc) (m : S1.M) (X : ByteArray) (b n e : Nat) (q : Option Nat) (h : S1.CP w lo hi cb L m) (hsz : hi ≤ w.heap.size) :
 Calls Tryz.prog 47 #[.pointer (some ⟨cb, 0, none⟩), .agg #[.string X, .int .i64 (b : Nat), .int .u32 (n : Nat), .map q, .int .i64 (e : Nat)]] w fun e' w' => ∃ lb, e' = .returned (.pointer (some ⟨lb, 0, none⟩)) ∧ w.heap.size ≤ lb ∧ S1.LogAt w' lb cb ⟨b, n, none⟩ q none e m.np ∧ Below w.heap.size w w' := by
 obtain ⟨W1, hW1⟩ : ∃ W1, W1 = w.alloc (.cells #[.string X, .int .i64 (b : Nat), .int .u32 (n : Nat), .map q, .int .i64 (e : Nat)] 94) := ⟨_, rfl⟩
 obtain ⟨rb, hrb⟩ : ∃ rb, rb = w.heap.size := ⟨_, rfl⟩
 have hb1 : Below w.heap.size w W1 := by rw [hW1]; exact (Below.refl _ w).alloc (Nat.le_refl _) _
 have hr1 : W1.heap[rb]? = some (.cells #[.string X, .int .i64 (b : Nat), .int .u32 (n : Nat), .map q, .int .i64 (e : Nat)] 94 (0, 0)) := by rw [hW1, hrb]; exact heap_alloc_new _ _
 have hC1 : S1.CP W1 lo hi cb L m := S1.MemX.below h hsz hb1
 have A := hidI (S1.pages_any W1.drew lo hi cb L m hC1.drew)
 have r1 : W1.drew.cell? ⟨rb, 1, none⟩ = some (.int .i64 (b : Nat)) := by rw [World.cell?_of_block (w := W1) (w' := W1.drew) rfl, cell_of_row W1 rb 1 _ 94 (0, 0) hr1]; rfl
 have r2 : W1.drew.cell? ⟨rb, 2, none⟩ = some (.int .u32 (n : Nat)) := by rw [World.cell?_of_block (w := W1) (w' := W1.drew) rfl, cell_of_row W1 rb 2 _ 94 (0, 0) hr1]; rfl
 have r3 : W1.drew.cell? ⟨rb, 3, none⟩ = some (.map q) := by rw [World.cell?_of_block (w := W1) (w' := W1.drew) rfl, cell_of_row W1 rb 3 _ 94 (0, 0) hr1]; rfl
 have r4 : W1.drew.cell? ⟨rb, 4, none⟩ = some (.int .i64 (e : Nat)) := by rw [World.cell?_of_block (w := W1) (w' := W1.drew) rfl, cell_of_row W1 rb 4 _ 94 (0, 0) hr1]; rfl
 obtain ⟨np, hnp⟩ : ∃ np, np = m.np := ⟨_, rfl⟩
 rw [← hnp] at A ⊢
 have HB1 := hidI hb1
 have HW1 := hidI hW1
 have Hrb := hidI hrb
 have hlt := lt_of_heap hr1
 rw [← hrb]
 rw [← hrb] at HB1
 clear hnp hW1 hrb hb1 hC1 h hr1
 go_enter Tryz.func47, Tryz.ntmps47
 go_wp2_with (first | (rw [← HW1.out, ← Hrb.out]) | fail)
 refine wp_region_held_drew (S := fun V => V.cell? ⟨rb, 1, none⟩ = some (.int .i64 (b : Nat)) ∧ V.cell? ⟨rb, 2, none⟩ = some (.int .u32 (n : Nat)) ∧ V.cell? ⟨rb, 3, none⟩ = some (.map q) ∧ V.cell? ⟨rb, 4, none⟩ = some (.int .i64 (e : Nat))) (by kernel_rfl) ⟨r1, r2, r3, r4⟩ (fun hHeld => ?_)
 refine tk 0 ⟨some 5, .move (.tmp 0), 28, "log.go:24", #[], none⟩ (.pointer (some ⟨cb, 0, none⟩)) rfl (by kernel_rfl) (fun _ _ _ h => h) (fun w h => by (try dsimp only at h); go_simp) hHeld ?_
 simp only [Act.put, List.setIfInBounds_toArray, List.set]
 refine tk 1 ⟨some 6, .fieldAddr 94 (.tmp 3) 1, 0, "log.go:24", #[], none⟩ (.pointer (some ⟨rb, 1, none⟩)) rfl (by kernel_rfl) (fun _ _ _ h => h) (fun w h => by (try dsimp only at h); go_simp) hHeld ?_
 simp only [Act.put, List.setIfInBounds_toArray, List.set]
 refine tk 2 ⟨some 7, .load 90 (.tmp 6), 90, "log.go:24", #[⟨1, .data⟩], none⟩ (.agg #[.int .i64 (b : Nat), .int .u32 (n : Nat)]) rfl (by kernel_rfl) (fun _ _ _ h => h) (fun w h => by (try dsimp only at h); go_simp) hHeld ?_
 simp only [Act.put, List.setIfInBounds_toArray, List.set]
 refine tk 3 ⟨some 8, .fieldAddr 94 (.tmp 3) 2, 0, "log.go:24", #[], none⟩ (.pointer (some ⟨rb, 3, none⟩)) rfl (by kernel_rfl) (fun _ _ _ h => h) (fun w h => by (try dsimp only at h); go_simp) hHeld ?_
 simp only [Act.put, List.setIfInBounds_toArray, List.set]
 refine tk 4 ⟨some 9, .load 92 (.tmp 8), 92, "log.go:24", #[⟨3, .data⟩], none⟩ (.map q) rfl (by kernel_rfl) (fun _ _ _ h => h) (fun w h => by (try dsimp only at h); go_simp) hHeld ?_
 simp only [Act.put, List.setIfInBounds_toArray, List.set]
 refine tk 5 ⟨some 10, .fieldAddr 94 (.tmp 3) 3, 0, "log.go:24", #[], none⟩ (.pointer (some ⟨rb, 4, none⟩)) rfl (by kernel_rfl) (fun _ _ _ h => h) (fun w h => by (try dsimp only at h); go_simp) hHeld ?_
 simp only [Act.put, List.setIfInBounds_toArray, List.set]
 refine tk 6 ⟨some 11, .load 3 (.tmp 10), 3, "log.go:24", #[⟨5, .data⟩], none⟩ (.int .i64 (e : Nat)) rfl (by kernel_rfl) (fun _ _ _ h => h) (fun w h => by (try dsimp only at h); go_simp) hHeld ?_
 simp only [Act.put, List.setIfInBounds_toArray, List.set]
 refine tk 7 ⟨some 12, .move (.tmp 0), 28, "log.go:24", #[], none⟩ (.pointer (some ⟨cb, 0, none⟩)) rfl (by kernel_rfl) (fun _ _ _ h => h) (fun w h => by (try dsimp only at h); go_simp) hHeld ?_
 simp only [Act.put, List.setIfInBounds_toArray, List.set]
 refine rd 8 (by kernel_rfl) rfl (fun K hK => ?_)
 go_simp
 refine A.out.mono ?_
 rintro e' w' ⟨rfl, hw⟩
 have hw' := hw.symm
 subst hw'
 clear hw
 refine hK.out _ _ ⟨r1, r2, r3, r4⟩ (fun hHeld => ?_)
 clear hK K
 refine tk 9 ⟨some 14, .build 132 #[(0, .tmp 5), (1, .tmp 7), (2, .tmp 9), (5, .tmp 11), (6, .tmp 13)], 132, "log.go:24", #[⟨0, .data⟩, ⟨2, .data⟩, ⟨4, .data⟩, ⟨6, .data⟩, ⟨8, .data⟩], none⟩ (.agg #[.pointer (some ⟨cb, 0, none⟩), .int .i64 (b : Nat), .int .u32 (n : Nat), .map q, .map none, .map none, .int .i64 (e : Nat), .int .i64 (np : Nat)]) rfl (by kernel_rfl) (fun _ _ _ h => h) (fun w h => by (try dsimp only at h); go_simp) hHeld ?_
 simp only [Act.put, List.setIfInBounds_toArray, List.set]
 refine rd 10 (by kernel_rfl) rfl (fun K hK => ?_)
 go_simp
 obtain ⟨W2, hW2⟩ : ∃ W2, W2 = (W1.alloc (.cells #[.pointer (some ⟨cb, 0, none⟩), .int .i64 (b : Nat), .int .u32 (n : Nat), .map q, .map none, .map none, .int .i64 (e : Nat), .int .i64 (np : Nat)] 132)).drew := ⟨_, rfl⟩
 obtain ⟨lb, hlb⟩ : ∃ lb, lb = W1.heap.size := ⟨_, rfl⟩
 have hk : ∀ k, W2.cell? ⟨rb, k, none⟩ = W1.drew.cell? ⟨rb, k, none⟩ := fun k => by rw [hW2]; exact World.cell?_of_block (Below.heap_alloc W1 _ rb hlt)
 have r1' := (hk 1).trans r1
 have r2' := (hk 2).trans r2
 have r3' := (hk 3).trans r3
 have r4' := (hk 4).trans r4
 have HLg : Hid (S1.LogAt W2 lb cb ⟨b, n, none⟩ q none e np) := hidI (by show W2.heap[lb]? = _; rw [hW2, hlb]; exact heap_alloc_new _ _)
 have HB2 : Hid (Below rb w W2) := hidI (by rw [hW2]; exact below_drew (HB1.out.alloc (by omega) _))
 have hlr : rb ≤ lb := by omega
 refine hK.out _ _ (by rw [← hW2]; exact ⟨r1', r2', r3', r4'⟩) (fun hHeld => ?_)
 rw [← hW2] at hHeld ⊢
 simp only [← hlb]
 clear hK K hW2 hlb hk
 refine tk 11 ⟨some 4, .assign (.tmp 15), 75, "log.go:24", #[⟨10, .data⟩, ⟨8, .chain⟩, ⟨0, .phase⟩, ⟨1, .phase⟩, ⟨2, .phase⟩, ⟨3, .phase⟩, ⟨4, .phase⟩, ⟨5, .phase⟩, ⟨6, .phase⟩, ⟨7, .phase⟩, ⟨8, .phase⟩, ⟨9, .phase⟩, ⟨10, .phase⟩], none⟩ (.pointer (some ⟨lb, 0, none⟩)) rfl (by kernel_rfl) (fun _ _ _ h => h) (fun w h => by (try dsimp only at h); go_simp) hHeld ?_
 simp only [Act.put, List.setIfInBounds_toArray, List.set]
 refine wpAnyH_done (by kernel_rfl) ?_ _
 clear hHeld
 go_wp2_with fail
 go_ret
 exact ⟨lb, rfl, hlr, HLg.out, HB2.out⟩
def FsAt (w : World) (fb cb lb tb : Nat) : Prop := w.heap[fb]? = some (.cells #[.pointer (some ⟨cb, 0, none⟩), .pointer (some ⟨lb, 0, none⟩), .map (some tb)] 79 (0, 0))
theorem FsAt.c2 {w : World} {fb cb lb tb : Nat} (h : FsAt w fb cb lb tb) : w.cell? ⟨fb, 2, none⟩ = some (.map (some tb)) := by rw [cell_of_row w fb 2 _ 79 (0, 0) h]; rfl
theorem fsTree_any (w : World) (fb cb lb tb : Nat) (l : List It) (h : FsAt w fb cb lb tb) (hT : TreeAt w tb l) (ht : TreeP l) (hml : ML w) :
 Calls Tryz.prog 12 #[.pointer (some ⟨fb, 0, none⟩)] w fun e w' => Below w.heap.size w w' ∧ ∃ v, e = .returned v ∧ w'.ownsRow w.heap.size 39 5 v l.length (its (inOrder l)) := by
 have c2 := h.c2
 have A := hidI (items_any tb l w hT ht.nodup (by have := ht.len; omega) hml (fun x hx => by have := (okItem_fit (ht.ok x hx)).p; omega))
 clear h hT ht hml
 go_enter Tryz.func12, Tryz.ntmps12
 go_wp2_with fail
 refine A.out.mono ?_
 rintro e W1 ⟨hb, v, rfl, ho⟩
 have Ho := hidI ho
 have Hb := hidI hb
 obtain ⟨a2, c2', rfl, hin⟩ := own_in (l := inOrder l) (by rw [(order_perm l).length_eq]; exact ho)
 clear ho hb hin
 go_wp2_with fail
 go_ret
 exact ⟨Hb.out, _, rfl, Ho.out⟩
theorem fsRead_any (w : World) (fb cb lb tb : Nat) (l : List It) (p : Bs) (h : FsAt w fb cb lb tb) (hT : TreeAt w tb l) (hml : ML w) (hp : p.length ≤ 1048576) :
 Calls Tryz.prog 14 #[.pointer (some ⟨fb, 0, none⟩), .string (txt p)] w fun e w' => Below w.heap.size w w' ∧ e = .returned (.tuple #[.string (txt (fileN l p).data), .int .i64 (fileE l p)]) := by
 have c2 := h.c2
 have A := hidI (tread_any tb l p w hT hml hp)
 obtain ⟨X, hX⟩ : ∃ X, X = txt p := ⟨_, rfl⟩
 obtain ⟨Y, hY⟩ : ∃ Y, Y = txt (fileN l p).data := ⟨_, rfl⟩
 obtain ⟨E, hE⟩ : ∃ E, E = fileE l p := ⟨_, rfl⟩
 rw [← hX, ← hY, ← hE] at A ⊢
 clear h hT hml hX hY hE
 go_enter Tryz.func14, Tryz.ntmps14
 go_wp2_with fail
 refine A.out.mono ?_
 rintro e W1 ⟨hb, rfl⟩
 have Hb := hidI hb
 clear hb
 go_wp2_with fail
 go_ret2
 exact ⟨Hb.out, rfl⟩
end Go.Proofs.YtodmdkhdbfbfgaaGreatDoor
namespace Go.Proofs.YtodmdkhdbfbfgaaGreatDoor
open Go.RowKit Go.Nt
set_option linter.unusedVariables false
set_option linter.unusedSimpArgs false
theorem fsList_any (w : World) (fb cb lb tb : Nat) (l : List It) (p : Bs) (h : FsAt w fb cb lb tb) (hT : TreeAt w tb l) (ht : TreeP l) (hml : ML w) (hp : p.length ≤ 1048576) :
 Calls Tryz.prog 15 #[.pointer (some ⟨fb, 0, none⟩), .string (txt p)] w fun e w' => ListP l p w e w' := by
 have c2 := h.c2
 have A := hidI (tlist_any tb l p w hT ht hml hp)
 obtain ⟨X, hX⟩ : ∃ X, X = txt p := ⟨_, rfl⟩
 obtain ⟨E, hE⟩ : ∃ E, E = listE l p := ⟨_, rfl⟩
 unfold ListP at A ⊢
 rw [← hX, ← hE] at A
 rw [← hX, ← hE]
 clear h hT hml hX hE
 go_enter Tryz.func15, Tryz.ntmps15
 go_wp2_with fail
 refine A.out.mono ?_
 rintro e W1 ⟨hb, ⟨hne, rfl⟩ | ⟨h0, v, rfl, hown⟩⟩
 ·have Hb := hidI hb
  have Hne := hidI hne
  clear hb hne
  go_wp2_with fail
  go_ret2
  exact ⟨Hb.out, .inl ⟨Hne.out, rfl⟩⟩
 ·have Hb := hidI hb
  have H0 := hidI h0
  have Hown := hidI hown
  obtain ⟨a, c, rfl⟩ := own_slice9 hown
  clear hb h0 hown
  go_wp2_with fail
  go_ret2
  exact ⟨Hb.out, .inr ⟨H0.out, _, rfl, Hown.out⟩⟩
end Go.Proofs.YtodmdkhdbfbfgaaGreatDoor
namespace Go.Proofs.YtodmdkhdbfbfgaaGreatDoor.S1
open Go.RowKit Pk
set_option linter.unusedVariables false
def anyOf : Value → Option (DataW Value × List MemPlace) := fun v => some (.held v, [])
theorem anyOf_inv {v u : Value} {ps : List MemPlace} (h : anyOf v = some (.held u, ps)) : v = u := by
 unfold anyOf at h; simp at h; exact h.1
theorem zero201 (w : World) : (zeroValue 201).run Tryz.prog w = .ok (.slice none 0 0) w := by kernel_rfl
theorem make200 (w : World) : (Instr.makeMap 200 none).run Tryz.prog w = .ok (.map (some w.heap.size)) (w.alloc (.map #[] 0)) := by
 simp [Instr.makeMap, Result.andThen]
theorem look200_none {w : World} {g n : Nat} (h : w.ownsMap Tryz.prog 3 anyOf g n (.map [])) {b : Nat} (hb : b ≤ 1000000) : (Instr.lookup 200 (.map (some g)) (.int .i64 (b : Nat)) false).run Tryz.prog w = .ok (.slice none 0 0) w := by
 obtain ⟨v', ps', h3, h4⟩ := h.lookup law3 Tryz.underlying200 (zero201 w) (show anyOf (.slice none 0 0) = some (.held (.slice none 0 0), []) from rfl) (key3 hb)
 rw [Maps.atKey_of_not_has rfl] at h4
 rw [anyOf_inv h4] at h3
 exact h3
theorem store200 {w : World} {g n : Nat} (h : w.ownsMap Tryz.prog 3 anyOf g n (.map [])) {b : Nat} (hb : b ≤ 1000000) (hn : n ≤ 1000000) (v : Value) :
 ∃ w', (Instr.mapUpdate 200 (.map (some g)) (.int .i64 (b : Nat)) v).run Tryz.prog w = .ok () w' ∧ w'.ownsMap Tryz.prog 3 anyOf g (n + 1) (.map [(.int .i64 (b : Nat), .held v)]) ∧ w.mapTurned w' g := by
 obtain ⟨w', h1, h2, h3⟩ := h.store law3 Tryz.underlying200 (by unfold maxLen; omega) (key3 hb) (show anyOf v = some (.held v, []) from rfl)
 exact ⟨w', h1, h2, h3⟩
theorem look200_some {w : World} {g n : Nat} {b : Nat} {v : Value} (h : w.ownsMap Tryz.prog 3 anyOf g n (.map [(.int .i64 (b : Nat), .held v)])) (hb : b ≤ 1000000) : (Instr.lookup 200 (.map (some g)) (.int .i64 (b : Nat)) false).run Tryz.prog w = .ok v w := by
 obtain ⟨v', ps', h3, h4⟩ := h.lookup law3 Tryz.underlying200 (zero201 w) (show anyOf (.slice none 0 0) = some (.held (.slice none 0 0), []) from rfl) (key3 hb)
 have : (DataW.map [(Lit.int .i64 (b : Nat), DataW.held v)] : DataW Value).atKey (.int .i64 (b : Nat)) (.held (.slice none 0 0)) = .held v := by
  simp [DataW.atKey, Lit.sameKey]
 rw [this] at h4
 rw [anyOf_inv h4] at h3
 exact h3
theorem owns_block {w w' : World} {T : TypeId} {H : Type} {R : Value → Option (DataW H × List MemPlace)} {g n : Nat} {D : DataW H} (h : w.ownsMap Tryz.prog T R g n D) (hb : w'.heap[g]? = w.heap[g]?) : w'.ownsMap Tryz.prog T R g n D := by
 obtain ⟨es, clock, h1, h2⟩ := h
 exact ⟨es, clock, hb.trans h1, h2⟩
end Go.Proofs.YtodmdkhdbfbfgaaGreatDoor.S1
