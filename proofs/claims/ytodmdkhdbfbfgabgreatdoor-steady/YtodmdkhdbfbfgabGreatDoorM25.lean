/- Lemmas. -/
import Derived.Test.YtodmdkhdbfbfgabGreatDoorM24
set_option linter.unusedVariables false
set_option linter.unusedSimpArgs false
set_option maxRecDepth 100000
set_option maxHeartbeats 8000000
namespace Go.Proofs.YtodmdkhdbfbfgabGreatDoor
open Go.RowKit Go.Nt
structure PackC (u:Bs→Option Bs):Prop where
 small:∀ (t d:Bs),u t=some d→d.length≤4000
 pack:∀ (w:World) (d:Bs),d.length≤4000→Calls Tryz.prog 109 #[.string (txt d)] w fun e w'=>∃ t,e=.returned (.tuple #[.string (txt t),.int .i64 0])∧u t=some d∧t.length≤d.length+1∧Below w.heap.size w w'
 some:∀ (w:World) (t d:Bs),t.length≤1000000→u t=some d→Calls Tryz.prog 97 #[.string (txt t)] w fun e w'=>e=.returned (.tuple #[.string (txt d),.int .i64 0])∧Below w.heap.size w w'
 none:∀ (w:World) (t:Bs),t.length≤1000000→u t=none→Calls Tryz.prog 97 #[.string (txt t)] w fun e w'=>e=.returned (.tuple #[.string ⟨#[]⟩,.int .i64 2])∧Below w.heap.size w w'
def headB (k t:Nat) (p:Bs):Bs:=enc 2 k++enc 4 t++enc 1 p.length++p
theorem Bytes.alloc {w:World} {B:Nat} {v:Value} {l:Bs} (h:Bytes w B v l) (o:Obj):Bytes (w.alloc o) B v l:=World.ownsRow.alloc h o
theorem Bytes.below {w w':World} {B M:Nat} {v:Value} {l:Bs} (h:Bytes w B v l) (hb:Below M w w') (hM:w.heap.size≤M):Bytes w' B v l:=qdb h hb (fun q hq=>Nat.lt_of_lt_of_le (World.ownsRow.lt h q hq).2 hM)
theorem qgm {u:Bs→Option Bs} (B:Nat) (v:Value) (l:Bs) (x:It) (w:World) (hB:B≤w.heap.size) (hv:Bytes w B v l) (hl:l.length≤900000) (hf:Fit x) (hd:x.dir=true) :
 Calls Tryz.prog 75 #[v,itv x] w fun e w'=>∃ v' a,e=.returned v'∧IsItem u x a∧Bytes w' B v' (l++a)∧Below B w w'∧But 5 w w':=by
 obtain ⟨i0,hi,hz0,hz1,hz2⟩:=info_parts Tryz.info5;obtain ⟨m0,m1,t0,t1,hp,hda,he⟩:=hf;obtain ⟨p,d,dt,m,t⟩:=x;simp only at *;subst hd;obtain rfl:=he rfl;obtain ⟨M,rfl⟩:=Int.eq_ofNat_of_zero_le m0;obtain ⟨T,rfl⟩:=Int.eq_ofNat_of_zero_le t0;have hor:=or15 M m0 m1;unfold itv;obtain ⟨X,hX⟩:∃ X,X=txt p:=⟨_,rfl⟩;have Sx:X.size=p.length:=by rw [hX,qab]
 have HX:=hidI hX;have HS:=hidI Sx;have hXs:X.size≤255:=by omega
 clear Sx;simp only;rw [←hX];obtain ⟨Wb,hWb⟩:∃ Wb,Wb=w.alloc (.cells #[.string X,.bool true,.string (txt []),.int .i64 M,.int .i64 T] 53):=⟨_,rfl⟩;have hbx:Wb.heap[w.heap.size]? = some (.cells #[.string X,.bool true,.string (txt []),.int .i64 M,.int .i64 T] 53 (0,0)):=by rw [hWb];exact heap_alloc_new _ _
 have hB1:Below B w Wb:=by rw [hWb];exact (Below.refl _ w).alloc hB _
 have hbut1:But 5 w Wb:=by rw [hWb];exact (But.refl _ w).alloc _
 have hv1:Bytes Wb B v l:=by rw [hWb];exact hv.alloc _
 have A1:=hidI (qas B v l 2 (M+32768) Wb (by have:=hB1.size;omega) hv1 (by decide) (by omega) (by omega));have HWb:=hidI hWb;have Hbx:=hidI hbx;have HB1:=hidI hB1;have Hbut1:=hidI hbut1;have hszb:=hB1.size;clear hX hbx hB1 hbut1 hv1 hv he hWb;go_enter Tryz.func75,Tryz.ntmps75
 go_wp2_with fail;rw [←HWb.out];refine A1.out.mono ?_;rintro e w1 ⟨v1,rfl,hv1,hb1,hk1⟩;have hx1:=hk1.cells Hbx.out (by decide);have c14:w1.cell? ⟨w.heap.size,4,none⟩=some (.int .i64 T):=by rw [cell_of_row w1 w.heap.size 4 _ 53 (0,0) hx1];rfl
 have A2:=hidI (qas B v1 _ 4 T w1 (by have:=hb1.size;omega) hv1 (by decide) (by rw [List.length_append,qac];omega) (by omega));have Hx1:=hidI hx1;have Hb1:=hidI (HB1.out.trans hb1);have Hk1:=hidI (Hbut1.out.trans hk1);have hsz1:=hb1.size;clear A1 hx1 hb1 hk1 hv1;go_wp2_with fail;refine A2.out.mono ?_;rintro e w2 ⟨v2,rfl,hv2,hb2,hk2⟩;have hx2:=hk2.cells Hx1.out (by decide);have c20:w2.cell? ⟨w.heap.size,0,none⟩=some (.string X):=by rw [cell_of_row w2 w.heap.size 0 _ 53 (0,0) hx2];rfl
 have A3:=hidI (qas B v2 _ 1 X.size w2 (by have:=hb2.size;omega) hv2 (by decide) (by rw [List.length_append,List.length_append,qac,qac];omega) (by omega));have Hx2:=hidI hx2;have Hb2:=hidI (Hb1.out.trans hb2);have Hk2:=hidI (Hk1.out.trans hk2);have hsz2:=hb2.size;clear A2 hx2 hb2 hk2 hv2 c14 Hx1 Hb1 Hk1;go_wp2_with fail;refine A3.out.mono ?_;rintro e w3 ⟨v3,rfl,hv3,hb3,hk3⟩;have hx3:=hk3.cells Hx2.out (by decide);have c30:w3.cell? ⟨w.heap.size,0,none⟩=some (.string X):=by rw [cell_of_row w3 w.heap.size 0 _ 53 (0,0) hx3];rfl
 obtain ⟨a3,cp3,rfl⟩:=hv3.slice;obtain ⟨L,hL⟩:∃ L,L=(l++enc 2 (M+32768)++enc 4 T++enc 1 X.size).length:=⟨_,rfl⟩;have hLl:L≤900007:=by rw [hL];simp [qac];omega
 have Ho:Hid (w3.ownsRow B 5 1 (.slice a3 L cp3) L (bv (l++enc 2 (M+32768)++enc 4 T++enc 1 X.size))):=hidI (by unfold Bytes at hv3;rw [←hL] at hv3;exact hv3);rw [←hL];have HL:=hidI hL;have Hx3:=hidI hx3;have Hb3:=hidI (Hb2.out.trans hb3);have Hk3:=hidI (Hk2.out.trans hk3);have hsz3:=hb3.size;clear A3 hx3 hb3 hk3 hv3 c20 Hx2 Hb2 Hk2 hL;go_wp2_with (at_builtin;refine Lib.wpList_append_own_string _ rfl (.tmp 26) (.tmp 28) 50 9 rfl B 5 i0 Tryz.underlying50 Tryz.underlying9 hi hz0 hz1 hz2 _ _ _ rfl Ho.out X rfl ?c3 ?c4 ?c5 ?_)
 case c3=>unfold maxLen;omega
 case c4=>omega
 case c5=>omega
 intro v4 w4 hown4 hgrow _;have hb4:Below B w w4:=Hb3.out.grown hgrow (by omega) (fun q hq=>(Ho.out.lt q hq).1);have hk4:But 5 w w4:=Hk3.out.grown Ho.out hgrow;have hx4:=(((But.refl 5 w3).grown Ho.out hgrow).cells Hx3.out (by decide));have c41:w4.cell? ⟨w.heap.size,1,none⟩=some (.bool true):=by rw [cell_of_row w4 w.heap.size 1 _ 53 (0,0) hx4];rfl
 have hv4:Hid (Bytes w4 B v4 (l++headB (M+32768) T p)):=by
  refine hidI ?_;unfold Bytes;have h1:=HX.out;have h2:=HL.out;have Sx:=HS.out;have e1:l++headB (M+32768) T p=l++enc 2 (M+32768)++enc 4 T++enc 1 X.size++p:=by unfold headB;rw [Sx];simp
  rw [e1,qaL,List.length_append,←h2,←qfe p,←h1,←Sx];simp only [List.append_assoc];exact hown4
 have Hb4:=hidI hb4;have Hk4:=hidI hk4;clear hown4 hgrow hb4 hk4 hx4 c30;go_wp2;go_ret
 refine ⟨v4,headB (M+32768) T p,rfl,?_,hv4.out,Hb4.out,Hk4.out⟩;unfold IsItem;rw [if_pos rfl];rfl
theorem qfR {u:Bs→Option Bs} (hP:PackC u) (B:Nat) (v:Value) (l:Bs) (x:It) (w:World) (hB:B≤w.heap.size) (hv:Bytes w B v l) (hl:l.length≤900000) (hf:Fit x) (hd:x.dir=false) :
 Calls Tryz.prog 75 #[v,itv x] w fun e w'=>∃ v' a,e=.returned v'∧IsItem u x a∧Bytes w' B v' (l++a)∧Below B w w'∧But 5 w w':=by
 obtain ⟨i0,hi,hz0,hz1,hz2⟩:=info_parts Tryz.info5;obtain ⟨m0,m1,t0,t1,hp,hda,he⟩:=hf;obtain ⟨p,d,dt,m,t⟩:=x;simp only at *;subst hd;obtain ⟨M,rfl⟩:=Int.eq_ofNat_of_zero_le m0;obtain ⟨T,rfl⟩:=Int.eq_ofNat_of_zero_le t0;unfold itv;obtain ⟨X,hX⟩:∃ X,X=txt p:=⟨_,rfl⟩;have Sx:X.size=p.length:=by rw [hX,qab]
 have HX:=hidI hX;obtain ⟨Y,hY⟩:∃ Y,Y=txt dt:=⟨_,rfl⟩;have HPk:=hidI (fun W=>hP.pack W dt hda);rw [←hY] at HPk;have HS:=hidI Sx;have hXs:X.size≤255:=by omega
 clear Sx;simp only;rw [←hX,←hY];obtain ⟨Wb,hWb⟩:∃ Wb,Wb=w.alloc (.cells #[.string X,.bool false,.string Y,.int .i64 M,.int .i64 T] 53):=⟨_,rfl⟩;have hbx:Wb.heap[w.heap.size]? = some (.cells #[.string X,.bool false,.string Y,.int .i64 M,.int .i64 T] 53 (0,0)):=by rw [hWb];exact heap_alloc_new _ _
 have hB1:Below B w Wb:=by rw [hWb];exact (Below.refl _ w).alloc hB _
 have hbut1:But 5 w Wb:=by rw [hWb];exact (But.refl _ w).alloc _
 have hv1:Bytes Wb B v l:=by rw [hWb];exact hv.alloc _
 have A1:=hidI (qas B v l 2 M Wb (by have:=hB1.size;omega) hv1 (by decide) (by omega) (by omega));have HWb:=hidI hWb;have Hbx:=hidI hbx;have HB1:=hidI hB1;have Hbut1:=hidI hbut1;have hszb:=hB1.size;clear hX hbx hB1 hbut1 hv1 hv he hWb hY hP;go_enter Tryz.func75,Tryz.ntmps75
 go_wp2_with fail;rw [←HWb.out];refine A1.out.mono ?_;rintro e w1 ⟨v1,rfl,hv1,hb1,hk1⟩;have hx1:=hk1.cells Hbx.out (by decide);have c14:w1.cell? ⟨w.heap.size,4,none⟩=some (.int .i64 T):=by rw [cell_of_row w1 w.heap.size 4 _ 53 (0,0) hx1];rfl
 have A2:=hidI (qas B v1 _ 4 T w1 (by have:=hb1.size;omega) hv1 (by decide) (by rw [List.length_append,qac];omega) (by omega));have Hx1:=hidI hx1;have Hb1:=hidI (HB1.out.trans hb1);have Hk1:=hidI (Hbut1.out.trans hk1);have hsz1:=hb1.size;clear A1 hx1 hb1 hk1 hv1;go_wp2_with fail;refine A2.out.mono ?_;rintro e w2 ⟨v2,rfl,hv2,hb2,hk2⟩;have hx2:=hk2.cells Hx1.out (by decide);have c20:w2.cell? ⟨w.heap.size,0,none⟩=some (.string X):=by rw [cell_of_row w2 w.heap.size 0 _ 53 (0,0) hx2];rfl
 have A3:=hidI (qas B v2 _ 1 X.size w2 (by have:=hb2.size;omega) hv2 (by decide) (by rw [List.length_append,List.length_append,qac,qac];omega) (by omega));have Hx2:=hidI hx2;have Hb2:=hidI (Hb1.out.trans hb2);have Hk2:=hidI (Hk1.out.trans hk2);have hsz2:=hb2.size;clear A2 hx2 hb2 hk2 hv2 c14 Hx1 Hb1 Hk1;go_wp2_with fail;refine A3.out.mono ?_;rintro e w3 ⟨v3,rfl,hv3,hb3,hk3⟩;have hx3:=hk3.cells Hx2.out (by decide);have c30:w3.cell? ⟨w.heap.size,0,none⟩=some (.string X):=by rw [cell_of_row w3 w.heap.size 0 _ 53 (0,0) hx3];rfl
 obtain ⟨a3,cp3,rfl⟩:=hv3.slice;obtain ⟨L,hL⟩:∃ L,L=(l++enc 2 M++enc 4 T++enc 1 X.size).length:=⟨_,rfl⟩;have hLl:L≤900007:=by rw [hL];simp [qac];omega
 have Ho:Hid (w3.ownsRow B 5 1 (.slice a3 L cp3) L (bv (l++enc 2 M++enc 4 T++enc 1 X.size))):=hidI (by unfold Bytes at hv3;rw [←hL] at hv3;exact hv3);rw [←hL];have HL:=hidI hL;have Hx3:=hidI hx3;have Hb3:=hidI (Hb2.out.trans hb3);have Hk3:=hidI (Hk2.out.trans hk3);have hsz3:=hb3.size;clear A3 hx3 hb3 hk3 hv3 c20 Hx2 Hb2 Hk2 hL;go_wp2_with (at_builtin;refine Lib.wpList_append_own_string _ rfl (.tmp 26) (.tmp 28) 50 9 rfl B 5 i0 Tryz.underlying50 Tryz.underlying9 hi hz0 hz1 hz2 _ _ _ rfl Ho.out X rfl ?c3 ?c4 ?c5 ?_)
 case c3=>unfold maxLen;omega
 case c4=>omega
 case c5=>omega
 intro v4 w4 hown4 hgrow _;have hb4:Below B w w4:=Hb3.out.grown hgrow (by omega) (fun q hq=>(Ho.out.lt q hq).1);have hk4:But 5 w w4:=Hk3.out.grown Ho.out hgrow;have hx4:=(((But.refl 5 w3).grown Ho.out hgrow).cells Hx3.out (by decide));have c41:w4.cell? ⟨w.heap.size,1,none⟩=some (.bool false):=by rw [cell_of_row w4 w.heap.size 1 _ 53 (0,0) hx4];rfl
 have hv4:Hid (Bytes w4 B v4 (l++headB M T p)):=by
  refine hidI ?_;unfold Bytes;have h1:=HX.out;have h2:=HL.out;have Sx:=HS.out;have e1:l++headB M T p=l++enc 2 M++enc 4 T++enc 1 X.size++p:=by unfold headB;rw [Sx];simp
  rw [e1,qaL,List.length_append,←h2,←qfe p,←h1,←Sx];simp only [List.append_assoc];exact hown4
 have c42:w4.cell? ⟨w.heap.size,2,none⟩=some (.string Y):=by rw [cell_of_row w4 w.heap.size 2 _ 53 (0,0) hx4];rfl
 have Hb4:=hidI hb4;have Hk4:=hidI hk4;have hsz4:=hgrow.size;clear hown4 hgrow hb4 hk4 hx4 c30;go_wp2_with fail;refine (HPk.out w4).mono ?_;rintro e w5 ⟨t,rfl,hu,htl,hb5⟩;obtain ⟨a4,cp4,rfl⟩:=hv4.out.slice;obtain ⟨J,hJ⟩:∃ J,J=(l++headB M T p).length:=⟨_,rfl⟩;have Hv5:Hid (Bytes w5 B (.slice a4 J cp4) (l++headB M T p)):=hidI (by rw [hJ];exact hv4.out.below hb5 (Nat.le_refl _));have hJl:J≤900270:=by rw [hJ];simp [headB,qac];omega
 rw [←hJ];clear hJ;obtain ⟨Z,hZ⟩:∃ Z,Z=txt t:=⟨_,rfl⟩;have SZ:Z.size=t.length:=by rw [hZ,qab]
 have A6:=hidI (qas B _ _ 2 Z.size w5 (by have:=hb5.size;have:=Hb4.out.size;omega) Hv5.out (by decide) (by simp [headB,qac];omega) (by omega));have hA6:True:=trivial;rw [←hZ];have HZ:=hidI hZ;have HSZ:=hidI SZ;have Hu:=hidI hu;have Htl:=hidI htl;have Hb5:=hidI (Hb4.out.trans (hb5.mono (by have:=Hb4.out.size;omega)));have Hk5:=hidI (Hk4.out.below hb5);have hsz5:=hb5.size;have hZl:Z.size≤4001:=by omega
 clear hZ SZ hu htl hb5 hv4 Hb4 Hk4 c41 c42 HPk;go_wp2_with fail;refine A6.out.mono ?_;rintro e w6 ⟨v6,rfl,hv6,hb6,hk6⟩;obtain ⟨a6,cp6,rfl⟩:=hv6.slice;obtain ⟨K,hK⟩:∃ K,K=(l++headB M T p++enc 2 Z.size).length:=⟨_,rfl⟩;have hKl:K≤900300:=by rw [hK];simp [headB,qac];omega
 have Ho6:Hid (w6.ownsRow B 5 1 (.slice a6 K cp6) K (bv (l++headB M T p++enc 2 Z.size))):=hidI (by unfold Bytes at hv6;rw [←hK] at hv6;exact hv6);rw [←hK];have HK:=hidI hK;have Hb6:=hidI (Hb5.out.trans hb6);have Hk6:=hidI (Hk5.out.trans hk6);have hsz6:=hb6.size;have hszw:=Hb5.out.size;clear hK hv6 hb6 hk6 Hb5 Hk5 A6 Hv5;go_wp2_with (at_builtin;refine Lib.wpList_append_own_string _ rfl (.tmp 43) (.tmp 44) 50 9 rfl B 5 i0 Tryz.underlying50 Tryz.underlying9 hi hz0 hz1 hz2 _ _ _ rfl Ho6.out Z rfl ?c3 ?c4 ?c5 ?_)
 case c3=>unfold maxLen;omega
 case c4=>omega
 case c5=>omega
 intro v7 w7 hown7 hgrow7 _;have hb7:Below B w w7:=Hb6.out.grown hgrow7 (by omega) (fun q hq=>(Ho6.out.lt q hq).1);have hk7:But 5 w w7:=Hk6.out.grown Ho6.out hgrow7;have hv7:Hid (Bytes w7 B v7 (l++(headB M T p++enc 2 t.length++t))):=by
  refine hidI ?_;unfold Bytes;have h1:=HZ.out;have h2:=HK.out;have h3:=HSZ.out;have e1:l++(headB M T p++enc 2 t.length++t)=l++headB M T p++enc 2 Z.size++t:=by rw [h3];simp
  rw [e1,qaL,List.length_append,←h2,←qfe t,←h1,←h3];simp only [List.append_assoc] at hown7 ⊢;exact hown7
 have Hb7:=hidI hb7;have Hk7:=hidI hk7;clear hown7 hgrow7 hb7 hk7;go_wp2;go_ret
 refine ⟨v7,headB M T p++enc 2 t.length++t,rfl,?_,hv7.out,Hb7.out,Hk7.out⟩;unfold IsItem;exact ⟨t,Hu.out,Htl.out,rfl⟩
theorem qgX {u:Bs→Option Bs} (hP:PackC u) (B:Nat) (v:Value) (l:Bs) (x:It) (w:World) (hB:B≤w.heap.size) (hv:Bytes w B v l) (hl:l.length≤900000) (hf:Fit x) :
 Calls Tryz.prog 75 #[v,itv x] w fun e w'=>∃ v' a,e=.returned v'∧IsItem u x a∧Bytes w' B v' (l++a)∧Below B w w'∧But 5 w w':=by
 cases hd:x.dir with
 | true=>exact qgm B v l x w hB hv hl hf hd
 | false=>exact qfR hP B v l x w hB hv hl hf hd
theorem qcq:∀ a b:Bs,Op.bytesLess a b=ltS a b
 | [],[]=>rfl
 | [],_ :: _=>rfl
 | _ :: _,[]=>rfl
 | x :: a,y :: b=>by
   unfold Op.bytesLess ltS;have ih:=qcq a b;by_cases h:x=y
   ·subst h;simp [ih]
   ·have h3:x.toNat≠y.toNat:=fun e=>h (UInt8.toNat_inj.1 e)
    simp [h,ih,UInt8.lt_iff_toNat_lt]
theorem qd2:∀ a,ltS a a=false
 | []=>rfl
 | x :: a=>by simp [ltS,qd2 a]
theorem qfT:∀ a b,ltS a b=false→ltS b a=false→a=b
 | [],[],_,_=>rfl
 | [],_ :: _,h,_=>by simp [ltS] at h
 | _ :: _,[],_,h=>by simp [ltS] at h
 | x :: a,y :: b,h,h'=>by
   unfold ltS at h h';by_cases e:x=y
   ·subst e;simp at h h';rw [qfT a b h h']
   ·rw [if_neg e] at h;rw [if_neg (fun x=>e x.symm)] at h';simp at h h';exact absurd (UInt8.toNat_inj.1 (by omega)) e
theorem qmK (a b:Bs) (w:World) :
 Calls Tryz.prog 134 #[.string (txt a),.string (txt b)] w fun e w'=>e=.returned (.int .i64 (cmpS a b))∧w'=w:=by
 obtain ⟨A,hA⟩:∃ o,o=txt a:=⟨_,rfl⟩;obtain ⟨B,hB⟩:∃ o,o=txt b:=⟨_,rfl⟩;rw [←hA,←hB];have HA:=hidI hA;have HB:=hidI hB;clear hA hB;go_enter Tryz.func134,Tryz.ntmps134
 by_cases h1:Op.bytesLess A.toList B.toList=true
 ·have HR:Hid (cmpS a b = -1):=by
   show cmpS a b = -1;rw [HA.out,HB.out,qaH,qaH,qcq] at h1;simp [cmpS,h1]
  go_wp2;go_ret
  exact ⟨qaB HR.out.symm,rfl⟩
 ·have h1':Op.bytesLess A.toList B.toList=false:=by simpa using h1
  by_cases h2:(A.toList==B.toList)=true
  ·have HR:Hid (cmpS a b=0):=by
    show cmpS a b=0;rw [HA.out,HB.out,qgI] at h2
    have:a=b:=by simpa using h2
    subst this;simp [cmpS,qd2]
   go_wp2;go_ret
   exact ⟨qaB HR.out.symm,rfl⟩
  ·have h2':(A.toList==B.toList)=false:=by simpa using h2
   have HR:Hid (cmpS a b=1):=by
    show cmpS a b=1;rw [HA.out,HB.out,qgI] at h2;rw [HA.out,HB.out,qaH,qaH,qcq] at h1';have hne:a≠b:=by simpa using h2
    have:ltS b a=true:=by
     cases h:ltS b a with
     | true=>rfl
     | false=>exact absurd (qfT a b h1' h) hne
    simp [cmpS,h1',this]
   go_wp2;go_ret
   exact ⟨qaB HR.out.symm,rfl⟩
theorem qlb {n m:List Bs} {k:Nat} {x y:Bs} (hx:n[k]? = some x) (hy:m[k]? = some y) (h:cmpS x y=0):cmpN (n.drop k) (m.drop k)=cmpN (n.drop (k+1)) (m.drop (k+1)):=by
 obtain ⟨h1,rfl⟩:=List.getElem?_eq_some_iff.1 hx;obtain ⟨h2,rfl⟩:=List.getElem?_eq_some_iff.1 hy;rw [List.drop_eq_getElem_cons h1,List.drop_eq_getElem_cons h2];simp [cmpN,h]
theorem qiA {n m:List Bs} {k:Nat} {x y:Bs} (hx:n[k]? = some x) (hy:m[k]? = some y) (h:cmpS x y≠0):cmpN (n.drop k) (m.drop k)=cmpS x y:=by
 obtain ⟨h1,rfl⟩:=List.getElem?_eq_some_iff.1 hx;obtain ⟨h2,rfl⟩:=List.getElem?_eq_some_iff.1 hy;rw [List.drop_eq_getElem_cons h1,List.drop_eq_getElem_cons h2];simp [cmpN,h]
theorem qjW {n m:List Bs} {k:Nat} (h1:k<n.length) (h2:m.length≤k):cmpN (n.drop k) (m.drop k)=1:=by
 rw [List.drop_eq_getElem_cons h1,List.drop_eq_nil_of_le h2];rfl
theorem qmn {n m:List Bs} {k:Nat} (h1:n.length≤k) (h2:k≤m.length):cmpN (n.drop k) (m.drop k)=if k<m.length then -1 else 0:=by
 rw [List.drop_eq_nil_of_le h1];by_cases h:k<m.length
 ·rw [List.drop_eq_getElem_cons h,if_pos h];rfl
 ·rw [List.drop_eq_nil_of_le (by omega),if_neg h];rfl
theorem qln (a b:Nat) (N M c d:Nat) (n m:List Bs) (w:World) (hN:n.length=N) (hM:m.length=M) (hN9:N≤1048577) (hM9:M≤1048577) (ha:∀ k x,n[k]? = some x→w.cell? ⟨a,k,none⟩=some (.string (txt x))) (hb:∀ k x,m[k]? = some x→w.cell? ⟨b,k,none⟩=some (.string (txt x))) :
 Calls Tryz.prog 101 #[.slice (some ⟨a,0,none⟩) N c,.slice (some ⟨b,0,none⟩) M d] w fun e w'=>e=.returned (.int .i64 (cmpN n m))∧w'=w:=by
 have Ha:=hidI ha;have Hb:=hidI hb;have HN:=hidI hN;have HM:=hidI hM;clear ha hb hN hM;go_enter Tryz.func101,Tryz.ntmps101
 go_wp2
 go_loopw [11] (fun i wr=>∃ k:Nat,k≤N∧k≤M∧i=.int .i64 k∧wr=w∧Hid (cmpN n m=cmpN (n.drop k) (m.drop k))) (fun i _=>N - (intOf i).toNat)
 case atStart=>exact ⟨0,Nat.zero_le _,Nat.zero_le _,rfl,rfl,hidI rfl⟩
 case round =>
  obtain ⟨k,hk,hk2,rfl,rfl,Hc⟩:=hrel;by_cases h1:k<N
  ·obtain ⟨x,hx⟩:∃ x,n[k]? = some x:=⟨_,List.getElem?_eq_getElem (by have:=HN.out;omega)⟩;have hcx:=Ha.out k x hx;have Hx:=hidI hx;by_cases h2:k<M
   ·obtain ⟨y,hy⟩:∃ y,m[k]? = some y:=⟨_,List.getElem?_eq_getElem (by have:=HM.out;omega)⟩;have hcy:=Hb.out k y hy;have Hy:=hidI hy;have HS:=hidI (qmK x y wr);obtain ⟨X,hX⟩:∃ o,o=txt x:=⟨_,rfl⟩;obtain ⟨Y,hY⟩:∃ o,o=txt y:=⟨_,rfl⟩;obtain ⟨z,hz⟩:∃ o,o=cmpS x y:=⟨_,rfl⟩;rw [←hX,←hY,←hz] at HS;rw [←hX] at hcx;rw [←hY] at hcy;have Hz:=hidI hz;clear hx hy hX hY hz;by_cases h0:z=0
    ·have Hn:Hid (cmpN n m=cmpN (n.drop (k+1)) (m.drop (k+1))):=Hc.out.trans (qlb Hx.out Hy.out (Hz.out.symm.trans h0));subst h0;go_wp2_with (go_at_call 134;refine HS.out.mono ?_;rintro e w' ⟨rfl,hw⟩;have hw':=hw.symm;subst hw');go_roundw
     case rel=>exact ⟨k+1,by omega,by omega,by go_num,trivial,Hn⟩
     case measure=>simp [intOf];omega
    ·have Hn:Hid (cmpN n m=z):=Hc.out.trans ((qiA Hx.out Hy.out (fun e=>h0 (Hz.out.trans e))).trans Hz.out.symm);have h0':(z != 0)=true:=bne_iff_ne.2 h0;go_wp2_with (go_at_call 134;refine HS.out.mono ?_;rintro e w' ⟨rfl,hw⟩;have hw':=hw.symm;subst hw');go_ret
     exact ⟨qaB Hn.out.symm,rfl⟩
   ·have Hn:Hid (cmpN n m=1):=Hc.out.trans (qjW (by have:=HN.out;omega) (by have:=HM.out;omega));clear hx;go_wp2;go_ret
    exact ⟨qaB Hn.out.symm,rfl⟩
  ·have Hn:Hid (cmpN n m=if k<M then -1 else 0):=Hc.out.trans (by have h3:=HN.out;have h4:=HM.out;rw [qmn (by omega) (by omega),h4]);by_cases h2:N<M
   ·have Hn2:Hid (cmpN n m = -1):=by have:=Hn.out;rw [if_pos (by omega)] at this;exact this
    go_wp2;go_ret
    exact ⟨qaB Hn2.out.symm,rfl⟩
   ·have Hn2:Hid (cmpN n m=0):=by have:=Hn.out;rw [if_neg (by omega)] at this;exact this
    go_wp2;go_ret
    exact ⟨qaB Hn2.out.symm,rfl⟩
theorem qcX (p:Bs):(split p).length=p.count 47+1:=by
 induction p with
 | nil=>rfl
 | cons c l ih =>
   by_cases hc:c=47
   ·subst hc;rw [qam];simp [ih]
   ·obtain ⟨n,ns,e⟩:=qau l;rw [qal hc e,List.count_cons_of_ne (by simpa using hc),←ih,e];rfl
theorem qju (p:Bs):Lib.countB (txt p) (txt [47])+1=(split p).length∧Lib.splitB (txt [47]) 0 (Lib.countB (txt p) (txt [47])) (txt p)=(split p).map txt:=by
 have hc:Lib.countB (txt p) (txt [47])=p.count 47:=by
  show Lib.count p [47]=_;rw [Lib.count_one]
 rw [hc];have hd:(Lib.splitB (txt [47]) 0 (p.count 47) (txt p)).map (·.data.toList)=Lib.splitK [47] 0 (p.count 47) p:=Lib.splitB_data (txt [47]) 0 (p.count 47) (txt p);refine ⟨(qcX p).symm,?_⟩;rw [(pieces (p.count 47) p).1 (by rw [qcX];omega)] at hd;rw [←hd,List.map_map]
 have:(txt ∘ fun x:ByteArray=>x.data.toList)=id:=by funext x;exact (qm3 x).symm
 rw [this,List.map_id]
def txrow (p:Bs):Obj:=.cells (((split p).map txt).map Value.string).toArray 9
theorem qcg (p:Bs) (w:World) (hm:ML w) (hp:p.length≤1048576) :
 Calls Tryz.prog 102 #[.string (txt p),.string ⟨#[47]⟩] w fun e w'=>e=.returned (.slice (some ⟨w.heap.size,0,none⟩) (split p).length (split p).length)∧w'=w.alloc (txrow p):=by
 obtain ⟨m,hm'⟩:=hm;have h:=Tryz.strings_Split (txt p) (txt [47]) m w (by rw [qab];omega) hm' (by rw [qab];simp);obtain ⟨h1,h2⟩:=qju p;rw [h1,h2] at h;exact h
theorem qen (p:Bs) (w:World):∀ k x,(split p)[k]? = some x→(w.alloc (txrow p)).cell? ⟨w.heap.size,k,none⟩=some (.string (txt x)):=by
 intro k x hx;unfold txrow;rw [cell_of_row _ w.heap.size k _ 9 (0,0) (heap_alloc_new _ _)];simp [hx]
theorem qgv (a b:Bs) (w:World) (hm:ML w) (ha:a.length≤1048576) (hb:b.length≤1048576) :
 Calls Tryz.prog 70 #[.string (txt a),.string (txt b)] w fun e w'=>e=.returned (.int .i64 (cmpN (split a) (split b)))∧w'=(w.alloc (txrow a)).alloc (txrow b):=by
 have hla:=qcC a;have hlb:=qcC b;have h1:=qcg a w hm ha;have hm2:ML (w.alloc (txrow a)):=hm.below ((Below.refl _ w).alloc (Nat.le_refl _) _) hm.lt;have h2:=qcg b (w.alloc (txrow a)) hm2 hb;have h3:=qln w.heap.size (w.heap.size+1) (split a).length (split b).length (split a).length (split b).length (split a) (split b) ((w.alloc (txrow a)).alloc (txrow b)) rfl rfl (by omega) (by omega)
  (fun k x hx=>by rw [World.cell?_alloc_old _ _ _ (by simp)];exact qen a w k x hx)
  (fun k x hx=>by have:=qen b (w.alloc (txrow a)) k x hx;simp only [World.size_alloc] at this;exact this)
 rw [World.size_alloc] at h2;have H1:=hidI h1;have H2:=hidI h2;have H3:=hidI h3;clear h1 h2 h3 hm2 hm;obtain ⟨A,hA⟩:∃ o,o=txt a:=⟨_,rfl⟩;obtain ⟨B,hB⟩:∃ o,o=txt b:=⟨_,rfl⟩;obtain ⟨N,hN⟩:∃ o,o=(split a).length:=⟨_,rfl⟩;obtain ⟨M,hM⟩:∃ o,o=(split b).length:=⟨_,rfl⟩;obtain ⟨z,hz⟩:∃ o,o=cmpN (split a) (split b):=⟨_,rfl⟩;rw [←hA,←hN] at H1;rw [←hB,←hM] at H2;rw [←hN,←hM,←hz] at H3;rw [←hA,←hB,←hz];clear hA hB hN hM hz hla hlb ha hb
 generalize txrow a=Ra at *
 generalize txrow b=Rb at *
 go_enter Tryz.func70,Tryz.ntmps70
 go_wp2_with fail;refine H1.out.mono ?_;rintro e w' ⟨rfl,hw⟩;subst hw;go_wp2_with fail;refine H2.out.mono ?_;rintro e w' ⟨rfl,hw⟩;subst hw;go_wp2_with fail;refine H3.out.mono ?_;rintro e w' ⟨rfl,hw⟩;subst hw;go_wp2;go_ret
 exact ⟨rfl,rfl⟩
end Go.Proofs.YtodmdkhdbfbfgabGreatDoor
namespace Go.Proofs.YtodmdkhdbfbfgabGreatDoor
open Go.RowKit Go.Nt Go.Sort Go.Lib Go.Shelf
abbrev Sh:={ s:Bs // s.length≤1048576 }
instance:Inhabited Sh:=⟨⟨[],by simp⟩⟩
def encSh:Sh→Value:=fun s=>encStr s.1
def cfSh (a b:Sh):Int:=cmpN (split a.1) (split b.1)
theorem qkN (a b:Sh):ltOf cfSh a b=less a.1 b.1:=qc9 a.1 b.1
theorem qoa:SWO (ltOf cfSh) where
 irrefl x:=by rw [qkN,qbO]
 trans x y z h1 h2:=by rw [qkN] at *;exact qaZ _ _ _ h1 h2
 ntrans x y z h1 h2:=by
  rw [qkN] at *;cases h:less x.1 z.1 with
  | false=>rfl
  | true =>
    cases h3:less y.1 x.1 with
    | true=>have:=qaZ _ _ _ h3 h;rw [h2] at this;cases this
    | false=>have e:=qaT _ _ h1 h3;rw [e,h2] at h;cases h
theorem qn5 (x y:Sh) (h1:ltOf cfSh x y=false) (h2:ltOf cfSh y x=false):x=y:=by
 rw [qkN] at *;exact Subtype.ext (qaT _ _ h1 h2)
theorem qfy (w:World) (b o:Nat) (d:Array Sh):putRow encSh w b o d=putRow encStr w b o (d.map (·.1)):=by
 unfold putRow
 congr 1
 funext c
 unfold putCells
 apply Array.ext
 ·simp
 ·intro i h1 h2;simp only [Array.getElem_mapIdx,Array.size_map]
  split
  ·rename_i h;have hi:i - o<d.size:=by omega
   rw [getElem!_pos d _ hi,getElem!_pos (d.map (·.1)) _ (by simpa using hi)];simp [encSh]
  ·rfl
def sortP (ss:List Bs):List Bs:=ss.mergeSort fun x y => !less y x
theorem qnb (ds:List Sh):(ds.mergeSort fun x y => !(ltOf cfSh) y x).map (·.1)=sortP (ds.map (·.1)):=by
 unfold sortP;have h:=List.map_mergeSort (f:=fun s:Sh=>s.1) (r:=fun x y => !(ltOf cfSh) y x) (s:=fun x y => !less y x) (l:=ds) (fun a _ b _=>by rw [qkN]);exact h
theorem qji {w:World} (h:ML w) (hd:∀ c e fr,w.heap[0]? ≠ some (.cells c e fr)∨True) {g n:Nat} {d:Array Bs} {os:Array Obj} (hg:g≠0):ML (grow (putRow encStr (Sort.ahead w n) g 0 d) os):=by
 obtain ⟨m,hm⟩:=h;have h0:0<w.heap.size:=World.block_lt_of_cell? w _ hm;refine ⟨m,?_⟩;rw [←hm];refine World.cell?_of_block ?_;exact (grownBy_sorted (w:=w) (g:=g) (n:=n) (os:=os) d).block 0 h0 (fun e=>hg (by cases e;rfl))
theorem qlT (w:World) (hm:ML w) (g:Nat) (hg:g≠0) (N:Nat):CmpLays1 Tryz.prog 70 #[] encSh cfSh g 0 N w:=by
 intro m os dk hs x y;have hml:ML (sortWorld encSh w g 0 m dk os):=by
  unfold sortWorld;rw [qfy];exact qji hm (fun _ _ _=>.inr trivial) hg
 refine (qgv x.1 y.1 _ hml x.2 y.2).mono ?_;rintro e w' ⟨rfl,rfl⟩;refine ⟨rfl,0,#[txrow x.1,txrow y.1],?_⟩;rw [alloc_eq_grow,alloc_eq_grow,grow_grow];rfl
theorem qlp:∀ args w,(callFunc 70 args).run Tryz.prog w=.ok (.enter 70 args) w:=enters_of Tryz.func70 (by kernel_rfl) rfl
theorem qmH:∀ args w,(callFunc 100 args).run Tryz.prog w=.ok (.enter 100 args) w:=enters_of Tryz.func100 (by kernel_rfl) rfl
theorem qmw (mb:Option Nat) (w:World):Calls Tryz.prog 69 #[.map mb] w fun e w'=>e=.returned (.func (.func 100) #[] #[.pointer (some ⟨w.heap.size,0,none⟩)])∧w'=w.alloc (.cells #[.map mb] 64):=
 (callsIn_wide (n:=6)).1 (AnyZ.keys_in Tryz.keys21 Fence.wide 6 trivial rfl mb w)
theorem qgg (b Bm:Nat) (l:List It) (w:World) (hT:TreeAt w b l) (hn:(l.map (·.path)).Nodup) (hl:l.length≤1000) (hBm:Bm<w.heap.size) (hm:w.cell? ⟨Bm,0,none⟩=some (.map (some b))) :
 Calls Tryz.prog 98 #[.func (.func 100) #[] #[.pointer (some ⟨Bm,0,none⟩)]] w fun e w'=>∃ (v:Value) (ss:List Bs),e=.returned v∧ss.Perm (l.map (·.path))∧w'.ownsRow w.heap.size 9 1 v ss.length (ss.map encStr)∧Below w.heap.size w w':=by
 obtain ⟨D,ho,hh⟩:=hT;have hsz:=qb7 ho hh hn;have hk:=qfd ho hh hn;refine ((callsIn_wide (n:=6)).1 (AnyZ.collect_in Tryz.collect26 Fence.wide 6 trivial trivial rfl (by omega) 100 #[.pointer (some ⟨Bm,0,none⟩)] trivial qmH (fun ss=>ss.Perm (strKeys D)) (Maps.size D) (by rw [hsz];unfold maxLen;omega) (by rw [hsz];omega) w
  (AnyZ.keys_gives Tryz.iter28 Fence.wide 4 trivial rfl (by omega) Bm b (Maps.size D) D w hBm hm ho))).mono ?_
 rintro e w' ⟨v,ss,rfl,hS,hrow,_,hb⟩;exact ⟨v,ss,rfl,hS.trans hk.symm,hrow,hb⟩
def shs (ss:List Bs) (h:∀ s∈ss,s.length≤1048576):List Sh:=ss.pmap Subtype.mk h
theorem qnO (ss:List Bs) (h:∀ s∈ss,s.length≤1048576):(shs ss h).map (·.1)=ss:=by simp [shs,List.map_pmap]
theorem qcz (ss:List Bs) (h:∀ s∈ss,s.length≤1048576):(shs ss h).length=ss.length:=by simp [shs]
theorem qlJ {w:World} {g:Nat} {ss:List Bs} (h:∀ s∈ss,s.length≤1048576) (hH:Holds encStr w g 0 ss.toArray):Holds encSh w g 0 (shs ss h).toArray:=by
 intro j hj;have hj':j<ss.length:=by simpa [qcz] using hj
 have:=hH j (by simpa using hj')
 refine ⟨this.1.trans ?_,this.2⟩;rw [getElem!_pos ss.toArray j (by simpa using hj'),getElem!_pos (shs ss h).toArray j (by simpa [qcz] using hj')];simp [encSh,shs]
theorem ql3 (g cap:Nat) (ss:List Bs) (w:World) (hml:ML w) (hg:g≠0) (hlt:g<w.heap.size) (h:∀ s∈ss,s.length≤1048576) (hl:ss.length≤1000) (hH:Holds encStr w g 0 ss.toArray) :
 Calls Tryz.prog 99 #[.slice (some ⟨g,0,none⟩) ss.length cap,.func (.func 70) #[] #[]] w fun e w'=>e=.returned (.tuple #[])∧∃ n os,w'=grow (putRow encStr (Sort.ahead w n) g 0 (sortP ss).toArray) os:=by
 have hd:(shs ss h).toArray.size=ss.length:=by simp [qcz]
 have:=Any.slices_SortFunc_total Tryz.sort27 encSh (fun _=>rfl) cfSh qoa 70 #[] g 0 cap (shs ss h).toArray w qlp (qlT w hml g hg _) (qlJ h hH) hlt (by rw [hd];omega) qn5
 rw [hd] at this;refine this.mono ?_;rintro e w' ⟨rfl,n,os,rfl⟩;refine ⟨rfl,n,os,?_⟩;unfold sortWorld;rw [qfy]
 congr 2
 rw [List.map_toArray,qnb,qnO]
theorem qjB (p:Option Addr) (cap:Nat) (fv:Value) (w:World):Calls Tryz.prog 99 #[.slice p 0 cap,fv] w fun e w'=>e=.returned (.tuple #[])∧w'=w:=
 AnyF.slices_SortFunc_none (P:=Tryz.prog) (ρ:=Tryz.sort27_ren) { Tryz.sort27 with } p cap fv w
theorem qiK (b Bm:Nat) (l:List It) (w:World) (hT:TreeAt w b l) (hn:(l.map (·.path)).Nodup) (hl:l.length≤1000) (hml:ML w) (hp:∀ x∈l,x.path.length≤1048576) (hBm:Bm<w.heap.size) (hm:w.cell? ⟨Bm,0,none⟩=some (.map (some b))) :
 Calls Tryz.prog 68 #[.func (.func 100) #[] #[.pointer (some ⟨Bm,0,none⟩)],.func (.func 70) #[] #[]] w fun e w'=>∃ (v:Value),e=.returned v∧w'.ownsRow w.heap.size 9 1 v l.length ((sortP (l.map (·.path))).map encStr)∧Below w.heap.size w w':=by
 have HC:=hidI (qgg b Bm l w hT hn hl hBm hm);have h0:=hml.lt;have Hml:=hidI hml;have Hp:=hidI hp;clear hT hml hm hp;go_enter Tryz.func68,Tryz.ntmps68
 go_wp2_with fail;refine HC.out.mono ?_;rintro e W ⟨v,ss,rfl,hS,hrow,hb⟩;have hlen:ss.length=l.length:=by simpa using hS.length_eq
 have hsort:sortP ss=sortP (l.map (·.path)):=by
  unfold sortP;refine List.Perm.eq_of_pairwise (le:=fun a b:Bs=>(!less b a)=true) (fun a b _ _ h1 h2 => ?_) (List.pairwise_mergeSort ?_ ?_ ss) (List.pairwise_mergeSort ?_ ?_ _) (((List.mergeSort_perm ss _).trans hS).trans (List.mergeSort_perm _ _).symm)
  ·simp at h1 h2;exact qaT a b h2 h1
  all_goals first
   | (intro a b c h1 h2
      simp at h1 h2 ⊢;cases h:less c a with
      | false=>rfl
      | true =>
        cases h3:less c b with
        | true=>rw [h2] at h3;cases h3
        | false=>have:=qaT b c (by
                    cases h4:less b c with
                    | false=>rfl
                    | true=>have:=qaZ _ _ _ h4 h;rw [h1] at this;cases this) h3
                 subst this;rw [h1] at h;cases h)
   | (intro a b
      simp;cases h:less b a with
      | false=>exact .inl rfl
      | true=>exact .inr (qdU h))
 have hss:∀ s∈ss,s.length≤1048576:=fun s hs=>by
  obtain ⟨x,hx,rfl⟩:=List.mem_map.1 (hS.mem_iff.1 hs);exact Hp.out x hx
 have hmlW:=Hml.out.below hb h0;have HS:=hidI hsort;clear hsort;rcases hrow.2 with ⟨rfl,hz⟩ | ⟨gb,cap,cur,rfl,hbase,hgb,r1,r2,r3,r4⟩
 ·have HN:=hidI (qjB none 0 (.func (.func 70) #[] #[]) W);have hss0:ss=[]:=List.eq_nil_of_length_eq_zero hz;have HF:Hid (W.ownsRow w.heap.size 9 1 (.slice none 0 0) l.length ((sortP (l.map (·.path))).map encStr)):=by
   have h:=hrow;rw [hlen] at h;show W.ownsRow w.heap.size 9 1 (.slice none 0 0) l.length ((sortP (l.map (·.path))).map encStr);rw [←HS.out,hss0];have e0:sortP []=[]:=by simp [sortP]
   rw [e0];rw [hss0] at h;exact h
  clear hrow hlen hz hss0;go_wp2_with fail;refine HN.out.mono ?_;rintro e w' ⟨rfl,hw⟩;have hw':=hw.symm;subst hw';go_wp2;go_ret
  exact ⟨_,rfl,HF.out,hb⟩
 ·have hH:Holds encStr W gb 0 ss.toArray:=holds_of_block hgb (by simpa using r4);have hgl:gb<W.heap.size:=(Array.getElem?_eq_some_iff.1 hgb).1;have HN:=hidI (ql3 gb cap ss W hmlW (by omega) hgl hss (by omega) hH);have HF:Hid (∀ n os,(grow (putRow encStr (Sort.ahead W n) gb 0 (sortP ss).toArray) os).ownsRow w.heap.size 9 1 (.slice (some ⟨gb,0,none⟩) ss.length cap) l.length ((sortP (l.map (·.path))).map encStr)):=fun n os=>by
   rw [←hlen,←HS.out];exact ownsRow_sorted (by simp [sortP]) hbase hgb r1 r2 r3
  clear hrow hH hmlW hss hlen r3 r4 hgb;go_wp2_with fail;refine HN.out.mono ?_;rintro e w' ⟨rfl,n,os,hw⟩;have HB:Hid (Below w.heap.size w w'):=by rw [hw];exact hb.grown (grownBy_sorted _) hb.size (fun j hj=>by cases hj;exact hbase)
  have HF':=HF.out n os;rw [←hw] at HF';clear hw HF HN;go_wp2;go_ret
  exact ⟨_,rfl,HF',HB.out⟩
end Go.Proofs.YtodmdkhdbfbfgabGreatDoor
