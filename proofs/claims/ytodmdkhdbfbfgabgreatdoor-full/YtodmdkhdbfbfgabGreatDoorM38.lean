/- Lemmas and contracts for full. -/
import Derived.StringKeys
import Derived.Maps.OwnSet
import Derived.Maps.Views
import Derived.Deep.RegionHeld3
import Derived.Test.YtodmdkhdbfbfgabGreatDoorM28
import Derived.Test.YtodmdkhdbfbfgabGreatDoorM37
import Derived.Test.YtodmdkhdbfbfgabGreatDoorM00
import Derived.Test.YtodmdkhdbfbfgabGreatDoorM31
set_option maxRecDepth 100000
set_option maxHeartbeats 8000000
namespace Go.Proofs.YtodmdkhdbfbfgabGreatDoor
open Go.RowKit Go.Nt
set_option linter.unusedVariables false
set_option linter.unusedSimpArgs false
theorem new_any9 (b p:Int) (z:Nat→Int):S1.New (S1.mkM b p 0 z):=⟨S1.mkM_wf b p 0 z,rfl,by show (-1:Int)<0;decide,fun _ _=>rfl,fun _=>rfl⟩
theorem room_new (b p:Int) (z:Nat→Int):S1.roomP (S1.mkM b p 0 z)=(S1.mkM b p 0 z).nb/2*(S1.mkM b p 0 z).np:=by
 have h:S1.badN (S1.mkM b p 0 z)=0:=by
  unfold S1.badN
  rw [List.countP_eq_zero]
  intro i _
  show ¬S1.badL z 0 i=true
  simp [S1.badL]
 unfold S1.roomP S1.good
 rw [h,Nat.sub_zero]
theorem txt_cat (a b:Bs):txt a++txt b=txt (a++b):=by
 apply ByteArray.ext
 rw [ByteArray.data_append]
 simp [txt]
theorem nm_row (w:World) {k a b:Nat} (hk:k<40) (ha:a=k/26) (hb:b=k%26):(w.alloc (.cells #[.int .u8 102,.int .u8 (97+(a:Nat)),.int .u8 (97+(b:Nat))] 5)).rowIs w.heap.size 5 3 (fun j=>.int .u8 (((nm k).getD j 0).toNat:Nat)):=
 World.rowIs_alloc w _ 5 _ (fun i hi=>by
  have e1:(UInt8.ofNat (97+k/26)).toNat=97+k/26:=by rw [UInt8.toNat_ofNat'];omega
  have e2:(UInt8.ofNat (97+k%26)).toNat=97+k%26:=by rw [UInt8.toNat_ofNat'];omega
  subst ha hb
  match i,hi with
  | 0,_=>rfl
  | 1,_=>show some (Value.int .u8 _)=some (.int .u8 (((UInt8.ofNat (97+k/26)).toNat:Nat):Int));rw [e1];push_cast;rfl
  | 2,_=>show some (Value.int .u8 _)=some (.int .u8 (((UInt8.ofNat (97+k%26)).toNat:Nat):Int));rw [e2];push_cast;rfl)
theorem one_row (w:World) (z:Nat) (hz:z<256):(w.alloc (.cells #[.int .u8 (z:Nat)] 5)).rowIs w.heap.size 5 1 (fun j=>.int .u8 ((([UInt8.ofNat z]:Bs).getD j 0).toNat:Nat)):=
 World.rowIs_alloc w _ 5 _ (fun i hi=>by
  have e1:(UInt8.ofNat z).toNat=z:=by rw [UInt8.toNat_ofNat'];omega
  match i,hi with
  | 0,_=>show some (Value.int .u8 _)=some (.int .u8 (((UInt8.ofNat z).toNat:Nat):Int));rw [e1])
theorem ft_nil:FT 0 []:=⟨fun x hx=>(by cases hx),by simp,by simp,by omega⟩
theorem own_in2 {w:World} {T:Nat→Prop} {v:Value} {l:List It} (h:RowK w T v l):∃ a c,v=.slice a l.length c∧ItsIn w a l:=own_in h.1
theorem full_walk {u:Bs→Option Bs} (hP:PackC u) (ra:Option Addr) (rn rc:Nat) (zr:Nat→Int) (bl pg:Int) (w:World) (hml:ML w) (hrn:rn≤9223372036854775807) (hra:S1.IntsIn w ra rn zr) (hzr:∀ k,k<rn → -9223372036854775808≤zr k∧zr k≤9223372036854775807) (hb1:-9223372036854775808≤bl) (hb2:bl≤9223372036854775807) (hp1:-9223372036854775808≤pg) (hp2:pg≤9223372036854775807) :
 Calls Tryz.prog 5 #[.slice ra rn rc,.int .i64 bl,.int .i64 pg] w fun e w'=>e=.returned (.bool true)∧Below w.heap.size w w':=by
 have HP1:=hidI (fun w=>pick_any bl 9 w hb1 hb2 (by decide) (by decide))
 have HP2:=hidI (fun w=>pick_any pg 9 w hp1 hp2 (by decide) (by decide))
 have hk1:=pickF_lt bl 9 (by decide)
 have hk2:=pickF_lt pg 9 (by decide)
 obtain ⟨nB,hnB⟩:∃ x,x=pickF bl 9:=⟨_,rfl⟩
 obtain ⟨nP,hnP⟩:∃ x,x=pickF pg 9:=⟨_,rfl⟩
 rw [←hnB] at HP1 hk1
 rw [←hnP] at HP2 hk2
 have N1:=hidI (S1.new_any w (nB:Nat) (nP:Nat) none 0 0 (fun _=>0) (by omega) (fun h=>absurd h (by decide)))
 have hnew:=new_any9 (nB:Nat) (nP:Nat) (fun _=>0)
 have hroom:=room_new (nB:Nat) (nP:Nat) (fun _=>0)
 obtain ⟨m,hm⟩:∃ m,m=S1.mkM (nB:Nat) (nP:Nat) 0 (fun _=>0):=⟨_,rfl⟩
 rw [←hm] at N1 hnew hroom
 have hwf:=hnew.wf
 have H4:Hid (4≤m.nb∧m.nb≤32∧4≤m.np∧m.np≤16):=hidI ⟨hwf.nb1,hwf.nb2,hwf.np1,hwf.np2⟩
 obtain ⟨w1b,w2b,w3b,w4b⟩:4≤m.nb∧m.nb≤32∧4≤m.np∧m.np≤16:=⟨hwf.nb1,hwf.nb2,hwf.np1,hwf.np2⟩
 have Hml:=hidI hml
 have Hra:=hidI hra
 have Hzr:=hidI hzr
 have Hnew:=hidI hnew
 have Hroom:=hidI hroom
 obtain ⟨B,hB⟩:∃ B,B=w.heap.size:=⟨_,rfl⟩
 have hB0:0<B:=by rw [hB];exact hml.lt
 have HB:=hidI hB
 clear hm hnB hnP hml hra hzr hnew hroom hwf hB
 go_enter Tryz.func5,Tryz.ntmps5
 go_wp2_with fail
 refine (HP1.out _).mono ?_
 rintro e w' ⟨rfl,hw⟩
 have hw':=hw.symm
 subst hw'
 clear hw
 go_wp2_with fail
 refine (HP2.out _).mono ?_
 rintro e w' ⟨rfl,hw⟩
 have hw':=hw.symm
 subst hw'
 clear hw
 go_wp2_with fail
 refine N1.out.mono ?_
 rintro e w1 ⟨L,hi,rfl,hhi,hC,hBw⟩
 rw [←HB.out] at hC hBw ⊢
 have hroom1:pagesN (weigh []+1)≤S1.roomP m:=by
  rw [Hroom.out]
  have:8≤m.nb/2*m.np:=Nat.mul_le_mul (show 2≤m.nb/2 by omega) w3b
  show (0+1+50)/51≤_
  omega
 have M:=hidI (mounted_k hP none 0 [] w1 B hi B L m Hnew.out hC hhi (Hml.out.below hBw hB0) hB0 (fun h=>absurd rfl h) ft_nil.tree hroom1)
 have HBw:=hidI hBw
 rw [List.length_nil] at M
 clear hC N1 hroom1 hBw w1b w2b w3b w4b hb1 hb2 hp1 hp2 HP1 HP2 hk1 hk2
 go_wp2_with fail
 refine M.out.mono ?_
 rintro e w2 ⟨fb,xb,T0,rfl,hK,hT,hO⟩
 have hord:inOrder ([]:List It)=[]:=by simp [inOrder]
 rw [hord] at hK
 have HK0:=hidI hK
 have hBw2:Below B w w2:=HBw.out.trans (hO.below (Nat.le_refl _) (by rw [HB.out] at *;exact HBw.out.size))
 have HT0:Hid (∀ j,T0 j→B≤j):=hidI (fun j hj=>by have:=hT j hj;have:=HBw.out.size;have:=HB.out;omega)
 have HB2:=hidI hBw2
 clear hK hT hO hBw2 M hord
 go_wp2
 go_loopw [9,10,11] (fun nv fv iv wr=>∃ (k:Nat) (l now:List It) (T:Nat→Prop) (fl:Bool),k≤40∧iv=.int .i64 (k:Nat)∧fv=.bool fl∧Hid (RowK wr T nv now)∧Hid (FsK wr fb xb T m l)∧Hid (FT k l)∧Hid (l.Perm now)∧Hid (∀ j,T j→B≤j)∧Hid (Below B w wr)) (fun _ _ i _=>40 - (intOf i).toNat)
 case atStart=>exact ⟨0,[],[],T0,false,by omega,rfl,rfl,hidI (RowK.none w2 T0),HK0,hidI ft_nil,hidI (List.Perm.refl _),HT0,HB2⟩
 case round =>
  clear HK0 HT0 HB2 T0
  obtain ⟨k,l,now,T,fl,hk,rfl,rfl,HRow,HK,HF,HPm,HT,HBr⟩:=hrel
  obtain ⟨wo,hwo⟩:∃ wo,wo=wr:=⟨_,rfl⟩
  subst hwo
  obtain ⟨na,nc,hnv,hnin⟩:=own_in2 HRow.out
  subst hnv
  clear hnin
  have hsplit:(k<40∧fl=false)∨(k<40∧fl=true)∨(¬k<40∧fl=false)∨(¬k<40∧fl=true):=by
   cases fl<;>by_cases h:k<40<;>simp [h]
  rcases hsplit with ⟨hlt,rfl⟩ | ⟨hlt,rfl⟩ | ⟨hlt,rfl⟩ | ⟨hlt,rfl⟩
  ·have e1:((k:Nat):Int).tdiv 26=((k/26:Nat):Int):=by rw [Int.tdiv_eq_ediv_of_nonneg (by omega)];omega
   have e2:((k:Nat):Int).tmod 26=((k%26:Nat):Int):=by rw [Int.tmod_eq_emod_of_nonneg (by omega)];omega
   obtain ⟨a,ha⟩:∃ a,a=k/26:=⟨_,rfl⟩
   obtain ⟨b,hb⟩:∃ b,b=k%26:=⟨_,rfl⟩
   rw [←ha] at e1
   rw [←hb] at e2
   have ha2:a≤1:=by omega
   have hb2':b<26:=by omega
   obtain ⟨W1,hW1⟩:∃ W1,W1=wo.alloc (.cells #[.int .u8 102,.int .u8 (97+(a:Nat)),.int .u8 (97+(b:Nat))] 5):=⟨_,rfl⟩
   have hrow:W1.rowIs wo.heap.size 5 3 (fun j=>.int .u8 (((nm k).getD j 0).toNat:Nat)):=by rw [hW1];exact nm_row wo hlt ha hb
   have hcv:=S1.row_str (l:=nm k) (c:=3) hrow rfl
   clear hrow
   have hBr1:Below wo.heap.size wo W1:=by rw [hW1];exact (Below.refl _ _).alloc (Nat.le_refl _) _
   obtain ⟨X,hX⟩:∃ X,X=txt (nm k):=⟨_,rfl⟩
   rw [show S1.txt (nm k)=X from hX.symm] at hcv
   have HX:=hidI hX
   have HW1:=hidI hW1
   have HBr1:=hidI hBr1
   clear ha hb hW1 hX hBr1
   have Hcv:=hidI hcv
   clear hcv
   go_wp2_with (first | (rw [←HW1.out]) | fail)
   rw [Hcv.out]
   clear e1 e2 ha2 hb2'
   go_wp2
   go_loopw [13,14,15] (fun dv xv jv wx=>∃ (j y:Nat) (d:Bs),j≤300∧y<2147483648∧d.length=j∧dv=.string (txt d)∧xv=.int .i64 (y:Nat)∧jv=.int .i64 (j:Nat)∧Hid (Below W1.heap.size W1 wx)) (fun _ _ j _=>300 - (intOf j).toNat)
   case atStart=>exact ⟨0,k+7,[],by omega,by omega,rfl,rfl,by go_num,rfl,hidI (Below.refl _ _)⟩
   case round =>
    obtain ⟨j,y,d,hj,hy,hd,rfl,rfl,rfl,HBx⟩:=hrel
    by_cases hjl:j<300
    ·obtain ⟨y',hy'⟩:∃ y':Nat,y'=(y*1103515245+12345)%2147483648:=⟨_,rfl⟩
     have hyl:y'<2147483648:=by omega
     have e3:((y:Int)*1103515245+12345).tmod 2147483648=(y':Nat):=by rw [Int.tmod_eq_emod_of_nonneg (by omega),hy'];omega
     obtain ⟨q,hq⟩:∃ q:Nat,q=y'/65536:=⟨_,rfl⟩
     have e4:((y':Nat):Int).tdiv 65536=(q:Nat):=by rw [Int.tdiv_eq_ediv_of_nonneg (by omega),hq];omega
     have hq1:q<32768:=by omega
     obtain ⟨Y,hY⟩:∃ Y,Y=txt d:=⟨_,rfl⟩
     rw [←hY]
     have HY:=hidI hY
     obtain ⟨z,hz⟩:∃ z:Nat,z=q%256:=⟨_,rfl⟩
     have e5:((q:Nat):Int)%256=(z:Nat):=by rw [hz];omega
     have hz2:z<256:=by omega
     obtain ⟨W2,hW2⟩:∃ W2,W2=wr.alloc (.cells #[.int .u8 (z:Nat)] 5):=⟨_,rfl⟩
     have hrow2:W2.rowIs wr.heap.size 5 1 (fun j=>.int .u8 ((([UInt8.ofNat z]:Bs).getD j 0).toNat:Nat)):=by rw [hW2];exact one_row wr z hz2
     have hcv2:=S1.row_str (l:=[UInt8.ofNat z]) (c:=1) hrow2 rfl
     obtain ⟨Z,hZ⟩:∃ Z,Z=txt [UInt8.ofNat z]:=⟨_,rfl⟩
     rw [show S1.txt [UInt8.ofNat z]=Z from hZ.symm] at hcv2
     have HZ:=hidI hZ
     have Hcv2:=hidI hcv2
     have HW2:=hidI hW2
     have HBx2:Hid (Below W1.heap.size W1 W2):=hidI (by rw [hW2];exact HBx.out.alloc HBx.out.size _)
     have hYs:Y.size≤1048576:=by rw [hY,txt_size];omega
     have hZs:Z.size≤16:=by rw [hZ,txt_size];simp
     have Hd:=hidI hd
     clear hy' hq hY hz hrow2 hcv2 hZ hW2 hd
     go_wp2_with (first | (rw [←HW2.out]) | fail)
     rw [Hcv2.out]
     go_wp2
     go_roundw
     case rel=>exact ⟨j+1,y',d++[UInt8.ofNat z],by omega,hyl,by simp [Hd.out],by rw [HY.out,HZ.out,txt_cat],rfl,by go_num,HBx2⟩
     case measure=>simp [intOf];omega
    ·have hje:j=300:=by omega
     have hBo:Below wo.heap.size wo wr:=HBr1.out.trans (HBx.out.mono HBr1.out.size)
     have hBB:B≤wo.heap.size:=by have:=HBr.out.size;have:=HB.out;omega
     have HBo:=hidI hBo
     have hml1:ML wr:=Hml.out.below (HBr.out.trans (hBo.mono hBB)) hB0
     have Hml1:=hidI hml1
     obtain ⟨Y,hY⟩:∃ Y,Y=txt d:=⟨_,rfl⟩
     have hYs:Y.size≤1048576:=by rw [hY,txt_size];omega
     rw [←hY]
     have HY:=hidI hY
     have Hd:=hidI hd
     clear hy hY hml1 hd hBo
     by_cases hkr:k<rn
     case' pos =>
      have hkri:(k:Int)<(rn:Int):=by omega
      have hin:=Hra.out.below (HB.out ▸ HBr.out.trans (HBo.out.mono hBB))
      obtain ⟨gb,go,hga,hgc⟩:=hin (by omega)
      subst hga
      have c0:=hgc k hkr
      obtain ⟨z1,z2⟩:=Hzr.out k hkr
      obtain ⟨zv,hzv⟩:∃ zv,zv=zr k:=⟨_,rfl⟩
      rw [←hzv] at c0 z1 z2
      have hQ1:-9223372036854775808≤zv.tdiv 7∧zv.tdiv 7≤9223372036854775807:=by
       rcases Int.le_total 0 zv with h | h
       ·rw [Int.tdiv_eq_ediv_of_nonneg h];omega
       ·have e:zv.tdiv 7 = -((-zv)/7):=by rw [←Int.neg_neg zv,Int.neg_tdiv,Int.neg_neg,Int.tdiv_eq_ediv_of_nonneg (by omega)]
        rw [e];omega
      obtain ⟨Qv,hQv⟩:∃ Qv,Qv=zv.tdiv 7:=⟨_,rfl⟩
      rw [←hQv] at hQ1
      obtain ⟨q1,q2⟩:=hQ1
      have e6:=hQv.symm
      have hwq:IntKind.i64.wrap Qv=Qv:=by rw [IntKind.wrap_i64];omega
      have Bz:=hidI (bytes_any zv Qv wr.drew z1 z2 q1 q2)
      have hi0:0≤(k:Int):=by omega
      have hgl:gb<wr.drew.heap.size:=World.block_lt_of_cell? wr _ c0
      have c0d:wr.drew.cell? ⟨gb,go+k,none⟩=some (.int .i64 zv):=c0
      clear hin hgc hzv hQv z1 z2 c0
      go_wp2_with fail
      have Hlt:=hidI hlt
      have Hj:=hidI hje
      clear hj hjl hje hBB hlt hk hkr hhi hrn
      refine wp_region_held_drew (S:=fun V=>V.cell? ⟨gb,go+k,none⟩=some (.int .i64 zv)) (by kernel_rfl) c0d (fun hHeld => ?_)
      refine tk 0 ⟨some 74,.move (.tmp 0),22, "keeps.go:442",#[],none⟩ (.slice (some ⟨gb,go,none⟩) rn rc) rfl (by kernel_rfl) (fun _ _ _ h=>h) (fun w h=>by (try dsimp only at h);go_simp) hHeld ?_
      simp only [Act.put,List.setIfInBounds_toArray,List.set]
      refine tk 1 ⟨some 75,.move (.tmp 11),3, "keeps.go:442",#[],none⟩ (.int .i64 (k:Nat)) rfl (by kernel_rfl) (fun _ _ _ h=>h) (fun w h=>by (try dsimp only at h);go_simp) hHeld ?_
      simp only [Act.put,List.setIfInBounds_toArray,List.set]
      refine tk 2 ⟨some 76,.indexAddr 22 (.tmp 74) (.tmp 75),0, "keeps.go:442",#[⟨0,.data⟩,⟨1,.data⟩],none⟩ (.pointer (some ⟨gb,go+k,none⟩)) rfl (by kernel_rfl) (fun _ _ _ h=>h) (fun w h=>by (try dsimp only at h);go_simp) hHeld ?_
      simp only [Act.put,List.setIfInBounds_toArray,List.set]
      refine tk 3 ⟨some 77,.load 3 (.tmp 76),3, "keeps.go:442",#[⟨2,.data⟩],none⟩ (.int .i64 zv) rfl (by kernel_rfl) (fun _ _ _ h=>h) (fun w h=>by (try dsimp only at h);go_simp) hHeld ?_
      simp only [Act.put,List.setIfInBounds_toArray,List.set]
      refine tk 4 ⟨some 78,.move (.tmp 0),22, "keeps.go:442",#[],none⟩ (.slice (some ⟨gb,go,none⟩) rn rc) rfl (by kernel_rfl) (fun _ _ _ h=>h) (fun w h=>by (try dsimp only at h);go_simp) hHeld ?_
      simp only [Act.put,List.setIfInBounds_toArray,List.set]
      refine tk 5 ⟨some 79,.move (.tmp 11),3, "keeps.go:442",#[],none⟩ (.int .i64 (k:Nat)) rfl (by kernel_rfl) (fun _ _ _ h=>h) (fun w h=>by (try dsimp only at h);go_simp) hHeld ?_
      simp only [Act.put,List.setIfInBounds_toArray,List.set]
      refine tk 6 ⟨some 80,.indexAddr 22 (.tmp 78) (.tmp 79),0, "keeps.go:442",#[⟨4,.data⟩,⟨5,.data⟩],none⟩ (.pointer (some ⟨gb,go+k,none⟩)) rfl (by kernel_rfl) (fun _ _ _ h=>h) (fun w h=>by (try dsimp only at h);go_simp) hHeld ?_
      simp only [Act.put,List.setIfInBounds_toArray,List.set]
      refine tk 7 ⟨some 81,.load 3 (.tmp 80),3, "keeps.go:442",#[⟨6,.data⟩],none⟩ (.int .i64 zv) rfl (by kernel_rfl) (fun _ _ _ h=>h) (fun w h=>by (try dsimp only at h);go_simp) hHeld ?_
      simp only [Act.put,List.setIfInBounds_toArray,List.set]
      refine tk 8 ⟨some 82,.binOp .quo 3 (.tmp 81) (.const (.int .i64 7)) 3,3, "keeps.go:442",#[⟨7,.data⟩],none⟩ (.int .i64 Qv) rfl (by kernel_rfl) (fun _ _ _ h=>h) (fun w h=>by (try dsimp only at h);go_simp) hHeld ?_
      simp only [Act.put,List.setIfInBounds_toArray,List.set]
      refine tk 10 ⟨some 84,.move (.tmp 13),9, "keeps.go:442",#[],none⟩ (.string Y) rfl (by kernel_rfl) (fun _ _ _ h=>h) (fun w h=>by (try dsimp only at h);go_simp) hHeld ?_
      simp only [Act.put,List.setIfInBounds_toArray,List.set]
      refine rd 9 (by kernel_rfl) rfl (fun K hK => ?_)
      go_simp
      refine Bz.out.mono ?_
      rintro e V ⟨d0,rfl,hd0,hbV⟩
      have c0V:V.cell? ⟨gb,go+k,none⟩=some (.int .i64 zv):=by rw [hbV.cell (p:=⟨gb,go+k,none⟩) hgl];exact c0d
      obtain ⟨Y0,hY0⟩:∃ Y0,Y0=txt d0:=⟨_,rfl⟩
      have hY0s:Y0.size≤1048576:=by rw [hY0,txt_size];omega
      have hYY:Y0.size+Y.size≤9223372036854775807:=by omega
      rw [←hY0]
      have HbV:=hidI hbV
      have HY0:=hidI hY0
      clear hbV hY0
      refine hK.out _ _ c0V (fun hHeld => ?_)
      refine tk 11 ⟨some 85,.binOp .add 9 (.tmp 83) (.tmp 84) 9,9, "keeps.go:442",#[⟨9,.data⟩,⟨10,.data⟩],none⟩ (.string (Y0++Y)) rfl (by kernel_rfl) (fun _ _ _ h=>h) (fun w h=>by (try dsimp only at h);go_simp) hHeld ?_
      simp only [Act.put,List.setIfInBounds_toArray,List.set]
      refine tk 12 ⟨some 13,.assign (.tmp 85),9, "keeps.go:442",#[⟨11,.data⟩,⟨9,.chain⟩,⟨0,.phase⟩,⟨1,.phase⟩,⟨2,.phase⟩,⟨3,.phase⟩,⟨4,.phase⟩,⟨5,.phase⟩,⟨6,.phase⟩,⟨7,.phase⟩,⟨8,.phase⟩,⟨9,.phase⟩,⟨10,.phase⟩,⟨11,.phase⟩],none⟩ (.string (Y0++Y)) rfl (by kernel_rfl) (fun _ _ _ h=>h) (fun w h=>by (try dsimp only at h);go_simp) hHeld ?_
      simp only [Act.put,List.setIfInBounds_toArray,List.set]
      refine wpAnyH_done (by kernel_rfl) ?_ _
      clear hHeld hK
      have hbV:Below wr.heap.size wr V:=((Below.refl _ wr).drew).trans HbV.out
      have HBV:Hid (Below wo.heap.size wo V):=hidI (HBo.out.trans (hbV.mono HBo.out.size))
      have HmlV:Hid (ML V):=hidI (Hml1.out.below hbV Hml1.out.lt)
      obtain ⟨dd,hdd⟩:∃ dd,dd=d0++d:=⟨_,rfl⟩
      have hddl:dd.length≤399:=by rw [hdd,List.length_append];have:=Hd.out;have:=Hj.out;omega
      have HD:Hid (Y0++Y=txt dd):=hidI (by rw [HY0.out,HY.out,txt_cat,hdd])
      clear hbV hdd Bz e6 hkri c0d c0V hgl hwq hYY hi0 q1 q2
      go_wp2_with fail
      rw [HD.out]
      clear hY0s hYs
     case' neg =>
      have hkri:¬(k:Int)<(rn:Int):=by omega
      obtain ⟨V,hV⟩:∃ V,V=wr:=⟨_,rfl⟩
      subst hV
      have HBV:Hid (Below wo.heap.size wo V):=HBo
      have HmlV:Hid (ML V):=Hml1
      obtain ⟨dd,hdd⟩:∃ dd,dd=d:=⟨_,rfl⟩
      have hddl:dd.length≤399:=by rw [hdd];have:=Hd.out;omega
      have HD:Hid (Y=txt dd):=hidI (by rw [HY.out,hdd])
      clear hdd
      go_wp2_with fail
      rw [HD.out]
      have Hlt:=hidI hlt
      have Hj:=hidI hje
      clear hkri hYs hj hjl hje hBB hlt hk hkr hhi hrn
     all_goals
      have hlt:=Hlt.out
      have hput:=HF.out.putE hlt (d:=dd) (by omega)
      have A:=hidI (sput_any hP (nm k) dd V fb xb T m l (HK.out.below HBV.out) HF.out.tree HmlV.out (fun h=>by have:=HT.out 0 h;omega) (by simp [nm]) (by omega))
      rw [hput,HF.out.putI hlt dd,←HX.out] at A
      obtain ⟨D,hD⟩:∃ D,D=txt dd:=⟨_,rfl⟩
      rw [←hD] at A ⊢
      have HDd:=hidI hD
      clear hput hD
      refine A.out.mono ?_
      rintro e V5 ⟨x,T',l'',rfl,hK5,hT5,hF5,hres⟩
      have hlt5:=HK.out.below HBV.out |>.lt
      have HK5:=hidI hK5
      have hT5':Hid (∀ j,T' j→B≤j):=hidI (fun j hj=>by
       rcases hT5 j hj with h | h
       ·exact HT.out j h
       ·have h1:=HBV.out.size;have h2:=HBr.out.size;have h3:=HB.out;omega)
      have HRow5:Hid (RowK V5 T' (.slice na now.length nc) now):=hidI ((HRow.out.below HBV.out).fm hF5 hT5)
      have HBr5:Hid (Below B w V5):=hidI (by
       have h1:Below B w V:=HBr.out.trans (HBV.out.mono (by have h2:=HBr.out.size;have h3:=HB.out;omega))
       exact h1.trans (hF5.below (fun k hk=>HT.out k hk) (by have h2:=h1.size;have h3:=HB.out;omega)))
      have HmlV5:Hid (ML V5):=hidI (Hml.out.below HBr5.out hB0)
      have hres':x=0∧l''=l++[⟨nm k,false,dd,0,0⟩]∨x=9∧l''=l:=by
       rcases hres with ⟨h,_⟩ | ⟨_,⟨h1,h2⟩ | ⟨h1,h2,_⟩⟩
       ·exact absurd rfl h
       ·exact .inl ⟨h1,h2⟩
       ·exact .inr ⟨h1,h2⟩
      clear hK5 hT5 hF5 hres hlt5 A HK HRow HBV HmlV HBr HT HD
      rcases hres' with ⟨rfl,rfl⟩ | ⟨rfl,rfl⟩
      case' inl =>
       obtain ⟨na5,nc5,hnv5,hnin5⟩:=own_in2 HRow5.out
       have hnl:now.length≤40:=by have h1:=HPm.out.length_eq;have h2:=HF.out.len;omega
       have Kp:=hidI (kput_any na nc now (nm k) dd V5 (by cases hnv5;exact hnin5) (by omega))
       rw [HF.out.putK HPm.out hlt dd,←HX.out,←HDd.out] at Kp
       have hT5l:=HK5.out.lt
       have HT5l:=hidI hT5l
       clear hnv5 hnin5 hT5l
       go_wp2_with fail
       refine Kp.out.mono ?_
       rintro e V6 ⟨v6,rfl,hown6,hb6⟩
       have HRow6:Hid (RowK V6 T' v6 (now++[⟨nm k,false,dd,0,0⟩])):=hidI (RowK.new hown6 HT5l.out)
       have HK6:Hid (FsK V6 fb xb T' m (l++[⟨nm k,false,dd,0,0⟩])):=hidI (HK5.out.below hb6)
       have HBr6:Hid (Below B w V6):=hidI (HBr5.out.trans (hb6.mono (by have h2:=HBr5.out.size;have h3:=HB.out;omega)))
       have HF6:Hid (FT (k+1) (l++[⟨nm k,false,dd,0,0⟩])):=hidI (HF.out.put hlt (by omega))
       have HPm6:Hid ((l++[(⟨nm k,false,dd,0,0⟩:It)]).Perm (now++[⟨nm k,false,dd,0,0⟩])):=hidI (HPm.out.append (List.Perm.refl _))
       obtain ⟨now6,hnow6⟩:∃ now6,now6=now++[(⟨nm k,false,dd,0,0⟩:It)]:=⟨_,rfl⟩
       obtain ⟨l6,hl6⟩:∃ l6,l6=l++[(⟨nm k,false,dd,0,0⟩:It)]:=⟨_,rfl⟩
       rw [←hnow6] at HRow6 HPm6
       rw [←hl6] at HK6 HF6 HPm6
       obtain ⟨a6,c6,hv6,hin6⟩:=own_in2 HRow6.out
       subst hv6
       have Hin6:=hidI hin6
       clear hown6 hb6 Kp HRow5 HK5 HBr5 HmlV5 hnow6 hl6 hin6
      case' inr =>
       have hin6:ItsIn V5 na now:=by
        obtain ⟨a6,c6,hv,h⟩:=own_in2 HRow5.out
        cases hv
        exact h
       have Hin6:=hidI hin6
       have HRow6:=HRow5
       have HK6:=HK5
       have HBr6:=HBr5
       have HF6:Hid (FT (k+1) l''):=hidI (HF.out.more hlt)
       have HPm6:=HPm
       clear hin6 HRow5 HBr5 HmlV5 HK5
       obtain ⟨V6,hV6⟩:∃ V6,V6=V5:=⟨_,rfl⟩
       subst hV6
       obtain ⟨now6,hnow6⟩:∃ now6,now6=now:=⟨_,rfl⟩
       subst hnow6
       obtain ⟨l6,hl6⟩:∃ l6,l6=l'':=⟨_,rfl⟩
       subst hl6
       obtain ⟨a6,ha6⟩:∃ a6,a6=na:=⟨_,rfl⟩
       subst ha6
       obtain ⟨c6,hc6⟩:∃ c6,c6=nc:=⟨_,rfl⟩
       subst hc6
      all_goals
       obtain ⟨lb6,tb6,hFs6,hTr6⟩:=HK6.out.fs
       have hml6:ML V6:=Hml.out.below HBr6.out hB0
       have B6:=hidI (fsTree_any V6 fb xb lb6 tb6 l6 hFs6 hTr6 HF6.out.tree hml6)
       clear hFs6 hTr6 hml6
       go_wp2_with fail
       refine B6.out.mono ?_
       rintro e V7 ⟨hb7,v7,rfl,hown7⟩
       rw [←order_length] at hown7
       obtain ⟨a7,c7,rfl,hin7⟩:=own_in hown7
       have hnl6:now6.length≤41:=by have h1:=HPm6.out.length_eq;have h2:=HF6.out.len;omega
       have C7:=hidI (ksame_any a6 a7 c6 c7 now6 (inOrder l6) V7 (Hin6.out.below hb7) hin7 (by omega) (by rw [order_length];have h1:=HPm6.out.length_eq;omega))
       rw [perm_same HPm6.out] at C7
       obtain ⟨n7,hn7⟩:∃ n7,n7=(inOrder l6).length:=⟨_,rfl⟩
       rw [←hn7] at C7 ⊢
       have HB7:=hidI hb7
       clear hown7 hin7 hn7 hb7 B6
       go_wp2_with fail
       refine C7.out.mono ?_
       rintro e V8 ⟨rfl,hb8⟩
       have hb68:Below V6.heap.size V6 V8:=HB7.out.trans (hb8.mono HB7.out.size)
       have HRow8:=hidI (HRow6.out.below hb68)
       have HK8:=hidI (HK6.out.below hb68)
       have HBr8:Hid (Below B w V8):=hidI (HBr6.out.trans (hb68.mono (by have h2:=HBr6.out.size;have h3:=HB.out;omega)))
       clear hb8 hb68 C7 hnl6
       go_wp2
       go_roundw
       case rel=>exact ⟨k+1,l6,now6,T',_,by omega,by go_num,rfl,HRow8,HK8,HF6,HPm6,hT5',HBr8⟩
       case measure=>simp [intOf];omega
  all_goals
   obtain ⟨N,hN⟩:∃ N,N=now.length:=⟨_,rfl⟩
   have hN40:N≤40:=by have h1:=HPm.out.length_eq;have h2:=HF.out.len;omega
   have HN:=hidI hN
   have Hnow:Hid ((now.map (·.path)).Nodup):=hidI ((((HPm.out.map _).nodup_iff).1 HF.out.nodup))
   clear hN
   go_wp2
   simp only [←HN.out]
   go_loopw [18] (fun iv wx=>∃ (i:Nat) (l':List It) (T':Nat→Prop),i≤N∧iv=.int .i64 (i:Nat)∧Hid (RowK wx T' (.slice na now.length nc) now)∧Hid (FsK wx fb xb T' m l')∧Hid (FT k l')∧Hid (l'.Perm (now.drop i))∧Hid (∀ j,T' j→B≤j)∧Hid (Below B w wx)) (fun i _=>N - (intOf i).toNat)
   case atStart=>exact ⟨0,l,T,Nat.zero_le _,rfl,HRow,HK,HF,hidI (by simpa using HPm.out),HT,HBr⟩
   case round =>
    clear HRow HK HF HPm HT HBr
    obtain ⟨i,l',T',hi,rfl,HRow,HK,HF,HPm,HT,HBr⟩:=hrel
    have hml':ML wr:=Hml.out.below HBr.out hB0
    have Hml':=hidI hml'
    clear hml'
    by_cases hiN:i<N
    ·have hin:ItsIn wr na now:=by
      obtain ⟨a6,c6,hv,h⟩:=own_in2 HRow.out
      cases hv
      exact h
     have hil:i<now.length:=by have:=HN.out;omega
     obtain ⟨gb,go,hga,hgc⟩:=hin (fun h=>by rw [h] at hil;simp at hil)
     subst hga
     obtain ⟨x,hx⟩:∃ x,now[i]? = some x:=⟨_,List.getElem?_eq_getElem hil⟩
     obtain ⟨x0,x1,x2,x3,x4⟩:=hgc i x hx
     have hxl:x∈l':=HPm.out.mem_iff.2 (by rw [List.mem_iff_getElem?];exact ⟨0,by rw [List.getElem?_drop];exact hx⟩)
     have hx3:x.path.length≤1048576:=by
      obtain ⟨j,d,hj,_,rfl⟩:=HF.out.item x hxl
      simp [nm]
     have A:=hidI (sremove_any hP x.path wr fb xb T' m l' HK.out HF.out.tree Hml'.out (fun h=>by have:=HT.out 0 h;omega) hx3)
     rw [HF.out.removeE hxl] at A
     obtain ⟨X,hX⟩:∃ X,X=txt x.path:=⟨_,rfl⟩
     rw [←hX] at A x0
     have Hx:=hidI hx
     clear hin hgc hx x1 x2 x3 x4 hxl hx3 hX
     go_wp2_with fail
     refine A.out.mono ?_
     rintro e V ⟨y,T2,l2,rfl,hK2,hT2,hF2,hres⟩
     have HK2:=hidI hK2
     have HT2:Hid (∀ j,T2 j→B≤j):=hidI (fun j hj=>by
      rcases hT2 j hj with h | h
      ·exact HT.out j h
      ·have h1:=HBr.out.size;have h3:=HB.out;omega)
     have HRow2:Hid (RowK V T2 (.slice (some ⟨gb,go,none⟩) now.length nc) now):=hidI (HRow.out.fm hF2 hT2)
     have HBr2:Hid (Below B w V):=hidI (HBr.out.trans (hF2.below (fun k hk=>HT.out k hk) (by have h1:=HBr.out.size;have h3:=HB.out;omega)))
     have hres':y=0∧l2=l'.filter (fun z=>decide (z.path≠x.path))∨y=9:=by
      rcases hres with ⟨h,_⟩ | ⟨_,⟨h1,h2⟩ | ⟨h1,h2,_⟩⟩
      ·exact absurd rfl h
      ·exact .inl ⟨h1,h2⟩
      ·exact .inr h1
     clear hK2 hT2 hF2 hres A x0
     rcases hres' with ⟨rfl,rfl⟩ | rfl
     ·go_wp2
      go_roundw
      case rel=>exact ⟨i+1,_,T2,by omega,by go_num,HRow2,HK2,hidI (HF.out.drop _),hidI (perm_drop Hnow.out Hx.out HPm.out),HT2,HBr2⟩
      case measure=>simp [intOf];omega
     ·go_wp2
      go_ret
      exact ⟨rfl,by rw [←HB.out];exact HBr2.out⟩
    ·have hiN':i=N:=by omega
     have hl0:l'=[]:=by
      have h:=HPm.out
      rw [List.drop_of_length_le (by have:=HN.out;omega)] at h
      exact h.eq_nil
     subst hl0
     obtain ⟨lo,hi2,L2,m2,hCP,hAl⟩:=HK.out.chip
     have P1:=hidI (S1.blocks_any wr lo hi2 xb L2 m2 hCP)
     have P2:=hidI (S1.pages_any wr lo hi2 xb L2 m2 hCP)
     rw [hAl.1] at P1
     rw [hAl.2.1] at P2
     obtain ⟨b1,b2,b3,b4⟩:=H4.out
     have hroom:=Hroom.out
     obtain ⟨nb,hnb⟩:∃ nb,nb=m.nb:=⟨_,rfl⟩
     obtain ⟨np,hnp⟩:∃ np,np=m.np:=⟨_,rfl⟩
     rw [←hnb] at P1 b1 b2 hroom
     rw [←hnp] at P2 b3 b4 hroom
     obtain ⟨p,hp⟩:∃ p,p=nb*np:=⟨_,rfl⟩
     have hp16:16≤p:=by rw [hp];exact Nat.mul_le_mul b1 b3
     have hp512:p≤512:=by rw [hp];exact Nat.mul_le_mul b2 b4
     have emul:(nb:Int)*(np:Int)=(p:Nat):=by rw [hp];push_cast;rfl
     obtain ⟨n,hn⟩:∃ n,n=4*p - 17:=⟨_,rfl⟩
     have e8:((p:Nat):Int)*4 - 17=(n:Nat):=by omega
     obtain ⟨M,hmk,hM⟩:=madeN n (by omega)
     obtain ⟨W1,hW1⟩:∃ W1,W1=wr.alloc (.cells M 5):=⟨_,rfl⟩
     obtain ⟨dd,hdd⟩:∃ dd:Bs,dd=List.replicate n 0:=⟨_,rfl⟩
     have hddl:dd.length=n:=by rw [hdd];simp
     have hrow:W1.rowIs wr.heap.size 5 n (fun j=>.int .u8 ((dd.getD j 0).toNat:Nat)):=by
      rw [hW1]
      exact (hM wr).congr fun j hj=>by rw [hdd];simp [List.getD,hj]
     have hcv:=S1.row_str (l:=dd) (c:=n) hrow hddl
     obtain ⟨Z,hZ⟩:∃ Z,Z=txt dd:=⟨_,rfl⟩
     rw [show S1.txt dd=Z from hZ.symm] at hcv
     have hbW:Below wr.heap.size wr W1:=by rw [hW1];exact (Below.refl _ _).alloc (Nat.le_refl _) _
     have hml1:ML W1:=Hml'.out.below hbW Hml'.out.lt
     have A:=hidI (sput_any hP [122] dd W1 fb xb T' m [] (HK.out.below hbW) HF.out.tree hml1 (fun h=>by have:=HT.out 0 h;omega) (by simp) (by omega))
     rw [z_put (show dd.length≤4000 by omega),z_set,←hZ,show txt [122]=(⟨#[122]⟩:ByteArray) from rfl] at A
     have hgl:=HK.out.lt
     have Hgl:=hidI hgl
     have HbW:=hidI hbW
     have Hml1:=hidI hml1
     have Hrow:=hidI hrow
     have Hcv:=hidI hcv
     have HW1:=hidI hW1
     have HZ:=hidI hZ
     have Hfit:Hid (∀ t,IsText u (inOrder [⟨[122],false,dd,0,0⟩]) t→¬S1.roomP m<pagesN t.length):=hidI (fun t ht=>by
      rw [hroom]
      have:=last_room b1 b2 b3 b4 (p:=[122]) (d:=dd) rfl (by rw [hddl,hn,hp]) ht
      omega)
     have Hddl:=hidI hddl
     clear hCP hAl hroom hnb hnp hp hn hW1 hdd hrow hcv hZ hbW hml1 hgl hM hddl b1 b2 b3 b4
     go_wp2_with (first | (go_at_call 8;refine P1.out.mono ?_;rintro e w' ⟨rfl,hw⟩;have hw':=hw.symm;subst hw';clear hw) | (go_at_call 9;refine P2.out.mono ?_;rintro e w' ⟨rfl,hw⟩;have hw':=hw.symm;subst hw';clear hw) | (rw [←HW1.out]) | fail)
     rw [Hcv.out]
     clear hmk e8 emul
     go_wp2_with fail
     refine A.out.mono ?_
     rintro e V ⟨y,T2,l2,rfl,hK2,hT2,hF2,hres⟩
     have hl2:y=0∧l2=[⟨[122],false,dd,0,0⟩]:=by
      rcases hres with ⟨h,_⟩ | ⟨_,h | ⟨_,_,t,h1,h2⟩⟩
      ·exact absurd rfl h
      ·exact h
      ·exact absurd h2 (Hfit.out t h1)
     obtain ⟨rfl,rfl⟩:=hl2
     obtain ⟨lb,tb,hFs,hTr⟩:=hK2.fs
     have hBV:Below B w V:=(HBr.out.trans (HbW.out.mono (by have h1:=HBr.out.size;have h3:=HB.out;omega))).trans (hF2.below (fun k hk=>HT.out k hk) (by have h1:=HBr.out.size;have h2:=HbW.out.size;have h3:=HB.out;omega))
     have R:=hidI (fsRead_any V fb xb lb tb [⟨[122],false,dd,0,0⟩] [122] hFs hTr (Hml.out.below hBV hB0) (by simp))
     rw [(z_read dd).1,(z_read dd).2,←HZ.out,show txt [122]=(⟨#[122]⟩:ByteArray) from rfl] at R
     have hgd:V.heap[wr.heap.size]? = W1.heap[wr.heap.size]? := hF2.block _ (by obtain ⟨c,hc,_⟩:=Hrow.out;exact lt_of_heap hc) (fun h=>by have:=Hgl.out _ h;omega)
     have Hgd:=hidI hgd
     have HBV:=hidI hBV
     clear hK2 hT2 hF2 hres hFs hTr hBV hgd A
     go_wp2_with fail
     refine R.out.mono ?_
     rintro e V2 ⟨hb2,rfl⟩
     have hrow2:V2.rowIs wr.heap.size 5 n (fun j=>.int .u8 ((dd.getD j 0).toNat:Nat)):=by
      obtain ⟨c,hc,h1,h2⟩:=Hrow.out
      have hV:=Hgd.out.trans hc
      exact ⟨c,(hb2.block _ (lt_of_heap hV)).trans hV,h1,h2⟩
     have hcv2:=S1.row_str (l:=dd) (c:=n) hrow2 Hddl.out
     rw [show S1.txt dd=Z from HZ.out.symm] at hcv2
     have Hcv2:=hidI hcv2
     have HBV2:Hid (Below B w V2):=hidI (HBV.out.trans (hb2.mono (by have h1:=HBV.out.size;have h3:=HB.out;omega)))
     clear hb2 hrow2 hcv2 R
     go_wp2_with fail
     rw [Hcv2.out]
     go_wp2
     go_ret
     exact ⟨rfl,by rw [←HB.out];exact HBV2.out⟩
end Go.Proofs.YtodmdkhdbfbfgabGreatDoor
namespace Go.Proofs.YtodmdkhdbfbfgabGreatDoor.S1
open Go.RowKit Pk
set_option linter.unusedVariables false
set_option linter.unusedSimpArgs false
structure MD (D:DataW Unit) (mp:List UInt8→Option Nat):Prop where
 is:Maps.IsMap D
 no:∀ s,mp s=none→Maps.has D (.string s)=false
 yes:∀ s v,mp s=some v→Maps.has D (.string s)=true∧D.atKey (.string s) (.lit (.int .i64 0))=.lit (.int .i64 (v:Nat))
theorem MD.nil:MD (.map []) (fun _=>none):=⟨Maps.isMap_empty,fun _ _=>rfl,fun _ _ h=>by cases h⟩
theorem MD.put {D:DataW Unit} {mp:List UInt8→Option Nat} (h:MD D mp) (k:List UInt8) (v:Nat):MD (D.put (.string k) (.lit (.int .i64 (v:Nat)))) (fun s=>if s=k then some v else mp s):=by
 have hk:WideAt.IsKeyLit (Lit.string k):=trivial
 refine ⟨h.is.put _ _,fun s hs => ?_,fun s u hs => ?_⟩
 ·by_cases e:s=k
  ·rw [if_pos e] at hs;cases hs
  ·rw [if_neg e] at hs
   rw [Maps.has_put_other (fun e2=>e (by injection e2))]
   exact h.no s hs
 ·by_cases e:s=k
  ·rw [if_pos e] at hs
   cases hs
   subst e
   exact ⟨Maps.has_put_same h.is hk _,Maps.atKey_put_same h.is hk _ _⟩
  ·rw [if_neg e] at hs
   rw [Maps.has_put_other (fun e2=>e (by injection e2)),Maps.atKey_put_other (fun e2=>e (by injection e2))]
   exact h.yes s u hs
structure PM (w:World) (B pb mb bb:Nat) (d:List UInt8) (m:Nat) (mp:List UInt8→Option Nat) (bf:Nat→Int):Prop where
 hp:B≤pb
 hm:B≤mb
 hb:B≤bb
 st:w.heap[pb]? = some (.cells #[.string (txt d),.map (some mb),.slice (some ⟨bb,0,none⟩) d.length d.length] 287 (0,0))
 mo:∃ D,w.ownsMap Tryz.prog 9 (plainElem Tryz.prog 3) mb m D∧MD D mp
 bo:w.rowIs bb 3 d.length (fun j=>.int .i64 (bf j))
def pkKey3 (d:List UInt8) (v:Nat):List UInt8:=(d.drop v).take 3
theorem start_no (w:World) (pb a:Nat) (d:List UInt8) (x y:Value) (hd:d.length≤4000) (ha:a≤4000) (h:d.length<a+3) (hst:w.heap[pb]? = some (.cells #[.string (txt d),x,y] 287 (0,0))) :
 Calls Tryz.prog 231 #[.pointer (some ⟨pb,0,none⟩),.int .i64 (a:Nat)] w fun e w'=>e=.returned (.tuple #[.string ⟨#[]⟩,.bool false])∧w'=w:=by
 have x0:w.cell? ⟨pb,0,none⟩=some (.string (txt d)):=by rw [cell_of_row w pb 0 _ 287 (0,0) hst];rfl
 have hs:(txt d).size=d.length:=txt_size d
 generalize txt d=t at *
 have h1:((t.size:Nat):Int)<(a:Int)+3:=by omega
 clear hst hs
 go_enter Tryz.func231,Tryz.ntmps231
 go_wp2
 go_ret2
 exact ⟨rfl,rfl⟩
theorem start_yes (w:World) (pb a:Nat) (d:List UInt8) (x y:Value) (hd:d.length≤4000) (h:a+3≤d.length) (hst:w.heap[pb]? = some (.cells #[.string (txt d),x,y] 287 (0,0))) :
 Calls Tryz.prog 231 #[.pointer (some ⟨pb,0,none⟩),.int .i64 (a:Nat)] w fun e w'=>e=.returned (.tuple #[.string (txt (pkKey3 d a)),.bool true])∧w'=w:=by
 have x0:w.cell? ⟨pb,0,none⟩=some (.string (txt d)):=by rw [cell_of_row w pb 0 _ 287 (0,0) hst];rfl
 have hs:(txt d).size=d.length:=txt_size d
 have hex:=txt_extract d a (a+3)
 have Hex:Hid ((txt d).extract a (a+3)=txt (pkKey3 d a)):=by
  show _=_
  rw [hex];unfold pkKey3;rw [show a+3 - a=3 by omega]
 generalize txt d=t at *
 have h1:¬((t.size:Nat):Int)<(a:Int)+3:=by omega
 have h2:a+3≤t.size:=by omega
 have h4:t.size≤4000:=by omega
 clear hst hex hs
 go_enter Tryz.func231,Tryz.ntmps231
 go_wp2
 go_ret2
 refine ⟨?_,rfl⟩
 rw [←Hex.out]
 rfl
theorem agree_any (w:World) (pb a f:Nat) (d:List UInt8) (x y:Value) (hd:d.length≤4000) (hf:f<a) (ha:a≤d.length) (hst:w.heap[pb]? = some (.cells #[.string (txt d),x,y] 287 (0,0))) :
 Calls Tryz.prog 233 #[.pointer (some ⟨pb,0,none⟩),.int .i64 (f:Nat),.int .i64 (a:Nat)] w fun e w'=>∃ k q:Nat,e=.returned (.int .i64 (k:Nat))∧w'=w.drewN q∧k≤34∧a+k≤d.length∧(∀ j,j<k→d.getD (f+j) 0=d.getD (a+j) 0)∧(k=34∨a+k=d.length∨d.getD (f+k) 0≠d.getD (a+k) 0):=by
 have x0:w.cell? ⟨pb,0,none⟩=some (.string (txt d)):=by rw [cell_of_row w pb 0 _ 287 (0,0) hst];rfl
 have hs:(txt d).size=d.length:=txt_size d
 have hgd:∀ k (h:k<(txt d).size),((txt d)[k]'h).toNat=(d.getD k 0).toNat:=fun k h=>by rw [txt_getD]
 generalize txt d=t at *
 have Hs:=hidI hs
 have Hgd:=hidI hgd
 clear hst hgd hs
 go_enter Tryz.func233,Tryz.ntmps233
 go_wp2
 go_loopw [7] (fun i wr=>∃ k q:Nat,i=.int .i64 (k:Nat)∧wr=w.drewN q∧k≤34∧a+k≤d.length∧Hid (∀ j,j<k→d.getD (f+j) 0=d.getD (a+j) 0)) (fun i _=>34 - (intOf i).toNat)
 case atStart=>exact ⟨0,0,rfl,rfl,by omega,by omega,fun j hj=>by omega⟩
 case round =>
  obtain ⟨k,q,rfl,rfl,hk,hak,Hk⟩:=hrel
  have hts:=Hs.out
  have x1:(w.drewN q).cell? ⟨pb,0,none⟩=some (.string t):=x0
  by_cases h34:k=34
  ·have g1:decide ((k:Int)<34)=false:=by simp;omega
   have Hts:=hidI hts
   clear hts
   go_wp2
   go_quiet (fail)
   go_wp2
   go_ret
   exact ⟨k,_,rfl,by simp only [World.drewN_drewN,World.drew_drewN];rfl,by omega,by omega,Hk.out,.inl h34⟩
  ·have g1:decide ((k:Int)<34)=true:=by simp;omega
   by_cases han:a+k=d.length
   ·have g2:decide ((a:Int)+(k:Int)<(t.size:Int))=false:=by simp;omega
    have Hts:=hidI hts
    clear hts
    go_wp2
    go_quiet (fail)
    go_wp2
    go_ret
    exact ⟨k,_,rfl,by simp only [World.drewN_drewN,World.drew_drewN];rfl,by omega,by omega,Hk.out,.inr (.inl han)⟩
   ·obtain ⟨A,hA⟩:∃ A,A=a+k:=⟨_,rfl⟩
    obtain ⟨F,hF⟩:∃ F,F=f+k:=⟨_,rfl⟩
    have g2:decide ((A:Int)<(t.size:Int))=true:=by simp;omega
    have i1:F<t.size:=by omega
    have i2:A<t.size:=by omega
    have e1:=Hgd.out F i1
    have e2:=Hgd.out A i2
    have ht4:t.size≤4000:=by omega
    have w1:IntKind.i64.wrap ((a:Int)+(k:Int))=(A:Int):=by rw [IntKind.wrap_i64];omega
    have w2:IntKind.i64.wrap ((f:Int)+(k:Int))=(F:Int):=by rw [IntKind.wrap_i64];omega
    have v1:(a:Int)+(k:Int)=(A:Int):=by omega
    have v2:(f:Int)+(k:Int)=(F:Int):=by omega
    have hk34:k+1≤34∧a+(k+1)≤d.length:=by omega
    have HA:=hidI hA
    have HF:=hidI hF
    have Hts:=hidI hts
    by_cases hc:d.getD F 0=d.getD A 0
    ·have Hk2:Hid (∀ j,j<k+1→d.getD (f+j) 0=d.getD (a+j) 0):=fun j hj=>by
      by_cases e:j=k
      ·subst e;rw [←HA.out,←HF.out];exact hc
      ·exact Hk.out j (by omega)
     rw [←hc] at e2
     generalize (d.getD F 0).toNat=u at *
     clear hts hc Hk hA hF
     go_wp2
     go_quiet (fail)
     go_wp2
     go_roundw
     case rel=>exact ⟨k+1,_,by go_num,by first | rfl | trivial | (simp only [World.drewN_drewN,World.drew_drewN];rfl),hk34.1,hk34.2,Hk2⟩
     case measure=>simp [intOf];omega
    ·have hne:(d.getD F 0).toNat≠(d.getD A 0).toNat:=fun h=>hc (UInt8.toNat_inj.1 h)
     have Hc:=hidI hc
     generalize (d.getD F 0).toNat=u at *
     generalize (d.getD A 0).toNat=v at *
     have g3:((u:Int)==(v:Int))=false:=by simp;omega
     clear hts hc hA hF
     go_wp2
     go_quiet (fail)
     go_wp2
     go_ret
     exact ⟨k,_,rfl,by simp only [World.drewN_drewN,World.drew_drewN];rfl,by omega,by omega,Hk.out,.inr (.inr (by rw [←HA.out,←HF.out];exact Hc.out))⟩
def topV:Option Nat→Int
 | some v=>((v:Nat):Int)
 | none => -1
theorem Tryz.keyed9:Maps.Keyed Tryz.prog 9:=Maps.string_keyed Tryz.underlying9
theorem top_any (w:World) (B pb mb bb m:Nat) (d s:List UInt8) (mp:List UInt8→Option Nat) (bf:Nat→Int) (hs:s.length≤4000) (h:PM w B pb mb bb d m mp bf) :
 Calls Tryz.prog 232 #[.pointer (some ⟨pb,0,none⟩),.string (txt s)] w fun e w'=>e=.returned (.int .i64 (topV (mp s)))∧w'=w:=by
 obtain ⟨D,hD,hMD⟩:=h.mo
 have x1:w.cell? ⟨pb,1,none⟩=some (.map (some mb)):=by rw [cell_of_row w pb 1 _ 287 (0,0) h.st];rfl
 have hkey:keyOf Tryz.prog 9 (.string (txt s))=some (.string s):=WideMaps.keyOf_string_mk Tryz.underlying9 (by rw [txt_size];unfold maxLen;omega)
 have hz:(zeroValue 3).run Tryz.prog w=.ok (.int .i64 0) w:=by
  obtain ⟨i0,hi,hz0,_⟩:=info_parts Tryz.info3
  simp [zeroValue,typeInfo,hi,hz0]
 have HMD:=hidI hMD
 clear h hMD
 generalize txt s=t at *
 go_enter Tryz.func232,Tryz.ntmps232
 cases hm:mp s with
 | none =>
   have hno:=HMD.out.no s hm
   go_wp2_with (at_lookup;refine wpList_lookup_own_ok_int _ rfl _ _ 285 rfl 9 3 .i64 Tryz.keyed9 Tryz.underlying285 Tryz.underlying3 hz mb m D rfl hD _ (.string s) rfl hkey ?_;intro c hat hwc)
   go_ret
   exact ⟨rfl,rfl⟩
 | some v =>
   have hyes:=HMD.out.yes s v hm
   have hy1:=hyes.1
   have Hy2:=hidI hyes.2
   clear hyes
   go_wp2_with (at_lookup;refine wpList_lookup_own_ok_int _ rfl _ _ 285 rfl 9 3 .i64 Tryz.keyed9 Tryz.underlying285 Tryz.underlying3 hz mb m D rfl hD _ (.string s) rfl hkey ?_;intro c hat hwc)
   go_ret
   rw [Hy2.out] at hat
   injection hat with h1
   injection h1 with h2 h3
   exact ⟨ret_int (by rw [←h3];rfl),rfl⟩
end Go.Proofs.YtodmdkhdbfbfgabGreatDoor.S1
