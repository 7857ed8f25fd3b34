/- Lemmas. -/
import Derived.Maps.GroupsBeside
import Derived.Test.YtodmdkhdbfbfgabGreatDoorM36
set_option linter.unusedVariables false
set_option linter.unusedSimpArgs false
set_option maxRecDepth 100000
set_option maxHeartbeats 8000000
namespace Go.Proofs.YtodmdkhdbfbfgabGreatDoor.S1
open Go.RowKit Pk Go.Shelf
def gapN (n a:Nat):Nat:=(n+4294967296 - a)%4294967296
theorem qkJ {n a:Nat} (hn:n≤4294967295) (ha:a≤4294967295):IntKind.u32.wrap ((n:Int) - (a:Int))=((gapN n a:Nat):Int):=by
 unfold gapN;rw [IntKind.wrap_u32];omega
theorem qnW (n a:Nat):gapN n a≤4294967295:=by unfold gapN;omega
def scanG:List Nat→Nat→Nat→Nat→Nat→Nat
 | [],_,f,_,_=>f
 | n :: l,i,f,wd,a=>if wd<gapN n a then scanG l (i+1) i (gapN n a) n else scanG l (i+1) f wd n
def firstG (ys:List Nat):Nat:=scanG ys 0 0 0 (ys.getLastD 0)
def RndP (w:World) (xs:List Nat) (e:Ending) (w':World):Prop:=∃ (v:Value) (ys:List Nat),e=.returned v∧ys.Perm xs∧Asc ys∧w'.ownsRow w.heap.size 72 1 v ys.length ((ys.drop (firstG ys)++ys.take (firstG ys)).map encU)∧Below w.heap.size w w'
theorem roundU (w:World) (g cap:Nat) (cur:Array Value) (xs:List Nat) (hg:w.heap[g]? = some (.cells cur 72 (0,0))) (hx:cur.toList.take xs.length=xs.map encU) (hx0:xs≠[]) (hbig:xs.length≤100000) (hxr:∀ x∈xs,x≤4294967295) :
 Calls Tryz.prog 93 #[.slice (some ⟨g,0,none⟩) xs.length cap] w fun e w'=>RndP w xs e w':=by
 have hgl:=lt_of_heap hg;obtain ⟨W0,hW0⟩:∃ W0,W0=w.alloc (.cells #[.slice (some ⟨g,0,none⟩) xs.length cap] 161):=⟨_,rfl⟩;have hs0:W0.heap.size=w.heap.size+1:=by rw [hW0];simp
 have hb0:Below w.heap.size w W0:=by rw [hW0];exact (Below.refl _ w).alloc (Nat.le_refl _) _
 have hc0:W0.cell? ⟨w.heap.size,0,none⟩=some (.slice (some ⟨g,0,none⟩) xs.length cap):=by rw [hW0];simp
 have hg0:W0.heap[g]? = some (.cells cur 72 (0,0)):=(hb0.block g hgl).trans hg;have hv:SeqRow Fence.wide 1 Tryz.prog 151 #[.pointer (some ⟨w.heap.size,0,none⟩)] (fun x=>#[encU x]) xs W0.heap.size (fun k=>k<W0.heap.size) W0:=qiQ 1 (by omega) W0 w.heap.size g cap xs W0.heap.size _ (by omega) (by omega) (show g<W0.heap.size by omega) hbig hc0 cur hg0 hx;have B:=hidI ((callsIn_wide (n:=4)).1 (qiX 4 (by omega) 151 _ (enters_of Tryz.func151 (by kernel_rfl) rfl) xs hx0 hbig W0 W0.heap.size _ (Nat.le_refl _) (fun k hk=>hk) hv));have A:=hidI ((callsIn_wide (n:=4)).1 (qic 4 (some ⟨g,0,none⟩) xs.length cap w));have HW0:=hidI hW0;have HB0:=hidI hb0;have Hs0:=hidI hs0;obtain ⟨xn,hxn⟩:∃ xn,xn=xs.length:=⟨_,rfl⟩;rw [←hxn] at A HW0 ⊢;have Hxn:Hid (xn=xs.length∧0<xn):=hidI ⟨hxn,by rw [hxn];exact List.length_pos_iff.2 hx0⟩;clear hv hc0 hg0 hg hW0 hb0 hs0 hxn
 go_enter Tryz.func93,Tryz.ntmps93
 go_wp2_with fail;refine A.out.mono ?_;rintro e w1 ⟨rfl,hw1⟩;rw [←HW0.out] at hw1;subst hw1;go_wp2_with fail;refine B.out.mono ?_;rintro e w2 ⟨v,ys,rfl,hperm,hasc,hrow,hb2⟩;have hlen:=hperm.length_eq;rcases hrow.2 with ⟨_,h0⟩ | ⟨g',cap',cur',rfl,hbase',hgb',hr1,hr2,hr3,hr4⟩
 ·have:=Hxn.out;omega
 obtain ⟨n,hn⟩:∃ n,n=ys.length:=⟨_,rfl⟩;have hn0:0<n:=by have:=Hxn.out;omega
 have hnb:n≤100000:=by omega
 have hncap:n≤cap':=by omega
 obtain ⟨n1,hn1⟩:∃ n1,n1=n - 1:=⟨_,rfl⟩;have en1:((n:Nat):Int) - 1=(n1:Nat):=by omega
 have hn1l:n1<n:=by omega
 obtain ⟨Y,hY⟩:∃ Y:Nat→Nat,∀ j,Y j=ys[j]! := ⟨fun j=>ys[j]!,fun _=>rfl⟩;have HC2:Hid (∀ j,(h:j<ys.length)→w2.cell? ⟨g',j,none⟩=some (encU ys[j])):=hidI (fun j h=>by
  rw [cell_of_row w2 g' j _ 72 (0,0) hgb',←Array.getElem?_toList]
  have:(cur'.toList.take (ys.length*1))[j]? = (ys.map encU)[j]? := by rw [hr4]
  rw [List.getElem?_take_of_lt (by omega)] at this;rw [this];simp [h])
 have hcy:∀ j,j<n→w2.cell? ⟨g',j,none⟩=some (.int .u32 (Y j:Nat)):=fun j h=>by rw [HC2.out j (by omega),hY,getElem!_pos ys j (by omega)];rfl
 have hYr:∀ j,j<n→Y j≤4294967295:=fun j h=>by rw [hY,getElem!_pos ys j (by omega)];exact hxr _ (hperm.mem_iff.1 (List.getElem_mem _))
 have hgl2:=lt_of_heap hgb';have HB2:Hid (Below w.heap.size w w2):=hidI (HB0.out.trans (hb2.mono (by have:=Hs0.out;omega)));have hcm:cap'≤9223372036854775807:=by unfold maxLen at hr2;omega
 have HP:=hidI hperm;have HS:=hidI hasc;have Hn:=hidI hn;have HY:=hidI hY;have Hlast:Hid (Y n1=ys.getLastD 0):=hidI (by
  have e:ys.length - 1=n1:=by omega
  have h:n1<ys.length:=by omega
  rw [hY,getElem!_pos ys n1 h,List.getLastD_eq_getLast?,List.getLast?_eq_getElem?,e,List.getElem?_eq_getElem h];rfl)
 rw [←hn];clear hrow hb2 hr4 hr3 hr2 hgb' hbase' A B hperm hasc hn hn1 hY hlen hr1;go_wp2_with fail
 go_loopg [4,5,6,21] n (fun k s4 s5 s6 s21 wr=>∃ (i f wd ah:Nat),s4=.int .i64 (f:Nat)∧s5=.int .u32 (wd:Nat)∧s6=.int .u32 (ah:Nat)∧s21=.int .i64 (i:Nat)∧i≤n∧f<n∧wd≤4294967295∧ah≤4294967295∧n - i≤k∧wr=w2∧Hid (scanG (ys.drop i) i f wd ah=firstG ys))
 case atStart=>exact ⟨0,0,0,Y n1,rfl,rfl,rfl,rfl,by omega,hn0,by omega,hYr n1 hn1l,by omega,rfl,hidI (by rw [Hlast.out];rfl)⟩
 case round =>
  obtain ⟨i,f,wd,ah,rfl,rfl,rfl,rfl,hi,hf,hwd,hah,hk,hwr,HF⟩:=hrel;have hwr':=hwr.symm;subst hwr';by_cases hlt:i<n
  ·have hlt':((i:Nat):Int)<(n:Nat):=by omega
   have hyi:=hYr i hlt;have hgap:=qkJ hyi hah;have HD:Hid (ys.drop i=Y i :: ys.drop (i+1)):=hidI (by
    have:=Hn.out
    rw [List.drop_eq_getElem_cons (by omega:i<ys.length),HY.out,getElem!_pos ys i (by omega)])
   by_cases hgt:wd<gapN (Y i) ah
   ·have hgt':((wd:Nat):Int)<(gapN (Y i) ah:Nat):=by omega
    go_wp2_with fail;go_roundg (n - (i+1))
    case measure=>omega
    case rel=>exact ⟨i+1,i,gapN (Y i) ah,Y i,rfl,rfl,rfl,by go_num,by omega,hlt,qnW _ _,hyi,by omega,rfl,hidI (by rw [←HF.out,HD.out];simp only [scanG];rw [if_pos hgt])⟩
   have hgt':¬((wd:Nat):Int)<(gapN (Y i) ah:Nat):=by omega
   go_wp2_with fail;go_roundg (n - (i+1))
   case measure=>omega
   case rel=>exact ⟨i+1,f,wd,Y i,rfl,rfl,rfl,by go_num,by omega,hf,hwd,hyi,by omega,rfl,hidI (by rw [←HF.out,HD.out];simp only [scanG];rw [if_neg hgt])⟩
  have hlt':¬((i:Nat):Int)<(n:Nat):=by omega
  have HF':Hid (f=firstG ys):=hidI (by have:=HF.out;rw [List.drop_eq_nil_of_le (by have:=Hn.out;omega)] at this;exact this);clear HF;have HF:=HF';clear HF';have hfn:f≤n:=by omega
  have hcf:¬cap'=f:=by omega
  have hfc:f≤cap':=by omega
  clear hcy hYr;go_wp2_with fail;refine wp_region_held_drew (S:=fun V=>True) (by kernel_rfl) trivial (fun hHeld => ?_);refine tk 0 ⟨some 36,.move (.tmp 3),_,_,_,none⟩ (.slice (some ⟨g',0,none⟩) n cap') rfl (fun w h=>by go_simp) hHeld ?_;simp only [zP,List.set];refine tk 1 ⟨some 37,.move (.tmp 4),_,_,_,none⟩ (.int .i64 (f:Nat)) rfl (fun w h=>by go_simp) hHeld ?_;simp only [zP,List.set];refine tk 2 ⟨some 38,.slice 161 (.tmp 36) (some (.tmp 37)) none none,_,_,_,none⟩ (.slice (some ⟨g',f,none⟩) (n - f) (cap' - f)) rfl (fun w h=>by go_simp) hHeld ?_;simp only [zP,List.set]
  refine tk 3 ⟨some 39,.move (.tmp 3),_,_,_,none⟩ (.slice (some ⟨g',0,none⟩) n cap') rfl (fun w h=>by go_simp) hHeld ?_;simp only [zP,List.set];refine tk 4 ⟨some 40,.move (.tmp 4),_,_,_,none⟩ (.int .i64 (f:Nat)) rfl (fun w h=>by go_simp) hHeld ?_;simp only [zP,List.set];refine tk 5 ⟨some 41,.slice 161 (.tmp 39) none (some (.tmp 40)) none,_,_,_,none⟩ (.slice (some ⟨g',0,none⟩) f cap') rfl (fun w h=>by go_simp) hHeld ?_;simp only [zP,List.set];refine rd 6 rfl (fun K hK => ?_);go_simp;obtain ⟨W3,hW3⟩:∃ W3,W3=(w2.alloc (.cells #[.slice (some ⟨g',f,none⟩) (n - f) (cap' - f),.slice (some ⟨g',0,none⟩) f cap'] 161)).drew:=⟨_,rfl⟩
  obtain ⟨rb,hrb⟩:∃ rb,rb=w2.heap.size:=⟨_,rfl⟩;have hr3:W3.heap[rb]? = some (.cells #[.slice (some ⟨g',f,none⟩) (n - f) (cap' - f),.slice (some ⟨g',0,none⟩) f cap'] 161 (0,0)):=by rw [hW3,hrb];exact heap_alloc_new _ _
  have hB3:Below w2.heap.size w2 W3:=by rw [hW3];exact ((Below.refl _ w2).alloc (Nat.le_refl _) _).drew
  have hx3:∀ j,(h:j<ys.length)→W3.cell? ⟨g',j,none⟩=some (encU ys[j]):=fun j h=>by rw [hB3.cell (p:=⟨g',j,none⟩) hgl2];exact HC2.out j h
  have C:=hidI (qn2 W3 rb g' f (n - f) (cap' - f) cap' ys (by have:=Hn.out;omega) (by have:=Hn.out;omega) (by have:=Hn.out;omega) hr3 hx3 (Nat.lt_of_lt_of_le hgl2 hB3.size));have HB3:=hidI (HB2.out.trans (hB3.mono HB2.out.size));refine hK.out _ _ trivial (fun hHeld => ?_);rw [←hW3];simp only [←hrb];clear hK K hW3 hrb hr3 hB3 hx3;refine rd 7 rfl (fun K hK => ?_);go_simp;refine C.out.mono ?_;rintro e w4 ⟨v4,rfl,hrow4,hb4⟩;have HB4:=hidI (HB3.out.trans (hb4.mono HB3.out.size));have HR4:=hidI (ownsRow_base_a hrow4 HB3.out.size);rcases hrow4.2 with ⟨_,h0⟩ | ⟨g4,cap4,cur4,rfl,_⟩
  ·have:=Hn.out;omega
  clear hrow4 hb4;refine hK.out _ _ trivial (fun hHeld => ?_);clear hK K;refine tk 8 ⟨some 2,.assign (.tmp 43),_,_,_,none⟩ (.slice (some ⟨g4,0,none⟩) ys.length cap4) rfl (fun w h=>by go_simp) hHeld ?_;simp only [zP,List.set];refine wpAnyH_done (by kernel_rfl) ?_ _;clear hHeld;go_wp2_with fail;go_ret
  refine ⟨_,ys,rfl,HP.out,HS.out,?_,HB4.out⟩;rw [←HF.out];exact HR4.out
end Go.Proofs.YtodmdkhdbfbfgabGreatDoor.S1
namespace Go.Proofs.YtodmdkhdbfbfgabGreatDoor.S1
open Go.RowKit Pk Go.Maps Go.Sort Go.ChangeShapes
def nd:List Nat→DataW Value
 | []=>.nil
 | x :: xs=>.slice (lits .u32 ((x :: xs).map (fun x:Nat=>(x:Int)))) []
def NAt (w:World) (z g n:Nat) (N:Nat→List Nat):Prop:=∃ D:DataW Value,w.ownsGroups Tryz.prog 3 z 72 .u32 g n D∧(∀ b:Nat,b≤1000000→D.atKey (.int .i64 (b:Int)) .nil=nd (N b)∧(Maps.has D (.int .i64 (b:Int))=true↔N b≠[]))∧(∀ kl,Maps.has D kl=true→∃ b:Nat,b≤1000000∧kl=.int .i64 (b:Int))
theorem qee {w:World} {z g n:Nat} {D:DataW Value} (h:w.ownsGroups Tryz.prog 3 z 72 .u32 g n D):w.ownsMap Tryz.prog 3 (rowElem (H:=Value) w z 72 .u32) g n D:=by
 obtain ⟨es,clock,h1,h2,h3,h4,_⟩:=h;exact ⟨es,clock,h1,h2,h3,h4⟩
theorem ql1 {zs:List Int} {xs:List Nat} (h:(lits .u32 zs:List (DataW Value))=lits .u32 (xs.map (fun x:Nat=>(x:Int)))):zs=xs.map (fun x:Nat=>(x:Int)):=by
 unfold lits at h;exact (List.map_inj_right (fun a b e=>by cases e;rfl)).1 h
theorem qgj (xs:List Nat):(xs.map (fun x:Nat=>(x:Int))).map (Value.int .u32)=xs.map encU:=by simp [encU,Function.comp_def]
theorem qgw {w:World} {z:Nat} {v:Value} {xs:List Nat} (h:w.ownsRow z 72 1 v xs.length (xs.map encU)) (hx:xs≠[]):rowDatum (H:=Value) .u32 v (xs.map (fun x:Nat=>(x:Int)))=nd xs:=by
 cases xs with
 | nil=>exact absurd rfl hx
 | cons x xs =>
   rcases h.2 with ⟨_,h0⟩ | ⟨g,cap,cur,rfl,_⟩
   ·simp at h0
   rfl
theorem wf_u32 {x:Nat} (h:x≤4294967295):(Lit.int .u32 (x:Nat)).wf=true:=by simp [Lit.wf,IntKind.min,IntKind.max,IntKind.signed,IntKind.bits];omega
def NBack (w:World) (z g n b:Nat) (N:Nat→List Nat) (v:Value):Prop:=∀ (w1:World) (v':Value) (xs':List Nat),w.grownBy w1 v.ownBlock→w1.ownsRow z 72 1 v' xs'.length (xs'.map encU)→xs'≠[]→(∀ x∈xs',x≤4294967295)→xs'.length≤n+1→(v'.ownBlock=v.ownBlock∨∃ g',v'.ownBlock=some g'∧w.heap.size≤g') →
 ∃ w2,(Instr.mapUpdate 160 (.map (some g)) (.int .i64 (b:Int)) v').run Tryz.prog w1=.ok () w2∧NAt w2 z g (n+1) (fun c=>if c=b then xs' else N c)∧w1.grownBy w2 (some g)
theorem NAt.look {w:World} {z g n:Nat} {N:Nat→List Nat} (h:NAt w z g n N) {b:Nat} (hb:b≤1000000) (hn:n≤1000000) :
 ∃ v,(Instr.lookup 160 (.map (some g)) (.int .i64 (b:Int)) false).run Tryz.prog w=.ok v w∧w.ownsRow z 72 1 v (N b).length ((N b).map encU)∧(N b).length≤n∧NBack w z g n b N v:=by
 obtain ⟨D,ho,hD,hk⟩:=h;obtain ⟨v,zs,hrun,hat,hoi,hzl,hback⟩:=ho.at law3 Tryz.underlying160 (qn7 w) (by unfold maxLen;omega) (key3 hb);have hzs:zs=(N b).map (fun x:Nat=>(x:Int)):=by
  rw [(hD b hb).1] at hat;cases hN:N b with
  | nil =>
    rw [hN] at hat;rcases hoi.1.2 with ⟨rfl,h0⟩ | ⟨g',cap,cur,rfl,_⟩
    ·exact List.length_eq_zero_iff.1 h0
    simp [nd,rowDatum] at hat
  | cons x xs =>
    rw [hN] at hat;rcases hoi.1.2 with ⟨rfl,h0⟩ | ⟨g',cap,cur,rfl,_⟩
    ·simp [nd,rowDatum] at hat
    have hat':(DataW.slice (lits .u32 ((x :: xs).map (fun x:Nat=>(x:Int)))) []:DataW Value)=.slice (lits .u32 zs) []:=hat;exact ql1 (DataW.slice.inj hat').1.symm
 have hlen:zs.length=(N b).length:=by rw [hzs];simp
 have hrow:w.ownsRow z 72 1 v (N b).length ((N b).map encU):=by
  have:=hoi.1
  rw [hlen,hzs,qgj] at this;exact this
 refine ⟨v,hrun,hrow,by omega,fun w1 v' xs' hg hown hx hr hl hloc => ?_⟩;obtain ⟨w2,h1,h2,h3⟩:=hback w1 v' (xs'.map (fun x:Nat=>(x:Int))) hg ⟨by rw [List.length_map,qgj];exact hown,fun z hz=>by obtain ⟨x,hx',rfl⟩:=List.mem_map.1 hz;exact wf_u32 (hr x hx')⟩ (by simpa using hl) hloc;refine ⟨w2,h1,⟨_,h2,fun c hc => ?_,fun kl hkl => ?_⟩,h3⟩
 ·have hM:=(qee ho).isMap;dsimp only;by_cases e:c=b
  ·subst e;rw [Maps.atKey_put_same hM (k:=.int .i64 (c:Int)) trivial,Maps.has_put_same hM (k:=.int .i64 (c:Int)) trivial,if_pos rfl];exact ⟨qgw hown hx,by simp [hx]⟩
  rw [Maps.atKey_put_other (int_ne e),Maps.has_put_other (int_ne e),if_neg e];exact hD c hc
 by_cases e:kl=.int .i64 (b:Int)
 ·exact ⟨b,hb,e⟩
 rw [Maps.has_put_other e] at hkl;exact hk kl hkl
theorem NAt.made (w:World):NAt (w.alloc (.map #[] 0)) (w.heap.size+1) w.heap.size 0 (fun _=>[]):=⟨.map [],World.ownsGroups_made w _ _ _ _,fun b hb=>⟨rfl,by simp [Maps.has]⟩,fun kl h=>by simp [Maps.has] at h⟩
theorem below_grown {w w':World} {B:Nat} (h:Below B w w') (hB:w.heap.size≤B):w.grownBy w' none:=⟨h.os,h.tape,h.output,h.size,fun k hk _=>h.block k (by omega)⟩
theorem NAt.below {w w':World} {z g n B:Nat} {N:Nat→List Nat} (h:NAt w z g n N) (hb:Below B w w') (hB:w.heap.size≤B):NAt w' z g n N:=by
 obtain ⟨D,ho,hD,hk⟩:=h;refine ⟨D,ho.kept (below_grown hb hB) (by simp) (fun es clock _ x _ => ?_),hD,hk⟩;cases x.val.ownBlock<;>simp
def KeyP (w:World) (n:Nat) (N:Nat→List Nat) (e:Ending) (w':World):Prop:=∃ (v:Value) (ks:List Nat),e=.returned v∧Asc ks∧ks.Nodup∧(∀ b,b∈ks↔N b≠[])∧ks.length≤n∧w'.ownsRow w.heap.size 3 1 v ks.length (ks.map (fun k:Nat=>Value.int .i64 (k:Int)))∧Below w.heap.size w w'
theorem NAt.keys {w:World} {z g n Bm:Nat} {N:Nat→List Nat} (h:NAt w z g n N) (hN:∀ b,N b≠[]→b≤1000000) (hn:n≤100000) (hBm:Bm<w.heap.size) (hm:w.cell? ⟨Bm,0,none⟩=some (.map (some g))) :
 Calls Tryz.prog 91 #[.func (.func 126) #[] #[.pointer (some ⟨Bm,0,none⟩)]] w fun e w'=>KeyP w n N e w':=by
 obtain ⟨D,ho,hD,hk⟩:=h;have hM:=qee ho;refine (qgD w Bm g n D hBm hm hM (Nat.le_trans hM.size_le hn)).mono ?_;rintro e w' ⟨v,ss,rfl,hperm,hrow,-,hb⟩;obtain ⟨es,hDe,hpw,_⟩:=hM.entries law3;obtain ⟨es',hD',hko⟩:=hM.keysOf;obtain rfl:es=es':=by rw [hDe] at hD';simpa using hD'
 have hhas:∀ x:Int,Maps.has D (.int .i64 x)=true↔x∈intKeys D:=fun x=>by
  rw [hDe,Maps.has_eq,List.any_eq_true];show _↔x∈es.map fun p=>Go.intOf p.1
  rw [List.mem_map]
  constructor
  ·rintro ⟨p,hp,hs⟩;obtain ⟨v,hv⟩:=hko p hp;obtain ⟨y,_,hy,_⟩:=Maps.keyOf_i64 Tryz.underlying3 hv;rw [hy] at hs;exact ⟨p,hp,by rw [hy];simpa [Lit.sameKey,Go.intOf] using hs⟩
  rintro ⟨p,hp,rfl⟩;obtain ⟨v,hv⟩:=hko p hp;obtain ⟨y,_,hy,_⟩:=Maps.keyOf_i64 Tryz.underlying3 hv;exact ⟨p,hp,by rw [hy];simp [Lit.sameKey,Go.intOf]⟩
 have hnd:(intKeys D).Nodup:=by
  rw [hDe];show (es.map fun p=>Go.intOf p.1).Nodup;refine List.pairwise_map.2 (hpw.imp_of_mem fun {p q} hp hq hne e=>hne ?_);obtain ⟨v,hv⟩:=hko p hp;obtain ⟨u,hu⟩:=hko q hq;obtain ⟨x,_,hx,_⟩:=Maps.keyOf_i64 Tryz.underlying3 hv;obtain ⟨y,_,hy,_⟩:=Maps.keyOf_i64 Tryz.underlying3 hu;rw [hx,hy] at e ⊢;exact congrArg _ e
 have hnat:∀ x∈intKeys D,∃ b:Nat,b≤1000000∧x=(b:Int):=fun x hx=>by
  obtain ⟨b,hb,e⟩:=hk _ ((hhas x).2 hx);exact ⟨b,hb,by cases e;rfl⟩
 obtain ⟨S,hS⟩:∃ S,S=ss.mergeSort (fun x y=>decide (x≤y)):=⟨_,rfl⟩;have hSp:S.Perm (intKeys D):=by rw [hS];exact (List.mergeSort_perm _ _).trans hperm
 have hSs:S.Pairwise (fun a b=>a≤b):=by
  have:=List.pairwise_mergeSort (le:=fun x y:Int=>decide (x≤y)) (fun a b c h1 h2=>by simp only [decide_eq_true_eq] at *;omega) (fun a b=>by simp;omega) ss
  rw [←hS] at this;exact this.imp (fun h=>by simpa using h)
 have hSn:∀ x∈S,∃ b:Nat,b≤1000000∧x=(b:Int):=fun x hx=>hnat x (hSp.mem_iff.1 hx)
 have hSc:S=(S.map Int.toNat).map (fun k:Nat=>(k:Int)):=by
  rw [List.map_map]
  conv=>lhs;rw [←List.map_id S]
  refine List.map_congr_left (fun x hx => ?_);obtain ⟨b,_,rfl⟩:=hSn x hx;simp
 refine ⟨v,S.map Int.toNat,rfl,?_,?_,fun b => ?_,?_,?_,hb⟩
 ·refine List.pairwise_map.2 (hSs.imp_of_mem fun {x y} hx hy h => ?_);obtain ⟨b,_,rfl⟩:=hSn x hx;obtain ⟨c,_,rfl⟩:=hSn y hy;simpa using h
 ·refine List.pairwise_map.2 ((hSp.symm.nodup hnd).imp_of_mem fun {x y} hx hy h e=>h ?_);obtain ⟨b,_,rfl⟩:=hSn x hx;obtain ⟨c,_,rfl⟩:=hSn y hy
  have:b=c:=by simpa using e
  rw [this]
 ·constructor
  ·intro hb';obtain ⟨x,hx,rfl⟩:=List.mem_map.1 hb';obtain ⟨c,hc,rfl⟩:=hSn x hx;exact (hD c hc).2.1 ((hhas _).2 (hSp.mem_iff.1 hx))
  intro hb'
  have:=(hhas _).1 ((hD b (hN b hb')).2.2 hb')
  exact List.mem_map.2 ⟨(b:Int),hSp.mem_iff.2 this,by simp⟩
 ·have h1:=hM.size_le;have h2:=hSp.length_eq;rw [hDe] at h1 h2;have h3:(intKeys (DataW.map es)).length=es.length:=by show (es.map _).length=_;simp
  rw [List.length_map,h2,h3];exact h1
 have hl:ss.length=(S.map Int.toNat).length:=by rw [List.length_map,hS];exact (List.length_mergeSort _).symm
 rw [←hS,hl] at hrow
 have:S.map encZ=(S.map Int.toNat).map (fun k:Nat=>Value.int .i64 (k:Int)):=by
  conv=>lhs;rw [hSc]
  rw [List.map_map];rfl
 rw [this] at hrow;exact hrow
end Go.Proofs.YtodmdkhdbfbfgabGreatDoor.S1
