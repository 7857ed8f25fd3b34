/- Lemmas. -/
import Derived.Maps.GroupsBeside
import Derived.Test.YtodmdkhdbfbfgaaGreatDoorM20
import Derived.Test.YtodmdkhdbfbfgaaGreatDoorM18
set_option linter.unusedVariables false
set_option linter.unusedSimpArgs false
set_option maxRecDepth 100000
set_option maxHeartbeats 8000000
namespace Go.Proofs.YtodmdkhdbfbfgaaGreatDoor
namespace S1
open Go.RowKit Pk Go.Shelf
def gapN (n a:Nat):Nat:=(n+4294967296 - a)%4294967296
theorem qkP {n a:Nat} (hn:n≤4294967295) (ha:a≤4294967295):IntKind.u32.wrap ((n:Int) - (a:Int))=((gapN n a:Nat):Int):=by
 unfold gapN;rw [IntKind.wrap_u32];omega
theorem qnr (n a:Nat):gapN n a≤4294967295:=by unfold gapN;omega
def scanG:List Nat→Nat→Nat→Nat→Nat→Nat
 | [],_,f,_,_=>f
 | n :: l,i,f,wd,a=>if wd<gapN n a then scanG l (i+1) i (gapN n a) n else scanG l (i+1) f wd n
def firstG (ys:List Nat):Nat:=scanG ys 0 0 0 (ys.getLastD 0)
def RndP (w:World) (xs:List Nat) (e:Ending) (w':World):Prop:=∃ (v:Value) (ys:List Nat),e=.returned v∧ys.Perm xs∧Asc ys∧w'.ownsRow w.heap.size 88 1 v ys.length ((ys.drop (firstG ys)++ys.take (firstG ys)).map encU)∧Below w.heap.size w w'
theorem roundU (w:World) (g cap:Nat) (cur:Array Value) (xs:List Nat) (hg:w.heap[g]? = some (.cells cur 88 (0,0))) (hx:cur.toList.take xs.length=xs.map encU) (hx0:xs≠[]) (hbig:xs.length≤100000) (hxr:∀ x∈xs,x≤4294967295) :
 Calls Tryz.prog 141 #[.slice (some ⟨g,0,none⟩) xs.length cap] w fun e w'=>RndP w xs e w':=by
 have hgl:=lt_of_heap hg;obtain ⟨W0,hW0⟩:∃ W0,W0=w.alloc (.cells #[.slice (some ⟨g,0,none⟩) xs.length cap] 201):=⟨_,rfl⟩;have hs0:W0.heap.size=w.heap.size+1:=by rw [hW0];simp
 have hb0:Below w.heap.size w W0:=by rw [hW0];exact (Below.refl _ w).alloc (Nat.le_refl _) _
 have hc0:W0.cell? ⟨w.heap.size,0,none⟩=some (.slice (some ⟨g,0,none⟩) xs.length cap):=by rw [hW0];simp
 have hg0:W0.heap[g]? = some (.cells cur 88 (0,0)):=(hb0.block g hgl).trans hg;have hv:SeqRow Fence.wide 1 Tryz.prog 256 #[.pointer (some ⟨w.heap.size,0,none⟩)] (fun x=>#[encU x]) xs W0.heap.size (fun k=>k<W0.heap.size) W0:=qis 1 (by omega) W0 w.heap.size g cap xs W0.heap.size _ (by omega) (by omega) (show g<W0.heap.size by omega) hbig hc0 cur hg0 hx;have B:=hidI ((callsIn_wide (n:=4)).1 (qhY 4 (by omega) 256 _ (enters_of Tryz.func256 (by kernel_rfl) rfl) xs hx0 hbig W0 W0.heap.size _ (Nat.le_refl _) (fun k hk=>hk) hv));have A:=hidI ((callsIn_wide (n:=4)).1 (qje 4 (some ⟨g,0,none⟩) xs.length cap w));have HW0:=hidI hW0;have HB0:=hidI hb0;have Hs0:=hidI hs0;obtain ⟨xn,hxn⟩:∃ xn,xn=xs.length:=⟨_,rfl⟩;rw [←hxn] at A HW0 ⊢;have Hxn:Hid (xn=xs.length∧0<xn):=hidI ⟨hxn,by rw [hxn];exact List.length_pos_iff.2 hx0⟩;clear hv hc0 hg0 hg hW0 hb0 hs0 hxn
 go_enter Tryz.func141,Tryz.ntmps141
 go_wp2_with fail;refine A.out.mono ?_;rintro e w1 ⟨rfl,hw1⟩;rw [←HW0.out] at hw1;subst hw1;go_wp2_with fail;refine B.out.mono ?_;rintro e w2 ⟨v,ys,rfl,hperm,hasc,hrow,hb2⟩;have hlen:=hperm.length_eq;rcases hrow.2 with ⟨_,h0⟩ | ⟨g',cap',cur',rfl,hbase',hgb',hr1,hr2,hr3,hr4⟩
 ·have:=Hxn.out;omega
 obtain ⟨n,hn⟩:∃ n,n=ys.length:=⟨_,rfl⟩;have hn0:0<n:=by have:=Hxn.out;omega
 have hnb:n≤100000:=by omega
 have hncap:n≤cap':=by omega
 obtain ⟨n1,hn1⟩:∃ n1,n1=n - 1:=⟨_,rfl⟩;have en1:((n:Nat):Int) - 1=(n1:Nat):=by omega
 have hn1l:n1<n:=by omega
 obtain ⟨Y,hY⟩:∃ Y:Nat→Nat,∀ j,Y j=ys[j]! := ⟨fun j=>ys[j]!,fun _=>rfl⟩;have HC2:Hid (∀ j,(h:j<ys.length)→w2.cell? ⟨g',j,none⟩=some (encU ys[j])):=hidI (fun j h=>by
  rw [cell_of_row w2 g' j _ 88 (0,0) hgb',←Array.getElem?_toList]
  have:(cur'.toList.take (ys.length*1))[j]? = (ys.map encU)[j]? := by rw [hr4]
  rw [List.getElem?_take_of_lt (by omega)] at this;rw [this];simp [h])
 have hcy:∀ j,j<n→w2.cell? ⟨g',j,none⟩=some (.int .u32 (Y j:Nat)):=fun j h=>by rw [HC2.out j (by omega),hY,getElem!_pos ys j (by omega)];rfl
 have hYr:∀ j,j<n→Y j≤4294967295:=fun j h=>by rw [hY,getElem!_pos ys j (by omega)];exact hxr _ (hperm.mem_iff.1 (List.getElem_mem _))
 have hgl2:=lt_of_heap hgb';have HB2:Hid (Below w.heap.size w w2):=hidI (HB0.out.trans (hb2.mono (by have:=Hs0.out;omega)));have hcm:cap'≤9223372036854775807:=by unfold maxLen at hr2;omega
 have HP:=hidI hperm;have HS:=hidI hasc;have Hn:=hidI hn;have HY:=hidI hY;have Hlast:Hid (Y n1=ys.getLastD 0):=hidI (by
  have e:ys.length - 1=n1:=by omega
  have h:n1<ys.length:=by omega
  rw [hY,getElem!_pos ys n1 h,List.getLastD_eq_getLast?,List.getLast?_eq_getElem?,e,List.getElem?_eq_getElem h];rfl)
 rw [←hn];clear hrow hb2 hr4 hr3 hr2 hgb' hbase' A B hperm hasc hn hn1 hY hlen hr1;go_wp2_with fail
 go_loopg [4,5,6,21] n (fun k s4 s5 s6 s21 wr=>∃ (i f wd ah:Nat),s4=.int .i64 (f:Nat)∧s5=.int .u32 (wd:Nat)∧s6=.int .u32 (ah:Nat)∧s21=.int .i64 (i:Nat)∧i≤n∧f<n∧wd≤4294967295∧ah≤4294967295∧n - i≤k∧wr=w2∧Hid (scanG (ys.drop i) i f wd ah=firstG ys))
 case atStart=>exact ⟨0,0,0,Y n1,rfl,rfl,rfl,rfl,by omega,hn0,by omega,hYr n1 hn1l,by omega,rfl,hidI (by rw [Hlast.out];rfl)⟩
 case round =>
  obtain ⟨i,f,wd,ah,rfl,rfl,rfl,rfl,hi,hf,hwd,hah,hk,hwr,HF⟩:=hrel;have hwr':=hwr.symm;subst hwr';by_cases hlt:i<n
  ·have hlt':((i:Nat):Int)<(n:Nat):=by omega
   have hyi:=hYr i hlt;have hgap:=qkP hyi hah;have HD:Hid (ys.drop i=Y i :: ys.drop (i+1)):=hidI (by
    have:=Hn.out
    rw [List.drop_eq_getElem_cons (by omega:i<ys.length),HY.out,getElem!_pos ys i (by omega)])
   by_cases hgt:wd<gapN (Y i) ah
   ·have hgt':((wd:Nat):Int)<(gapN (Y i) ah:Nat):=by omega
    go_wp2_with fail;go_roundg (n - (i+1))
    case measure=>omega
    case rel=>exact ⟨i+1,i,gapN (Y i) ah,Y i,rfl,rfl,rfl,by go_num,by omega,hlt,qnr _ _,hyi,by omega,rfl,hidI (by rw [←HF.out,HD.out];simp only [scanG];rw [if_pos hgt])⟩
   have hgt':¬((wd:Nat):Int)<(gapN (Y i) ah:Nat):=by omega
   go_wp2_with fail;go_roundg (n - (i+1))
   case measure=>omega
   case rel=>exact ⟨i+1,f,wd,Y i,rfl,rfl,rfl,by go_num,by omega,hf,hwd,hyi,by omega,rfl,hidI (by rw [←HF.out,HD.out];simp only [scanG];rw [if_neg hgt])⟩
  have hlt':¬((i:Nat):Int)<(n:Nat):=by omega
  have HF':Hid (f=firstG ys):=hidI (by have:=HF.out;rw [List.drop_eq_nil_of_le (by have:=Hn.out;omega)] at this;exact this);clear HF;have HF:=HF';clear HF';have hfn:f≤n:=by omega
  have hcf:¬cap'=f:=by omega
  have hfc:f≤cap':=by omega
  clear hcy hYr;go_wp2_with fail;refine wp_region_held_drew (S:=fun V=>True) (by kernel_rfl) trivial (fun hHeld => ?_);refine tk 0 ⟨some 36,.move (.tmp 3),_,_,_,none⟩ (.slice (some ⟨g',0,none⟩) n cap') rfl (fun w h=>by go_simp) hHeld ?_;simp only [zP,List.set];refine tk 1 ⟨some 37,.move (.tmp 4),_,_,_,none⟩ (.int .i64 (f:Nat)) rfl (fun w h=>by go_simp) hHeld ?_;simp only [zP,List.set];refine tk 2 ⟨some 38,.slice 201 (.tmp 36) (some (.tmp 37)) none none,_,_,_,none⟩ (.slice (some ⟨g',f,none⟩) (n - f) (cap' - f)) rfl (fun w h=>by go_simp) hHeld ?_;simp only [zP,List.set]
  refine tk 3 ⟨some 39,.move (.tmp 3),_,_,_,none⟩ (.slice (some ⟨g',0,none⟩) n cap') rfl (fun w h=>by go_simp) hHeld ?_;simp only [zP,List.set];refine tk 4 ⟨some 40,.move (.tmp 4),_,_,_,none⟩ (.int .i64 (f:Nat)) rfl (fun w h=>by go_simp) hHeld ?_;simp only [zP,List.set];refine tk 5 ⟨some 41,.slice 201 (.tmp 39) none (some (.tmp 40)) none,_,_,_,none⟩ (.slice (some ⟨g',0,none⟩) f cap') rfl (fun w h=>by go_simp) hHeld ?_;simp only [zP,List.set];refine rd 6 rfl (fun K hK => ?_);go_simp;obtain ⟨W3,hW3⟩:∃ W3,W3=(w2.alloc (.cells #[.slice (some ⟨g',f,none⟩) (n - f) (cap' - f),.slice (some ⟨g',0,none⟩) f cap'] 201)).drew:=⟨_,rfl⟩
  obtain ⟨rb,hrb⟩:∃ rb,rb=w2.heap.size:=⟨_,rfl⟩;have hr3:W3.heap[rb]? = some (.cells #[.slice (some ⟨g',f,none⟩) (n - f) (cap' - f),.slice (some ⟨g',0,none⟩) f cap'] 201 (0,0)):=by rw [hW3,hrb];exact heap_alloc_new _ _
  have hB3:Below w2.heap.size w2 W3:=by rw [hW3];exact ((Below.refl _ w2).alloc (Nat.le_refl _) _).drew
  have hx3:∀ j,(h:j<ys.length)→W3.cell? ⟨g',j,none⟩=some (encU ys[j]):=fun j h=>by rw [hB3.cell (p:=⟨g',j,none⟩) hgl2];exact HC2.out j h
  have C:=hidI (qnS W3 rb g' f (n - f) (cap' - f) cap' ys (by have:=Hn.out;omega) (by have:=Hn.out;omega) (by have:=Hn.out;omega) hr3 hx3 (Nat.lt_of_lt_of_le hgl2 hB3.size));have HB3:=hidI (HB2.out.trans (hB3.mono HB2.out.size));refine hK.out _ _ trivial (fun hHeld => ?_);rw [←hW3];simp only [←hrb];clear hK K hW3 hrb hr3 hB3 hx3;refine rd 7 rfl (fun K hK => ?_);go_simp;refine C.out.mono ?_;rintro e w4 ⟨v4,rfl,hrow4,hb4⟩;have HB4:=hidI (HB3.out.trans (hb4.mono HB3.out.size));have HR4:=hidI (ownsRow_base_a hrow4 HB3.out.size);rcases hrow4.2 with ⟨_,h0⟩ | ⟨g4,cap4,cur4,rfl,_⟩
  ·have:=Hn.out;omega
  clear hrow4 hb4;refine hK.out _ _ trivial (fun hHeld => ?_);clear hK K;refine tk 8 ⟨some 2,.assign (.tmp 43),_,_,_,none⟩ (.slice (some ⟨g4,0,none⟩) ys.length cap4) rfl (fun w h=>by go_simp) hHeld ?_;simp only [zP,List.set];refine wpAnyH_done (by kernel_rfl) ?_ _;clear hHeld;go_wp2_with fail;go_ret
  refine ⟨_,ys,rfl,HP.out,HS.out,?_,HB4.out⟩;rw [←HF.out];exact HR4.out
end S1
namespace S1
open Go.RowKit Pk Go.Maps Go.Sort Go.ChangeShapes
variable {w w':World} {z g n B:Nat} {xs:List Nat} {N:Nat→List Nat}
def nd:List Nat→DataW Value
 | []=>.nil
 | x :: xs=>.slice (lits .u32 ((x :: xs).map (fun x:Nat=>(x:Int)))) []
def NAt (w:World) (z g n:Nat) (N:Nat→List Nat):Prop:=∃ D:DataW Value,w.ownsGroups Tryz.prog 3 z 88 .u32 g n D∧(∀ b:Nat,b≤1000000→D.atKey (.int .i64 (b:Int)) .nil=nd (N b)∧(Maps.has D (.int .i64 (b:Int))=true↔N b≠[]))∧(∀ kl,Maps.has D kl=true→∃ b:Nat,b≤1000000∧kl=.int .i64 (b:Int))
theorem qd0 {D:DataW Value} (h:w.ownsGroups Tryz.prog 3 z 88 .u32 g n D):w.ownsMap Tryz.prog 3 (rowElem (H:=Value) w z 88 .u32) g n D:=by
 obtain ⟨es,clock,h1,h2,h3,h4,_⟩:=h;exact ⟨es,clock,h1,h2,h3,h4⟩
theorem qm9 {zs:List Int} (h:(lits .u32 zs:List (DataW Value))=lits .u32 (xs.map (fun x:Nat=>(x:Int)))):zs=xs.map (fun x:Nat=>(x:Int)):=by
 unfold lits at h;exact (List.map_inj_right (fun a b e=>by cases e;rfl)).1 h
theorem qfh (xs:List Nat):(xs.map (fun x:Nat=>(x:Int))).map (Value.int .u32)=xs.map encU:=by simp [encU,Function.comp_def]
theorem qgH {v:Value} (h:w.ownsRow z 88 1 v xs.length (xs.map encU)) (hx:xs≠[]):rowDatum (H:=Value) .u32 v (xs.map (fun x:Nat=>(x:Int)))=nd xs:=by
 cases xs with
 | nil=>exact absurd rfl hx
 | cons x xs =>
   rcases h.2 with ⟨_,h0⟩ | ⟨g,cap,cur,rfl,_⟩
   ·simp at h0
   rfl
theorem wf_u32 {x:Nat} (h:x≤4294967295):(Lit.int .u32 (x:Nat)).wf=true:=by simp [Lit.wf,IntKind.min,IntKind.max,IntKind.signed,IntKind.bits];omega
def NBack (w:World) (z g n b:Nat) (N:Nat→List Nat) (v:Value):Prop:=∀ (w1:World) (v':Value) (xs':List Nat),w.grownBy w1 v.ownBlock→w1.ownsRow z 88 1 v' xs'.length (xs'.map encU)→xs'≠[]→(∀ x∈xs',x≤4294967295)→xs'.length≤n+1→(v'.ownBlock=v.ownBlock∨∃ g',v'.ownBlock=some g'∧w.heap.size≤g') →
 ∃ w2,(Instr.mapUpdate 200 (.map (some g)) (.int .i64 (b:Int)) v').run Tryz.prog w1=.ok () w2∧NAt w2 z g (n+1) (fun c=>if c=b then xs' else N c)∧w1.grownBy w2 (some g)
theorem NAt.look (h:NAt w z g n N) {b:Nat} (hb:b≤1000000) (hn:n≤1000000) :
 ∃ v,(Instr.lookup 200 (.map (some g)) (.int .i64 (b:Int)) false).run Tryz.prog w=.ok v w∧w.ownsRow z 88 1 v (N b).length ((N b).map encU)∧(N b).length≤n∧NBack w z g n b N v:=by
 obtain ⟨D,ho,hD,hk⟩:=h;obtain ⟨v,zs,hrun,hat,hoi,hzl,hback⟩:=ho.at law3 Tryz.underlying200 (qn8 w) (by unfold maxLen;omega) (key3 hb);have hzs:zs=(N b).map (fun x:Nat=>(x:Int)):=by
  rw [(hD b hb).1] at hat;cases hN:N b with
  | nil =>
    rw [hN] at hat;rcases hoi.1.2 with ⟨rfl,h0⟩ | ⟨g',cap,cur,rfl,_⟩
    ·exact List.length_eq_zero_iff.1 h0
    simp [nd,rowDatum] at hat
  | cons x xs =>
    rw [hN] at hat;rcases hoi.1.2 with ⟨rfl,h0⟩ | ⟨g',cap,cur,rfl,_⟩
    ·simp [nd,rowDatum] at hat
    have hat':(DataW.slice (lits .u32 ((x :: xs).map (fun x:Nat=>(x:Int)))) []:DataW Value)=.slice (lits .u32 zs) []:=hat;exact qm9 (DataW.slice.inj hat').1.symm
 have hlen:zs.length=(N b).length:=by rw [hzs];simp
 have hrow:w.ownsRow z 88 1 v (N b).length ((N b).map encU):=by
  have:=hoi.1
  rw [hlen,hzs,qfh] at this;exact this
 refine ⟨v,hrun,hrow,by omega,fun w1 v' xs' hg hown hx hr hl hloc => ?_⟩;obtain ⟨w2,h1,h2,h3⟩:=hback w1 v' (xs'.map (fun x:Nat=>(x:Int))) hg ⟨by rw [List.length_map,qfh];exact hown,fun z hz=>by obtain ⟨x,hx',rfl⟩:=List.mem_map.1 hz;exact wf_u32 (hr x hx')⟩ (by simpa using hl) hloc;refine ⟨w2,h1,⟨_,h2,fun c hc => ?_,fun kl hkl => ?_⟩,h3⟩
 ·have hM:=(qd0 ho).isMap;dsimp only;by_cases e:c=b
  ·subst e;rw [Maps.atKey_put_same hM (k:=.int .i64 (c:Int)) trivial,Maps.has_put_same hM (k:=.int .i64 (c:Int)) trivial,if_pos rfl];exact ⟨qgH hown hx,by simp [hx]⟩
  rw [Maps.atKey_put_other (int_ne e),Maps.has_put_other (int_ne e),if_neg e];exact hD c hc
 by_cases e:kl=.int .i64 (b:Int)
 ·exact ⟨b,hb,e⟩
 rw [Maps.has_put_other e] at hkl;exact hk kl hkl
theorem NAt.made (w:World):NAt (w.alloc (.map #[] 0)) (w.heap.size+1) w.heap.size 0 (fun _=>[]):=⟨.map [],World.ownsGroups_made w _ _ _ _,fun b hb=>⟨rfl,by simp [Maps.has]⟩,fun kl h=>by simp [Maps.has] at h⟩
theorem below_grown (h:Below B w w') (hB:w.heap.size≤B):w.grownBy w' none:=⟨h.os,h.tape,h.output,h.size,fun k hk _=>h.block k (by omega)⟩
theorem NAt.below (h:NAt w z g n N) (hb:Below B w w') (hB:w.heap.size≤B):NAt w' z g n N:=by
 obtain ⟨D,ho,hD,hk⟩:=h;refine ⟨D,ho.kept (below_grown hb hB) (by simp) (fun es clock _ x _ => ?_),hD,hk⟩;cases x.val.ownBlock<;>simp
def KeyP (w:World) (n:Nat) (N:Nat→List Nat) (e:Ending) (w':World):Prop:=∃ (v:Value) (ks:List Nat),e=.returned v∧Asc ks∧ks.Nodup∧(∀ b,b∈ks↔N b≠[])∧ks.length≤n∧w'.ownsRow w.heap.size 3 1 v ks.length (ks.map (fun k:Nat=>Value.int .i64 (k:Int)))∧Below w.heap.size w w'
theorem NAt.keys {Bm:Nat} (h:NAt w z g n N) (hN:∀ b,N b≠[]→b≤1000000) (hn:n≤100000) (hBm:Bm<w.heap.size) (hm:w.cell? ⟨Bm,0,none⟩=some (.map (some g))) :
 Calls Tryz.prog 139 #[.func (.func 202) #[] #[.pointer (some ⟨Bm,0,none⟩)]] w fun e w'=>KeyP w n N e w':=by
 obtain ⟨D,ho,hD,hk⟩:=h;have hM:=qd0 ho;refine (qgy w Bm g n D hBm hm hM (Nat.le_trans hM.size_le hn)).mono ?_;rintro e w' ⟨v,ss,rfl,hperm,hrow,-,hb⟩;obtain ⟨es,hDe,hpw,_⟩:=hM.entries law3;obtain ⟨es',hD',hko⟩:=hM.keysOf;obtain rfl:es=es':=by rw [hDe] at hD';simpa using hD'
 have hhas:∀ x:Int,Maps.has D (.int .i64 x)=true↔x∈intKeys D:=fun x=>by
  rw [hDe,Maps.has_eq,List.any_eq_true];show _↔x∈es.map fun p=>Go.intOf p.1
  rw [List.mem_map]
  constructor
  ·rintro ⟨p,hp,hs⟩;obtain ⟨v,hv⟩:=hko p hp;obtain ⟨y,_,hy,_⟩:=Maps.keyOf_i64 Tryz.underlying3 hv;rw [hy] at hs;exact ⟨p,hp,by rw [hy];simpa [Lit.sameKey,Go.intOf] using hs⟩
  rintro ⟨p,hp,rfl⟩;obtain ⟨v,hv⟩:=hko p hp;obtain ⟨y,_,hy,_⟩:=Maps.keyOf_i64 Tryz.underlying3 hv;exact ⟨p,hp,by rw [hy];simp [Lit.sameKey,Go.intOf]⟩
 have hnd:(intKeys D).Nodup:=by
  rw [hDe];show (es.map fun p=>Go.intOf p.1).Nodup;refine List.pairwise_map.2 (hpw.imp_of_mem fun {p q} hp hq hne e=>hne ?_);obtain ⟨v,hv⟩:=hko p hp;obtain ⟨u,hu⟩:=hko q hq;obtain ⟨x,_,hx,_⟩:=Maps.keyOf_i64 Tryz.underlying3 hv;obtain ⟨y,_,hy,_⟩:=Maps.keyOf_i64 Tryz.underlying3 hu;rw [hx,hy] at e ⊢;exact congrArg _ e
 have hnat:∀ x∈intKeys D,∃ b:Nat,b≤1000000∧x=(b:Int):=fun x hx=>by
  obtain ⟨b,hb,e⟩:=hk _ ((hhas x).2 hx);exact ⟨b,hb,by cases e;rfl⟩
 obtain ⟨S,hS⟩:∃ S,S=ss.mergeSort (fun x y=>decide (x≤y)):=⟨_,rfl⟩;have hSp:S.Perm (intKeys D):=by rw [hS];exact (List.mergeSort_perm _ _).trans hperm
 have hSs:S.Pairwise (fun a b=>a≤b):=by
  have:=List.pairwise_mergeSort (le:=fun x y:Int=>decide (x≤y)) (fun a b c h1 h2=>by simp only [decide_eq_true_eq] at *;omega) (fun a b=>by simp;omega) ss
  rw [←hS] at this;exact this.imp (fun h=>by simpa using h)
 have hSn:∀ x∈S,∃ b:Nat,b≤1000000∧x=(b:Int):=fun x hx=>hnat x (hSp.mem_iff.1 hx)
 have hSc:S=(S.map Int.toNat).map (fun k:Nat=>(k:Int)):=by
  rw [List.map_map]
  conv=>lhs;rw [←List.map_id S]
  refine List.map_congr_left (fun x hx => ?_);obtain ⟨b,_,rfl⟩:=hSn x hx;simp
 refine ⟨v,S.map Int.toNat,rfl,?_,?_,fun b => ?_,?_,?_,hb⟩
 ·refine List.pairwise_map.2 (hSs.imp_of_mem fun {x y} hx hy h => ?_);obtain ⟨b,_,rfl⟩:=hSn x hx;obtain ⟨c,_,rfl⟩:=hSn y hy;simpa using h
 ·refine List.pairwise_map.2 ((hSp.symm.nodup hnd).imp_of_mem fun {x y} hx hy h e=>h ?_);obtain ⟨b,_,rfl⟩:=hSn x hx;obtain ⟨c,_,rfl⟩:=hSn y hy
  have:b=c:=by simpa using e
  rw [this]
 ·constructor
  ·intro hb';obtain ⟨x,hx,rfl⟩:=List.mem_map.1 hb';obtain ⟨c,hc,rfl⟩:=hSn x hx;exact (hD c hc).2.1 ((hhas _).2 (hSp.mem_iff.1 hx))
  intro hb'
  have:=(hhas _).1 ((hD b (hN b hb')).2.2 hb')
  exact List.mem_map.2 ⟨(b:Int),hSp.mem_iff.2 this,by simp⟩
 ·have h1:=hM.size_le;have h2:=hSp.length_eq;rw [hDe] at h1 h2;have h3:(intKeys (DataW.map es)).length=es.length:=by show (es.map _).length=_;simp
  rw [List.length_map,h2,h3];exact h1
 have hl:ss.length=(S.map Int.toNat).length:=by rw [List.length_map,hS];exact (List.length_mergeSort _).symm
 rw [←hS,hl] at hrow
 have:S.map encZ=(S.map Int.toNat).map (fun k:Nat=>Value.int .i64 (k:Int)):=by
  conv=>lhs;rw [hSc]
  rw [List.map_map];rfl
 rw [this] at hrow;exact hrow
end S1
namespace S1
open Go.RowKit Pk Go.Shelf Go.Sort Go.Maps
def numsOf (ls:List (Nat × Nat)) (b:Nat):List Nat:=(ls.filter (fun x=>x.1==b)).map (·.2)
theorem qgM (ls:List (Nat × Nat)) (x:Nat × Nat) (c:Nat):numsOf (ls++[x]) c=if c=x.1 then numsOf ls x.1++[x.2] else numsOf ls c:=by
 unfold numsOf;rw [List.filter_append,List.map_append];by_cases h:c=x.1
 ·subst h;simp
 have:(x.1==c)=false:=by simpa using fun e=>h e.symm
 simp [this,h]
theorem qjX (ls:List (Nat × Nat)) {i:Nat} (h:i<ls.length):(lbs ls)[i*2]? = some (.int .i64 (ls[i].1:Nat))∧(lbs ls)[i*2+1]? = some (.int .u32 (ls[i].2:Nat)):=by
 induction ls generalizing i with
 | nil=>simp at h
 | cons x l ih =>
   have e:lbs (x :: l)=.int .i64 (x.1:Nat) :: .int .u32 (x.2:Nat) :: lbs l:=by simp [lbs]
   rw [e];cases i with
   | zero=>exact ⟨rfl,rfl⟩
   | succ i =>
     have:=ih (i:=i) (by simpa using h)
     rw [show (i+1)*2=i*2+1+1 by omega];simpa using this
theorem qfe (ls:List (Nat × Nat)) (b:Nat):(numsOf ls b).length≤ls.length:=by
 unfold numsOf;rw [List.length_map];exact List.length_filter_le _ _
def lbOf (b:Nat) (ys:List Nat):List (Nat × Nat):=ys.map (fun y=>(b,y))
def TurnP (w:World) (ls:List (Nat × Nat)) (e:Ending) (w':World):Prop:=∃ (v:Value) (ks:List Nat) (rs:Nat→List Nat),e=.returned v∧Asc ks∧ks.Nodup∧(∀ b,b∈ks↔numsOf ls b≠[]) ∧
 (∀ b∈ks,∃ ys,ys.Perm (numsOf ls b)∧Asc ys∧rs b=ys.drop (firstG ys)++ys.take (firstG ys))∧w'.ownsRow w.heap.size 90 2 v (ks.flatMap (fun b=>lbOf b (rs b))).length (lbs (ks.flatMap (fun b=>lbOf b (rs b))))∧Below w.heap.size w w'
def LkP (W:World) (z g n b:Nat) (N:Nat→List Nat) (v:Value):Prop:=W.ownsRow z 88 1 v (N b).length ((N b).map encU)∧∀ (w1:World) (g' cap x:Nat),W.grownBy w1 v.ownBlock→w1.ownsRow z 88 1 (.slice (some ⟨g',0,none⟩) ((N b).length+1) cap) ((N b).length+1) ((N b).map encU++[.int .u32 (x:Nat)])→(∀ y∈N b,y≤4294967295)→x≤4294967295→(N b).length≤n→(v.ownBlock=some g'∨g'=W.heap.size) →
 ∃ w2,(Instr.mapUpdate 200 (.map (some g)) (.int .i64 (b:Int)) (.slice (some ⟨g',0,none⟩) ((N b).length+1) cap)).run Tryz.prog w1=.ok () w2∧NAt w2 z g (n+1) (fun c=>if c=b then N b++[x] else N c)∧w1.grownBy w2 (some g)
theorem qno {w W:World} {z g n b:Nat} {N:Nat→List Nat} {v:Value} (hrow:w.ownsRow z 88 1 v (N b).length ((N b).map encU)) (hb:NBack w z g n b N v) (hg:w.grownBy W none):LkP W z g n b N v:=by
 have hgv:w.grownBy W v.ownBlock:=⟨hg.os,hg.tape,hg.output,hg.size,fun k hk _=>hg.block k hk (by simp)⟩;refine ⟨hrow.kept hg (by cases v.ownBlock<;>simp),fun w1 g' cap x h1 h2 h3 h4 h5 h6 => ?_⟩;refine hb w1 _ (N b++[x]) (hgv.trans h1) (by simpa [encU] using h2) (by simp) (fun y hy => ?_) (by simp;omega) ?_
 ·rcases List.mem_append.1 hy with h | h
  ·exact h3 y h
  simp at h;omega
 rcases h6 with h | h
 ·exact Or.inl h.symm
 exact Or.inr ⟨g',rfl,by have:=hg.size;omega⟩
theorem qol (w:World) (g0 cap:Nat) (cur:Array Value) (ls:List (Nat × Nat)) (hg0:w.heap[g0]? = some (.cells cur 90 (0,0))) (hcur:cur.toList.take (ls.length*2)=lbs ls) (hne:ls≠[]) (hbig:ls.length≤100000) (hok:∀ x∈ls,x.1≤1000000∧x.2≤4294967295) :
 Calls Tryz.prog 84 #[.slice (some ⟨g0,0,none⟩) ls.length cap] w fun e w'=>TurnP w ls e w':=by
 obtain ⟨i0,hi,hz0,hz1,hz2⟩:=info_parts Tryz.info88;obtain ⟨j0,hj,hy0,hy1,hy2⟩:=info_parts Tryz.info90;have hgl:=lt_of_heap hg0;obtain ⟨z0,hz⟩:∃ z0,z0=w.heap.size:=⟨_,rfl⟩;obtain ⟨W1,hW1⟩:∃ W1,W1=w.alloc (.map #[] 0):=⟨_,rfl⟩;have s1:W1.heap.size=z0+1:=by rw [hW1,hz];simp
 have b1:Below z0 w W1:=by rw [hW1,hz];exact (Below.refl _ w).alloc (Nat.le_refl _) _
 have hmk:=qn4 w;rw [←hW1,←hz] at hmk;have HN1:Hid (NAt W1 (z0+1) z0 0 (fun _=>[])):=hidI (by rw [hW1,hz];exact NAt.made w);obtain ⟨nl,hnl⟩:∃ nl,nl=ls.length:=⟨_,rfl⟩;have hnlb:nl≤100000:=by omega
 have HCur:Hid (∀ W,Below z0 w W→∀ i,(h:i<ls.length)→W.cell? ⟨g0,i*2,none⟩=some (.int .i64 (ls[i].1:Nat))∧W.cell? ⟨g0,i*2+1,none⟩=some (.int .u32 (ls[i].2:Nat))):=hidI (fun W hb i h=>by
  have hr:=(hb.block g0 (by omega)).trans hg0;have e:∀ k,k<ls.length*2→cur[k]? = (lbs ls)[k]? := fun k hk=>by
   rw [←hcur,List.getElem?_take_of_lt hk,Array.getElem?_toList]
  rw [cell_of_row W g0 _ _ 90 (0,0) hr,cell_of_row W g0 _ _ 90 (0,0) hr,e _ (by omega),e _ (by omega)];exact qjX ls h)
 have HW1:=hidI hW1;have Hz:=hidI hz;have Hs1:=hidI s1;have HB1:=hidI b1;have Hnl:=hidI hnl;have Hok:=hidI hok;rw [←hnl];clear hg0 hW1 hz s1 b1 hnl hcur hbig hok;go_enter Tryz.func84,Tryz.ntmps84
 go_wp2_with (first | (rw [←HW1.out,←Hz.out]) | fail)
 go_loopg [14] nl (fun k s14 wr=>∃ (i n:Nat),s14=.int .i64 (i:Nat)∧i≤nl∧nl - i≤k∧n≤i∧Hid (NAt wr (z0+1) z0 n (numsOf (ls.take i)))∧Hid (Below z0 w wr)∧z0+1≤wr.heap.size)
 case atStart=>exact ⟨0,0,rfl,by omega,by omega,by omega,HN1,HB1,by have:=Hs1.out;omega⟩
 case round =>
  clear hmk;obtain ⟨i,n,rfl,hil,hk,hni,HN,HB,hsz⟩:=hrel;by_cases hlt:i<nl
  ·have hlt':((i:Nat):Int)<(nl:Nat):=by omega
   have hil':i<ls.length:=by have:=Hnl.out;omega
   obtain ⟨b,hbe⟩:∃ b,b=(ls[i]).1:=⟨_,rfl⟩;obtain ⟨r,hre⟩:∃ r,r=(ls[i]).2:=⟨_,rfl⟩;have hb:b≤1000000:=by rw [hbe];exact (Hok.out _ (List.getElem_mem hil')).1
   have hr:r≤4294967295:=by rw [hre];exact (Hok.out _ (List.getElem_mem hil')).2
   obtain ⟨c0,c1⟩:=HCur.out wr HB.out i hil';rw [←hbe] at c0;rw [←hre] at c1;have HT:Hid (ls.take (i+1)=ls.take i++[(b,r)]):=hidI (by rw [List.take_add_one,List.getElem?_eq_getElem hil',hbe,hre];rfl);clear hbe hre;obtain ⟨q,hq⟩:∃ q,q=wr.heap.size:=⟨_,rfl⟩;obtain ⟨W2,hW2⟩:∃ W2,W2=wr.alloc (.cells #[.int .i64 (b:Nat),.int .u32 (r:Nat)] 90):=⟨_,rfl⟩;have s2:W2.heap.size=q+1:=by rw [hW2,hq];simp
   have b2:Below z0 w W2:=by rw [hW2];exact HB.out.alloc (by omega) _
   have gw2:wr.grownBy W2 none:=by rw [hW2];exact World.grownBy_alloc wr _ none
   have hr2:W2.heap[q]? = some (.cells #[.int .i64 (b:Nat),.int .u32 (r:Nat)] 90 (0,0)):=by rw [hW2,hq];exact heap_alloc_new _ _
   have k0:W2.drew.cell? ⟨q,0,none⟩=some (.int .i64 (b:Nat)):=by rw [World.cell?_of_block (w:=W2) (w':=W2.drew) rfl,cell_of_row W2 q 0 _ 90 (0,0) hr2];rfl
   have k1:W2.drew.cell? ⟨q,1,none⟩=some (.int .u32 (r:Nat)):=by rw [World.cell?_of_block (w:=W2) (w':=W2.drew) rfl,cell_of_row W2 q 1 _ 90 (0,0) hr2];rfl
   have HN2:Hid (NAt W2.drew (z0+1) z0 n (numsOf (ls.take i))):=hidI (HN.out.below (B:=wr.heap.size) (by rw [hW2];exact ((Below.refl _ wr).alloc (Nat.le_refl _) _).drew) (Nat.le_refl _));obtain ⟨W3,hW3⟩:∃ W3,W3=(W2.alloc (.cells #[.int .u32 (r:Nat)] 88)).drew:=⟨_,rfl⟩;have s3:W3.heap.size=q+2:=by rw [hW3];show (W2.alloc _).heap.size=_;simp [s2]
   have b3:Below z0 w W3:=by rw [hW3];exact (b2.alloc (by omega) _).drew
   have hr3:W3.heap[q+1]? = some (.cells #[.int .u32 (r:Nat)] 88 (0,0)):=by rw [hW3,←s2];exact heap_alloc_new _ _
   have up3:∀ k,k<q+1→W3.heap[k]? = W2.heap[k]? := fun k hk=>by rw [hW3];exact Below.heap_alloc W2 _ k (by omega)
   have g23:W2.drew.grownBy W3 none:=by rw [hW3];exact ⟨rfl,rfl,rfl,by simp,fun k hk _=>Below.heap_alloc W2 _ k (by simpa using hk)⟩
   have m0:W3.cell? ⟨q,0,none⟩=some (.int .i64 (b:Nat)):=by rw [cell_of_row W3 q 0 _ 90 (0,0) ((up3 _ (by omega)).trans hr2)];rfl
   have m1:W3.cell? ⟨q,1,none⟩=some (.int .u32 (r:Nat)):=by rw [cell_of_row W3 q 1 _ 90 (0,0) ((up3 _ (by omega)).trans hr2)];rfl
   have HN3:Hid (NAt W3 (z0+1) z0 n (numsOf (ls.take i))):=hidI (HN2.out.below (B:=W2.drew.heap.size) ⟨g23.os,g23.tape,g23.output,g23.size,fun k hk=>g23.block k hk (by simp)⟩ (Nat.le_refl _));have Hr2q:Hid (W3.heap[q]? = some (.cells #[.int .i64 (b:Nat),.int .u32 (r:Nat)] 90 (0,0))):=hidI ((up3 _ (by omega)).trans hr2);have HW2:=hidI hW2;have HW3:=hidI hW3;have Hs2:=hidI s2;have Hs3:=hidI s3;have HB3:=hidI b3;have Hr3:=hidI hr3;have Hg23:=hidI g23;have Hqs:=hidI hq;have Hnr:Hid (∀ y∈numsOf (ls.take i) b,y≤4294967295):=hidI (fun y hy=>by
    unfold numsOf at hy;obtain ⟨x,hx,rfl⟩:=List.mem_map.1 hy;exact (Hok.out x (List.mem_of_mem_take (List.mem_filter.1 hx).1)).2)
   have hzq:z0+1≤q:=by omega
   clear hW2 hW3 s2 s3 b2 b3 hr2 hr3 up3 g23 gw2 hq;go_wp2_with (first | (rw [←HW2.out,←Hqs.out]) | fail);refine wp_region_held_drew (S:=fun V=>V.cell? ⟨q,0,none⟩=some (.int .i64 (b:Nat))∧V.cell? ⟨q,1,none⟩=some (.int .u32 (r:Nat))) (by kernel_rfl) ⟨k0,k1⟩ (fun hHeld => ?_);refine tk 0 ⟨some 18,.move (.tmp 3),_,_,_,none⟩ (.map (some z0)) rfl (fun w h=>by go_simp) hHeld ?_;simp only [zP,List.set];refine tk 1 ⟨some 19,.fieldAddr 90 (.tmp 5) 0,_,_,_,none⟩ (.pointer (some ⟨q,0,none⟩)) rfl (fun w h=>by go_simp) hHeld ?_;simp only [zP,List.set];refine tk 2 ⟨some 20,.load 3 (.tmp 19),_,_,_,none⟩ (.int .i64 (b:Nat)) rfl (fun w h=>by go_simp) hHeld ?_;simp only [zP,List.set]
   refine tk 3 ⟨some 21,.move (.tmp 3),_,_,_,none⟩ (.map (some z0)) rfl (fun w h=>by go_simp) hHeld ?_;simp only [zP,List.set];refine tk 4 ⟨some 22,.fieldAddr 90 (.tmp 5) 0,_,_,_,none⟩ (.pointer (some ⟨q,0,none⟩)) rfl (fun w h=>by go_simp) hHeld ?_;simp only [zP,List.set];refine tk 5 ⟨some 23,.load 3 (.tmp 22),_,_,_,none⟩ (.int .i64 (b:Nat)) rfl (fun w h=>by go_simp) hHeld ?_;simp only [zP,List.set];refine tk 7 ⟨some 25,.fieldAddr 90 (.tmp 5) 1,_,_,_,none⟩ (.pointer (some ⟨q,1,none⟩)) rfl (fun w h=>by go_simp) hHeld ?_;simp only [zP,List.set]
   refine tk 8 ⟨some 26,.load 88 (.tmp 25),_,_,_,none⟩ (.int .u32 (r:Nat)) rfl (fun w h=>by go_simp) hHeld ?_;simp only [zP,List.set];refine wpAnyH_ready (rs:=[6,9]) (by kernel_rfl) (by simp) ?_;refine AllReadyH.cons rfl (fun K hK => ?_) (AllReadyH.cons rfl (fun K hK => ?_) AllReadyH.nil)
   case' refine_1 =>
    obtain ⟨v,hlk,hrow,hle,hback⟩:=HN2.out.look hb (by omega);have HL:Hid (LkP W3 (z0+1) z0 n b (numsOf (ls.take i)) v):=hidI (qno hrow hback Hg23.out);go_simp;refine hK.out _ _ ⟨k0,k1⟩ (fun hHeld => ?_);clear hK K hlk hback hrow;refine rd 9 rfl (fun K hK => ?_);go_simp;refine hK.out _ _ (by rw [←HW3.out];exact ⟨m0,m1⟩) (fun hHeld => ?_);rw [←HW3.out] at hHeld ⊢;simp only [Hs2.out];clear hK K
   case' refine_2 =>
    obtain ⟨v,hlk,hrow,hle,hback⟩:=HN3.out.look hb (by omega);have HL:Hid (LkP W3 (z0+1) z0 n b (numsOf (ls.take i)) v):=hidI (qno hrow hback ⟨rfl,rfl,rfl,Nat.le_refl _,fun _ _ _=>rfl⟩);go_simp;refine hK.out _ _ (by rw [←HW3.out];exact ⟨m0,m1⟩) (fun hHeld => ?_);rw [←HW3.out] at hHeld ⊢;simp only [Hs2.out];clear hK K;refine rd 6 rfl (fun K hK => ?_);go_simp;refine hK.out _ _ ⟨m0,m1⟩ (fun hHeld => ?_);clear hK K hlk hback hrow
   all_goals
    refine rd 10 rfl (fun K hK => ?_);refine step_append_lies _ rfl _ _ 201 rfl (z0+1) 88 i0 (.int .u32 0) 1 4 Tryz.underlying201 hi hz0 hz1 hz2 rfl (by decide) v _ _ rfl HL.out.1 ⟨q+1,0,none⟩ 1 1 [.int .u32 (r:Nat)] rfl rfl ?q1 ?q2 (by omega) (by unfold maxLen;omega) (by omega) (by rw [Hs3.out];omega) _ rfl ?_
    case q1=>exact World.news_of_block (cs:=#[.int .u32 (r:Nat)]) Hr3.out
    case q2=>simp [Value.oneCell']
    intro g4 cap4 w4 hown4 hg4 hat4 hlt4;obtain ⟨w5,hu,o5,hg5⟩:=HL.out.2 w4 g4 cap4 r hg4 hown4 Hnr.out hr hle (hat4.imp id (fun h=>h));have hvz:∀ k,v.ownBlock=some k→z0+1≤k∧k≠q:=fun k e=>⟨(HL.out.1.lt k e).1,fun e'=>by
     rcases HL.out.1.2 with ⟨e2,_⟩ | ⟨g',cap',cur',e2,_,e3,_⟩
     ·rw [e2] at e;cases e
     rw [e2] at e;cases e;dsimp only at e';rw [e',Hr2q.out] at e3;cases e3⟩
    have up4:w4.heap[q]? = W3.heap[q]? := hg4.block q (by rw [Hs3.out];omega) (fun e=>(hvz q e.symm).2 rfl);have n0:w4.cell? ⟨q,0,none⟩=some (.int .i64 (b:Nat)):=(World.cell?_of_block up4).trans m0;have n1:w4.cell? ⟨q,1,none⟩=some (.int .u32 (r:Nat)):=(World.cell?_of_block up4).trans m1;refine hK.out _ _ ⟨n0,n1⟩ (fun hHeld => ?_);clear hK K;simp only [Act.put];refine rd 11 rfl (fun K hK => ?_);go_simp;have s4:=hg4.size;have s4':q+2≤w4.heap.size:=by rw [Hs3.out] at s4;exact s4
    have p0:w5.cell? ⟨q,0,none⟩=some (.int .i64 (b:Nat)):=(World.cell?_of_block (hg5.block q (by omega) (fun e=>by simp at e;omega))).trans n0;have p1:w5.cell? ⟨q,1,none⟩=some (.int .u32 (r:Nat)):=(World.cell?_of_block (hg5.block q (by omega) (fun e=>by simp at e;omega))).trans n1;have HB5:Hid (Below z0 w w5):=hidI ((HB3.out.grown hg4 (by rw [Hs3.out];omega) (fun k e=>by have:=(hvz k e).1;omega)).grown hg5 (by omega) (fun k e=>by cases e;exact Nat.le_refl _));have HN5:Hid (NAt w5 (z0+1) z0 (n+1) (numsOf (ls.take (i+1)))):=hidI (by
     rw [HT.out];have e:numsOf (ls.take i++[(b,r)])=fun c=>if c=b then numsOf (ls.take i) b++[r] else numsOf (ls.take i) c:=by funext c;exact qgM _ _ c
     rw [e];exact o5)
    have hz5:z0+1≤w5.heap.size:=by have:=hg5.size;omega
    refine hK.out _ _ ⟨p0,p1⟩ (fun hHeld => ?_);clear hK K hHeld;refine wpAnyH_done (by kernel_rfl) ?_ _;go_wp2_with fail;go_roundg (nl - (i+1))
    case measure=>omega
    case rel=>exact ⟨i+1,n+1,by go_num,by omega,by omega,by omega,HN5,HB5,hz5⟩
  have hlt':¬((i:Nat):Int)<(nl:Nat):=by omega
  have HNN:Hid (NAt wr (z0+1) z0 n (numsOf ls)):=hidI (by have:=HN.out;rw [List.take_of_length_le (by have:=Hnl.out;omega)] at this;exact this);clear HN HN1;go_wp2_with fail;refine (qjU (some z0) wr).mono ?_;rintro e w6 ⟨rfl,hw6⟩;have hs6:w6.heap.size=wr.heap.size+1:=by rw [hw6];simp
  have hb6:Below wr.heap.size wr w6:=by rw [hw6];exact (Below.refl _ _).alloc (Nat.le_refl _) _
  have hc6:w6.cell? ⟨wr.heap.size,0,none⟩=some (.map (some z0)):=by rw [hw6];simp
  have HN6:Hid (NAt w6 (z0+1) z0 n (numsOf ls)):=hidI (HNN.out.below hb6 (Nat.le_refl _));have hNb:∀ b,numsOf ls b≠[]→b≤1000000:=fun b h=>by
   obtain ⟨x,hx⟩:=List.exists_mem_of_ne_nil _ h;unfold numsOf at hx;obtain ⟨y,hy,rfl⟩:=List.mem_map.1 hx
   have:=List.mem_filter.1 hy
   have e:y.1=b:=by simpa using this.2
   rw [←e];exact (Hok.out y this.1).1
  have B6:=hidI (HN6.out.keys (Bm:=wr.heap.size) hNb (by omega) (by omega) hc6);have HB6:Hid (Below z0 w w6):=hidI (HB.out.trans (hb6.mono (by omega)));obtain ⟨z5,hz5e⟩:∃ z5,z5=wr.heap.size:=⟨_,rfl⟩;rw [←hz5e] at B6;simp only [←hz5e];have HNb:=hidI hNb;have Hs6:Hid (z0+1≤w6.heap.size):=hidI (by omega);clear hb6 hc6 hw6 hs6 hz5e hNb;go_wp2_with fail;refine B6.out.mono ?_;rintro e w7 ⟨v7,ks,rfl,hasc,hnd,hmem,hkl,hrow7,hb7⟩;have hks:ks≠[]:=fun e=>by
   obtain ⟨x,hx⟩:=List.exists_mem_of_ne_nil _ hne
   have:x.1∈ks:=(hmem x.1).2 (fun e=>by
    have:x.2∈numsOf ls x.1:=List.mem_map.2 ⟨x,List.mem_filter.2 ⟨hx,by simp⟩,rfl⟩
    rw [e] at this;cases this)
   rw [e] at this;cases this
  rcases hrow7.2 with ⟨_,h0⟩ | ⟨g7,cap7,cur7,rfl,q1,q2,q3,q4,q5,q6⟩
  ·exact absurd (List.length_eq_zero_iff.1 h0) hks
  rw [Nat.mul_one] at q6;obtain ⟨nk,hnk⟩:∃ nk,nk=ks.length:=⟨_,rfl⟩;obtain ⟨z7,hz7⟩:∃ z7,z7=w7.heap.size:=⟨_,rfl⟩;have hg7:g7<z7:=by rw [hz7];exact lt_of_heap q2
  have HB7:Hid (Below z0 w w7):=hidI (HB6.out.trans (hb7.mono (by have:=Hs6.out;omega)));have HN7:Hid (NAt w7 (z0+1) z0 n (numsOf ls)):=hidI (HN6.out.below hb7 (Nat.le_refl _));have hz07:z0+1≤z7:=by have:=Hs6.out;have:=hb7.size;omega
  have HK7:Hid (∀ W,Below z7 w7 W→∀ j,(h:j<ks.length)→W.cell? ⟨g7,j,none⟩=some (.int .i64 (ks[j]:Nat))):=hidI (fun W hb j h=>by
   rw [cell_of_row W g7 j _ 3 (0,0) ((hb.block g7 hg7).trans q2),←Array.getElem?_toList]
   have:(cur7.toList.take ks.length)[j]? = (ks.map (fun k:Nat=>Value.int .i64 (k:Int)))[j]? := by rw [q6]
   rw [List.getElem?_take_of_lt h] at this;rw [this];simp [h])
  have hnkb:nk≤100000:=by omega
  have Hnd:=hidI hnd;have Hmem:=hidI hmem;have Hnk:=hidI hnk;have Hz7:=hidI hz7;have Hasc:=hidI hasc;rw [←hnk];clear hrow7 hb7 q1 q2 q3 q4 q5 q6 B6 hnd hmem hnk hz7 hasc hks HN6 HB6 HNN HB;go_wp2_with fail
  go_loopg [6,34] nk (fun k s6 s34 wx=>∃ (j:Nat) (rs:Nat→List Nat) (v:Value),v=s6∧s34=.int .i64 (j:Nat)∧j≤nk∧nk - j≤k∧Hid (∀ b∈ks.take j,∃ ys,ys.Perm (numsOf ls b)∧Asc ys∧rs b=ys.drop (firstG ys)++ys.take (firstG ys)) ∧
   Hid (wx.ownsRow z7 90 2 v ((ks.take j).flatMap (fun b=>lbOf b (rs b))).length (lbs ((ks.take j).flatMap (fun b=>lbOf b (rs b)))))∧Hid (Below z7 w7 wx)∧((ks.take j).flatMap (fun b=>lbOf b (rs b))).length≤j*100000)
  case atStart=>exact ⟨0,fun _=>[],_,rfl,rfl,by omega,by omega,hidI (by simp),hidI (by simpa [lbs] using World.ownsRow_nil w7 z7 90 2),hidI (Below.refl _ _),by simp⟩
  obtain ⟨j,rs,v6,rfl,rfl,hjl,hk,HR,HO,HBx,hol⟩:=hrel;by_cases hlt2:j<nk
  ·have hlt2':((j:Nat):Int)<(nk:Nat):=by omega
   have hjk:j<ks.length:=by have:=Hnk.out;omega
   obtain ⟨b,hbe⟩:∃ b,b=ks[j]:=⟨_,rfl⟩;have ck:=HK7.out wr HBx.out j hjk;rw [←hbe] at ck;have hbk:b∈ks:=by rw [hbe];exact List.getElem_mem hjk
   have hNne:=(Hmem.out b).1 hbk;have hb:b≤1000000:=HNb.out b hNne;have hbn:b∉ks.take j:=fun h=>by
    rw [List.mem_take_iff_getElem] at h;obtain ⟨i',hi',e⟩:=h;exact List.pairwise_iff_getElem.1 Hnd.out i' j (by omega) hjk (by omega) (e.trans hbe)
   have HT2:Hid (ks.take (j+1)=ks.take j++[b]):=hidI (by rw [List.take_add_one,List.getElem?_eq_getElem hjk,hbe];rfl);have HNx:=HN7.out.below HBx.out (by rw [Hz7.out];exact Nat.le_refl _);obtain ⟨vb,hlk,hrow,hle,-⟩:=HNx.look hb (by omega);rcases hrow.2 with ⟨_,h0⟩ | ⟨g4,cap4,cur4,rfl,p1,p2,p3,p4,p5,p6⟩
   ·exact absurd (List.length_eq_zero_iff.1 h0) hNne
   rw [Nat.mul_one] at p6;have hmb:(numsOf ls b).length≤100000:=by have:=qfe ls b;have:=Hnl.out;omega
   have A7:=hidI (roundU wr g4 cap4 cur4 (numsOf ls b) p2 p6 hNne hmb (fun y hy=>by
    unfold numsOf at hy;obtain ⟨x,hx,rfl⟩:=List.mem_map.1 hy;exact (Hok.out x (List.mem_filter.1 hx).1).2))
   obtain ⟨m,hm⟩:∃ m,m=(numsOf ls b).length:=⟨_,rfl⟩;rw [←hm] at hlk A7;have Hm:Hid (m=(numsOf ls b).length∧m≤100000∧0<m):=hidI ⟨hm,by omega,by rw [hm];exact List.length_pos_iff.2 hNne⟩;have hz7x:z7≤wr.heap.size:=by rw [Hz7.out];exact HBx.out.size
   obtain ⟨ord,hord⟩:∃ ord,ord=(ks.take j).flatMap (fun b=>lbOf b (rs b)):=⟨_,rfl⟩;rw [←hord] at HO hol;have Hord:=hidI hord;clear hrow p1 p2 p3 p4 p5 p6 hm hbe hle hmb hord HNx hNne;go_wp2_with fail;refine A7.out.mono ?_;rintro e w8 ⟨v8,ys,rfl,hperm,hasc8,hrow8,hb8⟩;obtain ⟨rot,hrot⟩:∃ rot,rot=ys.drop (firstG ys)++ys.take (firstG ys):=⟨_,rfl⟩;rw [←hrot] at hrow8;have hrl:rot.length=ys.length:=by rw [hrot];simp;omega
   have hyl:ys.length=m:=by rw [hperm.length_eq,Hm.out.1]
   have hm1:=Hm.out.2;rcases hrow8.2 with ⟨_,h0⟩ | ⟨g8,cap8,cur8,rfl,q1,q2,q3,q4,q5,q6⟩
   ·omega
   rw [Nat.mul_one] at q6;have HK8:Hid (∀ W:World,W.heap[g8]? = some (.cells cur8 88 (0,0))→∀ t,t<m→W.cell? ⟨g8,t,none⟩=some (.int .u32 (rot[t]! : Nat))):=hidI (fun W hb t h=>by
    rw [cell_of_row W g8 t _ 88 (0,0) hb,←Array.getElem?_toList]
    have:(cur8.toList.take ys.length)[t]? = (rot.map encU)[t]? := by rw [q6]
    rw [List.getElem?_take_of_lt (by omega)] at this;rw [this,getElem!_pos rot t (by omega)];simp [show t<rot.length by omega,encU])
   have HB8:Hid (Below z7 w7 w8):=hidI (HBx.out.trans (hb8.mono hz7x));have HO8:Hid (w8.ownsRow z7 90 2 v6 (ord++lbOf b (rot.take 0)).length (lbs (ord++lbOf b (rot.take 0)))):=hidI (by
    have:=HO.out.kept (below_grown hb8 (Nat.le_refl _)) (by cases v6.ownBlock<;>simp)
    simpa [lbOf] using this)
   have HG8:=hidI q2;have HY:Hid (∃ ys,ys.Perm (numsOf ls b)∧Asc ys∧rot=ys.drop (firstG ys)++ys.take (firstG ys)):=hidI ⟨ys,hperm,hasc8,hrot⟩;rw [hyl] at hrl ⊢;have Hrl:=hidI hrl;clear hrow8 hb8 q1 q2 q3 q4 q5 q6 hlk ck A7 hperm hasc8 hrot hrl HO;go_wp2_with fail
   go_loopg [6,43] m (fun k s6 s43 wx=>∃ (t:Nat) (v:Value),v=s6∧s43=.int .i64 (t:Nat)∧t≤m∧m - t≤k∧Hid (wx.ownsRow z7 90 2 v (ord++lbOf b (rot.take t)).length (lbs (ord++lbOf b (rot.take t))))∧Hid (Below z7 w7 wx)∧Hid (wx.heap[g8]? = some (.cells cur8 88 (0,0))))
   case atStart=>exact ⟨0,v6,rfl,rfl,by omega,by omega,HO8,HB8,HG8⟩
   clear HO8 HB8 HG8;obtain ⟨t,v,rfl,rfl,htm,hkt,HOt,HBt,HGt⟩:=hrel;by_cases hlt3:t<m
   ·have hlt3':((t:Nat):Int)<(m:Nat):=by omega
    have ct:=HK8.out wr HGt.out t hlt3;obtain ⟨y,hy⟩:∃ y,y=rot[t]! := ⟨_,rfl⟩;rw [←hy] at ct;have HT3:Hid (ord++lbOf b (rot.take (t+1))=(ord++lbOf b (rot.take t))++[(b,y)]):=hidI (by
     have:=Hrl.out
     have h:t<rot.length:=by omega
     have e:rot.take (t+1)=rot.take t++[y]:=by rw [List.take_add_one,List.getElem?_eq_getElem h,hy,getElem!_pos rot t h];rfl
     rw [e];simp [lbOf])
    obtain ⟨ot,hot⟩:∃ ot,ot=ord++lbOf b (rot.take t):=⟨_,rfl⟩;rw [←hot] at HOt HT3;have hotl:ot.length≤100000*100000+100000:=by
     have:(lbOf b (rot.take t)).length≤t:=by simp [lbOf];omega
     have h2:j*100000≤100000*100000:=Nat.mul_le_mul_right _ (by omega);rw [hot,List.length_append];omega
    have hz7t:z7≤wr.heap.size:=by rw [Hz7.out];exact HBt.out.size
    clear hy hot;go_wp2_with (at_builtin;refine wpList_append_own _ rfl _ _ 144 rfl z7 90 j0 (.agg #[.int .i64 0,.int .u32 0]) 2 16 Tryz.underlying144 hj hy0 hy1 hy2 rfl (by decide) _ _ _ rfl (HOt.out.alloc _) ⟨wr.heap.size,0,none⟩ 1 1 [.int .i64 (b:Nat),.int .u32 (y:Nat)] rfl rfl ?q1 ?q2 ?q3 ?q4 ?q5 ?_)
    case q1=>exact World.news_of_block (cs:=#[.int .i64 (b:Nat),.int .u32 (y:Nat)]) (heap_alloc_new _ _)
    case q2=>simp [Value.oneCell']
    case q3=>unfold maxLen;omega
    case q4=>omega
    case q5=>simp;omega
    intro v9 w9 hown9 hg9 hnil9;have HB9:Hid (Below z7 w7 w9):=hidI ((HBt.out.alloc hz7t _).grown hg9 (by simp;omega) (fun k e=>(HOt.out.lt k e).1));have HO9:Hid (w9.ownsRow z7 90 2 v9 (ot++[(b,y)]).length (lbs (ot++[(b,y)]))):=hidI (by rw [qhr];simpa using hown9);have HG9:Hid (w9.heap[g8]? = some (.cells cur8 88 (0,0))):=hidI (by
     have h8:=lt_of_heap HGt.out;refine (hg9.block g8 (by simp;omega) (fun e => ?_)).trans ((Below.heap_alloc wr _ g8 h8).trans HGt.out);rcases HOt.out.2 with ⟨e2,_⟩ | ⟨g',cap',cur',e2,_,e3,_⟩
     ·rw [e2] at e;cases e
     rw [e2] at e;cases e;rw [HGt.out] at e3;cases e3)
    rw [←HT3.out] at HO9;clear hown9 hg9 hnil9;go_wp2_with fail;go_roundg (m - (t+1))
    case measure=>omega
    case rel=>exact ⟨t+1,v9,rfl,by go_num,by omega,by omega,HO9,HB9,HG9⟩
   have hlt3':¬((t:Nat):Int)<(m:Nat):=by omega
   have HOe:Hid (wr.ownsRow z7 90 2 v (ord++lbOf b rot).length (lbs (ord++lbOf b rot))):=hidI (by
    have:=HOt.out
    rw [List.take_of_length_le (by have:=Hrl.out;omega)] at this;exact this)
   go_wp2_with fail;go_roundg (nk - (j+1))
   case measure=>omega
   have e:(ks.take (j+1)).flatMap (fun c=>lbOf c (if c=b then rot else rs c))=ord++lbOf b rot:=by
    rw [HT2.out,List.flatMap_append,Hord.out]
    congr 1
    ·rw [List.flatMap_def,List.flatMap_def]
     congr 1
     exact List.map_congr_left (fun c hc=>by rw [if_neg (fun e=>hbn (by rw [←e];exact hc))])
    simp
   refine ⟨j+1,fun c=>if c=b then rot else rs c,v,rfl,by go_num,by omega,by omega,hidI (fun c hc => ?_),hidI (by rw [e];exact HOe.out),HBt,?_⟩
   ·by_cases hcb:c=b
    ·subst hcb;dsimp only;rw [if_pos rfl];exact HY.out
    rw [HT2.out] at hc;dsimp only;rw [if_neg hcb];rcases List.mem_append.1 hc with h | h
    ·exact HR.out c h
    simp at h;exact absurd h hcb
   rw [e,List.length_append]
   have:(lbOf b rot).length=m:=by simp [lbOf,Hrl.out]
   have h2:(j+1)*100000=j*100000+100000:=by omega
   omega
  have hlt2':¬((j:Nat):Int)<(nk:Nat):=by omega
  have HE:Hid (ks.take j=ks):=hidI (List.take_of_length_le (by have:=Hnk.out;omega));rw [HE.out] at HR HO;go_wp2_with fail;go_ret
  unfold TurnP;rw [←Hz.out];refine ⟨v6,ks,rs,rfl,Hasc.out,Hnd.out,Hmem.out,HR.out,?_,HB7.out.trans (HBx.out.mono (by omega))⟩;exact ownsRow_base_a HO.out (by omega)
end S1
namespace S1
open Go.RowKit Pk Go.Shelf
def bw (ls:List (Nat × Nat)):List (Nat × (Nat × Nat)):=(List.range ls.length).map (fun k=>(ls.length - 1 - k,ls[ls.length - 1 - k]!))
theorem qb8 (ls:List (Nat × Nat)):(bw ls).length=ls.length:=by simp [bw]
theorem qnk (ls:List (Nat × Nat)) {k:Nat} (h:k<(bw ls).length):(bw ls)[k]=(ls.length - 1 - k,ls[ls.length - 1 - k]!):=by simp [bw]
theorem qnp (ls:List (Nat × Nat)):(bw ls).map (·.2)=ls.reverse:=by
 apply List.ext_getElem
 ·simp [bw]
 intro k h1 h2;simp [bw] at h1;rw [List.getElem_map,qnk,List.getElem_reverse];simp only;rw [getElem!_pos ls _ (by omega)]
theorem qlc (n:Nat) (hn:1≤n) (w:World) (B g cap:Nat) (ls:List (Nat × Nat)) (n₀:Nat) (S:Nat→Prop) (hB:B<n₀) (hg:g<n₀) (hSB:S B) (hSg:S g) (hlen:ls.length≤100000*100000) (hb:w.cell? ⟨B,0,none⟩=some (.slice (some ⟨g,0,none⟩) ls.length cap)) (cur:Array Value) (hrow:w.heap[g]? = some (.cells cur 90 (0,0))) (hc:cur.toList.take (ls.length*2)=lbs ls) :
 SeqRow Fence.wide n Tryz.prog 138 #[.pointer (some ⟨B,0,none⟩)] encIL (bw ls) n₀ S w:=by
 intro l J W hW hY h0;have hbW:W.cell? ⟨B,0,none⟩=some (.slice (some ⟨g,0,none⟩) ls.length cap):=by rw [hW.cell (p:=⟨B,0,none⟩) hB];exact hb
 have hrowW:W.heap[g]? = some (.cells cur 90 (0,0)):=(hW.block g hg).trans hrow;have HCur:Hid (∀ V:World,V.heap[g]? = some (.cells cur 90 (0,0))→∀ i,(h:i<ls.length)→V.cell? ⟨g,i*2,none⟩=some (.int .i64 (ls[i].1:Nat))∧V.cell? ⟨g,i*2+1,none⟩=some (.int .u32 (ls[i].2:Nat))):=hidI (fun V hr i h=>by
  have e:∀ k,k<ls.length*2→cur[k]? = (lbs ls)[k]? := fun k hk=>by
   rw [←hc,List.getElem?_take_of_lt hk,Array.getElem?_toList]
  rw [cell_of_row V g _ _ 90 (0,0) hr,cell_of_row V g _ _ 90 (0,0) hr,e _ (by omega),e _ (by omega)];exact qjX ls h)
 obtain ⟨m,hm⟩:∃ m,m=ls.length:=⟨_,rfl⟩;have Hm:=hidI hm;have hmb:m≤100000*100000:=by omega
 rw [←hm] at hbW;have HRW:=hidI hrowW;have HBW:Hid (∀ V:World,Keep S W V→V.cell? ⟨B,0,none⟩=some (.slice (some ⟨g,0,none⟩) m cap)):=hidI (fun V hV=>by rw [World.cell?_of_block (hV B hSB)];exact hbW);clear hb hrow hc hm hrowW;refine callsIn_of_wp Tryz.func138 rfl trivial ?_ rfl;simp only [Tryz.ntmps138,List.size_toArray,List.length_cons,List.length_nil,Nat.reduceAdd,Nat.reduceSub,Array.replicate_succ,Array.replicate_zero,List.push_toArray,List.append_toArray,List.nil_append,List.cons_append];gi_wp2
 gi_loopw [3] (fun i wr=>∃ p:Nat,p≤m∧i=.int .i64 ((p:Nat) - 1)∧J ((bw ls).take (m - p)) wr∧Hid (Keep S W wr)) (fun i _=>(intOf i+1).toNat)
 case atStart=>exact ⟨m,Nat.le_refl _,rfl,by simpa using h0,hidI (fun _ _=>rfl)⟩
 case round =>
  clear hbW;obtain ⟨p1,hp1,rfl,hJ,HK⟩:=hrel;by_cases hlt:0<p1
  ·obtain ⟨p,hp⟩:∃ p,p1=p+1:=⟨p1 - 1,by omega⟩;subst hp;have ep:(((p+1:Nat):Int) - 1)=(p:Nat):=by omega
   rw [ep];have hpl:p<ls.length:=by have:=Hm.out;omega
   obtain ⟨c0,c1⟩:=HCur.out wr ((HK.out g hSg).trans HRW.out) p hpl;obtain ⟨b,hb⟩:∃ b,b=(ls[p]).1:=⟨_,rfl⟩;obtain ⟨r,hr⟩:∃ r,r=(ls[p]).2:=⟨_,rfl⟩;have hcB:=HBW.out wr HK.out;have hkb:m - (p+1)<(bw ls).length:=by have:=Hm.out;rw [qb8];omega
   have hget:(bw ls)[m - (p+1)]=(p,(b,r)):=by
    have hm:=Hm.out;rw [qnk];have e:ls.length - 1 - (m - (p+1))=p:=by omega
    rw [e,getElem!_pos ls p hpl,hb,hr]
   obtain ⟨fn,tmps,assign,body,hyy,hR⟩:=hY ((bw ls).take (m - (p+1))) (p,(b,r)) wr hJ (by rw [←hget,List.take_append_getElem hkb];exact List.take_prefix _ _);unfold encIL at hyy;have HR:=hidI hR;have HT:Hid ((bw ls).take (m - p)=(bw ls).take (m - (p+1))++[(p,(b,r))]):=hidI (by
    rw [←hget,List.take_append_getElem hkb]
    congr 1
    omega)
   rw [←hb] at c0;rw [←hr] at c1;have i1:((p:Nat):Int)<(m:Nat):=by omega
   have i2:(0:Int)≤(p:Nat):=by omega
   clear hR hJ hget hb hr ep;gi_wp2_with gi_in;refine HR.out.mono ?_;rintro e W4 ⟨rfl,hJ4,hB4⟩;have HB4:=hidI (HK.out.trans hB4);have HJ4:=hidI hJ4;clear hJ4 hB4 HR hyy c0 c1 hcB;gi_wp2;go_roundw
   case rel=>exact ⟨p,by omega,rfl,by rw [HT.out];exact HJ4.out,HB4⟩
   case measure=>simp [intOf]
  have hp0:p1=0:=by omega
  subst hp0;have HJ:=hidI hJ;clear hJ;gi_wp2;go_end0
  exact ⟨⟨_,rfl⟩,by
   have:=HJ.out
   rw [Nat.sub_zero,List.take_of_length_le (by rw [qb8,←Hm.out];exact Nat.le_refl _)] at this;exact this⟩
end S1
namespace S1
open Go.RowKit Pk Go.Shelf
open Go.Nt (Fp lookF hasL hasL_iff FpOk qaq scanF recF txtF inF endF)
variable {w:World} {gm z n b r:Nat} {l:List Fp} {D:DataW Value} {S:Nat→Nat→Bool} {ib nb:Nat→Nat→Nat}
def psOf (l:List Fp) (b r:Nat):List Fp:=(recF l b r).getD []
structure WM (w:World) (z gm n:Nat) (l:List Fp) (D:DataW Value) (S:Nat→Nat→Bool) (ib nb:Nat→Nat→Nat):Prop where
 own:w.ownsMap Tryz.prog 90 anyOf gm n D
 has:∀ b r,b≤1000000→r≤4294967295→Maps.has D (lk b r)=S b r
 keys:∀ kl,Maps.has D kl=true→∃ b r,b≤1000000∧r≤4294967295∧kl=lk b r
 recs:∀ b r,S b r=true→b≤1000000∧r≤4294967295∧recF l b r=some (psOf l b r)∧(∀ zd,D.atKey (lk b r) zd=.held (rv (psOf l b r) b r (ib b r)))∧z≤ib b r∧nb b r≤100000∧BlAt w (ib b r) (nb b r) (inF (psOf l b r))
theorem WM.made (l:List Fp) (h:w.ownsMap Tryz.prog 90 anyOf gm 0 (.map [])):WM w z gm 0 l (.map []) (fun _ _=>false) (fun _ _=>0) (fun _ _=>0):=
 ⟨h,fun b r _ _=>rfl,fun kl h=>by simp [Maps.has] at h,fun b r h=>by cases h⟩
theorem WM.kept {w':World} (h:WM w z gm n l D S ib nb) (hk:∀ k,k=gm∨z≤k→k<w.heap.size→w'.heap[k]? = w.heap[k]?):WM w' z gm n l D S ib nb:=
 ⟨qbe h.own (hk gm (.inl rfl) h.own.lt),h.has,h.keys,fun b r hs=>by
  obtain ⟨h1,h2,h3,h4,h5,h6,h7⟩:=h.recs b r hs;exact ⟨h1,h2,h3,h4,h5,h6,h7.of_block (hk _ (.inr h5) h7.lt)⟩⟩
theorem WM.store (h:WM w z gm n l D S ib nb) {i k:Nat} (hb:b≤1000000) (hr:r≤4294967295) {ps:List Fp} (hps:recF l b r=some ps) (hi:z≤i) (hk:k≤100000) (hB:BlAt w i k (inF ps)) (hn:n≤1000000) (hz:gm<z) :
 ∃ w' D' ib' nb',(Instr.mapUpdate 137 (.map (some gm)) (lv b r) (rv ps b r i)).run Tryz.prog w=.ok () w'∧WM w' z gm (n+1) l D' (fun x y=>(x==b&&y==r)||S x y) ib' nb'∧w.mapTurned w' gm:=by
 obtain ⟨w',h1,h2,h3⟩:=h.own.store law90 Tryz.underlying137 (by unfold maxLen;omega) (key90 hb hr) (show anyOf (rv ps b r i)=some (.held (rv ps b r i),[]) from rfl);have hpo:psOf l b r=ps:=by unfold psOf;rw [hps];rfl
 have hM:=h.own.isMap;have hg:=h3.grown;have hbl:∀ q,z≤q→q<w.heap.size→w'.heap[q]? = w.heap[q]? := fun q hq hl=>hg.block q hl (fun e=>by cases e;omega)
 refine ⟨w',_,fun x y=>if x=b∧y=r then i else ib x y,fun x y=>if x=b∧y=r then k else nb x y,h1,⟨h2,fun x y hx hy => ?_,fun kl hkl => ?_,fun x y hs => ?_⟩,h3⟩
 ·by_cases e:x=b∧y=r
  ·obtain ⟨rfl,rfl⟩:=e;rw [Maps.has_put_same hM (k:=lk x y) (by unfold lk;trivial)];simp
  have hne:lk x y≠lk b r:=fun h'=>e (qd2 hx hy hb hr h')
  rw [Maps.has_put_other hne,h.has x y hx hy]
  have:(x==b&&y==r)=false:=by simpa using fun h1 h2=>e ⟨h1,h2⟩
  rw [this];simp
 ·by_cases e:kl=lk b r
  ·exact ⟨b,r,hb,hr,e⟩
  rw [Maps.has_put_other e] at hkl;exact h.keys kl hkl
 by_cases e:x=b∧y=r
 ·obtain ⟨rfl,rfl⟩:=e;simp only [and_self,if_true];refine ⟨hb,hr,by rw [hpo];exact hps,fun zd => ?_,hi,hk,?_⟩
  ·rw [Maps.atKey_put_same hM (k:=lk x y) (by unfold lk;trivial),hpo]
  rw [hpo];exact hB.of_block (hbl i hi hB.lt)
 have hs':S x y=true:=by
  have:(x==b&&y==r)=false:=by simpa using fun h1 h2=>e ⟨h1,h2⟩
  simpa [this] using hs
 obtain ⟨g1,g2,g3,g4,g5,g6,g7⟩:=h.recs x y hs';have hne:lk x y≠lk b r:=fun h'=>e (qd2 g1 g2 hb hr h')
 simp only [if_neg e];exact ⟨g1,g2,g3,fun zd=>by rw [Maps.atKey_put_other hne];exact g4 zd,g5,g6,g7.of_block (hbl _ g5 g7.lt)⟩
theorem WM.look (h:WM w z gm n l D S ib nb) (hs:S b r=true):(Instr.lookup 137 (.map (some gm)) (lv b r) false).run Tryz.prog w=.ok (rv (psOf l b r) b r (ib b r)) w:=by
 obtain ⟨g1,g2,g3,g4,g5,g6,g7⟩:=h.recs b r hs;obtain ⟨v',ps',h3,h4⟩:=h.own.lookup law90 Tryz.underlying137 (zero94 w) (show anyOf rec0=some (.held rec0,[]) from rfl) (key90 g1 g2);rw [g4] at h4;rw [qj8 h4] at h3;exact h3
end S1
end Go.Proofs.YtodmdkhdbfbfgaaGreatDoor
