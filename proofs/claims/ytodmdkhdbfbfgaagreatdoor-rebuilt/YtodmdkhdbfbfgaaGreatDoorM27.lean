/- Lemmas. -/
import Derived.Test.YtodmdkhdbfbfgaaGreatDoorM06
set_option linter.unusedVariables false
set_option linter.unusedSimpArgs false
set_option maxRecDepth 100000
set_option maxHeartbeats 8000000
namespace Go.Proofs.YtodmdkhdbfbfgaaGreatDoor.S1
open Go.RowKit Pk
theorem qne (w:World) (B g:Nat) (b:List UInt8) (pos n k:Nat) (hB:B≤w.heap.size) (hb:0<b.length) (hp:pos≤400000) (hk:k≤12) (hn:n<2^k) (h:BW w B g b pos) :
 Calls Tryz.prog 250 #[.pointer (some ⟨g,0,none⟩),.int .i64 (n:Nat),.int .i64 (k:Nat)] w fun e w'=>e=.returned (.tuple #[])∧∃ b',BW w' B g b' (pos+k)∧Ag b b' pos∧val b' pos k=n∧Below B w w'∧Keeps 282 w w':=by
 have Hn:=hidI hn;have Hh:=hidI h;have hn12:n<4096:=by
  have:=Nat.pow_le_pow_right (show 0<2 by omega) hk
  omega
 clear hn h;obtain ⟨i0,hi,hz0,hz1',hz2⟩:=info_parts Tryz.info5;go_enter Tryz.func250,Tryz.ntmps250
 go_wp2
 go_loopw [6] (fun i wr=>∃ j:Nat,j≤k∧i=.int .i64 ((k:Int) - 1 - (j:Int))∧∃ c,BW wr B g c (pos+j)∧Ag b c pos∧val c pos j=n/2^(k - j)∧Below B w wr∧Hid (Keeps 282 w wr)) (fun i _=>(intOf i+1).toNat)
 case atStart =>
  refine ⟨0,by omega,by go_num,b,Hh.out,Ag.refl _ _,?_,Below.refl _ _,Keeps.refl _ _⟩;rw [Nat.sub_zero,Nat.div_eq_of_lt Hn.out];rfl
 case round =>
  clear Hh;obtain ⟨j,hj,rfl,c,hc,hag,hv,hbel,Hkp⟩:=hrel;by_cases hlt:j<k
  ·obtain ⟨v,hst,hown⟩:=hc.st;have hwr:=hc.wr;have hg:=hc.hg;have hcl:0<c.length:=Nat.lt_of_lt_of_le hb hag.len;have Hwr:=hidI hwr;have Hv:=hidI hv;have Hag:=hidI hag;have hlo:=hwr.lo;have hhi:=hwr.hi;obtain ⟨r,cap,rfl,hr⟩:=qfW hown hcl;clear hc hwr hv hag;have hz1:decide (0≤(k:Int) - 1 - (j:Int))=true:=by simp;omega
   by_cases h0:pos+j=8*c.length
   ·have h80:8*c.length - (pos+j)=0:=by omega
    rw [h80] at hst;have x0:wr.cell? ⟨g,0,none⟩=some (.slice (some ⟨r,0,none⟩) c.length cap):=by rw [cell_of_row wr g 0 _ 279 (0,0) hst];rfl
    have x1:wr.cell? ⟨g,1,none⟩=some (.int .i64 0):=by rw [cell_of_row wr g 1 _ 279 (0,0) hst];rfl
    have hwB:B≤wr.heap.size:=Nat.le_trans hB hbel.size;have hcb:c.length≤100000:=by omega
    have Hst:=hidI hst;have Hbel:=hidI hbel;clear hst hbel h80;go_wp2_with (at_builtin;refine wpList_append_lies _ rfl (.tmp 22) (.tmp 23) 111 rfl B 5 i0 (.int .u8 0) 1 1 Tryz.underlying111 hi hz0 hz1' hz2 rfl (by decide) (.slice (some ⟨r,0,none⟩) c.length cap) c.length _ rfl (hown.alloc _) ⟨wr.heap.size,0,none⟩ 1 1 [.int .u8 0] rfl rfl (cell_one_new _ _ _) (by intro u hu;simp at hu;subst hu;rfl) (by omega) (by unfold maxLen;omega) (by omega) (by simp;omega) (wr.heap.size+1) (by simp) ?_);intro r2 cap2 w2 hown2 hgrow hat hlt2;have hst1:=(((Keeps.refl 279 wr).alloc _).grown (hown.alloc _) (by decide) hgrow).block Hst.out;have Hbel1:Hid (Below B w w2):=(Hbel.out.alloc hwB _).grown hgrow (by simp;omega) (fun q hq=>(hown.lt q hq).1);have hown2:w2.ownsRow B 5 1 (.slice (some ⟨r2,0,none⟩) (c++[0]).length cap2) (c++[0]).length ((c++[(0:UInt8)]).map fun (y:UInt8)=>.int .u8 (y.toNat:Nat)):=by
     rw [List.length_append,List.map_append];exact hown2
    have hr2:B≤r2:=(hown2.lt r2 rfl).1;have y0:w2.cell? ⟨g,0,none⟩=some (.slice (some ⟨r,0,none⟩) c.length cap):=by rw [cell_of_row w2 g 0 _ 279 (0,0) hst1];rfl
    have yf0:=frozen_of_row w2 g 0 _ 279 hst1;have hst2:=heap_setCell_same w2 g 0 _ 279 (.slice (some ⟨r2,0,none⟩) (c.length+1) cap2) hst1;have y1:(w2.setCell ⟨g,0,none⟩ (.slice (some ⟨r2,0,none⟩) (c.length+1) cap2)).cell? ⟨g,1,none⟩=some (.int .i64 0):=by rw [cell_of_row _ g 1 _ 279 (0,0) hst2];rfl
    have yf1:=frozen_of_row _ g 1 _ 279 hst2;have hst3:=heap_setCell_same _ g 1 _ 279 (.int .i64 8) hst2;have z1:((w2.setCell ⟨g,0,none⟩ (.slice (some ⟨r2,0,none⟩) (c.length+1) cap2)).setCell ⟨g,1,none⟩ (.int .i64 8)).cell? ⟨g,1,none⟩=some (.int .i64 8):=by rw [cell_of_row _ g 1 _ 279 (0,0) hst3];rfl
    have zf1:=frozen_of_row _ g 1 _ 279 hst3;have hst4:=heap_setCell_same _ g 1 _ 279 (.int .i64 7) hst3;have hgr:g≠r2:=by
     intro e;subst e;obtain ⟨_,_,hk⟩:=Lib.ownsRow_kind hown2 g rfl;rw [hst1] at hk;simp at hk
    have hgv:(Value.slice (some ⟨r2,0,none⟩) (c++[0]).length cap2).ownBlock≠some g:=by simp [Value.ownBlock];exact fun e=>hgr e.symm
    have hown4:=ownsRow_setCell_other (a:=⟨g,1,none⟩) (ownsRow_setCell_other (a:=⟨g,1,none⟩) (ownsRow_setCell_other (a:=⟨g,0,none⟩) hown2 hgv (.slice (some ⟨r2,0,none⟩) (c.length+1) cap2)) hgv (.int .i64 8)) hgv (.int .i64 7);have Hbel4:=hidI (((Hbel1.out.setCell (p:=⟨g,0,none⟩) hg (.slice (some ⟨r2,0,none⟩) (c.length+1) cap2)).setCell (p:=⟨g,1,none⟩) hg (.int .i64 8)).setCell (p:=⟨g,1,none⟩) hg (.int .i64 7));have hs4:(c++[0]).length=c.length+1:=by simp
    have v0:(((w2.setCell ⟨g,0,none⟩ (.slice (some ⟨r2,0,none⟩) (c.length+1) cap2)).setCell ⟨g,1,none⟩ (.int .i64 8)).setCell ⟨g,1,none⟩ (.int .i64 7)).cell? ⟨g,0,none⟩=some (.slice (some ⟨r2,0,none⟩) (c.length+1) cap2):=by rw [cell_of_row _ g 0 _ 279 (0,0) hst4];rfl
    have v1:(((w2.setCell ⟨g,0,none⟩ (.slice (some ⟨r2,0,none⟩) (c.length+1) cap2)).setCell ⟨g,1,none⟩ (.int .i64 8)).setCell ⟨g,1,none⟩ (.int .i64 7)).cell? ⟨g,1,none⟩=some (.int .i64 7):=by rw [cell_of_row _ g 1 _ 279 (0,0) hst4];rfl
    have vr:(((w2.setCell ⟨g,0,none⟩ (.slice (some ⟨r2,0,none⟩) (c.length+1) cap2)).setCell ⟨g,1,none⟩ (.int .i64 8)).setCell ⟨g,1,none⟩ (.int .i64 7)).cell? ⟨r2,c.length,none⟩=some (.int .u8 0):=by
     rw [hown4.cellAt c.length (by simp),List.map_append,List.getElem?_append_right (by simp)];simp
    have vf:=hown4.frozenAt c.length;have Hkp4:Hid (Keeps 282 w (((w2.setCell ⟨g,0,none⟩ (.slice (some ⟨r2,0,none⟩) (c.length+1) cap2)).setCell ⟨g,1,none⟩ (.int .i64 8)).setCell ⟨g,1,none⟩ (.int .i64 7))):=(((Hkp.out.trans (((Keeps.refl 282 wr).alloc _).grown (hown.alloc _) (by decide) hgrow)).set hst1 (by decide)).set hst2 (by decide)).set hst3 (by decide);have Hst4:Hid ((((w2.setCell ⟨g,0,none⟩ (.slice (some ⟨r2,0,none⟩) (c.length+1) cap2)).setCell ⟨g,1,none⟩ (.int .i64 8)).setCell ⟨g,1,none⟩ (.int .i64 7)).heap[g]? = some (.cells #[.slice (some ⟨r2,0,none⟩) (c++[0]).length cap2,.int .i64 ((7:Nat):Int)] 279 (0,0))):=by
     show _=_;rw [hst4,hs4];rfl
    have Hown4:=hidI hown4;clear hst1 hst2 hst3 hst4 hown hown2 hown4 hgrow hat x0 x1 Hst Hbel Hbel1 hs4;go_wp2;go_region;have hor:bits BinOp.or IntKind.u8 0 (bits BinOp.and IntKind.i64 ((n:Int)/2^(k - 1 - j)) 1%256*128%256)=((0+n/2^(k - 1 - j)%2*2^7:Nat):Int):=by
     have h1:=qeD n k j 7 (by omega);rw [show (2:Int)^7=128 by decide] at h1;rw [h1];exact qhk 0 _ 7 (by omega) (Nat.mod_lt _ (by omega)) (by omega) (by simp)
    rw [hor];have hz:∀ i,pos+j≤i→bt (c++[0]) i=0:=fun i hi=>qkt c i (by omega)
    obtain ⟨c',hbw,ha,hbt,hcl'⟩:=qgW (c:=c++[0]) (p:=pos+j) (q:=7) (x:=n/2^(k - 1 - j)%2) (y:=0+n/2^(k - 1 - j)%2*2^7) hg Hst4.out Hown4.out (by simp;omega) (by simp;omega) hz (Nat.mod_lt _ (by omega)) (by simp;omega) (by simp);rw [show (c++[(0:UInt8)]).length - 1=c.length by simp] at hbw;have hbel2:=Hbel4.out.setCell (p:=⟨r2,c.length,none⟩) hr2 (.int .u8 ((0+n/2^(k - 1 - j)%2*2^7:Nat):Int));have hkp5:Keeps 282 w ((((w2.setCell ⟨g,0,none⟩ (.slice (some ⟨r2,0,none⟩) (c.length+1) cap2)).setCell ⟨g,1,none⟩ (.int .i64 8)).setCell ⟨g,1,none⟩ (.int .i64 7)).setCell ⟨r2,c.length,none⟩ (.int .u8 ((0+n/2^(k - 1 - j)%2*2^7:Nat):Int))):=by
     obtain ⟨x5,f5,hk5⟩:=Lib.ownsRow_kind Hown4.out r2 rfl;exact Hkp4.out.set hk5 (by decide)
    have ha2:Ag c c' pos:=⟨by rw [hcl'];simp,fun i hi=>by rw [ha.bit i (by omega),qbZ c [0] i (by omega)]⟩;have hvv:val c' pos j=val c pos j:=by
     rw [ha.val pos j (by omega)];have hab:Ag c (c++[0]) (8*c.length):=⟨by simp,fun i hi=>qbZ c [0] i hi⟩;exact hab.val pos j (by omega)
    have hv2:val c' pos (j+1)=n/2^(k - (j+1)):=by
     rw [qaD,hbt,hvv,Hv.out];exact qcB n k j hlt
    generalize ((((w2.setCell ⟨g,0,none⟩ (.slice (some ⟨r2,0,none⟩) (c.length+1) cap2)).setCell ⟨g,1,none⟩ (.int .i64 8)).setCell ⟨g,1,none⟩ (.int .i64 7)).setCell ⟨r2,c.length,none⟩ (.int .u8 ((0+n/2^(k - 1 - j)%2*2^7:Nat):Int)))=W2 at *
    have Hend:Hid (BW W2.drew B g c' (pos+(j+1))∧Ag b c' pos∧val c' pos (j+1)=n/2^(k - (j+1))∧Below B w W2.drew∧Hid (Keeps 282 w W2.drew)):=⟨⟨hbw.hg,hbw.st,hbw.wr⟩,Hag.out.trans ha2 (Nat.le_refl _),hv2,hbel2.drew,hkp5.drew⟩;clear y0 yf0 y1 yf1 z1 zf1 v0 v1 vr vf hbw ha hbt hv2 hbel2 hor Hst4 Hown4 Hbel4 Hkp4 hkp5 Hkp;go_wp2;go_roundw
    case rel=>exact ⟨j+1,by omega,by go_num,c',Hend.out⟩
    case measure=>simp [intOf];omega
   obtain ⟨q,hq⟩:∃ q,8*c.length - (pos+j)=q+1:=⟨8*c.length - (pos+j) - 1,by omega⟩;rw [hq] at hst;have hqb:q≤6:=by omega
   have x0:wr.cell? ⟨g,0,none⟩=some (.slice (some ⟨r,0,none⟩) c.length cap):=by rw [cell_of_row wr g 0 _ 279 (0,0) hst];rfl
   have x1:wr.cell? ⟨g,1,none⟩=some (.int .i64 ((q+1:Nat):Int)):=by rw [cell_of_row wr g 1 _ 279 (0,0) hst];rfl
   have f1:=frozen_of_row wr g 1 _ 279 hst;have hne:(((q+1:Nat):Int)==0)=false:=by simp;omega
   have hst2:=heap_setCell_same wr g 1 _ 279 (.int .i64 (q:Nat)) hst;have y0:(wr.setCell ⟨g,1,none⟩ (.int .i64 (q:Nat))).cell? ⟨g,0,none⟩=some (.slice (some ⟨r,0,none⟩) c.length cap):=by rw [cell_of_row _ g 0 _ 279 (0,0) hst2];rfl
   have y1:(wr.setCell ⟨g,1,none⟩ (.int .i64 (q:Nat))).cell? ⟨g,1,none⟩=some (.int .i64 (q:Nat)):=by rw [cell_of_row _ g 1 _ 279 (0,0) hst2];rfl
   have hgr:g≠r:=by
    intro e;subst e;obtain ⟨_,_,hk⟩:=Lib.ownsRow_kind hown g rfl;rw [hst] at hk;simp at hk
   obtain ⟨u,hu⟩:∃ u,u=(c.getD (c.length - 1) 0).toNat:=⟨_,rfl⟩;have yr:(wr.setCell ⟨g,1,none⟩ (.int .i64 (q:Nat))).cell? ⟨r,c.length - 1,none⟩=some (.int .u8 (u:Nat)):=by
    rw [qbz _ (fun e=>hgr e.symm),hown.cellAt (c.length - 1) (by omega),hu,List.getElem?_map,List.getD_eq_getElem?_getD,List.getElem?_eq_getElem (by omega)];rfl
   have fr:(wr.setCell ⟨g,1,none⟩ (.int .i64 (q:Nat))).frozen? ⟨r,c.length - 1,none⟩=false:=by
    rw [qbk _ (fun e=>hgr e.symm)];exact hown.frozenAt (c.length - 1)
   have hu256:u<256:=by rw [hu];exact UInt8.toNat_lt _
   have Hu:=hidI hu;have Hq:=hidI hq;have Hst:=hidI hst;have Hst2:=hidI hst2;have Hown:=hidI hown;have Hbel:=hidI hbel;clear hst hst2 hown hbel hu hq;rw [show ((q+1:Nat):Int)=(q:Int)+1 by omega] at x1 hne;go_wp2;go_region;rw [qeD n k j q (by omega),qhk u (n/2^(k - 1 - j)%2) q (by omega) (Nat.mod_lt _ (by omega)) hu256 (by
    have:=(qkk c (pos+j) 0 (by omega) (by omega) Hwr.out.zero (by omega)).1
    rw [Hq.out] at this;rw [Hu.out];exact this)]
   have hown2:(wr.setCell ⟨g,1,none⟩ (.int .i64 (q:Nat))).ownsRow B 5 1 (.slice (some ⟨r,0,none⟩) c.length cap) c.length (c.map fun c=>.int .u8 (c.toNat:Nat)):=ownsRow_setCell_other Hown.out (by simp [Value.ownBlock];exact fun e=>hgr e.symm) _;obtain ⟨c',hbw,ha,hbt,hcl'⟩:=qgW (p:=pos+j) (q:=q) (x:=n/2^(k - 1 - j)%2) (y:=u+n/2^(k - 1 - j)%2*2^q) hg Hst2.out hown2 (by omega) (by omega) Hwr.out.zero (Nat.mod_lt _ (by omega)) (by have:=Hq.out;omega) (by rw [Hu.out]);have hbel2:=(Hbel.out.setCell (p:=⟨g,1,none⟩) hg (.int .i64 (q:Nat))).setCell (p:=⟨r,c.length - 1,none⟩) hr (.int .u8 ((u+n/2^(k - 1 - j)%2*2^q:Nat):Int));have hkp5:Keeps 282 w ((wr.setCell ⟨g,1,none⟩ (.int .i64 (q:Nat))).setCell ⟨r,c.length - 1,none⟩ (.int .u8 ((u+n/2^(k - 1 - j)%2*2^q:Nat):Int))):=by
    obtain ⟨x5,f5,hk5⟩:=Lib.ownsRow_kind hown2 r rfl;exact (Hkp.out.set Hst.out (by decide)).set hk5 (by decide)
   have hv2:val c' pos (j+1)=n/2^(k - (j+1)):=by
    rw [qaD,hbt,ha.val pos j (by omega),Hv.out];exact qcB n k j hlt
   generalize ((wr.setCell ⟨g,1,none⟩ (.int .i64 (q:Nat))).setCell ⟨r,c.length - 1,none⟩ (.int .u8 ((u+n/2^(k - 1 - j)%2*2^q:Nat):Int)))=W2 at *
   have Hend:Hid (BW W2.drew B g c' (pos+(j+1))∧Ag b c' pos∧val c' pos (j+1)=n/2^(k - (j+1))∧Below B w W2.drew∧Hid (Keeps 282 w W2.drew)):=⟨⟨hbw.hg,hbw.st,hbw.wr⟩,Hag.out.trans ha (by omega),hv2,hbel2.drew,hkp5.drew⟩;clear x0 x1 f1 y0 y1 yr fr hbw ha hbt hv2 hbel2 hown2 hkp5 Hkp Hst;go_wp2;go_roundw
   case rel=>exact ⟨j+1,by omega,by go_num,c',Hend.out⟩
   case measure=>simp [intOf];omega
  have hjk:j=k:=by omega
  subst hjk;have hz1:decide (0≤(j:Int) - 1 - (j:Int))=false:=by simp;omega
  have Hc:=hidI hc;have Hag:=hidI hag;have Hv:=hidI hv;have Hbel:=hidI hbel;clear hc hag hv hbel;go_wp2;go_end0
  refine ⟨rfl,c,Hc.out,Hag.out,?_,Hbel.out,Hkp.out⟩
  have:=Hv.out
  rw [Nat.sub_self,Nat.pow_zero,Nat.div_one] at this;exact this
end Go.Proofs.YtodmdkhdbfbfgaaGreatDoor.S1
namespace Go.Proofs.YtodmdkhdbfbfgaaGreatDoor.S1.Pk
def flt (z:Nat→Int) (d k:Nat):List Nat:=(List.range k).filter fun i=>decide (z i=(d:Int))
def symL (z:Nat→Int) (n:Nat):Nat→List Nat
 | 0=>[]
 | d+1=>symL z n d++flt z (d+1) n
theorem qet (z:Nat→Int) (d k:Nat) (h:z k=(d:Int)):flt z d (k+1)=flt z d k++[k]:=by
 unfold flt;rw [List.range_succ,List.filter_append];simp [h]
theorem qed (z:Nat→Int) (d k:Nat) (h:z k≠(d:Int)):flt z d (k+1)=flt z d k:=by
 unfold flt;rw [List.range_succ,List.filter_append];simp [h]
theorem qbs (z:Nat→Int) (d k:Nat):(flt z d k).length=cnt z d k:=by
 induction k with
 | zero=>rfl
 | succ k ih =>
   by_cases h:z k=(d:Int)
   ·rw [qet z d k h,List.length_append,ih];simp [cnt,h]
   rw [qed z d k h,ih];simp [cnt,h]
theorem qmw (z:Nat→Int) (d k i:Nat) (hi:i<k) (h:z i=(d:Int)):(flt z d k)[cnt z d i]? = some i:=by
 induction k with
 | zero=>omega
 | succ k ih =>
   by_cases e:i=k
   ·subst e;rw [qet z d i h,List.getElem?_append_right (by rw [qbs];omega),qbs];simp
   have hlt:=cnt_lt z d (show i<k by omega) h;by_cases h2:z k=(d:Int)
   ·rw [qet z d k h2,List.getElem?_append_left (by rw [qbs];exact hlt)];exact ih (by omega)
   rw [qed z d k h2];exact ih (by omega)
theorem rank (z:Nat→Int) (d n r:Nat) (h:r<cnt z d n):∃ i,i<n∧z i=(d:Int)∧cnt z d i=r:=by
 induction n with
 | zero=>simp [cnt] at h
 | succ n ih =>
   by_cases e:z n=(d:Int)
   ·by_cases h2:r<cnt z d n
    ·obtain ⟨i,h3,h4,h5⟩:=ih h2;exact ⟨i,by omega,h4,h5⟩
    refine ⟨n,by omega,e,?_⟩;simp [cnt,e] at h;omega
   have:r<cnt z d n:=by simpa [cnt,e] using h
   obtain ⟨i,h3,h4,h5⟩:=ih this;exact ⟨i,by omega,h4,h5⟩
theorem qcx (z:Nat→Int) (n d:Nat):(symL z n (d+1)).length=(symL z n d).length+cnt z (d+1) n:=by
 rw [symL,List.length_append,qbs]
theorem qlS (z:Nat→Int) (n d D r:Nat) (hd:d+1≤D) (hr:r<cnt z (d+1) n):(symL z n D)[(symL z n d).length+r]? = (flt z (d+1) n)[r]? := by
 induction D with
 | zero=>omega
 | succ D ih =>
   by_cases e:d=D
   ·subst e;rw [symL,List.getElem?_append_right (by omega),Nat.add_sub_cancel_left]
   rw [symL,List.getElem?_append_left,ih (by omega)];have h1:(symL z n (d+1)).length≤(symL z n D).length:=by
    have:d+1≤D:=by omega
    clear ih e hd
    induction D with
    | zero=>omega
    | succ D ih =>
      by_cases e:d+1=D+1
      ·rw [e];exact Nat.le_refl _
      have:=ih (by omega);rw [qcx z n D];omega
   rw [qcx] at h1;omega
theorem qb7 (z:Nat→Int) (n d:Nat):(symL z n d).length≤d*n:=by
 induction d with
 | zero=>simp [symL]
 | succ d ih=>rw [qcx];have:=qgX z (d+1) n;rw [Nat.add_mul];omega
theorem found (s:List UInt8) (z:Nat→Int) (pos d:Nat) (hd:d+1≤12) (hlo:2*aft z 288 d≤val s pos (d+1)) (hhi:val s pos (d+1) - 2*aft z 288 d<cnt z (d+1) 288) (hp:pos+(d+1)≤8*s.length) :
 ∃ i,i<288∧(symL z 288 12)[(symL z 288 d).length+(val s pos (d+1) - 2*aft z 288 d)]? = some i∧hit s z pos i=true∧(z i).toNat=d+1:=by
 obtain ⟨i,hi,hz,hc⟩:=rank z (d+1) 288 _ hhi;have hzn:(z i).toNat=d+1:=by omega
 refine ⟨i,hi,?_,?_,hzn⟩
 ·rw [qlS z 288 d 12 _ hd hhi,←hc];exact qmw z (d+1) 288 i hi hz
 rw [qbm];refine ⟨by omega,by omega,?_⟩;unfold num;rw [hzn,Nat.add_sub_cancel,hc];omega
theorem miss (s:List UInt8) (z:Nat→Int) (pos d i:Nat) (hi:i<288) (hz:z i=((d:Nat):Int)) (h:aft z 288 d≤val s pos d):hit s z pos i=false:=by
 rw [←Bool.not_eq_true,qbm];intro ⟨h1,h2,h3⟩
 have:=qb5 z 288 i h1 hi
 rw [hz,Int.toNat_natCast] at this h3;omega
end Go.Proofs.YtodmdkhdbfbfgaaGreatDoor.S1.Pk
namespace Go.Proofs.YtodmdkhdbfbfgaaGreatDoor.S1
open Go.RowKit Pk
def RowT (w:World) (row:Option Nat) (t:TypeId):Prop:=∀ g,row=some g→∃ cur fz,w.heap[g]? = some (.cells cur t fz)
theorem qhc {w w':World} {row:Option Nat} {tr t:TypeId} {b:Nat} {c:Array Value} {fz:Nat × Nat} (hg:w.grownBy w' row) (ht:RowT w row tr) (hb:w.heap[b]? = some (.cells c t fz)) (hne:t≠tr):w'.heap[b]? = w.heap[b]? := by
 refine hg.block b (lt_of_heap hb) fun e => ?_
 obtain ⟨cur,f,h⟩:=ht b e.symm;rw [hb] at h;simp at h;exact hne h.2.1
def decC (z:Nat→Int) (v:Value) (j:Nat):Value:=if j≤12 then .int .i64 (if j=0 then 0 else (cnt z j 288:Nat)) else v
def Dc (w:World) (base db:Nat) (z:Nat→Int):Prop:=
 ∃ v,w.rowIs db 327 14 (decC z v)∧w.ownsRow base 3 1 v (symL z 288 12).length ((symL z 288 12).map fun i=>.int .i64 (i:Nat))
def decD (z:Nat→Int) (d k:Nat) (v:Value) (j:Nat):Value:=if j≤12 then .int .i64 (if j=0 then 0 else if j≤d then (cnt z j 288:Nat) else if j=d+1 then (cnt z j k:Nat) else 0) else v
theorem qh6 (z:Nat→Int) (j:Nat) (h:j<14):(#[Value.int .i64 0,.int .i64 0,.int .i64 0,.int .i64 0,.int .i64 0,.int .i64 0,.int .i64 0,.int .i64 0,.int .i64 0,.int .i64 0,.int .i64 0,.int .i64 0,.int .i64 0,.slice none 0 0]:Array Value)[j]? = some (decD z 0 0 (.slice none 0 0) j):=by
 unfold decD
 match j,h with
 | 0,_=>rfl
 | 1,_=>rfl
 | 2,_=>rfl
 | 3,_=>rfl
 | 4,_=>rfl
 | 5,_=>rfl
 | 6,_=>rfl
 | 7,_=>rfl
 | 8,_=>rfl
 | 9,_=>rfl
 | 10,_=>rfl
 | 11,_=>rfl
 | 12,_=>rfl
 | 13,_=>rfl
theorem qnj (z:Nat→Int) (d k:Nat) (v u:Value) (j:Nat) (hj:j<14):(if j=13 then u else decD z d k v j)=decD z d k u j:=by
 unfold decD;by_cases h:j=13
 ·rw [if_pos h,if_neg (by omega)]
 rw [if_neg h,if_pos (show j≤12 by omega),if_pos (show j≤12 by omega)]
theorem qkK (z:Nat→Int) (d k:Nat) (v:Value) (j:Nat) (hd:d<12) (h:z k=((d+1:Nat):Int)):(if j=d+1 then Value.int .i64 ((cnt z (d+1) k:Nat)+1) else decD z d k v j)=decD z d (k+1) v j:=by
 unfold decD;by_cases e:j=d+1
 ·subst e;rw [if_pos rfl,if_pos (by omega),if_neg (by omega),if_neg (by omega),if_pos rfl];simp only [cnt,if_pos h];go_num
 rw [if_neg e];by_cases e1:j≤12
 ·rw [if_pos e1,if_pos e1,if_neg e,if_neg e]
 rw [if_neg e1,if_neg e1]
theorem qkn (z:Nat→Int) (d k:Nat) (v:Value) (j:Nat) (h:z k≠((d+1:Nat):Int)):decD z d k v j=decD z d (k+1) v j:=by
 have e1:cnt z (d+1) (k+1)=cnt z (d+1) k:=by rw [cnt,if_neg h,Nat.add_zero]
 unfold decD;by_cases e:j=d+1
 ·subst e;rw [e1]
 rw [if_neg e,if_neg e]
theorem qkp (z:Nat→Int) (d:Nat) (v:Value) (j:Nat):decD z d 288 v j=decD z (d+1) 0 v j:=by
 unfold decD;by_cases e:j≤12
 ·rw [if_pos e,if_pos e];by_cases e0:j=0
  ·rw [if_pos e0,if_pos e0]
  rw [if_neg e0,if_neg e0];by_cases e1:j≤d
  ·rw [if_pos e1,if_pos (by omega)]
  rw [if_neg e1];by_cases e2:j=d+1
  ·rw [if_pos e2,if_pos (by omega)]
  rw [if_neg e2,if_neg (by omega)];by_cases e3:j=d+1+1
  ·rw [if_pos e3];simp [cnt]
  rw [if_neg e3]
 rw [if_neg e,if_neg e]
theorem qlg (z:Nat→Int) (v:Value) (j:Nat):decD z 12 0 v j=decC z v j:=by
 unfold decD decC;by_cases e:j≤12
 ·rw [if_pos e,if_pos e,if_pos e]
 rw [if_neg e,if_neg e]
theorem qeI {w:World} {base:Nat} {e:TypeId} {v:Value} {n:Nat} {xs:List Value} (h:w.ownsRow base e 1 v n xs):RowT w v.ownBlock e:=fun g hg=>by
 obtain ⟨cur,_,_,_,hh,_⟩:=qfP h hg;exact ⟨cur,_,hh⟩
theorem qbq {w w':World} {row:Option Nat} {tr t:TypeId} {b n:Nat} {f:Nat→Value} (h:w.rowIs b t n f) (hg:w.grownBy w' row) (ht:RowT w row tr) (hne:t≠tr):w'.rowIs b t n f:=by
 obtain ⟨c,hc,h1,h2⟩:=h;exact ⟨c,(qhc hg ht hc hne).trans hc,h1,h2⟩
theorem qbS {w w':World} {row:Option Nat} {tr e:TypeId} {base n:Nat} {v:Value} {xs:List Value} (h:w.ownsRow base e 1 v n xs) (hg:w.grownBy w' row) (ht:RowT w row tr) (hne:e≠tr):w'.ownsRow base e 1 v n xs:=by
 refine h.kept hg ?_;cases hv:v.ownBlock with
 | none=>exact .inl rfl
 | some g =>
   refine .inr fun he => ?_
   obtain ⟨c1,_,_,_,h1,_⟩:=qfP h hv;obtain ⟨c2,f2,h2⟩:=ht g he.symm;rw [h1] at h2;simp at h2;exact hne h2.2.1
theorem qcl {w:World} {base b n:Nat} {e t:TypeId} {v u:Value} {xs:List Value} {f:Nat→Value} {N o:Nat} (h:w.ownsRow base e 1 v n xs) (hr:w.rowIs b t N f) (hne:e≠t):(w.setCell ⟨b,o,none⟩ u).ownsRow base e 1 v n xs:=by
 obtain ⟨c,hc,_,_⟩:=hr;exact qbS h (row:=some b) (tr:=t) ⟨rfl,rfl,rfl,by simp,fun k _ hk=>Below.heap_setCell w ⟨b,o,none⟩ u k (fun e=>hk (by simp [e]))⟩ (fun g hg=>by simp at hg;subst hg;exact ⟨c,_,hc⟩) hne
theorem qcC {w:World} {base:Nat} {v:Value} {n:Nat} {xs:List Nat} (h:w.ownsRow base 3 1 v n (xs.map fun i=>Value.int .i64 (i:Nat))):xs.length=n∧∃ a c,v=.slice a n c∧IntsIn w a n (fun j=>((xs.getD j 0:Nat):Int)):=by
 have hl:xs.length=n:=by have:=h.1;simpa using this
 refine ⟨hl,?_⟩;have h':w.ownsRow base 3 1 v n ((List.range n).map fun j=>Value.int .i64 ((xs.getD j 0:Nat):Int)):=by
  have e:(xs.map fun i=>Value.int .i64 (i:Nat))=(List.range n).map fun j=>Value.int .i64 ((xs.getD j 0:Nat):Int):=by
   apply List.ext_getElem?
   intro j;by_cases hj:j<n
   ·have hj':j<xs.length:=by omega
    simp [hj,hj']
   rw [List.getElem?_eq_none (by simp;omega),List.getElem?_eq_none (by simp;omega)]
  rw [←e];exact h
 exact ql4 h'
theorem qdB (a:Option Addr) (cap:Nat) (z:Nat→Int) (w:World) (hz:IntsIn w a 288 z) :
 Calls Tryz.prog 261 #[.slice a 288 cap] w fun e w'=>e=.returned (.pointer (some ⟨w.heap.size,0,none⟩))∧Below w.heap.size w w'∧Dc w' w.heap.size w.heap.size z:=by
 obtain ⟨i0,hi,hz0,hz1,hz2⟩:=info_parts Tryz.info3;obtain ⟨b,off,rfl,hc⟩:=hz (by omega);have Hc:=hidI hc;clear hc hz;go_enter Tryz.func261,Tryz.ntmps261
 go_wp2
 go_loopw [4] (fun i wr=>∃ d D:Nat,d≤12∧D≤d+1∧d+1≤D∧i=.int .i64 D∧Below w.heap.size w wr∧∃ v,wr.rowIs w.heap.size 327 14 (decD z d 0 v)∧wr.ownsRow w.heap.size 3 1 v (symL z 288 d).length ((symL z 288 d).map fun i=>.int .i64 (i:Nat))) (fun i _=>13 - (intOf i).toNat)
 case atStart =>
  refine ⟨0,1,by omega,by omega,by omega,rfl,(Below.refl _ _).alloc (Nat.le_refl _) _,.slice none 0 0,?_,World.ownsRow_nil _ _ _ _⟩;exact World.rowIs_alloc w _ 327 _ (fun j hj=>qh6 z j hj)
 case round =>
  obtain ⟨d,D,hd,hD1,hD2,rfl,hbel,v,hrow,hown⟩:=hrel;by_cases hlt:d<12
  ·have hdle:decide ((D:Int)≤12)=true:=by simp;omega
   go_wp2
   go_loopw [15] (fun i wr=>∃ k:Nat,k≤288∧i=.int .i64 k∧Below w.heap.size w wr∧∃ v n,wr.rowIs w.heap.size 327 14 (decD z d k v)∧n≤3456+k∧wr.ownsRow w.heap.size 3 1 v n ((symL z 288 d++flt z (d+1) k).map fun i=>.int .i64 (i:Nat))) (fun i _=>288 - (intOf i).toNat)
   case atStart =>
    have hsl:=qb7 z 288 d;exact ⟨0,by omega,rfl,hbel,v,(symL z 288 d).length,hrow,by omega,by simpa [flt] using hown⟩
   clear hbel hrow hown v;obtain ⟨k,hk,rfl,hbel,v,n,hrow,hn,hown⟩:=hrel;have hsz:=hbel.size;by_cases hlt2:k<288
   ·have hck:wr.cell? { block:=b,off:=off+k }=some (Value.int IntKind.i64 (z k)):=by
     rw [hbel.cell (p:=⟨b,off+k,none⟩) (World.block_lt_of_cell? w _ (Hc.out k hlt2))];exact Hc.out k hlt2
    by_cases he:z k=((d+1:Nat):Int)
    ·have heb:(z k==(D:Int))=true:=by rw [he,show D=d+1 by omega];simp
     have He:=hidI he;clear he;obtain ⟨_,av,cv,hv,_⟩:=qcC hown;subst hv;have hc13:wr.cell? ⟨w.heap.size,13,none⟩=some (.slice av n cv):=by rw [hrow.cell (by omega)];rfl
     have hlw:=hrow.lt;go_wp2_with (at_builtin;refine wpList_append_own _ rfl (.tmp 27) (.tmp 29) 22 rfl w.heap.size 3 i0 (.int .i64 0) 1 8 Tryz.underlying22 hi hz0 hz1 hz2 rfl (by decide) _ _ _ rfl (hown.alloc _) ⟨wr.heap.size,0,none⟩ 1 1 [.int .i64 k] rfl rfl ?c1 ?c2 ?c3 ?c4 ?c5 ?_)
     case c1=>exact cell_one_new _ _ _
     case c2=>intro u hu;simp at hu;subst hu;rfl
     case c3=>unfold maxLen;omega
     case c4=>omega
     case c5=>simp;omega
     intro v3 w3 hown3 hgrow _;have hbel3:Below w.heap.size w w3:=(hbel.alloc (by omega) _).grown hgrow (by simp;omega) (fun q hq=>(hown.lt q hq).1);have hrow3:=qbq (hrow.alloc _) hgrow (qeI (hown.alloc _)) (by decide);have hown3':w3.ownsRow w.heap.size 3 1 v3 (n+1) ((symL z 288 d++flt z (d+1) (k+1)).map fun i=>Value.int .i64 (i:Nat)):=by
      rw [qet z (d+1) k He.out,List.map_append,List.map_append];exact hown3
     obtain ⟨_,av3,cv3,hv3,_⟩:=qcC hown3';subst hv3;clear hown3 hgrow hown hbel hrow hc13;have hf13:=hrow3.frozen 13;have hfD:=hrow3.frozen D;obtain ⟨u13,hc13⟩:∃ u,w3.cell? ⟨w.heap.size,13,none⟩=some u:=⟨_,hrow3.cell (by omega)⟩;have hcD:w3.cell? ⟨w.heap.size,D,none⟩=some (.int .i64 (cnt z (d+1) k:Nat)):=by
      rw [hrow3.cell (by omega)];unfold decD;rw [if_pos (by omega),if_neg (by omega),if_neg (by omega),if_pos (by omega),show D=d+1 by omega]
     have hkc:cnt z (d+1) k≤k:=qgX _ _ _;have hcD':(w3.setCell ⟨w.heap.size,13,none⟩ (.slice av3 (n+1) cv3)).cell? ⟨w.heap.size,D,none⟩=some (.int .i64 (cnt z (d+1) k:Nat)):=by
      rw [((hrow3.set 13 (.slice av3 (n+1) cv3)).cell (i:=D) (by omega)),if_neg (by omega),←hrow3.cell (i:=D) (by omega)];exact hcD
     have hD13:(D:Int)<13:=by omega
     have hrow4:((w3.setCell ⟨w.heap.size,13,none⟩ (.slice av3 (n+1) cv3)).setCell ⟨w.heap.size,D,none⟩ (.int .i64 ((cnt z (d+1) k:Nat)+1))).rowIs w.heap.size 327 14 (decD z d (k+1) (.slice av3 (n+1) cv3)):=by
      refine ((hrow3.set 13 _).set D _).congr fun j hj => ?_
      rw [qnj z d k _ _ j hj,show D=d+1 by omega];exact qkK z d k _ j hlt He.out
     have hown4:((w3.setCell ⟨w.heap.size,13,none⟩ (.slice av3 (n+1) cv3)).setCell ⟨w.heap.size,D,none⟩ (.int .i64 ((cnt z (d+1) k:Nat)+1))).ownsRow w.heap.size 3 1 (.slice av3 (n+1) cv3) (n+1) ((symL z 288 d++flt z (d+1) (k+1)).map fun i=>Value.int .i64 (i:Nat)):=
      qcl (qcl hown3' hrow3 (by decide)) (hrow3.set 13 _) (by decide)
     have hbel4:Below w.heap.size w ((w3.setCell ⟨w.heap.size,13,none⟩ (.slice av3 (n+1) cv3)).setCell ⟨w.heap.size,D,none⟩ (.int .i64 ((cnt z (d+1) k:Nat)+1))):=
      (hbel3.setCell (Nat.le_refl _) _).setCell (Nat.le_refl _) _
     clear hown3' hrow3 hbel3;go_wp2;go_region;go_wp2;go_roundw
     case rel=>exact ⟨k+1,by omega,by go_num,hbel4.drew,_,n+1,hrow4.drew,by omega,hown4.drew⟩
     case measure=>simp [intOf];omega
    have heb:(z k==(D:Int))=false:=by rw [show D=d+1 by omega];simpa using he
    have He:=hidI he;clear he;go_wp2;go_roundw
    case rel=>exact ⟨k+1,by omega,by go_num,hbel,v,n,hrow.congr (fun j _=>qkn z d k v j He.out),by omega,by rw [qed z (d+1) k He.out];exact hown⟩
    case measure=>simp [intOf];omega
   have hk8:k=288:=by omega
   subst hk8;go_wp2;go_roundw
   case rel =>
    have hl:=(qcC hown).1;refine ⟨d+1,D+1,by omega,by omega,by omega,by go_num,hbel,v,hrow.congr (fun j _=>qkp z d v j),?_⟩;show wr.ownsRow w.heap.size 3 1 v (symL z 288 d++flt z (d+1) 288).length ((symL z 288 d++flt z (d+1) 288).map fun i=>Value.int .i64 (i:Nat));rw [hl];exact hown
   case measure=>simp [intOf];omega
  have hd12:d=12:=by omega
  subst hd12;go_wp2;go_ret
  exact ⟨rfl,hbel,v,hrow.congr (fun j _=>qlg z v j),hown⟩
theorem Rd.rowT {w:World} {rb:Nat} {s:List UInt8} {pos:Nat} (h:Rd w rb s pos):RowT w (some rb) 295:=fun g hg=>by
 simp at hg;subst hg;exact ⟨_,_,h⟩
theorem Rd.keep {w w':World} {rb:Nat} {s:List UInt8} {pos:Nat} {row:Option Nat} {tr:TypeId} (h:Rd w rb s pos) (hg:w.grownBy w' row) (ht:RowT w row tr) (hne:295≠tr):Rd w' rb s pos:=
 (qhc hg ht h hne).trans h
theorem Dc.keep {w w':World} {base db:Nat} {z:Nat→Int} {row:Option Nat} {tr:TypeId} (h:Dc w base db z) (hg:w.grownBy w' row) (ht:RowT w row tr) (h1:327≠tr) (h2:3≠tr):Dc w' base db z:=by
 obtain ⟨v,hr,ho⟩:=h;exact ⟨v,qbq hr hg ht h1,qbS ho hg ht h2⟩
theorem Dc.cell {w:World} {base db:Nat} {z:Nat→Int} (h:Dc w base db z) (D:Nat) (h1:1≤D) (h2:D≤12):w.cell? ⟨db,D,none⟩=some (.int .i64 (cnt z D 288:Nat)):=by
 obtain ⟨v,hr,ho⟩:=h;rw [hr.cell (by omega)];unfold decC;rw [if_pos h2,if_neg (by omega)]
theorem Dc.syms {w:World} {base db:Nat} {z:Nat→Int} (h:Dc w base db z):∃ a c,w.cell? ⟨db,13,none⟩=some (.slice a (symL z 288 12).length c)∧IntsIn w a (symL z 288 12).length (fun j=>(((symL z 288 12).getD j 0:Nat):Int)):=by
 obtain ⟨v,hr,ho⟩:=h;obtain ⟨_,a,c,rfl,hin⟩:=qcC ho;refine ⟨a,c,?_,hin⟩;rw [hr.cell (by omega)];rfl
theorem qln (rb db base:Nat) (z:Nat→Int) (s:List UInt8) (pos:Nat) (w:World) (hs:s.length≤140737488351232) (hf:Fits z 288) (hr:Rd w rb s pos) (hp:pos≤8*s.length) (hdc:Dc w base db z) :
 Calls Tryz.prog 294 #[.pointer (some ⟨db,0,none⟩),.pointer (some ⟨rb,0,none⟩)] w fun e w'=>w.grownBy w' (some rb) ∧
  ((∃ i,i<288∧hit s z pos i=true∧e=.returned (.tuple #[.int .i64 (i:Nat),.bool true])∧Rd w' rb s (pos+(z i).toNat)) ∨
   ((∀ i,i<288→hit s z pos i=false)∧e=.returned (.tuple #[.int .i64 0,.bool false]))):=by
 have hT:=hr.rowT;have HT:=hidI hT;have Hdc:=hidI hdc;have hsl:=qb7 z 288 12;have Hno0:Hid (∀ i,i<288→z i≤((0:Nat):Int)→hit s z pos i=false):=fun i hi h=>by
  rw [←Bool.not_eq_true,qbm];intro hh;omega
 clear hT hdc;go_enter Tryz.func294,Tryz.ntmps294
 go_wp2
 go_loopw [6,7,8,9] (fun x f p i wr=>∃ d D P V A L:Nat,d≤12∧D≤d+1∧d+1≤D∧P≤pos+d∧pos+d≤P∧P≤8*s.length∧i=.int .i64 D∧x=.int .i64 V∧f=.int .i64 A∧p=.int .i64 L∧A≤V∧V≤4096∧L≤3456 ∧
  Hid (V=val s pos d∧A=aft z 288 d∧L=(symL z 288 d).length)∧Rd wr rb s P∧w.grownBy wr (some rb)∧Hid (∀ i,i<288→z i≤(d:Int)→hit s z pos i=false)) (fun _ _ _ i _=>13 - (intOf i).toNat)
 case atStart=>exact ⟨0,1,pos,0,0,0,by omega,by omega,by omega,by omega,by omega,hp,rfl,rfl,rfl,rfl,by omega,by omega,by omega,⟨rfl,rfl,rfl⟩,hr,World.grownBy.refl _ _,Hno0⟩
 case round =>
  clear Hno0 hr;obtain ⟨d,D,P,V,A,L,hd,hD1,hD2,hP1,hP2,hP8,rfl,rfl,rfl,rfl,hAV,hV,hL,HV,hrd,hg,Hno⟩:=hrel;by_cases hlt:d<12
  ·have hdle:decide ((D:Int)≤12)=true:=by simp;omega
   by_cases hb:P+1≤8*s.length
   ·go_wp2_with fail;refine (qbL rb s P 1 _ hs hrd (by omega) hb).mono ?_;rintro e w1 ⟨rfl,hrd1,hg1⟩;have hg2:=qap hg hg1;have hdc1:=Hdc.out.keep hg2 HT.out (by decide) (by decide);have hcD:=hdc1.cell D (by omega) (by omega);have hcn:=qgX z D 288;rw [qm5];have hb2:=qkQ s P;have HV1:Hid (2*V+bt s P=val s pos (d+1)):=by
     have h1:=HV.out.1;have h2:pos+d=P:=by omega
     show _=_;rw [qaD,h2,h1]
    generalize bt s P=bb at *
    have hor:bits BinOp.or IntKind.i64 ((V:Int)*2) (bb:Int)=((2*V+bb:Nat):Int):=by
     rw [qi9 _ _ (by omega) (by omega) (by omega) (by omega) (by omega)];omega
    have HC:Hid (cnt z D 288=cnt z (d+1) 288):=by show _=_;rw [show D=d+1 by omega]
    obtain ⟨C,hC⟩:∃ C,C=cnt z D 288:=⟨_,rfl⟩;rw [←hC] at hcD hcn HC;clear hC hrd hg hg1;have hD13:(D:Int)<13:=by omega
    by_cases hfound:2*V+bb - 2*A<C
    ·have hF:=found s z pos d (by omega) (by have h1:=HV.out.2.1;have h2:=HV1.out;omega) (by have h1:=HV.out.2.1;have h2:=HV1.out;have h3:=HC.out;omega) (by omega);obtain ⟨i,hi8,hget,hhit,hzi⟩:=hF;obtain ⟨a13,c13,hc13,hin⟩:=hdc1.syms;have Hget:=hidI hget;have Hhit:=hidI hhit;have Hzi:=hidI hzi;clear hget hhit hzi;have hidx:L+(2*V+bb - 2*A)<(symL z 288 12).length:=by
      have h1:=HV.out;have h2:=HV1.out;have h3:=Hget.out;rw [←h1.2.2,←h2,←h1.2.1] at h3;rcases Nat.lt_or_ge (L+(2*V+bb - 2*A)) (symL z 288 12).length with h | h
      ·exact h
      rw [List.getElem?_eq_none h] at h3;cases h3
     obtain ⟨b13,o13,ha13,hcs⟩:=hin (by omega);subst ha13;have hci:w1.cell? ⟨b13,o13+(L+(2*V+bb - 2*A)),none⟩=some (.int .i64 (i:Nat)):=by
      rw [hcs _ hidx];have h1:=HV.out;have h2:=HV1.out;have h3:=Hget.out;rw [←h1.2.2,←h2,←h1.2.1] at h3;simp [List.getD,h3]
     have hci':w1.cell? ⟨b13,o13+(L+(2*V+bb) - A*2),none⟩=some (.int .i64 (i:Nat)):=by
      rw [show L+(2*V+bb) - A*2=L+(2*V+bb - 2*A) by omega];exact hci
     clear hcs hin hci
     generalize (symL z 288 12).length=M at *
     have hlt2:((2*V+bb:Nat):Int) - (A:Int)*2<(C:Int):=by omega
     have hRd:Rd w1 rb s (pos+(z i).toNat):=by
      rw [Hzi.out,show pos+(d+1)=P+1 by omega];exact hrd1
     go_wp2;go_ret2
     exact ⟨hg2,.inl ⟨i,hi8,Hhit.out,rfl,hRd⟩⟩
    have hge:¬(((2*V+bb:Nat):Int) - (A:Int)*2<(C:Int)):=by omega
    have hAf:aft z 288 (d+1)=2*A+C:=by rw [aft,←HV.out.2.1,HC.out]
    have hLf:(symL z 288 (d+1)).length=L+C:=by rw [qcx,←HV.out.2.2,HC.out]
    have hLb:=qb7 z 288 (d+1);have Hstep:Hid (2*V+bb=val s pos (d+1)∧2*A+C=aft z 288 (d+1)∧L+C=(symL z 288 (d+1)).length):=⟨HV1.out,hAf.symm,hLf.symm⟩;have Hno1:Hid (∀ i,i<288→z i≤((d+1:Nat):Int)→hit s z pos i=false):=fun i hi h=>by
     by_cases e:z i=((d+1:Nat):Int)
     ·refine miss s z pos (d+1) i hi e ?_;have h2:=HV1.out;omega
     exact Hno.out i hi (by omega)
    have hv4:val s pos (d+1)<4096:=Nat.lt_of_lt_of_le (qdW s pos _) (Nat.pow_le_pow_right (by omega) (by omega:d+1≤12));have hvb:2*V+bb≤4096:=by have h2:=HV1.out;omega
    have hlc:L+C≤3456:=by omega
    clear hAf hLf hLb hv4 HV HV1 Hno HC;go_wp2;go_roundw
    case rel=>exact ⟨d+1,D+1,P+1,2*V+bb,2*A+C,L+C,by omega,by omega,by omega,by omega,by omega,hb,by go_num,by go_num,by go_num,by go_num,by omega,hvb,hlc,Hstep,hrd1,hg2,Hno1⟩
    case measure=>simp [intOf];omega
   have Hend:Hid (∀ i,i<288→hit s z pos i=false):=fun i hi=>by
    by_cases e:z i≤(d:Int)
    ·exact Hno.out i hi e
    rw [←Bool.not_eq_true,qbm];intro hh;omega
   go_wp2_with fail;refine (qeC rb s P 1 _ hs hP8 hrd (by omega) (by omega)).mono ?_;rintro e w1 ⟨rfl,q,rfl⟩;have hg2:=qap hg (qaz _ q _);go_wp2;go_ret2
   exact ⟨hg2,.inr ⟨Hend.out,rfl⟩⟩
  have Hend:Hid (∀ i,i<288→hit s z pos i=false):=fun i hi=>Hno.out i hi (by have:=hf.rng i hi;omega)
  go_wp2;go_ret2
  exact ⟨hg,.inr ⟨Hend.out,rfl⟩⟩
theorem qlK (z:Nat→Int) (p j:Nat) (x:Int):(if j=p then Value.int .i64 x else Value.int .i64 (z j))=Value.int .i64 (upd z p x j):=by
 unfold upd;split<;>rfl
theorem qiM (z:Nat→Int) (p j:Nat) (h:z p=0):(if j=p then Value.int .i64 0 else Value.int .i64 (z j))=Value.int .i64 (z j):=by
 by_cases e:j=p
 ·rw [if_pos e,e,h]
 rw [if_neg e]
theorem qiO {a b:World} {g o rb:Nat} (h:a.grownBy b (some rb)) (hg:a.heap.size≤g) (v:Value):a.grownBy (b.setCell ⟨g,o,none⟩ v) (some rb):=
 ⟨h.os,h.tape,h.output,by simpa using h.size,fun k hk hr=>(Below.heap_setCell b ⟨g,o,none⟩ v k (by simp;omega)).trans (h.block k hk hr)⟩
theorem Rd.other {w:World} {rb g o:Nat} {s:List UInt8} {pos:Nat} (h:Rd w rb s pos) (hne:rb≠g) (v:Value):Rd (w.setCell ⟨g,o,none⟩ v) rb s pos:=
 (Below.heap_setCell w ⟨g,o,none⟩ v rb hne).trans h
theorem qlc (rb:Nat) (s:List UInt8) (w:World) (hs:s.length≤140737488351232) (hr:Rd w rb s 0) (R:Option ((Nat→Int) × Nat)) (hR:lensF s 288 0 0 (fun _=>0)=R) :
 Calls Tryz.prog 258 #[.pointer (some ⟨rb,0,none⟩)] w fun e w'=>w.grownBy w' (some rb) ∧
  ((∃ z pos,R=some (z,pos)∧pos≤8*s.length∧e=.returned (.tuple #[.slice (some ⟨w.heap.size,0,none⟩) 288 288,.bool true])∧w'.rowIs w.heap.size 3 288 (fun j=>.int .i64 (z j))∧Rd w' rb s pos) ∨
   (R=none∧e=.returned (.tuple #[.slice none 0 0,.bool false]))):=by
 have Hst:Hid (LensAt s R 0 0 (fun _=>0)):=.inl ⟨by omega,by omega,fun _ _=>rfl,288,by omega,hR⟩;clear hR;obtain ⟨M,hM⟩:∃ M,M=madeCells #[Value.int .i64 0] 288:=⟨_,rfl⟩;have hmk:∀ W:World,(Instr.makeSlice 22 (.int .i64 288) (.int .i64 288)).run Tryz.prog W=.ok (.slice (some ⟨W.heap.size,0,none⟩) 288 288) (W.alloc (.cells M 3)):=fun W=>by
  rw [hM];exact run_make_row' (P:=Tryz.prog) 22 3 (.int .i64 0) 8 Tryz.underlying22 Tryz.info3 rfl .i64 .i64 288 (by omega) (by omega) W
 have hrow0:(w.alloc (.cells M 3)).rowIs w.heap.size 3 288 (fun j=>.int .i64 ((fun _=>0:Nat→Int) j)):=by rw [hM];exact World.rowIs_made w (.int .i64 0) 288 3
 have hlt0:=hr.lt;have hr0:Rd (w.alloc (.cells M 3)) rb s 0:=(Below.heap_alloc w _ rb hlt0).trans hr;have hg0:w.grownBy (w.alloc (.cells M 3)) (some rb):=World.grownBy_alloc w _ _;clear hM hr;go_enter Tryz.func258,Tryz.ntmps258
 go_wp2;clear hmk
 go_loopw [5] (fun x wr=>∃ p pos:Nat,∃ z,p≤288∧pos≤8*s.length∧x=.int .i64 p∧Hid (LensAt s R p pos z)∧wr.rowIs w.heap.size 3 288 (fun j=>.int .i64 (z j))∧Rd wr rb s pos∧w.grownBy wr (some rb)) (fun x _=>288 - (intOf x).toNat)
 case atStart=>exact ⟨0,0,_,by omega,by omega,rfl,Hst,hrow0,hr0,hg0⟩
 case round =>
  clear Hst hrow0 hr0 hg0;obtain ⟨p,pos,z,hp,hpos,rfl,Hl,hrow,hrd,hg⟩:=hrel;by_cases hlt:p<288
  ·have Hzp:=hidI (qip Hl.out hlt).2;by_cases h4:8*s.length<pos+4
   ·have HR:=hidI (qfJ Hl.out hlt h4);go_wp2_with fail;refine (qeC rb s pos 4 _ hs hpos hrd (by omega) h4).mono ?_;rintro e w1 ⟨rfl,q,rfl⟩;have hg1:=qap hg (qaz _ q _);go_wp2;go_ret2
    exact ⟨hg1,.inr ⟨HR.out,rfl⟩⟩
   go_wp2_with fail;refine (qbL rb s pos 4 _ hs hrd (by omega) (by omega)).mono ?_;rintro e w1 ⟨rfl,hrd1,hg1⟩;have hrow1:=qbq hrow hg1 hrd.rowT (by decide);have hg2:=qap hg hg1;clear hrow hrd hg hg1;have h16:=qdW s pos 4;have Hone:Hid (val s pos 4≠0→LensAt s R (p+1) (pos+4) (upd z p (val s pos 4))):=fun h=>qhA Hl.out hlt h4 h
   have Hrun:Hid (val s pos 4=0→¬8*s.length<pos+9→LensAt s R (p+1+val s (pos+4) 5) (pos+9) z):=fun h h9=>qiu Hl.out hlt h4 h h9
   have Hsh:Hid (val s pos 4=0→8*s.length<pos+9→R=none):=fun h h9=>qer Hl.out hlt h4 h h9
   clear Hl
   generalize val s pos 4=v4 at *
   have hcp:=hrow1.cell (i:=p) hlt;have hfp:=hrow1.frozen p;have hlw:=hrow1.lt;have hset:=hrow1.set p (.int .i64 v4);have hg3:=qiO (o:=p) hg2 (Nat.le_refl _) (.int .i64 (v4:Nat));have hrd3:=hrd1.other (g:=w.heap.size) (o:=p) (by omega) (.int .i64 (v4:Nat));by_cases hv:v4=0
   ·have hv0:¬(0:Int)<(v4:Int):=by omega
    have hrow3:(w1.setCell ⟨w.heap.size,p,none⟩ (.int .i64 (v4:Nat))).rowIs w.heap.size 3 288 (fun j=>.int .i64 (z j)):=hset.congr fun j _=>by rw [hv];exact qiM z p j (Hzp.out p (Nat.le_refl _))
    have Hv:=hidI hv;clear hv hset hrow1 hg2 hrd1;obtain ⟨W3,hW3⟩:∃ W,W=w1.setCell ⟨w.heap.size,p,none⟩ (.int .i64 (v4:Nat)):=⟨_,rfl⟩;rw [←hW3] at hrow3 hg3 hrd3;have HW:=hidI hW3;clear hW3;by_cases h9:8*s.length<pos+9
    ·have HR:=hidI (Hsh.out Hv.out h9);go_wp2_with fail;rw [←HW.out];refine (qeC rb s (pos+4) 5 _ hs (by omega) hrd3 (by omega) (by omega)).mono ?_;rintro e w4 ⟨rfl,q,rfl⟩;have hg4:=qap hg3 (qaz _ q _);go_wp2;go_ret2
     exact ⟨hg4,.inr ⟨HR.out,rfl⟩⟩
    go_wp2_with fail;rw [←HW.out];refine (qbL rb s (pos+4) 5 _ hs hrd3 (by omega) (by omega)).mono ?_;rintro e w4 ⟨rfl,hrd4,hg4⟩;have hrow4:=qbq hrow3 hg4 hrd3.rowT (by decide);have hg5:=qap hg3 hg4;have h32:=qdW s (pos+4) 5;have HE:=hidI (Hrun.out Hv.out h9);clear HW hrow3 hg3 hrd3 hg4 Hrun Hone Hsh hcp hfp
    generalize val s (pos+4) 5=v5 at *
    by_cases hov:288≤p+v5
    ·have HR:Hid (R=none):=by
      rcases HE.out with ⟨h,_⟩ | ⟨_,_,h⟩
      ·omega
      exact h
     have hov':(288:Int)≤(p:Int)+(v5:Int):=by omega
     go_wp2;go_ret2
     exact ⟨hg5,.inr ⟨HR.out,rfl⟩⟩
    have hov':¬(288:Int)≤(p:Int)+(v5:Int):=by omega
    have HE':Hid (LensAt s R (p+v5+1) (pos+9) z):=by rw [show p+v5+1=p+1+v5 by omega];exact HE
    clear HE;go_wp2;go_roundw
    case rel=>exact ⟨p+v5+1,pos+9,z,by omega,by omega,by go_num,HE',hrow4,hrd4,hg5⟩
    case measure=>simp [intOf];omega
   have hv0:(0:Int)<(v4:Int):=by omega
   have HE:=hidI (Hone.out hv);have hrow3:(w1.setCell ⟨w.heap.size,p,none⟩ (.int .i64 (v4:Nat))).rowIs w.heap.size 3 288 (fun j=>.int .i64 (upd z p v4 j)):=hset.congr fun j _=>qlK z p j _
   clear hset hrow1 hg2 hrd1 Hone Hrun Hsh;go_wp2;go_roundw
   case rel=>exact ⟨p+1,pos+4,_,by omega,by omega,by go_num,HE,hrow3,hrd3,hg3⟩
   case measure=>simp [intOf];omega
  have h288:p=288:=by omega
  subst h288;obtain ⟨hRs,hpl⟩:=qig Hl.out;have HR:=hidI hRs;clear hRs Hl;go_wp2;go_ret2
  exact ⟨hg,.inl ⟨z,pos,HR.out,hpl,rfl,hrow,hrd⟩⟩
theorem qb3 {a b c:World} {rb:Nat} {row:Option Nat} (h:a.grownBy b (some rb)) (k:b.grownBy c row) (hr:∀ g,row=some g→a.heap.size≤g):a.grownBy c (some rb):=
 ⟨k.os.trans h.os,k.tape.trans h.tape,k.output.trans h.output,Nat.le_trans h.size k.size,fun i hi hne =>
  (k.block i (Nat.lt_of_lt_of_le hi h.size) (fun e=>by have:=hr i e.symm;omega)).trans (h.block i hi hne)⟩
theorem qk6 (rb db base:Nat) (z:Nat→Int) (s:List UInt8) (pos size:Nat) (w:World) (hs:s.length≤140737488351232) (hf:Fits z 288) (hr:Rd w rb s pos) (hp:pos≤8*s.length) (hdc:Dc w base db z) (h1:1≤size) (h4:size≤4000)
 (RD:Option (List UInt8 × Nat)) (hRD:dataF s z 288 size size [] pos=RD) :
 Calls Tryz.prog 260 #[.pointer (some ⟨rb,0,none⟩),.pointer (some ⟨db,0,none⟩),.int .i64 (size:Nat)] w fun e w'=>w.grownBy w' (some rb) ∧
  ((∃ out p a c n,RD=some (out,p)∧p≤8*s.length∧e=.returned (.tuple #[.slice a n c,.bool true])∧w'.ownsRow w.heap.size 5 1 (.slice a n c) n (Lib.strCells (txt out))∧Rd w' rb s p) ∨
   (RD=none∧e=.returned (.tuple #[.slice none 0 0,.bool false]))):=by
 obtain ⟨i0,hi,hz0,hz1,hz2⟩:=info_parts Tryz.info5;have Hst:Hid (DataAt s z size RD [] pos):=⟨by simp,hp,size,by simp,hRD⟩;clear hRD;go_enter Tryz.func260,Tryz.ntmps260
 go_wp2_with (at_make;refine wpList_make_own _ rfl _ _ 111 rfl w.heap.size 5 i0 (.int .u8 0) 1 Tryz.underlying111 hi hz0 hz1 .i64 .i64 (size:Int) size rfl rfl ?k0 ?k1 ?k2 ?k3 ?_)
 case k0=>rfl
 case k1=>rw [hz2];omega
 case k2=>unfold maxLen;omega
 case k3=>omega
 intro w0 hown0 hgrow0;have hT0:RowT w none 295:=fun g hg=>by cases hg
 have hr0:=hr.keep hgrow0 (tr:=5) (fun g hg=>by cases hg) (by decide);have hdc0:=hdc.keep hgrow0 (tr:=5) (fun g hg=>by cases hg) (by decide) (by decide);have hg0:w.grownBy w0 (some rb):=⟨hgrow0.os,hgrow0.tape,hgrow0.output,hgrow0.size,fun k hk _=>hgrow0.block k hk (by simp)⟩;clear hgrow0 hr hdc hT0;go_wp2
 go_loopw [8] (fun v wr=>∃ (out:List UInt8) (P n:Nat),n≤out.length∧out.length≤n∧(∃ a' c',v=.slice a' n c')∧n≤size∧P≤8*s.length∧Hid (DataAt s z size RD out P)∧wr.ownsRow w.heap.size 5 1 v n (Lib.strCells (txt out))∧Rd wr rb s P∧Dc wr base db z∧w.grownBy wr (some rb)) (fun v _=>4001 - lenOf v)
 case atStart=>exact ⟨[],pos,0,by simp,by simp,⟨_,_,rfl⟩,by omega,hp,Hst,hown0,hr0,hdc0,hg0⟩
 case round =>
  clear Hst hown0 hr0 hdc0 hg0 hp;obtain ⟨out,P,n,hn1,hn2,⟨a',c',rfl⟩,hn,hP,Hd,hown,hrd,hdc,hg⟩:=hrel;have hol:out.length=n:=by omega
  have Hol:=hidI hol;have hsz:=hg.size;clear hol;by_cases hlt:n<size
  ·have Hlts:Hid (out.length<size):=by have h1:=Hol.out;show _<_;omega
   go_wp2_with fail;refine (qln rb db base z s P _ hs hf hrd hP hdc).mono ?_;rintro e w1 ⟨hg1,hres⟩;have hown1:=qbS hown hg1 hrd.rowT (by decide);have hdc1:=hdc.keep hg1 hrd.rowT (by decide) (by decide);have hg2:=qap hg hg1;have hsz2:=hg2.size;clear hown hdc hg hg1 hrd;rcases hres with ⟨i,hi8,hhit,rfl,hrd1⟩ | ⟨hnone,rfl⟩
   ·have hh:=(qbm s z P i).1 hhit;have hpe:P+(z i).toNat≤8*s.length:=hh.2.1;have Hb1:=hidI (fun h=>qgm Hd.out Hlts.out hhit h);have Hb2:=hidI (fun h h2=>qfg Hd.out Hlts.out hi8 hhit h h2);have Hb3:=hidI (fun h h2 h3=>qhY Hd.out Hlts.out hi8 hhit h h2 h3);have Hb4:=hidI (fun h h2 h3=>qfY Hd.out Hlts.out hi8 hhit h h2 h3);clear hh hhit Hd
    generalize (z i).toNat=zi at *
    by_cases hi256:i<256
    ·have Hnew:=hidI (Hb1.out hi256);clear Hb1 Hb2 Hb3 Hb4;go_wp2_with (at_builtin;refine wpList_append_own _ rfl (.tmp 30) (.tmp 33) 111 rfl w.heap.size 5 i0 (.int .u8 0) 1 1 Tryz.underlying111 hi hz0 hz1 hz2 rfl (by decide) _ _ _ rfl (hown1.alloc _) ⟨w1.heap.size,0,none⟩ 1 1 [.int .u8 i] rfl rfl ?c1 ?c2 ?c3 ?c4 ?c5 ?_)
     case c1=>exact cell_one_new _ _ _
     case c2=>intro u hu;simp at hu;subst hu;rfl
     case c3=>unfold maxLen;omega
     case c4=>omega
     case c5=>simp;omega
     intro v5 w5 hown5 hgrow _;have e1:((UInt8.ofNat i).toNat:Int)=(i:Int):=by rw [qhy i hi256]
     rw [←e1,qbP] at hown5;have hTo:=qeI (hown1.alloc (.cells #[.int .u8 (i:Nat)] 5));have hal:=World.grownBy_alloc w1 (.cells #[.int .u8 (i:Nat)] 5) none;have hg5:=qb3 (qb3 hg2 hal (fun g hg=>by cases hg)) hgrow (fun g hg=>(hown1.lt g hg).1);have hrd5:=(hrd1.keep hal (tr:=5) (fun g hg=>by cases hg) (by decide)).keep hgrow hTo (by decide);have hdc5:=(hdc1.keep hal (tr:=5) (fun g hg=>by cases hg) (by decide) (by decide)).keep hgrow hTo (by decide) (by decide);obtain ⟨_,a5,c5,hv5⟩:=qej hown5;subst hv5;clear hown1 hgrow hg2 hdc1 hrd1 e1 hTo hal;go_wp2;go_roundw
     case rel=>exact ⟨_,P+zi,n+1,by simp;omega,by simp;omega,⟨a5,c5,rfl⟩,by omega,hpe,Hnew,hown5,hrd5,hdc5,hg5⟩
     case measure=>simp [lenOf];omega
    by_cases hsh:8*s.length<P+zi+12
    ·have HN:=hidI (Hb2.out hi256 hsh);clear Hb1 Hb2 Hb3 Hb4;go_wp2_with fail;refine (qeC rb s (P+zi) 12 _ hs hpe hrd1 (by omega) hsh).mono ?_;rintro e w3 ⟨rfl,q,rfl⟩;have hg3:=qap hg2 (qaz _ q _);go_wp2;go_ret2
     exact ⟨hg3,.inr ⟨HN.out,rfl⟩⟩
    go_wp2_with fail;refine (qbL rb s (P+zi) 12 _ hs hrd1 (by omega) (by omega)).mono ?_;rintro e w3 ⟨rfl,hrd3,hg3⟩;have hown3:=qbS hown1 hg3 hrd1.rowT (by decide);have hdc3:=hdc1.keep hg3 hrd1.rowT (by decide) (by decide);have hg4:=qap hg2 hg3;have hsz4:=hg4.size;have h4096:=qdW s (P+zi) 12;have Hb3':=hidI (Hb3.out hi256 hsh);have Hb4':=hidI (Hb4.out hi256 hsh);clear Hb1 Hb2 Hb3 Hb4 hown1 hdc1 hg2 hg3 hrd1
    generalize val s (P+zi) 12=v12 at *
    by_cases hback:n<v12+1
    ·have hd1:decide ((n:Int)<(v12:Int)+1)=true:=by simp;omega
     have HN:=hidI (Hb3'.out (by have h1:=Hol.out;omega));go_wp2;go_ret2
     exact ⟨hg4,.inr ⟨HN.out,rfl⟩⟩
    have hd1:decide ((n:Int)<(v12:Int)+1)=false:=by simp;omega
    by_cases hlong:size<n+(i - 253)
    ·have hd2:decide ((size:Int) - (n:Int)<(i:Int) - 253)=true:=by simp;omega
     have HN:=hidI (Hb3'.out (by have h1:=Hol.out;omega));go_wp2;go_ret2
     exact ⟨hg4,.inr ⟨HN.out,rfl⟩⟩
    have hd2:decide ((size:Int) - (n:Int)<(i:Int) - 253)=false:=by simp;omega
    have Hnew:=hidI (Hb4'.out (by have h1:=Hol.out;omega));clear Hb3' Hb4';go_wp2
    go_loopw [8,61] (fun v x wr=>∃ k:Nat,k≤i - 253∧x=.int .i64 k∧wr.ownsRow w.heap.size 5 1 v (n+k) (Lib.strCells (txt (cpy out (v12+1) k)))∧(∃ a' c',v=.slice a' (n+k) c')∧Rd wr rb s (P+zi+12)∧Dc wr base db z∧w.grownBy wr (some rb)) (fun _ x _=>(i - 253) - (intOf x).toNat)
    case atStart=>exact ⟨0,by omega,rfl,hown3,⟨_,_,rfl⟩,hrd3,hdc3,hg4⟩
    clear hown3 hrd3 hdc3 hg4 hsz4;obtain ⟨k,hk,rfl,hown,⟨ak,ck,rfl⟩,hrd,hdc,hg⟩:=hrel;have hszk:=hg.size;by_cases hki:k<i - 253
    ·have hki':(k:Int)<(i:Int) - 253:=by omega
     obtain ⟨g,cap,hv,hcell⟩:=qlL hown (by omega);simp at hv;obtain ⟨rfl,rfl⟩:=hv;have hlen:=(qej hown).1;have hck:=hcell (n+k - (v12+1)) (by omega);obtain ⟨x,hx⟩:∃ x,x=(cpy out (v12+1) k).getD (n+k - (v12+1)) 0:=⟨_,rfl⟩;rw [←hx] at hck;have Hx:Hid (cpy out (v12+1) k++[x]=cpy out (v12+1) (k+1)):=by
      show _=cpy out (v12+1) k++[_];rw [hlen,hx]
     have hx256:=x.toNat_lt;clear hx hcell hlen;go_wp2_with (at_builtin;refine wpList_append_own _ rfl (.tmp 63) (.tmp 71) 111 rfl w.heap.size 5 i0 (.int .u8 0) 1 1 Tryz.underlying111 hi hz0 hz1 hz2 rfl (by decide) _ _ _ rfl (hown.alloc _) ⟨wr.heap.size,0,none⟩ 1 1 [.int .u8 x.toNat] rfl rfl ?d1 ?d2 ?d3 ?d4 ?d5 ?_)
     case d1=>exact cell_one_new _ _ _
     case d2=>intro u hu;simp at hu;subst hu;rfl
     case d3=>unfold maxLen;omega
     case d4=>omega
     case d5=>simp;omega
     intro v6 w6 hown6 hgrow _;rw [qbP,Hx.out] at hown6;have hTo:=qeI (hown.alloc (.cells #[.int .u8 (x.toNat:Nat)] 5));have hal:=World.grownBy_alloc wr (.cells #[.int .u8 (x.toNat:Nat)] 5) none;have hg6:=qb3 (qb3 hg hal (fun g hg=>by cases hg)) hgrow (fun g hg=>(hown.lt g hg).1);have hrd6:=(hrd.keep hal (tr:=5) (fun g hg=>by cases hg) (by decide)).keep hgrow hTo (by decide);have hdc6:=(hdc.keep hal (tr:=5) (fun g hg=>by cases hg) (by decide) (by decide)).keep hgrow hTo (by decide) (by decide);obtain ⟨_,a6,c6,hv6⟩:=qej hown6;subst hv6;clear hown hgrow hg hdc hrd hTo hal hck;go_wp2;go_roundw
     case rel=>exact ⟨k+1,by omega,by go_num,hown6,⟨a6,c6,rfl⟩,hrd6,hdc6,hg6⟩
     case measure=>simp [intOf];omega
    have hki':¬(k:Int)<(i:Int) - 253:=by omega
    have hke:k=i - 253:=by omega
    have Hk:=hidI hke;clear hke;go_wp2;go_roundw
    case rel =>
     have hl:=(qej hown).1;exact ⟨cpy out (v12+1) k,P+zi+12,n+k,by omega,by omega,⟨ak,ck,rfl⟩,by omega,by omega,by rw [Hk.out];exact Hnew,hown,hrd,hdc,hg⟩
    case measure=>simp [lenOf];omega
   have HN:=hidI (qf8 Hd.out Hlts.out (qe2 s z P 288 hnone));go_wp2;go_ret2
   exact ⟨hg2,.inr ⟨HN.out,rfl⟩⟩
  have HN:=hidI (qiq Hd.out (by have h1:=Hol.out;omega));go_wp2;go_ret2
  exact ⟨hg,.inl ⟨out,P,_,_,_,HN.out,hP,rfl,hown,hrd⟩⟩
end Go.Proofs.YtodmdkhdbfbfgaaGreatDoor.S1
