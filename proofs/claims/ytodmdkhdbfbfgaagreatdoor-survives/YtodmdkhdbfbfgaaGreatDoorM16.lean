/- Lemmas. -/
import Derived.Lib.OwnKind
import Derived.Test.YtodmdkhdbfbfgaaGreatDoorM15
set_option linter.unusedVariables false
set_option linter.unusedSimpArgs false
set_option maxRecDepth 100000
set_option maxHeartbeats 8000000
namespace Go.Proofs.YtodmdkhdbfbfgaaGreatDoor
namespace S1
open Go.RowKit Pk
structure BW (w:World) (B g:Nat) (b:List UInt8) (pos:Nat):Prop where
 hg:B≤g
 st:∃ v,w.heap[g]? = some (.cells #[v,.int .i64 ((8*b.length - pos:Nat):Int)] 279 (0,0))∧w.ownsRow B 5 1 v b.length (b.map fun c=>.int .u8 (c.toNat:Nat))
 wr:Wr b pos
theorem qga {w:World} {B n:Nat} {e:TypeId} {v:Value} {xs:List Value} (h:w.ownsRow B e 1 v n xs) (hn:0<n):∃ r cap,v=.slice (some ⟨r,0,none⟩) n cap∧B≤r:=by
 obtain ⟨r,cap,h1,h2,_⟩:=h.form hn;exact ⟨r,cap,h1,h2⟩
theorem qhK (u x q:Nat) (hq:q≤7) (hx:x<2) (hu:u<256) (hm:u%2^(q+1)=0):bits .or .u8 (u:Int) ((x*2^q:Nat):Int)=((u+x*2^q:Nat):Int):=by
 have h1:x*2^q<2^(q+1):=by
  rw [Nat.pow_succ]
  have:=Nat.pow_pos (n:=q) (show 0<2 by omega)
  have:x*2^q≤1*2^q:=Nat.mul_le_mul_right _ (by omega)
  omega
 have h2:2^(q+1)≤2^8:=Nat.pow_le_pow_right (by omega) (by omega);rw [bits_join .u8 8 (by decide) wraps_u8 (q+1) (u:Int) ((x*2^q:Nat):Int) (by omega) (by exact_mod_cast hm) (by omega) (by omega) (by exact_mod_cast h1) (by omega)];omega
theorem qfd (n k j q:Nat) (hq:q≤7):bits BinOp.and IntKind.i64 ((n:Int)/2^(k - 1 - j)) 1%256*2^q%256=((n/2^(k - 1 - j)%2*2^q:Nat):Int):=by
 rw [qm2];have h:((n:Int)/2^(k - 1 - j))=((n/2^(k - 1 - j):Nat):Int):=by simp
 rw [h];have h2:(2:Nat)^q≤2^7:=Nat.pow_le_pow_right (by omega) hq;have h3:((2:Int)^q)=((2^q:Nat):Int):=by simp
 rw [h3]
 generalize n/2^(k - 1 - j)=y
 generalize 2^q=p at *
 have h4:y%2=0∨y%2=1:=by omega
 rcases h4 with h4 | h4
 ·rw [h4];have:(y:Int)%2=0:=by omega
  rw [this];simp
 rw [h4];have:(y:Int)%2=1:=by omega
 rw [this];simp;omega
theorem qhM {W:World} {B g r cap:Nat} {c:List UInt8} {p q x y:Nat} (hg:B≤g) (hst:W.heap[g]? = some (.cells #[.slice (some ⟨r,0,none⟩) c.length cap,.int .i64 (q:Nat)] 279 (0,0))) (hown:W.ownsRow B 5 1 (.slice (some ⟨r,0,none⟩) c.length cap) c.length (c.map fun c=>.int .u8 (c.toNat:Nat)))
 (h1:p<8*c.length) (h2:8*c.length≤p+8) (hz:∀ i,p≤i→bt c i=0) (hx:x<2) (hq:8*c.length - p - 1=q) (hy:y=(c.getD (c.length - 1) 0).toNat+x*2^q) :
 ∃ c',BW (W.setCell ⟨r,c.length - 1,none⟩ (.int .u8 (y:Nat))) B g c' (p+1)∧Ag c c' p∧bt c' p=x∧c'.length=c.length:=by
 obtain ⟨_,hlt,hset⟩:=qkt c p x h1 h2 hz hx;rw [hq] at hlt hset;have hy2:(UInt8.ofNat y).toNat=y:=by rw [UInt8.toNat_ofNat'];omega
 obtain ⟨hw,ha,hb⟩:=hset (UInt8.ofNat y) (by rw [hy2,hy]);have hlen:(c.set (c.length - 1) (UInt8.ofNat y)).length=c.length:=List.length_set ..;have hgr:g≠r:=by
  intro e;subst e;obtain ⟨_,_,hk⟩:=Lib.ownsRow_kind hown g rfl;rw [hst] at hk;simp at hk
 refine ⟨_,⟨hg,⟨.slice (some ⟨r,0,none⟩) c.length cap,?_,?_⟩,hw⟩,ha,hb,hlen⟩
 ·rw [hlen,show 8*c.length - (p+1)=q by omega];rw [Below.heap_setCell W ⟨r,c.length - 1,none⟩ _ g hgr];exact hst
 have:=(hown.stored (c.length - 1) (.int .u8 (y:Nat))).1
 rw [hlen];rw [List.map_set,hy2];exact this
theorem qe8 (w:World) (B g:Nat) (b:List UInt8) (pos n k:Nat) (hB:B≤w.heap.size) (hb:0<b.length) (hp:pos≤400000) (hk:k≤12) (hn:n<2^k) (h:BW w B g b pos) :
 Calls Tryz.prog 250 #[.pointer (some ⟨g,0,none⟩),.int .i64 (n:Nat),.int .i64 (k:Nat)] w fun e w'=>e=.returned (.tuple #[])∧∃ b',BW w' B g b' (pos+k)∧Ag b b' pos∧val b' pos k=n∧Below B w w':=by
 have Hn:=hidI hn;have Hh:=hidI h;have hn12:n<4096:=by
  have:=Nat.pow_le_pow_right (show 0<2 by omega) hk
  omega
 clear hn h;obtain ⟨i0,hi,hz0,hz1',hz2⟩:=info_parts Tryz.info5;go_enter Tryz.func250,Tryz.ntmps250
 go_wp2
 go_loopw [6] (fun i wr=>∃ j:Nat,j≤k∧i=.int .i64 ((k:Int) - 1 - (j:Int))∧∃ c,BW wr B g c (pos+j)∧Ag b c pos∧val c pos j=n/2^(k - j)∧Below B w wr) (fun i _=>(intOf i+1).toNat)
 case atStart =>
  refine ⟨0,by omega,by go_num,b,Hh.out,Ag.refl _ _,?_,Below.refl _ _⟩;rw [Nat.sub_zero,Nat.div_eq_of_lt Hn.out];rfl
 case round =>
  clear Hh;obtain ⟨j,hj,rfl,c,hc,hag,hv,hbel⟩:=hrel;by_cases hlt:j<k
  ·obtain ⟨v,hst,hown⟩:=hc.st;have hwr:=hc.wr;have hg:=hc.hg;have hcl:0<c.length:=Nat.lt_of_lt_of_le hb hag.len;have Hwr:=hidI hwr;have Hv:=hidI hv;have Hag:=hidI hag;have hlo:=hwr.lo;have hhi:=hwr.hi;obtain ⟨r,cap,rfl,hr⟩:=qga hown hcl;clear hc hwr hv hag;have hz1:decide (0≤(k:Int) - 1 - (j:Int))=true:=by simp;omega
   by_cases h0:pos+j=8*c.length
   ·have h80:8*c.length - (pos+j)=0:=by omega
    rw [h80] at hst;have x0:wr.cell? ⟨g,0,none⟩=some (.slice (some ⟨r,0,none⟩) c.length cap):=by rw [cell_of_row wr g 0 _ 279 (0,0) hst];rfl
    have x1:wr.cell? ⟨g,1,none⟩=some (.int .i64 0):=by rw [cell_of_row wr g 1 _ 279 (0,0) hst];rfl
    have hwB:B≤wr.heap.size:=Nat.le_trans hB hbel.size;have hcb:c.length≤100000:=by omega
    have Hst:=hidI hst;have Hbel:=hidI hbel;clear hst hbel h80;go_wp2_with (at_builtin;refine wpList_append_lies _ rfl (.tmp 22) (.tmp 23) 111 rfl B 5 i0 (.int .u8 0) 1 1 Tryz.underlying111 hi hz0 hz1' hz2 rfl (by decide) (.slice (some ⟨r,0,none⟩) c.length cap) c.length _ rfl (hown.alloc _) ⟨wr.heap.size,0,none⟩ 1 1 [.int .u8 0] rfl rfl (cell_one_new _ _ _) (by intro u hu;simp at hu;subst hu;rfl) (by omega) (by unfold maxLen;omega) (by omega) (by simp;omega) (wr.heap.size+1) (by simp) ?_);intro r2 cap2 w2 hown2 hgrow hat hlt2;have hst1:=(((Keeps.refl 279 wr).alloc _).grown (hown.alloc _) (by decide) hgrow).block Hst.out;have Hbel1:Hid (Below B w w2):=(Hbel.out.alloc hwB _).grown hgrow (by simp;omega) (fun q hq=>(hown.lt q hq).1);have hown2:w2.ownsRow B 5 1 (.slice (some ⟨r2,0,none⟩) (c++[0]).length cap2) (c++[0]).length ((c++[(0:UInt8)]).map fun (y:UInt8)=>.int .u8 (y.toNat:Nat)):=by
     rw [List.length_append,List.map_append];exact hown2
    have hr2:B≤r2:=(hown2.lt r2 rfl).1;have y0:w2.cell? ⟨g,0,none⟩=some (.slice (some ⟨r,0,none⟩) c.length cap):=by rw [cell_of_row w2 g 0 _ 279 (0,0) hst1];rfl
    have yf0:=frozen_of_row w2 g 0 _ 279 hst1;have hst2:=heap_setCell_same w2 g 0 _ 279 (.slice (some ⟨r2,0,none⟩) (c.length+1) cap2) hst1;have y1:(w2.setCell ⟨g,0,none⟩ (.slice (some ⟨r2,0,none⟩) (c.length+1) cap2)).cell? ⟨g,1,none⟩=some (.int .i64 0):=by rw [cell_of_row _ g 1 _ 279 (0,0) hst2];rfl
    have yf1:=frozen_of_row _ g 1 _ 279 hst2;have hst3:=heap_setCell_same _ g 1 _ 279 (.int .i64 8) hst2;have z1:((w2.setCell ⟨g,0,none⟩ (.slice (some ⟨r2,0,none⟩) (c.length+1) cap2)).setCell ⟨g,1,none⟩ (.int .i64 8)).cell? ⟨g,1,none⟩=some (.int .i64 8):=by rw [cell_of_row _ g 1 _ 279 (0,0) hst3];rfl
    have zf1:=frozen_of_row _ g 1 _ 279 hst3;have hst4:=heap_setCell_same _ g 1 _ 279 (.int .i64 7) hst3;have hgr:g≠r2:=by
     intro e;subst e;obtain ⟨_,_,hk⟩:=Lib.ownsRow_kind hown2 g rfl;rw [hst1] at hk;simp at hk
    have hgv:(Value.slice (some ⟨r2,0,none⟩) (c++[0]).length cap2).ownBlock≠some g:=by simp [Value.ownBlock];exact fun e=>hgr e.symm
    have hown4:=ownsRow_setCell_other (a:=⟨g,1,none⟩) (ownsRow_setCell_other (a:=⟨g,1,none⟩) (ownsRow_setCell_other (a:=⟨g,0,none⟩) hown2 hgv (.slice (some ⟨r2,0,none⟩) (c.length+1) cap2)) hgv (.int .i64 8)) hgv (.int .i64 7);have Hbel4:=hidI (((Hbel1.out.setCell (p:=⟨g,0,none⟩) hg (.slice (some ⟨r2,0,none⟩) (c.length+1) cap2)).setCell (p:=⟨g,1,none⟩) hg (.int .i64 8)).setCell (p:=⟨g,1,none⟩) hg (.int .i64 7));have hs4:(c++[0]).length=c.length+1:=by simp
    have v0:(((w2.setCell ⟨g,0,none⟩ (.slice (some ⟨r2,0,none⟩) (c.length+1) cap2)).setCell ⟨g,1,none⟩ (.int .i64 8)).setCell ⟨g,1,none⟩ (.int .i64 7)).cell? ⟨g,0,none⟩=some (.slice (some ⟨r2,0,none⟩) (c.length+1) cap2):=by rw [cell_of_row _ g 0 _ 279 (0,0) hst4];rfl
    have v1:(((w2.setCell ⟨g,0,none⟩ (.slice (some ⟨r2,0,none⟩) (c.length+1) cap2)).setCell ⟨g,1,none⟩ (.int .i64 8)).setCell ⟨g,1,none⟩ (.int .i64 7)).cell? ⟨g,1,none⟩=some (.int .i64 7):=by rw [cell_of_row _ g 1 _ 279 (0,0) hst4];rfl
    have vr:(((w2.setCell ⟨g,0,none⟩ (.slice (some ⟨r2,0,none⟩) (c.length+1) cap2)).setCell ⟨g,1,none⟩ (.int .i64 8)).setCell ⟨g,1,none⟩ (.int .i64 7)).cell? ⟨r2,c.length,none⟩=some (.int .u8 0):=by
     rw [hown4.cellAt c.length (by simp),List.map_append,List.getElem?_append_right (by simp)];simp
    have vf:=hown4.frozenAt c.length;have Hst4:Hid ((((w2.setCell ⟨g,0,none⟩ (.slice (some ⟨r2,0,none⟩) (c.length+1) cap2)).setCell ⟨g,1,none⟩ (.int .i64 8)).setCell ⟨g,1,none⟩ (.int .i64 7)).heap[g]? = some (.cells #[.slice (some ⟨r2,0,none⟩) (c++[0]).length cap2,.int .i64 ((7:Nat):Int)] 279 (0,0))):=by
     show _=_;rw [hst4,hs4];rfl
    have Hown4:=hidI hown4;clear hst1 hst2 hst3 hst4 hown hown2 hown4 hgrow hat x0 x1 Hst Hbel Hbel1 hs4;go_wp2;go_region;have hor:bits BinOp.or IntKind.u8 0 (bits BinOp.and IntKind.i64 ((n:Int)/2^(k - 1 - j)) 1%256*128%256)=((0+n/2^(k - 1 - j)%2*2^7:Nat):Int):=by
     have h1:=qfd n k j 7 (by omega);rw [show (2:Int)^7=128 by decide] at h1;rw [h1];exact qhK 0 _ 7 (by omega) (Nat.mod_lt _ (by omega)) (by omega) (by simp)
    rw [hor];have hz:∀ i,pos+j≤i→bt (c++[0]) i=0:=fun i hi=>qjJ c i (by omega)
    obtain ⟨c',hbw,ha,hbt,hcl'⟩:=qhM (c:=c++[0]) (p:=pos+j) (q:=7) (x:=n/2^(k - 1 - j)%2) (y:=0+n/2^(k - 1 - j)%2*2^7) hg Hst4.out Hown4.out (by simp;omega) (by simp;omega) hz (Nat.mod_lt _ (by omega)) (by simp;omega) (by simp);rw [show (c++[(0:UInt8)]).length - 1=c.length by simp] at hbw;have hbel2:=Hbel4.out.setCell (p:=⟨r2,c.length,none⟩) hr2 (.int .u8 ((0+n/2^(k - 1 - j)%2*2^7:Nat):Int));have ha2:Ag c c' pos:=⟨by rw [hcl'];simp,fun i hi=>by rw [ha.bit i (by omega),qb9 c [0] i (by omega)]⟩;have hvv:val c' pos j=val c pos j:=by
     rw [ha.val pos j (by omega)];have hab:Ag c (c++[0]) (8*c.length):=⟨by simp,fun i hi=>qb9 c [0] i hi⟩;exact hab.val pos j (by omega)
    have hv2:val c' pos (j+1)=n/2^(k - (j+1)):=by
     rw [qaH,hbt,hvv,Hv.out];exact qcT n k j hlt
    generalize ((((w2.setCell ⟨g,0,none⟩ (.slice (some ⟨r2,0,none⟩) (c.length+1) cap2)).setCell ⟨g,1,none⟩ (.int .i64 8)).setCell ⟨g,1,none⟩ (.int .i64 7)).setCell ⟨r2,c.length,none⟩ (.int .u8 ((0+n/2^(k - 1 - j)%2*2^7:Nat):Int)))=W2 at *
    have Hend:Hid (BW W2.drew B g c' (pos+(j+1))∧Ag b c' pos∧val c' pos (j+1)=n/2^(k - (j+1))∧Below B w W2.drew):=⟨⟨hbw.hg,hbw.st,hbw.wr⟩,Hag.out.trans ha2 (Nat.le_refl _),hv2,hbel2.drew⟩;clear y0 yf0 y1 yf1 z1 zf1 v0 v1 vr vf hbw ha hbt hv2 hbel2 hor Hst4 Hown4 Hbel4;go_wp2;go_roundw
    case rel=>exact ⟨j+1,by omega,by go_num,c',Hend.out⟩
    case measure=>simp [intOf];omega
   obtain ⟨q,hq⟩:∃ q,8*c.length - (pos+j)=q+1:=⟨8*c.length - (pos+j) - 1,by omega⟩;rw [hq] at hst;have hqb:q≤6:=by omega
   have x0:wr.cell? ⟨g,0,none⟩=some (.slice (some ⟨r,0,none⟩) c.length cap):=by rw [cell_of_row wr g 0 _ 279 (0,0) hst];rfl
   have x1:wr.cell? ⟨g,1,none⟩=some (.int .i64 ((q+1:Nat):Int)):=by rw [cell_of_row wr g 1 _ 279 (0,0) hst];rfl
   have f1:=frozen_of_row wr g 1 _ 279 hst;have hne:(((q+1:Nat):Int)==0)=false:=by simp;omega
   have hst2:=heap_setCell_same wr g 1 _ 279 (.int .i64 (q:Nat)) hst;have y0:(wr.setCell ⟨g,1,none⟩ (.int .i64 (q:Nat))).cell? ⟨g,0,none⟩=some (.slice (some ⟨r,0,none⟩) c.length cap):=by rw [cell_of_row _ g 0 _ 279 (0,0) hst2];rfl
   have y1:(wr.setCell ⟨g,1,none⟩ (.int .i64 (q:Nat))).cell? ⟨g,1,none⟩=some (.int .i64 (q:Nat)):=by rw [cell_of_row _ g 1 _ 279 (0,0) hst2];rfl
   have hgr:g≠r:=by
    intro e;subst e;obtain ⟨_,_,hk⟩:=Lib.ownsRow_kind hown g rfl;rw [hst] at hk;simp at hk
   obtain ⟨u,hu⟩:∃ u,u=(c.getD (c.length - 1) 0).toNat:=⟨_,rfl⟩;have yr:(wr.setCell ⟨g,1,none⟩ (.int .i64 (q:Nat))).cell? ⟨r,c.length - 1,none⟩=some (.int .u8 (u:Nat)):=by
    rw [qbN _ (fun e=>hgr e.symm),hown.cellAt (c.length - 1) (by omega),hu,List.getElem?_map,List.getD_eq_getElem?_getD,List.getElem?_eq_getElem (by omega)];rfl
   have fr:(wr.setCell ⟨g,1,none⟩ (.int .i64 (q:Nat))).frozen? ⟨r,c.length - 1,none⟩=false:=by
    rw [qbr _ (fun e=>hgr e.symm)];exact hown.frozenAt (c.length - 1)
   have hu256:u<256:=by rw [hu];exact UInt8.toNat_lt _
   have Hu:=hidI hu;have Hq:=hidI hq;have Hst2:=hidI hst2;have Hown:=hidI hown;have Hbel:=hidI hbel;clear hst hst2 hown hbel hu hq;rw [show ((q+1:Nat):Int)=(q:Int)+1 by omega] at x1 hne;go_wp2;go_region;rw [qfd n k j q (by omega),qhK u (n/2^(k - 1 - j)%2) q (by omega) (Nat.mod_lt _ (by omega)) hu256 (by
    have:=(qkt c (pos+j) 0 (by omega) (by omega) Hwr.out.zero (by omega)).1
    rw [Hq.out] at this;rw [Hu.out];exact this)]
   have hown2:(wr.setCell ⟨g,1,none⟩ (.int .i64 (q:Nat))).ownsRow B 5 1 (.slice (some ⟨r,0,none⟩) c.length cap) c.length (c.map fun c=>.int .u8 (c.toNat:Nat)):=ownsRow_setCell_other Hown.out (by simp [Value.ownBlock];exact fun e=>hgr e.symm) _;obtain ⟨c',hbw,ha,hbt,hcl'⟩:=qhM (p:=pos+j) (q:=q) (x:=n/2^(k - 1 - j)%2) (y:=u+n/2^(k - 1 - j)%2*2^q) hg Hst2.out hown2 (by omega) (by omega) Hwr.out.zero (Nat.mod_lt _ (by omega)) (by have:=Hq.out;omega) (by rw [Hu.out]);have hbel2:=(Hbel.out.setCell (p:=⟨g,1,none⟩) hg (.int .i64 (q:Nat))).setCell (p:=⟨r,c.length - 1,none⟩) hr (.int .u8 ((u+n/2^(k - 1 - j)%2*2^q:Nat):Int));have hv2:val c' pos (j+1)=n/2^(k - (j+1)):=by
    rw [qaH,hbt,ha.val pos j (by omega),Hv.out];exact qcT n k j hlt
   generalize ((wr.setCell ⟨g,1,none⟩ (.int .i64 (q:Nat))).setCell ⟨r,c.length - 1,none⟩ (.int .u8 ((u+n/2^(k - 1 - j)%2*2^q:Nat):Int)))=W2 at *
   have Hend:Hid (BW W2.drew B g c' (pos+(j+1))∧Ag b c' pos∧val c' pos (j+1)=n/2^(k - (j+1))∧Below B w W2.drew):=⟨⟨hbw.hg,hbw.st,hbw.wr⟩,Hag.out.trans ha (by omega),hv2,hbel2.drew⟩;clear x0 x1 f1 y0 y1 yr fr hbw ha hbt hv2 hbel2 hown2;go_wp2;go_roundw
   case rel=>exact ⟨j+1,by omega,by go_num,c',Hend.out⟩
   case measure=>simp [intOf];omega
  have hjk:j=k:=by omega
  subst hjk;have hz1:decide (0≤(j:Int) - 1 - (j:Int))=false:=by simp;omega
  have Hc:=hidI hc;have Hag:=hidI hag;have Hv:=hidI hv;have Hbel:=hidI hbel;clear hc hag hv hbel;go_wp2;go_end0
  refine ⟨rfl,c,Hc.out,Hag.out,?_,Hbel.out⟩
  have:=Hv.out
  rw [Nat.sub_self,Nat.pow_zero,Nat.div_one] at this;exact this
end S1
namespace S1.Pk
variable {b b' d:List UInt8} {z:Nat→Int} {p F i a:Nat}
theorem qjn (f:List UInt8) (k i:Nat):bt (f.drop k) i=bt f (8*k+i):=by
 unfold bt;rw [List.getD_eq_getElem?_getD,List.getD_eq_getElem?_getD,List.getElem?_drop,show k+i/8=(8*k+i)/8 by omega,show (8*k+i)%8=i%8 by omega]
theorem qbB (f:List UInt8) (k p d:Nat):val (f.drop k) p d=val f (8*k+p) d:=by
 induction d with
 | zero=>rfl
 | succ d ih=>rw [qaH,qaH,ih,qjn,Nat.add_assoc]
def zp (z:Nat→Int) (p:Nat):Nat→Int:=fun j=>if j<p then z j else 0
theorem qof (z:Nat→Int):zp z 0=fun _=>0:=by funext j;simp [zp]
theorem qoq (z:Nat→Int) (n:Nat) (h:∀ i,n≤i→z i=0):zp z n=z:=by
 funext j;unfold zp;split
 ·rfl
 exact (h j (by omega)).symm
theorem qoF (z:Nat→Int) (p:Nat):upd (zp z p) p (z p)=zp z (p+1):=by
 funext j;unfold upd zp
 by_cases e:j=p
 ·subst e;simp
 rw [if_neg e];by_cases h:j<p
 ·rw [if_pos h,if_pos (by omega)]
 rw [if_neg h,if_neg (by omega)]
theorem qoI (z:Nat→Int) (p k:Nat) (h:∀ i,i<k→z (p+i)=0):zp z p=zp z (p+k):=by
 funext j;unfold zp
 by_cases h1:j<p
 ·rw [if_pos h1,if_pos (by omega)]
 rw [if_neg h1];by_cases h2:j<p+k
 ·rw [if_pos h2]
  have:=h (j - p) (by omega)
  rw [show p+(j - p)=j by omega] at this;exact this.symm
 rw [if_neg h2]
theorem qm1 {pos:Nat} (hp:p<288) (h24:24≤pos) (hz:1≤z p) (hlen:pos+4≤8*b'.length) (hv:val b' pos 4=(z p).toNat) (hag:Ag b b' pos)
 (R:List UInt8→Option ((Nat→Int) × Nat)) (h:∀ f,Ag b f pos→R f=lensF (f.drop 3) (F+1) p (pos - 24) (zp z p)) :
 ∀ f,Ag b' f (pos+4)→R f=lensF (f.drop 3) F (p+1) (pos+4 - 24) (zp z (p+1)):=by
 intro f hf;rw [h f (hag.trans (hf.mono (by omega)) (Nat.le_refl _))];have hl:(f.drop 3).length=f.length - 3:=List.length_drop ..;have hfl:=hf.len;have hv2:val (f.drop 3) (pos - 24) 4=(z p).toNat:=by rw [qbB,show 8*3+(pos - 24)=pos by omega,hf.val pos 4 (by omega),hv]
 rw [qfR _ _ _ _ _ hp (by omega) (by omega),hv2,show ((z p).toNat:Int)=z p by omega,qoF,show pos - 24+4=pos+4 - 24 by omega]
theorem ql0 {pos k:Nat} (hp:p+k<288) (h24:24≤pos) (hz:∀ i,i<k+1→z (p+i)=0) (hlen:pos+9≤8*b'.length) (hv:val b' pos 4=0) (hv2:val b' (pos+4) 5=k) (hag:Ag b b' pos)
 (R:List UInt8→Option ((Nat→Int) × Nat)) (h:∀ f,Ag b f pos→R f=lensF (f.drop 3) (F+1) p (pos - 24) (zp z p)) :
 ∀ f,Ag b' f (pos+9)→R f=lensF (f.drop 3) F (p+1+k) (pos+9 - 24) (zp z (p+1+k)):=by
 intro f hf;rw [h f (hag.trans (hf.mono (by omega)) (Nat.le_refl _))];have hl:(f.drop 3).length=f.length - 3:=List.length_drop ..;have hfl:=hf.len;have hv3:val (f.drop 3) (pos - 24) 4=0:=by rw [qbB,show 8*3+(pos - 24)=pos by omega,hf.val pos 4 (by omega),hv]
 have hv4:val (f.drop 3) (pos - 24+4) 5=k:=by rw [qbB,show 8*3+(pos - 24+4)=pos+4 by omega,hf.val (pos+4) 5 (by omega),hv2]
 rw [qft _ _ _ _ _ (by omega) (by omega) hv3 (by omega) (by omega),hv4,qoI z p (k+1) hz,show p+(k+1)=p+1+k by omega,show pos - 24+9=pos+9 - 24 by omega]
def nz (z:Nat→Int):Nat→Nat
 | 0=>0
 | p+1=>nz z p+if z p=0 then 0 else 1
theorem qoB (z:Nat→Int) (p k:Nat) (h:∀ i,i<k→z (p+i)=0):nz z (p+k)=nz z p:=by
 induction k with
 | zero=>rfl
 | succ k ih=>rw [←Nat.add_assoc,nz,ih (fun i hi=>h i (by omega)),if_pos (h k (by omega))];rfl
theorem qow (z:Nat→Int) (p:Nat):nz z p≤p:=by
 induction p with
 | zero=>exact Nat.le_refl _
 | succ p ih=>unfold nz;split<;>omega
def slen (s:Nat × Nat):Nat:=if s.1<256 then 1 else s.1 - 253
structure okStep (d:List UInt8) (at_:Nat) (s:Nat × Nat):Prop where
 lt:s.1<288
 fit:at_+slen s≤d.length
 byte:s.1<256→(d.getD at_ 0).toNat=s.1
 copy:¬s.1<256→1≤s.2∧s.2≤4096∧s.2≤at_∧∀ i,i<s.1 - 253→d.getD (at_+i) 0=d.getD (at_+i - s.2) 0
theorem qbP (d:List UInt8) (n:Nat) (h:n<d.length):d.take (n+1)=d.take n++[d.getD n 0]:=by
 rw [List.take_add_one,List.getD_eq_getElem?_getD,List.getElem?_eq_getElem h];rfl
theorem qmQ (d:List UInt8) (a back k:Nat) (hb:1≤back) (hba:back≤a) (hk:a+k≤d.length) (h:∀ i,i<k→d.getD (a+i) 0=d.getD (a+i - back) 0):cpy (d.take a) back k=d.take (a+k):=by
 induction k with
 | zero=>rfl
 | succ k ih =>
   rw [cpy,ih (by omega) (fun i hi=>h i (by omega)),←Nat.add_assoc,qbP d (a+k) (by omega),List.length_take,Nat.min_eq_left (by omega),h k (by omega)]
   congr 2
   rw [List.getD_eq_getElem?_getD,List.getElem?_take_of_lt (by omega),List.getD_eq_getElem?_getD]
theorem qhS {f:List UInt8} {pos:Nat} (hi:i<288) (hz:1≤z i) (hl:pos+(z i).toNat≤8*f.length) (hv:val f pos (z i).toNat=num z 288 i):symF f z pos 288=some i:=
 qch f z pos i hi ((qbA f z pos i).2 ⟨hz,hl,hv.symm⟩)
theorem qkV {pos:Nat} (h24:24≤pos) (hi:i<256) (hz:1≤z i) (ha:a<d.length) (hd:(d.getD a 0).toNat=i) (hlen:pos+(z i).toNat≤8*b'.length) (hv:val b' pos (z i).toNat=num z 288 i) (hag:Ag b b' pos)
 (R:List UInt8→Option (List UInt8 × Nat)) (h:∀ f,Ag b f pos→R f=dataF (f.drop 3) z 288 d.length (F+1) (d.take a) (pos - 24)) :
 ∀ f,Ag b' f (pos+(z i).toNat)→R f=dataF (f.drop 3) z 288 d.length F (d.take (a+1)) (pos+(z i).toNat - 24):=by
 intro f hf;rw [h f (hag.trans (hf.mono (by omega)) (Nat.le_refl _))];have hl:(f.drop 3).length=f.length - 3:=List.length_drop ..;have hfl:=hf.len;have hs:symF (f.drop 3) z (pos - 24) 288=some i:=qhS (by omega) hz (by omega) (by rw [qbB,show 8*3+(pos - 24)=pos by omega,hf.val pos _ (by omega),hv]);rw [qd7 _ _ _ _ _ _ _ i (by rw [List.length_take];omega) hs hi,qbP d a ha,show pos - 24+(z i).toNat=pos+(z i).toNat - 24 by omega];rw [←hd,UInt8.ofNat_toNat]
theorem qjq {pos back:Nat} (h24:24≤pos) (hi:¬i<256) (hi2:i<288) (hz:1≤z i) (ha:a+(i - 253)≤d.length) (hb:1≤back) (hb2:back≤a) (hd:∀ j,j<i - 253→d.getD (a+j) 0=d.getD (a+j - back) 0) (hlen:pos+(z i).toNat+12≤8*b'.length) (hv:val b' pos (z i).toNat=num z 288 i) (hv2:val b' (pos+(z i).toNat) 12=back - 1) (hag:Ag b b' pos)
 (R:List UInt8→Option (List UInt8 × Nat)) (h:∀ f,Ag b f pos→R f=dataF (f.drop 3) z 288 d.length (F+1) (d.take a) (pos - 24)) :
 ∀ f,Ag b' f (pos+(z i).toNat+12)→R f=dataF (f.drop 3) z 288 d.length F (d.take (a+(i - 253))) (pos+(z i).toNat+12 - 24):=by
 intro f hf;rw [h f (hag.trans (hf.mono (by omega)) (Nat.le_refl _))];have hl:(f.drop 3).length=f.length - 3:=List.length_drop ..;have hfl:=hf.len;have hs:symF (f.drop 3) z (pos - 24) 288=some i:=qhS (by omega) hz (by omega) (by rw [qbB,show 8*3+(pos - 24)=pos by omega,hf.val pos _ (by omega),hv]);have hv3:val (f.drop 3) (pos - 24+(z i).toNat) 12=back - 1:=by rw [qbB,show 8*3+(pos - 24+(z i).toNat)=pos+(z i).toNat by omega,hf.val _ 12 (by omega),hv2]
 have hlt:(d.take a).length=a:=by rw [List.length_take];omega
 rw [qev _ _ _ _ _ _ _ i (by omega) hs hi (by omega) (by rw [hv3,hlt];omega),hv3,show back - 1+1=back by omega,qmQ d a back _ hb hb2 ha hd,show pos - 24+(z i).toNat+12=pos+(z i).toNat+12 - 24 by omega]
theorem qkk (s:List UInt8) (p k:Nat) (h:∀ i,p≤i→bt s i=0):val s p k=0:=by
 induction k with
 | zero=>rfl
 | succ k ih=>rw [qaH,ih,h _ (by omega)]
theorem qln {T:List UInt8} {p1 p2:Nat} (h24:24≤p2) (hf:Fits z 288) (hw:Wr T p2) (hl:lensF (T.drop 3) 288 0 0 (fun _=>0)=some (z,p1 - 24)) (hd:dataF (T.drop 3) z 288 d.length d.length [] (p1 - 24)=some (d,p2 - 24)) :
 bodyF (T.drop 3) 288 d.length=some d:=by
 have hl3:(T.drop 3).length=T.length - 3:=List.length_drop ..;have hlo:=hw.lo;have hhi:=hw.hi;rw [qd6 _ _ _ z (p1 - 24) (p2 - 24) d hl ((qda z 288).2 hf) hd,if_pos];refine ⟨by omega,qkk _ _ _ fun i hi => ?_⟩;rw [qjn];exact hw.zero _ (by omega)
end S1.Pk
namespace S1
open Go.RowKit Pk
variable {z:Nat→Int} {c c':List UInt8} {p:Nat}
structure WL (z:Nat→Int) (c:List UInt8) (p pos:Nat):Prop where
 hp:p≤288
 ps:∃ ch,pos=24+4*nz z p+9*ch∧(32*ch≤p+32*nz z p∨(32*ch≤p+32*(nz z p+1)∧(p=288∨z p≠0)))
 rd:∃ F,288≤p+F∧∀ f,Ag c f pos→lensF (f.drop 3) 288 0 0 (fun _=>0)=lensF (f.drop 3) F p (pos - 24) (zp z p)
theorem WL.init (z:Nat→Int) (c:List UInt8):WL z c 0 24:=
 ⟨by omega,⟨0,rfl,.inl (by omega)⟩,288,by omega,fun f _=>by rw [qof]⟩
theorem WL.bound {pos:Nat} (h:WL z c p pos):24≤pos∧pos≤24+13*nz z p+90:=by
 obtain ⟨ch,h1,h2⟩:=h.ps
 have:=h.hp
 omega
theorem WL.one {pos:Nat} (h:WL z c p pos) (hp:p<288) (hz:1≤z p) (hw:Wr c' (pos+4)) (hv:val c' pos 4=(z p).toNat) (ha:Ag c c' pos):WL z c' (p+1) (pos+4):=by
 obtain ⟨ch,h1,h2⟩:=h.ps;obtain ⟨F,hF,hr⟩:=h.rd;have hn:nz z (p+1)=nz z p+1:=by rw [nz,if_neg (by omega)]
 obtain ⟨F',rfl⟩:∃ F',F=F'+1:=⟨F - 1,by omega⟩;exact ⟨by omega,⟨ch,by omega,.inl (by omega)⟩,F',by omega,qm1 hp h.bound.1 hz hw.lo hv ha _ hr⟩
theorem WL.run {pos k:Nat} (h:WL z c p pos) (hp:p+k<288) (hk:k≤31) (hz:∀ i,i<k+1→z (p+i)=0) (he:k=31∨p+1+k=288∨z (p+1+k)≠0) (hw:Wr c' (pos+9)) (hv:val c' pos 4=0) (hv2:val c' (pos+4) 5=k) (ha:Ag c c' pos):WL z c' (p+1+k) (pos+9):=by
 obtain ⟨ch,h1,h2⟩:=h.ps;obtain ⟨F,hF,hr⟩:=h.rd;have hn:nz z (p+1+k)=nz z p:=by rw [show p+1+k=p+(k+1) by omega];exact qoB z p (k+1) hz
 obtain ⟨F',rfl⟩:∃ F',F=F'+1:=⟨F - 1,by omega⟩;have hz0:=hz 0 (by omega);rw [Nat.add_zero] at hz0;have h3:32*ch≤p+32*nz z p:=by
  rcases h2 with h2 | ⟨_,h2 | h2⟩
  ·exact h2
  ·omega
  exact absurd hz0 h2
 refine ⟨by omega,⟨ch+1,by omega,?_⟩,F',by omega,ql0 hp h.bound.1 hz hw.lo hv hv2 ha _ hr⟩;rw [hn];rcases he with he | he | he
 ·left;omega
 ·right;exact ⟨by omega,.inl he⟩
 right;exact ⟨by omega,.inr he⟩
theorem WL.done {pos:Nat} (h:WL z c 288 pos) (hz:∀ i,288≤i→z i=0):∀ f,Ag c f pos→lensF (f.drop 3) 288 0 0 (fun _=>0)=some (z,pos - 24):=by
 intro f hf;obtain ⟨F,hF,hr⟩:=h.rd;rw [hr f hf,qex,qoq z 288 hz]
theorem qlZ (w:World) (B g lb:Nat) (b:List UInt8) (z:Nat→Int) (hB:B≤w.heap.size) (hb:0<b.length) (hlb:lb<B) (hrow:w.rowIs lb 3 288 (fun j=>.int .i64 (z j))) (hz:∀ i,0≤z i∧z i≤12) (hz0:∀ i,288≤i→z i=0) (h:BW w B g b 24) :
 Calls Tryz.prog 249 #[.pointer (some ⟨g,0,none⟩),.slice (some ⟨lb,0,none⟩) 288 288] w fun e w'=>e=.returned (.tuple #[])∧∃ b' pos,BW w' B g b' pos∧Ag b b' 24∧24≤pos∧pos≤24+13*nz z 288+90∧(∀ f,Ag b' f pos→lensF (f.drop 3) 288 0 0 (fun _=>0)=some (z,pos - 24))∧Below B w w':=by
 have Hh:=hidI h;have Hz:=hidI hz;have Hz0:=hidI hz0;have Hrow:=hidI hrow;clear hz hz0 h hrow;go_enter Tryz.func249,Tryz.ntmps249
 go_wp2
 go_loopw [4] (fun i wr=>∃ p pos:Nat,∃ c,i=.int .i64 (p:Nat)∧Hid (WL z c p pos)∧Hid (BW wr B g c pos)∧Hid (Ag b c 24)∧Hid (Below B w wr)) (fun i _=>288 - (intOf i).toNat)
 case atStart=>exact ⟨0,24,b,rfl,WL.init z b,Hh,Ag.refl _ _,Below.refl _ _⟩
 case round =>
  clear Hh;obtain ⟨p,pos,c,rfl,Hw,Hbw,Hag,Hbel⟩:=hrel;have hp:=Hw.out.hp;have hpos:=Hw.out.bound;have hnz:=qow z p;by_cases hlt:p<288
  ·have hc0:=(qan Hrow.out Hbel.out hlb).cell (i:=p) hlt;have hzp:=Hz.out p;obtain ⟨n,hn⟩:∃ n:Nat,z p=(n:Int):=⟨(z p).toNat,by omega⟩;have Hn:=hidI hn;rw [hn] at hc0;have hn12:n≤12:=by omega
   clear hn hzp;have hwB:B≤wr.heap.size:=Nat.le_trans hB Hbel.out.size;go_wp2_with fail;refine (qe8 _ B g c pos n 4 hwB (Nat.lt_of_lt_of_le hb Hag.out.len) (by omega) (by omega) (by omega) Hbw.out).mono ?_;rintro e w1 ⟨rfl,c1,hbw1,ha1,hv1,hb1⟩;have Hbel1:=hidI (Hbel.out.trans hb1);have hrow1:=qan Hrow.out Hbel1.out hlb;have hc1:=hrow1.cell (i:=p) hlt;rw [Hn.out] at hc1;have Hag1:=hidI (Hag.out.trans ha1 hpos.1);have Hbw1:=hidI hbw1;have Ha1:=hidI ha1;have Hv1:=hidI hv1;have hwB1:B≤w1.heap.size:=Nat.le_trans hB Hbel1.out.size;clear hbw1 ha1 hv1 hb1 hc0 Hbel Hag Hbw;by_cases h0:n=0
   ·subst h0;go_wp2;have hzr:∀ i,i<288→w1.cell? ⟨lb,i,none⟩=some (.int .i64 (z i)):=fun i hi=>hrow1.cell hi
    have Hzr:=hidI hzr;have HzA:=hidI (fun i=>(Hz.out i).1);clear hzr hrow1 hc1
    go_loopw [5] (fun i wr=>∃ q:Nat,i=.int .i64 (q:Nat)∧q≤31∧p+q<288∧Hid (∀ j,j<q+1→z (p+j)=0)∧wr=w1) (fun i _=>32 - (intOf i).toNat)
    case atStart=>exact ⟨0,rfl,by omega,by omega,fun j hj=>by rw [show p+j=p by omega];exact Hn.out,rfl⟩
    obtain ⟨q,rfl,hq,hpq,Hq,rfl⟩:=hrel;have Hend:Hid (q=31∨p+1+q=288∨z (p+1+q)≠0→∀ c2,Wr c2 (pos+9)→Ag c1 c2 (pos+4)→val c2 (pos+4) 5=q→WL z c2 (p+q+1) (pos+9)):=fun he c2 hw2 ha2 hv2=>by
     rw [show p+q+1=p+1+q by omega];exact Hw.out.run hpq hq Hq.out he hw2 (by rw [ha2.val pos 4 (Nat.le_refl _)];exact Hv1.out) hv2 (Ha1.out.trans ha2 (by omega))
    by_cases hg:q<31∧p+q+1<288∧z (p+q+1)=0
    ·obtain ⟨g1,g2,g3⟩:=hg;have hx:=Hzr.out (p+q+1) g2;rw [g3] at hx;have Hq2:Hid (∀ j,j<q+1+1→z (p+j)=0):=fun j hj=>by
      by_cases e:j=q+1
      ·subst e;exact g3
      exact Hq.out j (by omega)
     clear Hq g3 Hend;have g1':decide ((q:Int)<31)=true:=by simp;omega
     have g2':decide ((p:Int)+(q:Int)+1<288)=true:=by simp;omega
     go_wp2;go_roundw
     case rel=>exact ⟨q+1,by go_num,by omega,by omega,Hq2,by trivial⟩
     case measure=>simp [intOf];omega
    have Hend2:Hid (∀ c2,Wr c2 (pos+9)→Ag c1 c2 (pos+4)→val c2 (pos+4) 5=q→WL z c2 (p+q+1) (pos+9)):=Hend.out (by
     by_cases a:q=31
     ·exact .inl a
     by_cases b:p+1+q=288
     ·exact .inr (.inl b)
     refine .inr (.inr fun h=>hg ⟨by omega,by omega,?_⟩);rw [show p+q+1=p+1+q by omega];exact h)
    clear Hend Hq;have hput:=qe8 wr B g c1 (pos+4) q 5 hwB1 (Nat.lt_of_lt_of_le hb Hag1.out.len) (by omega) (by omega) (by omega) Hbw1.out;have Hput:=hidI hput;clear hput;have hcs:(31≤q)∨(q<31∧p+q+1=288)∨(q<31∧p+q+1<288∧z (p+q+1)≠0):=by
     by_cases a:31≤q
     ·exact .inl a
     by_cases b:p+q+1=288
     ·exact .inr (.inl ⟨by omega,b⟩)
     exact .inr (.inr ⟨by omega,by omega,fun h=>hg ⟨by omega,by omega,h⟩⟩)
    clear hg;rcases hcs with a | ⟨a,b⟩ | ⟨a,b,c0⟩
    focus
     have a1:decide ((q:Int)<31)=false:=by simp;omega
     go_wp2_with fail;refine Hput.out.mono ?_;rintro e w2 ⟨rfl,c2,hbw2,ha2,hv2,hb2⟩;have Hfin:=hidI (Hend2.out c2 hbw2.wr ha2 hv2);have Hag2:=hidI (Hag1.out.trans ha2 (by omega));have Hbel2:=hidI (Hbel1.out.trans hb2);have Hbw2:=hidI hbw2;clear hbw2 ha2 hv2 hb2 Hput Hend2 Hzr Hv1 Ha1
    rotate_left
    focus
     have a1:decide ((q:Int)<31)=true:=by simp;omega
     have a2:decide ((p:Int)+(q:Int)+1<288)=false:=by simp;omega
     go_wp2_with fail;refine Hput.out.mono ?_;rintro e w2 ⟨rfl,c2,hbw2,ha2,hv2,hb2⟩;have Hfin:=hidI (Hend2.out c2 hbw2.wr ha2 hv2);have Hag2:=hidI (Hag1.out.trans ha2 (by omega));have Hbel2:=hidI (Hbel1.out.trans hb2);have Hbw2:=hidI hbw2;clear hbw2 ha2 hv2 hb2 Hput Hend2 Hzr Hv1 Ha1
    rotate_left
    focus
     have a1:decide ((q:Int)<31)=true:=by simp;omega
     have a2:decide ((p:Int)+(q:Int)+1<288)=true:=by simp;omega
     have hx:=Hzr.out (p+q+1) b;have hzb:=Hz.out (p+q+1);have a3:(z (p+q+1)==0)=false:=by simp;exact c0
     clear c0
     generalize z (p+q+1)=y at *
     go_wp2_with fail;refine Hput.out.mono ?_;rintro e w2 ⟨rfl,c2,hbw2,ha2,hv2,hb2⟩;have Hfin:=hidI (Hend2.out c2 hbw2.wr ha2 hv2);have Hag2:=hidI (Hag1.out.trans ha2 (by omega));have Hbel2:=hidI (Hbel1.out.trans hb2);have Hbw2:=hidI hbw2;clear hbw2 ha2 hv2 hb2 Hput Hend2 Hzr Hv1 Ha1 hx
    rotate_left
    all_goals
     go_wp2;go_roundw
     case rel=>exact ⟨p+q+1,pos+9,c2,by go_num,Hfin,Hbw2,Hag2,Hbel2⟩
     case measure=>simp [intOf];omega
   have hn0:(0:Int)<(n:Int):=by omega
   have Hend:=hidI (Hw.out.one hlt (by have:=Hn.out;omega) Hbw1.out.wr (by rw [Hv1.out,Hn.out];rfl) Ha1.out);clear Hw Hn Hv1 Ha1 hrow1;go_wp2;go_roundw
   case rel=>exact ⟨p+1,pos+4,c1,by go_num,Hend,Hbw1,Hag1,Hbel1⟩
   case measure=>simp [intOf];omega
  have h288:p=288:=by omega
  subst h288;go_wp2;go_end0
  exact ⟨rfl,c,pos,Hbw.out,Hag.out,hpos.1,hpos.2,Hw.out.done Hz0.out,Hbel.out⟩
end S1
namespace S1.Pk
open Go
structure Ent where
 wt:Nat
 tn:Nat
 b:Nat
 n:Nat
 c:Nat
def Ent.v (e:Ent):Value:=.slice (some ⟨e.b,0,none⟩) e.n e.c
def noEnt:Ent:=⟨0,0,0,0,0⟩
def qad:List Ent→List Value
 | []=>[]
 | e :: es=>.int .i64 (e.wt:Nat) :: .int .i64 (e.tn:Nat) :: e.v :: qad es
theorem qdO (es:List Ent):(qad es).length=es.length*3:=by
 induction es with
 | nil=>rfl
 | cons e es ih=>simp [qad,ih];omega
theorem qdu (a b:List Ent):qad (a++b)=qad a++qad b:=by
 induction a with
 | nil=>rfl
 | cons e a ih=>simp [qad,ih]
theorem qaD (es:List Ent) (i:Nat) (h:i<es.length) :
 (qad es)[3*i]? = some (.int .i64 ((es.getD i noEnt).wt:Nat))∧(qad es)[3*i+1]? = some (.int .i64 ((es.getD i noEnt).tn:Nat))∧(qad es)[3*i+2]? = some (es.getD i noEnt).v:=by
 induction es generalizing i with
 | nil=>simp at h
 | cons e es ih =>
   cases i with
   | zero=>simp [qad]
   | succ i =>
     have:=ih i (by simpa using h)
     rw [show 3*(i+1)=3*i+1+1+1 by omega,show 3*i+1+1+1+1=(3*i+1)+1+1+1 by omega,show 3*i+1+1+1+2=(3*i+2)+1+1+1 by omega];simpa [qad] using this
theorem qfM (es:List Ent) (i:Nat) (e:Ent) :
 (((qad es).set (3*i) (.int .i64 (e.wt:Nat))).set (3*i+1) (.int .i64 (e.tn:Nat))).set (3*i+2) e.v=qad (es.set i e):=by
 induction es generalizing i with
 | nil=>simp [qad]
 | cons x es ih =>
   cases i with
   | zero=>simp [qad]
   | succ i =>
     have:=ih i
     rw [show 3*(i+1)=3*i+1+1+1 by omega,show 3*i+1+1+1+1=(3*i+1)+1+1+1 by omega,show 3*i+1+1+1+2=(3*i+2)+1+1+1 by omega];simpa [qad] using this
theorem qeL (es:List Ent) (k:Nat):(qad es).take (k*3)=qad (es.take k):=by
 induction es generalizing k with
 | nil=>simp [qad]
 | cons x es ih =>
   cases k with
   | zero=>simp [qad]
   | succ k=>rw [Nat.add_mul,show k*3+1*3=k*3+1+1+1 by omega];simp [qad,ih]
def wa (es:List Ent) (i:Nat):Nat:=(es.getD i noEnt).wt
def swp (es:List Ent) (i j:Nat):List Ent:=(es.set i (es.getD j noEnt)).set j (es.getD i noEnt)
theorem qaG (es:List Ent) (i j:Nat):(swp es i j).length=es.length:=by simp [swp]
theorem qhe (es:List Ent) (i j:Nat) (hi:i<es.length) (hj:j<es.length):List.Perm (swp es i j) es:=by
 have:=List.set_set_perm hi hj
 unfold swp;rw [List.getD_eq_getElem?_getD,List.getElem?_eq_getElem hj,List.getD_eq_getElem?_getD,List.getElem?_eq_getElem hi];exact this
theorem qcG (es:List Ent) (i j k:Nat) (hi:i<es.length) (hj:j<es.length):wa (swp es i j) k=if k=j then wa es i else if k=i then wa es j else wa es k:=by
 unfold wa swp;rw [List.getD_eq_getElem?_getD,List.getElem?_set];by_cases h:j=k
 ·subst h;simp [hi,hj]
 rw [if_neg h,if_neg (fun e=>h e.symm),List.getElem?_set];by_cases h2:i=k
 ·subst h2;simp [hi,hj]
 rw [if_neg h2,if_neg (fun e=>h2 e.symm),List.getD_eq_getElem?_getD]
def Heap (es:List Ent):Prop:=∀ i,0<i→i<es.length→wa es ((i - 1)/2)≤wa es i
structure RI (es:List Ent) (a:Nat):Prop where
 all:∀ i,0<i→i<es.length→i≠a→wa es ((i - 1)/2)≤wa es i
 skip:∀ i,0<i→i<es.length→(i - 1)/2=a→0<a→wa es ((a - 1)/2)≤wa es i
structure SI (es:List Ent) (a:Nat):Prop where
 all:∀ i,0<i→i<es.length→(i - 1)/2≠a→wa es ((i - 1)/2)≤wa es i
 skip:∀ i,0<i→i<es.length→(i - 1)/2=a→0<a→wa es ((a - 1)/2)≤wa es i
theorem qld {es:List Ent} {a:Nat} (h:RI es a) (h0:0<a) (ha:a<es.length) (hw:wa es a≤wa es ((a - 1)/2)):RI (swp es a ((a - 1)/2)) ((a - 1)/2):=by
 have hb:(a - 1)/2<es.length:=by omega
 obtain ⟨b,hbe⟩:∃ b,b=(a - 1)/2:=⟨_,rfl⟩;rw [←hbe] at hw hb ⊢
 constructor
 ·intro i h1 h2 h3;rw [qaG] at h2;rw [qcG es a b _ ha hb,qcG es a b _ ha hb];rw [if_neg h3];by_cases e:i=a
  ·subst e;rw [if_pos hbe.symm,if_pos rfl];exact hw
  rw [if_neg e];have hi:=h.all i h1 h2 e;by_cases e1:(i - 1)/2=b
  ·rw [if_pos e1];rw [e1] at hi;omega
  rw [if_neg e1];by_cases e2:(i - 1)/2=a
  ·rw [if_pos e2]
   have:=h.skip i h1 h2 e2 h0
   rw [←hbe] at this;exact this
  rw [if_neg e2];exact hi
 intro i h1 h2 h3 h4;rw [qaG] at h2;rw [qcG es a b _ ha hb,qcG es a b _ ha hb];have hbb:=h.all b h4 hb (by omega);rw [if_neg (by omega),if_neg (by omega:¬(b - 1)/2=a)];by_cases e:i=b
 ·omega
 rw [if_neg e];by_cases e2:i=a
 ·rw [if_pos e2];exact hbb
 rw [if_neg e2];have hi:=h.all i h1 h2 e2;rw [h3] at hi;omega
theorem qfy {es:List Ent} {a:Nat} (h:RI es a) (hw:a=0∨wa es ((a - 1)/2)≤wa es a):Heap es:=by
 intro i h1 h2;by_cases e:i=a
 ·subst e;rcases hw with hw | hw
  ·omega
  exact hw
 exact h.all i h1 h2 e
theorem qlj {es:List Ent} {a b:Nat} (h:SI es a) (hab:(b - 1)/2=a) (h0:0<b) (hb:b<es.length) (hw:wa es b≤wa es a) (hc:∀ i,0<i→i<es.length→(i - 1)/2=a→wa es b≤wa es i):SI (swp es a b) b:=by
 have ha:a<es.length:=by omega
 constructor
 ·intro i h1 h2 h3;rw [qaG] at h2;rw [qcG es a b _ ha hb,qcG es a b _ ha hb];rw [if_neg h3];by_cases e:i=b
  ·subst e;rw [if_pos hab,if_pos rfl];exact hw
  rw [if_neg e];by_cases e1:(i - 1)/2=a
  ·rw [if_pos e1,if_neg (by omega)];exact hc i h1 h2 e1
  rw [if_neg e1];have hi:=h.all i h1 h2 e1;by_cases e2:i=a
  ·rw [if_pos e2,e2]
   have:=h.skip b h0 hb hab (by omega)
   exact this
  rw [if_neg e2];exact hi
 intro i h1 h2 h3 h4;rw [qaG] at h2;rw [qcG es a b _ ha hb,qcG es a b _ ha hb];rw [if_neg (by omega),if_pos hab,if_neg (by omega),if_neg (by omega)]
 have:=h.all i h1 h2 (by omega)
 rw [h3] at this;exact this
theorem qjy {es:List Ent} {a:Nat} (h:SI es a) (hc:∀ i,0<i→i<es.length→(i - 1)/2=a→wa es a≤wa es i):Heap es:=by
 intro i h1 h2;by_cases e:(i - 1)/2=a
 ·rw [e];exact hc i h1 h2 e
 exact h.all i h1 h2 e
theorem qk8 {es:List Ent} (h:Heap es):∀ i,i<es.length→wa es 0≤wa es i:=by
 intro i
 induction i using Nat.strongRecOn with
 | _ i ih =>
   intro hi;by_cases e:i=0
   ·subst e;exact Nat.le_refl _
   exact Nat.le_trans (ih ((i - 1)/2) (by omega) (by omega)) (h i (by omega) hi)
theorem qjY (es:List Ent) (e:Ent) (i:Nat) (h:i<es.length):wa (es++[e]) i=wa es i:=by
 unfold wa;rw [List.getD_eq_getElem?_getD,List.getElem?_append_left h,List.getD_eq_getElem?_getD]
theorem qkC {es:List Ent} (h:Heap es) (e:Ent):RI (es++[e]) es.length:=by
 constructor
 ·intro i h1 h2 h3;have h2':i<es.length:=by simp at h2;omega
  rw [qjY es e i h2',qjY es e _ (by omega)];exact h i h1 h2'
 intro i h1 h2 h3 h4;simp at h2;omega
def popped (es:List Ent):List Ent:=(es.set 0 (es.getD (es.length - 1) noEnt)).take (es.length - 1)
theorem qbo (es:List Ent):(popped es).length=es.length - 1:=by simp [popped]
theorem qfq (es:List Ent) (i:Nat) (h:0<i) (hi:i<es.length - 1):wa (popped es) i=wa es i:=by
 unfold wa popped;rw [List.getD_eq_getElem?_getD,List.getElem?_take_of_lt hi,List.getElem?_set_ne (by omega),List.getD_eq_getElem?_getD]
theorem qkv {es:List Ent} (h:Heap es):SI (popped es) 0:=by
 constructor
 ·intro i h1 h2 h3;rw [qbo] at h2;rw [qfq es i h1 h2,qfq es _ (by omega) (by omega)];exact h i h1 (by omega)
 intro i h1 h2 h3 h4;omega
theorem qdG (e:Ent) (r:List Ent):List.Perm (popped (e :: r)) r:=by
 cases h:r.reverse with
 | nil =>
   have:r=[]:=by simpa using h
   subst this;exact List.Perm.refl _
 | cons x l =>
   have hr:r=l.reverse++[x]:=by
    have:=congrArg List.reverse h
    simpa using this
   subst hr
   have:popped (e :: (l.reverse++[x]))=x :: l.reverse:=by
    unfold popped;have hx:(e :: (l.reverse++[x])).getD ((e :: (l.reverse++[x])).length - 1) noEnt=x:=by
     rw [List.getD_eq_getElem?_getD];simp [List.getElem?_cons]
    rw [hx];simp [List.take_append]
   rw [this];exact (List.perm_append_singleton x _).symm
end S1.Pk
namespace S1
open Go.RowKit Pk
theorem qf5 (w:World) (p s q t:Nat) (x y:Value):Calls Tryz.prog 338 #[.agg #[.int .i64 (p:Nat),.int .i64 (s:Nat),x],.agg #[.int .i64 (q:Nat),.int .i64 (t:Nat),y]] w fun e w'=>∃ r:Bool,e=.returned (.bool r)∧(r=true→p≤q)∧(r=false→q≤p)∧∃ c d,w'=(w.alloc c).alloc d:=by
 by_cases h:(p:Int)=(q:Int)
 ·have h1:((p:Int) != (q:Int))=false:=by simp [h]
  go_enter Tryz.func338,Tryz.ntmps338
  go_wp2;go_ret
  exact ⟨_,rfl,by omega,by omega,_,_,rfl⟩
 have h1:((p:Int) != (q:Int))=true:=by simp [h]
 go_enter Tryz.func338,Tryz.ntmps338
 go_wp2;go_ret
 exact ⟨_,rfl,by intro h2;simp at h2;omega,by intro h2;simp at h2;omega,_,_,rfl⟩
structure QM (w:World) (B qb:Nat) (es:List Ent) (pu:Nat):Prop where
 hB:B≤qb
 st:∃ v,w.heap[qb]? = some (.cells #[v,.int .i64 (pu:Nat)] 341 (0,0))∧w.ownsRow B 344 3 v es.length (qad es)
structure Fr (B:Nat) (w w':World):Prop where
 bel:Below B w w'
 ints:Keeps 3 w w'
theorem Fr.refl (B:Nat) (w:World):Fr B w w:=⟨Below.refl _ _,Keeps.refl _ _⟩
theorem Fr.trans {B:Nat} {a b c:World} (h:Fr B a b) (k:Fr B b c):Fr B a c:=⟨h.bel.trans k.bel,h.ints.trans k.ints⟩
theorem qdn {w:World} {B n:Nat} {e:TypeId} {v:Value} {xs:List Value} (h:w.ownsRow B e 3 v n xs) (hn:0<n):∃ r cap,v=.slice (some ⟨r,0,none⟩) n cap∧B≤r∧n≤cap:=by
 rcases h.2 with ⟨rfl,rfl⟩ | ⟨g,cap,cur,rfl,h2,h3,h4,_⟩
 ·omega
 exact ⟨g,cap,rfl,h2,h4⟩
theorem QM.of {w w':World} {B qb:Nat} {es:List Ent} {pu:Nat} (h:QM w B qb es pu) (hb:∀ k,k<w.heap.size→w'.heap[k]? = w.heap[k]?):QM w' B qb es pu:=by
 obtain ⟨v,h1,h2⟩:=h.st;refine ⟨h.hB,v,(hb qb (lt_of_heap h1)).trans h1,h2.1,?_⟩;rcases h2.2 with h3 | ⟨g,cap,cur,h3,h4,h5,h6⟩
 ·exact .inl h3
 exact .inr ⟨g,cap,cur,h3,h4,(hb g (lt_of_heap h5)).trans h5,h6⟩
theorem Fr.alloc {B:Nat} {a b:World} (h:Fr B a b) (hB:B≤b.heap.size) (o:Obj):Fr B a (b.alloc o):=⟨h.bel.alloc hB o,h.ints.alloc o⟩
theorem Fr.drew {B:Nat} {a b:World} (h:Fr B a b):Fr B a b.drew:=⟨h.bel.drew,h.ints.drew⟩
theorem Fr.size {B:Nat} {a b:World} (h:Fr B a b) (hB:B≤a.heap.size):B≤b.heap.size:=Nat.le_trans hB h.bel.size
theorem qaQ (w:World) (o1 o2:Obj) (k:Nat) (hk:k<w.heap.size):((w.alloc o1).alloc o2).drew.heap[k]? = w.heap[k]? := by
 show ((w.alloc o1).alloc o2).heap[k]? = _;rw [Below.heap_alloc _ _ k (by simp;omega),Below.heap_alloc _ _ k hk]
theorem QM.drew {w:World} {B qb:Nat} {es:List Ent} {pu:Nat} (h:QM w B qb es pu):QM w.drew B qb es pu:=h.of fun _ _=>rfl
theorem QM.make {w:World} {B qb:Nat} {es:List Ent} {pu n:Nat} {v:Value} (hB:B≤qb) (h:w.heap[qb]? = some (.cells #[v,.int .i64 (pu:Nat)] 341 (0,0))) (hn:es.length=n) (ho:w.ownsRow B 344 3 v n (qad es)):QM w B qb es pu:=by
 subst hn;exact ⟨hB,v,h,ho⟩
def setEnt (W:World) (r i:Nat) (e:Ent):World:=((W.setCell ⟨r,i*3,none⟩ (.int .i64 (e.wt:Nat))).setCell ⟨r,i*3+1,none⟩ (.int .i64 (e.tn:Nat))).setCell ⟨r,i*3+2,none⟩ (.slice (some ⟨e.b,0,none⟩) e.n e.c)
theorem qbd {W:World} {B n r cap:Nat} {xs:List Ent} (h:W.ownsRow B 344 3 (.slice (some ⟨r,0,none⟩) n cap) n (qad xs)) (i:Nat) (e:Ent):(setEnt W r i e).ownsRow B 344 3 (.slice (some ⟨r,0,none⟩) n cap) n (qad (xs.set i e)):=by
 have h1:=(h.stored (i*3) (.int .i64 (e.wt:Nat))).1;have h2:=(h1.stored (i*3+1) (.int .i64 (e.tn:Nat))).1;have h3:=(h2.stored (i*3+2) (.slice (some ⟨e.b,0,none⟩) e.n e.c)).1
 have:=qfM xs i e
 rw [Nat.mul_comm 3 i] at this;rw [←this];exact h3
theorem qaj (W:World) (r i:Nat) (e:Ent) (k:Nat) (hk:k≠r):(setEnt W r i e).heap[k]? = W.heap[k]? := by
 unfold setEnt;rw [Below.heap_setCell _ _ _ k hk,Below.heap_setCell _ _ _ k hk,Below.heap_setCell _ _ _ k hk]
theorem qby {B:Nat} {a W:World} {v:Value} {n r cap:Nat} {xs:List Value} (h:Fr B a W) (ho:W.ownsRow B 344 3 (.slice (some ⟨r,0,none⟩) n cap) n xs) (i:Nat) (e:Ent):Fr B a (setEnt W r i e):=by
 have hr:B≤r:=(ho.lt r rfl).1;refine ⟨((h.bel.setCell (p:=⟨r,i*3,none⟩) hr _).setCell (p:=⟨r,i*3+1,none⟩) hr _).setCell (p:=⟨r,i*3+2,none⟩) hr _,?_⟩;obtain ⟨_,_,hk⟩:=Lib.ownsRow_kind ho r rfl;refine h.ints.trans fun k x f e2=>qaj W r i e k ?_
 intro ee;subst ee;rw [hk] at e2;simp at e2
theorem qmd (w:World) (B qb:Nat) (es:List Ent) (pu a:Nat) (hB:B≤w.heap.size) (hes:es.length≤1000) (ha:a<es.length) (hri:RI es a) (h:QM w B qb es pu) :
 Calls Tryz.prog 330 #[.pointer (some ⟨qb,0,none⟩),.int .i64 (a:Nat)] w fun e w'=>e=.returned (.tuple #[])∧∃ es',List.Perm es' es∧Pk.Heap es'∧QM w' B qb es' pu∧Fr B w w':=by
 have Hri:=hidI hri;have Hq:=hidI h;clear hri h;go_enter Tryz.func330,Tryz.ntmps330
 go_wp2
 go_loopw [1] (fun i wr=>∃ b:Nat,∃ xs,i=.int .i64 (b:Nat)∧b<xs.length∧xs.length=es.length∧Hid (RI xs b)∧Hid (List.Perm xs es)∧Hid (QM wr B qb xs pu)∧Hid (Fr B w wr)) (fun i _=>(intOf i).toNat)
 case atStart=>exact ⟨a,es,rfl,ha,rfl,Hri,List.Perm.refl _,Hq,Fr.refl _ _⟩
 case round =>
  clear Hri Hq ha;obtain ⟨b,xs,rfl,hb,hlen,Hri,Hp,Hq,Hf⟩:=hrel;by_cases h0:b=0
  ·subst h0;go_wp2;go_end0
   exact ⟨rfl,xs,Hp.out,qfy Hri.out (.inl rfl),Hq.out,Hf.out⟩
  have h0':(0:Int)<(b:Int):=by omega
  obtain ⟨v,hst,hown⟩:=Hq.out.st;have hqB:=Hq.out.hB;obtain ⟨r,cap,rfl,hr,hcap⟩:=qdn hown (by omega);obtain ⟨c,hc⟩:∃ c,c=(b - 1)/2:=⟨_,rfl⟩;have x0:wr.cell? ⟨qb,0,none⟩=some (.slice (some ⟨r,0,none⟩) xs.length cap):=by rw [cell_of_row wr qb 0 _ 341 (0,0) hst];rfl
  obtain ⟨g1,g2,g3⟩:=qaD xs b hb;obtain ⟨k1,k2,k3⟩:=qaD xs c (by omega);have hcl:c<xs.length:=by omega
  obtain ⟨eb,heb⟩:∃ e,e=xs.getD b noEnt:=⟨_,rfl⟩;obtain ⟨ec,hec⟩:∃ e,e=xs.getD c noEnt:=⟨_,rfl⟩;rw [←heb] at g1 g2 g3;rw [←hec] at k1 k2 k3;have y1:wr.cell? ⟨r,b*3,none⟩=some (.int .i64 (eb.wt:Nat)):=by rw [hown.cellAt (b*3) (by omega),Nat.mul_comm];exact g1
  have y2:wr.cell? ⟨r,b*3+1,none⟩=some (.int .i64 (eb.tn:Nat)):=by rw [hown.cellAt (b*3+1) (by omega),Nat.mul_comm];exact g2
  have y3:wr.cell? ⟨r,b*3+2,none⟩=some (.slice (some ⟨eb.b,0,none⟩) eb.n eb.c):=by rw [hown.cellAt (b*3+2) (by omega),Nat.mul_comm];exact g3
  have z1:wr.cell? ⟨r,c*3,none⟩=some (.int .i64 (ec.wt:Nat)):=by rw [hown.cellAt (c*3) (by omega),Nat.mul_comm];exact k1
  have z2:wr.cell? ⟨r,c*3+1,none⟩=some (.int .i64 (ec.tn:Nat)):=by rw [hown.cellAt (c*3+1) (by omega),Nat.mul_comm];exact k2
  have z3:wr.cell? ⟨r,c*3+2,none⟩=some (.slice (some ⟨ec.b,0,none⟩) ec.n ec.c):=by rw [hown.cellAt (c*3+2) (by omega),Nat.mul_comm];exact k3
  have Heb:=hidI heb;have Hec:=hidI hec;obtain ⟨n,hn⟩:∃ n,n=xs.length:=⟨_,rfl⟩;have hdiv:((b:Int) - 1)/2=(c:Int):=by omega
  have Hst:=hidI hst;have Hown:=hidI hown;have Hc:=hidI hc;have Hlen:=hidI hlen;have hx1000:xs.length≤1000:=by omega
  rw [←hn] at x0 hcl hb hx1000;have Hn:=hidI hn;clear g1 g2 g3 k1 k2 k3 hst hown hc hlen heb hec hn hcap hes;go_wp2;rw [hdiv];go_region_held3 (fun w'=>w'.cell? ⟨qb,0,none⟩=some (.slice (some ⟨r,0,none⟩) n cap)∧w'.cell? ⟨r,b*3,none⟩=some (.int .i64 (eb.wt:Nat))∧w'.cell? ⟨r,b*3+1,none⟩=some (.int .i64 (eb.tn:Nat))∧w'.cell? ⟨r,b*3+2,none⟩=some (.slice (some ⟨eb.b,0,none⟩) eb.n eb.c)∧w'.cell? ⟨r,c*3,none⟩=some (.int .i64 (ec.wt:Nat))∧w'.cell? ⟨r,c*3+1,none⟩=some (.int .i64 (ec.tn:Nat))∧w'.cell? ⟨r,c*3+2,none⟩=some (.slice (some ⟨ec.b,0,none⟩) ec.n ec.c)) (go_keep) (first | (go_at_call 338;refine (qf5 _ eb.wt eb.tn ec.wt ec.tn (.slice (some ⟨eb.b,0,none⟩) eb.n eb.c) (.slice (some ⟨ec.b,0,none⟩) ec.n ec.c)).mono ?_;rintro e w' ⟨rr,rfl,ha1,ha2,o1,o2,rfl⟩));have Hq2:=hidI (Hq.out.of (qaQ wr o1 o2))
  have Hf2:=hidI (((Hf.out.alloc (Hf.out.size hB) o1).alloc (by have:=Hf.out.size hB;simp;omega) o2).drew);rename_i hHeld;clear hHeld x0 y1 y2 y3 z1 z2 z3 Hst Hown Hq Hf
  generalize ((wr.alloc o1).alloc o2).drew=W at *
  cases rr with
  | false =>
    go_wp2
    ((try simp only [Exit.inBlock,Exit.then]);refine bodyPost_ret (results_none rfl _ _ _) rfl ?_)
    refine ⟨rfl,xs,Hp.out,qfy Hri.out (.inr ?_),Hq2.out,Hf2.out⟩
    have:=ha2 (by trivial)
    rw [←Hc.out];unfold wa;rw [←Heb.out,←Hec.out];exact this
  | true =>
    have hle:=ha1 (by trivial);have Hle:Hid (wa xs b≤wa xs ((b - 1)/2)):=by
     show _≤_;rw [←Hc.out];unfold wa;rw [←Heb.out,←Hec.out];exact hle
    clear ha1 ha2 hle;obtain ⟨v,hst,hown⟩:=Hq2.out.st;obtain ⟨r2,cap2,rfl,hr2,hcap⟩:=qdn hown (by have:=Hn.out;omega);obtain ⟨g1,g2,g3⟩:=qaD xs b (by have:=Hn.out;omega);obtain ⟨k1,k2,k3⟩:=qaD xs c (by have:=Hn.out;omega);rw [←Heb.out] at g1 g2 g3;rw [←Hec.out] at k1 k2 k3;rw [←Hn.out] at hst hown;have x0:W.cell? ⟨qb,0,none⟩=some (.slice (some ⟨r2,0,none⟩) n cap2):=by rw [cell_of_row W qb 0 _ 341 (0,0) hst];rfl
    have y1:W.cell? ⟨r2,b*3,none⟩=some (.int .i64 (eb.wt:Nat)):=by rw [hown.cellAt (b*3) (by omega),Nat.mul_comm];exact g1
    have y2:W.cell? ⟨r2,b*3+1,none⟩=some (.int .i64 (eb.tn:Nat)):=by rw [hown.cellAt (b*3+1) (by omega),Nat.mul_comm];exact g2
    have y3:W.cell? ⟨r2,b*3+2,none⟩=some (.slice (some ⟨eb.b,0,none⟩) eb.n eb.c):=by rw [hown.cellAt (b*3+2) (by omega),Nat.mul_comm];exact g3
    have z1:W.cell? ⟨r2,c*3,none⟩=some (.int .i64 (ec.wt:Nat)):=by rw [hown.cellAt (c*3) (by omega),Nat.mul_comm];exact k1
    have z2:W.cell? ⟨r2,c*3+1,none⟩=some (.int .i64 (ec.tn:Nat)):=by rw [hown.cellAt (c*3+1) (by omega),Nat.mul_comm];exact k2
    have z3:W.cell? ⟨r2,c*3+2,none⟩=some (.slice (some ⟨ec.b,0,none⟩) ec.n ec.c):=by rw [hown.cellAt (c*3+2) (by omega),Nat.mul_comm];exact k3
    have f1:=hown.frozenAt (b*3);have f2:=hown.frozenAt (b*3+1);have f3:=hown.frozenAt (b*3+2);have f4:=hown.frozenAt (c*3);have f5:=hown.frozenAt (c*3+1);have f6:=hown.frozenAt (c*3+2);have Hst:=hidI hst;have Hown:=hidI hown;clear hst hown g1 g2 g3 k1 k2 k3 hcap;go_wp2;go_region;have hqr:qb≠r2:=by
     intro e;subst e;obtain ⟨_,_,hk⟩:=Lib.ownsRow_kind Hown.out qb rfl;rw [Hst.out] at hk;simp at hk
    have hs1:=qbd Hown.out b ec;have hs2:=qbd hs1 c eb;have hfr:Fr B w (setEnt (setEnt W r2 b ec) r2 c eb):=qby (v:=.slice none 0 0) (qby (v:=.slice none 0 0) Hf2.out Hown.out b ec) hs1 c eb;have hsw:(xs.set b ec).set c eb=swp xs b c:=by unfold swp;rw [Heb.out,Hec.out]
    have hbl:(setEnt (setEnt W r2 b ec) r2 c eb).heap[qb]? = W.heap[qb]? := (qaj _ _ _ _ _ hqr).trans (qaj _ _ _ _ _ hqr);rw [hsw] at hs2;have hsl:(swp xs b c).length=n:=by rw [qaG,Hn.out]
    have hq3:=QM.make hqB (hbl.trans Hst.out) hsl hs2;have Hq3:=hidI hq3.drew;have Hf3:=hidI hfr.drew;have Hri3:Hid (RI (swp xs b c) c):=by
     have:=qld Hri.out (by omega) (by have:=Hn.out;omega) Hle.out
     rw [←Hc.out] at this;exact this
    have Hp3:Hid (List.Perm (swp xs b c) es):=(qhe xs b c (by have:=Hn.out;omega) (by have:=Hn.out;omega)).trans Hp.out;have hl3:(swp xs b c).length=es.length:=by rw [qaG,Hlen.out]
    have hcs:c<(swp xs b c).length:=by omega
    have hcb:c<b:=by have:=Hc.out;omega
    have HW:Hid (setEnt (setEnt W r2 b ec) r2 c eb=((((((W.setCell ⟨r2,b*3,none⟩ (.int .i64 (ec.wt:Nat))).setCell ⟨r2,b*3+1,none⟩ (.int .i64 (ec.tn:Nat))).setCell ⟨r2,b*3+2,none⟩ (.slice (some ⟨ec.b,0,none⟩) ec.n ec.c)).setCell ⟨r2,c*3,none⟩ (.int .i64 (eb.wt:Nat))).setCell ⟨r2,c*3+1,none⟩ (.int .i64 (eb.tn:Nat))).setCell ⟨r2,c*3+2,none⟩ (.slice (some ⟨eb.b,0,none⟩) eb.n eb.c))):=rfl;rw [←HW.out];clear hs1 hs2 hfr hsw hbl HW x0 y1 y2 y3 z1 z2 z3 f1 f2 f3 f4 f5 f6 Hst Hown Hq2 Hf2 Hp Hri
    generalize (setEnt (setEnt W r2 b ec) r2 c eb).drew=W3 at *
    have Hl3:=hidI hl3;clear hl3;go_wp2;go_roundw
    case rel=>exact ⟨c,swp xs b c,rfl,hcs,Hl3.out,Hri3,Hp3,Hq3,Hf3⟩
    case measure=>simp [intOf];omega
end S1
end Go.Proofs.YtodmdkhdbfbfgaaGreatDoor
