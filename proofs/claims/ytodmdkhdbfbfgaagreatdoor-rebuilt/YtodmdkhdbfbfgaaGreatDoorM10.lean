/- Lemmas. -/
import Derived.Lib.ConvBytes
import Derived.Laws.BitsAllLaws
import Derived.Test.YtodmdkhdbfbfgaaGreatDoorM09
set_option linter.unusedVariables false
set_option linter.unusedSimpArgs false
set_option maxRecDepth 100000
set_option maxHeartbeats 8000000
namespace Go.Proofs.YtodmdkhdbfbfgaaGreatDoor
open Go.RowKit Go.Nt
theorem or8u (n:Nat) (b:Nat) (hn:n<16777216) (hb:b<256):bits .or .u32 ((n:Int)*256) (b:Int)=((n*256+b:Nat):Int):=by
 rw [bits_join .u32 32 (by decide) (fun n h0 h1=>by rw [IntKind.wrap_u32];omega) 8 _ _ (by omega) (by omega) (by omega) (by omega) (by omega) (by omega)];simp
theorem qkz (n:Nat) (h:n<4294967296):n &&& (4294967295 - 128)=less7 n:=by
 apply Nat.eq_of_testBit_eq
 intro i;rw [Nat.testBit_and];unfold less7;have e:n/256*256+n%128=2^8*(n/256)+n%128:=by omega
 rw [e,Nat.testBit_two_pow_mul_add _ (by omega:n%128<2^8)];have h32:∀ j,j<32→Nat.testBit (4294967295 - 128) j=decide (j≠7):=by decide
 by_cases hi:i<8
 ·rw [if_pos hi,h32 i (by omega),show (128:Nat)=2^7 from rfl,Nat.testBit_mod_two_pow];by_cases e7:i=7
  ·subst e7;simp
  have:i<7:=by omega
  simp [e7,this]
 rw [if_neg hi,show (256:Nat)=2^8 from rfl,Nat.testBit_div_two_pow,show i - 8+8=i by omega];by_cases h5:i<32
 ·rw [h32 i h5]
  have:i≠7:=by omega
  simp [this]
 have:n.testBit i=false:=Nat.testBit_lt_two_pow (Nat.lt_of_lt_of_le h (Nat.le_trans (by decide:4294967296≤2^32) (Nat.pow_le_pow_right (by decide) (by omega))))
 rw [this];simp
theorem qjv {s:Bs} {i:Nat} (h:i<s.length):num (s.take (i+1))=num (s.take i)*256+(s.getD i 0).toNat:=qd8 (fun n (x:UInt8)=>n*256+x.toNat) 0 h
theorem qby (w:World) (s:ByteArray):Below w.heap.size w (Lib.bytesWorld w 5 s):=
 ⟨rfl,rfl,rfl,by rw [Lib.bytesWorld_size];omega,fun k hk=>Lib.bytesWorld_at_old w 5 s k hk⟩
theorem qa0 (s:Bs) (w:World) (hs:s.length≤4) :
 Calls Tryz.prog 197 #[.string (txt s)] w fun e w'=>e=.returned (.int .u32 (num s:Nat))∧Below w.heap.size w w':=by
 obtain ⟨X,hX⟩:∃ X,X=txt s:=⟨_,rfl⟩;have Sx:X.size=s.length:=by rw [hX,qaa]
 rw [←hX];have gx:Hid (∀ j,j<s.length→X.data.toList.getD j 0=s.getD j 0):=hidI (fun j _=>by rw [hX];rfl);have HS:=hidI Sx;have hX4:X.size≤4:=by omega
 clear hX Sx;have hcv:=Lib.run_convert_string_bytes (P:=Tryz.prog) w 9 111 5 X Tryz.underlying9 Tryz.underlying111 Tryz.underlying5;have hb2:=qby w X;have hcell:=Lib.bytesWorld_cell w 5 X;obtain ⟨cap,hcap⟩:∃ c,c=grownCap w X.size 0 5:=⟨_,rfl⟩;obtain ⟨W2,hW2⟩:∃ W2,W2=Lib.bytesWorld w 5 X:=⟨_,rfl⟩;rw [←hW2] at hcv hb2 hcell;rw [←hcap] at hcv;have T2:=hidI hb2;have HC:=hidI hcell;clear hcap hW2 hb2 hcell;go_enter Tryz.func197,Tryz.ntmps197
 go_wp2
 go_loopw [3,9] (fun a i wr=>∃ k:Nat,k≤X.size∧i=.int .i64 k∧a=.int .u32 (num (s.take k):Nat)∧wr=W2) (fun _ i _=>X.size - (intOf i).toNat)
 case atStart=>exact ⟨0,Nat.zero_le _,rfl,rfl,rfl⟩
 case round =>
  obtain ⟨k,hk,rfl,rfl,rfl⟩:=hrel;by_cases hlt:k<X.size
  ·have hks:k<s.length:=by have:=HS.out;omega
   have hc:=HC.out k hlt;rw [gx.out k hks] at hc;have hnum:=qjv hks;have hbound:=qdN (s.take k);have hb':num (s.take k)<16777216:=by
    refine Nat.lt_of_lt_of_le hbound ?_
    have:(s.take k).length≤3:=by rw [List.length_take];omega
    exact Nat.le_trans (Nat.pow_le_pow_right (by decide) this) (by decide)
   have hbyte:=(s.getD k 0).toNat_lt;obtain ⟨c,hcc⟩:∃ c,c=(s.getD k 0).toNat:=⟨_,rfl⟩;rw [←hcc] at hc hnum hbyte;obtain ⟨m,hm⟩:∃ m,m=num (s.take k):=⟨_,rfl⟩;rw [←hm] at hnum hb' ⊢;have hor:=or8u m c (by omega) (by omega);have Hnum:=hidI hnum;clear hcc hm hnum hbound;go_wp2;refine ⟨⟨k+1,by omega,by go_num,?_,trivial⟩,by simp [intOf];omega⟩;rw [Hnum.out];simp
  have hks:X.size=k:=by omega
  have HR:Hid (s.take k=s):=hidI (List.take_of_length_le (by have:=HS.out;omega));go_wp2;go_ret
  rw [HR.out];exact ⟨rfl,T2.out⟩
theorem qjV (s:Bs) (w:World) (hs:s.length≤1000) :
 Calls Tryz.prog 198 #[.string (txt s)] w fun e w'=>e=.returned (.int .u32 (sumP s:Nat))∧Below w.heap.size w w':=by
 obtain ⟨X,hX⟩:∃ X,X=txt s:=⟨_,rfl⟩;have Sx:X.size=s.length:=by rw [hX,qaa]
 rw [←hX];have gx:Hid (∀ j,j<s.length→X.data.toList.getD j 0=s.getD j 0):=hidI (fun j _=>by rw [hX];rfl);have HS:=hidI Sx;have hX4:X.size≤1000:=by omega
 clear hX Sx;have hcv:=Lib.run_convert_string_bytes (P:=Tryz.prog) w 9 111 5 X Tryz.underlying9 Tryz.underlying111 Tryz.underlying5;have hb2:=qby w X;have hcell:=Lib.bytesWorld_cell w 5 X;obtain ⟨cap,hcap⟩:∃ c,c=grownCap w X.size 0 5:=⟨_,rfl⟩;obtain ⟨W2,hW2⟩:∃ W2,W2=Lib.bytesWorld w 5 X:=⟨_,rfl⟩;rw [←hW2] at hcv hb2 hcell;rw [←hcap] at hcv;have T2:=hidI hb2;have HC:=hidI hcell;clear hcap hW2 hb2 hcell;go_enter Tryz.func198,Tryz.ntmps198
 go_wp2
 go_loopw [3,9] (fun a i wr=>∃ k m:Nat,k≤X.size∧i=.int .i64 k∧a=.int .u32 m∧wr=W2∧Hid (m=fnv (s.take k))) (fun _ i _=>X.size - (intOf i).toNat)
 case atStart=>exact ⟨0,2166136261,Nat.zero_le _,rfl,rfl,rfl,hidI rfl⟩
 case round =>
  obtain ⟨k,m,hk,rfl,rfl,rfl,Hm⟩:=hrel;have hm32:m<4294967296:=by rw [Hm.out];exact qmh _
  by_cases hlt:k<X.size
  ·have hks:k<s.length:=by have:=HS.out;omega
   have hc:=HC.out k hlt;rw [gx.out k hks] at hc;have hbyte:=(s.getD k 0).toNat_lt;have Hst:Hid (fnv (s.take (k+1))=(m ^^^ (s.getD k 0).toNat)*16777619%4294967296):=hidI (by rw [qlD hks,←Hm.out];rfl);obtain ⟨c,hcc⟩:∃ c,c=(s.getD k 0).toNat:=⟨_,rfl⟩;rw [←hcc] at hc hbyte Hst;have hxor:=u32_xor_nat m c (by omega) (by omega);obtain ⟨y,hy⟩:∃ y,y=m ^^^ c:=⟨_,rfl⟩;rw [←hy] at hxor Hst;have hy32:y<4294967296:=by rw [hy];exact Nat.xor_lt_two_pow (n:=32) (by omega) (by omega)
   clear hcc hy;go_wp2;refine ⟨⟨k+1,y*16777619%4294967296,by omega,by go_num,by go_num,trivial,hidI (by rw [Hst.out])⟩,by simp [intOf];omega⟩
  have hks:X.size=k:=by omega
  have HR:Hid (s.take k=s):=hidI (List.take_of_length_le (by have:=HS.out;omega));have hand:=u32_andNot_nat m 128 hm32 (by omega);rw [qkz m hm32] at hand;have hand':bits .andNot .u32 (m:Int) 128=((less7 m:Nat):Int):=hand;obtain ⟨z,hz⟩:∃ z,z=less7 m:=⟨_,rfl⟩;rw [←hz] at hand';have Hz:=hidI hz;clear hand hz;go_wp2;go_ret
  refine ⟨?_,T2.out⟩;unfold sumP;rw [Hz.out,Hm.out,HR.out];rfl
theorem qcO (B:Nat) (v:Value) (l:Bs) (k n:Nat) (w:World) (hB:B≤w.heap.size) (hv:Bytes w B v l) (hk:k≤4) (hl:l.length≤1000000) (hn:n<4294967296) :
 Calls Tryz.prog 244 #[v,.int .i64 k,.int .u32 n] w fun e w'=>∃ v',e=.returned v'∧Bytes w' B v' (l++enc k n)∧Below B w w'∧But 5 w w':=by
 obtain ⟨i0,hi,hz0,hz1,hz2⟩:=info_parts Tryz.info5;have Hv:=hidI hv;clear hv;go_enter Tryz.func244,Tryz.ntmps244
 go_wp2
 go_loopw [0,7] (fun b i wr=>∃ j:Nat,j≤k∧i=.int .i64 ((k:Int) - j - 1)∧Hid (Bytes wr B b (l++enc j (n/256^(k - j))))∧Hid (Below B w wr)∧Hid (But 5 w wr)) (fun _ i _=>((intOf i)+1).toNat)
 case atStart=>exact ⟨0,Nat.zero_le _,by go_num,hidI (by simpa [enc] using Hv.out),hidI (Below.refl _ _),hidI (But.refl _ _)⟩
 case round =>
  obtain ⟨j,hj,rfl,Hb,Hbel,Hbut⟩:=hrel;rcases Nat.lt_or_ge j k with hlt | hge
  ·obtain ⟨m,hm⟩:∃ m,m=k - (j+1):=⟨_,rfl⟩;have hmi:(k:Int) - j - 1=(m:Nat):=by omega
   have hm4:m≤3:=by omega
   have Hs:=hidI (qg1 k j n hlt);rw [←hm] at Hs;have Hj:=hidI hmi;have Hm:=hidI hm;rw [hmi];clear hmi hm;obtain ⟨a,c,rfl⟩:=Hb.out.slice;obtain ⟨L,hL⟩:∃ L,L=(l++enc j (n/256^(k - j))).length:=⟨_,rfl⟩;have hLl:L≤1000004:=by rw [hL,List.length_append,qab];omega
   rw [←hL] at Hb ⊢;have HL:=hidI hL;have Ho:Hid (wr.ownsRow B 5 1 (.slice a L c) L (bv (l++enc j (n/256^(k - j))))):=hidI (by have:=Hb.out;unfold Bytes at this;rwa [←hL] at this);have hsz:=Hbel.out.size;clear hL;go_wp2_with (at_builtin;refine wpList_append_own _ rfl (.tmp 14) (.tmp 20) 111 rfl B 5 i0 _ 1 1 Tryz.underlying111 hi hz0 hz1 hz2 rfl (by decide) _ _ _ rfl (Ho.out.alloc _) ⟨wr.heap.size,0,none⟩ 1 1 [.int .u8 ((n:Int)/2^(8*m)%256)] rfl rfl ?c1 ?c2 ?c3 ?c4 ?c5 ?_)
   case c1=>exact cell_one_new _ _ _
   case c2=>intro u hu;simp at hu;subst hu;rfl
   case c3=>unfold maxLen;omega
   case c4=>omega
   case c5=>simp;omega
   intro v3 w3 hown3 hgrow _;have hbel3:Below B w w3:=(Hbel.out.alloc (by omega) _).grown hgrow (by simp;omega) (fun q hq=>(Ho.out.lt q hq).1);have hbut3:But 5 w w3:=(Hbut.out.alloc _).grown (Ho.out.alloc _) hgrow;have hB3:Hid (Bytes w3 B v3 (l++enc (j+1) (n/256^(k - (j+1))))):=by
    have h1:=HL.out;have h2:=Hs.out;have h3:=Hm.out;refine hidI ?_;unfold Bytes;rw [←h3,h2,←List.append_assoc,qaI,List.length_append,←h1];have h4:bv [UInt8.ofNat (n/256^m)]=[.int .u8 ((n:Int)/2^(8*m)%256)]:=by
     simp only [bv,List.map_cons,List.map_nil,UInt8.toNat_ofNat'];rw [show (256:Nat)=2^8 from rfl,←Nat.pow_mul]
     congr 2
    rw [h4];exact hown3
   go_wp2;go_roundw
   case rel=>exact ⟨j+1,by omega,by have:=Hj.out;go_num,hB3,hidI hbel3,hidI hbut3⟩
   case measure=>simp [intOf]
  have hjk:j=k:=by omega
  subst hjk;have e1:(j:Int) - j - 1 = -1:=by omega
  rw [e1];go_wp2;go_ret
  refine ⟨_,rfl,?_,Hbel.out,Hbut.out⟩
  have:=Hb.out
  simpa using this
theorem qcv (k:Nat):Builtin.zeroCells (Value.int .u8 0).cells k=(bv (List.replicate k 0)).toArray:=by
 apply Array.ext'
 simp only [Builtin.zeroCells,Value.cells,bv]
 apply List.ext_getElem?
 intro i;by_cases h:i<k
 ·simp [h,Nat.mod_one]
 simp [h]
theorem qfN (w:World) (B:Nat) (v:Value) (l:Bs) (k:Nat) (ty:TypeId) (hv:Bytes w B v l) (h0:0<l.length) (hl:l.length≤1000000) (hk:k≤1000) (hB:B≤w.heap.size) :
 ∃ v' w',(Builtin.append_ #[111,3] ty #[v,.int .i64 k]).run Tryz.prog w=.ok v' w'∧Bytes w' B v' (l++List.replicate k 0)∧w.grownBy w' v.ownBlock:=by
 obtain ⟨i0,hi,hz0,hz1,hz2⟩:=info_parts Tryz.info5;have hlen:(bv (l++List.replicate k 0)).length=(l.length+k)*1:=by rw [qaS];simp
 rcases hv.2 with ⟨_,h⟩ | ⟨g,cap,cur,rfl,hbg,hg,hnc,hcm,hcs,htake⟩
 ·omega
 have hw:IntKind.i64.wrap (k:Int)=k:=by rw [IntKind.wrap_i64];omega
 have hneg:¬((k:Int)<0):=by omega
 have h48:¬(281474976710656<(k:Int)):=by omega
 by_cases hroom:l.length+k≤cap
 ·have hfit:l.length+(bv (List.replicate k 0)).length≤cur.size:=by rw [qaS,hcs];simp;omega
  have hst:=run_storeCells_at Tryz.prog g l.length 5 (bv (List.replicate k 0)) 0 cur w hg (by simpa using hfit) (by intro x hx;simp [bv] at hx;obtain ⟨_,rfl⟩:=hx;rfl);simp only [Nat.add_zero] at hst;have hrun:(Builtin.append_ #[111,3] ty #[.slice (some ⟨g,0,none⟩) l.length cap,.int .i64 k]).run Tryz.prog w=.ok (.slice (some ⟨g,0,none⟩) (l.length+k) cap) (w.setRow g (cur.toList.take l.length++bv (List.replicate k 0)++cur.toList.drop (l.length+(bv (List.replicate k 0)).length)).toArray):=by
   have hz':(Value.int IntKind.u8 0).cells=#[Value.int .u8 0]:=rfl;by_cases hk0:k=0
   ·subst hk0;have hw0:IntKind.i64.wrap 0=0:=by decide
    have hst0:(storeCells ⟨g,l.length,none⟩ []).run Tryz.prog w=.ok () w:=rfl;have hnc':l.length≤cap:=hnc;simp [hw0,hst0,hnc',Builtin.append_,run_underlying Tryz.underlying111,run_underlying Tryz.underlying3,sizeOf,typeInfo,hi,hz1,hz2,asInt,asIntOf,hroom,hnc,hz0,Addr.add_lit,bv];rw [setRow_self w g cur 5 (0,0) hg]
   simp [Builtin.append_,run_underlying Tryz.underlying111,run_underlying Tryz.underlying3,sizeOf,typeInfo,zeroValue,hi,hz0,hz1,hz2,asInt,asIntOf,hw,hneg,h48,hroom,hk0,Addr.add_lit,qcv,hst]
  refine ⟨_,_,hrun,⟨hlen ▸ by simp,.inr ⟨g,cap,_,by simp,hbg,setRow_heap w g cur _ 5 _ hg,by simpa using hroom,hcm,?_,?_⟩⟩,⟨rfl,rfl,rfl,by simp,fun j _ hj=>setRow_other w g j _ (fun e=>hj (by simp [Value.ownBlock,e]))⟩⟩
  ·simp only [List.size_toArray,List.length_append,List.length_take,List.length_drop,Array.length_toList,qaS] at hfit ⊢;omega
  have h1:cur.toList.take l.length=bv l:=by simpa using htake
  rw [h1,qaI]
  have:(l++List.replicate k (0:UInt8)).length*1=(bv l++bv (List.replicate k 0)).length:=by simp [qaS]
  rw [this];exact List.take_left
 have hk0:0<k:=by omega
 have hcells:∀ j u,(bv l)[j]? = some u→w.drew.cell? ((⟨g,0,none⟩:Addr).add j)=some u:=by
  have:=World.ownsRow.cells (h:=hv) (g:=g) rfl
  exact this
 have hf:=run_firstCells_some (P:=Tryz.prog) w.drew 1 l.length ⟨g,0,none⟩ l.length cap (bv l) (by rw [qaS];omega) hcells;have hr:=Lib.run_append_grow_zeros (P:=Tryz.prog) w 111 3 ty 5 i0 (.int .u8 0) .i64 .i64 Tryz.underlying111 Tryz.underlying3 hi hz0 (some ⟨g,0,none⟩) l.length cap (bv l) (by rw [hz1];exact hf) k hk0 (by rw [hz1];decide) (by omega) (by omega) (by rw [hz2];omega) (by rw [hz2];exact growslice_fits (by omega) (by omega));have hge:=grownCap_ge w (l.length+k) cap 5;have hcm':grownCap w (l.length+k) cap 5≤maxLen:=grownCap_le_maxLen w (l.length+k) cap 5 (by unfold maxLen;omega);refine ⟨_,_,hr,⟨hlen ▸ by simp,.inr ⟨w.heap.size,_,_,by simp,hB,heap_alloc_new w.drew _,by simpa using hge,hcm',?_,?_⟩⟩,⟨rfl,rfl,rfl,by simp,fun j hj _=>Below.heap_alloc w.drew _ j hj⟩⟩
 ·simp only [Array.size_append,List.size_toArray,size_zeroCells,qaS]
  have:(Value.int IntKind.u8 0).cells.size=1:=rfl
  rw [this];omega
 rw [qcv,Array.toList_append,Array.toList_append];rw [show (bv l).toArray.toList=bv l from rfl,show (bv (List.replicate k 0)).toArray.toList=bv (List.replicate k 0) from rfl,←qaI]
 have:(l++List.replicate k (0:UInt8)).length*1=(bv (l++List.replicate k 0)).length:=by simp [qaS]
 rw [this];exact List.take_left
theorem Bytes.str' {w:World} {B:Nat} {v:Value} {l:Bs} (h:Bytes w B v l):(convert 111 9 v).run Tryz.prog w=.ok (.string (txt l)) w:=S1.conv_own h
theorem Bytes.below' {w w':World} {B M:Nat} {v:Value} {l:Bs} (h:Bytes w B v l) (hb:Below M w w') (hM:w.heap.size≤M):Bytes w' B v l:=by
 refine ⟨h.1,?_⟩;rcases h.2 with ⟨rfl,h0⟩ | ⟨g,cap,cur,rfl,h1,hh,h2⟩
 ·exact .inl ⟨rfl,h0⟩
 exact .inr ⟨g,cap,cur,rfl,h1,(hb.block g (Nat.lt_of_lt_of_le (lt_of_heap hh) hM)).trans hh,h2⟩
def pgv (p:Pg):Value:=.agg #[.int .i64 (p.bad:Nat),.int .u32 (p.num:Nat),.int .i64 (p.at_:Nat),.int .i64 (p.of_:Nat),.string (txt p.text)]
theorem qie (p:Pg) (w:World) (hb:p.bad<256) (hn:p.num<4294967296) (ha:p.at_<65536) (ho:p.of_<65536) (ht:p.text.length≤51) :
 Calls Tryz.prog 194 #[pgv p] w fun e w'=>e=.returned (.string (txt (pageB p)))∧Below w.heap.size w w':=by
 obtain ⟨b,n,a,o,t⟩:=p;simp only at hb hn ha ho ht;obtain ⟨i0,hi,hz0,hz1,hz2⟩:=info_parts Tryz.info5;obtain ⟨X,hX⟩:∃ X,X=txt t:=⟨_,rfl⟩;have Sx:X.size=t.length:=by rw [hX,qaa]
 unfold pgv;simp only;rw [←hX];have HX:=hidI hX;have HS:=hidI Sx;have hX5:X.size≤51:=by omega
 obtain ⟨W1,hW1⟩:∃ W1,W1=w.alloc (.cells #[.int .i64 (b:Nat),.int .u32 (n:Nat),.int .i64 (a:Nat),.int .i64 (o:Nat),.string X] 182):=⟨_,rfl⟩;have r1:W1.heap[w.heap.size]? = some (.cells #[.int .i64 (b:Nat),.int .u32 (n:Nat),.int .i64 (a:Nat),.int .i64 (o:Nat),.string X] 182 (0,0)):=by rw [hW1];exact heap_alloc_new _ _
 have hb1:Below w.heap.size w W1:=by rw [hW1];exact (Below.refl _ w).alloc (Nat.le_refl _) _
 have hs1:W1.heap.size=w.heap.size+1:=by rw [hW1];simp
 obtain ⟨W2,hmk,hown,hg2⟩:=run_make_own (P:=Tryz.prog) W1 W1.heap.size 111 5 i0 _ 1 Tryz.underlying111 hi hz0 hz1 .i64 .i64 64 (by rw [hz2];omega) (by unfold maxLen;omega) (Nat.le_refl _);have hY0:Bytes W2 W1.heap.size (.slice (some ⟨W1.heap.size,0,none⟩) 0 64) []:=hown;have hb2:Below W1.heap.size W1 W2:=(Below.refl _ W1).grown hg2 (Nat.le_refl _) (fun q hq=>by cases hq);obtain ⟨v0,hv0⟩:∃ v0,v0=Value.slice (some ⟨W1.heap.size,0,none⟩) 0 64:=⟨_,rfl⟩;rw [←hv0] at hY0 hmk;rw [show ((64:Nat):Int)=64 from rfl] at hmk;obtain ⟨B,hB⟩:∃ B,B=W1.heap.size:=⟨_,rfl⟩;obtain ⟨g,hg⟩:∃ g,g=w.heap.size:=⟨_,rfl⟩;rw [←hB] at hY0 hb2 hs1;rw [←hg] at r1 hb1 hs1 ⊢;have hgB:g<B:=by omega
 have hB2:B≤W2.heap.size:=by have:=hb2.size;omega
 have HA:=hidI (fun (W:World) (v:Value) (l:Bs) (k m:Nat) (h1:B≤W.heap.size) (h2:Bytes W B v l) (h3:k≤4) (h4:l.length≤1000000) (h5:m<4294967296)=>qcO B v l k m W h1 h2 h3 h4 h5);have HR:=hidI (fun (W W':World) (h1:W.heap[g]? = some (.cells #[.int .i64 (b:Nat),.int .u32 (n:Nat),.int .i64 (a:Nat),.int .i64 (o:Nat),.string X] 182 (0,0))) (h2:Below B W W')=>(h2.block g hgB).trans h1);have r2:=HR.out W1 W2 r1 hb2;have HW1:=hidI hW1;have Hb2:=hidI (hb1.trans (hb2.mono (by omega)));have HY0:=hidI hY0;have R2:=hidI r2;have HgB:=hidI hgB;have Hgw:=hidI hg;have c20:W2.cell? ⟨g,0,none⟩=some (.int .i64 (b:Nat)):=by rw [cell_of_row W2 g 0 _ 182 (0,0) r2];rfl
 have hBw:Hid (B=W1.heap.size):=hidI hB;have A1:=hidI (HA.out W2 v0 [] 1 b hB2 hY0 (by decide) (by simp) (by omega));have Hs1:=hidI hs1;clear r1 r2 hb1 hb2 hown hg2 hY0 hv0 hW1 hX Sx hB hgB hs1 hg;go_enter Tryz.func194,Tryz.ntmps194
 go_wp2_with (first | (rw [←HW1.out]) | (rw [←Hgw.out]) | fail);refine A1.out.mono ?_;rintro e W3 ⟨v1,rfl,hY1,hb3,_⟩;have R3:=hidI (HR.out _ _ R2.out hb3);have Hb3:=hidI (Hb2.out.trans (hb3.mono (by have:=HgB.out;omega)));have HY1:=hidI hY1;have hB3:B≤W3.heap.size:=Nat.le_trans hB2 hb3.size;have c31:W3.cell? ⟨g,1,none⟩=some (.int .u32 (n:Nat)):=by rw [cell_of_row W3 g 1 _ 182 (0,0) R3.out];rfl
 have A2:=hidI (HA.out W3 v1 _ 4 n hB3 hY1 (by decide) (by simp [qab]) hn);clear hY1 hb3 A1 c20 R2 Hb2 HY0 hB2 hmk;go_wp2_with fail;refine A2.out.mono ?_;rintro e W4 ⟨v2,rfl,hY2,hb4,_⟩;have R4:=hidI (HR.out _ _ R3.out hb4);have Hb4:=hidI (Hb3.out.trans (hb4.mono (by have:=HgB.out;omega)));have hB4:B≤W4.heap.size:=Nat.le_trans hB3 hb4.size;have c42:W4.cell? ⟨g,2,none⟩=some (.int .i64 (a:Nat)):=by rw [cell_of_row W4 g 2 _ 182 (0,0) R4.out];rfl
 have A3:=hidI (HA.out W4 v2 _ 2 a hB4 hY2 (by decide) (by simp [qab]) (by omega));clear hY2 hb4 A2 c31 R3 Hb3 HY1 hB3;go_wp2_with fail;refine A3.out.mono ?_;rintro e W5 ⟨v3,rfl,hY3,hb5,_⟩;have R5:=hidI (HR.out _ _ R4.out hb5);have Hb5:=hidI (Hb4.out.trans (hb5.mono (by have:=HgB.out;omega)));have hB5:B≤W5.heap.size:=Nat.le_trans hB4 hb5.size;have c53:W5.cell? ⟨g,3,none⟩=some (.int .i64 (o:Nat)):=by rw [cell_of_row W5 g 3 _ 182 (0,0) R5.out];rfl
 have A4:=hidI (HA.out W5 v3 _ 2 o hB5 hY3 (by decide) (by simp [qab]) (by omega));clear hY3 hb5 A3 c42 R4 Hb4 hB4;go_wp2_with fail;refine A4.out.mono ?_;rintro e W6 ⟨v4,rfl,hY4,hb6,_⟩;have R6:=hidI (HR.out _ _ R5.out hb6);have Hb6:=hidI (Hb5.out.trans (hb6.mono (by have:=HgB.out;omega)));have hB6:B≤W6.heap.size:=Nat.le_trans hB5 hb6.size;have c64:W6.cell? ⟨g,4,none⟩=some (.string X):=by rw [cell_of_row W6 g 4 _ 182 (0,0) R6.out];rfl
 obtain ⟨H,hH⟩:∃ H,H=([]++enc 1 b++enc 4 n++enc 2 a++enc 2 o):=⟨_,rfl⟩;have hH9:H.length=9:=by rw [hH];simp [qab]
 rw [←hH] at hY4;have HH:=hidI hH;have HH9:=hidI hH9;have Ho:Hid (W6.ownsRow B 5 1 v4 9 (bv H)):=hidI (by have:=hY4;unfold Bytes at this;rwa [hH9] at this);obtain ⟨a4,cp4,rfl⟩:=hY4.slice;rw [hH9] at Ho ⊢;clear hY4 hb6 A4 c53 R5 Hb5 hB5 hH hH9;go_wp2_with (at_builtin;refine Lib.wpList_append_own_string _ rfl (.tmp 26) (.tmp 28) 111 9 rfl B 5 i0 Tryz.underlying111 Tryz.underlying9 hi hz0 hz1 hz2 _ _ _ rfl Ho.out X rfl ?c3 ?c4 ?c5 ?_)
 case c3=>unfold maxLen;omega
 case c4=>omega
 case c5=>omega
 intro v5 W7 hown7 hgrow7 _;have hY7:Bytes W7 B v5 (H++t):=by
  unfold Bytes;have h1:=HX.out;have h2:=HH9.out;have Sx:=HS.out;rw [qaI,List.length_append,h2,←Sx,←qfU t,←h1];exact hown7
 have hb7:Below B W6 W7:=(Below.refl _ W6).grown hgrow7 hB6 (fun q hq=>(Ho.out.lt q hq).1);have hB7:B≤W7.heap.size:=Nat.le_trans hB6 hb7.size;have hL7:(H++t).length=9+X.size:=by rw [List.length_append,HH9.out,HS.out]
 obtain ⟨a5,cp5,rfl⟩:=hY7.slice;have Hb7:=hidI (Hb6.out.trans (hb7.mono (by have:=HgB.out;omega)));obtain ⟨k,hk⟩:∃ k,k=51 - X.size:=⟨_,rfl⟩;have hki:(60:Int) - (9+(X.size:Int))=(k:Nat):=by omega
 obtain ⟨v6,W8,hz8,hY8,hg8⟩:=qfN W7 B _ (H++t) k 111 hY7 (by omega) (by omega) (by omega) hB7;have hb8:Below B W7 W8:=(Below.refl _ W7).grown hg8 hB7 (fun q hq=>(World.ownsRow.lt hY7 q hq).1);have hB8:B≤W8.heap.size:=Nat.le_trans hB7 hb8.size;have Hb8:=hidI (Hb7.out.trans (hb8.mono (by have:=HgB.out;omega)));rw [hL7] at hz8 ⊢;have Hhead:Hid (H++t++List.replicate k 0=pgHead ⟨b,n,a,o,t⟩):=hidI (by rw [HH.out,hk,HS.out];simp [pgHead]);obtain ⟨G,hG⟩:∃ G,G=H++t++List.replicate k 0:=⟨_,rfl⟩;rw [←hG] at Hhead hY8;have hG60:G.length=60:=by rw [Hhead.out];exact qaH _ ht
 have HG60:=hidI hG60;have hconv:=Bytes.str' hY8;obtain ⟨Y,hYs⟩:∃ Y,Y=txt G:=⟨_,rfl⟩;rw [←hYs] at hconv;have HYs:=hidI hYs;have A5:=hidI (qjV G W8 (by omega));rw [←hYs] at A5;have hs32:=qjZ G;obtain ⟨sm,hsm⟩:∃ sm,sm=sumP G:=⟨_,rfl⟩;rw [←hsm] at A5 hs32;have Hsm:=hidI hsm;have HY8:=hidI hY8;clear hown7 hgrow7 hY7 hb7 Ho R6 Hb6 hB6 c64 hL7 hk hb8 hg8 hYs hsm hG hG60 hY8;go_wp2_with (at_builtin;refine Lib.wpList_append_run _ rfl _ _ _ _ rfl _ _ rfl rfl _ _ (by first | exact hz8 | (rw [hki];exact hz8)) ?_);go_wp2_with fail;refine A5.out.mono ?_;rintro e W9 ⟨rfl,hb9⟩;have hY9:Bytes W9 B v6 G:=Bytes.below' HY8.out hb9 (Nat.le_refl _);have hB9:B≤W9.heap.size:=Nat.le_trans hB8 hb9.size;have Hb9:=hidI (Hb8.out.trans (hb9.mono (by have:=HgB.out;omega)));have A6:=hidI (HA.out W9 v6 G 4 sm hB9 hY9 (by decide) (by rw [HG60.out];decide) hs32);clear A5 hb9 hY9 HY8 Hb8 hconv hz8
 go_wp2_with fail;refine A6.out.mono ?_;rintro e W10 ⟨v7,rfl,hY10,hb10,_⟩;have hconv:=Bytes.str' hY10;obtain ⟨Z,hZ⟩:∃ Z,Z=txt (G++enc 4 sm):=⟨_,rfl⟩;rw [←hZ] at hconv;have HZ:=hidI hZ;have Hb10:=hidI (Hb9.out.trans (hb10.mono (by have:=HgB.out;omega)));clear A6 hY10 hb10 hZ;go_wp2;go_ret
 refine ⟨?_,Hb10.out⟩;rw [HZ.out,Hsm.out,Hhead.out];rfl
end Go.Proofs.YtodmdkhdbfbfgaaGreatDoor
