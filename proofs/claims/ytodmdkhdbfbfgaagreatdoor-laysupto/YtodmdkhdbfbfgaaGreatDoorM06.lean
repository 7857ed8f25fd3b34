/- Lemmas. -/
import Derived.Lib.ConvBytes
import Derived.Laws.BitsAllLaws
import Derived.Lib.AppendZerosOnto
import Derived.BigRegion
import Derived.Test.YtodmdkhdbfbfgaaGreatDoorM05
set_option linter.unusedVariables false
set_option linter.unusedSimpArgs false
set_option maxRecDepth 100000
set_option maxHeartbeats 8000000
open Go.Proofs.Tryz
abbrev Go.CW:=@Go.Lib.wpList_append_own_string
abbrev Go.Cb:=@Go.run_underlying
abbrev Go.DV:=@Go.World.ownsRow.lt
namespace Go.Proofs.YtodmdkhdbfbfgaaGreatDoor
open Go.RowKit Go.Nt
theorem UZ(n:Nat)(b:Nat)(hn:n<16777216)(hb:b<256):bits .or .u32 ((n:Int)*256) (b:Int)=((n*256+b:Nat):Int):=by
 rw[bits_join .u32 32 (by decide) (λn h0 h1=>by rw[IntKind.wrap_u32];omega) 8 _ _ (by omega) (by omega) (by omega) (by omega) (by omega) (by omega)];simp
theorem sR(n:Nat)(h:n<4294967296):n &&& (4294967295 - 128)=Jw n:=by
 apply Nat.eq_of_testBit_eq
 intro i;rw[Nat.testBit_and];unfold Jw;have e:n/256*256+n%128=2^8*(n/256)+n%128:=by omega
 rw[e,Nat.testBit_two_pow_mul_add _ (by omega:n%128<2^8)];have a0:∀j,j<32->Nat.testBit (4294967295 - 128) j=decide (j≠7):=by decide
 by_cases hi:i<8
 ·rw[AE hi,a0 i (by omega),show(128:Nat)=2^7 from rfl,Nat.testBit_mod_two_pow];by_cases e7:i=7
  ·subst e7;simp
  have:i<7:=by omega
  simp[e7,this]
 rw[AC hi,show(256:Nat)=2^8 from rfl,Nat.testBit_div_two_pow,show i - 8+8=i by omega];by_cases h5:i<32
 ·rw[a0 i h5]
  have:i≠7:=by omega
  simp[this]
 have:n.testBit i=false:=Nat.testBit_lt_two_pow (AR h (AF (by decide:4294967296<=2^32) (BD (by decide) (by omega))))
 rw[this];simp
theorem mX{s:Bs}{i:Nat}(h:i<s.length):num (s.take (i+1))=num (s.take i)*256+(s.getD i 0).toNat:=Wj (λn (x:UInt8)=>n*256+x.toNat) 0 h
theorem Wn(w:D7)(s:ByteArray):Below w.heap.size w (Lib.bytesWorld w 5 s):=
 ⟨rfl,rfl,rfl,by rw[Lib.bytesWorld_size];omega,λk hk=>Lib.bytesWorld_at_old w 5 s k hk⟩
theorem TL(s:Bs)(w:D7)(hs:s.length<=4) :
 Calls prog 197 #[.string (D9 s)] w λe w'=>e=.returned (.int .u32 (num s:Nat))/\Below w.heap.size w w':=by
 obtain⟨X,hX⟩:=Jq (D9 s);have Sx:X.size=s.length:=by rw[hX,Dd]
 rw[<-hX];have gx:Hid (∀j,j<s.length->X.data.toList.getD j 0=s.getD j 0):=Jy (λj _=>by rw[hX];rfl);have HS:=Jy Sx;have af:X.size<=4:=by omega
 clear hX Sx;have aa:=Lib.run_convert_string_bytes (P:=prog) w 9 111 5 X underlying9 underlying111 underlying5;have a6:=Wn w X;have a0:=Lib.bytesWorld_cell w 5 X;obtain⟨ae,a3⟩:∃c,c=grownCap w X.size 0 5:=⟨_,rfl⟩;obtain⟨W2,a8⟩:=Jq (Lib.bytesWorld w 5 X);rw[<-a8]at aa a6 a0;rw[<-a3]at aa;have T2:=Jy a6;have HC:=Jy a0;clear a3 a8 a6 a0;go_enter func197,ntmps197
 go_wp2
 go_loopw [3,9] (λa i wr=>∃k:Nat,k<=X.size/\i=.int .i64 k/\a=.int .u32 (num (s.take k):Nat)/\wr=W2) (λ_ i _=>X.size - (intOf i).toNat)
 case atStart=>exact⟨0,AU _,rfl,rfl,rfl⟩
 case round =>
  obtain⟨k,hk,rfl,rfl,rfl⟩:=hrel;by_cases ac:k<X.size
  ·have a7:k<s.length:=by have:=HS.o;omega
   have hc:=HC.o k ac;rw[gx.o k a7]at hc;have a2:=mX a7;have a1:=QP (s.take k);have ad:num (s.take k)<16777216:=by
    refine AR a1 ?_
    have:(s.take k).length<=3:=by rw[Ae];omega
    exact AF (BD (by decide) this) (by decide)
   have a4:=(s.getD k 0).toNat_lt;obtain⟨c,a9⟩:=Jq ((s.getD k 0).toNat);rw[<-a9]at hc a2 a4;obtain⟨m,hm⟩:=Jq (num (s.take k));rw[<-hm]at a2 ad ⊢;have ag:=UZ m c (by omega) (by omega);have a5:=Jy a2;clear a9 hm a2 a1;go_wp2;refine⟨⟨k+1,by omega,by go_num,?_,trivial⟩,by simp[intOf];omega⟩;rw[a5.o];simp
  have a7:X.size=k:=by omega
  have HR:Hid (s.take k=s):=Jy (AT (by have:=HS.o;omega));go_wp2;go_ret
  rw[HR.o];exact⟨rfl,T2.o⟩
theorem Zg(s:Bs)(w:D7)(hs:s.length<=1000) :
 Calls prog 198 #[.string (D9 s)] w λe w'=>e=.returned (.int .u32 (JG s:Nat))/\Below w.heap.size w w':=by
 obtain⟨X,hX⟩:=Jq (D9 s);have Sx:X.size=s.length:=by rw[hX,Dd]
 rw[<-hX];have gx:Hid (∀j,j<s.length->X.data.toList.getD j 0=s.getD j 0):=Jy (λj _=>by rw[hX];rfl);have HS:=Jy Sx;have ah:X.size<=1000:=by omega
 clear hX Sx;have ad:=Lib.run_convert_string_bytes (P:=prog) w 9 111 5 X underlying9 underlying111 underlying5;have a8:=Wn w X;have a0:=Lib.bytesWorld_cell w 5 X;obtain⟨ag,a2⟩:∃c,c=grownCap w X.size 0 5:=⟨_,rfl⟩;obtain⟨W2,aa⟩:=Jq (Lib.bytesWorld w 5 X);rw[<-aa]at ad a8 a0;rw[<-a2]at ad;have T2:=Jy a8;have HC:=Jy a0;clear a2 aa a8 a0;go_enter func198,ntmps198
 go_wp2
 go_loopw [3,9] (λa i wr=>∃k m:Nat,k<=X.size/\i=.int .i64 k/\a=.int .u32 m/\wr=W2/\Hid (m=Q3 (s.take k))) (λ_ i _=>X.size - (intOf i).toNat)
 case atStart=>exact⟨0,2166136261,AU _,rfl,rfl,rfl,Jy rfl⟩
 case round =>
  obtain⟨k,m,hk,rfl,rfl,rfl,Hm⟩:=hrel;have a5:m<4294967296:=by rw[Hm.o];exact fI _
  by_cases ae:k<X.size
  ·have a7:k<s.length:=by have:=HS.o;omega
   have hc:=HC.o k ae;rw[gx.o k a7]at hc;have a3:=(s.getD k 0).toNat_lt;have a6:Hid (Q3 (s.take (k+1))=(m ^^^ (s.getD k 0).toNat)*16777619%4294967296):=Jy (by rw[sX a7,<-Hm.o];rfl);obtain⟨c,ac⟩:=Jq ((s.getD k 0).toNat);rw[<-ac]at hc a3 a6;have a9:=u32_xor_nat m c (by omega) (by omega);obtain⟨y,hy⟩:=Jq (m ^^^ c);rw[<-hy]at a9 a6;have af:y<4294967296:=by rw[hy];exact Nat.xor_lt_two_pow (n:=32) (by omega) (by omega)
   clear ac hy;go_wp2;refine⟨⟨k+1,y*16777619%4294967296,by omega,by go_num,by go_num,trivial,Jy (by rw[a6.o])⟩,by simp[intOf];omega⟩
  have a7:X.size=k:=by omega
  have HR:Hid (s.take k=s):=Jy (AT (by have:=HS.o;omega));have a1:=u32_andNot_nat m 128 a5 (by omega);rw[sR m a5]at a1;have a4:bits .andNot .u32 (m:Int) 128=((Jw m:Nat):Int):=a1;obtain⟨z,hz⟩:=Jq (Jw m);rw[<-hz]at a4;have Hz:=Jy hz;clear a1 hz;go_wp2;go_ret
  refine⟨?_,T2.o⟩;unfold JG;rw[Hz.o,Hm.o,HR.o];rfl
theorem sg(B:Nat)(v:Value)(l:Bs)(k n:Nat)(w:D7)(hB:B<=w.heap.size)(hv:Bytes w B v l)(hk:k<=4)(hl:l.length<=1000000)(hn:n<4294967296) :
 Calls prog 244 #[v,.int .i64 k,.int .u32 n] w λe w'=>∃v',e=.returned v'/\Bytes w' B v' (l++enc k n)/\Below B w w'/\Gc 5 w w':=by
 obtain⟨i0,hi,a9,aa,a8⟩:=Ai Fz;have Hv:=Jy hv;clear hv;go_enter func244,ntmps244
 go_wp2
 go_loopw [0,7] (λb i wr=>∃j:Nat,j<=k/\i=.int .i64 ((k:Int) - j - 1)/\Hid (Bytes wr B b (l++enc j (n/256^(k - j))))/\Hid (Below B w wr)/\Hid (Gc 5 w wr)) (λ_ i _=>((intOf i)+1).toNat)
 case atStart=>exact⟨0,AU _,by go_num,Jy (by simpa[enc]using Hv.o),Jy (AM _ _),Jy (Gc.refl _ _)⟩
 case round =>
  obtain⟨j,hj,rfl,Hb,a1,a2⟩:=hrel;rcases CM j k with hlt | hge
  ·obtain⟨m,hm⟩:=Jq (k - (j+1));have a6:(k:Int) - j - 1=(m:Nat):=by omega
   have ae:m<=3:=by omega
   have Hs:=Jy (YC k j n hlt);rw[<-hm]at Hs;have Hj:=Jy a6;have Hm:=Jy hm;rw[a6];clear a6 hm;obtain⟨a,c,rfl⟩:=Hb.o.slice;obtain⟨L,hL⟩:=Jq ((l++enc j (n/256^(k - j))).length);have af:L<=1000004:=by rw[hL,AN,IE];omega
   rw[<-hL]at Hb ⊢;have HL:=Jy hL;have Ho:Hid (wr.ownsRow B 5 1 (.slice a L c) L (bv (l++enc j (n/256^(k - j))))):=Jy (by have:=Hb.o;unfold Bytes at this;rwa[<-hL]at this);have ad:=a1.o.size;clear hL;go_wp2_with (at_builtin;refine Ar _ rfl (.tmp 14) (.tmp 20) 111 rfl B 5 i0 _ 1 1 underlying111 hi a9 aa a8 rfl (by decide) _ _ _ rfl (Ho.o.alloc _) ⟨wr.heap.size,0,none⟩ 1 1 [.int .u8 ((n:Int)/2^(8*m)%256)] rfl rfl ?c1 ?c2 ?c3 ?c4 ?c5 ?_)
   case c1=>exact Bg _ _ _
   case c2=>intro u hu;simp at hu;subst hu;rfl
   case c3=>unfold maxLen;omega
   case c4=>omega
   case c5=>simp;omega
   intro v3 w3 a5 a0 _;have a4:Below B w w3:=(a1.o.alloc (by omega) _).grown a0 (by simp;omega) (λq hq=>(Ho.o.lt q hq).1);have a3:Gc 5 w w3:=(a2.o.alloc _).grown (Ho.o.alloc _) a0;have ac:Hid (Bytes w3 B v3 (l++enc (j+1) (n/256^(k - (j+1))))):=by
    have h1:=HL.o;have h2:=Hs.o;have h3:=Hm.o;refine Jy ?_;unfold Bytes;rw[<-h3,h2,<-Ap,OV,AN,<-h1];have h4:bv [UInt8.ofNat (n/256^m)]=[.int .u8 ((n:Int)/2^(8*m)%256)]:=by
     simp only[bv,Bb,Ct,Bw];rw[show(256:Nat)=2^8 from rfl,<-Nat.pow_mul]
     congr 2
    rw[h4];exact a5
   go_wp2;go_roundw
   case rel=>exact⟨j+1,by omega,by have:=Hj.o;go_num,ac,Jy a4,Jy a3⟩
   case measure=>simp[intOf]
  have a7:j=k:=by omega
  subst a7;have e1:(j:Int) - j - 1 = -1:=by omega
  rw[e1];go_wp2;go_ret
  refine⟨_,rfl,?_,a1.o,a2.o⟩
  have:=Hb.o
  simpa using this
theorem fZ(k:Nat):Builtin.zeroCells (Value.int .u8 0).cells k=(bv (List.replicate k 0)).toArray:=by
 apply Array.ext'
 simp only[Builtin.zeroCells,Value.cells,bv]
 apply Cy
 intro i;by_cases h:i<k
 ·simp[h,Nat.mod_one]
 simp[h]
theorem pG(w:D7)(B:Nat)(v:Value)(l:Bs)(k:Nat)(ty:TypeId)(hv:Bytes w B v l)(h0:0<l.length)(hl:l.length<=1000000)(hk:k<=1000)(hB:B<=w.heap.size) :
 ∃v' w',(Builtin.append_ #[111,3] ty #[v,.int .i64 k]).run prog w=.ok v' w'/\Bytes w' B v' (l++List.replicate k 0)/\w.grownBy w' v.ownBlock:=by
 obtain⟨i0,hi,a9,a6,a5⟩:=Ai Fz;have a2:(bv (l++List.replicate k 0)).length=(l.length+k)*1:=by rw[Ov];simp
 rcases hv.2 with⟨_,h⟩ | ⟨g,cap,cur,rfl,hbg,hg,hnc,hcm,hcs,htake⟩
 ·omega
 have hw:=zW (x:=(k:Int));have a7:¬((k:Int)<0):=by omega
 have af:¬(281474976710656<(k:Int)):=by omega
 by_cases a0:l.length+k<=cap
 ·have a3:l.length+(bv (List.replicate k 0)).length<=cur.size:=by rw[Ov,hcs];simp;omega
  have ae:=run_storeCells_at prog g l.length 5 (bv (List.replicate k 0)) 0 cur w hg (by simpa using a3) (by intro x hx;simp[bv]at hx;obtain⟨_,rfl⟩:=hx;rfl);simp only[Br]at ae;have ac:(Builtin.append_ #[111,3] ty #[.slice (some ⟨g,0,none⟩) l.length cap,.int .i64 k]).run prog w=.ok (.slice (some ⟨g,0,none⟩) (l.length+k) cap) (w.setRow g (cur.toList.take l.length++bv (List.replicate k 0)++cur.toList.drop (l.length+(bv (List.replicate k 0)).length)).toArray):=by
   have ai:(Value.int IntKind.u8 0).cells=#[Value.int .u8 0]:=rfl;by_cases a4:k=0
   ·subst a4;have ag:IntKind.i64.wrap 0=0:=by decide
    have aa:(storeCells ⟨g,l.length,none⟩ []).run prog w=.ok () w:=rfl;have ad:l.length<=cap:=hnc;simp[ag,aa,ad,Builtin.append_,Cb underlying111,Cb underlying3,sizeOf,typeInfo,hi,a6,a5,asInt,asIntOf,a0,hnc,a9,Addr.add_lit,bv];rw[setRow_self w g cur 5 (0,0) hg]
   simp[Builtin.append_,Cb underlying111,Cb underlying3,sizeOf,typeInfo,zeroValue,hi,a9,a6,a5,asInt,asIntOf,hw,a7,af,a0,a4,Addr.add_lit,fZ,ae]
  refine⟨_,_,ac,⟨a2 ▸ by simp,.inr ⟨g,cap,_,by simp,hbg,setRow_heap w g cur _ 5 _ hg,by simpa using a0,hcm,?_,?_⟩⟩,⟨rfl,rfl,rfl,by simp,λj _ hj=>setRow_other w g j _ (λe=>hj (by simp[Value.ownBlock,e]))⟩⟩
  ·simp only[BK,AN,Ae,Bo,Cl,Ov]at a3 ⊢;omega
  have h1:cur.toList.take l.length=bv l:=by simpa using htake
  rw[h1,OV]
  have:(l++List.replicate k (0:UInt8)).length*1=(bv l++bv (List.replicate k 0)).length:=by simp[Ov]
  rw[this];exact List.take_left
 have a4:0<k:=by omega
 have a1:∀j u,(bv l)[j]? = some u->w.drew.cell? ((⟨g,0,none⟩:Addr).add j)=some u:=by
  have:=World.ownsRow.cells (h:=hv) (g:=g) rfl
  exact this
 have hf:=run_firstCells_some (P:=prog) w.drew 1 l.length ⟨g,0,none⟩ l.length cap (bv l) (by rw[Ov];omega) a1;have hr:=Lib.run_append_grow_zeros (P:=prog) w 111 3 ty 5 i0 (.int .u8 0) .i64 .i64 underlying111 underlying3 hi a9 (some ⟨g,0,none⟩) l.length cap (bv l) (by rw[a6];exact hf) k a4 (by rw[a6];decide) (by omega) (by omega) (by rw[a5];omega) (by rw[a5];exact growslice_fits (by omega) (by omega));have ah:=grownCap_ge w (l.length+k) cap 5;have a8:grownCap w (l.length+k) cap 5<=maxLen:=grownCap_le_maxLen w (l.length+k) cap 5 (by unfold maxLen;omega);refine⟨_,_,hr,⟨a2 ▸ by simp,.inr ⟨w.heap.size,_,_,by simp,hB,AQ w.drew _,by simpa using ah,a8,?_,?_⟩⟩,⟨rfl,rfl,rfl,by simp,λj hj _=>AO w.drew _ j hj⟩⟩
 ·simp only[DM,BK,size_zeroCells,Ov]
  have:(Value.int IntKind.u8 0).cells.size=1:=rfl
  rw[this];omega
 rw[fZ,Array.toList_append,Array.toList_append];rw[show(bv l).toArray.toList=bv l from rfl,show(bv (List.replicate k 0)).toArray.toList=bv (List.replicate k 0)from rfl,<-OV]
 have:(l++List.replicate k (0:UInt8)).length*1=(bv (l++List.replicate k 0)).length:=by simp[Ov]
 rw[this];exact List.take_left
theorem Bytes.Re{w:D7}{B:Nat}{v:Value}{l:Bs}(h:Bytes w B v l):(convert 111 9 v).run prog w=.ok (.string (D9 l)) w:=S1.GY h
theorem Bytes.Pt{w w':D7}{B M:Nat}{v:Value}{l:Bs}(h:Bytes w B v l)(hb:Below M w w')(hM:w.heap.size<=M):Bytes w' B v l:=by
 refine⟨h.1,?_⟩;rcases h.2 with⟨rfl,h0⟩ | ⟨g,cap,cur,rfl,h1,hh,h2⟩
 ·exact .inl ⟨rfl,h0⟩
 exact .inr ⟨g,cap,cur,rfl,h1,(hb.block g (AR (lt_of_heap hh) hM)).trans hh,h2⟩
def OU(p:Pg):Value:=.agg #[.int .i64 p.bad,.int .u32 p.num,.int .i64 p.at_,.int .i64 p.JW,.string (D9 p.text)]
theorem rf(p:Pg)(w:D7)(hb:p.bad<256)(hn:p.num<4294967296)(ha:p.at_<65536)(ho:p.JW<65536)(ht:p.text.length<=51) :
 Calls prog 194 #[OU p] w λe w'=>e=.returned (.string (D9 (Ej p)))/\Below w.heap.size w w':=by
 obtain⟨b,n,a,o,t⟩:=p;simp only at hb hn ha ho ht;obtain⟨i0,hi,aP,b3,aW⟩:=Ai Fz;obtain⟨X,hX⟩:=Jq (D9 t);have Sx:X.size=t.length:=by rw[hX,Dd]
 unfold OU;simp only;rw[<-hX];have HX:=Jy hX;have HS:=Jy Sx;have bs:X.size<=51:=by omega
 obtain⟨W1,ac⟩:=Jq (w.alloc (.cells #[.int .i64 b,.int .u32 n,.int .i64 a,.int .i64 o,.string X] 182));have r1:=K5 ac;have aE:=KD ac;have ai:=L0 ac;obtain⟨W2,aL,af,aZ⟩:=run_make_own (P:=prog) W1 W1.heap.size 111 5 i0 _ 1 underlying111 hi aP b3 .i64 .i64 64 (by rw[aW];omega) (by unfold maxLen;omega) (AB _);have a7:Bytes W2 W1.heap.size (.slice (some ⟨W1.heap.size,0,none⟩) 0 64) []:=af;have a8:Below W1.heap.size W1 W2:=(AM _ W1).grown aZ (AB _) (λq hq=>by cases hq);obtain⟨v0,aX⟩:=Jq (Value.slice (some ⟨W1.heap.size,0,none⟩) 0 64);rw[<-aX]at a7 aL;rw[show((64:Nat):Int)=64 from rfl]at aL;obtain⟨B,hB⟩:=Jq W1.heap.size;obtain⟨g,hg⟩:=Jq w.heap.size;rw[<-hB]at a7 a8 ai;rw[<-hg]at r1 aE ai ⊢;have az:g<B:=by omega
 have aK:B<=W2.heap.size:=by have:=a8.size;omega
 have HA:=Jy (λ(W:D7) (v:Value) (l:Bs) (k m:Nat) (h1:B<=W.heap.size) (h2:Bytes W B v l) (h3:k<=4) (h4:l.length<=1000000) (h5:m<4294967296)=>sg B v l k m W h1 h2 h3 h4 h5);have HR:=Jy (λ(W W':D7) (h1:W.heap[g]? = some (.cells #[.int .i64 b,.int .u32 n,.int .i64 a,.int .i64 o,.string X] 182 (0,0))) (h2:Below B W W')=>(h2.block g az).trans h1);have r2:=HR.o W1 W2 r1 a8;have bl:=Jy ac;have aQ:=Jy (aE.trans (a8.zM));have bg:=Jy a7;have R2:=Jy r2;have a6:=Jy az;have b8:=Jy hg;have b7:=Dv 0 r2;have bu:Hid (B=W1.heap.size):=Jy hB;have A1:=Jy (HA.o W2 v0 [] 1 b aK a7 (by decide) (by simp) (by omega));have bA:=Jy ai;clear r1 r2 aE a8 af aZ a7 aX ac hX Sx hB az ai hg;go_enter func194,ntmps194
 go_wp2_with (first | (rw[<-bl.o]) | (rw[<-b8.o]) | fail);refine A1.o.mono ?_;rintro e W3 ⟨v1,rfl,aM,aw,_⟩;have R3:=Jy (HR.o _ _ R2.o aw);have b6:=Jy (aQ.o.trans (aw.mono (by have:=a6.o;omega)));have bi:=Jy aM;have aH:B<=W3.heap.size:=AF aK aw.size;have bj:=Dv 1 R3.o;have A2:=Jy (HA.o W3 v1 _ 4 n aH aM (by decide) (by simp[IE]) hn);clear aM aw A1 b7 R2 aQ bg aK aL;go_wp2_with fail;refine A2.o.mono ?_;rintro e W4 ⟨v2,rfl,aU,ao,_⟩;have R4:=Jy (HR.o _ _ R3.o ao);have aN:=Jy (b6.o.trans (ao.mono (by have:=a6.o;omega)));have aI:B<=W4.heap.size:=AF aH ao.size;have bp:=Dv 2 R4.o;have A3:=Jy (HA.o W4 v2 _ 2 a aI aU (by decide) (by simp[IE]) (by omega));clear aU ao A2 bj R3 b6 bi aH;go_wp2_with fail;refine A3.o.mono ?_;rintro e W5 ⟨v3,rfl,aS,ar,_⟩
 have R5:=Jy (HR.o _ _ R4.o ar);have b0:=Jy (aN.o.trans (ar.mono (by have:=a6.o;omega)));have aJ:B<=W5.heap.size:=AF aI ar.size;have be:=Dv 3 R5.o;have A4:=Jy (HA.o W5 v3 _ 2 o aJ aS (by decide) (by simp[IE]) (by omega));clear aS ar A3 bp R4 aN aI;go_wp2_with fail;refine A4.o.mono ?_;rintro e W6 ⟨v4,rfl,ag,ax,_⟩;have R6:=Jy (HR.o _ _ R5.o ax);have aY:=Jy (b0.o.trans (ax.mono (by have:=a6.o;omega)));have aC:B<=W6.heap.size:=AF aJ ax.size;have bf:=Dv 4 R6.o;obtain⟨H,hH⟩:=Jq (([]++enc 1 b++enc 4 n++enc 2 a++enc 2 o));have au:H.length=9:=by rw[hH];simp[IE]
 rw[<-hH]at ag;have HH:=Jy hH;have b4:=Jy au;have Ho:Hid (W6.ownsRow B 5 1 v4 9 (bv H)):=Jy (by have:=ag;unfold Bytes at this;rwa[au]at this);obtain⟨a4,bq,rfl⟩:=ag.slice;rw[au]at Ho ⊢;clear ag ax A4 be R5 b0 aJ hH au;go_wp2_with (at_builtin;refine CW _ rfl (.tmp 26) (.tmp 28) 111 9 rfl B 5 i0 underlying111 underlying9 hi aP b3 aW _ _ _ rfl Ho.o X rfl ?c3 ?c4 ?c5 ?_)
 case c3=>unfold maxLen;omega
 case c4=>omega
 case c5=>omega
 intro v5 W7 a3 a2 _;have an:Bytes W7 B v5 (H++t):=by
  unfold Bytes;have h1:=HX.o;have h2:=b4.o;have Sx:=HS.o;rw[OV,AN,h2,<-Sx,<-RG t,<-h1];exact a3
 have aD:Below B W6 W7:=(AM _ W6).grown a2 aC (λq hq=>(Ho.o.lt q hq).1);have ay:B<=W7.heap.size:=AF aC aD.size;have aO:(H++t).length=9+X.size:=by rw[AN,b4.o,HS.o]
 obtain⟨a5,br,rfl⟩:=an.slice;have bc:=Jy (aY.o.trans (aD.mono (by have:=a6.o;omega)));obtain⟨k,hk⟩:=Jq (51 - X.size);have bn:(60:Int) - (9+(X.size:Int))=(k:Nat):=by omega
 obtain⟨v6,W8,av,ah,aV⟩:=pG W7 B _ (H++t) k 111 an (by omega) (by omega) (by omega) ay;have aB:Below B W7 W8:=(AM _ W7).grown aV ay (λq hq=>(DV an q hq).1);have bm:B<=W8.heap.size:=AF ay aB.size;have b5:=Jy (bc.o.trans (aB.mono (by have:=a6.o;omega)));rw[aO]at av ⊢;have a1:Hid (H++t++List.replicate k 0=GN ⟨b,n,a,o,t⟩):=Jy (by rw[HH.o,hk,HS.o];simp[GN]);obtain⟨G,hG⟩:=Jq (H++t++List.replicate k 0);rw[<-hG]at a1 ah;have ae:G.length=60:=by rw[a1.o];exact Qy _ ht
 have aF:=Jy ae;have a0:=Bytes.Re ah;obtain⟨Y,am⟩:=Jq (D9 G);rw[<-am]at a0;have bx:=Jy am;have A5:=Jy (Zg G W8 (by omega));rw[<-am]at A5;have ad:=YJ G;obtain⟨sm,aA⟩:=Jq (JG G);rw[<-aA]at A5 ad;have bh:=Jy aA;have aR:=Jy ah;clear a3 a2 an aD Ho R6 aY aC bf aO hk aB aV am aA hG ae ah;go_wp2_with (at_builtin;refine Lib.wpList_append_run _ rfl _ _ _ _ rfl _ _ rfl rfl _ _ (by first | exact av | (rw[bn];exact av)) ?_);go_wp2_with fail;refine A5.o.mono ?_;rintro e W9 ⟨rfl,aj⟩;have aT:Bytes W9 B v6 G:=Bytes.Pt aR.o aj (AB _);have b9:B<=W9.heap.size:=AF bm aj.size;have bb:=Jy (b5.o.trans (aj.mono (by have:=a6.o;omega)));have A6:=Jy (HA.o W9 v6 G 4 sm b9 aT (by decide) (by rw[aF.o];decide) ad);clear A5 aj aT aR b5 a0 av
 go_wp2_with fail;refine A6.o.mono ?_;rintro e bz ⟨v7,rfl,a9,aa,_⟩;have a0:=Bytes.Re a9;obtain⟨Z,hZ⟩:=Jq (D9 (G++enc 4 sm));rw[<-hZ]at a0;have HZ:=Jy hZ;have aG:=Jy (bb.o.trans (aa.mono (by have:=a6.o;omega)));clear A6 a9 aa hZ;go_wp2;go_ret
 refine⟨?_,aG.o⟩;rw[HZ.o,bh.o,a1.o];rfl
def Nf(s:Bs)(w:D7)(e:Ending)(w':D7):Prop:=
 ∃p:Pg,e=.returned (.tuple #[OU p,.bool (Ef s).isSome])/\(∀q,Ef s=some q->p=q)/\Below w.heap.size w w'
theorem N5{B:Nat}{a b:D7}(h:Below B a b):Below B a b.drew:=⟨h.os,h.tape,h.output,h.size,h.block⟩
theorem kh(s:Bs)(w:D7)(hs:s.length=64) :
 Calls prog 133 #[.string (D9 s)] w λe w'=>Nf s w e w':=by
 have aN:=Jy (λW=>TL (s.drop 60) W (by simp;omega));have aR:=Jy (λW=>Zg (s.take 60) W (by simp;omega));have aT:=Jy (λW=>TL ((s.drop 1).take 4) W (by simp;omega));have aP:=Jy (λW=>TL ((s.drop 5).take 2) W (by simp;omega));have aA:=Jy (λW=>TL ((s.drop 7).take 2) W (by simp;omega));obtain⟨X,hX⟩:=Jq (D9 s);have Sx:X.size=64:=by rw[hX,Dd,hs]
 have e1:X.extract 60 64=D9 (s.drop 60):=by rw[hX,Jb];congr 1;exact AT (by simp;omega)
 have e2:X.extract 0 60=D9 (s.take 60):=by rw[hX,Jb];simp
 have e3:X.extract 1 5=D9 ((s.drop 1).take 4):=by rw[hX,Jb]
 have e4:X.extract 5 7=D9 ((s.drop 5).take 2):=by rw[hX,Jb]
 have e5:X.extract 7 9=D9 ((s.drop 7).take 2):=by rw[hX,Jb]
 have e6:X.extract 9 60=D9 ((s.take 60).drop 9):=by rw[hX,Jb,List.drop_take]
 have e0:∀h:0<X.size,X[0]'h=s.getD 0 0:=λh=>by subst hX;exact MP s 0 h
 rw[<-hX];obtain⟨Y1,br⟩:=Jq (D9 (s.drop 60));obtain⟨Y2,bi⟩:=Jq (D9 (s.take 60));obtain⟨Y3,bh⟩:∃Y,Y=D9 ((s.drop 1).take 4):=⟨_,rfl⟩;obtain⟨Y4,be⟩:∃Y,Y=D9 ((s.drop 5).take 2):=⟨_,rfl⟩;obtain⟨Y5,bm⟩:∃Y,Y=D9 ((s.drop 7).take 2):=⟨_,rfl⟩;obtain⟨Y6,b0⟩:∃Y,Y=D9 ((s.take 60).drop 9):=⟨_,rfl⟩;rw[<-br]at aN e1;rw[<-bi]at aR e2;rw[<-bh]at aT e3;rw[<-be]at aP e4;rw[<-bm]at aA e5;rw[<-b0]at e6;have bq:=Jy b0;obtain⟨n1,bb⟩:=Jq (num (s.drop 60));obtain⟨n2,aZ⟩:=Jq (JG (s.take 60));obtain⟨n3,b3⟩:∃n,n=num ((s.drop 1).take 4):=⟨_,rfl⟩;obtain⟨n4,aJ⟩:∃n,n=num ((s.drop 5).take 2):=⟨_,rfl⟩;obtain⟨n5,aM⟩:∃n,n=num ((s.drop 7).take 2):=⟨_,rfl⟩;have l4:n4<65536:=by rw[aJ];exact Qx (k:=2) (by simp;omega)
 have l5:n5<65536:=by rw[aM];exact Qx (k:=2) (by simp;omega)
 obtain⟨c0,b7⟩:∃c,c=s.getD 0 0:=⟨_,rfl⟩;have bn:c0.toNat<256:=c0.toNat_lt;have bB:IntKind.i64.wrap (c0.toNat:Int)=(c0.toNat:Nat):=by rw[Av];omega
 rw[<-bb]at aN;rw[<-aZ]at aR;rw[<-b3]at aT;rw[<-aJ]at aP;rw[<-aM]at aA;rw[<-b7]at e0;have aU:X[0]'(by omega)=c0:=e0 (by omega);have bx:IntKind.i64.wrap (n4:Int)=(n4:Nat):=by rw[Av];omega
 have bA:IntKind.i64.wrap (n5:Int)=(n5:Nat):=by rw[Av];omega
 have b9:=Jy bb;have aW:=Jy aZ;have bl:=Jy b3;have aO:=Jy aJ;have aL:=Jy aM;have bg:=Jy b7;obtain⟨W1,aG⟩:=Jq (w.alloc (.cells #[.int .i64 0,.int .u32 0,.int .i64 0,.int .i64 0,.string ⟨#[]⟩] 182));obtain⟨g,hg⟩:=Jq w.heap.size;have aY:W1.heap[g]? = some (.cells #[.int .i64 0,.int .u32 0,.int .i64 0,.int .i64 0,.string ⟨#[]⟩] 182 (0,0)):=by rw[aG,hg];exact AQ _ _
 have b6:Below w.heap.size w W1:=by rw[aG];exact(AM _ w).alloc (AB _) _
 have af:g<W1.heap.size:=lt_of_heap aY;rw[<-hg]at b6;have bp:=Jy aG;have Hg:=Jy hg;have aH:=Jy aY;have aE:=Jy b6;unfold Nf;rw[<-hg];clear aG br bi bh be bm b0 bb aZ b3 aJ aM b7 aY b6 hX hg;by_cases az:n1=n2
 ·go_enter func133,ntmps133
  go_wp2_with (first | (rw[<-bp.o]) | (rw[<-Hg.o]) | fail);refine BE (S:=λ_=>True) (by kernel_rfl) trivial (λhHeld => ?_);refine tk 0 ⟨some 7,.move (.tmp 0),_,_,_,none⟩ (.string X) rfl (λw h=>by go_simp) hHeld ?_;simp only[zP,List.set];refine tk 1 ⟨some 8,.call { callee:=Callee.builtin Builtin.len,args:=#[.tmp 7],argTypes:=#[9] },_,_,_,none⟩ (.int .i64 64) rfl (λw h=>by go_simp) hHeld ?_;simp only[zP,List.set];refine tk 2 ⟨some 9,.binOp .neq 3 (.tmp 8) (.const (.int .i64 64)) 3,_,_,_,none⟩ (.bool false) rfl (λw h=>by go_simp) hHeld ?_;simp only[zP,List.set]
  refine tk 3 ⟨some 10,.move (.tmp 9),_,_,_,none⟩ (.bool false) rfl (λw h=>by go_simp) hHeld ?_;simp only[zP,List.set];refine tk 4 ⟨some 11,.move (.tmp 0),_,_,_,some (3,false)⟩ (.string X) rfl (λw h=>by go_simp) hHeld ?_;simp only[zP,List.set];refine tk 5 ⟨some 12,.move (.tmp 4),_,_,_,some (3,false)⟩ (.int .i64 60) rfl (λw h=>by go_simp) hHeld ?_;simp only[zP,List.set];refine tk 6 ⟨some 13,.slice 9 (.tmp 11) (some (.tmp 12)) none none,_,_,_,some (3,false)⟩ (.string Y1) rfl (λw h=>by go_simp) hHeld ?_;simp only[zP,List.set]
  refine tk 8 ⟨some 15,.move (.tmp 0),_,_,_,some (3,false)⟩ (.string X) rfl (λw h=>by go_simp) hHeld ?_;simp only[zP,List.set];refine tk 9 ⟨some 16,.move (.tmp 4),_,_,_,some (3,false)⟩ (.int .i64 60) rfl (λw h=>by go_simp) hHeld ?_;simp only[zP,List.set];refine tk 10 ⟨some 17,.slice 9 (.tmp 15) none (some (.tmp 16)) none,_,_,_,some (3,false)⟩ (.string Y2) rfl (λw h=>by go_simp) hHeld ?_;simp only[zP,List.set];refine rd 7 rfl (λK hK => ?_);go_simp;refine(aN.o _).mono ?_;rintro e V1 ⟨rfl,ar⟩;refine hK.o _ _ trivial (λhHeld => ?_);clear hK K;refine rd 11 rfl (λK hK => ?_)
  go_simp;refine(aR.o _).mono ?_;rintro e V2 ⟨rfl,aD⟩;refine hK.o _ _ trivial (λhHeld => ?_);clear hK K;refine tk 12 ⟨some 19,.binOp .neq 88 (.tmp 14) (.tmp 18) 88,_,_,_,some (3,false)⟩ (.bool false) rfl (λw h=>by go_simp) hHeld ?_;simp only[zP,List.set];refine tk 13 ⟨some 20,.pick (.tmp 10) (.const (.bool true)) (.tmp 19),_,_,_,none⟩ (.bool false) rfl (λw h=>by go_simp) hHeld ?_;simp only[zP,List.set];refine BT (by kernel_rfl) ?_ _;clear hHeld;have aw:Below W1.heap.size W1 V2:=(N5 (AM _ W1)).trans (ar.trans (aD.mono ar.size));have aC:=(aw.block g af).trans aH.o;have a5:=Jy aC;have aF:=Jy (aE.o.trans (aw.mono (by omega)))
  have ac:=lt_of_heap aC;clear ar aD aw aH aE af V1;go_wp2_with fail;refine BE (S:=λ_=>True) (by kernel_rfl) trivial (λhHeld => ?_);refine tk 0 ⟨some 22,.move (.tmp 0),_,_,_,none⟩ (.string X) rfl (λw h=>by go_simp) hHeld ?_;simp only[zP,List.set];refine tk 1 ⟨some 23,.index 9 (.tmp 22) (.const (.int .i64 0)),_,_,_,none⟩ (.int .u8 c0.toNat) rfl (λw h=>by go_simp) hHeld ?_;simp only[zP,List.set];refine tk 2 ⟨some 24,.convert 5 3 (.tmp 23),_,_,_,none⟩ (.int .i64 c0.toNat) rfl (λw h=>by go_simp) hHeld ?_;simp only[zP,List.set]
  refine tk 3 ⟨some 25,.move (.tmp 0),_,_,_,none⟩ (.string X) rfl (λw h=>by go_simp) hHeld ?_;simp only[zP,List.set];refine tk 4 ⟨some 26,.slice 9 (.tmp 25) (some (.const (.int .i64 1))) (some (.const (.int .i64 5))) none,_,_,_,none⟩ (.string Y3) rfl (λw h=>by go_simp) hHeld ?_;simp only[zP,List.set];refine wpAnyH_ready (rs:=[5,7]) (by kernel_rfl) (by simp) ?_;refine CK rfl (λK hK => ?_) (CK rfl (λK hK => ?_) DZ)
  focus
   go_simp;refine(aT.o _).mono ?_;rintro e V3 ⟨rfl,aI⟩;refine hK.o _ _ trivial (λhHeld => ?_);clear hK K;refine tk 6 ⟨some 28,.build 90 #[(0,.tmp 24),(1,.tmp 27)],_,_,_,none⟩ (.agg #[.int .i64 c0.toNat,.int .u32 n3]) rfl (λw h=>by go_simp) hHeld ?_;simp only[zP,List.set];refine rd 7 rfl (λK hK => ?_);go_simp;refine hK.o _ _ trivial (λhHeld => ?_);clear hK K;refine rd 8 rfl (λK hK => ?_);go_simp;refine hK.o _ _ trivial (λhHeld => ?_);clear hK K;refine BT (by kernel_rfl) ?_ _;clear hHeld;obtain⟨W4,ae⟩:=Jq (V3.alloc (.cells #[.int .i64 c0.toNat,.int .u32 n3] 90));obtain⟨rb,ag⟩:=Jq V3.heap.size;rw[<-ae];simp only[<-ag]
   have aB:Hid (W4.heap[rb]? = some (.cells #[.int .i64 c0.toNat,.int .u32 n3] 90 (0,0))):=Jy (by rw[ae,ag];exact AQ _ _);have aS:Below V2.heap.size V2 W4:=by rw[ae];exact((N5 (AM _ V2)).trans aI).alloc aI.size _
   have bu:g<rb:=by rw[ag];have:=aI.size;exact AR ac this
   clear ag ae aI
  rotate_left
  focus
   go_simp;obtain⟨V3,au⟩:=Jq ((V2.alloc (.cells #[.int .i64 0,.int .u32 0] 90)).drew);obtain⟨rb,ag⟩:=Jq V2.heap.size;refine hK.o _ _ trivial (λhHeld => ?_);clear hK K;rw[<-au];simp only[<-ag];have an:=Jy au;have aQ:=Jy ag;clear au ag;refine rd 5 rfl (λK hK => ?_);go_simp;refine(aT.o _).mono ?_;rintro e V4 ⟨rfl,aV⟩;have b5:V3.heap[rb]? = some (.cells #[.int .i64 0,.int .u32 0] 90 (0,0)):=by rw[an.o,aQ.o];exact AQ _ _
   have a0:=(aV.block rb (lt_of_heap b5)).trans b5;refine hK.o _ _ trivial (λhHeld => ?_);clear hK K;refine tk 6 ⟨some 28,.build 90 #[(0,.tmp 24),(1,.tmp 27)],_,_,_,none⟩ (.agg #[.int .i64 c0.toNat,.int .u32 n3]) rfl (λw h=>by go_simp) hHeld ?_;simp only[zP,List.set];have s0:V4.cell? ⟨rb,0,none⟩=some (.int .i64 0):=by rw[AG V4 rb 0 _ 90 (0,0) a0];rfl
   have z0:=Al V4 rb 0 _ 90 a0;have s1:V4.cell? ⟨rb,1,none⟩=some (.int .u32 0):=by rw[AG V4 rb 1 _ 90 (0,0) a0];rfl
   have z1:=Al V4 rb 1 _ 90 a0;refine rd 8 rfl (λK hK => ?_);go_simp;refine hK.o _ _ trivial (λhHeld => ?_);clear hK K;refine BT (by kernel_rfl) ?_ _;clear hHeld s0 z0 s1 z1;obtain⟨W4,ae⟩:=Jq ((V4.setCell ⟨rb,0,none⟩ (.int .i64 c0.toNat)).setCell ⟨rb,1,none⟩ (.int .u32 n3));rw[<-ae];have aB:Hid (W4.heap[rb]? = some (.cells #[.int .i64 c0.toNat,.int .u32 n3] 90 (0,0))):=Jy (by rw[ae];exact AK _ rb 1 _ 90 _ (AK _ rb 0 _ 90 _ a0));have aS:Below V2.heap.size V2 W4:=by rw[ae];exact(((N5 ((AM _ V2).alloc (AB _) _)).trans (by rw[<-an.o];exact aV.mono (by rw[an.o];simp))).setCell (by simp[aQ.o]) _).setCell (by simp[aQ.o]) _
   have bu:g<rb:=by rw[aQ.o];exact ac
   clear ae aV a0 b5
  rotate_left
  all_goals
   have aa:=Jy ((aS.block g ac).trans a5.o);have ao:=Jy (aF.o.trans (aS.mono (by omega)));have ax:=lt_of_heap aa.o;clear aS a5 aF;have r0:W4.drew.cell? ⟨rb,0,none⟩=some (.int .i64 c0.toNat):=by rw[AJ (w:=W4) (w':=W4.drew) rfl,AG W4 rb 0 _ 90 (0,0) aB.o];rfl
   have r1:W4.drew.cell? ⟨rb,1,none⟩=some (.int .u32 n3):=by rw[AJ (w:=W4) (w':=W4.drew) rfl,AG W4 rb 1 _ 90 (0,0) aB.o];rfl
   have HK:Hid (∀V:D7,Below W4.heap.size W4 V->V.cell? ⟨rb,0,none⟩=some (.int .i64 c0.toNat)/\V.cell? ⟨rb,1,none⟩=some (.int .u32 n3)):=Jy (λV hV=>⟨by rw[AJ (hV.block rb (lt_of_heap aB.o))];exact r0,by rw[AJ (hV.block rb (lt_of_heap aB.o))];exact r1⟩);go_wp2_with fail;refine BE (S:=(λV=>V.cell? ⟨rb,0,none⟩=some (.int .i64 c0.toNat)/\V.cell? ⟨rb,1,none⟩=some (.int .u32 n3))) (by kernel_rfl) ⟨r0,r1⟩ (λhHeld => ?_);refine tk 0 ⟨some 29,.load 90 (.tmp 5),_,_,_,none⟩ (.agg #[.int .i64 c0.toNat,.int .u32 n3]) rfl (λw h=>by go_simp) hHeld ?_;simp only[zP,List.set]
   refine tk 1 ⟨some 30,.move (.tmp 0),_,_,_,none⟩ (.string X) rfl (λw h=>by go_simp) hHeld ?_;simp only[zP,List.set];refine tk 2 ⟨some 31,.slice 9 (.tmp 30) (some (.const (.int .i64 5))) (some (.const (.int .i64 7))) none,_,_,_,none⟩ (.string Y4) rfl (λw h=>by go_simp) hHeld ?_;simp only[zP,List.set];refine tk 5 ⟨some 34,.move (.tmp 0),_,_,_,none⟩ (.string X) rfl (λw h=>by go_simp) hHeld ?_;simp only[zP,List.set];refine tk 6 ⟨some 35,.slice 9 (.tmp 34) (some (.const (.int .i64 7))) (some (.const (.int .i64 9))) none,_,_,_,none⟩ (.string Y5) rfl (λw h=>by go_simp) hHeld ?_
   simp only[zP,List.set];refine tk 9 ⟨some 38,.move (.tmp 0),_,_,_,none⟩ (.string X) rfl (λw h=>by go_simp) hHeld ?_;simp only[zP,List.set];refine tk 10 ⟨some 39,.move (.tmp 4),_,_,_,none⟩ (.int .i64 60) rfl (λw h=>by go_simp) hHeld ?_;simp only[zP,List.set];refine tk 11 ⟨some 40,.slice 9 (.tmp 38) (some (.const (.int .i64 9))) (some (.tmp 39)) none,_,_,_,none⟩ (.string Y6) rfl (λw h=>by go_simp) hHeld ?_;simp only[zP,List.set];refine wpAnyH_ready (rs:=[3,13]) (by kernel_rfl) (by simp) ?_;refine CK rfl (λK hK => ?_) (CK rfl (λK hK => ?_) DZ)
   focus
    skip
    go_simp;refine(aP.o _).mono ?_;rintro e V5 ⟨rfl,b8⟩;have a6:Below W4.heap.size W4 V5:=(N5 (AM _ W4)).trans b8;refine hK.o _ _ (HK.o _ a6) (λhHeld => ?_);clear hK K;refine tk 4 ⟨some 33,.convert 88 3 (.tmp 32),_,_,_,none⟩ (.int .i64 n4) rfl (λw h=>by go_simp) hHeld ?_;simp only[zP,List.set];refine wpAnyH_ready (rs:=[7,13]) (by kernel_rfl) (by simp) ?_;refine CK rfl (λK hK => ?_) (CK rfl (λK hK => ?_) DZ)
    focus
     skip
     go_simp;refine(aA.o _).mono ?_;rintro e V6 ⟨rfl,am⟩;have a1:Below W4.heap.size W4 V6:=a6.trans (am.mono a6.size);refine hK.o _ _ (HK.o _ a1) (λhHeld => ?_);clear hK K;refine tk 8 ⟨some 37,.convert 88 3 (.tmp 36),_,_,_,none⟩ (.int .i64 n5) rfl (λw h=>by go_simp) hHeld ?_;simp only[zP,List.set];refine tk 12 ⟨some 41,.build 182 #[(0,.tmp 29),(1,.tmp 33),(2,.tmp 37),(3,.tmp 40)],_,_,_,none⟩ (.agg #[.int .i64 c0.toNat,.int .u32 n3,.int .i64 n4,.int .i64 n5,.string Y6]) rfl (λw h=>by go_simp) hHeld ?_;simp only[zP,List.set];refine rd 13 rfl (λK hK => ?_);go_simp
     refine hK.o _ _ (HK.o _ (a1.alloc a1.size _)) (λhHeld => ?_);clear hK K;refine rd 14 rfl (λK hK => ?_);go_simp;refine hK.o _ _ (HK.o _ (a1.alloc a1.size _)) (λhHeld => ?_);clear hK K;refine BT (by kernel_rfl) ?_ _;clear hHeld;obtain⟨W6,a3⟩:=Jq (V6.alloc (.cells #[.int .i64 c0.toNat,.int .u32 n3,.int .i64 n4,.int .i64 n5,.string Y6] 182));obtain⟨pb,a4⟩:=Jq V6.heap.size;rw[<-a3];simp only[<-a4];have a2:g≠pb:=by have:=a1.size;omega
     have ay:Hid (W6.heap[pb]? = some (.cells #[.int .i64 c0.toNat,.int .u32 n3,.int .i64 n4,.int .i64 n5,.string Y6] 182 (0,0))):=Jy (by rw[a3,a4];exact AQ _ _);have a8:Below W4.heap.size W4 W6:=by rw[a3];exact a1.alloc a1.size _
     have a7:=Jy ((a8.block g ax).trans aa.o);have aK:=Jy (ao.o.trans (a8.mono (by omega)));have bj:g≠pb:=a2;clear a8 a2 r0 r1 HK a6 a1 b8 am a3 a4
    rotate_left
    focus
     go_simp;obtain⟨V6,ad⟩:=Jq (V5.alloc (.cells #[.int .i64 0,.int .u32 0,.int .i64 0,.int .i64 0,.string ⟨#[]⟩] 182));obtain⟨pb,a4⟩:=Jq V5.heap.size;have a1:Below W4.heap.size W4 V6:=by rw[ad];exact a6.alloc a6.size _
     have ah:V6.heap[pb]? = some (.cells #[.int .i64 0,.int .u32 0,.int .i64 0,.int .i64 0,.string ⟨#[]⟩] 182 (0,0)):=by rw[ad,a4];exact AQ _ _
     have bs:W4.heap.size<=pb:=by rw[a4];exact a6.size
     rw[<-ad];simp only[<-a4];refine hK.o _ _ (HK.o _ a1) (λhHeld => ?_);clear hK K ad a4;refine rd 7 rfl (λK hK => ?_);go_simp;refine(aA.o _).mono ?_;rintro e V7 ⟨rfl,av⟩;have aj:Below W4.heap.size W4 V7:=a1.trans (av.mono a1.size);refine hK.o _ _ (HK.o _ aj) (λhHeld => ?_);clear hK K;have a0:=(av.block pb (lt_of_heap ah)).trans ah;refine tk 8 ⟨some 37,.convert 88 3 (.tmp 36),_,_,_,none⟩ (.int .i64 n5) rfl (λw h=>by go_simp) hHeld ?_;simp only[zP,List.set]
     refine tk 12 ⟨some 41,.build 182 #[(0,.tmp 29),(1,.tmp 33),(2,.tmp 37),(3,.tmp 40)],_,_,_,none⟩ (.agg #[.int .i64 c0.toNat,.int .u32 n3,.int .i64 n4,.int .i64 n5,.string Y6]) rfl (λw h=>by go_simp) hHeld ?_;simp only[zP,List.set];have s0:V7.cell? ⟨pb,0,none⟩=some (.int .i64 0):=by rw[AG V7 pb 0 _ 182 (0,0) a0];rfl
     have z0:=Al V7 pb 0 _ 182 a0;have s1:V7.cell? ⟨pb,1,none⟩=some (.int .u32 0):=by rw[AG V7 pb 1 _ 182 (0,0) a0];rfl
     have z1:=Al V7 pb 1 _ 182 a0;have s2:V7.cell? ⟨pb,2,none⟩=some (.int .i64 0):=by rw[AG V7 pb 2 _ 182 (0,0) a0];rfl
     have z2:=Al V7 pb 2 _ 182 a0;have s3:V7.cell? ⟨pb,3,none⟩=some (.int .i64 0):=by rw[AG V7 pb 3 _ 182 (0,0) a0];rfl
     have z3:=Al V7 pb 3 _ 182 a0;have s4:V7.cell? ⟨pb,4,none⟩=some (.string ⟨#[]⟩):=by rw[AG V7 pb 4 _ 182 (0,0) a0];rfl
     have z4:=Al V7 pb 4 _ 182 a0;refine rd 14 rfl (λK hK => ?_);go_simp;obtain⟨W6,a3⟩:=Jq ((((((V7.setCell ⟨pb,0,none⟩ (.int .i64 c0.toNat)).setCell ⟨pb,1,none⟩ (.int .u32 n3)).setCell ⟨pb,2,none⟩ (.int .i64 n4)).setCell ⟨pb,3,none⟩ (.int .i64 n5)).setCell ⟨pb,4,none⟩ (.string Y6)));have ai:Below W4.heap.size W4 W6:=by rw[a3];exact(((((aj.setCell (by simp;omega) _).setCell (by simp;omega) _).setCell (by simp;omega) _).setCell (by simp;omega) _).setCell (by simp;omega) _)
     rw[<-a3];refine hK.o _ _ (HK.o _ ai) (λhHeld => ?_);clear hK K;refine BT (by kernel_rfl) ?_ _;clear hHeld s0 s1 s2 s3 s4 z0 z1 z2 z3 z4;have a2:g≠pb:=by omega
     have ay:Hid (W6.heap[pb]? = some (.cells #[.int .i64 c0.toNat,.int .u32 n3,.int .i64 n4,.int .i64 n5,.string Y6] 182 (0,0))):=Jy (by rw[a3];exact(AK _ pb 4 _ 182 _ (AK _ pb 3 _ 182 _ (AK _ pb 2 _ 182 _ (AK _ pb 1 _ 182 _ (AK _ pb 0 _ 182 _ a0))))));have a8:Below W4.heap.size W4 W6:=ai;have a7:=Jy ((a8.block g ax).trans aa.o);have aK:=Jy (ao.o.trans (a8.mono (by omega)));have bj:g≠pb:=a2;clear a8 a2 r0 r1 HK a6 a1 aj b8 av ah a3 ai a0
    rotate_left
   rotate_left 2
   focus
    go_simp;obtain⟨V5,a9⟩:=Jq ((W4.alloc (.cells #[.int .i64 0,.int .u32 0,.int .i64 0,.int .i64 0,.string ⟨#[]⟩] 182)).drew);obtain⟨pb,a4⟩:=Jq W4.heap.size;have a6:Below W4.heap.size W4 V5:=by rw[a9];exact N5 ((AM _ W4).alloc (AB _) _)
    have ah:V5.heap[pb]? = some (.cells #[.int .i64 0,.int .u32 0,.int .i64 0,.int .i64 0,.string ⟨#[]⟩] 182 (0,0)):=by rw[a9,a4];exact AQ _ _
    have bs:W4.heap.size<=pb:=Cf a4.symm;refine hK.o _ _ (HK.o _ (by rw[<-a9];exact a6)) (λhHeld => ?_);rw[<-a9];simp only[<-a4];clear hK K a9;have bz:=Jy a4;clear a4;refine rd 3 rfl (λK hK => ?_);go_simp;refine(aP.o _).mono ?_;rintro e V6 ⟨rfl,am⟩;have a1:Below W4.heap.size W4 V6:=a6.trans (am.mono a6.size);refine hK.o _ _ (HK.o _ a1) (λhHeld => ?_);clear hK K;refine tk 4 ⟨some 33,.convert 88 3 (.tmp 32),_,_,_,none⟩ (.int .i64 n4) rfl (λw h=>by go_simp) hHeld ?_;simp only[zP,List.set];refine rd 7 rfl (λK hK => ?_);go_simp;refine(aA.o _).mono ?_;rintro e V7 ⟨rfl,av⟩;have aj:Below W4.heap.size W4 V7:=a1.trans (av.mono a1.size);refine hK.o _ _ (HK.o _ aj) (λhHeld => ?_);clear hK K
    have a0:=(av.block pb (AR (lt_of_heap ah) am.size)).trans ((am.block pb (lt_of_heap ah)).trans ah);refine tk 8 ⟨some 37,.convert 88 3 (.tmp 36),_,_,_,none⟩ (.int .i64 n5) rfl (λw h=>by go_simp) hHeld ?_;simp only[zP,List.set];refine tk 12 ⟨some 41,.build 182 #[(0,.tmp 29),(1,.tmp 33),(2,.tmp 37),(3,.tmp 40)],_,_,_,none⟩ (.agg #[.int .i64 c0.toNat,.int .u32 n3,.int .i64 n4,.int .i64 n5,.string Y6]) rfl (λw h=>by go_simp) hHeld ?_;simp only[zP,List.set];have s0:V7.cell? ⟨pb,0,none⟩=some (.int .i64 0):=by rw[AG V7 pb 0 _ 182 (0,0) a0];rfl
    have z0:=Al V7 pb 0 _ 182 a0;have s1:V7.cell? ⟨pb,1,none⟩=some (.int .u32 0):=by rw[AG V7 pb 1 _ 182 (0,0) a0];rfl
    have z1:=Al V7 pb 1 _ 182 a0;have s2:V7.cell? ⟨pb,2,none⟩=some (.int .i64 0):=by rw[AG V7 pb 2 _ 182 (0,0) a0];rfl
    have z2:=Al V7 pb 2 _ 182 a0;have s3:V7.cell? ⟨pb,3,none⟩=some (.int .i64 0):=by rw[AG V7 pb 3 _ 182 (0,0) a0];rfl
    have z3:=Al V7 pb 3 _ 182 a0;have s4:V7.cell? ⟨pb,4,none⟩=some (.string ⟨#[]⟩):=by rw[AG V7 pb 4 _ 182 (0,0) a0];rfl
    have z4:=Al V7 pb 4 _ 182 a0;refine rd 14 rfl (λK hK => ?_);go_simp;obtain⟨W6,a3⟩:=Jq ((((((V7.setCell ⟨pb,0,none⟩ (.int .i64 c0.toNat)).setCell ⟨pb,1,none⟩ (.int .u32 n3)).setCell ⟨pb,2,none⟩ (.int .i64 n4)).setCell ⟨pb,3,none⟩ (.int .i64 n5)).setCell ⟨pb,4,none⟩ (.string Y6)));have ai:Below W4.heap.size W4 W6:=by rw[a3];exact(((((aj.setCell (by simp;omega) _).setCell (by simp;omega) _).setCell (by simp;omega) _).setCell (by simp;omega) _).setCell (by simp;omega) _)
    rw[<-a3];refine hK.o _ _ (HK.o _ ai) (λhHeld => ?_);clear hK K;refine BT (by kernel_rfl) ?_ _;clear hHeld s0 s1 s2 s3 s4 z0 z1 z2 z3 z4;have a2:g≠pb:=by omega
    have ay:Hid (W6.heap[pb]? = some (.cells #[.int .i64 c0.toNat,.int .u32 n3,.int .i64 n4,.int .i64 n5,.string Y6] 182 (0,0))):=Jy (by rw[a3];exact(AK _ pb 4 _ 182 _ (AK _ pb 3 _ 182 _ (AK _ pb 2 _ 182 _ (AK _ pb 1 _ 182 _ (AK _ pb 0 _ 182 _ a0))))));have a8:Below W4.heap.size W4 W6:=ai;have a7:=Jy ((a8.block g ax).trans aa.o);have aK:=Jy (ao.o.trans (a8.mono (by omega)));have bj:g≠pb:=a2;clear a8 a2 r0 r1 HK a6 a1 aj am av ah a3 ai a0
   rotate_left
   all_goals
    have p0:W6.cell? ⟨pb,0,none⟩=some (.int .i64 c0.toNat):=by rw[AG W6 pb 0 _ 182 (0,0) ay.o];rfl
    have p1:W6.cell? ⟨pb,1,none⟩=some (.int .u32 n3):=by rw[AG W6 pb 1 _ 182 (0,0) ay.o];rfl
    have p2:W6.cell? ⟨pb,2,none⟩=some (.int .i64 n4):=by rw[AG W6 pb 2 _ 182 (0,0) ay.o];rfl
    have p3:W6.cell? ⟨pb,3,none⟩=some (.int .i64 n5):=by rw[AG W6 pb 3 _ 182 (0,0) ay.o];rfl
    have p4:W6.cell? ⟨pb,4,none⟩=some (.string Y6):=by rw[AG W6 pb 4 _ 182 (0,0) ay.o];rfl
    have q0:W6.cell? ⟨g,0,none⟩=some (.int .i64 0):=by rw[AG W6 g 0 _ 182 (0,0) a7.o];rfl
    have f0:=Al W6 g 0 _ 182 a7.o;have q1:W6.cell? ⟨g,1,none⟩=some (.int .u32 0):=by rw[AG W6 g 1 _ 182 (0,0) a7.o];rfl
    have f1:=Al W6 g 1 _ 182 a7.o;have q2:W6.cell? ⟨g,2,none⟩=some (.int .i64 0):=by rw[AG W6 g 2 _ 182 (0,0) a7.o];rfl
    have f2:=Al W6 g 2 _ 182 a7.o;have q3:W6.cell? ⟨g,3,none⟩=some (.int .i64 0):=by rw[AG W6 g 3 _ 182 (0,0) a7.o];rfl
    have f3:=Al W6 g 3 _ 182 a7.o;have q4:W6.cell? ⟨g,4,none⟩=some (.string ⟨#[]⟩):=by rw[AG W6 g 4 _ 182 (0,0) a7.o];rfl
    have f4:=Al W6 g 4 _ 182 a7.o;by_cases bf:n4<n5
    ·have bc:(n4:Int)<(n5:Int):=by omega
     have HR:Hid (Ef s=some (GU s)):=Jy (by unfold Ef Oc;rw[hs,<-b9.o,<-aW.o];simp[az,GU,<-aO.o,<-aL.o,bf]);clear e1 e2 e3 e4 e5 e6 e0 aU Sx az;go_wp2_with fail;go_region;go_wp2_with fail;have aX:OU (GU s)=.agg #[.int .i64 c0.toNat,.int .u32 n3,.int .i64 n4,.int .i64 n5,.string Y6]:=by unfold OU GU;rw[bl.o,aO.o,aL.o,bg.o,bq.o]
     refine Au (v:=.tuple #[.agg #[.int .i64 c0.toNat,.int .u32 n3,.int .i64 n4,.int .i64 n5,.string Y6],.bool true]) ?_ rfl ⟨GU s,?_,?_,?_⟩
     ·simp[results,go_sem,q0,q1,q2,q3,q4]
     ·rw[aX,HR.o];rfl
     ·intro q hq;rw[HR.o]at hq;cases hq;rfl
     exact N5 (((((aK.o.setCell (by simp) _).setCell (by simp) _).setCell (by simp) _).setCell (by simp) _).setCell (by simp) _)
    have bc:¬(n4:Int)<(n5:Int):=by omega
    have HR:Hid (Ef s=none):=Jy (by unfold Ef Oc;rw[hs,<-b9.o,<-aW.o];simp[az,GU,<-aO.o,<-aL.o,bf]);clear e1 e2 e3 e4 e5 e6 e0 aU Sx az;go_wp2_with fail;go_region;go_wp2_with fail;have aX:OU (GU s)=.agg #[.int .i64 c0.toNat,.int .u32 n3,.int .i64 n4,.int .i64 n5,.string Y6]:=by unfold OU GU;rw[bl.o,aO.o,aL.o,bg.o,bq.o]
    refine Au (v:=.tuple #[.agg #[.int .i64 c0.toNat,.int .u32 n3,.int .i64 n4,.int .i64 n5,.string Y6],.bool false]) ?_ rfl ⟨GU s,?_,?_,?_⟩
    ·simp[results,go_sem,q0,q1,q2,q3,q4]
    ·rw[aX,HR.o];rfl
    ·intro q hq;rw[HR.o]at hq;cases hq
    exact N5 (((((aK.o.setCell (by simp) _).setCell (by simp) _).setCell (by simp) _).setCell (by simp) _).setCell (by simp) _)
 have HR:Hid (Ef s=none):=Jy (by unfold Ef Oc;rw[<-b9.o,<-aW.o];simp[az]);have b4:¬(n1:Int)=(n2:Int):=by omega
 go_enter func133,ntmps133
 go_wp2_with (first | (rw[<-bp.o]) | (rw[<-Hg.o]) | fail);refine BE (S:=λ_=>True) (by kernel_rfl) trivial (λhHeld => ?_);refine tk 0 ⟨some 7,.move (.tmp 0),_,_,_,none⟩ (.string X) rfl (λw h=>by go_simp) hHeld ?_;simp only[zP,List.set];refine tk 1 ⟨some 8,.call { callee:=Callee.builtin Builtin.len,args:=#[.tmp 7],argTypes:=#[9] },_,_,_,none⟩ (.int .i64 64) rfl (λw h=>by go_simp) hHeld ?_;simp only[zP,List.set];refine tk 2 ⟨some 9,.binOp .neq 3 (.tmp 8) (.const (.int .i64 64)) 3,_,_,_,none⟩ (.bool false) rfl (λw h=>by go_simp) hHeld ?_;simp only[zP,List.set]
 refine tk 3 ⟨some 10,.move (.tmp 9),_,_,_,none⟩ (.bool false) rfl (λw h=>by go_simp) hHeld ?_;simp only[zP,List.set];refine tk 4 ⟨some 11,.move (.tmp 0),_,_,_,some (3,false)⟩ (.string X) rfl (λw h=>by go_simp) hHeld ?_;simp only[zP,List.set];refine tk 5 ⟨some 12,.move (.tmp 4),_,_,_,some (3,false)⟩ (.int .i64 60) rfl (λw h=>by go_simp) hHeld ?_;simp only[zP,List.set];refine tk 6 ⟨some 13,.slice 9 (.tmp 11) (some (.tmp 12)) none none,_,_,_,some (3,false)⟩ (.string Y1) rfl (λw h=>by go_simp) hHeld ?_;simp only[zP,List.set]
 refine tk 8 ⟨some 15,.move (.tmp 0),_,_,_,some (3,false)⟩ (.string X) rfl (λw h=>by go_simp) hHeld ?_;simp only[zP,List.set];refine tk 9 ⟨some 16,.move (.tmp 4),_,_,_,some (3,false)⟩ (.int .i64 60) rfl (λw h=>by go_simp) hHeld ?_;simp only[zP,List.set];refine tk 10 ⟨some 17,.slice 9 (.tmp 15) none (some (.tmp 16)) none,_,_,_,some (3,false)⟩ (.string Y2) rfl (λw h=>by go_simp) hHeld ?_;simp only[zP,List.set];refine rd 7 rfl (λK hK => ?_);go_simp;refine(aN.o _).mono ?_;rintro e V1 ⟨rfl,ar⟩;refine hK.o _ _ trivial (λhHeld => ?_);clear hK K;refine rd 11 rfl (λK hK => ?_);go_simp
 refine(aR.o _).mono ?_;rintro e V2 ⟨rfl,aD⟩;refine hK.o _ _ trivial (λhHeld => ?_);clear hK K;refine tk 12 ⟨some 19,.binOp .neq 88 (.tmp 14) (.tmp 18) 88,_,_,_,some (3,false)⟩ (.bool true) rfl (λw h=>by go_simp) hHeld ?_;simp only[zP,List.set];refine tk 13 ⟨some 20,.pick (.tmp 10) (.const (.bool true)) (.tmp 19),_,_,_,none⟩ (.bool true) rfl (λw h=>by go_simp) hHeld ?_;simp only[zP,List.set];refine BT (by kernel_rfl) ?_ _;clear hHeld;have aw:Below W1.heap.size W1 V2:=(N5 (AM _ W1)).trans (ar.trans (aD.mono ar.size));have aC:=(aw.block g af).trans aH.o;have a5:=Jy aC;have aF:=Jy (aE.o.trans (aw.mono (by omega)));have ac:=lt_of_heap aC
 clear ar aD aw aH aE af V1;have q0:V2.cell? ⟨g,0,none⟩=some (.int .i64 0):=by rw[AG V2 g 0 _ 182 (0,0) a5.o];rfl
 have q1:V2.cell? ⟨g,1,none⟩=some (.int .u32 0):=by rw[AG V2 g 1 _ 182 (0,0) a5.o];rfl
 have q2:V2.cell? ⟨g,2,none⟩=some (.int .i64 0):=by rw[AG V2 g 2 _ 182 (0,0) a5.o];rfl
 have q3:V2.cell? ⟨g,3,none⟩=some (.int .i64 0):=by rw[AG V2 g 3 _ 182 (0,0) a5.o];rfl
 have q4:V2.cell? ⟨g,4,none⟩=some (.string ⟨#[]⟩):=by rw[AG V2 g 4 _ 182 (0,0) a5.o];rfl
 have f0:=Al V2 g 0 _ 182 a5.o;have f1:=Al V2 g 1 _ 182 a5.o;have f2:=Al V2 g 2 _ 182 a5.o;have f3:=Al V2 g 3 _ 182 a5.o;have f4:=Al V2 g 4 _ 182 a5.o;clear e1 e2 e3 e4 e5 e6 e0 aU Sx az b4;go_wp2_with fail;refine Au (v:=.tuple #[.agg #[.int .i64 0,.int .u32 0,.int .i64 0,.int .i64 0,.string ⟨#[]⟩],.bool false]) ?_ rfl ⟨⟨0,0,0,0,[]⟩,?_,?_,?_⟩
 ·simp[results,go_sem,q0,q1,q2,q3,q4]
 ·rw[HR.o];rfl
 ·intro q hq;rw[HR.o]at hq;cases hq
 exact((((aF.o.setCell (by simp) _).setCell (by simp) _).setCell (by simp) _).setCell (by simp) _).setCell (by simp) _
end Go.Proofs.YtodmdkhdbfbfgaaGreatDoor
