/- Lemmas. -/
import Derived.Test.YtodmdkhdbfbfgaaGreatDoorM12
set_option linter.unusedVariables false
set_option linter.unusedSimpArgs false
set_option maxRecDepth 100000
set_option maxHeartbeats 8000000
open Go.Proofs.Tryz
namespace Go.Proofs.YtodmdkhdbfbfgaaGreatDoor
namespace S1
open Go.RowKit Pk
theorem YZ(w:D7)(B g:Nat)(b:D8)(pos n k:Nat)(hB:B<=w.heap.size)(hb:0<b.length)(hp:pos<=400000)(hk:k<=12)(hn:n<2^k)(h:BW w B g b pos) :
 Calls prog 250 #[.pointer (some ⟨g,0,none⟩),.int .i64 n,.int .i64 k] w λe w'=>e=.returned (.tuple #[])/\∃b',BW w' B g b' (pos+k)/\Ag b b' pos/\val b' pos k=n/\Below B w w'/\Dm 282 w w':=by
 have Hn:=Jy hn;have Hh:=Jy h;have b0:n<4096:=by
  have:=BD (show 0<2 by omega) hk
  omega
 clear hn h;obtain⟨i0,hi,aP,aE,aO⟩:=Ai Fz;go_enter func250,ntmps250
 go_wp2
 go_loopw [6] (λi wr=>∃j:Nat,j<=k/\i=.int .i64 ((k:Int) - 1 - (j:Int))/\∃c,BW wr B g c (pos+j)/\Ag b c pos/\val c pos j=n/2^(k - j)/\Below B w wr/\Hid (Dm 282 w wr)) (λi _=>(intOf i+1).toNat)
 case atStart =>
  refine⟨0,by omega,by go_num,b,Hh.o,Ag.refl _ _,?_,AM _ _,Dm.refl _ _⟩;rw[Cq,Nat.div_eq_of_lt Hn.o];rfl
 case round =>
  clear Hh;obtain⟨j,hj,rfl,c,hc,au,hv,a5,an⟩:=hrel;by_cases aL:j<k
  ·obtain⟨v,a8,a2⟩:=hc.st;have aA:=hc.wr;have hg:=hc.hg;have b3:0<c.length:=AR hb au.len;have aK:=Jy aA;have Hv:=Jy hv;have aB:=Jy au;have b7:=aA.lo;have b8:=aA.hi;obtain⟨r,aH,rfl,hr⟩:=eN a2 b3;clear hc aA hv au;have aZ:decide (0<=(k:Int) - 1 - (j:Int))=true:=by simp;omega
   by_cases h0:pos+j=8*c.length
   ·have aM:8*c.length - (pos+j)=0:=by omega
    rw[aM]at a8;have x0:=Dv 0 a8;have x1:=Dv 1 a8;have aY:B<=wr.heap.size:=AF hB a5.size;have Fg:c.length<=100000:=by omega
    have am:=Jy a8;have a9:=Jy a5;clear a8 a5 aM;go_wp2_with (at_builtin;refine wpList_append_lies _ rfl (.tmp 22) (.tmp 23) 111 rfl B 5 i0 (.int .u8 0) 1 1 underlying111 hi aP aE aO rfl (by decide) (.slice (some ⟨r,0,none⟩) c.length aH) c.length _ rfl (a2.alloc _) ⟨wr.heap.size,0,none⟩ 1 1 [.int .u8 0] rfl rfl (Bg _ _ _) (by intro u hu;simp at hu;subst hu;rfl) (by omega) (by unfold maxLen;omega) (by omega) (by simp;omega) (wr.heap.size+1) (by simp) ?_);intro r2 a1 w2 a0 a7 aT aR;have aa:=(((Dm.refl 279 wr).alloc _).grown (a2.alloc _) (by decide) a7).block am.o;have ah:Hid (Below B w w2):=(a9.o.alloc aY _).grown a7 (by simp;omega) (λq hq=>(a2.lt q hq).1);have a0:w2.ownsRow B 5 1 (.slice (some ⟨r2,0,none⟩) (c++[0]).length a1) (c++[0]).length ((c++[(0:UInt8)]).map λ(y:UInt8)=>.int .u8 y.toNat):=by
     rw[AN,Aq];exact a0
    have aQ:B<=r2:=(a0.lt r2 rfl).1;have y0:=Dv 0 aa;have aV:=FU 0 aa;have a3:=AK w2 g 0 _ 279 (.slice (some ⟨r2,0,none⟩) (c.length+1) a1) aa;have y1:=Dv 1 a3;have b5:=FU 1 a3;have ad:=AK _ g 1 _ 279 (.int .i64 8) a3;have z1:=Dv 1 ad;have b4:=FU 1 ad;have ag:=AK _ g 1 _ 279 (.int .i64 7) ad;have ay:g≠r2:=by
     intro e;subst e;obtain⟨_,_,hk⟩:=Lib.ownsRow_kind a0 g rfl;rw[aa]at hk;simp at hk
    have aD:(Value.slice (some ⟨r2,0,none⟩) (c++[0]).length a1).ownBlock≠some g:=by simp[Value.ownBlock];exact λe=>ay e.symm
    have a6:=B8 (a:=⟨g,1,none⟩) (B8 (a:=⟨g,1,none⟩) (B8 (a:=⟨g,0,none⟩) a0 aD (.slice (some ⟨r2,0,none⟩) (c.length+1) a1)) aD (.int .i64 8)) aD (.int .i64 7);have ai:=Jy (((ah.o.setCell (p:=⟨g,0,none⟩) hg (.slice (some ⟨r2,0,none⟩) (c.length+1) a1)).setCell (p:=⟨g,1,none⟩) hg (.int .i64 8)).setCell (p:=⟨g,1,none⟩) hg (.int .i64 7));have aI:(c++[0]).length=c.length+1:=by simp
    have v0:=Dv 0 ag;have v1:=Dv 1 ag;have vr:(((w2.setCell ⟨g,0,none⟩ (.slice (some ⟨r2,0,none⟩) (c.length+1) a1)).setCell ⟨g,1,none⟩ (.int .i64 8)).setCell ⟨g,1,none⟩ (.int .i64 7)).cell? ⟨r2,c.length,none⟩=some (.int .u8 0):=by
     rw[a6.cellAt c.length (by simp),Aq,Ad (by simp)];simp
    have vf:=a6.frozenAt c.length;have az:Hid (Dm 282 w (((w2.setCell ⟨g,0,none⟩ (.slice (some ⟨r2,0,none⟩) (c.length+1) a1)).setCell ⟨g,1,none⟩ (.int .i64 8)).setCell ⟨g,1,none⟩ (.int .i64 7))):=(((an.o.trans (((Dm.refl 282 wr).alloc _).grown (a2.alloc _) (by decide) a7)).set aa (by decide)).set a3 (by decide)).set ad (by decide);have ar:Hid ((((w2.setCell ⟨g,0,none⟩ (.slice (some ⟨r2,0,none⟩) (c.length+1) a1)).setCell ⟨g,1,none⟩ (.int .i64 8)).setCell ⟨g,1,none⟩ (.int .i64 7)).heap[g]? = some (.cells #[.slice (some ⟨r2,0,none⟩) (c++[0]).length a1,.int .i64 ((7:Nat):Int)] 279 (0,0))):=by
     show _=_;rw[ag,aI];rfl
    have ae:=Jy a6;clear aa a3 ad ag a2 a0 a6 a7 aT x0 x1 am a9 ah aI;go_wp2;go_region;have aJ:bits BinOp.or IntKind.u8 0 (bits BinOp.and IntKind.i64 ((n:Int)/2^(k - 1 - j)) 1%256*128%256)=((0+n/2^(k - 1 - j)%2*2^7:Nat):Int):=by
     have h1:=Tf n k j 7 (by omega);rw[show(2:Int)^7=128 by decide]at h1;rw[h1];exact S0 0 _ 7 (by omega) (BM _ (by omega)) (by omega) (by simp)
    rw[aJ];have hz:∀i,pos+j<=i->bt (c++[0]) i=0:=λi hi=>fG c i (by omega)
    obtain⟨c',af,ha,aw,ao⟩:=S5 (c:=c++[0]) (p:=pos+j) (q:=7) (x:=n/2^(k - 1 - j)%2) (y:=0+n/2^(k - 1 - j)%2*2^7) hg ar.o ae.o (by simp;omega) (by simp;omega) hz (BM _ (by omega)) (by simp;omega) (by simp);rw[show(c++[(0:UInt8)]).length - 1=c.length by simp]at af;have a4:=ai.o.setCell (p:=⟨r2,c.length,none⟩) aQ (.int .u8 ((0+n/2^(k - 1 - j)%2*2^7:Nat):Int));have ac:Dm 282 w ((((w2.setCell ⟨g,0,none⟩ (.slice (some ⟨r2,0,none⟩) (c.length+1) a1)).setCell ⟨g,1,none⟩ (.int .i64 8)).setCell ⟨g,1,none⟩ (.int .i64 7)).setCell ⟨r2,c.length,none⟩ (.int .u8 ((0+n/2^(k - 1 - j)%2*2^7:Nat):Int))):=by
     obtain⟨x5,f5,aG⟩:=Lib.ownsRow_kind ae.o r2 rfl;exact az.o.set aG (by decide)
    have aW:Ag c c' pos:=⟨by rw[ao];simp,λi hi=>by rw[ha.bit i (by omega),Te c [0] i (by omega)]⟩;have aU:val c' pos j=val c pos j:=by
     rw[ha.val pos j (by omega)];have aX:Ag c (c++[0]) (8*c.length):=⟨by simp,λi hi=>Te c [0] i hi⟩;exact aX.val pos j (by omega)
    have av:val c' pos (j+1)=n/2^(k - (j+1)):=by
     rw[Me,aw,aU,Hv.o];exact SR n k j aL
    generalize ((((w2.setCell ⟨g,0,none⟩ (.slice (some ⟨r2,0,none⟩) (c.length+1) a1)).setCell ⟨g,1,none⟩ (.int .i64 8)).setCell ⟨g,1,none⟩ (.int .i64 7)).setCell ⟨r2,c.length,none⟩ (.int .u8 ((0+n/2^(k - 1 - j)%2*2^7:Nat):Int)))=W2 at *
    have aj:Hid (BW W2.drew B g c' (pos+(j+1))/\Ag b c' pos/\val c' pos (j+1)=n/2^(k - (j+1))/\Below B w W2.drew/\Hid (Dm 282 w W2.drew)):=⟨⟨af.hg,af.st,af.wr⟩,aB.o.trans aW (AB _),av,a4.drew,ac.drew⟩;clear y0 aV y1 b5 z1 b4 v0 v1 vr vf af ha aw av a4 aJ ar ae ai az ac an;go_wp2;go_roundw
    case rel=>exact⟨j+1,by omega,by go_num,c',aj.o⟩
    case measure=>simp[intOf];omega
   obtain⟨q,hq⟩:∃q,8*c.length - (pos+j)=q+1:=⟨8*c.length - (pos+j) - 1,by omega⟩;rw[hq]at a8;have b6:q<=6:=by omega
   have x0:=Dv 0 a8;have x1:=Dv 1 a8;have f1:=FU 1 a8;have aS:(((q+1:Nat):Int)==0)=false:=by simp;omega
   have a3:=AK wr g 1 _ 279 (.int .i64 q) a8;have y0:=Dv 0 a3;have y1:=Dv 1 a3;have ay:g≠r:=by
    intro e;subst e;obtain⟨_,_,hk⟩:=Lib.ownsRow_kind a2 g rfl;rw[a8]at hk;simp at hk
   obtain⟨u,hu⟩:=Jq ((c.getD (c.length - 1) 0).toNat);have yr:(wr.setCell ⟨g,1,none⟩ (.int .i64 q)).cell? ⟨r,c.length - 1,none⟩=some (.int .u8 u):=by
    rw[Ws _ (λe=>ay e.symm),a2.cellAt (c.length - 1) (by omega),hu,BQ,AI,AD (by omega)];rfl
   have fr:(wr.setCell ⟨g,1,none⟩ (.int .i64 q)).frozen? ⟨r,c.length - 1,none⟩=false:=by
    rw[Xn _ (λe=>ay e.symm)];exact a2.frozenAt (c.length - 1)
   have ax:u<256:=by rw[hu];exact UInt8.toNat_lt _
   have Hu:=Jy hu;have Hq:=Jy hq;have am:=Jy a8;have aF:=Jy a3;have aC:=Jy a2;have a9:=Jy a5;clear a8 a3 a2 a5 hu hq;rw[show((q+1:Nat):Int)=(q:Int)+1 by omega]at x1 aS;go_wp2;go_region;rw[Tf n k j q (by omega),S0 u (n/2^(k - 1 - j)%2) q (by omega) (BM _ (by omega)) ax (by
    have:=(Ty c (pos+j) 0 (by omega) (by omega) aK.o.zero (by omega)).1
    rw[Hq.o]at this;rw[Hu.o];exact this)]
   have a0:(wr.setCell ⟨g,1,none⟩ (.int .i64 q)).ownsRow B 5 1 (.slice (some ⟨r,0,none⟩) c.length aH) c.length (c.map λc=>.int .u8 (c.toNat:Nat)):=B8 aC.o (by simp[Value.ownBlock];exact λe=>ay e.symm) _;obtain⟨c',af,ha,aw,ao⟩:=S5 (p:=pos+j) (q:=q) (x:=n/2^(k - 1 - j)%2) (y:=u+n/2^(k - 1 - j)%2*2^q) hg aF.o a0 (by omega) (by omega) aK.o.zero (BM _ (by omega)) (by have:=Hq.o;omega) (by rw[Hu.o]);have a4:=(a9.o.setCell (p:=⟨g,1,none⟩) hg (.int .i64 q)).setCell (p:=⟨r,c.length - 1,none⟩) hr (.int .u8 ((u+n/2^(k - 1 - j)%2*2^q:Nat):Int));have ac:Dm 282 w ((wr.setCell ⟨g,1,none⟩ (.int .i64 q)).setCell ⟨r,c.length - 1,none⟩ (.int .u8 ((u+n/2^(k - 1 - j)%2*2^q:Nat):Int))):=by
    obtain⟨x5,f5,aG⟩:=Lib.ownsRow_kind a0 r rfl;exact(an.o.set am.o (by decide)).set aG (by decide)
   have av:val c' pos (j+1)=n/2^(k - (j+1)):=by
    rw[Me,aw,ha.val pos j (by omega),Hv.o];exact SR n k j aL
   generalize ((wr.setCell ⟨g,1,none⟩ (.int .i64 q)).setCell ⟨r,c.length - 1,none⟩ (.int .u8 ((u+n/2^(k - 1 - j)%2*2^q:Nat):Int)))=W2 at *
   have aj:Hid (BW W2.drew B g c' (pos+(j+1))/\Ag b c' pos/\val c' pos (j+1)=n/2^(k - (j+1))/\Below B w W2.drew/\Hid (Dm 282 w W2.drew)):=⟨⟨af.hg,af.st,af.wr⟩,aB.o.trans ha (by omega),av,a4.drew,ac.drew⟩;clear x0 x1 f1 y0 y1 yr fr af ha aw av a4 a0 ac an am;go_wp2;go_roundw
   case rel=>exact⟨j+1,by omega,by go_num,c',aj.o⟩
   case measure=>simp[intOf];omega
  have aN:j=k:=by omega
  subst aN;have aZ:decide (0<=(j:Int) - 1 - (j:Int))=false:=by simp;omega
  have Hc:=Jy hc;have aB:=Jy au;have Hv:=Jy hv;have a9:=Jy a5;clear hc au hv a5;go_wp2;go_end0
  refine⟨rfl,c,Hc.o,aB.o,?_,a9.o,an.o⟩
  have:=Hv.o
  rw[D5,Nat.pow_zero,Nat.div_one]at this;exact this
end S1
namespace S1.Pk
def Lk(z:Nat->Int)(d k:Nat):List Nat:=(List.range k).filter λi=>decide (z i=(d:Int))
def FC(z:Nat->Int)(n:Nat):Nat->List Nat
 | 0=>[]
 | d+1=>FC z n d++Lk z (d+1) n
theorem Sw(z:Nat->Int)(d k:Nat)(h:z k=(d:Int)):Lk z d (k+1)=Lk z d k++[k]:=by
 unfold Lk;rw[B0,Cu];simp[h]
theorem WO(z:Nat->Int)(d k:Nat)(h:z k≠(d:Int)):Lk z d (k+1)=Lk z d k:=by
 unfold Lk;rw[B0,Cu];simp[h]
theorem So(z:Nat->Int)(d k:Nat):(Lk z d k).length=cnt z d k:=by
 induction k with
 | zero=>rfl
 | succ k ih =>
   by_cases h:z k=(d:Int)
   ·rw[Sw z d k h,AN,ih];simp[cnt,h]
   rw[WO z d k h,ih];simp[cnt,h]
theorem iv(z:Nat->Int)(d k i:Nat)(hi:i<k)(h:z i=(d:Int)):(Lk z d k)[cnt z d i]? = some i:=by
 induction k with
 | zero=>omega
 | succ k ih =>
   by_cases e:i=k
   ·subst e;rw[Sw z d i h,Ad (by rw[So];omega),So];simp
   have a0:=cnt_lt z d (show i<k by omega) h;by_cases h2:z k=(d:Int)
   ·rw[Sw z d k h2,Ax (by rw[So];exact a0)];exact ih (by omega)
   rw[WO z d k h2];exact ih (by omega)
theorem WT(z:Nat->Int)(d n r:Nat)(h:r<cnt z d n):∃i,i<n/\z i=(d:Int)/\cnt z d i=r:=by
 induction n with
 | zero=>simp[cnt]at h
 | succ n ih =>
   by_cases e:z n=(d:Int)
   ·by_cases h2:r<cnt z d n
    ·obtain⟨i,h3,h4,h5⟩:=ih h2;exact⟨i,by omega,h4,h5⟩
    refine⟨n,by omega,e,?_⟩;simp[cnt,e]at h;omega
   have:r<cnt z d n:=by simpa[cnt,e]using h
   obtain⟨i,h3,h4,h5⟩:=ih this;exact⟨i,by omega,h4,h5⟩
theorem SJ(z:Nat->Int)(n d:Nat):(FC z n (d+1)).length=(FC z n d).length+cnt z (d+1) n:=by
 rw[FC,AN,So]
theorem pP(z:Nat->Int)(n d D r:Nat)(hd:d+1<=D)(hr:r<cnt z (d+1) n):(FC z n D)[(FC z n d).length+r]? = (Lk z (d+1) n)[r]? := by
 induction D with
 | zero=>omega
 | succ D ih =>
   by_cases e:d=D
   ·subst e;rw[FC,Ad (by omega),Nat.add_sub_cancel_left]
   rw[FC,Ax,ih (by omega)];have h1:(FC z n (d+1)).length<=(FC z n D).length:=by
    have:d+1<=D:=by omega
    clear ih e hd
    induction D with
    | zero=>omega
    | succ D ih =>
      by_cases e:d+1=D+1
      ·rw[e];exact AB _
      have:=ih (by omega);rw[SJ z n D];omega
   rw[SJ]at h1;omega
theorem Tu(z:Nat->Int)(n d:Nat):(FC z n d).length<=d*n:=by
 induction d with
 | zero=>simp[FC]
 | succ d ih=>rw[SJ];have:=TV z (d+1) n;rw[Cg];omega
theorem found(s:D8)(z:Nat->Int)(pos d:Nat)(hd:d+1<=12)(hlo:2*Is z 288 d<=val s pos (d+1))(hhi:val s pos (d+1) - 2*Is z 288 d<cnt z (d+1) 288)(hp:pos+(d+1)<=8*s.length) :
 ∃i,i<288/\(FC z 288 12)[(FC z 288 d).length+(val s pos (d+1) - 2*Is z 288 d)]? = some i/\hit s z pos i=true/\(z i).toNat=d+1:=by
 obtain⟨i,hi,hz,hc⟩:=WT z (d+1) 288 _ hhi;have a0:(z i).toNat=d+1:=by omega
 refine⟨i,hi,?_,?_,a0⟩
 ·rw[pP z 288 d 12 _ hd hhi,<-hc];exact iv z (d+1) 288 i hi hz
 rw[Ob];refine⟨by omega,by omega,?_⟩;unfold num;rw[a0,Cs,hc];omega
theorem Ul(s:D8)(z:Nat->Int)(pos d i:Nat)(hi:i<288)(hz:z i=(d:Int))(h:Is z 288 d<=val s pos d):hit s z pos i=false:=by
 rw[<-Bool.not_eq_true,Ob];intro⟨h1,h2,h3⟩
 have:=US z 288 i h1 hi
 rw[hz,Bd]at this h3;omega
end S1.Pk
namespace S1
open Go.RowKit Pk
variable {w w':D7} {tr t e:TypeId} {b n:Nat} {v:Value} {xs:List Value} {f:Nat->Value}
def Lg(w:D7)(row:Option Nat)(t:TypeId):Prop:=∀g,row=some g->∃cur fz,w.heap[g]? = some (.cells cur t fz)
theorem ZL{row:Option Nat}{c:Array Value}{fz:Nat × Nat}(hg:w.grownBy w' row)(ht:Lg w row tr)(hb:w.heap[b]? = some (.cells c t fz))(hne:t≠tr):w'.heap[b]? = w.heap[b]? := by
 refine hg.block b (lt_of_heap hb) λe => ?_
 obtain⟨cur,f,h⟩:=ht b e.symm;rw[hb]at h;simp at h;exact hne h.2.1
def OR(z:Nat->Int)(v:Value)(j:Nat):Value:=if j<=12 then .int .i64 (if j=0 then 0 else(cnt z j 288:Nat))else v
def Dc(w:D7)(base db:Nat)(z:Nat->Int):Prop:=
 ∃v,w.rowIs db 327 14 (OR z v)/\w.ownsRow base 3 1 v (FC z 288 12).length ((FC z 288 12).map λi=>.int .i64 (i:Nat))
def GZ(z:Nat->Int)(d k:Nat)(v:Value)(j:Nat):Value:=if j<=12 then .int .i64 (if j=0 then 0 else if j<=d then(cnt z j 288:Nat)else if j=d+1 then(cnt z j k:Nat)else 0)else v
theorem iY(z:Nat->Int)(j:Nat)(h:j<14):(#[Value.int .i64 0,.int .i64 0,.int .i64 0,.int .i64 0,.int .i64 0,.int .i64 0,.int .i64 0,.int .i64 0,.int .i64 0,.int .i64 0,.int .i64 0,.int .i64 0,.int .i64 0,.slice none 0 0]:Array Value)[j]? = some (GZ z 0 0 (.slice none 0 0) j):=by
 unfold GZ
 match j,h with
 | 0,_=>rfl
 | 1,_=>rfl
 | 2,_=>rfl
 | 3,_=>rfl
 | 4,_=>rfl
 | 5,_=>rfl
 | 6,_=>rfl
 | 7,_=>rfl
 | 8,_=>rfl
 | 9,_=>rfl
 | 10,_=>rfl
 | 11,_=>rfl
 | 12,_=>rfl
 | 13,_=>rfl
theorem oF(z:Nat->Int)(d k:Nat)(v u:Value)(j:Nat)(hj:j<14):(if j=13 then u else GZ z d k v j)=GZ z d k u j:=by
 unfold GZ;by_cases h:j=13
 ·rw[AE h,AC (by omega)]
 rw[AC h,AE (show j<=12 by omega),AE (show j<=12 by omega)]
theorem oN(z:Nat->Int)(d k:Nat)(v:Value)(j:Nat)(hd:d<12)(h:z k=((d+1:Nat):Int)):(if j=d+1 then Value.int .i64 ((cnt z (d+1) k:Nat)+1)else GZ z d k v j)=GZ z d (k+1) v j:=by
 unfold GZ;by_cases e:j=d+1
 ·subst e;rw[AE rfl,AE (by omega),AC (by omega),AC (by omega),AE rfl];simp only[cnt,AE h];go_num
 rw[AC e];by_cases e1:j<=12
 ·rw[AE e1,AE e1,AC e,AC e]
 rw[AC e1,AC e1]
theorem lM(z:Nat->Int)(d k:Nat)(v:Value)(j:Nat)(h:z k≠((d+1:Nat):Int)):GZ z d k v j=GZ z d (k+1) v j:=by
 have e1:cnt z (d+1) (k+1)=cnt z (d+1) k:=by rw[cnt,AC h,Br]
 unfold GZ;by_cases e:j=d+1
 ·subst e;rw[e1]
 rw[AC e,AC e]
theorem sr(z:Nat->Int)(d:Nat)(v:Value)(j:Nat):GZ z d 288 v j=GZ z (d+1) 0 v j:=by
 unfold GZ;by_cases e:j<=12
 ·rw[AE e,AE e];by_cases e0:j=0
  ·rw[AE e0,AE e0]
  rw[AC e0,AC e0];by_cases e1:j<=d
  ·rw[AE e1,AE (by omega)]
  rw[AC e1];by_cases e2:j=d+1
  ·rw[AE e2,AE (by omega)]
  rw[AC e2,AC (by omega)];by_cases e3:j=d+1+1
  ·rw[AE e3];simp[cnt]
  rw[AC e3]
 rw[AC e,AC e]
theorem sV(z:Nat->Int)(v:Value)(j:Nat):GZ z 12 0 v j=OR z v j:=by
 unfold GZ OR;by_cases e:j<=12
 ·rw[AE e,AE e,AE e]
 rw[AC e,AC e]
theorem UL{base:Nat}(h:w.ownsRow base e 1 v n xs):Lg w v.ownBlock e:=λg hg=>by
 obtain⟨cur,_,_,_,hh,_⟩:=Mj h hg;exact⟨cur,_,hh⟩
theorem Sc{row:Option Nat}(h:w.rowIs b t n f)(hg:w.grownBy w' row)(ht:Lg w row tr)(hne:t≠tr):w'.rowIs b t n f:=by
 obtain⟨c,hc,h1,h2⟩:=h;exact⟨c,(ZL hg ht hc hne).trans hc,h1,h2⟩
theorem RP{row:Option Nat}{base:Nat}(h:w.ownsRow base e 1 v n xs)(hg:w.grownBy w' row)(ht:Lg w row tr)(hne:e≠tr):w'.ownsRow base e 1 v n xs:=by
 refine h.kept hg ?_;cases hv:v.ownBlock with
 | none=>exact .inl rfl
 | some g =>
   refine .inr λhe => ?_
   obtain⟨c1,_,_,_,h1,_⟩:=Mj h hv;obtain⟨c2,f2,h2⟩:=ht g he.symm;rw[h1]at h2;simp at h2;exact hne h2.2.1
theorem fF{base:Nat}{u:Value}{N o:Nat}(h:w.ownsRow base e 1 v n xs)(hr:w.rowIs b t N f)(hne:e≠t):(w.setCell ⟨b,o,none⟩ u).ownsRow base e 1 v n xs:=by
 obtain⟨c,hc,_,_⟩:=hr;exact RP h (row:=some b) (tr:=t) ⟨rfl,rfl,rfl,by simp,λk _ hk=>AH w ⟨b,o,none⟩ u k (λe=>hk (by simp[e]))⟩ (λg hg=>by simp at hg;subst hg;exact⟨c,_,hc⟩) hne
theorem Su{base:Nat}{xs:List Nat}(h:w.ownsRow base 3 1 v n (xs.map λi=>Value.int .i64 (i:Nat))):xs.length=n/\∃a c,v=.slice a n c/\IntsIn w a n (λj=>((xs.getD j 0:Nat):Int)):=by
 have hl:xs.length=n:=by have:=h.1;simpa using this
 refine⟨hl,?_⟩;have h':w.ownsRow base 3 1 v n ((List.range n).map λj=>Value.int .i64 ((xs.getD j 0:Nat):Int)):=by
  have e:(xs.map λi=>Value.int .i64 (i:Nat))=(List.range n).map λj=>Value.int .i64 ((xs.getD j 0:Nat):Int):=by
   apply Cy
   intro j;by_cases hj:j<n
   ·have a0:j<xs.length:=by omega
    simp[hj,a0]
   rw[Aw (by simp;omega),Aw (by simp;omega)]
  rw[<-e];exact h
 exact ir h'
theorem qB(a:Option Addr)(cap:Nat)(z:Nat->Int)(w:D7)(hz:IntsIn w a 288 z) :
 Calls prog 261 #[.slice a 288 cap] w λe w'=>e=.returned (.pointer (some ⟨w.heap.size,0,none⟩))/\Below w.heap.size w w'/\Dc w' w.heap.size w.heap.size z:=by
 obtain⟨i0,hi,aj,ar,ah⟩:=Ai JQ;obtain⟨b,off,rfl,hc⟩:=hz (by omega);have Hc:=Jy hc;clear hc hz;go_enter func261,ntmps261
 go_wp2
 go_loopw [4] (λi wr=>∃d D:Nat,d<=12/\D<=d+1/\d+1<=D/\i=.int .i64 D/\Below w.heap.size w wr/\∃v,wr.rowIs w.heap.size 327 14 (GZ z d 0 v)/\wr.ownsRow w.heap.size 3 1 v (FC z 288 d).length ((FC z 288 d).map λi=>.int .i64 (i:Nat))) (λi _=>13 - (intOf i).toNat)
 case atStart =>
  refine⟨0,1,by omega,by omega,by omega,rfl,(AM _ _).alloc (AB _) _,.slice none 0 0,?_,AZ _ _ _ _⟩;exact World.rowIs_alloc w _ 327 _ (λj hj=>iY z j hj)
 case round =>
  obtain⟨d,D,hd,aA,aG,rfl,a3,v,a2,a1⟩:=hrel;by_cases an:d<12
  ·have ay:decide ((D:Int)<=12)=true:=by simp;omega
   go_wp2
   go_loopw [15] (λi wr=>∃k:Nat,k<=288/\i=.int .i64 k/\Below w.heap.size w wr/\∃v n,wr.rowIs w.heap.size 327 14 (GZ z d k v)/\n<=3456+k/\wr.ownsRow w.heap.size 3 1 v n ((FC z 288 d++Lk z (d+1) k).map λi=>.int .i64 (i:Nat))) (λi _=>288 - (intOf i).toNat)
   case atStart =>
    have aB:=Tu z 288 d;exact⟨0,by omega,rfl,a3,v,(FC z 288 d).length,a2,by omega,by simpa[Lk]using a1⟩
   clear a3 a2 a1 v;obtain⟨k,hk,rfl,a3,v,n,a2,hn,a1⟩:=hrel;have aI:=a3.size;by_cases ac:k<288
   ·have aF:wr.cell? { block:=b,off:=off+k }=some (Value.int IntKind.i64 (z k)):=by
     rw[a3.cell (p:=⟨b,off+k,none⟩) (Aj w _ (Hc.o k ac))];exact Hc.o k ac
    by_cases he:z k=((d+1:Nat):Int)
    ·have aw:(z k==(D:Int))=true:=by rw[he,show D=d+1 by omega];simp
     have He:=Jy he;clear he;obtain⟨_,av,cv,hv,_⟩:=Su a1;subst hv;have ad:wr.cell? ⟨w.heap.size,13,none⟩=some (.slice av n cv):=by rw[a2.cell (by omega)];rfl
     have aC:=a2.lt;go_wp2_with (at_builtin;refine Ar _ rfl (.tmp 27) (.tmp 29) 22 rfl w.heap.size 3 i0 (.int .i64 0) 1 8 underlying22 hi aj ar ah rfl (by decide) _ _ _ rfl (a1.alloc _) ⟨wr.heap.size,0,none⟩ 1 1 [.int .i64 k] rfl rfl ?c1 ?c2 ?c3 ?c4 ?c5 ?_)
     case c1=>exact Bg _ _ _
     case c2=>intro u hu;simp at hu;subst hu;rfl
     case c3=>unfold maxLen;omega
     case c4=>omega
     case c5=>simp;omega
     intro v3 w3 a7 a5 _;have a6:Below w.heap.size w w3:=(a3.alloc (by omega) _).grown a5 (by simp;omega) (λq hq=>(a1.lt q hq).1);have a0:=Sc (a2.alloc _) a5 (UL (a1.alloc _)) (by decide);have a4:w3.ownsRow w.heap.size 3 1 v3 (n+1) ((FC z 288 d++Lk z (d+1) (k+1)).map λi=>Value.int .i64 (i:Nat)):=by
      rw[Sw z (d+1) k He.o,Aq,Aq];exact a7
     obtain⟨_,a8,a9,ai,_⟩:=Su a4;subst ai;clear a7 a5 a1 a3 a2 ad;have am:=a0.frozen 13;have aH:=a0.frozen D;obtain⟨aE,ad⟩:∃u,w3.cell? ⟨w.heap.size,13,none⟩=some u:=⟨_,a0.cell (by omega)⟩;have az:w3.cell? ⟨w.heap.size,D,none⟩=some (.int .i64 (cnt z (d+1) k:Nat)):=by
      rw[a0.cell (by omega)];unfold GZ;rw[AE (by omega),AC (by omega),AC (by omega),AE (by omega),show D=d+1 by omega]
     have aD:cnt z (d+1) k<=k:=TV _ _ _;have ao:(w3.setCell ⟨w.heap.size,13,none⟩ (.slice a8 (n+1) a9)).cell? ⟨w.heap.size,D,none⟩=some (.int .i64 (cnt z (d+1) k:Nat)):=by
      rw[((a0.set 13 (.slice a8 (n+1) a9)).cell (i:=D) (by omega)),AC (by omega),<-a0.cell (i:=D) (by omega)];exact az
     have au:(D:Int)<13:=by omega
     have af:((w3.setCell ⟨w.heap.size,13,none⟩ (.slice a8 (n+1) a9)).setCell ⟨w.heap.size,D,none⟩ (.int .i64 ((cnt z (d+1) k:Nat)+1))).rowIs w.heap.size 327 14 (GZ z d (k+1) (.slice a8 (n+1) a9)):=by
      refine((a0.set 13 _).set D _).congr λj hj => ?_
      rw[oF z d k _ _ j hj,show D=d+1 by omega];exact oN z d k _ j an He.o
     have aa:((w3.setCell ⟨w.heap.size,13,none⟩ (.slice a8 (n+1) a9)).setCell ⟨w.heap.size,D,none⟩ (.int .i64 ((cnt z (d+1) k:Nat)+1))).ownsRow w.heap.size 3 1 (.slice a8 (n+1) a9) (n+1) ((FC z 288 d++Lk z (d+1) (k+1)).map λi=>Value.int .i64 (i:Nat)):=
      fF (fF a4 a0 (by decide)) (a0.set 13 _) (by decide)
     have ae:Below w.heap.size w ((w3.setCell ⟨w.heap.size,13,none⟩ (.slice a8 (n+1) a9)).setCell ⟨w.heap.size,D,none⟩ (.int .i64 ((cnt z (d+1) k:Nat)+1))):=
      (a6.setCell (AB _) _).setCell (AB _) _
     clear a4 a0 a6;go_wp2;go_region;go_wp2;go_roundw
     case rel=>exact⟨k+1,by omega,by go_num,ae.drew,_,n+1,af.drew,by omega,aa.drew⟩
     case measure=>simp[intOf];omega
    have aw:(z k==(D:Int))=false:=by rw[show D=d+1 by omega];simpa using he
    have He:=Jy he;clear he;go_wp2;go_roundw
    case rel=>exact⟨k+1,by omega,by go_num,a3,v,n,a2.congr (λj _=>lM z d k v j He.o),by omega,by rw[WO z (d+1) k He.o];exact a1⟩
    case measure=>simp[intOf];omega
   have ax:k=288:=by omega
   subst ax;go_wp2;go_roundw
   case rel =>
    have hl:=(Su a1).1;refine⟨d+1,D+1,by omega,by omega,by omega,by go_num,a3,v,a2.congr (λj _=>sr z d v j),?_⟩;show wr.ownsRow w.heap.size 3 1 v (FC z 288 d++Lk z (d+1) 288).length ((FC z 288 d++Lk z (d+1) 288).map λi=>Value.int .i64 (i:Nat));rw[hl];exact a1
   case measure=>simp[intOf];omega
  have ag:d=12:=by omega
  subst ag;go_wp2;go_ret
  exact⟨rfl,a3,v,a2.congr (λj _=>sV z v j),a1⟩
variable {w w':D7} {rb db:Nat} {s:D8} {tr:TypeId} {z:Nat->Int}
theorem Rd.LX{pos:Nat}(h:Rd w rb s pos):Lg w (some rb) 295:=λg hg=>by
 simp at hg;subst hg;exact⟨_,_,h⟩
theorem Rd.keep{pos:Nat}{row:Option Nat}(h:Rd w rb s pos)(hg:w.grownBy w' row)(ht:Lg w row tr)(hne:295≠tr):Rd w' rb s pos:=
 (ZL hg ht h hne).trans h
theorem Dc.keep{base:Nat}{row:Option Nat}(h:Dc w base db z)(hg:w.grownBy w' row)(ht:Lg w row tr)(h1:327≠tr)(h2:3≠tr):Dc w' base db z:=by
 obtain⟨v,hr,ho⟩:=h;exact⟨v,Sc hr hg ht h1,RP ho hg ht h2⟩
theorem Dc.cell{base:Nat}(h:Dc w base db z)(D:Nat)(h1:1<=D)(h2:D<=12):w.cell? ⟨db,D,none⟩=some (.int .i64 (cnt z D 288:Nat)):=by
 obtain⟨v,hr,ho⟩:=h;rw[hr.cell (by omega)];unfold OR;rw[AE h2,AC (by omega)]
theorem Dc.syms{base:Nat}(h:Dc w base db z):∃a c,w.cell? ⟨db,13,none⟩=some (.slice a (FC z 288 12).length c)/\IntsIn w a (FC z 288 12).length (λj=>(((FC z 288 12).getD j 0:Nat):Int)):=by
 obtain⟨v,hr,ho⟩:=h;obtain⟨_,a,c,rfl,a0⟩:=Su ho;refine⟨a,c,?_,a0⟩;rw[hr.cell (by omega)];rfl
theorem jG(rb db base:Nat)(z:Nat->Int)(s:D8)(pos:Nat)(w:D7)(hs:s.length<=140737488351232)(hf:Fits z 288)(hr:Rd w rb s pos)(hp:pos<=8*s.length)(hdc:Dc w base db z) :
 Calls prog 294 #[.pointer (some ⟨db,0,none⟩),.pointer (some ⟨rb,0,none⟩)] w λe w'=>w.grownBy w' (some rb) /\
  ((∃i,i<288/\hit s z pos i=true/\e=.returned (.tuple #[.int .i64 (i:Nat),.bool true])/\Rd w' rb s (pos+(z i).toNat)) \/
   ((∀i,i<288->hit s z pos i=false)/\e=.returned (.tuple #[.int .i64 0,.bool false]))):=by
 have hT:=hr.LX;have HT:=Jy hT;have aA:=Jy hdc;have aT:=Tu z 288 12;have a5:Hid (∀i,i<288->z i<=((0:Nat):Int)->hit s z pos i=false):=λi hi h=>by
  rw[<-Bool.not_eq_true,Ob];intro hh;omega
 clear hT hdc;go_enter func294,ntmps294
 go_wp2
 go_loopw [6,7,8,9] (λx f p i wr=>∃d D P V A L:Nat,d<=12/\D<=d+1/\d+1<=D/\P<=pos+d/\pos+d<=P/\P<=8*s.length/\i=.int .i64 D/\x=.int .i64 V/\f=.int .i64 A/\p=.int .i64 L/\A<=V/\V<=4096/\L<=3456 /\
  Hid (V=val s pos d/\A=Is z 288 d/\L=(FC z 288 d).length)/\Rd wr rb s P/\w.grownBy wr (some rb)/\Hid (∀i,i<288->z i<=(d:Int)->hit s z pos i=false)) (λ_ _ _ i _=>13 - (intOf i).toNat)
 case atStart=>exact⟨0,1,pos,0,0,0,by omega,by omega,by omega,by omega,by omega,hp,rfl,rfl,rfl,rfl,by omega,by omega,by omega,⟨rfl,rfl,rfl⟩,hr,World.grownBy.refl _ _,a5⟩
 case round =>
  clear a5 hr;obtain⟨d,D,P,V,A,L,hd,aS,aX,aN,aU,aG,rfl,rfl,rfl,rfl,aP,hV,hL,HV,ae,hg,aa⟩:=hrel;by_cases aR:d<12
  ·have aL:decide ((D:Int)<=12)=true:=by simp;omega
   by_cases hb:P+1<=8*s.length
   ·go_wp2_with fail;refine(Rx rb s P 1 _ hs ae (by omega) hb).mono ?_;rintro e w1 ⟨rfl,a8,ai⟩;have a2:=Mk hg ai;have a7:=aA.o.keep a2 HT.o (by decide) (by decide);have aM:=a7.cell D (by omega) (by omega);have az:=TV z D 288;rw[nP];have aY:=TM s P;have a0:Hid (2*V+bt s P=val s pos (d+1)):=by
     have h1:=HV.o.1;have h2:pos+d=P:=by omega
     show _=_;rw[Me,h2,h1]
    generalize bt s P=bb at *
    have aQ:bits BinOp.or IntKind.i64 ((V:Int)*2) (bb:Int)=((2*V+bb:Nat):Int):=by
     rw[Wi _ _ (by omega) (by omega) (by omega) (by omega) (by omega)];omega
    have HC:Hid (cnt z D 288=cnt z (d+1) 288):=by show _=_;rw[show D=d+1 by omega]
    obtain⟨C,hC⟩:=Jq (cnt z D 288);rw[<-hC]at aM az HC;clear hC ae hg ai;have aK:(D:Int)<13:=by omega
    by_cases af:2*V+bb - 2*A<C
    ·have hF:=found s z pos d (by omega) (by have h1:=HV.o.2.1;have h2:=a0.o;omega) (by have h1:=HV.o.2.1;have h2:=a0.o;have h3:=HC.o;omega) (by omega);obtain⟨i,aF,a6,a3,am⟩:=hF;obtain⟨aW,aV,aE,aw⟩:=a7.syms;have a9:=Jy a6;have ag:=Jy a3;have aH:=Jy am;clear a6 a3 am;have ad:L+(2*V+bb - 2*A)<(FC z 288 12).length:=by
      have h1:=HV.o;have h2:=a0.o;have h3:=a9.o;rw[<-h1.2.2,<-h2,<-h1.2.1]at h3;rcases CM (L+(2*V+bb - 2*A)) (FC z 288 12).length with h | h
      ·exact h
      rw[Aw h]at h3;cases h3
     obtain⟨aj,au,ac,ao⟩:=aw (by omega);subst ac;have an:w1.cell? ⟨aj,au+(L+(2*V+bb - 2*A)),none⟩=some (.int .i64 i):=by
      rw[ao _ ad];have h1:=HV.o;have h2:=a0.o;have h3:=a9.o;rw[<-h1.2.2,<-h2,<-h1.2.1]at h3;simp[List.getD,h3]
     have aD:w1.cell? ⟨aj,au+(L+(2*V+bb) - A*2),none⟩=some (.int .i64 i):=by
      rw[show L+(2*V+bb) - A*2=L+(2*V+bb - 2*A) by omega];exact an
     clear ao aw an
     generalize (FC z 288 12).length=M at *
     have aB:((2*V+bb:Nat):Int) - (A:Int)*2<(C:Int):=by omega
     have ax:Rd w1 rb s (pos+(z i).toNat):=by
      rw[aH.o,show pos+(d+1)=P+1 by omega];exact a8
     go_wp2;go_ret2
     exact⟨a2,.inl ⟨i,aF,ag.o,rfl,ax⟩⟩
    have aO:¬(((2*V+bb:Nat):Int) - (A:Int)*2<(C:Int)):=by omega
    have av:Is z 288 (d+1)=2*A+C:=by rw[Is,<-HV.o.2.1,HC.o]
    have ar:(FC z 288 (d+1)).length=L+C:=by rw[SJ,<-HV.o.2.2,HC.o]
    have aI:=Tu z 288 (d+1);have a4:Hid (2*V+bb=val s pos (d+1)/\2*A+C=Is z 288 (d+1)/\L+C=(FC z 288 (d+1)).length):=⟨a0.o,av.symm,ar.symm⟩;have ah:Hid (∀i,i<288->z i<=((d+1:Nat):Int)->hit s z pos i=false):=λi hi h=>by
     by_cases e:z i=((d+1:Nat):Int)
     ·refine Ul s z pos (d+1) i hi e ?_;have h2:=a0.o;omega
     exact aa.o i hi (by omega)
    have ay:val s pos (d+1)<4096:=AR (Qb s pos _) (BD (by omega) (by omega:d+1<=12));have aC:2*V+bb<=4096:=by have h2:=a0.o;omega
    have aJ:L+C<=3456:=by omega
    clear av ar aI ay HV a0 aa HC;go_wp2;go_roundw
    case rel=>exact⟨d+1,D+1,P+1,2*V+bb,2*A+C,L+C,by omega,by omega,by omega,by omega,by omega,hb,by go_num,by go_num,by go_num,by go_num,by omega,aC,aJ,a4,a8,a2,ah⟩
    case measure=>simp[intOf];omega
   have a1:Hid (∀i,i<288->hit s z pos i=false):=λi hi=>by
    by_cases e:z i<=(d:Int)
    ·exact aa.o i hi e
    rw[<-Bool.not_eq_true,Ob];intro hh;omega
   go_wp2_with fail;refine(TX rb s P 1 _ hs aG ae (by omega) (by omega)).mono ?_;rintro e w1 ⟨rfl,q,rfl⟩;have a2:=Mk hg (Ou _ q _);go_wp2;go_ret2
   exact⟨a2,.inr ⟨a1.o,rfl⟩⟩
  have a1:Hid (∀i,i<288->hit s z pos i=false):=λi hi=>aa.o i hi (by have:=hf.QW i hi;omega)
  go_wp2;go_ret2
  exact⟨hg,.inr ⟨a1.o,rfl⟩⟩
theorem fx(z:Nat->Int)(p j:Nat)(x:Int):(if j=p then Value.int .i64 x else Value.int .i64 (z j))=Value.int .i64 (upd z p x j):=by
 unfold upd;split<;>rfl
theorem pQ(z:Nat->Int)(p j:Nat)(h:z p=0):(if j=p then Value.int .i64 0 else Value.int .i64 (z j))=Value.int .i64 (z j):=by
 by_cases e:j=p
 ·rw[AE e,e,h]
 rw[AC e]
theorem qI{a b:D7}{g o rb:Nat}(h:a.grownBy b (some rb))(hg:a.heap.size<=g)(v:Value):a.grownBy (b.setCell ⟨g,o,none⟩ v) (some rb):=
 ⟨h.os,h.tape,h.output,by simpa using h.size,λk hk hr=>(AH b ⟨g,o,none⟩ v k (by simp;omega)).trans (h.block k hk hr)⟩
theorem Rd.other{w:D7}{rb g o:Nat}{s:D8}{pos:Nat}(h:Rd w rb s pos)(hne:rb≠g)(v:Value):Rd (w.setCell ⟨g,o,none⟩ v) rb s pos:=
 (AH w ⟨g,o,none⟩ v rb hne).trans h
theorem sN(rb:Nat)(s:D8)(w:D7)(hs:s.length<=140737488351232)(hr:Rd w rb s 0)(R:Option ((Nat->Int) × Nat))(hR:EZ s 288 0 0 (λ_=>0)=R) :
 Calls prog 258 #[.pointer (some ⟨rb,0,none⟩)] w λe w'=>w.grownBy w' (some rb) /\
  ((∃z pos,R=some (z,pos)/\pos<=8*s.length/\e=.returned (.tuple #[.slice (some ⟨w.heap.size,0,none⟩) 288 288,.bool true])/\w'.rowIs w.heap.size 3 288 (λj=>.int .i64 (z j))/\Rd w' rb s pos) \/
   (R=none/\e=.returned (.tuple #[.slice none 0 0,.bool false]))):=by
 have au:Hid (Fa s R 0 0 (λ_=>0)):=.inl ⟨by omega,by omega,λ_ _=>rfl,288,by omega,hR⟩;clear hR;obtain⟨M,hM⟩:=Jq (madeCells #[Value.int .i64 0] 288);have aD:∀W:D7,(Instr.makeSlice 22 (.int .i64 288) (.int .i64 288)).run prog W=.ok (.slice (some ⟨W.heap.size,0,none⟩) 288 288) (W.alloc (.cells M 3)):=λW=>by
  rw[hM];exact Cz (P:=prog) 22 3 (.int .i64 0) 8 underlying22 JQ rfl .i64 .i64 288 (by omega) (by omega) W
 have a4:(w.alloc (.cells M 3)).rowIs w.heap.size 3 288 (λj=>.int .i64 ((λ_=>0:Nat->Int) j)):=by rw[hM];exact Co w (.int .i64 0) 288 3
 have ah:=hr.lt;have aw:Rd (w.alloc (.cells M 3)) rb s 0:=(AO w _ rb ah).trans hr;have ax:w.grownBy (w.alloc (.cells M 3)) (some rb):=BV w _ _;clear hM hr;go_enter func258,ntmps258
 go_wp2;clear aD
 go_loopw [5] (λx wr=>∃p pos:Nat,∃z,p<=288/\pos<=8*s.length/\x=.int .i64 p/\Hid (Fa s R p pos z)/\wr.rowIs w.heap.size 3 288 (λj=>.int .i64 (z j))/\Rd wr rb s pos/\w.grownBy wr (some rb)) (λx _=>288 - (intOf x).toNat)
 case atStart=>exact⟨0,0,_,by omega,by omega,rfl,au,a4,aw,ax⟩
 case round =>
  clear au a4 aw ax;obtain⟨p,pos,z,hp,ai,rfl,Hl,a6,ac,hg⟩:=hrel;by_cases a9:p<288
  ·have aE:=Jy (qK Hl.o a9).2;by_cases h4:8*s.length<pos+4
   ·have HR:=Jy (kW Hl.o a9 h4);go_wp2_with fail;refine(TX rb s pos 4 _ hs ai ac (by omega) h4).mono ?_;rintro e w1 ⟨rfl,q,rfl⟩;have aa:=Mk hg (Ou _ q _);go_wp2;go_ret2
    exact⟨aa,.inr ⟨HR.o,rfl⟩⟩
   go_wp2_with fail;refine(Rx rb s pos 4 _ hs ac (by omega) (by omega)).mono ?_;rintro e w1 ⟨rfl,a8,aa⟩;have a0:=Sc a6 aa ac.LX (by decide);have aj:=Mk hg aa;clear a6 ac hg aa;have aG:=Qb s pos 4;have a7:Hid (val s pos 4≠0->Fa s R (p+1) (pos+4) (upd z p (val s pos 4))):=λh=>fk Hl.o a9 h4 h
   have a5:Hid (val s pos 4=0->¬8*s.length<pos+9->Fa s R (p+1+val s (pos+4) 5) (pos+9) z):=λh h9=>kJ Hl.o a9 h4 h h9
   have an:Hid (val s pos 4=0->8*s.length<pos+9->R=none):=λh h9=>jb Hl.o a9 h4 h h9
   clear Hl
   generalize val s pos 4=v4 at *
   have aC:=a0.cell (i:=p) a9;have aB:=a0.frozen p;have aI:=a0.lt;have a3:=a0.set p (.int .i64 v4);have ae:=qI (o:=p) aj (AB _) (.int .i64 v4);have a2:=a8.other (g:=w.heap.size) (o:=p) (by omega) (.int .i64 v4);by_cases hv:v4=0
   ·have aA:¬(0:Int)<(v4:Int):=by omega
    have a1:(w1.setCell ⟨w.heap.size,p,none⟩ (.int .i64 v4)).rowIs w.heap.size 3 288 (λj=>.int .i64 (z j)):=a3.congr λj _=>by rw[hv];exact pQ z p j (aE.o p (AB _))
    have Hv:=Jy hv;clear hv a3 a0 aj a8;obtain⟨W3,am⟩:∃W,W=w1.setCell ⟨w.heap.size,p,none⟩ (.int .i64 v4):=⟨_,rfl⟩;rw[<-am]at a1 ae a2;have HW:=Jy am;clear am;by_cases h9:8*s.length<pos+9
    ·have HR:=Jy (an.o Hv.o h9);go_wp2_with fail;rw[<-HW.o];refine(TX rb s (pos+4) 5 _ hs (by omega) a2 (by omega) (by omega)).mono ?_;rintro e w4 ⟨rfl,q,rfl⟩;have af:=Mk ae (Ou _ q _);go_wp2;go_ret2
     exact⟨af,.inr ⟨HR.o,rfl⟩⟩
    go_wp2_with fail;rw[<-HW.o];refine(Rx rb s (pos+4) 5 _ hs a2 (by omega) (by omega)).mono ?_;rintro e w4 ⟨rfl,ao,af⟩;have ad:=Sc a1 af a2.LX (by decide);have av:=Mk ae af;have aH:=Qb s (pos+4) 5;have HE:=Jy (a5.o Hv.o h9);clear HW a1 ae a2 af a5 a7 an aC aB
    generalize val s (pos+4) 5=v5 at *
    by_cases aJ:288<=p+v5
    ·have HR:Hid (R=none):=by
      rcases HE.o with⟨h,_⟩ | ⟨_,_,h⟩
      ·omega
      exact h
     have ar:(288:Int)<=(p:Int)+(v5:Int):=by omega
     go_wp2;go_ret2
     exact⟨av,.inr ⟨HR.o,rfl⟩⟩
    have ar:¬(288:Int)<=(p:Int)+(v5:Int):=by omega
    have aF:Hid (Fa s R (p+v5+1) (pos+9) z):=by rw[show p+v5+1=p+1+v5 by omega];exact HE
    clear HE;go_wp2;go_roundw
    case rel=>exact⟨p+v5+1,pos+9,z,by omega,by omega,by go_num,aF,ad,ao,av⟩
    case measure=>simp[intOf];omega
   have aA:(0:Int)<(v4:Int):=by omega
   have HE:=Jy (a7.o hv);have a1:(w1.setCell ⟨w.heap.size,p,none⟩ (.int .i64 v4)).rowIs w.heap.size 3 288 (λj=>.int .i64 (upd z p v4 j)):=a3.congr λj _=>fx z p j _
   clear a3 a0 aj a8 a7 a5 an;go_wp2;go_roundw
   case rel=>exact⟨p+1,pos+4,_,by omega,by omega,by go_num,HE,a1,a2,ae⟩
   case measure=>simp[intOf];omega
  have ag:p=288:=by omega
  subst ag;obtain⟨ay,az⟩:=od Hl.o;have HR:=Jy ay;clear ay Hl;go_wp2;go_ret2
  exact⟨hg,.inl ⟨z,pos,HR.o,az,rfl,a6,ac⟩⟩
theorem Si{a b c:D7}{rb:Nat}{row:Option Nat}(h:a.grownBy b (some rb))(k:b.grownBy c row)(hr:∀g,row=some g->a.heap.size<=g):a.grownBy c (some rb):=
 ⟨k.os.trans h.os,k.tape.trans h.tape,k.output.trans h.output,AF h.size k.size,λi hi hne =>
  (k.block i (AR hi h.size) (λe=>by have:=hr i e.symm;omega)).trans (h.block i hi hne)⟩
theorem kI(rb db base:Nat)(z:Nat->Int)(s:D8)(pos size:Nat)(w:D7)(hs:s.length<=140737488351232)(hf:Fits z 288)(hr:Rd w rb s pos)(hp:pos<=8*s.length)(hdc:Dc w base db z)(h1:1<=size)(h4:size<=4000)
 (RD:Option (D8 × Nat)) (hRD:EX s z 288 size size [] pos=RD) :
 Calls prog 260 #[.pointer (some ⟨rb,0,none⟩),.pointer (some ⟨db,0,none⟩),.int .i64 size] w λe w'=>w.grownBy w' (some rb) /\
  ((∃out p a c n,RD=some (out,p)/\p<=8*s.length/\e=.returned (.tuple #[.slice a n c,.bool true])/\w'.ownsRow w.heap.size 5 1 (.slice a n c) n (Lib.strCells (D9 out))/\Rd w' rb s p) \/
   (RD=none/\e=.returned (.tuple #[.slice none 0 0,.bool false]))):=by
 obtain⟨i0,hi,aG,aO,aF⟩:=Ai Fz;have aP:Hid (GO s z size RD [] pos):=⟨by simp,hp,size,by simp,hRD⟩;clear hRD;go_enter func260,ntmps260
 go_wp2_with (at_make;refine wpList_make_own _ rfl _ _ 111 rfl w.heap.size 5 i0 (.int .u8 0) 1 underlying111 hi aG aO .i64 .i64 (size:Int) size rfl rfl ?k0 ?k1 ?k2 ?k3 ?_)
 case k0=>rfl
 case k1=>rw[aF];omega
 case k2=>unfold maxLen;omega
 case k3=>omega
 intro w0 ae a0;have bb:Lg w none 295:=λg hg=>by cases hg
 have aT:=hr.keep a0 (tr:=5) (λg hg=>by cases hg) (by decide);have aw:=hdc.keep a0 (tr:=5) (λg hg=>by cases hg) (by decide) (by decide);have aV:w.grownBy w0 (some rb):=⟨a0.os,a0.tape,a0.output,a0.size,λk hk _=>a0.block k hk (by simp)⟩;clear a0 hr hdc bb;go_wp2
 go_loopw [8] (λv wr=>∃(out:D8) (P n:Nat),n<=out.length/\out.length<=n/\(∃a' c',v=.slice a' n c')/\n<=size/\P<=8*s.length/\Hid (GO s z size RD out P)/\wr.ownsRow w.heap.size 5 1 v n (Lib.strCells (D9 out))/\Rd wr rb s P/\Dc wr base db z/\w.grownBy wr (some rb)) (λv _=>4001 - lenOf v)
 case atStart=>exact⟨[],pos,0,by simp,by simp,⟨_,_,rfl⟩,by omega,hp,aP,ae,aT,aw,aV⟩
 case round =>
  clear aP ae aT aw aV hp;obtain⟨out,P,n,bf,bh,⟨a',c',rfl⟩,hn,hP,Hd,a2,aa,hdc,hg⟩:=hrel;have aX:out.length=n:=by omega
  have au:=Jy aX;have bi:=hg.size;clear aX;by_cases be:n<size
  ·have a9:Hid (out.length<size):=by have h1:=au.o;show _<_;omega
   go_wp2_with fail;refine(jG rb db base z s P _ hs hf aa hP hdc).mono ?_;rintro e w1 ⟨aA,aL⟩;have a3:=RP a2 aA aa.LX (by decide);have ad:=hdc.keep aA aa.LX (by decide) (by decide);have ai:=Mk hg aA;have b5:=ai.size;clear a2 hdc hg aA aa;rcases aL with⟨i,hi8,hhit,rfl,hrd1⟩ | ⟨hnone,rfl⟩
   ·have hh:=(Ob s z P i).1 hhit;have aS:P+(z i).toNat<=8*s.length:=hh.2.1;have aC:=Jy (λh=>fe Hd.o a9.o hhit h);have az:=Jy (λh h2=>nF Hd.o a9.o hi8 hhit h h2);have aE:=Jy (λh h2 h3=>ou Hd.o a9.o hi8 hhit h h2 h3);have aB:=Jy (λh h2 h3=>qg Hd.o a9.o hi8 hhit h h2 h3);clear hh hhit Hd
    generalize (z i).toNat=zi at *
    by_cases a4:i<256
    ·have am:=Jy (aC.o a4);clear aC az aE aB;go_wp2_with (at_builtin;refine Ar _ rfl (.tmp 30) (.tmp 33) 111 rfl w.heap.size 5 i0 (.int .u8 0) 1 1 underlying111 hi aG aO aF rfl (by decide) _ _ _ rfl (a3.alloc _) ⟨w1.heap.size,0,none⟩ 1 1 [.int .u8 i] rfl rfl ?c1 ?c2 ?c3 ?c4 ?c5 ?_)
     case c1=>exact Bg _ _ _
     case c2=>intro u hu;simp at hu;subst hu;rfl
     case c3=>unfold maxLen;omega
     case c4=>omega
     case c5=>simp;omega
     intro v5 w5 a7 a1 _;have e1:((UInt8.ofNat i).toNat:Int)=(i:Int):=by rw[nu i a4]
     rw[<-e1,XJ]at a7;have aj:=UL (a3.alloc (.cells #[.int .u8 i] 5));have ac:=BV w1 (.cells #[.int .u8 i] 5) none;have b4:=Si (Si ai ac (λg hg=>by cases hg)) a1 (λg hg=>(a3.lt g hg).1);have aJ:=(hrd1.keep ac (tr:=5) (λg hg=>by cases hg) (by decide)).keep a1 aj (by decide);have aI:=(ad.keep ac (tr:=5) (λg hg=>by cases hg) (by decide) (by decide)).keep a1 aj (by decide) (by decide);obtain⟨_,a5,c5,b9⟩:=Nr a7;subst b9;clear a3 a1 ai ad hrd1 e1 aj ac;go_wp2;go_roundw
     case rel=>exact⟨_,P+zi,n+1,by simp;omega,by simp;omega,⟨a5,c5,rfl⟩,by omega,aS,am,a7,aJ,aI,b4⟩
     case measure=>simp[lenOf];omega
    by_cases aD:8*s.length<P+zi+12
    ·have HN:=Jy (az.o a4 aD);clear aC az aE aB;go_wp2_with fail;refine(TX rb s (P+zi) 12 _ hs aS hrd1 (by omega) aD).mono ?_;rintro e w3 ⟨rfl,q,rfl⟩;have an:=Mk ai (Ou _ q _);go_wp2;go_ret2
     exact⟨an,.inr ⟨HN.o,rfl⟩⟩
    go_wp2_with fail;refine(Rx rb s (P+zi) 12 _ hs hrd1 (by omega) (by omega)).mono ?_;rintro e w3 ⟨rfl,ax,an⟩;have ag:=RP a3 an hrd1.LX (by decide);have ar:=ad.keep an hrd1.LX (by decide) (by decide);have ay:=Mk ai an;have aM:=ay.size;have aU:=Qb s (P+zi) 12;have ah:=Jy (aE.o a4 aD);have ao:=Jy (aB.o a4 aD);clear aC az aE aB a3 ad ai an hrd1
    generalize val s (P+zi) 12=v12 at *
    by_cases aR:n<v12+1
    ·have b3:decide ((n:Int)<(v12:Int)+1)=true:=by simp;omega
     have HN:=Jy (ah.o (by have h1:=au.o;omega));go_wp2;go_ret2
     exact⟨ay,.inr ⟨HN.o,rfl⟩⟩
    have b3:decide ((n:Int)<(v12:Int)+1)=false:=by simp;omega
    by_cases aW:size<n+(i - 253)
    ·have b0:decide ((size:Int) - (n:Int)<(i:Int) - 253)=true:=by simp;omega
     have HN:=Jy (ah.o (by have h1:=au.o;omega));go_wp2;go_ret2
     exact⟨ay,.inr ⟨HN.o,rfl⟩⟩
    have b0:decide ((size:Int) - (n:Int)<(i:Int) - 253)=false:=by simp;omega
    have am:=Jy (ao.o (by have h1:=au.o;omega));clear ah ao;go_wp2
    go_loopw [8,61] (λv x wr=>∃k:Nat,k<=i - 253/\x=.int .i64 k/\wr.ownsRow w.heap.size 5 1 v (n+k) (Lib.strCells (D9 (Li out (v12+1) k)))/\(∃a' c',v=.slice a' (n+k) c')/\Rd wr rb s (P+zi+12)/\Dc wr base db z/\w.grownBy wr (some rb)) (λ_ x _=>(i - 253) - (intOf x).toNat)
    case atStart=>exact⟨0,by omega,rfl,ag,⟨_,_,rfl⟩,ax,ar,ay⟩
    clear ag ax ar ay aM;obtain⟨k,hk,rfl,a2,⟨ak,ck,rfl⟩,aa,hdc,hg⟩:=hrel;have b8:=hg.size;by_cases bg:k<i - 253
    ·have aN:(k:Int)<(i:Int) - 253:=by omega
     obtain⟨g,bc,hv,af⟩:=fp a2 (by omega);simp at hv;obtain⟨rfl,rfl⟩:=hv;have av:=(Nr a2).1;have aY:=af (n+k - (v12+1)) (by omega);obtain⟨x,hx⟩:=Jq ((Li out (v12+1) k).getD (n+k - (v12+1)) 0);rw[<-hx]at aY;have Hx:Hid (Li out (v12+1) k++[x]=Li out (v12+1) (k+1)):=by
      show _=Li out (v12+1) k++[_];rw[av,hx]
     have aZ:=x.toNat_lt;clear hx af av;go_wp2_with (at_builtin;refine Ar _ rfl (.tmp 63) (.tmp 71) 111 rfl w.heap.size 5 i0 (.int .u8 0) 1 1 underlying111 hi aG aO aF rfl (by decide) _ _ _ rfl (a2.alloc _) ⟨wr.heap.size,0,none⟩ 1 1 [.int .u8 x.toNat] rfl rfl ?d1 ?d2 ?d3 ?d4 ?d5 ?_)
     case d1=>exact Bg _ _ _
     case d2=>intro u hu;simp at hu;subst hu;rfl
     case d3=>unfold maxLen;omega
     case d4=>omega
     case d5=>simp;omega
     intro v6 w6 a8 a1 _;rw[XJ,Hx.o]at a8;have aj:=UL (a2.alloc (.cells #[.int .u8 x.toNat] 5));have ac:=BV wr (.cells #[.int .u8 x.toNat] 5) none;have b7:=Si (Si hg ac (λg hg=>by cases hg)) a1 (λg hg=>(a2.lt g hg).1);have aK:=(aa.keep ac (tr:=5) (λg hg=>by cases hg) (by decide)).keep a1 aj (by decide);have aH:=(hdc.keep ac (tr:=5) (λg hg=>by cases hg) (by decide) (by decide)).keep a1 aj (by decide) (by decide);obtain⟨_,a6,c6,b6⟩:=Nr a8;subst b6;clear a2 a1 hg hdc aa aj ac aY;go_wp2;go_roundw
     case rel=>exact⟨k+1,by omega,by go_num,a8,⟨a6,c6,rfl⟩,aK,aH,b7⟩
     case measure=>simp[intOf];omega
    have aN:¬(k:Int)<(i:Int) - 253:=by omega
    have aQ:k=i - 253:=by omega
    have Hk:=Jy aQ;clear aQ;go_wp2;go_roundw
    case rel =>
     have hl:=(Nr a2).1;exact⟨Li out (v12+1) k,P+zi+12,n+k,by omega,by omega,⟨ak,ck,rfl⟩,by omega,by omega,by rw[Hk.o];exact am,a2,aa,hdc,hg⟩
    case measure=>simp[lenOf];omega
   have HN:=Jy (jJ Hd.o a9.o (Xz s z P 288 hnone));go_wp2;go_ret2
   exact⟨ai,.inr ⟨HN.o,rfl⟩⟩
  have HN:=Jy (fq Hd.o (by have h1:=au.o;omega));go_wp2;go_ret2
  exact⟨hg,.inl ⟨out,P,_,_,_,HN.o,hP,rfl,a2,aa⟩⟩
theorem ll(a:Option Addr)(c:Nat)(z:Nat->Int)(w:D7)(hz:IntsIn w a 288 z) :
 Calls prog 259 #[.slice a 288 c] w λe w'=>w'=w/\((Fits z 288/\e=.returned (.int .i64 0))\/(¬Fits z 288/\∃er:Int,(er != 0)=true/\e=.returned (.int .i64 er))):=by
 rcases gr z 288 with h | ⟨q,hq,hb,hg⟩
 ·by_cases hs:4096<sumTo z 288
  ·refine(XE a 288 c z w (by omega) hz h).mono λe w' ⟨he,hw⟩=>⟨hw,.inr ⟨λhf=>by have:=hf.sum;omega,2,by decide,?_⟩⟩
   rw[he,AE hs]
  refine(XE a 288 c z w (by omega) hz h).mono λe w' ⟨he,hw⟩=>⟨hw,.inl ⟨⟨h,by omega⟩,?_⟩⟩
  rw[he,AC hs]
 exact(mA a 288 c z w (by omega) hz q hq hb hg).mono λe w' ⟨he,hw⟩=>⟨hw,.inr ⟨λhf=>hb (hf.QW q hq),1,by decide,he⟩⟩
def Ma:Option D8->Ending
 | none=>.returned (.tuple #[.string ⟨#[]⟩,.bool false])
 | some l=>.returned (.tuple #[.string (D9 l),.bool true])
theorem Wx(x y:Int)(hx0:0<=x)(hx1:x<4611686018427387904)(hy0:0<=y)(hy1:y<256)(hx:x%256=0):bits .or .i64 x y=x+y:=
 bits_join .i64 62 (by decide) (λn h0 h1=>by rw[Av];omega) 8 x y hx0 (by simpa using hx) (by omega) hy0 (by omega) (by omega)
theorem Zy(r:D8)(hr:¬r.length<2):∃t,t=D9 r/\t.size=r.length/\(∀h:0<t.size,(t[0]'h).toNat=(r.getD 0 0).toNat) /\
 (∀h:1<t.size,(t[1]'h).toNat=(r.getD 1 0).toNat)/\t.extract 2 t.size=D9 (r.drop 2):=by
 refine⟨_,rfl,by rw[Dd],λh=>by rw[MP],λh=>by rw[MP],?_⟩;rw[Jb,Dd]
 congr 1
 apply AT
 simp
theorem qA(r:D8)(w:D7)(hr:r.length<2):Calls prog 206 #[.string (D9 r)] w λe w'=>e=Ma none/\w'=w:=by
 have a0:(D9 r).size<2:=by rw[Dd];exact hr
 go_enter func206,ntmps206
 go_wp2;go_ret2
 exact⟨rfl,rfl⟩
theorem pf(r:D8)(w:D7)(hr:¬r.length<2)(hr2:r.length<=140737488351232)(h:256*(r.getD 0 0).toNat+(r.getD 1 0).toNat<1\/4000<256*(r.getD 0 0).toNat+(r.getD 1 0).toNat) :
 Calls prog 206 #[.string (D9 r)] w λe w'=>e=Ma none/\∃q,w'=w.drewN q:=by
 obtain⟨t,ht,hs,a1,a0,_⟩:=Zy r hr;have a3:1<t.size:=by omega
 have a2:0<t.size:=by omega
 have a7:t.size<=140737488351232:=by omega
 have a1:=a1 a2;have a0:=a0 a3;rw[<-ht];clear ht hs;have a8:=(r.getD 0 0).toNat_lt;have a6:=(r.getD 1 0).toNat_lt
 generalize (r.getD 0 0).toNat=x1 at *
 generalize (r.getD 1 0).toNat=x2 at *
 have a4:(0:Int)<(t.size:Int):=by omega
 have a5:(1:Int)<(t.size:Int):=by omega
 have a9:bits BinOp.or IntKind.i64 ((x1:Int)*256) (x2:Int)=(x1:Int)*256+(x2:Int):=Wx _ _ (by omega) (by omega) (by omega) (by omega) (by omega);by_cases hd:256*x1+x2<1
 ·go_enter func206,ntmps206
  go_wp2
  go_quiet (fail)
  go_wp2;go_ret2
  exact⟨rfl,_,rfl⟩
 have h':4000<256*x1+x2:=by omega
 clear h;go_enter func206,ntmps206
 go_wp2
 go_quiet (fail)
 go_wp2;go_ret2
 exact⟨rfl,_,rfl⟩
theorem Qk{w w':D7}{B rb:Nat}(h:w.grownBy w' (some rb))(hB:B<=w.heap.size)(hr:B<=rb):Below B w w':=
 (AM B w).grown h hB (λk hk=>by simp at hk;omega)
theorem Rd.below{w w':D7}{rb:Nat}{s:D8}{pos:Nat}(h:Rd w rb s pos)(hb:Below w.heap.size w w'):Rd w' rb s pos:=(hb.block rb h.lt).trans h
theorem XU{w:D7}{base:Nat}{v:Value}{n:Nat}{l:D8}(h:w.ownsRow base 5 1 v n (Lib.strCells (D9 l)))(t:ByteArray)(ht:t=D9 l):(convert 111 9 v).run prog w=.ok (.string t) w:=by rw[ht];exact GY h
theorem po(r:D8)(w:D7)(hr:¬r.length<2)(hr2:r.length<=140737488351232)(size:Nat)(hsize:256*(r.getD 0 0).toNat+(r.getD 1 0).toNat=size)(h1:1<=size)(h4:size<=4000) :
 Calls prog 206 #[.string (D9 r)] w λe w'=>e=Ma (GL (r.drop 2) 288 size)/\Below w.heap.size w w':=by
 obtain⟨t,ht,hs,aw,az,ay⟩:=Zy r hr;have aI:1<t.size:=by omega
 have aH:0<t.size:=by omega
 have aN:t.size<=140737488351232:=by omega
 have aw:=aw aH;have az:=az aI;rw[<-ht];have aa:(r.drop 2).length<=140737488351232:=by simp;omega
 have aE:=Jy ay;clear ht hs ay;have aO:=(r.getD 0 0).toNat_lt;have aM:=(r.getD 1 0).toNat_lt
 generalize (r.getD 0 0).toNat=x1 at *
 generalize (r.getD 1 0).toNat=x2 at *
 generalize r.drop 2=s at *
 have aF:(0:Int)<(t.size:Int):=by omega
 have aG:(1:Int)<(t.size:Int):=by omega
 have aL:bits BinOp.or IntKind.i64 ((x1:Int)*256) (x2:Int)=(size:Int):=by
  rw[Wx _ _ (by omega) (by omega) (by omega) (by omega) (by omega)];omega
 clear hsize;obtain⟨R,hR⟩:∃R,EZ s 288 0 0 (λ_=>0)=R:=⟨_,rfl⟩;have HR:=Jy hR;clear hR;go_enter func206,ntmps206
 go_wp2
 go_quiet (fail)
 go_wp2_with fail;rw[aE.o];have ax:∀q,Rd ((w.alloc (.cells #[.string (D9 s),.int .i64 0] 295)).drewN q) w.heap.size s 0:=λq=>by
  have h:Rd (w.alloc (.cells #[.string (D9 s),.int .i64 0] 295)) w.heap.size s 0:=AQ w _;exact h.drewN q
 have aB:∀q,Below w.heap.size w ((w.alloc (.cells #[.string (D9 s),.int .i64 0] 295)).drewN q):=λq=>below_drewN ((AM _ _).alloc (AB _) _) q
 refine(sN w.heap.size s _ aa (ax _) R HR.o).mono ?_;rintro e w1 ⟨ah,a6⟩;have af:Below w.heap.size w w1:=(aB _).trans (Qk ah (by simp) (AB _));have ai:=ah.size;simp at ai;clear ah aB ax;rcases a6 with⟨z,pos,hRz,hpos,rfl,hrow1,hrd1⟩ | ⟨hRn,rfl⟩
 ·rw[hRz]at HR;clear hRz R;simp only[World.heap_drewN,BF]at hrow1 ⊢;have au:=Yc hrow1;go_wp2_with fail;refine(ll _ _ z w1 au).mono ?_;rintro e w2 ⟨rfl,aj⟩;rcases aj with⟨hf,rfl⟩ | ⟨hnf,er,her,rfl⟩
  ·go_wp2_with fail;refine(qB _ _ z w2 au).mono ?_;rintro e w3 ⟨rfl,ao,a9⟩;have ac:=hrd1.below ao;have aA:Below w.heap.size w w3:=af.trans (ao.mono (by omega));have aD:=aA.size;have ae:=Jy ((Vd z 288).2 hf);obtain⟨RD,am⟩:∃R,EX s z 288 size size [] pos=R:=⟨_,rfl⟩;have av:=Jy am;clear ao af hrd1 hrow1 au;go_wp2_with fail;refine(kI w.heap.size _ _ z s pos size w3 aa hf ac hpos a9 h1 h4 RD am).mono ?_;rintro e w4 ⟨aC,a6⟩;have ad:Below w.heap.size w w4:=aA.trans (Qk aC aD (AB _));have ag:=ad.size;clear aC a9 ac am hf;rcases a6 with⟨out,p,a4,c4,n4,hRDs,hp,rfl,hown4,hrd4⟩ | ⟨hRDn,rfl⟩
   ·have a1:=Jy (Yv s 288 size z _ _ _ HR.o ae.o (av.o.trans hRDs));clear hRDs;by_cases h8:8*s.length - p<8
    ·by_cases a7:val s p (8*s.length - p)=0
     ·have Hb:=Jy (a1.o.trans (AE ⟨h8,a7⟩));have a0:=Xs w.heap.size s p w4 aa hrd4 hp h8;rw[show decide (val s p (8*s.length - p)=0)=true by simpa using a7]at a0;have a2:=Jy a0;clear a0 a7;go_wp2_with fail;refine a2.o.mono ?_;rintro e w5 ⟨rfl,a5⟩;have a8:Below w.heap.size w w5:=ad.trans (Qk a5 ag (AB _));have a3:=RP hown4 a5 hrd4.LX (by decide);obtain⟨ar,an⟩:=Jq (D9 out);have aK:=XU a3 ar an;have aJ:=Jy an;clear an hown4 a3 a5 hrd4;go_wp2;go_ret2
      refine⟨?_,a8⟩;rw[Hb.o];show _=Ending.returned (.tuple #[.string (D9 out),.bool true]);rw[<-aJ.o];rfl
     have Hb:=Jy (a1.o.trans (AC (λh=>a7 h.2)));have a0:=Xs w.heap.size s p w4 aa hrd4 hp h8;rw[show decide (val s p (8*s.length - p)=0)=false by simpa using a7]at a0;have a2:=Jy a0;clear a0 a7;go_wp2_with fail;refine a2.o.mono ?_;rintro e w5 ⟨rfl,a5⟩;have a8:Below w.heap.size w w5:=ad.trans (Qk a5 ag (AB _));go_wp2;go_ret2
     refine⟨?_,a8⟩;rw[Hb.o];rfl
    have Hb:=Jy (a1.o.trans (AC (λh=>h8 h.1)));go_wp2_with fail;refine(p7 w.heap.size s p w4 aa hrd4 hp h8).mono ?_;rintro e w5 ⟨rfl,a5⟩;have a8:Below w.heap.size w w5:=ad.trans (Qk a5 ag (AB _));go_wp2;go_ret2
    refine⟨?_,a8⟩;rw[Hb.o];rfl
   have Hb:=Jy (rY s 288 size z _ HR.o ae.o (av.o.trans hRDn));clear hRDn;go_wp2;go_ret2
   refine⟨?_,ad⟩;rw[Hb.o];rfl
  have ae:Hid (JO z 288=false):=by
   cases h:JO z 288 with
   | false=>rfl
   | true=>exact absurd ((Vd z 288).1 h) hnf
  have Hb:=Jy (pz s 288 size z _ HR.o ae.o);go_wp2;go_ret2
  refine⟨?_,af⟩;rw[Hb.o];rfl
 have Hb:=Jy (lV s 288 size (HR.o.trans hRn));clear hRn;go_wp2;go_ret2
 refine⟨?_,af⟩;rw[Hb.o];rfl
theorem jN(r:D8)(w:D7)(hr:r.length<=140737488351232):Calls prog 206 #[.string (D9 r)] w λe w'=>e=Ma (Gq 288 (1 :: r))/\Below w.heap.size w w':=by
 by_cases h2:r.length<2
 ·exact(qA r w h2).mono λe w' ⟨he,hw⟩=>by rw[he,hw,mc 288 r h2];exact⟨rfl,AM _ _⟩
 by_cases h3:256*(r.getD 0 0).toNat+(r.getD 1 0).toNat<1\/4000<256*(r.getD 0 0).toNat+(r.getD 1 0).toNat
 ·exact(pf r w h2 hr h3).mono λe w' ⟨he,q,hw⟩=>by rw[he,hw,mT 288 r h2 h3];exact⟨rfl,below_drewN (AM _ _) q⟩
 rw[YT 288 r h2 h3];exact po r w h2 hr _ rfl (by omega) (by omega)
end S1
end Go.Proofs.YtodmdkhdbfbfgaaGreatDoor
