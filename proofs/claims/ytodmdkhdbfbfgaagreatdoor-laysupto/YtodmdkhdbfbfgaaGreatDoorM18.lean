/- Lemmas. -/
import Derived.Laws.MakeOwn
import Derived.Test.YtodmdkhdbfbfgaaGreatDoorM17
set_option linter.unusedVariables false
set_option linter.unusedSimpArgs false
set_option maxRecDepth 100000
set_option maxHeartbeats 8000000
open Go.Proofs.Tryz
namespace Go.Proofs.YtodmdkhdbfbfgaaGreatDoor
section
open Go.RowKit Go.Nt
variable {w:D7} {B:Nat} {v:Value} {l:Bs} {u:Bs->Option Bs}
structure Fj (u:Bs->Option Bs):Prop where
 small:∀(t d:Bs),u t=some d->d.length<=4000
 pack:∀(w:D7) (d:Bs),d.length<=4000->Calls prog 131 #[.string (D9 d)] w λe w'=>∃t,e=.returned (.tuple #[.string (D9 t),.int .i64 0])/\u t=some d/\t.length<=d.length+1/\Below w.heap.size w w'
 some:∀(w:D7) (t d:Bs),t.length<=1000000->u t=some d->Calls prog 145 #[.string (D9 t)] w λe w'=>e=.returned (.tuple #[.string (D9 d),.int .i64 0])/\Below w.heap.size w w'
 none:∀(w:D7) (t:Bs),t.length<=1000000->u t=none->Calls prog 145 #[.string (D9 t)] w λe w'=>e=.returned (.tuple #[.string ⟨#[]⟩,.int .i64 2])/\Below w.heap.size w w'
def FZ(k t:Nat)(p:Bs):Bs:=enc 2 k++enc 4 t++enc 1 p.length++p
theorem Bytes.alloc(h:Bytes w B v l)(o:Obj):Bytes (w.alloc o) B v l:=World.ownsRow.alloc h o
theorem Bytes.below{w':D7}{M:Nat}(h:Bytes w B v l)(hb:Below M w w')(hM:w.heap.size<=M):Bytes w' B v l:=own_below h hb (λq hq=>AR (DV h q hq).2 hM)
theorem sD(B:Nat)(v:Value)(l:Bs)(x:It)(w:D7)(hB:B<=w.heap.size)(hv:Bytes w B v l)(hl:l.length<=900000)(hf:Fit x)(hd:x.dir=true) :
 Calls prog 79 #[v,JB x] w λe w'=>∃v' a,e=.returned v'/\Fv u x a/\Bytes w' B v' (l++a)/\Below B w w'/\Gc 5 w w':=by
 obtain⟨i0,hi,aE,aP,aD⟩:=Ai Fz;obtain⟨m0,m1,t0,t1,hp,aV,he⟩:=hf;obtain⟨p,d,dt,m,t⟩:=x;simp only at *;subst hd;obtain rfl:=he rfl;obtain⟨M,rfl⟩:=Ay m0;obtain⟨T,rfl⟩:=Ay t0;have aU:=Tw M m0 m1;unfold JB;obtain⟨X,hX⟩:=Jq (D9 p);have Sx:X.size=p.length:=by rw[hX,Dd]
 have HX:=Jy hX;have HS:=Jy Sx;have aW:X.size<=255:=by omega
 clear Sx;simp only;rw[<-hX];obtain⟨Wb,a4⟩:=Jq (w.alloc (.cells #[.string X,.bool true,.string (D9 []),.int .i64 M,.int .i64 T] 39));have ay:=K5 a4;have a8:Below B w Wb:=by rw[a4];exact(AM _ w).alloc hB _
 have a2:Gc 5 w Wb:=by rw[a4];exact(Gc.refl _ w).alloc _
 have a6:Bytes Wb B v l:=by rw[a4];exact hv.alloc _
 have A1:=Jy (Pa B v l 2 (M+32768) Wb (by have:=a8.size;omega) a6 (by decide) (by omega) (by omega));have aN:=Jy a4;have aR:=Jy ay;have aG:=Jy a8;have a7:=Jy a2;have aI:=a8.size;clear hX ay a8 a2 a6 hv he a4;go_enter func79,ntmps79
 go_wp2_with fail;rw[<-aN.o];refine A1.o.mono ?_;rintro e w1 ⟨v1,rfl,a6,aa,af⟩;have ai:=af.cells aR.o (by decide);have aB:=Dv 4 ai;have A2:=Jy (Pa B v1 _ 4 T w1 (by have:=aa.size;omega) a6 (by decide) (by rw[AN,IE];omega) (by omega));have az:=Jy ai;have av:=Jy (aG.o.trans aa);have au:=Jy (a7.o.trans af);have aK:=aa.size;clear A1 ai aa af a6;go_wp2_with fail;refine A2.o.mono ?_;rintro e w2 ⟨v2,rfl,aw,a9,ac⟩;have ae:=ac.cells az.o (by decide);have aF:=Dv 0 ae;have A3:=Jy (Pa B v2 _ 1 X.size w2 (by have:=a9.size;omega) aw (by decide) (by rw[AN,AN,IE,IE];omega) (by omega));have am:=Jy ae;have ao:=Jy (av.o.trans a9);have ax:=Jy (au.o.trans ac);have aL:=a9.size;clear A2 ae a9 ac aw aB az av au
 go_wp2_with fail;refine A3.o.mono ?_;rintro e w3 ⟨v3,rfl,a5,ah,ag⟩;have ad:=ag.cells am.o (by decide);have aC:=Dv 0 ad;obtain⟨a3,aS,rfl⟩:=a5.slice;obtain⟨L,hL⟩:=Jq ((l++enc 2 (M+32768)++enc 4 T++enc 1 X.size).length);have aX:L<=900007:=by rw[hL];simp[IE];omega
 have Ho:Hid (w3.ownsRow B 5 1 (.slice a3 L aS) L (bv (l++enc 2 (M+32768)++enc 4 T++enc 1 X.size))):=Jy (by unfold Bytes at a5;rw[<-hL]at a5;exact a5);rw[<-hL];have HL:=Jy hL;have aJ:=Jy ad;have aT:=Jy (ao.o.trans ah);have aQ:=Jy (ax.o.trans ag);have aM:=ah.size;clear A3 ad ah ag a5 aF am ao ax hL;go_wp2_with (at_builtin;refine CW _ rfl (.tmp 26) (.tmp 28) 111 9 rfl B 5 i0 underlying111 underlying9 hi aE aP aD _ _ _ rfl Ho.o X rfl ?c3 ?c4 ?c5 ?_)
 case c3=>unfold maxLen;omega
 case c4=>omega
 case c5=>omega
 intro v4 w4 a1 a0 _;have an:Below B w w4:=aT.o.grown a0 (by omega) (λq hq=>(Ho.o.lt q hq).1);have aj:Gc 5 w w4:=aQ.o.grown Ho.o a0;have ar:=(((Gc.refl 5 w3).grown Ho.o a0).cells aJ.o (by decide));have aY:=Dv 1 ar;have aA:Hid (Bytes w4 B v4 (l++FZ (M+32768) T p)):=by
  refine Jy ?_;unfold Bytes;have h1:=HX.o;have h2:=HL.o;have Sx:=HS.o;have e1:l++FZ (M+32768) T p=l++enc 2 (M+32768)++enc 4 T++enc 1 X.size++p:=by unfold FZ;rw[Sx];simp
  rw[e1,OV,AN,<-h2,<-RG p,<-h1,<-Sx];simp only[Ap];exact a1
 have aH:=Jy an;have aO:=Jy aj;clear a1 a0 an aj ar aC;go_wp2;go_ret
 refine⟨v4,FZ (M+32768) T p,rfl,?_,aA.o,aH.o,aO.o⟩;unfold Fv;rw[AE rfl];rfl
theorem qR(hP:Fj u)(B:Nat)(v:Value)(l:Bs)(x:It)(w:D7)(hB:B<=w.heap.size)(hv:Bytes w B v l)(hl:l.length<=900000)(hf:Fit x)(hd:x.dir=false) :
 Calls prog 79 #[v,JB x] w λe w'=>∃v' a,e=.returned v'/\Fv u x a/\Bytes w' B v' (l++a)/\Below B w w'/\Gc 5 w w':=by
 obtain⟨i0,hi,aE,aU,aN⟩:=Ai Fz;obtain⟨m0,m1,t0,t1,hp,bf,he⟩:=hf;obtain⟨p,d,dt,m,t⟩:=x;simp only at *;subst hd;obtain⟨M,rfl⟩:=Ay m0;obtain⟨T,rfl⟩:=Ay t0;unfold JB;obtain⟨X,hX⟩:=Jq (D9 p);have Sx:X.size=p.length:=by rw[hX,Dd]
 have HX:=Jy hX;obtain⟨Y,hY⟩:=Jq (D9 dt);have av:=Jy (λW=>hP.pack W dt bf);rw[<-hY]at av;have HS:=Jy Sx;have bF:X.size<=255:=by omega
 clear Sx;simp only;rw[<-hX,<-hY];obtain⟨Wb,a8⟩:=Jq (w.alloc (.cells #[.string X,.bool false,.string Y,.int .i64 M,.int .i64 T] 39));have aQ:=K5 a8;have ah:Below B w Wb:=by rw[a8];exact(AM _ w).alloc hB _
 have a7:Gc 5 w Wb:=by rw[a8];exact(Gc.refl _ w).alloc _
 have ad:Bytes Wb B v l:=by rw[a8];exact hv.alloc _
 have A1:=Jy (Pa B v l 2 M Wb (by have:=ah.size;omega) ad (by decide) (by omega) (by omega));have bj:=Jy a8;have bx:=Jy aQ;have aY:=Jy ah;have ae:=Jy a7;have bc:=ah.size;clear hX aQ ah a7 ad hv he a8 hY hP;go_enter func79,ntmps79
 go_wp2_with fail;rw[<-bj.o];refine A1.o.mono ?_;rintro e w1 ⟨v1,rfl,ad,ai,aw⟩;have ar:=aw.cells bx.o (by decide);have b6:=Dv 4 ar;have A2:=Jy (Pa B v1 _ 4 T w1 (by have:=ai.size;omega) ad (by decide) (by rw[AN,IE];omega) (by omega));have aS:=Jy ar;have aC:=Jy (aY.o.trans ai);have aT:=Jy (ae.o.trans aw);have bg:=ai.size;clear A1 ar ai aw ad;go_wp2_with fail;refine A2.o.mono ?_;rintro e w2 ⟨v2,rfl,aK,ag,aj⟩;have au:=aj.cells aS.o (by decide);have aX:=Dv 0 au;have A3:=Jy (Pa B v2 _ 1 X.size w2 (by have:=ag.size;omega) aK (by decide) (by rw[AN,AN,IE,IE];omega) (by omega));have aM:=Jy au;have aG:=Jy (aC.o.trans ag);have aP:=Jy (aT.o.trans aj);have bh:=ag.size;clear A2 au ag aj aK b6 aS aC aT
 go_wp2_with fail;refine A3.o.mono ?_;rintro e w3 ⟨v3,rfl,aa,aA,ao⟩;have ax:=ao.cells aM.o (by decide);have aW:=Dv 0 ax;obtain⟨a3,b8,rfl⟩:=aa.slice;obtain⟨L,hL⟩:=Jq ((l++enc 2 M++enc 4 T++enc 1 X.size).length);have bA:L<=900007:=by rw[hL];simp[IE];omega
 have Ho:Hid (w3.ownsRow B 5 1 (.slice a3 L b8) L (bv (l++enc 2 M++enc 4 T++enc 1 X.size))):=Jy (by unfold Bytes at aa;rw[<-hL]at aa;exact aa);rw[<-hL];have HL:=Jy hL;have be:=Jy ax;have bz:=Jy (aG.o.trans aA);have bm:=Jy (aP.o.trans ao);have bi:=aA.size;clear A3 ax aA ao aa aX aM aG aP hL;go_wp2_with (at_builtin;refine CW _ rfl (.tmp 26) (.tmp 28) 111 9 rfl B 5 i0 underlying111 underlying9 hi aE aU aN _ _ _ rfl Ho.o X rfl ?c3 ?c4 ?c5 ?_)
 case c3=>unfold maxLen;omega
 case c4=>omega
 case c5=>omega
 intro v4 w4 a5 a0 _;have aF:Below B w w4:=bz.o.grown a0 (by omega) (λq hq=>(Ho.o.lt q hq).1);have aL:Gc 5 w w4:=bm.o.grown Ho.o a0;have ay:=(((Gc.refl 5 w3).grown Ho.o a0).cells be.o (by decide));have bp:=Dv 1 ay;have am:Hid (Bytes w4 B v4 (l++FZ M T p)):=by
  refine Jy ?_;unfold Bytes;have h1:=HX.o;have h2:=HL.o;have Sx:=HS.o;have e1:l++FZ M T p=l++enc 2 M++enc 4 T++enc 1 X.size++p:=by unfold FZ;rw[Sx];simp
  rw[e1,OV,AN,<-h2,<-RG p,<-h1,<-Sx];simp only[Ap];exact a5
 have bu:=Dv 2 ay;have af:=Jy aF;have aV:=Jy aL;have b0:=a0.size;clear a5 a0 aF aL ay aW;go_wp2_with fail;refine(av.o w4).mono ?_;rintro e w5 ⟨t,rfl,hu,aJ,a9⟩;obtain⟨a4,b4,rfl⟩:=am.o.slice;obtain⟨J,hJ⟩:=Jq ((l++FZ M T p).length);have aR:Hid (Bytes w5 B (.slice a4 J b4) (l++FZ M T p)):=Jy (by rw[hJ];exact am.o.below a9 (AB _));have bC:J<=900270:=by rw[hJ];simp[FZ,IE];omega
 rw[<-hJ];clear hJ;obtain⟨Z,hZ⟩:=Jq (D9 t);have SZ:Z.size=t.length:=by rw[hZ,Dd]
 have A6:=Jy (Pa B _ _ 2 Z.size w5 (by have:=a9.size;have:=af.o.size;omega) aR.o (by decide) (by simp[FZ,IE];omega) (by omega));have bD:True:=trivial;rw[<-hZ];have HZ:=Jy hZ;have br:=Jy SZ;have Hu:=Jy hu;have bl:=Jy aJ;have az:=Jy (af.o.trans (a9.mono (by have:=af.o.size;omega)));have aH:=Jy (aV.o.below a9);have aZ:=a9.size;have bB:Z.size<=4001:=by omega
 clear hZ SZ hu aJ a9 am af aV bp bu av;go_wp2_with fail;refine A6.o.mono ?_;rintro e w6 ⟨v6,rfl,ac,aB,aO⟩;obtain⟨a6,b3,rfl⟩:=ac.slice;obtain⟨K,hK⟩:=Jq ((l++FZ M T p++enc 2 Z.size).length);have bE:K<=900300:=by rw[hK];simp[FZ,IE];omega
 have an:Hid (w6.ownsRow B 5 1 (.slice a6 K b3) K (bv (l++FZ M T p++enc 2 Z.size))):=Jy (by unfold Bytes at ac;rw[<-hK]at ac;exact ac);rw[<-hK];have HK:=Jy hK;have b9:=Jy (az.o.trans aB);have bs:=Jy (aH.o.trans aO);have bq:=aB.size;have b7:=az.o.size;clear hK ac aB aO az aH A6 aR;go_wp2_with (at_builtin;refine CW _ rfl (.tmp 43) (.tmp 44) 111 9 rfl B 5 i0 underlying111 underlying9 hi aE aU aN _ _ _ rfl an.o Z rfl ?c3 ?c4 ?c5 ?_)
 case c3=>unfold maxLen;omega
 case c4=>omega
 case c5=>omega
 intro v7 w7 a2 a1 _;have aI:Below B w w7:=b9.o.grown a1 (by omega) (λq hq=>(an.o.lt q hq).1);have aD:Gc 5 w w7:=bs.o.grown an.o a1;have bb:Hid (Bytes w7 B v7 (l++(FZ M T p++enc 2 t.length++t))):=by
  refine Jy ?_;unfold Bytes;have h1:=HZ.o;have h2:=HK.o;have h3:=br.o;have e1:l++(FZ M T p++enc 2 t.length++t)=l++FZ M T p++enc 2 Z.size++t:=by rw[h3];simp
  rw[e1,OV,AN,<-h2,<-RG t,<-h1,<-h3];simp only[Ap]at a2 ⊢;exact a2
 have b5:=Jy aI;have bn:=Jy aD;clear a2 a1 aI aD;go_wp2;go_ret
 refine⟨v7,FZ M T p++enc 2 t.length++t,rfl,?_,bb.o,b5.o,bn.o⟩;unfold Fv;exact⟨t,Hu.o,bl.o,rfl⟩
theorem pI(hP:Fj u)(B:Nat)(v:Value)(l:Bs)(x:It)(w:D7)(hB:B<=w.heap.size)(hv:Bytes w B v l)(hl:l.length<=900000)(hf:Fit x) :
 Calls prog 79 #[v,JB x] w λe w'=>∃v' a,e=.returned v'/\Fv u x a/\Bytes w' B v' (l++a)/\Below B w w'/\Gc 5 w w':=by
 cases hd:x.dir with
 | true=>exact sD B v l x w hB hv hl hf hd
 | false=>exact qR hP B v l x w hB hv hl hf hd
variable {n m:List Bs} {k:Nat} {x y:Bs}
theorem Un:∀a b:Bs,Op.bytesLess a b=Kj a b
 | [],[]=>rfl
 | [],_ :: _=>rfl
 | _ :: _,[]=>rfl
 | x :: a,y :: b=>by
   unfold Op.bytesLess Kj;have ih:=Un a b;by_cases h:x=y
   ·subst h;simp[ih]
   have h3:x.toNat≠y.toNat:=λe=>h (BL.1 e)
   simp[h,ih,UInt8.lt_iff_toNat_lt]
theorem XR:∀a,Kj a a=false
 | []=>rfl
 | x :: a=>by simp[Kj,XR a]
theorem fN:∀a b,Kj a b=false->Kj b a=false->a=b
 | [],[],_,_=>rfl
 | [],_ :: _,h,_=>by simp[Kj]at h
 | _ :: _,[],_,h=>by simp[Kj]at h
 | x :: a,y :: b,h,h'=>by
   unfold Kj at h h';by_cases e:x=y
   ·subst e;simp at h h';rw[fN a b h h']
   rw[AC e]at h;rw[AC (λx=>e x.symm)]at h';simp at h h';exact absurd (BL.1 (by omega)) e
theorem qp(a b:Bs)(w:D7) :
 Calls prog 172 #[.string (D9 a),.string (D9 b)] w λe w'=>e=.returned (.int .i64 (F7 a b))/\w'=w:=by
 obtain⟨A,hA⟩:∃o,o=D9 a:=⟨_,rfl⟩;obtain⟨B,hB⟩:∃o,o=D9 b:=⟨_,rfl⟩;rw[<-hA,<-hB];have HA:=Jy hA;have HB:=Jy hB;clear hA hB;go_enter func172,ntmps172
 by_cases h1:Op.bytesLess A.toList B.toList=true
 ·have HR:Hid (F7 a b = -1):=by
   show F7 a b = -1;rw[HA.o,HB.o,LC,LC,Un]at h1;simp[F7,h1]
  go_wp2;go_ret
  exact⟨KH HR.o.symm,rfl⟩
 have a0:Op.bytesLess A.toList B.toList=false:=by simpa using h1
 by_cases h2:(A.toList==B.toList)=true
 ·have HR:Hid (F7 a b=0):=by
   show F7 a b=0;rw[HA.o,HB.o,O8]at h2
   have:a=b:=by simpa using h2
   subst this;simp[F7,XR]
  go_wp2;go_ret
  exact⟨KH HR.o.symm,rfl⟩
 have a2:(A.toList==B.toList)=false:=by simpa using h2
 have HR:Hid (F7 a b=1):=by
  show F7 a b=1;rw[HA.o,HB.o,O8]at h2;rw[HA.o,HB.o,LC,LC,Un]at a0;have a1:a≠b:=by simpa using h2
  have:Kj b a=true:=by
   cases h:Kj b a with
   | true=>rfl
   | false=>exact absurd (fN a b a0 h) a1
  simp[F7,a0,this]
 go_wp2;go_ret
 exact⟨KH HR.o.symm,rfl⟩
theorem mm(hx:n[k]? = some x)(hy:m[k]? = some y)(h:F7 x y=0):FL (n.drop k) (m.drop k)=FL (n.drop (k+1)) (m.drop (k+1)):=by
 obtain⟨h1,rfl⟩:=AP.1 hx;obtain⟨h2,rfl⟩:=AP.1 hy;rw[AX h1,AX h2];simp[FL,h]
theorem nS(hx:n[k]? = some x)(hy:m[k]? = some y)(h:F7 x y≠0):FL (n.drop k) (m.drop k)=F7 x y:=by
 obtain⟨h1,rfl⟩:=AP.1 hx;obtain⟨h2,rfl⟩:=AP.1 hy;rw[AX h1,AX h2];simp[FL,h]
theorem ng(h1:k<n.length)(h2:m.length<=k):FL (n.drop k) (m.drop k)=1:=by
 rw[AX h1,CX h2];rfl
theorem qM(h1:n.length<=k)(h2:k<=m.length):FL (n.drop k) (m.drop k)=if k<m.length then -1 else 0:=by
 rw[CX h1];by_cases h:k<m.length
 ·rw[AX h,AE h];rfl
 rw[CX (by omega),AC h];rfl
theorem sc(a b:Nat)(N M c d:Nat)(n m:List Bs)(w:D7)(hN:n.length=N)(hM:m.length=M)(hN9:N<=1048577)(hM9:M<=1048577)(ha:∀k x,n[k]? = some x->w.cell? ⟨a,k,none⟩=some (.string (D9 x)))(hb:∀k x,m[k]? = some x->w.cell? ⟨b,k,none⟩=some (.string (D9 x))) :
 Calls prog 113 #[.slice (some ⟨a,0,none⟩) N c,.slice (some ⟨b,0,none⟩) M d] w λe w'=>e=.returned (.int .i64 (FL n m))/\w'=w:=by
 have Ha:=Jy ha;have Hb:=Jy hb;have HN:=Jy hN;have HM:=Jy hM;clear ha hb hN hM;go_enter func113,ntmps113
 go_wp2
 go_loopw [11] (λi wr=>∃k:Nat,k<=N/\k<=M/\i=.int .i64 k/\wr=w/\Hid (FL n m=FL (n.drop k) (m.drop k))) (λi _=>N - (intOf i).toNat)
 case atStart=>exact⟨0,AU _,AU _,rfl,rfl,Jy rfl⟩
 case round =>
  obtain⟨k,hk,a4,rfl,rfl,Hc⟩:=hrel;by_cases h1:k<N
  ·obtain⟨x,hx⟩:∃x,n[k]? = some x:=⟨_,AD (by have:=HN.o;omega)⟩;have a3:=Ha.o k x hx;have Hx:=Jy hx;by_cases h2:k<M
   ·obtain⟨y,hy⟩:∃y,m[k]? = some y:=⟨_,AD (by have:=HM.o;omega)⟩;have a2:=Hb.o k y hy;have Hy:=Jy hy;have HS:=Jy (qp x y wr);obtain⟨X,hX⟩:∃o,o=D9 x:=⟨_,rfl⟩;obtain⟨Y,hY⟩:∃o,o=D9 y:=⟨_,rfl⟩;obtain⟨z,hz⟩:∃o,o=F7 x y:=⟨_,rfl⟩;rw[<-hX,<-hY,<-hz]at HS;rw[<-hX]at a3;rw[<-hY]at a2;have Hz:=Jy hz;clear hx hy hX hY hz;by_cases h0:z=0
    ·have Hn:Hid (FL n m=FL (n.drop (k+1)) (m.drop (k+1))):=Hc.o.trans (mm Hx.o Hy.o (Hz.o.symm.trans h0));subst h0;go_wp2_with (go_at_call 172;refine Jj HS.o ?_);go_roundw
     case rel=>exact⟨k+1,by omega,by omega,by go_num,trivial,Hn⟩
     case measure=>simp[intOf];omega
    have Hn:Hid (FL n m=z):=Hc.o.trans ((nS Hx.o Hy.o (λe=>h0 (Hz.o.trans e))).trans Hz.o.symm);have a5:(z != 0)=true:=bne_iff_ne.2 h0;go_wp2_with (go_at_call 172;refine Jj HS.o ?_);go_ret
    exact⟨KH Hn.o.symm,rfl⟩
   have Hn:Hid (FL n m=1):=Hc.o.trans (ng (by have:=HN.o;omega) (by have:=HM.o;omega));clear hx;go_wp2;go_ret
   exact⟨KH Hn.o.symm,rfl⟩
  have Hn:Hid (FL n m=if k<M then -1 else 0):=Hc.o.trans (by have h3:=HN.o;have h4:=HM.o;rw[qM (by omega) (by omega),h4]);by_cases h2:N<M
  ·have a0:Hid (FL n m = -1):=by have:=Hn.o;rw[AE (by omega)]at this;exact this
   go_wp2;go_ret
   exact⟨KH a0.o.symm,rfl⟩
  have a0:Hid (FL n m=0):=by have:=Hn.o;rw[AC (by omega)]at this;exact this
  go_wp2;go_ret
  exact⟨KH a0.o.symm,rfl⟩
theorem Yp(p:Bs):(split p).length=p.count 47+1:=by
 induction p with
 | nil=>rfl
 | cons c l ih =>
   by_cases hc:c=47
   ·subst hc;rw[Ln];simp[ih]
   obtain⟨n,ns,e⟩:=M8 l;rw[Ll hc e,List.count_cons_of_ne (by simpa using hc),<-ih,e];rfl
theorem nQ(p:Bs):Lib.countB (D9 p) (D9 [47])+1=(split p).length/\Lib.splitB (D9 [47]) 0 (Lib.countB (D9 p) (D9 [47])) (D9 p)=(split p).map D9:=by
 have hc:Lib.countB (D9 p) (D9 [47])=p.count 47:=by
  show Lib.count p [47]=_;rw[Lib.count_one]
 rw[hc];have hd:(Lib.splitB (D9 [47]) 0 (p.count 47) (D9 p)).map (·.data.toList)=Lib.splitK [47] 0 (p.count 47) p:=Lib.splitB_data (D9 [47]) 0 (p.count 47) (D9 p);refine⟨(Yp p).symm,?_⟩;rw[(pieces (p.count 47) p).1 (by rw[Yp];omega)]at hd;rw[<-hd,Ch]
 have:(D9 ∘ λx:ByteArray=>x.data.toList)=id:=by funext x;exact(ZW x).symm
 rw[this,List.map_id]
def GK(p:Bs):Obj:=.cells (((split p).map D9).map Value.string).toArray 9
theorem TK(p:Bs)(w:D7)(hm:ML w)(hp:p.length<=1048576) :
 Calls prog 114 #[.string (D9 p),.string ⟨#[47]⟩] w λe w'=>e=.returned (.slice (some ⟨w.heap.size,0,none⟩) (split p).length (split p).length)/\w'=w.alloc (GK p):=by
 obtain⟨m,a0⟩:=hm;have h:=strings_Split (D9 p) (D9 [47]) m w (by rw[Dd];omega) a0 (by rw[Dd];simp);obtain⟨h1,h2⟩:=nQ p;rw[h1,h2]at h;exact h
theorem Yw(p:Bs)(w:D7):∀k x,(split p)[k]? = some x->(w.alloc (GK p)).cell? ⟨w.heap.size,k,none⟩=some (.string (D9 x)):=by
 intro k x hx;unfold GK;rw[AG _ w.heap.size k _ 9 (0,0) (AQ _ _)];simp[hx]
theorem jw(a b:Bs)(w:D7)(hm:ML w)(ha:a.length<=1048576)(hb:b.length<=1048576) :
 Calls prog 66 #[.string (D9 a),.string (D9 b)] w λe w'=>e=.returned (.int .i64 (FL (split a) (split b)))/\w'=(w.alloc (GK a)).alloc (GK b):=by
 have a2:=Yf a;have a1:=Yf b;have h1:=TK a w hm ha;have a0:ML (w.alloc (GK a)):=hm.below ((AM _ w).alloc (AB _) _) hm.lt;have h2:=TK b (w.alloc (GK a)) a0 hb;have h3:=sc w.heap.size (w.heap.size+1) (split a).length (split b).length (split a).length (split b).length (split a) (split b) ((w.alloc (GK a)).alloc (GK b)) rfl rfl (by omega) (by omega)
  (λk x hx=>by rw[World.cell?_alloc_old _ _ _ (by simp)];exact Yw a w k x hx)
  (λk x hx=>by have:=Yw b (w.alloc (GK a)) k x hx;simp only[BF]at this;exact this)
 rw[BF]at h2;have H1:=Jy h1;have H2:=Jy h2;have H3:=Jy h3;clear h1 h2 h3 a0 hm;obtain⟨A,hA⟩:∃o,o=D9 a:=⟨_,rfl⟩;obtain⟨B,hB⟩:∃o,o=D9 b:=⟨_,rfl⟩;obtain⟨N,hN⟩:∃o,o=(split a).length:=⟨_,rfl⟩;obtain⟨M,hM⟩:∃o,o=(split b).length:=⟨_,rfl⟩;obtain⟨z,hz⟩:∃o,o=FL (split a) (split b):=⟨_,rfl⟩;rw[<-hA,<-hN]at H1;rw[<-hB,<-hM]at H2;rw[<-hN,<-hM,<-hz]at H3;rw[<-hA,<-hB,<-hz];clear hA hB hN hM hz a2 a1 ha hb
 generalize GK a=Ra at *
 generalize GK b=Rb at *
 go_enter func66,ntmps66
 go_wp2_with fail;refine H1.o.mono ?_;rintro e w' ⟨rfl,hw⟩;subst hw;go_wp2_with fail;refine H2.o.mono ?_;rintro e w' ⟨rfl,hw⟩;subst hw;go_wp2_with fail;refine H3.o.mono ?_;rintro e w' ⟨rfl,hw⟩;subst hw;go_wp2;go_ret
 exact⟨rfl,rfl⟩
end
section
open Go.RowKit Go.Nt Go.Sort Go.Lib Go.Shelf
abbrev Sh:={ s:Bs // s.length<=1048576 }
instance:Inhabited Sh:=⟨⟨[],by simp⟩⟩
def Jf:Sh->Value:=λs=>encStr s.1
def Lf(a b:Sh):Int:=FL (split a.1) (split b.1)
theorem RE(a b:Sh):ltOf Lf a b=less a.1 b.1:=UX a.1 b.1
theorem qF:SWO (ltOf Lf) where
 irrefl x:=by rw[RE,VU]
 trans x y z h1 h2:=by rw[RE]at *;exact Oi _ _ _ h1 h2
 ntrans x y z h1 h2:=by
  rw[RE]at *;cases h:less x.1 z.1 with
  | false=>rfl
  | true =>
    cases h3:less y.1 x.1 with
    | true=>have:=Oi _ _ _ h3 h;rw[h2]at this;cases this
    | false=>have e:=Nz _ _ h1 h3;rw[e,h2]at h;cases h
theorem mK(x y:Sh)(h1:ltOf Lf x y=false)(h2:ltOf Lf y x=false):x=y:=by
 rw[RE]at *;exact Subtype.ext (Nz _ _ h1 h2)
theorem fH(w:D7)(b o:Nat)(d:Array Sh):putRow Jf w b o d=putRow encStr w b o (d.map (·.1)):=by
 unfold putRow
 congr 1
 funext c
 unfold putCells
 apply Array.ext
 ·simp
 intro i h1 h2;simp only[Array.getElem_mapIdx,Array.size_map]
 split
 ·rename_i h;have hi:i - o<d.size:=by omega
  rw[Bx d _ hi,Bx (d.map (·.1)) _ (by simpa using hi)];simp[Jf]
 rfl
def Fl(ss:List Bs):List Bs:=ss.mergeSort λx y => !less y x
theorem mM(ds:List Sh):(ds.mergeSort λx y => !(ltOf Lf) y x).map (·.1)=Fl (ds.map (·.1)):=by
 unfold Fl;have h:=List.map_mergeSort (f:=λs:Sh=>s.1) (r:=λx y => !(ltOf Lf) y x) (s:=λx y => !less y x) (l:=ds) (λa _ b _=>by rw[RE]);exact h
theorem iX{w:D7}(h:ML w)(hd:∀c e fr,w.heap[0]? ≠ some (.cells c e fr)\/True){g n:Nat}{d:Array Bs}{os:Array Obj}(hg:g≠0):ML (grow (putRow encStr (Sort.ahead w n) g 0 d) os):=by
 obtain⟨m,hm⟩:=h;have h0:0<w.heap.size:=Aj w _ hm;refine⟨m,?_⟩;rw[<-hm];refine AJ ?_;exact(grownBy_sorted (w:=w) (g:=g) (n:=n) (os:=os) d).block 0 h0 (λe=>hg (by cases e;rfl))
theorem jy(w:D7)(hm:ML w)(g:Nat)(hg:g≠0)(N:Nat):CmpLays1 prog 66 #[] Jf Lf g 0 N w:=by
 intro m os dk hs x y;have a0:ML (sortWorld Jf w g 0 m dk os):=by
  unfold sortWorld;rw[fH];exact iX hm (λ_ _ _=>.inr trivial) hg
 refine(jw x.1 y.1 _ a0 x.2 y.2).mono ?_;rintro e w' ⟨rfl,rfl⟩;refine⟨rfl,0,#[GK x.1,GK y.1],?_⟩;rw[alloc_eq_grow,alloc_eq_grow,grow_grow];rfl
theorem gy:∀args w,(callFunc 66 args).run prog w=.ok (.enter 66 args) w:=enters_of func66 (by kernel_rfl) rfl
theorem pd:∀args w,(callFunc 112 args).run prog w=.ok (.enter 112 args) w:=enters_of func112 (by kernel_rfl) rfl
theorem mJ(mb:Option Nat)(w:D7):Calls prog 65 #[.map mb] w λe w'=>e=.returned (.func (.func 112) #[] #[.pointer (some ⟨w.heap.size,0,none⟩)])/\w'=w.alloc (.cells #[.map mb] 77):=
 (BP (n:=6)).1 (AnyZ.keys_in PE Fence.wide 6 trivial rfl mb w)
theorem gB(b Bm:Nat)(l:List It)(w:D7)(hT:Dk w b l)(hn:(l.map (·.path)).Nodup)(hl:l.length<=1000)(hBm:Bm<w.heap.size)(hm:w.cell? ⟨Bm,0,none⟩=some (.map (some b))) :
 Calls prog 110 #[.func (.func 112) #[] #[.pointer (some ⟨Bm,0,none⟩)]] w λe w'=>∃(v:Value) (ss:List Bs),e=.returned v/\ss.Perm (l.map (·.path))/\w'.ownsRow w.heap.size 9 1 v ss.length (ss.map encStr)/\Below w.heap.size w w':=by
 obtain⟨D,ho,hh⟩:=hT;have a1:=Ry ho hh hn;have hk:=keys_perm ho hh hn;refine((BP (n:=6)).1 (AnyZ.collect_in MX Fence.wide 6 trivial trivial rfl (by omega) 112 #[.pointer (some ⟨Bm,0,none⟩)] trivial pd (λss=>ss.Perm (strKeys D)) (Maps.size D) (by rw[a1];unfold maxLen;omega) (by rw[a1];omega) w
  (AnyZ.keys_gives QK Fence.wide 4 trivial rfl (by omega) Bm b (Maps.size D) D w hBm hm ho))).mono ?_
 rintro e w' ⟨v,ss,rfl,hS,a0,_,hb⟩;exact⟨v,ss,rfl,hS.trans hk.symm,a0,hb⟩
def OK(ss:List Bs)(h:∀s∈ss,s.length<=1048576):List Sh:=ss.pmap Subtype.mk h
theorem nj(ss:List Bs)(h:∀s∈ss,s.length<=1048576):(OK ss h).map (·.1)=ss:=by simp[OK,List.map_pmap]
theorem Ue(ss:List Bs)(h:∀s∈ss,s.length<=1048576):(OK ss h).length=ss.length:=by simp[OK]
theorem jn{w:D7}{g:Nat}{ss:List Bs}(h:∀s∈ss,s.length<=1048576)(hH:Holds encStr w g 0 ss.toArray):Holds Jf w g 0 (OK ss h).toArray:=by
 intro j hj;have a0:j<ss.length:=by simpa[Ue]using hj
 have:=hH j (by simpa using a0)
 refine⟨this.1.trans ?_,this.2⟩;rw[Bx ss.toArray j (by simpa using a0),Bx (OK ss h).toArray j (by simpa[Ue]using a0)];simp[Jf,OK]
theorem oy(g cap:Nat)(ss:List Bs)(w:D7)(hml:ML w)(hg:g≠0)(hlt:g<w.heap.size)(h:∀s∈ss,s.length<=1048576)(hl:ss.length<=1000)(hH:Holds encStr w g 0 ss.toArray) :
 Calls prog 111 #[.slice (some ⟨g,0,none⟩) ss.length cap,.func (.func 66) #[] #[]] w λe w'=>e=.returned (.tuple #[])/\∃n os,w'=grow (putRow encStr (Sort.ahead w n) g 0 (Fl ss).toArray) os:=by
 have hd:(OK ss h).toArray.size=ss.length:=by simp[Ue]
 have:=Any.slices_SortFunc_total N9 Jf (λ_=>rfl) Lf qF 66 #[] g 0 cap (OK ss h).toArray w gy (jy w hml g hg _) (jn h hH) hlt (by rw[hd];omega) mK
 rw[hd]at this;refine this.mono ?_;rintro e w' ⟨rfl,n,os,rfl⟩;refine⟨rfl,n,os,?_⟩;unfold sortWorld;rw[fH]
 congr 2
 rw[List.map_toArray,mM,nj]
theorem pO(p:Option Addr)(cap:Nat)(fv:Value)(w:D7):Calls prog 111 #[.slice p 0 cap,fv] w λe w'=>e=.returned (.tuple #[])/\w'=w:=
 AnyF.slices_SortFunc_none (P:=prog) (ρ:=Jh) { N9 with } p cap fv w
theorem mQ(b Bm:Nat)(l:List It)(w:D7)(hT:Dk w b l)(hn:(l.map (·.path)).Nodup)(hl:l.length<=1000)(hml:ML w)(hp:∀x∈l,x.path.length<=1048576)(hBm:Bm<w.heap.size)(hm:w.cell? ⟨Bm,0,none⟩=some (.map (some b))) :
 Calls prog 64 #[.func (.func 112) #[] #[.pointer (some ⟨Bm,0,none⟩)],.func (.func 66) #[] #[]] w λe w'=>∃(v:Value),e=.returned v/\w'.ownsRow w.heap.size 9 1 v l.length ((Fl (l.map (·.path))).map encStr)/\Below w.heap.size w w':=by
 have HC:=Jy (gB b Bm l w hT hn hl hBm hm);have h0:=hml.lt;have a7:=Jy hml;have Hp:=Jy hp;clear hT hml hm hp;go_enter func64,ntmps64
 go_wp2_with fail;refine HC.o.mono ?_;rintro e W ⟨v,ss,rfl,hS,a1,hb⟩;have a0:ss.length=l.length:=by simpa using hS.length_eq
 have a2:Fl ss=Fl (l.map (·.path)):=by
  unfold Fl;refine Ci (le:=λa b:Bs=>(!less b a)=true) (λa b _ _ h1 h2 => ?_) (CE ?_ ?_ ss) (CE ?_ ?_ _) (((CI ss _).trans hS).trans (CI _ _).symm)
  ·simp at h1 h2;exact Nz a b h2 h1
  all_goals first
   | (intro a b c h1 h2
      simp at h1 h2 ⊢;cases h:less c a with
      | false=>rfl
      | true =>
        cases h3:less c b with
        | true=>rw[h2]at h3;cases h3
        | false=>have:=Nz b c (by
                    cases h4:less b c with
                    | false=>rfl
                    | true=>have:=Oi _ _ _ h4 h;rw[h1]at this;cases this) h3
                 subst this;rw[h1]at h;cases h)
   | (intro a b
      simp;cases h:less b a with
      | false=>exact .inl rfl
      | true=>exact .inr (SN h))
 have a5:∀s∈ss,s.length<=1048576:=λs hs=>by
  obtain⟨x,hx,rfl⟩:=Am.1 (hS.mem_iff.1 hs);exact Hp.o x hx
 have a4:=a7.o.below hb h0;have HS:=Jy a2;clear a2;rcases a1.2 with⟨rfl,hz⟩ | ⟨gb,cap,cur,rfl,hbase,hgb,r1,r2,r3,r4⟩
 ·have HN:=Jy (pO none 0 (.func (.func 66) #[] #[]) W);have a3:ss=[]:=Bf hz;have HF:Hid (W.ownsRow w.heap.size 9 1 (.slice none 0 0) l.length ((Fl (l.map (·.path))).map encStr)):=by
   have h:=a1;rw[a0]at h;show W.ownsRow w.heap.size 9 1 (.slice none 0 0) l.length ((Fl (l.map (·.path))).map encStr);rw[<-HS.o,a3];have e0:Fl []=[]:=by simp[Fl]
   rw[e0];rw[a3]at h;exact h
  clear a1 a0 hz a3;go_wp2_with fail;refine Jj HN.o ?_;go_wp2;go_ret
  exact⟨_,rfl,HF.o,hb⟩
 have hH:Holds encStr W gb 0 ss.toArray:=holds_of_block hgb (by simpa using r4);have a9:gb<W.heap.size:=(Az.1 hgb).1;have HN:=Jy (oy gb cap ss W a4 (by omega) a9 a5 (by omega) hH);have HF:Hid (∀n os,(grow (putRow encStr (Sort.ahead W n) gb 0 (Fl ss).toArray) os).ownsRow w.heap.size 9 1 (.slice (some ⟨gb,0,none⟩) ss.length cap) l.length ((Fl (l.map (·.path))).map encStr)):=λn os=>by
  rw[<-a0,<-HS.o];exact ownsRow_sorted (by simp[Fl]) hbase hgb r1 r2 r3
 clear a1 hH a4 a5 a0 r3 r4 hgb;go_wp2_with fail;refine HN.o.mono ?_;rintro e w' ⟨rfl,n,os,hw⟩;have HB:Hid (Below w.heap.size w w'):=by rw[hw];exact hb.grown (grownBy_sorted _) hb.size (λj hj=>by cases hj;exact hbase)
 have a6:=HF.o n os;rw[<-hw]at a6;clear hw HF HN;go_wp2;go_ret
 exact⟨_,rfl,a6,HB.o⟩
theorem jB(l:List It):(Eb l).map (·.path)=Fl (l.map (·.path)):=by
 unfold Eb Fl;exact List.map_mergeSort (f:=λx:It=>x.path) (r:=λx y:It => !less y.path x.path) (s:=λx y => !less y x) (l:=l) (λa _ b _=>rfl)
theorem KC(l:List It):(Eb l).length=l.length:=by simp[Eb]
theorem ET{l:List It}{x:It}:x∈Eb l↔x∈l:=by simp[Eb]
theorem px{w:D7}{ops:Array Oper}{rest:List Oper}{o:Oper}{a:Act}{Q:Exit->Act->D7->Prop}(hg:o.guard=none)(m:Operand)(hop:o.op=Op.call { callee:=Callee.builtin Builtin.len,args:=#[m],argTypes:=#[77] })
 (b:Nat) (l:List It) (hm:a.eval m=.map (some b)) (hT:Dk w b l) (hn:(l.map (·.path)).Nodup)
 (hK:wpList prog ops Q rest (a.put o.dst (.int .i64 l.length)) w) :
 wpList prog ops Q (o :: rest) a w:=by
 refine wpList_plain hg λK' a0 => ?_
 unfold Oper.wp;simp[execOp,hop,resolve,invoke,builtin,hm,hT.len hn o.type,Result.andThen];exact a0 _ _ hK
theorem mh{w:D7}{B gk cap n:Nat}{ps:List Bs}(h:w.ownsRow B 9 1 (.slice (some ⟨gk,0,none⟩) n cap) n (ps.map encStr)){k:Nat}{p:Bs}(hk:ps[k]? = some p):w.cell? ⟨gk,k,none⟩=some (.string (D9 p)):=by
 rcases h.2 with⟨e,_⟩ | ⟨g,cap',cur,e,_,hb,h1,h2,h3,h4⟩
 ·cases e
 cases e
 rw[AG w gk k cur 9 (0,0) hb];have a0:k<ps.length:=(AP.1 hk).1;have hl:=h.1;simp at hl;have h5:=AV (λz:List Value=>z[k]?) h4;simp only[DT]at h5;rw[Ak (by omega),BQ,hk]at h5;have h6:cur[k]? = some (encStr p):=by simpa using h5
 exact h6
theorem eU(b:Nat)(l:List It)(w:D7)(hT:Dk w b l)(hn:(l.map (·.path)).Nodup)(hl:l.length<=1000)(hml:ML w)(hp:∀x∈l,x.path.length<=1048576) :
 Calls prog 37 #[.map (some b)] w λe w'=>Below w.heap.size w w'/\∃v,e=.returned v/\w'.ownsRow w.heap.size 39 5 v l.length (E9 (Eb l)):=by
 obtain⟨i0,hi,aG,aI,aF⟩:=Ai Iw;obtain⟨w1,aN,a2,ar⟩:=run_make_own (P:=prog) w w.heap.size 26 39 i0 _ 5 underlying26 hi aG aI .i64 .i64 l.length (by rw[aF];omega) (by unfold maxLen;omega) (AB _);have ao:Below w.heap.size w w1:=(AM _ w).grown ar (AB _) (λq hq=>by cases hq);have ad:=hT.lt;have aQ:w.heap.size<w1.heap.size:=by
  rcases a2.2 with⟨e,_⟩ | ⟨g,cap,cur,e,_,hh,_⟩
  ·cases e
  cases e;exact lt_of_heap hh
 have aE:Dk (w1.alloc (.cells #[.map (some b)] 77)) b l:=(hT.below ao ad).of_block (AO w1 _ b (by omega));have af:ML (w1.alloc (.cells #[.map (some b)] 77)):=(hml.below ao hml.lt).below ((AM _ w1).alloc (AB _) _) (by omega);have HK:=Jy (mJ (some b) w1);have HS:=Jy (mQ b w1.heap.size l _ aE hn hl af hp (by simp) (by simp));have HT:=Jy hT;have Hn:=Jy hn;have Hp:=Jy hp;have aO:=Jy ar;clear hT hn hml hp aE af ar;go_enter func37,ntmps37
 go_wp2_with (first | (at_len;refine px rfl _ rfl b l rfl HT.o Hn.o ?_) | (go_at_call 65;refine HK.o.mono ?_;rintro e w' ⟨rfl,rfl⟩) | fail);refine HS.o.mono ?_;rintro e W ⟨v,rfl,ae,ai⟩;have aC:=ai.size;rw[BF]at aC ai;have aM:Hid (Below w.heap.size w W):=(ao.alloc (by omega) _).trans (ai.mono (by omega));have am:Hid (W.ownsRow w.heap.size 39 5 (.slice (some ⟨w.heap.size,0,none⟩) 0 l.length) 0 []):=own_below (a2.alloc _) ai (λq hq=>(by simpa[Value.ownBlock]using hq:w.heap.size=q) ▸ (by omega));have aa:=Jy ae;clear ae aN HK HS ai a2 aO ao;obtain⟨ak,ck,rfl,aP⟩:∃ak ck,v=.slice ak l.length ck/\Hid (l≠[]->∃gk,ak=some ⟨gk,0,none⟩/\w1.heap.size<gk/\gk<W.heap.size/\∀k x,(Eb l)[k]? = some x->W.cell? ⟨gk,k,none⟩=some (.string (D9 x.path))):=by
  rcases aa.o.2 with⟨rfl,h0⟩ | ⟨gk,cap,cur,rfl,hbase,hh,h1,h2,h3,h4⟩
  ·refine⟨none,0,by rw[h0],Jy (λaK=>absurd (Bf h0) aK)⟩
  refine⟨some ⟨gk,0,none⟩,cap,rfl,Jy (λ_=>⟨gk,rfl,by simp at hbase;omega,lt_of_heap hh,λk x hx => ?_⟩)⟩;refine mh aa.o ?_;rw[<-jB,BQ,hx];rfl
 clear aa;go_wp2
 go_loopw [3,14] (λv i wr=>∃(k:Nat) (a':Option Addr) (c':Nat),v=.slice a' k c'/\k<=l.length/\i=.int .i64 k/\Hid (wr.ownsRow w.heap.size 39 5 v k (E9 ((Eb l).take k)))/\Hid (Below w.heap.size w wr)/\Hid (∀j,w1.heap.size<j->j<W.heap.size->wr.heap[j]? = W.heap[j]?)/\Hid (v.ownBlock=some w.heap.size\/∃q,v.ownBlock=some q/\W.heap.size<=q)/\W.heap.size<=wr.heap.size) (λ_ i _=>l.length - (intOf i).toNat)
 case atStart=>exact⟨0,_,_,rfl,AU _,rfl,am,aM,Jy (λ_ _ _=>rfl),Jy (.inl rfl),AB _⟩
 case round =>
  obtain⟨k,a',c',rfl,hk,rfl,a7,Hb,a5,a8,aD⟩:=hrel;by_cases av:k<l.length
  ·obtain⟨x,hx⟩:∃x,(Eb l)[k]? = some x:=⟨_,AD (by rw[KC];exact av)⟩;have aB:x∈l:=ET.1 (Ab hx);obtain⟨gk,rfl,aA,ay,a4⟩:=aP.o (λh=>by rw[h]at av;simp at av);have a9:wr.cell? ⟨gk,k,none⟩=some (.string (D9 x.path)):=(AJ (a5.o gk aA ay)).trans (a4 k x hx);have aH:=HT.o.below Hb.o ad;have a0:=(aH.H7 (p:=x.path) (by have:=Hp.o x aB;unfold maxLen;omega) (at_mem Hn.o aB)).2;have Hx:=Jy hx;have au:=Hb.o.size;unfold JX nd at a0;simp only at a0;obtain⟨X,hX⟩:=Jq (D9 x.path);obtain⟨D,hD⟩:∃X,X=D9 x.data:=⟨_,rfl⟩;obtain⟨xd,aw⟩:∃X,X=x.dir:=⟨_,rfl⟩;rw[<-hX]at a9 a0;rw[<-hD,<-aw]at a0;have HX:=Jy hX;have HD:=Jy hD;have aL:=Jy aw;clear hx hX hD aw aH a4 aB
   go_wp2_with (at_builtin;refine wpList_append_own_at _ rfl _ _ 26 rfl w.heap.size 39 i0 _ 5 56 underlying26 hi aG aI aF rfl (by decide) _ _ _ rfl ((a7.o.alloc _).alloc _) ⟨wr.heap.size+1,0,none⟩ 1 1 (IU x) rfl ?e1 ?e2 ?e3 ?e4 ?e5 ?e6 ?_)
   case e1=>rfl
   case e2 =>
    intro j u hu;rw[addr_add];have h:=(NN (wr.alloc (.cells #[.bool xd,.string D,.int .i64 x.mode,.int .i64 x.time] 117)) x).cell hu;unfold boxed at h;rw[<-HX.o,<-HD.o,<-aL.o]at h;simpa using h
   case e3=>intro u hu;exact N3 (l:=[x]) u (by rw[OA];exact hu)
   case e4=>unfold maxLen;omega
   case e5=>omega
   case e6=>simp;omega
   intro v2 W2 a1 a6 _ ah;obtain⟨g',a3,rfl⟩:=PZ a1;have an:=(((BV wr _ (Value.slice a' k c').ownBlock).trans (BV _ _ _)).trans a6);have aj:Hid (W2.ownsRow w.heap.size 39 5 (.slice (some ⟨g',0,none⟩) (k+1) a3) (k+1) (E9 ((Eb l).take (k+1)))):=by
    show W2.ownsRow w.heap.size 39 5 (.slice (some ⟨g',0,none⟩) (k+1) a3) (k+1) (E9 ((Eb l).take (k+1)));rw[Ah,Hx.o,Oq];have e:E9 (some x).toList=IU x:=OA x;rw[e];exact a1
   have aJ:Hid (Below w.heap.size w W2):=Hb.o.grown an au (λq hq=>by
    rcases a8.o with h | ⟨q',h,h'⟩
    ·rw[h]at hq;cases hq;exact AB _
    rw[h]at hq;cases hq;omega)
   have ac:Hid (∀j,w1.heap.size<j->j<W.heap.size->W2.heap[j]? = W.heap[j]?):=λj h1 h2=>by
    rw[an.block j (by omega) (λe => ?_)]
    ·exact a5.o j h1 h2
    rcases a8.o with h | ⟨q',h,h'⟩
    ·rw[h]at e;cases e;omega
    rw[h]at e;cases e;omega
   have ag:Hid ((Value.slice (some ⟨g',0,none⟩) (k+1) a3).ownBlock=some w.heap.size\/∃q,(Value.slice (some ⟨g',0,none⟩) (k+1) a3).ownBlock=some q/\W.heap.size<=q):=by
    rcases ah with h | h
    ·rw[h];exact a8.o
    exact .inr ⟨_,h,by first | omega | (simp;omega)⟩
   have ax:W.heap.size<=W2.heap.size:=AF aD an.size;clear a1 a6 an ah a0 a9 a8 a5 a7;go_wp2;go_roundw
   case rel=>exact⟨k+1,some ⟨g',0,none⟩,a3,rfl,by omega,by go_num,aj,aJ,ac,ag,ax⟩
   case measure=>simp[intOf];omega
  have az:Hid (wr.ownsRow w.heap.size 39 5 (.slice a' k c') l.length (E9 (Eb l))):=by
   have h:=a7.o;have e:k=l.length:=by omega
   rw[e]at h ⊢;rw[AT (by rw[KC];exact AB _)]at h;exact h
  clear a7;go_wp2;go_ret
  exact⟨Hb.o,_,rfl,az.o⟩
end
section
open Go.RowKit Go.Nt
structure Ev (l:List It):Prop where
 len:l.length<=60
 ok:∀x∈l,EL x=true
 nodup:(l.map (·.path)).Nodup
 up:∀x∈l,par x.path=[]\/El l (par x.path)=true
theorem O5(l:List It):Dw l=true↔Ev l:=by
 unfold Dw;simp only[Af,BJ,BB,DH];exact⟨λ⟨⟨⟨a,b⟩,c⟩,d⟩=>⟨a,b,c,d⟩,λ⟨a,b,c,d⟩=>⟨⟨⟨a,b⟩,c⟩,d⟩⟩
def GR(l:List It)(p:Bs):Int:=if Du p then ER l p else 1
def FN(l:List It)(p:Bs):Int:=if GR l p=0 then(if(at? l p).isSome then 0 else 4)else GR l p
def Fu(l:List It)(p:Bs):Int:=if FN l p=0 then(match at? l p with | some x=>if x.dir then 6 else 0 | none=>0)else FN l p
theorem Gc.own{t e:TypeId}{a b:D7}(h:Gc t a b)(hne:e≠t){base s n:Nat}{v:Value}{xs:List Value}(ho:a.ownsRow base e s v n xs):b.ownsRow base e s v n xs:=by
 refine⟨ho.1,?_⟩;rcases ho.2 with⟨rfl,h0⟩ | ⟨g,cap,cur,rfl,h1,hh,h2⟩
 ·exact .inl ⟨rfl,h0⟩
 exact .inr ⟨g,cap,cur,rfl,h1,h.cells hh hne,h2⟩
theorem Bytes.str{w:D7}{B:Nat}{v:Value}{l:Bs}(h:Bytes w B v l):(convert 111 9 v).run prog w=.ok (.string (D9 l)) w:=S1.GY h
theorem MZ(l:List It):(Eb l).Perm l:=CI _ _
theorem gQ(l:List It)(k:Nat):FE (l.take k)<=FE l:=by
 have h:FE l=FE (l.take k)+FE (l.drop k):=by
  unfold FE;rw[<-List.sum_append,<-Aq,Ca]
 omega
theorem Zb{l:List It}(hf:∀x∈l,Fit x):FE l<=4271*l.length:=
 UU _ 4271 l (λx hx=>by have h:=hf x hx;have:=h.p;have:=h.d;omega)
theorem ja(w:D7)(n:Nat)(hn:n<=255):Bytes (w.alloc (.cells #[.int .u8 n] 5)) w.heap.size (.slice (some ⟨w.heap.size,0,none⟩) 1 1) (enc 1 n):=by
 have e:bv (enc 1 n)=[.int .u8 n]:=by
  simp only[enc,bv,BH,Bb,Ct,Bw]
  congr 2
  omega
 unfold Bytes;rw[IE,e];exact⟨rfl,.inr ⟨w.heap.size,1,#[.int .u8 n],rfl,AB _,AQ _ _,AB _,by unfold maxLen;omega,rfl,rfl⟩⟩
theorem oz{L:List It}{k:Nat}{x:It}(h:L[k]? = some x):L.take (k+1)=L.take k++[x]:=by
 rw[Ah,h];rfl
theorem kt{u:Bs->Option Bs}(hP:Fj u)(b:Nat)(l:List It)(w:D7)(hT:Dk w b l)(ht:Ev l)(hml:ML w) :
 Calls prog 43 #[.map (some b)] w λe w'=>∃t,e=.returned (.string (D9 t))/\GP u (Eb l) t/\Below w.heap.size w w':=by
 obtain⟨L,hL⟩:=Jq (Eb l);have a8:L.length=l.length:=by rw[hL];exact(MZ l).length_eq
 have a1:∀x∈L,Fit x:=λx hx=>Nw (ht.ok x ((MZ l).mem_iff.1 (hL ▸ hx)))
 have aK:=ht.len;have a7:=λW (h:Dk W b l)=>h.len ht.nodup 3
 have HI:=Jy (λW (h:Dk W b l) (hm:ML W)=>eU b l W h ht.nodup (by omega) hm (λx hx=>by have:=(Nw (ht.ok x hx)).p;omega));rw[<-hL]at HI ⊢;have a4:=Jy a8;have ai:=Jy a1;have HT:=Jy hT;have ag:=Jy hml;have a9:=a7 w hT;have Hw:=Jy (Zb a1);clear hL a1 ht a7 hT hml;go_enter func43,ntmps43
 go_wp2_with fail;have ae:=Jy (ja w l.length (by omega));obtain⟨W1,aa⟩:=Jq (w.alloc (.cells #[.int .u8 l.length] 5));rw[<-aa]at ae ⊢;have ac:Below w.heap.size w W1:=by rw[aa];exact(AM _ w).alloc (AB _) _
 have aM:W1.heap.size=w.heap.size+1:=by rw[aa];simp
 have am:=Jy ac;refine(HI.o W1 (HT.o.below ac HT.o.lt) (ag.o.below ac ag.o.lt)).mono ?_;rintro e w2 ⟨ad,v2,rfl,a0⟩;have aC:=Jy (am.o.trans (ad.mono (by omega)));have ao:Hid (Bytes w2 w.heap.size (.slice (some ⟨w.heap.size,0,none⟩) 1 1) (enc 1 l.length)):=Jy (ae.o.below ad (AB _));rw[<-a8]at a0;obtain⟨a2,c2,rfl,ah⟩:=OY a0;have af:=Jy a0;have aD:=ad.size;rw[a8]at af;clear ad a0 ah HI ae am ac aa HT ag a9;obtain⟨n,hn⟩:=Jq l.length;rw[a8];rw[<-hn]at af ao aK a4 ⊢;clear hn a8;go_wp2
 go_loopw [3,13] (λv i wr=>∃(k:Nat) (e:Bs),k<=n/\i=.int .i64 k/\Hid (Ng u (L.take k) e)/\Hid (Bytes wr w.heap.size v (enc 1 n++e))/\Hid (Below w.heap.size w wr)/\Hid (Gc 5 w2 wr)) (λ_ i _=>n - (intOf i).toNat)
 case atStart=>exact⟨0,[],AU _,rfl,Jy rfl,Jy (by simpa using ao.o),aC,Jy (Gc.refl _ _)⟩
 case round =>
  obtain⟨k,e,hk,rfl,He,HY,HB,HK⟩:=hrel;have aj:=HB.o.size;by_cases aL:k<n
  ·obtain⟨x,hx⟩:∃x,L[k]? = some x:=⟨_,AD (by have:=a4.o;omega)⟩;have av:=HK.o.own (by decide) af.o;have a6:wr.ownsRow W1.heap.size 39 5 (.slice a2 L.length c2) L.length (E9 L):=by rw[a4.o];exact av
   rcases Vm a6 with⟨_,hnil⟩ | ⟨g,cap,hsl,_,hglt,_,_,hc⟩
   ·rw[hnil]at hx;simp at hx
   cases hsl
   have hh:=hc k x hx;rw[Ao]at hh;obtain⟨x0,x1,x2,x3,x4⟩:=hh;have aI:=WX He.o;have aA:=gQ L k;have aw:=Hw.o;have ay:e.length<=300000:=by have:=a4.o;omega
   obtain⟨Wb,a5⟩:=Jq (wr.alloc (.cells #[.string (D9 x.path),.bool x.dir,.string (D9 x.data),.int .i64 x.mode,.int .i64 x.time] 39));have A:=Jy (pI hP w.heap.size _ _ x Wb (by rw[a5];simp;omega) (by rw[a5];exact HY.o.alloc _) (by rw[AN,IE];omega) (ai.o x (Ab hx)));unfold JB at A;have az:Hid (Below w.heap.size w Wb):=Jy (by rw[a5];exact HB.o.alloc aj _);have aH:Hid (Gc 5 w2 Wb):=Jy (by rw[a5];exact HK.o.alloc _);have aF:=Jy a5;have Hx:=Jy hx;clear av a6 hc hx aI aA aw a5;go_wp2_with fail;rw[<-aF.o];refine A.o.mono ?_;rintro e3 w3 ⟨v3,a3,rfl,hit,an,au,ar⟩;have aJ:=Jy (az.o.trans au);have aB:=Jy (aH.o.trans ar);have aG:=Jy an;have aE:Hid (Ng u (L.take (k+1)) (e++a3)):=Jy (by rw[oz Hx.o];exact YO He.o hit)
   clear hit an au ar A x0 x1 x2 x3 x4;go_wp2;go_roundw
   case rel=>exact⟨k+1,e++a3,by omega,by go_num,aE,Jy (by have:=aG.o;rwa[Ap]at this),aJ,aB⟩
   case measure=>simp[intOf];omega
  have ax:k=n:=by omega
  subst ax;have aN:=HY.o.str;have HR:Hid (GP u L (enc 1 k++e)):=by
   refine Jy ⟨e,?_,by rw[a4.o]⟩
   have:=He.o
   rwa[AT (by have:=a4.o;omega)]at this
  go_wp2;go_ret
  exact⟨_,rfl,HR.o,HB.o⟩
def Pp(u:Bs->Option Bs)(l:List It)(lo hi cb:Nat)(L:S1.Loc)(m:S1.M)(w:D7)(e:Ending)(w':D7):Prop:=
 (Dw l=false/\e=.returned (.int .i64 3)/\S1.CP w' lo hi cb L m/\S1.Dr lo hi w w') \/
 (Dw l=true/\∃t,GP u (Eb l) t/\e=.returned (.int .i64 (S1.EU m t).1)/\S1.CP w' lo hi cb L (S1.EU m t).2/\S1.Dr lo hi w w')
theorem Vf{u:Bs->Option Bs}(hP:Fj u)(a:Option Addr)(c:Nat)(l:List It)(w:D7)(lo hi cb:Nat)(L:S1.Loc)(m:S1.M)(hw:S1.WF m)(h:S1.CP w lo hi cb L m)(hsz:hi<=w.heap.size)(hml:ML w)(hmlo:0<lo)(hl:Dz w a l)(hn:l.length<=1048576)(hp:∀x∈l,x.path.length<=1048576)(hd:∀x∈l,x.data.length<=1048576) :
 Calls prog 16 #[.pointer (some ⟨cb,0,none⟩),.slice a l.length c] w λe w'=>Pp u l lo hi cb L m w e w':=by
 have HN:=Jy (Ii a c l w hml hl hn hp hd);have HC:=Jy h;have aa:=Jy hml;have Hw:=Jy hw;clear h hml hl hp hd hw;go_enter func16,ntmps16
 go_wp2_with fail;refine HN.o.mono ?_;rintro e W1 ⟨a1,⟨ao,rfl⟩ | ⟨a0,b,rfl,ar,hT⟩⟩
 ·have a6:=Jy (S1.Db.below HC.o hsz a1);have a7:Hid (S1.Dr lo hi w W1):=Jy (S1.Dr.of_below a1);clear a1;go_wp2_with fail;go_ret
  exact .inl ⟨ao,rfl,a6.o,a7.o⟩
 have ac:S1.CP W1 lo hi cb L m:=S1.Db.below HC.o hsz a1;have a2:=aa.o.below a1 aa.o.lt;have ag:Ev l:=(O5 l).1 a0;have HT:=Jy (kt hP b l W1 hT ag a2);have a7:Hid (S1.Dr lo hi w W1):=Jy (S1.Dr.of_below a1);have a6:=Jy ac;have ad:=Jy a1.size;have a8:=Jy a0;have a3:=Jy (oH a0);clear a1 hT ac a2 ag a0 HN;go_wp2_with fail;refine HT.o.mono ?_;rintro e W2 ⟨t,rfl,ht,a4⟩;have ae:S1.CP W2 lo hi cb L m:=S1.Db.below a6.o (by have:=ad.o;omega) a4;have am:t.length<=1000000:=by
  have h1:=VW ht;have h2:=Zb (l:=Eb l) (λx hx=>a3.o.1 x ((MZ l).mem_iff.1 hx));have h3:(Eb l).length=l.length:=(MZ l).length_eq;have h4:=a3.o.2;rw[h3]at h2
  have:4271*l.length<=4271*60:=D4 _ h4
  omega
 have HR:=Jy (S1.M7 W2 lo hi cb L m t Hw.o ae (by have:=ad.o;have:=a4.size;omega) am);rw[show S1.D9 t=D9 t from rfl]at HR;have ai:=Jy (a7.o.trans (S1.Dr.of_below a4));have Ht:=Jy ht;clear ae a4 ht HT;go_wp2_with fail;refine HR.o.mono ?_;rintro e W3 ⟨rfl,af,a9⟩;have aj:=Jy af;have ah:=Jy (ai.o.trans a9);obtain⟨er,a5⟩:=Jq ((S1.EU m t).1);rw[<-a5];have an:=Jy a5;clear af a9 HR a5;go_wp2_with fail;go_ret
 exact .inr ⟨a8.o,t,Ht.o,by rw[<-an.o];rfl,aj.o,ah.o⟩
end
end Go.Proofs.YtodmdkhdbfbfgaaGreatDoor
