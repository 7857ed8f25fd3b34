/- Lemmas. -/
import Derived.Lib.UnsafeStr
import Derived.Lib.Buffer
import Derived.Test.YtodmdkhdbfbfgaaGreatDoorRows
import Derived.SizedLaws
import Derived.ProofKit
import Derived.OpenShut
import Derived.JoinedCond
import Derived.ShutString
import Derived.ChangeOld
import Derived.Deep.Slices
import Derived.Test.YtodmdkhdbfbfgaaGreatDoorCards
import Derived.Test.YtodmdkhdbfbfgaaGreatDoorM11
set_option linter.unusedVariables false
set_option linter.unusedSimpArgs false
set_option maxRecDepth 100000
set_option maxHeartbeats 8000000
open Go.Proofs.Tryz
abbrev Go.Dg:=@Go.DataW.trod_string
namespace Go.Proofs.YtodmdkhdbfbfgaaGreatDoor
namespace Y
open Go.RowKit Pk
theorem XQ{a b c:Z}{j:Nat}{row:Option Nat}(h:a.grownBy b (some j))(k:b.grownBy c row)(l:∀g,row=some g->a.heap.size<=g):a.grownBy c (some j):=
 ⟨k.os.i h.os,k.tape.i h.tape,k.output.i h.output,AG h.size k.size,λi f d=>
  (k.u i (AQ f h.size) (λe=>by exact Dz (l i e.A))).i (h.u i f d)⟩
theorem yK(r W base:Nat)(z:Nat->Int)(s:Du)(pos b:Nat)(w:Z)(V:s.length<=140737488351232)(A:Fits z 288)(t:Rd w r s pos)(G:pos<=8*s.length)(l:Dc w base W z)(h1:1<=b)(d:b<=4000) (Q:Option (Du×Nat)) (f:FR s z 288 b b [] pos=Q):Calls prog 260 #[.c r,.c W,.a b] w λe w'=>w.grownBy w' (some r) /\ ((∃out p a c n,Q=some (out,p)/\p<=8*s.length/\e=.a (.tuple #[.slice a n c,.bool true])/\w'.ownsRow w.heap.size 5 1 (.slice a n c) n (Lib.strCells (X out))/\Rd w' r s p) \/ (Q=none/\e=.a (.tuple #[.g,.bool false]))):=by
 obtain⟨i0,hi,aH,aM,aJ⟩:=An IM;have M:Hid (JE s z b Q [] pos):=⟨by simp,G,b,by simp,f⟩;clear f;go_enter func260,ntmps260;go_wp2_with (at_make;refine wpList_make_own _ I _ _ 111 I w.heap.size 5 i0 (.f 0) 1 underlying111 hi aH aM .i64 .i64 (b:Int) b I I ?k0 ?k1 ?k2 ?k3 ?_)
 case k0=>rfl
 case k1=>rw[aJ];omega
 case k2=>unfold maxLen;omega
 case k3=>omega
 intro B m C;have y:Nb w none 295:=λg d=>by cases d
 have j:=t.d C (tr:=5) (λg d=>by cases d) EB;have o:=l.d C (tr:=5) (λg d=>by cases d) EB EB;have f:w.grownBy B (some r):=⟨C.os,C.tape,C.output,C.size,λk hk _=>C.u k hk EJ⟩;clear C t l y;go_wp2;go_loopw [8] (λv wr=>∃(out:Du) (P n:Nat),n<=out.length/\out.length<=n/\(∃C c',v=.slice C n c')/\n<=b/\P<=8*s.length/\Hid (JE s z b Q out P)/\wr.ownsRow w.heap.size 5 1 v n (Lib.strCells (X out))/\Rd wr r s P/\Dc wr base W z/\w.grownBy wr (some r)) (λv _=>4001-lenOf v)
 case atStart=>exact⟨[],pos,0,by simp,by simp,⟨_,_,I⟩,by omega,G,M,m,j,o,f⟩
 case round=>
  clear M m j o f G;obtain⟨out,P,n,_,_,⟨C,c',rfl⟩,_,hP,F,o,B,l,d⟩:=hrel;have G:out.length=n:=U;have T:=J G;have f:=d.size;clear G;by_cases f:n<b
  .have S:Hid (out.length<b):=by have h1:=T.o;show _<_;omega
   go_wp2_with fail;refine(xr r W base z s P _ V A B hP l).l ?_;rintro e t ⟨f,G⟩;have M:=U8 o f B.a EB;have ad:=l.d f B.a EB EB;have H:=PQ d f;have j:=H.size;clear o l d f B;rcases G with⟨i,K,m,rfl,f⟩|⟨L,rfl⟩
   .have G:=(Rz s z P i).1 m;have aS:P+(z i).toNat<=8*s.length:=G.2.1;have aF:=J (λh=>yg F.o S.o m h);have j:=J (λh y=>tM F.o S.o K m h y);have Q:=J (λh y A=>pJ F.o S.o K m h y A);have aD:=J (λh y A=>yV F.o S.o K m h y A);clear G m F;generalize (z i).toNat=D at *;by_cases R:i<256
    .have an:=J (aF.o R);clear aF j Q aD;go_wp2_with (at_builtin;refine Av _ I (.tmp 30) (.tmp 33) 111 I w.heap.size 5 i0 (.f 0) 1 1 underlying111 hi aH aM aJ I EB _ _ _ I (M.alloc _) ⟨t.heap.size,0,none⟩ 1 1 [.f i] I I ?c1 ?c2 ?c3 ?c4 ?c5 ?_)
     case c1=>exact B9 _ _ _
     case c2=>intro u m;simp at m;subst m;rfl
     case c3=>unfold maxLen;omega
     case c4=>omega
     case c5=>simp;omega
     intro _ _ N y _;have e1:((UInt8.ofNat i).toNat:Int)=(i:Int):=by rw[zO i R]
     rw[<-e1,jX]at N;have G:=Ye (M.alloc (.cells #[.f i] 5));have A:=BF t (.cells #[.f i] 5) none;have b8:=XQ (XQ H A (λg d=>by cases d)) y (λg d=>(M.lt g d).1);have aL:=(f.d A (tr:=5) (λg d=>by cases d) EB).d y G EB;have K:=(ad.d A (tr:=5) (λg d=>by cases d) EB EB).d y G EB EB;obtain⟨_,t,c5,b7⟩:=Qh N;subst b7;clear M y H ad f e1 G A;go_wp2;go_roundw
     case rel=>exact⟨_,P+D,n+1,by simp;omega,by simp;omega,⟨t,c5,I⟩,by omega,aS,an,N,aL,K,b8⟩
     case measure=>simp[lenOf];omega
    by_cases K:8*s.length<P+D+12
    .have t:=J (j.o R K);clear aF j Q aD;go_wp2_with fail;refine(Vu r s (P+D) 12 _ V aS f U K).l ?_;rintro e w3 ⟨rfl,q,rfl⟩;have N:=PQ H (SA _ q _);go_wp2;go_ret2;exact⟨N,.s ⟨t.o,I⟩⟩
    go_wp2_with fail;refine(VC r s (P+D) 12 _ V f U U).l ?_;rintro e w3 ⟨rfl,az,N⟩;have af:=U8 M N f.a EB;have av:=ad.d N f.a EB EB;have V:=PQ H N;have aN:=V.size;have b0:=Tq s (P+D) 12;have aj:=J (Q.o R K);have ax:=J (aD.o R K);clear aF j Q aD M ad H N f;generalize val s (P+D) 12=j at *;by_cases f:n<j+1
    .have f:decide ((n:Int)<(j:Int)+1)=true:=EL;have t:=J (aj.o (by have h1:=T.o;omega));go_wp2;go_ret2;exact⟨V,.s ⟨t.o,I⟩⟩
    have f:decide ((n:Int)<(j:Int)+1)=false:=EL;by_cases f:b<n+(i-253)
    .have f:decide ((b:Int)-(n:Int)<(i:Int)-253)=true:=EL;have t:=J (aj.o (by have h1:=T.o;omega));go_wp2;go_ret2;exact⟨V,.s ⟨t.o,I⟩⟩
    have f:decide ((b:Int)-(n:Int)<(i:Int)-253)=false:=EL;have an:=J (ax.o (by have h1:=T.o;omega));clear aj ax;go_wp2;go_loopw [8,61] (λv x wr=>∃k:Nat,k<=i-253/\x=.a k/\wr.ownsRow w.heap.size 5 1 v (n+k) (Lib.strCells (X (OA out (j+1) k)))/\(∃C c',v=.slice C (n+k) c')/\Rd wr r s (P+D+12)/\Dc wr base W z/\w.grownBy wr (some r)) (λ_ x _=>(i-253)-(intOf x).toNat)
    case atStart=>exact⟨0,by omega,I,af,⟨_,_,I⟩,az,av,V⟩
    clear af az av V aN;obtain⟨k,hk,rfl,o,⟨N,R,rfl⟩,B,l,d⟩:=hrel;have b:=d.size;by_cases b:k<i-253
    .have K:(k:Int)<(i:Int)-253:=U;obtain⟨g,_,M,f⟩:=o8 o U;simp at M;obtain⟨rfl,rfl⟩:=M;have r:=(Qh o).1;have b:=f (n+k-(j+1)) U;obtain⟨x,M⟩:=E ((OA out (j+1) k).getD (n+k-(j+1)) 0);rw[<-M]at b;have C:Hid (OA out (j+1) k++[x]=OA out (j+1) (k+1)):=by show _=OA out (j+1) k++[_];rw[r,M]
     have Q:=x.toNat_lt;clear M f r;go_wp2_with (at_builtin;refine Av _ I (.tmp 63) (.tmp 71) 111 I w.heap.size 5 i0 (.f 0) 1 1 underlying111 hi aH aM aJ I EB _ _ _ I (o.alloc _) ⟨wr.heap.size,0,none⟩ 1 1 [.f x.toNat] I I ?d1 ?d2 ?d3 ?d4 ?d5 ?_)
     case d1=>exact B9 _ _ _
     case d2=>intro u m;simp at m;subst m;rfl
     case d3=>unfold maxLen;omega
     case d4=>omega
     case d5=>simp;omega
     intro _ _ f y _;rw[jX,C.o]at f;have G:=Ye (o.alloc (.cells #[.f x.toNat] 5));have A:=BF wr (.cells #[.f x.toNat] 5) none;have Q:=XQ (XQ d A (λg d=>by cases d)) y (λg d=>(o.lt g d).1);have C:=(B.d A (tr:=5) (λg d=>by cases d) EB).d y G EB;have r:=(l.d A (tr:=5) (λg d=>by cases d) EB EB).d y G EB EB;obtain⟨_,m,c6,M⟩:=Qh f;subst M;clear o y d l B G A b;go_wp2;go_roundw
     case rel=>exact⟨k+1,by omega,by go_num,f,⟨m,c6,I⟩,C,r,Q⟩
     case measure=>simp[intOf];omega
    have K:¬(k:Int)<(i:Int)-253:=U;have G:k=i-253:=U;have b:=J G;clear G;go_wp2;go_roundw
    case rel=>have f:=(Qh o).1;exact⟨OA out (j+1) k,P+D+12,n+k,by omega,by omega,⟨N,R,I⟩,by omega,by omega,by rw[b.o];exact an,o,B,l,d⟩
    case measure=>simp[lenOf];omega
   have t:=J (vB F.o S.o (kQ s z P 288 L));go_wp2;go_ret2;exact⟨H,.s ⟨t.o,I⟩⟩
  have t:=J (qM F.o (by have h1:=T.o;omega));go_wp2;go_ret2;exact⟨d,.w ⟨out,P,_,_,_,t.o,hP,I,o,B⟩⟩
theorem vW(a:Option Addr)(c:Nat)(z:Nat->Int)(w:Z)(g:IntsIn w a 288 z):Calls prog 259 #[.slice a 288 c] w λe w'=>w'=w/\((Fits z 288/\e=.a (.a 0))\/(¬Fits z 288/\∃i:Int,(i != 0)=true/\e=.a (.a i))):=by
 rcases zI z 288 with h|⟨q,k,j,m⟩
 .by_cases l:4096<sumTo z 288
  .refine(fA a 288 c z w U g h).l λe w' ⟨b,d⟩=>⟨d,.s ⟨λf=>by have:=f.sum;omega,2,by decide,?_⟩⟩;rw[b,AD l]
  refine(fA a 288 c z w U g h).l λe w' ⟨b,d⟩=>⟨d,.w ⟨⟨h,by omega⟩,?_⟩⟩;rw[b,AC l]
 exact(pG a 288 c z w U g q k j m).l λe w' ⟨b,d⟩=>⟨d,.s ⟨λf=>j (f.UJ q k),1,by decide,b⟩⟩
def Om:Option Du->Ending
 | none=>.a (.tuple #[.string ⟨#[]⟩,.bool false])
 | some l=>.a (.tuple #[.string (X l),.bool true])
theorem j8(x y:Int)(a:0<=x)(d:x<4611686018427387904)(b:0<=y)(e:y<256)(c:x%256=0):bits .or .i64 x y=x+y:=
 bits_join .i64 62 EB (λ_ _ _=>by rw[DX];omega) 8 x y a (EU c) U b U U
theorem eF(r:Du)(a:¬r.length<2):∃t,t=X r/\t.size=r.length/\(∀h:0<t.size,(t[0]'h).toNat=(r.getD 0 0).toNat) /\ (∀h:1<t.size,(t[1]'h).toNat=(r.getD 1 0).toNat)/\t.extract 2 t.size=X (r.drop 2):=by refine⟨_,I,by rw[EF],λh=>by rw[O0],λh=>by rw[O0],?_⟩;rw[Ka,EF];congr 1;apply AT;simp
theorem qU(r:Du)(w:Z)(a:r.length<2):Calls prog 206 #[.string (X r)] w λe w'=>e=Om none/\w'=w:=by
 have b:(X r).size<2:=by rw[EF];exact a
 go_enter func206,ntmps206;go_wp2;go_ret2;exact⟨I,I⟩
theorem oc(r:Du)(w:Z)(j:¬r.length<2)(k:r.length<=140737488351232)(h:256*(r.getD 0 0).toNat+(r.getD 1 0).toNat<1\/4000<256*(r.getD 0 0).toNat+(r.getD 1 0).toNat):Calls prog 206 #[.string (X r)] w λe w'=>e=Om none/\∃q,w'=w.drewN q:=by
 obtain⟨t,f,l,c,d,_⟩:=eF r j;have i:1<t.size:=U;have g:0<t.size:=U;have o:t.size<=140737488351232:=U;have c:=c g;have d:=d i;rw[<-f];clear f l;have u:=(r.getD 0 0).toNat_lt;have p:=(r.getD 1 0).toNat_lt;generalize (r.getD 0 0).toNat=a at *;generalize (r.getD 1 0).toNat=b at *;have m:(0:Int)<(t.size:Int):=U;have n:(1:Int)<(t.size:Int):=U;have s:bits BinOp.or IntKind.i64 ((a:Int)*256) (b:Int)=(a:Int)*256+(b:Int):=j8 _ _ U U U U U;by_cases x:256*a+b<1
 .go_enter func206,ntmps206;go_wp2;go_quiet (fail);go_wp2;go_ret2;exact⟨I,_,I⟩
 have v:4000<256*a+b:=U;clear h;go_enter func206,ntmps206;go_wp2;go_quiet (fail);go_wp2;go_ret2;exact⟨I,_,I⟩
theorem V8{w w':Z}{B a:Nat}(h:w.grownBy w' (some a))(b:B<=w.heap.size)(d:B<=a):Below B w w':=
 (AP B w).C h b (λ_ c=>by simp at c;omega)
theorem Rd.f{w w':Z}{a:Nat}{s:Du}{pos:Nat}(h:Rd w a s pos)(b:Below w.heap.size w w'):Rd w' a s pos:=(b.u a h.lt).i h
theorem iD{w:Z}{base:Nat}{v:Value}{n:Nat}{l:Du}(h:w.ownsRow base 5 1 v n (Lib.strCells (X l)))(t:ByteArray)(a:t=X l):(convert 111 9 v).run prog w=.ok (.string t) w:=by rw[a];exact JR h
theorem oq(r:Du)(w:Z)(hr:¬r.length<2)(hr2:r.length<=140737488351232)(a:Nat)(m:256*(r.getD 0 0).toNat+(r.getD 1 0).toNat=a)(h1:1<=a)(h4:a<=4000):Calls prog 206 #[.string (X r)] w λe w'=>e=Om (Iu (r.drop 2) 288 a)/\Below w.heap.size w w':=by
 obtain⟨t,ht,hs,aC,ay,ax⟩:=eF r hr;have aG:1<t.size:=U;have aH:0<t.size:=U;have aL:t.size<=140737488351232:=U;have aC:=aC aH;have ay:=ay aG;rw[<-ht];have x:(r.drop 2).length<=140737488351232:=EL;have aK:=J ax;clear ht hs ax;have aM:=(r.getD 0 0).toNat_lt;have aP:=(r.getD 1 0).toNat_lt;generalize (r.getD 0 0).toNat=x1 at *;generalize (r.getD 1 0).toNat=x2 at *;generalize r.drop 2=s at *;have aE:(0:Int)<(t.size:Int):=U;have aF:(1:Int)<(t.size:Int):=U;have aN:bits BinOp.or IntKind.i64 ((x1:Int)*256) (x2:Int)=(a:Int):=by rw[j8 _ _ U U U U U];omega
 clear m;obtain⟨R,hR⟩:∃R,FX s 288 0 0 (λ_=>0)=R:=⟨_,I⟩;have n:=J hR;clear hR;go_enter func206,ntmps206;go_wp2;go_quiet (fail);go_wp2_with fail;rw[aK.o];have aA:∀q,Rd ((w.a #[.string (X s),.a 0] 295).drewN q) w.s s 0:=λq=>by have h:Rd (w.a #[.string (X s),.a 0] 295) w.s s 0:=AR w _;exact h.drewN q
 have aw:∀q,w.b ((w.a #[.string (X s),.a 0] 295).drewN q):=λq=>below_drewN (Iy) q;refine(yb w.s s _ x (aA _) R n.o).l ?_;rintro e w1 ⟨V,N⟩;have H:w.b w1:=(aw _).i (V8 V EJ (AB _));have an:=V.size;simp at an;clear V aw aA;rcases N with⟨z,pos,B,C,rfl,c,j⟩|⟨A,rfl⟩
 .rw[B]at n;clear B R;simp only[World.heap_drewN,BM]at c |-;have T:=iZ c;go_wp2_with fail;refine(vW _ _ z w1 T).l ?_;rintro e w2 ⟨rfl,ah⟩;rcases ah with⟨hf,rfl⟩|⟨hnf,_,_,rfl⟩
  .go_wp2_with fail;refine(tY _ _ z w2 T).l ?_;rintro e w3 ⟨rfl,S,a9⟩;have ae:=j.f S;have az:w.b w3:=H.i (S.b);have aJ:=az.size;have G:=J ((Z4 z 288).2 hf);obtain⟨RD,Q⟩:∃R,FR s z 288 a a [] pos=R:=⟨_,I⟩;have aB:=J Q;clear S H j c T;go_wp2_with fail;refine(yK w.s _ _ z s pos a w3 x hf ae C a9 h1 h4 RD Q).l ?_;rintro e K ⟨aD,N⟩;have u:w.b K:=az.i (V8 aD aJ (AB _));have P:=u.size;clear aD a9 ae Q hf;rcases N with⟨D,p,_,c4,_,i,hp,rfl,f,b⟩|⟨g,rfl⟩
   .have M:=J (gS s 288 a z _ _ _ n.o G.o (aB.o.i i));clear i;by_cases y:8*s.length-p<8
    .by_cases o:val s p (8*s.length-p)=0
     .have d:=J (M.o.i (AD ⟨y,o⟩));have k:=lN w.s s p K x b hp y;rw[show decide (val s p (8*s.length-p)=0)=true by simpa using o]at k;have L:=J k;clear k o;go_wp2_with fail;refine L.o.l ?_;rintro e F ⟨rfl,l⟩;have v:w.b F:=u.i (V8 l P (AB _));have a5:=U8 f l b.a EB;obtain⟨am,W⟩:=E (X D);have aO:=iD a5 am W;have aI:=J W;clear W f a5 l b;go_wp2;go_ret2;refine⟨?_,v⟩;rw[d.o];show _=Ending.returned (.tuple #[.string (X D),.bool true]);rw[<-aI.o];rfl
     have d:=J (M.o.i (AC (λh=>o h.2)));have k:=lN w.s s p K x b hp y;rw[show decide (val s p (8*s.length-p)=0)=false by simpa using o]at k;have L:=J k;clear k o;go_wp2_with fail;refine L.o.l ?_;rintro e F ⟨rfl,l⟩;have v:w.b F:=u.i (V8 l P (AB _));go_wp2;go_ret2;refine⟨?_,v⟩;rw[d.o];rfl
    have d:=J (M.o.i (AC (λh=>y h.1)));go_wp2_with fail;refine(qE w.s s p K x b hp y).l ?_;rintro e F ⟨rfl,l⟩;have v:w.b F:=u.i (V8 l P (AB _));go_wp2;go_ret2;refine⟨?_,v⟩;rw[d.o];rfl
   have d:=J (tW s 288 a z _ n.o G.o (aB.o.i g));clear g;go_wp2;go_ret2;refine⟨?_,u⟩;rw[d.o];rfl
  have G:Hid (LN z 288=false):=by
   cases h:LN z 288 with
   |false=>rfl
   |true=>exact absurd ((Z4 z 288).1 h) hnf
  have d:=J (tC s 288 a z _ n.o G.o);go_wp2;go_ret2;refine⟨?_,H⟩;rw[d.o];rfl
 have d:=J (uA s 288 a (n.o.i A));clear A;go_wp2;go_ret2;refine⟨?_,H⟩;rw[d.o];rfl
theorem pF(r:Du)(w:Z)(f:r.length<=140737488351232):Calls prog 206 #[.string (X r)] w λe w'=>e=Om (Jd 288 (1::r))/\Below w.heap.size w w':=by
 by_cases a:r.length<2
 .exact(qU r w a).l λe w' ⟨c,d⟩=>by rw[c,d,yG 288 r a];exact⟨I,AP _ _⟩
 by_cases b:256*(r.getD 0 0).toNat+(r.getD 1 0).toNat<1\/4000<256*(r.getD 0 0).toNat+(r.getD 1 0).toNat
 .exact(oc r w a f b).l λe w' ⟨c,q,d⟩=>by rw[c,d,oJ 288 r a b];exact⟨I,below_drewN (AP _ _) q⟩
 rw[kV 288 r a b];exact oq r w a f _ I U U
variable {d c c':Du} {ln:Nat->Nat} {l:List (Nat×Nat)} {p1 k pos:Nat}
def XY(d:Du)(w:Z)(e:Ending)(w':Z):Prop:=∃T,e=.a (.string (X T))/\Jd 288 T=some d/\T.length<=50000/\(∀c,(∀i,i<d.length->(d.getD i 0).toNat=c)->T.length<=40+d.length/16)/\Below w.heap.size w w'
theorem qi(s:Nat×Nat)(h:s.1<256\/254<=s.1):1<=Pk.JO s:=by unfold Pk.JO;split<;>omega
theorem ZG(l:List (Nat×Nat))(k:Nat)(b:k<=l.length):k<=Jz l k:=by
 induction k with
 |zero=>omega
 |succ k a=>rw[Zn l k U];have:=qi (l.getD k (0,0)) U;exact Dz (a U)
theorem eA(f:(Nat×Nat)->Nat)(l:List (Nat×Nat))(k:Nat)(h:k<l.length):Eu f (l.take (k+1))=Eu f (l.take k)+f (l.getD k (0,0)):=by rw[Al,AE h,Rf,AI,AE h];simp[Eu]
theorem tm(l:List (Nat×Nat))(k:Nat)(h:k<l.length):l.getD k (0,0)∈l:=by rw[AI,AE h];exact Bn h
structure WS (d:Du) (ln:Nat->Nat) (l:List (Nat×Nat)) (p1:Nat) (c:Du) (k pos:Nat):Prop where
 ps:pos=p1+Eu (Mg ln) (l.take k)
 rd:∀f,Ag c f pos->FR (f.drop 3) (λi=>(ln i:Int)) 288 d.length d.length [] (p1-24)=FR (f.drop 3) (λi=>(ln i:Int)) 288 d.length (d.length-k) (d.take (Jz l k)) (pos-24)
theorem WS.init(d:Du)(a:Nat->Nat)(l:List (Nat×Nat))(p1:Nat)(c:Du):WS d a l p1 c 0 p1:=⟨by simp[Eu],λf _=>by simp[Jz,Eu]⟩
theorem WS.byte(h:WS d ln l p1 c k pos)(b:k<l.length)(o:24<=p1)(e:P9 d l d.length)(a:(l.getD k (0,0)).1<256)(r:1<=ln (l.getD k (0,0)).1) (t:Wr c' (pos+ln (l.getD k (0,0)).1)) (p:Ag c c' pos) (s:val c' pos (ln (l.getD k (0,0)).1)=num (λi=>(ln i:Int)) 288 (l.getD k (0,0)).1):WS d ln l p1 c' (k+1) (pos+ln (l.getD k (0,0)).1):=by
 have n:=h.ps;have g:=e.ok k b;have u:=ZG l k U;have j:Pk.JO (l.getD k (0,0))=1:=by unfold Pk.JO;rw[AD a]
 have m:=g.fit;rw[j]at m;refine⟨?_,?_⟩
 .rw[eA _ l k b,n];unfold Mg;rw[AD a];omega
 rw[Zn l k b,j];have:=sG (b:=c) (b':=c') (z:=λi=>(ln i:Int)) (d:=d) (a:=Jz l k) (pos:=pos) (F:=d.length-(k+1)) (i:=(l.getD k (0,0)).1) U a U U (g.byte a) (EU t.h) (EU s) p (λf=>FR (f.drop 3) (λi=>(ln i:Int)) 288 d.length d.length [] (p1-24)) (by intro f q;rw[show d.length-(k+1)+1=d.length-k by omega];exact h.rd f q)
 simpa using this
theorem WS.copy(h:WS d ln l p1 c k pos)(e:k<l.length)(p:24<=p1)(g:P9 d l d.length)(a:¬(l.getD k (0,0)).1<256)(s:1<=ln (l.getD k (0,0)).1) (u:Wr c' (pos+ln (l.getD k (0,0)).1+12)) (q:Ag c c' pos) (t:val c' pos (ln (l.getD k (0,0)).1)=num (λi=>(ln i:Int)) 288 (l.getD k (0,0)).1) (j:val c' (pos+ln (l.getD k (0,0)).1) 12=(l.getD k (0,0)).2-1):WS d ln l p1 c' (k+1) (pos+ln (l.getD k (0,0)).1+12):=by
 have o:=h.ps;have b:=g.ok k e;have v:=ZG l k U;have n:Pk.JO (l.getD k (0,0))=(l.getD k (0,0)).1-253:=by unfold Pk.JO;rw[AC a]
 have m:=b.fit;rw[n]at m;obtain⟨c1,c2,c3,c4⟩:=b.copy a;refine⟨?_,?_⟩
 .rw[eA _ l k e,o];unfold Mg;rw[AC a];omega
 rw[Zn l k e,n];have:=yR (b:=c) (b':=c') (z:=λi=>(ln i:Int)) (d:=d) (a:=Jz l k) (pos:=pos) (F:=d.length-(k+1)) (i:=(l.getD k (0,0)).1) (back:=(l.getD k (0,0)).2) U a b.lt U m c1 c3 c4 (EU u.h) (EU t) (EU j) q (λf=>FR (f.drop 3) (λi=>(ln i:Int)) 288 d.length d.length [] (p1-24)) (by intro f r;rw[show d.length-(k+1)+1=d.length-k by omega];exact h.rd f r)
 simpa using this
theorem WS.done(h:WS d ln l p1 c l.length pos)(a:P9 d l d.length):FR (c.drop 3) (λi=>(ln i:Int)) 288 d.length d.length [] (p1-24)=some (d,pos-24):=by rw[h.rd c (Ag.refl _ _),a.fin,AT (AB _)];exact gU _ _ _ _ _ _ _ (AB _)
theorem BW.of{w w':Z}{B g:Nat}{b:Du}(h:BW w B g b pos)(j:∀k,k<w.heap.size->w'.heap[k]?=w.heap[k]?):BW w' B g b pos:=by
 obtain⟨v,e,f⟩:=h.st;refine⟨h.a,⟨v,(j g (lt_of_heap e)).i e,f.1,?_⟩,h.wr⟩;rcases f.2 with d|⟨r,a,c,d,l,i,m⟩
 .exact .w d
 exact .s ⟨r,a,c,d,l,(j r (lt_of_heap i)).i i,m⟩
theorem yv(w:Z)(n:Nat)(a:n<=4000):BW ((w.alloc (.cells #[.f 1,.f ((n:Int)/256),.f ((n:Int)%256)] 5)).alloc (.cells #[.b w.heap.size 3 3,.a 0] 279)) w.heap.size (w.heap.size+1) [1,UInt8.ofNat (n/256),UInt8.ofNat (n%256)] 24:=by
 refine⟨by omega,⟨.b w.s 3 3,?_,?_⟩,⟨by simp,by simp,λi _=>jj _ i EL⟩⟩
 .have:=AR (w.a #[.f 1,.f ((n:Int)/256),.f ((n:Int)%256)] 5) (.cells #[.b w.s 3 3,.a 0] 279);simp only[BM]at this;rw[this];rfl
 refine⟨I,.s ⟨_,3,_,I,AB _,(AO _ _ _ EJ).i (AR _ _),AB _,by unfold maxLen;omega,I,?_⟩⟩;have e1:((n:Int)/256)=((n/256:Nat):Int):=U;have e2:((n:Int)%256)=((n%256:Nat):Int):=U;have e3:(UInt8.ofNat (n/256)).toNat=n/256:=by rw[Bx];omega
 have e4:(UInt8.ofNat (n%256)).toNat=n%256:=by rw[Bx];omega
 simp only[BS,DF,e3,e4,e1,e2];rfl
theorem rp(w:Z)(d:Du)(h0:0<d.length)(hd:d.length<=4000):Calls prog 195 #[.string (X d)] w λe w'=>XY d w e w':=by
 have bV:=J (Wk w d h0 hd);have bY:(X d).size=d.length:=EF d;generalize X d=t at *;go_enter func195,ntmps195;go_wp2_with fail;refine bV.o.l ?_;rintro e w1 ⟨l,v,rfl,C,F,has,D⟩;have bS:0<l.length:=by
  cases l with
  |nil=>have:=F.fin;simp[Jz,Eu]at this;omega
  |cons x l=>simp
 have ce:l.length<=d.length:=by have:=ZG l l.length (AB _);rw[F.fin]at this;exact this
 have bf:∀s∈l,s.1<288:=λs A=>by obtain⟨i,y,rfl⟩:=DQ.1 A;have:=(F.ok i y).lt;rw[AI,AE y]at this;exact this
 obtain⟨q,H,rfl,ca⟩:∃q H,v=.b q l.length H/\w.heap.size<=q:=by
  rcases C.2 with⟨_,h⟩|⟨g,c,cur,rfl,h2,_⟩
  .omega
  exact⟨g,c,I,h2⟩
 have bJ:=(C.lt q I).2;have bO:=J (od w1 q l.length H l I U bf (NV C (AW _)));have aE:=J C;change Hid _ at F has D bf;go_wp2_with fail;refine bO.o.l ?_;rintro e w2 ⟨rfl,b7,aT⟩;have ad:=aT.size;have hW:Fa (λi=>((List.range 288).map (ID l)).getD i 0) 288=l.length:=by rw[Wd _ (ID l) 288 (λi y=>YA _ _ _ y)];exact tS l bf
 have bW:=J (ox w2 w1.heap.size 288 ((List.range 288).map (ID l)) (uw b7 Fs) (by rw[hW];exact bS) (by rw[hW];omega));change Hid _ at aT;go_wp2_with fail;refine bW.o.l ?_;rintro e z ⟨m,L,rfl,hL,a7,aL,c1,c2,c3,c4,c5⟩;have az:=aL.size;have aR:Ew (λi=>((List.range 288).map (ID l)).getD i 0) 288=Ew (ID l) 288:=mE _ _ 288 λi y=>by rw[YA _ _ _ y]
 rw[aR]at c4 c5;have b9:∀i,i<288->(0<m i↔0<ID l i):=λi y=>by rw[c1 i y,YA _ _ _ y]
 have a3:=yt m (ID l) b9 c3 c5;have bg:=J (xN (FH L) 288 288 (λi=>(m i:Int)) z U (iZ a7) a3);have ai:=J a7;change Hid _ at aL b9 c2 c3 c4 a3;have bn:=a7.lt;go_wp2_with fail;refine bg.o.l ?_;rintro e a ⟨rfl,N,ah⟩;have aM:=N.size;change Hid _ at N;have an:=J ah;have ae:=ah.lt;go_wp2_with fail;have bD:=yv a d.length hd;have M:Below a.heap.size a ((a.alloc (.cells #[.f 1,.f ((d.length:Int)/256),.f ((d.length:Int)%256)] 5)).alloc (.cells #[.b a.heap.size 3 3,.a 0] 279)):=(Iy).alloc EJ _;have ag:((a.alloc (.cells #[.f 1,.f ((d.length:Int)/256),.f ((d.length:Int)%256)] 5)).alloc (.cells #[.b a.heap.size 3 3,.a 0] 279)).rowIs L 3 288 (λj=>.a ((λi=>(m i:Int)) j)):=Oz (Oz ai N bn) M U;have bF:=J (rI ((a.alloc (.cells #[.f 1,.f ((d.length:Int)/256),.f ((d.length:Int)%256)] 5)).alloc (.cells #[.b a.heap.size 3 3,.a 0] 279)) a.heap.size (a.heap.size+1) L [1,UInt8.ofNat (d.length/256),UInt8.ofNat (d.length%256)] (λi=>(m i:Int)) EL EJ U ag (λi=>⟨by omega,by exact Dz (c3 i)⟩) (λi y=>by rw[c2.o i y];rfl) bD);change Hid _ at M;have bL:a.heap.size<=((a.alloc (.cells #[.f 1,.f ((d.length:Int)/256),.f ((d.length:Int)%256)] 5)).alloc (.cells #[.b a.heap.size 3 3,.a 0] 279)).heap.size:=EL;clear bD ag;generalize ((a.alloc (.cells #[.f 1,.f ((d.length:Int)/256),.f ((d.length:Int)%256)] 5)).alloc (.cells #[.b a.heap.size 3 3,.a 0] 279))=V at *;refine bF.o.l ?_;rintro e T ⟨rfl,b6,B,aC,aK,bi,bI,am,b5⟩;have bZ:nz (λi=>(m i:Int)) 288<=288:=fF _ _;have bR:B<=4000:=U;have aO:Hid (∀n,Below a.heap.size T n->∀i,i<l.length->n.cell? (O q (i*2))=some (.a ((l.getD i (0,0)).1:Nat))/\n.cell? (O q (i*2+1))=some (.a ((l.getD i (0,0)).2:Nat))):=λn hU i y=>by
  have aX:∀o,n.cell? (O q o)=w1.cell? (O q o):=λo=>by rw[hU.cell (p:=⟨q,o,none⟩) EL,b5.cell (p:=⟨q,o,none⟩) EL,M.o.cell (p:=⟨q,o,none⟩) EL,N.o.cell (p:=⟨q,o,none⟩) EL,aL.o.cell (p:=⟨q,o,none⟩) EL,aT.o.cell (p:=⟨q,o,none⟩) EL]
  rw[aX,aX,aE.o.cellAt (i*2) U,aE.o.cellAt (i*2+1) U,BQ i 2];exact iG l i y
 have aQ:Hid (∀n,Below a.heap.size T n->∀s,s<288->1<=m s->n.cell? (O z.heap.size (s*2))=some (.a (num (λi=>(m i:Int)) 288 s:Nat))/\n.cell? (O z.heap.size (s*2+1))=some (.a (m s:Nat))):=λn hU s A h1=>by have hr:=Oz (Oz (Oz an M ae) b5 ae) hU ae;have hc:=wy (λi=>(m i:Int)) 288 s a3 A;have e1:=hr.cell (i:=s*2) U;have e2:=hr.cell (i:=s*2+1) U;rw[hc.1]at e1;rw[hc.2]at e2;unfold TO at e1;rw[AD (by show 1<=(m s:Int);omega)]at e1;exact⟨e1,e2⟩
 change Hid _ at aC aK am bI;have bT:Hid (Below w.heap.size w T):=D.o.i ((aT.o.l D.o.size).i ((aL.o.l (AG D.o.size ad)).i ((N.o.l (AG D.o.size (AG ad az))).i ((M.o.i b5).l (AG D.o.size (AG ad (AG az aM)))))));have bP:a.heap.size<=T.heap.size:=AG bL b5.size;have bl:w.heap.size<=a.heap.size:=AG D.o.size (AG ad (AG az aM));clear b5 bF M ai an D aT aL N aE;go_wp2;go_loopw [31] (λi wr=>∃k pos:Nat,∃c,i=.a k/\k<=l.length/\pos<=B+24*k/\a.heap.size<=wr.heap.size/\Hid (BW wr a.heap.size (a.heap.size+1) c pos)/\Hid (WS d m l B c k pos)/\Hid (Ag b6 c B)/\B<=pos/\Hid (Below a.heap.size T wr)) (λi _=>l.length-(intOf i).toNat)
 .exact⟨0,B,b6,I,by omega,by omega,bP,aC,WS.init _ _ _ _ _,Ag.refl _ _,AB _,AP _ _⟩
 .clear aC;obtain⟨k,pos,c,rfl,hk,bX,bx,R,G,ar,bB,ac⟩:=hrel;have bG:0<c.length:=by have h1:=R.o.wr.h;omega
  by_cases aS:k<l.length
  .have Q:=F.o.ok k aS;have aW:=tm l k aS;obtain⟨x1,x2⟩:=aO wr ac k aS;obtain⟨s,A⟩:=E ((l.getD k (0,0)).1);obtain⟨S,JJ⟩:∃b,b=(l.getD k (0,0)).2:=⟨_,I⟩;have a9:s<288:=by rw[A];exact Q.lt
   have av:1<=m s:=by exact Dz ((b9 s a9).2 ((i7 l s).2 ⟨_,aW,A.A⟩))
   have aN:=c3 s;rw[<-A]at x1;rw[<-JJ]at x2;have b0:num (λi=>(m i:Int)) 288 s<2^m s:=by have:=Tu (λi=>(m i:Int)) 288 s a3 a9 (by show 1<=(m s:Int);omega);simpa using this
   obtain⟨nm,aZ⟩:=E (num (λi=>(m i:Int)) 288 s);rw[<-aZ]at b0;obtain⟨r,hO⟩:=E (Obj.cells #[.a s,.a S] 282);have a4:Below a.heap.size T (wr.alloc r):=ac.o.alloc bx r;obtain⟨y1,y2⟩:=aQ _ a4 s a9 av;rw[<-aZ]at y1;have K:(wr.alloc r).heap[wr.heap.size]?=some (.cells #[.a s,.a S] 282 (0,0)):=by rw[hO];exact AR _ _
   have z0:=EV 0 K;have aP:BW (wr.alloc r).drew a.heap.size (a.heap.size+1) c pos:=R.o.of λj hj=>AO _ _ j hj;have a6:=J (eH (wr.alloc r).drew a.heap.size (a.heap.size+1) c pos nm (m s) EL bG U aN b0 aP);change Hid _ at K a4 A JJ aZ hO Q;have bu:a.heap.size<=(wr.alloc r).drew.heap.size:=EL;obtain⟨sl,bz⟩:=E wr.heap.size;have bM:=J bz;rw[<-bz]at z0 K;clear bz;clear aP aW ac R;have bp:((λi=>(m i:Int)) s)=(m s:Int):=I;generalize f:m s=p at *;change Hid _ at f;clear bp;go_wp2;rw[<-hO.o,<-bM.o];clear hO;have bE:z.heap.size<a.heap.size:=ae;have c9:(s:Int)<288:=U;have bN:(0:Int)<=(s:Int):=U;generalize wr.alloc r=W at *;go_region_held3 (λw'=>w'.cell? (O sl 0)=some (.a s)/\w'.cell? (O z.heap.size (s*2))=some (.a nm)/\w'.cell? (O z.heap.size (s*2+1))=some (.a p)) (go_keep) (first|(go_at_call 250;refine a6.o.l ?_;rintro e w7 ⟨rfl,c7,a8,P,bc,aY,bj⟩;have k0:w7.cell? (O sl 0)=some (.a s):=(by rw[AU w7 sl 0 _ 282 (0,0) (bj.u (w:=W.drew) K.o)];rfl);have k1:w7.cell? (O z.heap.size (s*2))=some (.a nm):=(by rw[aY.cell (p:=⟨z.heap.size,s*2,none⟩) bE];exact y1);have k2:w7.cell? (O z.heap.size (s*2+1))=some (.a p):=(by rw[aY.cell (p:=⟨z.heap.size,s*2+1,none⟩) bE];exact y2)))
   .have aV:=bj.u (w:=W.drew) K;have k3:=EV 1 aV;have aa:=J (a4.o.drew.i aY);have ax:a.heap.size<=w7.heap.size:=AG bu aY.size;have aD:=J (ar.o.i P bB);have u:(l.getD k (0,0)).1=s:=A.o.A;have af:(l.getD k (0,0)).2=S:=JJ.o.A;have bA:=AQ bG P.len;rename_i hHeld;clear hHeld k1 k2 y1 y2 z0 aV aY bj a6 K a4;by_cases aA:s<256
    .have bm:Hid (WS d m l B c7 (k+1) (pos+p)):=by have:=G.o.byte (c':=c7) aS bi F (by rw[u];exact aA) (by rw[u,f.o];exact av) (by rw[u,f.o];exact a8.wr) P (by rw[u,f.o,bc,aZ.o]);rw[u,f.o]at this;exact this
     change Hid _ at a8;clear P bc u af G;go_wp2;go_roundw
     .exact⟨k+1,pos+p,c7,by go_num,by omega,by omega,ax,a8,bm,aD,by omega,aa⟩
     .simp[intOf];omega
    obtain⟨b1,b2,b3,b4⟩:=Q.o.copy (by rw[u];exact aA);rw[af]at b1 b2 b3;have aB:=eH w7 a.heap.size (a.heap.size+1) c7 (pos+p) (S-1) 12 ax bA U U U a8;rw[show((S-1:Nat):Int)=(S:Int)-1 by omega]at aB;have a6:=J aB;change Hid _ at bc P;have bK:=b2;clear aB a8 b4 b3;go_wp2_with fail;refine a6.o.l ?_;rintro e w8 ⟨rfl,c8,aw,bb,bH,be,bU⟩;have bs:Hid (WS d m l B c8 (k+1) (pos+p+12)):=by have:=G.o.copy (c':=c8) aS bi F (by rw[u];exact aA) (by rw[u,f.o];exact av) (by rw[u,f.o];exact aw.wr) (P.o.i bb U) (by rw[u,f.o,bb.val pos p (AB _),bc.o,aZ.o]) (by rw[u,f.o,bH,af]);rw[u,f.o]at this;exact this
    change Hid _ at aw;have aU:=J (aa.o.i be);have bq:=AG ax be.size;have br:=J (aD.o.i bb U);clear bb bH be bU u af G a6 aa aD;go_wp2;go_roundw
    .exact⟨k+1,pos+p+12,c8,by go_num,by omega,by omega,bq,aw,bs,br,by omega,aU⟩
    .simp[intOf];omega
  have bQ:k=l.length:=U;subst bQ;obtain⟨v,Q,C⟩:=R.o.st;have x0:=EV 0 Q;obtain⟨va,vc,hv⟩:=slice_form C;subst hv;obtain⟨tc,bh⟩:=E (X c);have cc:=iD (l:=c) C tc bh;change Hid _ at bh;have b8:=R.o.wr;have au:Hid (Jd 288 c=some d/\c.length<=50000/\(∀e,(∀i,i<d.length->(d.getD i 0).toNat=e)->c.length<=40+d.length/16)):=by
   have bC:=G.o.ps;rw[AT (AB _)]at bC;refine⟨?_,?_,?_⟩
   .refine wI (p1:=B) (p2:=pos) h0 hd I (aK.o.i ar bi) U a3 b8 ?_ (G.o.done F);exact am c (ar.o.l (AB _))
   .have h1:=b8.g;omega
   intro e he;exact zD h0 (has.o e he) b9.o c4.o (by rw[bC];exact Dz bI.o) b8.g
  clear Q C b8 R G;go_wp2;go_ret;refine⟨c,?_,au.o.1,au.o.2.1,au.o.2.2,bT.o.i (ac.o.l bl)⟩;rw[<-bh.o];rfl
def Uu(d:Du)(w:Z)(e:Ending)(w':Z):Prop:=∃T,e=.a (.tuple #[.string (X T),.a 0])/\Jd 288 T=some d/\T.length<=d.length+1/\(∀c,(∀i,i<d.length->(d.getD i 0).toNat=c)->T.length<=40+d.length/16)/\Below w.heap.size w w'
theorem xz(d:Du):X [0]++X d=X (0::d):=by apply DZ;simp[X]
theorem gj(W:Z):(convert 111 9 (.b W.heap.size 1 1)).run prog (W.alloc (.cells #[.f 0] 5))=.ok (.string (X [0])) (W.alloc (.cells #[.f 0] 5)):=
 JR (base:=0) (n:=1) (l:=[0]) ⟨I,.s ⟨_,1,_,I,AW _,AR _ _,AB _,by unfold maxLen;omega,I,I⟩⟩
theorem P0(w:Z)(d:Du)(u:d.length<=4000):Calls prog 131 #[.string (X d)] w λe w'=>Uu d w e w':=by
 have q:(X d).size=d.length:=EF d;have i:Jd 288 (0::d)=some d:=je 288 d u;have b:=xz d;obtain⟨_,_,_,_,_⟩:=An IM;by_cases H:d.length=0
 .have B:d=[]:=BP.1 H;subst B;have r:=gj w;have A:(X ([]:Du)).size=0:=q;have n:(X [0]).size=1:=I;obtain⟨v,h⟩:∃z,z=X [0]:=⟨_,I⟩;obtain⟨t,k⟩:∃z,z=X ([]:Du):=⟨_,I⟩;have g:Hid (v++t=X [0]):=by rw[h,k];exact b
  rw[<-h]at r n;rw[<-k]at A |-;clear b q h k;go_enter func131,ntmps131;go_wp2;go_ret2;refine⟨[0],?_,i,by simp,λ_ _=>by simp,Iy⟩;rw[<-g.o];rfl
 have p:=J (rp w d U u);have N:0<d.length:=U;have F:=J i;have g:=J b;clear i b;have G:Hid (∃t,t=X d):=⟨_,I⟩;generalize a:X d=t at *;have G:=J a;clear a;go_enter func131,ntmps131;go_wp2_with fail;refine p.o.l ?_;rintro e L ⟨T,rfl,o,_,l,s⟩;have D:(X T).size=T.length:=EF T;obtain⟨_,j⟩:∃x,x=X T:=⟨_,I⟩;rw[<-j]at D |-;have C:=J j;have y:=J o;have m:=J l;have f:=J s;clear j o l s p;by_cases M:T.length<=d.length
 .go_wp2;go_ret2;refine⟨T,?_,y.o,by omega,m.o,f.o⟩;rw[<-C.o];rfl
 have r:=gj L;have n:(X [0]).size=1:=I;generalize X [0]=v at *;go_wp2;go_ret2;refine⟨0::d,?_,F.o,by simp,λc K=>?_,f.o.alloc f.o.size _⟩
 .rw[<-g.o];rfl
 have:=m.o c K;simp only[Ae];omega
theorem QN(s:ByteArray)(w:Z)(k:s.size<=140737488351232):Calls prog 122 #[.string s] w λe w'=>e=.a (.string s)/\Below w.heap.size w w':=by
 by_cases h:s.size=0
 .have t:s=⟨#[]⟩:=by apply DZ;exact Array.eq_empty_of_size_eq_zero h
  subst t;go_enter func122,ntmps122;go_wp2;go_ret;exact⟨I,AP _ _⟩
 obtain⟨_,i,_,f,_⟩:=An IM;have l:(prog.info? 5).map (·.size)=some 1:=by rw[i];simp[f]
 have m:prog.cellsOf 5=1:=by simp[Program.cellsOf,i,f]
 obtain⟨M,b⟩:=E (madeCells #[Value.int .u8 0] s.size);have y:M.size=s.size:=by rw[b,size_madeCells]
 have x:∀W:Z,(Instr.makeSlice 111 (.a (s.size:Int)) (.a (s.size:Int))).run prog W=.ok (.b W.s s.size s.size) (W.a M 5):=λW=>by rw[b];exact Cn (P:=prog) 111 5 (.f 0) 1 underlying111 IM I .i64 .i64 s.size U U W
 clear b;have q:=Lib.run_copy_row_string (P:=prog) (w.a M 5) 111 9 3 5 w.s 0 s.size s.size s M 5 underlying111 l (AR w _) (AB _) U;obtain⟨a,c⟩:=E ((M.toList.take 0++Lib.byteCells s.data.toList++M.toList.drop (0+s.size)).toArray);rw[<-c]at q;have d:a.toList=Lib.byteCells s.data.toList:=by rw[c,List.toList_toArray,DO,BB,List.drop_of_length_le (by rw[Cz];omega),Br]
 have v:a.size=s.size:=by rw[<-Cz,d,Lib.byteCells_length,<-Lib.size_eq]
 have g:((w.a M 5).setRow w.s a).h w.s a 5:=setRow_heap _ _ M _ 5 (0,0) (AR w _);have n:s.data.toList≠[]:=λe=>h (by rw[Lib.size_eq,e];rfl);have r:=Lib.run_unsafeString_row (P:=prog) ((w.a M 5).setRow w.s a) 242 3 9 5 underlying242 m w.s a.size (by unfold World.shape?;rw[g]) s.data.toList n (by rw[<-Lib.size_eq];omega) (by rw[<-Lib.size_eq];omega)
  (λj _ u=>Lib.cells_of_row g a.size j _ (by rw[AT (by rw[Cz];exact AB _),d];simp[Lib.byteCells,u]))
 rw[<-Lib.size_eq]at r;clear c;go_enter func122,ntmps122;go_wp2;go_ret;have p:w.b (w.a M 5):=Iy;have o:Below w.s (w.a M 5) ((w.a M 5).setRow w.s a):=⟨I,I,I,by simp,λ_ _=>setRow_other _ _ _ _ U⟩;exact⟨I,Lib.below_freeze (p.i o) (p:=⟨w.s,0,none⟩) (AB _) _⟩
theorem Ic(s:ByteArray)(w:Z)(a:s.size<=140737488351232):Calls prog 72 #[.string s] w λe w'=>e=.a (.string s)/\Below w.heap.size w w':=by go_enter func72,ntmps72;go_wp2_with fail;refine(QN s w a).l ?_;rintro e _ ⟨rfl,b⟩;go_wp2;go_ret;exact⟨I,b⟩
theorem sE(c:UInt8)(r:Du):∃t,t=X (c::r)/\t.size=r.length+1/\(∀h:0<t.size,(t[0]'h).toNat=c.toNat)/\t.extract 1 t.size=X r:=by refine⟨_,I,by rw[EF];rfl,λh=>by rw[O0];rfl,?_⟩;rw[Ka,EF];simp
theorem xJ(c:UInt8)(r:Du)(w:Z)(N:r.length+1<=140737488351232):Calls prog 145 #[.string (X (c::r))] w λe w'=>e=TD (Jd 288 (c::r))/\Below w.heap.size w w':=by
 obtain⟨t,q,B,p,n⟩:=sE c r;have b:0<t.size:=U;have d:=p b;rw[<-q];have K:t.size<=140737488351232:=U;have y:(X r).size<=140737488351232:=by rw[EF];omega
 have F:t.size<=r.length+1:=U;have C:r.length+1<=t.size:=U;have o:=J n;clear q p B n;have L:((t.size:Int)==0)=false:=BN.2 U;have H:(0:Int)<(t.size:Int):=U;have M:(1:Int)<=(t.size:Int):=U;by_cases f:c=0
 .have z:(t[0]'b).toNat=0:=by rw[d,f];rfl
  clear d;subst f;by_cases A:r.length<=4000
  .have a:=J (je 288 r A);have x:decide (((t.size-1:Nat):Int)<=4000)=true:=Bj U;go_enter func145,ntmps145;go_wp2;go_quiet (fail);go_wp2_with fail;rw[o.o];refine(Ic (X r) _ y).l ?_;rintro e m ⟨rfl,k⟩;have i:w.b m:=Pj (EU k);go_wp2;go_ret2;refine⟨?_,i⟩;rw[a.o];rfl
  have a:=J (wQ 288 r U);have x:decide (((t.size-1:Nat):Int)<=4000)=false:=BZ U;go_enter func145,ntmps145;go_wp2;go_quiet (fail);go_wp2;go_ret2;refine⟨?_,below_drewN (AP _ _) _⟩;rw[a.o];rfl
 have v:c.toNat≠0:=λh=>f (BR.1 h);have s:((c.toNat:Int)==0)=false:=BN.2 U;by_cases g:c=1
 .have z:(t[0]'b).toNat=1:=by rw[d,g];rfl
  clear d v s;have u:=J (λw=>pF r w U);subst g;go_enter func145,ntmps145;go_wp2;go_quiet (fail);go_wp2_with fail;rw[o.o];refine(u.o _).l ?_;rintro e m ⟨rfl,k⟩;have i:w.b m:=Pj (EU k);cases j:Jd 288 (1::r)with
  |none=>have a:=J j;clear j;show _;unfold Om;go_wp2;go_ret2;refine⟨?_,i⟩;rw[a.o];rfl
  |some l=>have a:=J j;clear j;unfold Om;go_wp2;go_ret2;refine⟨?_,i⟩;rw[a.o];rfl
 have G:c.toNat≠1:=λh=>g (BR.1 h);have D:((c.toNat:Int)==1)=false:=BN.2 U;have a:=J (sP 288 c r f g);go_enter func145,ntmps145;go_wp2;go_quiet (fail);go_wp2;go_ret2;refine⟨?_,below_drewN (AP _ _) _⟩;rw[a.o];rfl
theorem uq(w:Z):Calls prog 145 #[.string (X [])] w λe w'=>e=TD none/\w'=w:=by
 have a:(((X []).size:Int)==0)=true:=by rw[EF];rfl
 go_enter func145,ntmps145;go_wp2;go_ret2;exact⟨I,I⟩
theorem MJ(T:Du)(w:Z)(a:T.length<=140737488351232):Calls prog 145 #[.string (X T)] w λe w'=>e=TD (Jd 288 T)/\Below w.heap.size w w':=by
 cases T with
 |nil=>exact(uq w).l λe w' ⟨b,d⟩=>by rw[b,d];exact⟨I,AP _ _⟩
 |cons c r=>exact xJ c r w (EU a)
theorem uI(s:Du)(z:Nat->Int)(N a f:Nat)(b:Du)(pos:Nat)(x:Du×Nat)(c:b.length<=a)(h:FR s z N a f b pos=some x):x.1.length<=a:=by
 induction f generalizing b pos with
 |zero=>
  rw[FR]at h;split at h
  .cases h;exact c
  cases h
 |succ f d=>
  rw[FR]at h;split at h
  .cases h;exact c
  rename_i e;split at h
  .cases h
  rename_i i j;split at h
  .exact d _ _ EL h
  split at h
  .cases h
  split at h
  .cases h
  rename_i g;exact d _ _ (by rw[YK];omega) h
theorem Pz(t y:Du)(h:Jd 288 t=some y):y.length<=4000:=by
 cases t with
 |nil=>cases h
 |cons c r=>
  rw[SE]at h;split at h
  .split at h
   .cases h;assumption
   cases h
  split at h
  .split at h
   .cases h
   split at h
   .cases h
   rename_i e;generalize 256*(r.getD 0 0).toNat+(r.getD 1 0).toNat=a at *;unfold Iu at h;split at h
   .cases h
   split at h
   .cases h
   split at h
   .cases h
   rename_i d p b;split at h
   .cases h;have:=uI _ _ _ _ _ _ _ _ EJ b;simp at this;omega
   cases h
  cases h
end Y
section
open Go.RowKit Go.Nt
theorem VR:Ge (Y.Pk.Jd 288) where
 small:=λt d h=>Y.Pz t d h
 pack:=λw d g=>(Y.P0 w d g).l λe f ⟨t,b,c,i,_,a⟩=>⟨t,b,c,i,a⟩
 some:=λw t d j c=>(Y.MJ t w U).l λe f ⟨b,a⟩=>⟨by rw[b,c];rfl,a⟩
 none:=λw t j c=>(Y.MJ t w U).l λe f ⟨b,a⟩=>⟨by rw[b,c];rfl,a⟩
end
namespace does
open Go.ChangeShapes Go.WideShapes Go.ChangeAt Go.RowKit Go.Nt
variable {H:Type} {W:Z} {spare:Nat->Bool} {fuel:Nat} {v:Value}
theorem vT:prog.cellsOf 39=5:=EG
theorem ru:prog.cellsOf 65=8:=EG
theorem bounds{n:Int}(h:(Lit.int .i64 n).wf=true):-9223372036854775808<=n/\n<=9223372036854775807:=by have a:IntKind.i64.min = -9223372036854775808:=EB;have b:IntKind.i64.max=9223372036854775807:=EB;simp only[Lit.wf,a,b,AV,BJ]at h;exact h
theorem uO(d:DataW H):1<=Rows.uptoBulk d:=by
 cases d with
 |lit l=>cases l<;>simp[Rows.uptoBulk]
 |nil=>simp[Rows.uptoBulk]
 |ptr d=>simp[Rows.uptoBulk]
 |slice b e=>simp[Rows.uptoBulk]
 |agg c=>simp[Rows.uptoBulk]
 |iface t d=>simp[Rows.uptoBulk]
 |map a=>simp[Rows.uptoBulk]
 |held h=>simp[Rows.uptoBulk]
theorem kD{d:DataW H}{l:List (DataW H)}(h:d∈l):Rows.uptoBulk d<=Rows.uptoBulkAll l:=by
 induction l with
 |nil=>cases h
 |cons x r a=>
  simp only[Rows.uptoBulkAll];rcases Ax.1 h with e|e
  .subst e;omega
  exact Dz (a e)
theorem length_le(l:List (DataW H)):l.length<=Rows.uptoBulkAll l:=by
 induction l with
 |nil=>simp[Rows.uptoBulkAll]
 |cons x r a=>have:=uO x;simp only[Rows.uptoBulkAll,Ae];omega
theorem Uo(b o k:Nat):(⟨b,o,none⟩:Addr).add k=⟨b,o+k,none⟩:=by unfold Addr.add;split<;>simp_all
theorem PD{enc:TypeId×Value->H}{q t:Nat}{cs:List Value}{k j:Nat}{a:List (DataW H×List MemPlace)}{u:Value}{y:DataW H×List MemPlace}(h:DataW.trod enc prog W 0 spare true q t ((cs.drop k).take (prog.cellsOf t))=a[j]?)(b:prog.cellsOf t=1:=by kernel_rfl)(c:(cs.drop k).take 1=[u]:=by rfl)(d:a[j]?=some y:=by rfl):DataW.trod enc prog W 0 spare true q t [u]=some y:=by rw[b,c,d]at h;exact h
theorem qB{enc:TypeId×Value->H}{x:DataW H×List MemPlace}(h:DataW.trod enc prog W 0 spare true fuel 26 [v]=some x):∃sa c d,∃l:List It,v=.slice sa c d/\l.length=c/\Eh W sa l/\(sa=none->c=0/\d=0)/\l.length<=Rows.uptoBulk x.1/\∀y∈l,y.c.length<=Rows.uptoBulk x.1/\y.data.length<=Rows.uptoBulk x.1:=by
 rcases Deep.open_slice underlying26 h with⟨f,_⟩|⟨a,c,d,m,_,D,_,f,_,_,_,C,rfl,N⟩
 .simp at f;exact⟨none,0,0,[],f,I,λh=>absurd I h,λ_=>⟨I,I⟩,by simp,by simp⟩
 simp at f;have ac:c<=m:=by rw[C];split<;>omega
 rw[vT]at N;have S:∀i,i<c->∃y:It,W.cell? (a.add (i*5))=some (.string (X y.c))/\W.cell? ((a.add (i*5)).add 1)=some (.bool y.d)/\W.cell? ((a.add (i*5)).add 2)=some (.string (X y.data))/\W.cell? ((a.add (i*5)).add 3)=some (.a y.a)/\W.cell? ((a.add (i*5)).add 4)=some (.a y.b)/\y.c.length<=Rows.uptoBulk (D i)/\y.data.length<=Rows.uptoBulk (D i):=by
  intro i k;obtain⟨cs,B,ht⟩:=N i U;obtain⟨_,R,o⟩:=World.cells?_some B;obtain⟨xs,q,_,hD,_,V,s⟩:=DataW.trod_struct underlying39 ht;match cs,R with
  | [u0,u1,u2,u3,u4],_=>
   match xs,V with
   | [y0,y1,y2,y3,y4],_=>
    obtain⟨G,e0,x0,_⟩:=Dg underlying9 (PD (s 0 _ I));obtain⟨b1,e1,_⟩:=DataW.trod_bool underlying4 (PD (s 1 _ I));obtain⟨K,e2,x2,_⟩:=Dg underlying9 (PD (s 2 _ I));obtain⟨n3,e3,_,_⟩:=DataW.trod_int underlying3 (PD (s 3 _ I));obtain⟨n4,e4,_,_⟩:=DataW.trod_int underlying3 (PD (s 4 _ I));simp only[List.cons.injEq,and_true]at e0 e1 e2 e3 e4;subst e0 e1 e2 e3 e4;have M:D i=.agg [y0.1,y1.1,y2.1,y3.1,y4.1]:=by have:=AX Prod.fst hD;simpa using this
    have aa:G.data.toList.length+1<=Rows.uptoBulk (D i):=by rw[M,x0];simp only[Rows.uptoBulk,Rows.uptoBulkAll];omega
    have a9:K.data.toList.length+1<=Rows.uptoBulk (D i):=by rw[M,x2];simp only[Rows.uptoBulk,Rows.uptoBulkAll];omega
    refine⟨⟨G.data.toList,b1,K.data.toList,n3,n4⟩,?_,?_,?_,?_,?_,by show G.data.toList.length<=_;omega,by show K.data.toList.length<=_;omega⟩
    .have:=o 0 U;rw[show(a.add (i*5)).add 0=a.add (i*5) by simp[Addr.add]]at this;exact this
    .exact o 1 U
    .exact o 2 U
    .exact o 3 U
    exact o 4 U
 obtain⟨u,A⟩:=Deep.choose_lt S;have Q:∀i,i<c->Rows.uptoBulk (D i)<=Rows.uptoBulk (.slice ((List.range c).map D) ((List.range (m-c)).map λj=>D (c+j))):=λi k=>by have g:Rows.uptoBulk (D i)<=Rows.uptoBulkAll ((List.range c).map D):=kD (AZ.2 ⟨i,Bv.2 k,I⟩);simp only[Rows.uptoBulk];omega
 refine⟨some a,c,d,(List.range c).map u,f,by simp,λn=>?_,(λh=>by cases h),?_,λy hy=>?_⟩
 .have n:0<c:=by
   rcases Nat.eq_zero_or_pos c with e|e
   .subst e;exact absurd I n
   exact e
  obtain⟨b,F,t⟩:=a;have B:=(A 0 n).1;have P:t=none:=by simpa[Addr.add]using World.cell?_spot B
  subst P;refine⟨b,F,I,λi x k=>?_⟩;have p:i<c:=by have:=(AN.1 k).1;simpa using this
  have T:u i=x:=by simpa[p]using k
  subst T;obtain⟨n,g,r,w,z,_,_⟩:=A i p;rw[Uo]at n g r w z;rw[Uo]at g r w z;exact⟨n,g,r,w,z⟩
 .have g:=length_le ((List.range c).map D);simp only[B0,List.length_range]at g |-;simp only[Rows.uptoBulk];omega
 obtain⟨i,k,rfl⟩:=AZ.1 hy;have p:=Bv.1 k;have L:=Q i p;obtain⟨_,_,_,_,_,g,r⟩:=A i p;exact⟨AG g L,AG r L⟩
theorem rH{enc:TypeId×Value->H}{x:DataW H×List MemPlace}(h:DataW.trod enc prog W 0 spare true fuel 23 [v]=some x)(Q:Rows.uptoBulk x.1<=1048576):∃sa f d,∃(t:Nat->Ir) (ls:Nat->List It),v=.slice sa f d/\f<=1048576/\O1 W sa f t/\∀k,k<f->NF W (λb=>b<W.heap.size) (t k) (ls k):=by
 rcases Deep.open_slice underlying23 h with⟨c,_⟩|⟨a,f,d,m,_,D,_,c,_,_,_,P,rfl,s⟩
 .simp at c;exact⟨none,0,0,λ_=>⟨0,(none,0,0),[],[],[],0,0,false⟩,λ_=>[],c,by omega,λh=>absurd h U,λk N=>absurd N U⟩
 simp at c;have am:f<=m:=by rw[P];split<;>omega
 rw[ru]at s;dsimp only at Q;have a4:∀i,i<f->Rows.uptoBulk (D i)<=1048576:=λi M=>by have r:Rows.uptoBulk (D i)<=Rows.uptoBulkAll ((List.range f).map D):=kD (AZ.2 ⟨i,Bv.2 M,I⟩);simp only[Rows.uptoBulk]at Q;omega
 have a7:∀i,i<f->∃y:Ir×List It,(W.cell? (a.add (i*8))=some (.a y.1.kind)/\W.cell? ((a.add (i*8)).add 1)=some (.slice y.1.j.1 y.1.j.2.1 y.1.j.2.2)/\W.cell? ((a.add (i*8)).add 2)=some (.string (X y.1.c))/\W.cell? ((a.add (i*8)).add 3)=some (.string (X y.1.dst))/\W.cell? ((a.add (i*8)).add 4)=some (.string (X y.1.data))/\W.cell? ((a.add (i*8)).add 5)=some (.a y.1.a)/\W.cell? ((a.add (i*8)).add 6)=some (.a y.1.b)/\W.cell? ((a.add (i*8)).add 7)=some (.bool y.1.other))/\NF W (λb=>b<W.s) y.1 y.2:=by
  intro i M;have j:=a4 i M;obtain⟨cs,L,ht⟩:=s i U;obtain⟨_,a6,g⟩:=World.cells?_some L;obtain⟨xs,q,_,hD,_,af,n⟩:=DataW.trod_struct underlying65 ht;match cs,a6 with
  | [u0,u1,u2,u3,u4,u5,u6,u7],_=>
   match xs,af with
   | [y0,y1,y2,y3,y4,y5,y6,y7],_=>
    obtain⟨n0,e0,_,_⟩:=DataW.trod_int underlying3 (PD (n 0 _ I));obtain⟨s2,e2,x2,_⟩:=Dg underlying9 (PD (n 2 _ I));obtain⟨s3,e3,x3,_⟩:=Dg underlying9 (PD (n 3 _ I));obtain⟨s4,e4,x4,_⟩:=Dg underlying9 (PD (n 4 _ I));obtain⟨n5,e5,_,w5⟩:=DataW.trod_int underlying3 (PD (n 5 _ I));obtain⟨n6,e6,_,w6⟩:=DataW.trod_int underlying3 (PD (n 6 _ I));obtain⟨b7,e7,_⟩:=DataW.trod_bool underlying4 (PD (n 7 _ I));obtain⟨sa,tn,tc,l,ac,aj,T,a8,_,S⟩:=qB (PD (n 1 _ I));simp only[List.cons.injEq,and_true]at e0 e2 e3 e4 e5 e6 e7;subst e0 e2 e3 e4 e5 e6 e7 ac;have hd:D i=.agg [y0.1,y1.1,y2.1,y3.1,y4.1,y5.1,y6.1,y7.1]:=by have:=AX Prod.fst hD;simpa using this
    rw[hd]at j;have ar:Rows.uptoBulk y1.1<=1048576:=by simp only[Rows.uptoBulk,Rows.uptoBulkAll]at j;omega
    have ai:s2.data.toList.length<=1048576:=by rw[x2]at j;simp only[Rows.uptoBulk,Rows.uptoBulkAll]at j;omega
    have ah:s3.data.toList.length<=1048576:=by rw[x3]at j;simp only[Rows.uptoBulk,Rows.uptoBulkAll]at j;omega
    have ag:s4.data.toList.length<=1048576:=by rw[x4]at j;simp only[Rows.uptoBulk,Rows.uptoBulkAll]at j;omega
    have hw:=bounds w6;refine⟨(⟨n0,(sa,tn,tc),s2.data.toList,s3.data.toList,s4.data.toList,n5,n6,b7⟩,l),⟨?_,g 1 U,g 2 U,g 3 U,g 4 U,g 5 U,g 6 U,g 7 U⟩,⟨aj.A,λe=>?_,T,λb p e o=>?_,by show l.length<=_;omega,λy R=>by have:=(S y R).1;omega,λy R=>by have:=(S y R).2;omega,ai,ag,ah,(bounds w5).2,hw.1,hw.2⟩⟩
    .have:=g 0 U;rw[show(a.add (i*8)).add 0=a.add (i*8) by simp[Addr.add]]at this;exact this
    .obtain⟨e1,e2⟩:=a8 e;have e:sa=none:=e;subst e e1 e2;rfl
    obtain⟨_,_,V,ad⟩:=T (Bl.1 o);have e:sa=some (O b p):=e;rw[e]at V;cases V;cases l with
    |nil=>simp at o
    |cons y ys=>exact(ad 0 y I).lt
 haveI:Inhabited (Ir×List It):=⟨(⟨0,(none,0,0),[],[],[],0,0,false⟩,[])⟩;obtain⟨w,K⟩:=Deep.choose_lt a7;refine⟨some a,f,d,λi=>(w i).1,λi=>(w i).2,c,?_,λo=>?_,λk N=>(K k N).2⟩
 .have r:=length_le ((List.range f).map D);simp only[B0,List.length_range]at r;simp only[Rows.uptoBulk]at Q;omega
 obtain⟨b,p,u⟩:=a;have L:=(K 0 o).1.1;have a3:u=none:=by simpa[Addr.add]using World.cell?_spot L
 subst a3;refine⟨b,p,I,λi aa=>?_⟩;obtain⟨⟨o,r,z,A,B,C,F,G⟩,_⟩:=K i aa;rw[Uo]at o r z A B C F G;rw[Uo]at r z A B C F G;exact⟨o,r,z,A,B,C,F,G⟩
end does
namespace does
theorem kr{p:Prop}(h:p:=by as_aux_lemma=>kernel_rfl):p:=h
theorem closed:joinedFacts prog 4 f4 (Rows.OpenSpec.upto Rows.doesSpec).bare Rows.doesUptoRow=true:=by unfold joinedFacts;exact(Bool.and_eq_true_iff.2 ⟨(Bool.and_eq_true_iff.2 ⟨(Bool.and_eq_true_iff.2 ⟨(Bool.and_eq_true_iff.2 ⟨(Bool.and_eq_true_iff.2 ⟨(Bool.and_eq_true_iff.2 ⟨(Bool.and_eq_true_iff.2 ⟨(Bool.and_eq_true_iff.2 ⟨(Bool.and_eq_true_iff.2 ⟨(Bool.and_eq_true_iff.2 ⟨(Bool.and_eq_true_iff.2 ⟨(Bool.and_eq_true_iff.2 ⟨(Bool.and_eq_true_iff.2 ⟨(Bool.and_eq_true_iff.2 ⟨(Bool.and_eq_true_iff.2 ⟨(Bool.and_eq_true_iff.2 ⟨(Bool.and_eq_true_iff.2 ⟨(Bool.and_eq_true_iff.2 ⟨(Bool.and_eq_true_iff.2 ⟨(Bool.and_eq_true_iff.2 ⟨(Bool.and_eq_true_iff.2 ⟨(Bool.and_eq_true_iff.2 ⟨(Bool.and_eq_true_iff.2 ⟨(Bool.and_eq_true_iff.2 ⟨(Bool.and_eq_true_iff.2 ⟨(Bool.and_eq_true_iff.2 ⟨(Bool.and_eq_true_iff.2 ⟨(Bool.and_eq_true_iff.2 ⟨(Bool.and_eq_true_iff.2 ⟨(Bool.and_eq_true_iff.2 ⟨(Bool.and_eq_true_iff.2 ⟨kr,kr⟩),kr⟩),kr⟩),kr⟩),kr⟩),kr⟩),kr⟩),kr⟩),kr⟩),kr⟩),kr⟩),kr⟩),kr⟩),kr⟩),kr⟩),kr⟩),kr⟩),kr⟩),kr⟩),kr⟩),kr⟩),kr⟩),kr⟩),kr⟩),kr⟩),kr⟩),kr⟩),kr⟩),kr⟩),kr⟩),kr⟩)
end does
end Go.Proofs.YtodmdkhdbfbfgaaGreatDoor
