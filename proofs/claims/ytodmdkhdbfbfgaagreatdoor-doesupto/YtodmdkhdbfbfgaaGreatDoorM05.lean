/- Lemmas. -/
import Derived.Deep.AppendLies
import Derived.Lib.OwnKind
import Derived.Lib.Walk
import Derived.LoopN
import Derived.Shelf.SlIterI.Nil
import Derived.Shelf.SortM.Plain
import Derived.Shelf.SortM.SortNone
import Derived.Ground.GgzProg
import Derived.Ground.SlgmProg
import Derived.Maps.GroupsBeside
import Derived.Ground.Names2Prog
import Derived.Ground.SlgnProg
import Derived.Shelf.Strings.BuilderK
import Derived.Test.YtodmdkhdbfbfgaaGreatDoorM04
set_option linter.unusedVariables false
set_option linter.unusedSimpArgs false
set_option maxRecDepth 100000
set_option maxHeartbeats 8000000
open Go.Proofs.Tryz
abbrev Go.Bg:=@Go.ownsRow_setCell_other
abbrev Go.Bl:=@List.length_pos_iff
abbrev Go.Cq:=@List.getLastD_eq_getLast?
abbrev Go.DT:=@Go.rounds_succ
abbrev Go.BP:=@List.length_eq_zero_iff
abbrev Go.C0:=@List.length_filter_le
abbrev Go.Cr:=@List.exists_mem_of_ne_nil
abbrev Go.DG:=@List.filter_append
namespace Go.Proofs.YtodmdkhdbfbfgaaGreatDoor
namespace Y
open Go.RowKit Pk
def put{α:Type}(f:Nat->α)(p:Nat)(x:α):Nat->α:=λj=>if j=p then x else f j
def E6(t:TypeId)(w w':Z):Prop:=∀(k:Nat) (c:Array Value) (fz:Nat×Nat),w.heap[k]?=some (.cells c t fz)->w'.heap[k]?=w.heap[k]?
namespace E6
variable {t:TypeId} {a b c w w':Z}
theorem refl(t:TypeId)(w:Z):E6 t w w:=λ_ _ _ _=>rfl
theorem i(h:E6 t a b)(k:E6 t b c):E6 t a c:=λi x f e=>(k i x f ((h i x f e).i e)).i (h i x f e)
theorem drew(h:E6 t a b):E6 t a b.drew:=h
theorem alloc(h:E6 t a b)(o:Obj):E6 t a (b.alloc o):=h.i λk _ _ e=>AO b o k (lt_of_heap e)
theorem f(h:E6 t a b)(d:Below b.heap.size b c):E6 t a c:=h.i λk _ _ e=>d.u k (lt_of_heap e)
theorem set(h:E6 t a b){g o:Nat}{v:Value}{x:Array Value}{T:TypeId}{f:Nat×Nat}(d:b.heap[g]?=some (.cells x T f))(c:T≠t):E6 t a (b.setCell (O g o) v):=
 h.i λk _ _ e=>AH b ⟨g,o,none⟩ v k (NZ e d (λh=>c h.A))
theorem C(h:E6 t a b){base n:Nat}{e:TypeId}{v:Value}{o:List Value}(d:b.ownsRow base e 1 v n o)(l:e≠t)(m:b.grownBy c v.ownBlock):E6 t a c:=by
 refine h.i λk _ f j=>m.u k (lt_of_heap j) ?_;rcases d.2 with⟨rfl,_⟩|⟨g,_,_,rfl,_,i,_⟩
 .simp[Value.ownBlock]
 intro e2;simp[Value.ownBlock]at e2;subst e2;rw[j]at i;simp at i;exact l i.2.1.A
theorem u(h:E6 t w w'){k:Nat}{x:Array Value}{f:Nat×Nat}(e:w.heap[k]?=some (.cells x t f)):w'.heap[k]?=some (.cells x t f):=(h k x f e).i e
theorem rw(h:E6 t w w'){g n:Nat}{f:Nat->Value}(r:Rw w g t n f):Rw w' g t n f:=by obtain⟨c,a,b⟩:=r;exact⟨c,h.u a,b⟩
theorem own(h:E6 t w w'){base n:Nat}{v:Value}{d:List Value}(o:w.ownsRow base t 1 v n d):w'.ownsRow base t 1 v n d:=by
 refine⟨o.1,?_⟩;rcases o.2 with c|⟨g,a,b,c,e,f,i⟩
 .exact .w c
 exact .s ⟨g,a,b,c,e,h.u f,i⟩
end E6
theorem Rw.news{w:Z}{b n:Nat}{t:TypeId}{f:Nat->Value}(h:Rw w b t n f):∀j u,((List.range n).map f)[j]?=some u->w.cell? ((⟨b,0,none⟩:Addr).add j)=some u:=by
 intro j u a;have c:j<n:=by
  rcases CS j n with h|h
  .exact h
  rw[Ay (EU h)]at a;cases a
 have d:(⟨b,0,none⟩:Addr).add j=⟨b,j,none⟩:=by unfold Addr.add;split<;>simp_all
 rw[d,h.cell c,<-a];simp[c]
theorem rU(n:Nat)(f:Nat->Value)(x:Value):(List.range n).map f++[x]=(List.range (n+1)).map (put f n x):=by
 rw[Be,Au];congr 1
 .apply BO;intro i a;have:i<n:=EU a;show f i=put f n x i;unfold put;rw[AC U]
 simp[put]
structure Data (w:Z) (base:Nat) (v:Value) (k np:Nat) (rw cr:Nat->Nat) (pg:Nat->Nat->Du):Prop where
 own:w.ownsRow base 40 1 v k ((List.range k).map λi=>.slice (some ⟨rw i,0,none⟩) np (cr i))
 row:∀i,i<k->base<=rw i/\Rw w (rw i) 9 np (λp=>.string (X (pg i p)))
 inj:∀i j,i<k->j<k->rw i=rw j->i=j
namespace Data
variable {w w':Z} {base:Nat} {v v':Value} {k np:Nat} {rw cr:Nat->Nat} {pg:Nat->Nat->Du}
theorem nil(w:Z)(base b:Nat)(rw a:Nat->Nat)(c:Nat->Nat->Du):Data w base (.g) 0 b rw a c:=
 ⟨Af _ _ _ _,λi h=>by omega,λi j h=>by omega⟩
theorem d(h:Data w base v k np rw cr pg)(c:E6 9 w w')(a:E6 40 w w'):Data w' base v k np rw cr pg:=
 ⟨a.own h.own,λi b=>⟨(h.row i b).1,c.rw (h.row i b).2⟩,h.inj⟩
theorem push(h:Data w base v k np rw cr pg)(n:E6 9 w w'){r c:Nat}{f:Nat->Du}(m:base<=r)(g:w.heap.size<=r)(l:Rw w' r 9 np (λp=>.string (X (f p)))) (b:w'.ownsRow base 40 1 v' (k+1) ((List.range k).map (λi=>.slice (some ⟨rw i,0,none⟩) np (cr i))++[.b r np c])):Data w' base v' (k+1) np (put rw k r) (put cr k c) (put pg k f):=by
 have d:∀i,i<k->rw i<w.heap.size:=λi a=>(h.row i a).2.lt;refine⟨?_,λi a=>?_,λi j a _ e=>?_⟩
 .rw[rU]at b;have:(List.range (k+1)).map (put (λi=>Value.slice (some ⟨rw i,0,none⟩) np (cr i)) k (.b r np c))=(List.range (k+1)).map (λi=>Value.slice (some ⟨put rw k r i,0,none⟩) np (put cr k c i)):=by
   apply BO;intro i _;unfold put;by_cases e:i=k
   .rw[AD e,AD e,AD e]
   rw[AC e,AC e,AC e]
  rw[this]at b;exact b
 .by_cases e:i=k
  .unfold put;rw[AD e,AD e];exact⟨m,l⟩
  unfold put;rw[AC e,AC e];have:=h.row i U;exact⟨this.1,n.rw this.2⟩
 unfold put at e;by_cases e1:i=k
 .by_cases e2:j=k
  .omega
  rw[AD e1,AC e2]at e;exact Dz (d j U)
 by_cases e2:j=k
 .rw[AC e1,AD e2]at e;exact Dz (d i U)
 rw[AC e1,AC e2]at e;exact h.inj i j U U e
end Data
theorem EM.built{w:Z}{base g:Nat}{T:TypeId}{m:M}{enc:Du->Du}{n o bv:Value}{rw l:Nat->Nat}{q:Nat->Nat->Du}{g4 g5 g6 g7:Int}(e:0<m.a) (B:T≠40/\T≠3/\T≠4/\T≠9) (C:base<=g) (c:w.heap[g]?=some (.cells #[.a m.d,n,o,bv,.a g4,.a g5,.a g6,.a g7] T (0,0))) (a:Data w base n m.a m.d rw l q) (D:∀i p,i<m.a->p<m.d->q i p=enc (m.c i p)) (f:w.ownsRow base 3 1 o m.a ((List.range m.a).map λi=>.a (m.g i:Nat))) (d:w.ownsRow base 4 1 bv m.a ((List.range m.a).map λi=>.bool (m.e i))):∃L,EM w base w.heap.size g T L m enc g4 g5 g6 g7:=by obtain⟨A,x,rfl,t,j⟩:=Wp a.own e;obtain⟨F,z,rfl,s,k⟩:=Wp f e;obtain⟨v,y,rfl,r,h⟩:=Wp d e;refine⟨⟨A,F,v,rw,x,z,y,l⟩,⟨C,lt_of_heap c⟩,⟨t,j.lt⟩,⟨s,k.lt⟩,⟨r,h.lt⟩,λi b=>⟨(a.row i b).1,(a.row i b).2.lt⟩,a.inj,B,c,j,k,h,λi b=>?_⟩;exact(a.row i b).2.congr λp u=>by rw[D i p b u]
end Y
namespace Y
open Go.RowKit Pk
structure BW (w:Z) (B g:Nat) (b:Du) (pos:Nat):Prop where
 a:B<=g
 st:∃v,w.heap[g]?=some (.cells #[v,.a ((8*b.length-pos:Nat):Int)] 279 (0,0))/\w.ownsRow B 5 1 v b.length (b.map λc=>.f (c.toNat:Nat))
 wr:Wr b pos
theorem jg{w:Z}{B n:Nat}{e:TypeId}{v:Value}{d:List Value}(h:w.ownsRow B e 1 v n d)(c:0<n):∃r cap,v=.b r n cap/\B<=r:=by obtain⟨r,cap,a,b,_⟩:=h.form c;exact⟨r,cap,a,b⟩
theorem Vq(u x q:Nat)(d:q<=7)(f:x<2)(e:u<256)(b:u%2^(q+1)=0):bits .or .u8 (u:Int) ((x*2^q:Nat):Int)=((u+x*2^q:Nat):Int):=by
 have a:x*2^q<2^(q+1):=by rw[CF];have:=DN (n:=q) (show 0<2 by omega);have:x*2^q<=1*2^q:=Bt _ U;omega
 have c:2^(q+1)<=2^8:=BK U U;rw[bits_join .u8 8 EB wraps_u8 (q+1) (u:Int) ((x*2^q:Nat):Int) U (by exact_mod_cast b) U U (by exact_mod_cast a) U];omega
theorem Wu(n k j q:Nat)(c:q<=7):bits BinOp.and IntKind.i64 ((n:Int)/2^(k-1-j)) 1%256*2^q%256=((n/2^(k-1-j)%2*2^q:Nat):Int):=by
 rw[ym];have h:((n:Int)/2^(k-1-j))=((n/2^(k-1-j):Nat):Int):=EJ;rw[h];have d:(2:Nat)^q<=2^7:=BK U c;have b:((2:Int)^q)=((2^q:Nat):Int):=EJ;rw[b];generalize n/2^(k-1-j)=y;generalize 2^q=p at *;have a:y%2=0\/y%2=1:=U;rcases a with a|a
 .rw[a];have:(y:Int)%2=0:=U;rw[this];simp
 rw[a];have:(y:Int)%2=1:=U;rw[this];simp;omega
theorem WE{W:Z}{B g r cap:Nat}{c:Du}{p q x y:Nat}(t:B<=g)(b:W.heap[g]?=some (.cells #[.b r c.length cap,.a q] 279 (0,0)))(a:W.ownsRow B 5 1 (.b r c.length cap) c.length (c.map λc=>.f (c.toNat:Nat))) (m:p<8*c.length) (n:8*c.length<=p+8) (A:∀i,p<=i->bt c i=0) (w:x<2) (u:8*c.length-p-1=q) (z:y=(c.getD (c.length-1) 0).toNat+x*2^q):∃c',BW (W.setCell ⟨r,c.length-1,none⟩ (.f y)) B g c' (p+1)/\Ag c c' p/\bt c' p=x/\c'.length=c.length:=by
 obtain⟨_,k,f⟩:=Yn c p x m n A w;rw[u]at k f;have h:(UInt8.ofNat y).toNat=y:=by rw[Bx];omega
 obtain⟨v,o,s⟩:=f (UInt8.ofNat y) (by rw[h,z]);have d:(c.set (c.length-1) (UInt8.ofNat y)).length=c.length:=List.length_set ..;have l:g≠r:=by intro e;subst e;obtain⟨_,_,j⟩:=Lib.ownsRow_kind a g I;rw[b]at j;simp at j
 refine⟨_,⟨t,⟨.b r c.length cap,?_,?_⟩,v⟩,o,s,d⟩
 .rw[d,show 8*c.length-(p+1)=q by omega];rw[AH W ⟨r,c.length-1,none⟩ _ g l];exact b
 have:=(a.stored (c.length-1) (.f y)).1;rw[d];rw[List.map_set,h];exact this
theorem XL(w:Z)(B g:Nat)(b:Du)(pos n k:Nat)(t:B<=w.heap.size)(o:0<b.length)(a:pos<=400000)(x:k<=12)(a:n<2^k)(h:BW w B g b pos):Calls prog 250 #[.c g,.a n,.a k] w λe w'=>e=.a (.tuple #[])/\∃b',BW w' B g b' (pos+k)/\Ag b b' pos/\val b' pos k=n/\Below B w w':=by
 have d:=J a;have a:=J h;have f:n<4096:=by exact Dz (BK (show 0<2 by omega) x)
 obtain⟨C,M,l,s,p⟩:=An IM;go_enter func250,ntmps250;go_wp2;go_loopw [6] (λi wr=>∃j:Nat,j<=k/\i=.a ((k:Int)-1-(j:Int))/\∃c,BW wr B g c (pos+j)/\Ag b c pos/\val c pos j=n/2^(k-j)/\Below B w wr) (λi _=>(intOf i+1).toNat)
 case atStart=>refine⟨0,by omega,by go_num,b,a,Ag.refl _ _,?_,AP _ _⟩;rw[DC,Nat.div_eq_of_lt d.o];rfl
 case round=>
  obtain⟨j,_,rfl,c,L,z,N,v⟩:=hrel;by_cases ay:j<k
  .obtain⟨_,f,m⟩:=L.st;have a:=L.wr;have A:=L.a;have d:=AQ o z.len;have az:=J a;change Hid _ at N z;have o:=a.h;have o:=a.g;obtain⟨r,H,rfl,hr⟩:=jg m d;have aL:decide (0<=(k:Int)-1-(j:Int))=true:=EL;by_cases a:pos+j=8*c.length
   .have a:8*c.length-(pos+j)=0:=U;rw[a]at f;have x0:=EV 0 f;have x1:=EV 1 f;have o:=AG t v.size;have a:c.length<=100000:=U;change Hid _ at f v;go_wp2_with (at_builtin;refine wpList_append_lies _ I (.tmp 22) (.tmp 23) 111 I B 5 C (.f 0) 1 1 underlying111 M l s p I EB (.b r c.length H) c.length _ I (m.alloc _) ⟨wr.heap.size,0,none⟩ 1 1 [.f 0] I I (B9 _ _ _) (by intro u s;simp at s;subst s;rfl) U Fs U EL (wr.heap.size+1) EJ ?_);intro a l D t d _ _;have Q:=(((E6.refl 279 wr).alloc _).C (m.alloc _) EB d).u f;have p:Hid (Below B w D):=(v.o.alloc o _).C d EL (λq C=>(m.lt q C).1);have t:D.ownsRow B 5 1 (.b a (c++[0]).length l) (c++[0]).length ((c++[(0:UInt8)]).map λ(y:UInt8)=>.f y.toNat):=by rw[AM,Au];exact t
    have F:=(t.lt a I).1;have y0:=EV 0 Q;have d:=Fg 0 Q;have o:=AJ D g 0 _ 279 (.b a (c.length+1) l) Q;have y1:=EV 1 o;have d:=Fg 1 o;have V:=AJ _ g 1 _ 279 (.a 8) o;have d:=EV 1 V;have d:=Fg 1 V;have T:=AJ _ g 1 _ 279 (.a 7) V;have G:g≠a:=by intro e;subst e;obtain⟨_,_,x⟩:=Lib.ownsRow_kind t g I;rw[Q]at x;simp at x
    have d:(Value.slice (FH a) (c++[0]).length l).ownBlock≠some g:=by simp[Value.ownBlock];exact λe=>G e.A
    have P:=Bg (a:=⟨g,1,none⟩) (Bg (a:=⟨g,1,none⟩) (Bg (a:=⟨g,0,none⟩) t d (.b a (c.length+1) l)) d (.a 8)) d (.a 7);have S:=J (((p.o.setCell (p:=⟨g,0,none⟩) A (.b a (c.length+1) l)).setCell (p:=⟨g,1,none⟩) A (.a 8)).setCell (p:=⟨g,1,none⟩) A (.a 7));have d:(c++[0]).length=c.length+1:=EJ;have p:=EV 0 T;have p:=EV 1 T;have p:(((D.setCell (O g 0) (.b a (c.length+1) l)).setCell (O g 1) (.a 8)).setCell (O g 1) (.a 7)).cell? (O a c.length)=some (.f 0):=by rw[P.cellAt c.length EJ,Au,Ao EJ];simp
    have p:=P.frozenAt c.length;have R:Hid ((((D.setCell (O g 0) (.b a (c.length+1) l)).setCell (O g 1) (.a 8)).setCell (O g 1) (.a 7)).heap[g]?=some (.cells #[.b a (c++[0]).length l,.a ((7:Nat):Int)] 279 (0,0))):=by show _=_;rw[T,d];rfl
    change Hid _ at P;go_wp2;go_region;have p:bits BinOp.or IntKind.u8 0 (bits BinOp.and IntKind.i64 ((n:Int)/2^(k-1-j)) 1%256*128%256)=((0+n/2^(k-1-j)%2*2^7:Nat):Int):=by have d:=Wu n k j 7 U;rw[show(2:Int)^7=128 by decide]at d;rw[d];exact Vq 0 _ 7 U (BU _ U) U EJ
    rw[p];have V:∀i,pos+j<=i->bt (c++[0]) i=0:=λi M=>ll c i U;obtain⟨d,p,K,Q,T⟩:=WE (c:=c++[0]) (p:=pos+j) (q:=7) (x:=n/2^(k-1-j)%2) (y:=0+n/2^(k-1-j)%2*2^7) A R P EL EL V (BU _ U) EL EJ;rw[show(c++[(0:UInt8)]).length-1=c.length by simp]at p;have R:=S.o.setCell (p:=⟨a,c.length,none⟩) F (.f ((0+n/2^(k-1-j)%2*2^7:Nat):Int));have P:Ag c d pos:=⟨by rw[T];simp,λi M=>by rw[K.bit i U,Wn c [0] i U]⟩;have F:val d pos j=val c pos j:=by rw[K.val pos j U];have S:Ag c (c++[0]) (8*c.length):=⟨by simp,λi M=>Wn c [0] i M⟩;exact S.val pos j U
    have W:val d pos (j+1)=n/2^(k-(j+1)):=by rw[Ov,Q,F,N.o];exact WZ n k j ay
    generalize ((((D.setCell (O g 0) (.b a (c.length+1) l)).setCell (O g 1) (.a 8)).setCell (O g 1) (.a 7)).setCell (O a c.length) (.f ((0+n/2^(k-1-j)%2*2^7:Nat):Int)))=F at *;have S:Hid (BW F.drew B g d (pos+(j+1))/\Ag b d pos/\val d pos (j+1)=n/2^(k-(j+1))/\Below B w F.drew):=⟨⟨p.a,p.st,p.wr⟩,z.o.i P (AB _),W,R.drew⟩;go_wp2;go_roundw
    case rel=>exact⟨j+1,by omega,by go_num,d,S⟩
    case measure=>simp[intOf];omega
   obtain⟨q,C⟩:∃q,8*c.length-(pos+j)=q+1:=⟨8*c.length-(pos+j)-1,by omega⟩;rw[C]at f;have a:q<=6:=U;have x0:=EV 0 f;have x1:=EV 1 f;have f1:=Fg 1 f;have a:(((q+1:Nat):Int)==0)=false:=EL;have o:=AJ wr g 1 _ 279 (.a q) f;have y0:=EV 0 o;have y1:=EV 1 o;have G:g≠r:=by intro e;subst e;obtain⟨_,_,x⟩:=Lib.ownsRow_kind m g I;rw[f]at x;simp at x
   obtain⟨u,s⟩:=E ((c.getD (c.length-1) 0).toNat);have f:(wr.setCell (O g 1) (.a q)).cell? ⟨r,c.length-1,none⟩=some (.f u):=by rw[jB _ (λe=>G e.A),m.cellAt (c.length-1) U,s,BI,AI,AE U];rfl
   have f:(wr.setCell (O g 1) (.a q)).frozen? ⟨r,c.length-1,none⟩=false:=by rw[jG _ (λe=>G e.A)];exact m.frozenAt (c.length-1)
   have f:u<256:=by rw[s];exact UInt8.toNat_lt _
   change Hid _ at s C o m v;rw[show((q+1:Nat):Int)=(q:Int)+1 by omega]at x1 a;go_wp2;go_region;rw[Wu n k j q U,Vq u (n/2^(k-1-j)%2) q U (BU _ U) f (by have:=(Yn c (pos+j) 0 U U az.o.zero U).1;rw[C.o]at this;rw[s.o];exact this)]
   have t:(wr.setCell (O g 1) (.a q)).ownsRow B 5 1 (.b r c.length H) c.length (c.map λc=>.f (c.toNat:Nat)):=Bg m (by simp[Value.ownBlock];exact λe=>G e.A) _;obtain⟨d,p,K,Q,T⟩:=WE (p:=pos+j) (q:=q) (x:=n/2^(k-1-j)%2) (y:=u+n/2^(k-1-j)%2*2^q) A o.o t U U az.o.zero (BU _ U) (Dz C.o) (by rw[s.o]);have R:=(v.o.setCell (p:=⟨g,1,none⟩) A (.a q)).setCell (p:=⟨r,c.length-1,none⟩) hr (.f ((u+n/2^(k-1-j)%2*2^q:Nat):Int));have W:val d pos (j+1)=n/2^(k-(j+1)):=by rw[Ov,Q,K.val pos j U,N.o];exact WZ n k j ay
   generalize ((wr.setCell (O g 1) (.a q)).setCell ⟨r,c.length-1,none⟩ (.f ((u+n/2^(k-1-j)%2*2^q:Nat):Int)))=F at *;have S:Hid (BW F.drew B g d (pos+(j+1))/\Ag b d pos/\val d pos (j+1)=n/2^(k-(j+1))/\Below B w F.drew):=⟨⟨p.a,p.st,p.wr⟩,z.o.i K U,W,R.drew⟩;go_wp2;go_roundw
   case rel=>exact⟨j+1,by omega,by go_num,d,S⟩
   case measure=>simp[intOf];omega
  have a:j=k:=U;subst a;have aL:decide (0<=(j:Int)-1-(j:Int))=false:=EL;change Hid _ at L z N v;go_wp2;go_end0;refine⟨I,c,L,z,?_,v⟩;have:=N;rw[Ds,Nat.pow_zero,Nat.div_one]at this;exact this
end Y
namespace Y.Pk
variable {b b' d:Du} {z:Nat->Int} {p pos F i a:Nat}
theorem iS(f:Du)(k i:Nat):bt (f.drop k) i=bt f (8*k+i):=by unfold bt;rw[AI,AI,C4,show k+i/8=(8*k+i)/8 by omega,show(8*k+i)%8=i%8 by omega]
theorem Tw(f:Du)(k p d:Nat):val (f.drop k) p d=val f (8*k+p) d:=by
 induction d with
 |zero=>rfl
 |succ d a=>rw[Ov,Ov,a,iS,DK]
def zp(z:Nat->Int)(p:Nat):Nat->Int:=λj=>if j<p then z j else 0
theorem yQ(z:Nat->Int):zp z 0=λ_=>0:=by funext j;simp[zp]
theorem qf(z:Nat->Int)(n:Nat)(h:∀i,n<=i->z i=0):zp z n=z:=by
 funext j;unfold zp;split
 .rfl
 exact(h j U).A
theorem oC(z:Nat->Int)(p:Nat):upd (zp z p) p (z p)=zp z (p+1):=by
 funext j;unfold upd zp;by_cases e:j=p
 .subst e;simp
 rw[AC e];by_cases h:j<p
 .rw[AD h,AD U]
 rw[AC h,AC U]
theorem rG(z:Nat->Int)(p k:Nat)(h:∀i,i<k->z (p+i)=0):zp z p=zp z (p+k):=by
 funext j;unfold zp;by_cases a:j<p
 .rw[AD a,AD U]
 rw[AC a];by_cases b:j<p+k
 .rw[AD b];have:=h (j-p) U;rw[show p+(j-p)=j by omega]at this;exact this.A
 rw[AC b]
theorem uS(i:p<288)(g:24<=pos)(m:1<=z p)(d:pos+4<=8*b'.length)(j:val b' pos 4=(z p).toNat)(a:Ag b b' pos) (R:Du->Option ((Nat->Int)×Nat)) (h:∀f,Ag b f pos->R f=FX (f.drop 3) (F+1) p (pos-24) (zp z p)):∀f,Ag b' f (pos+4)->R f=FX (f.drop 3) F (p+1) (pos+4-24) (zp z (p+1)):=by
 intro f c;rw[h f (a.i (c.l U) (AB _))];have l:(f.drop 3).length=f.length-3:=BX ..;have k:=c.len;have e:val (f.drop 3) (pos-24) 4=(z p).toNat:=by rw[Tw,show 8*3+(pos-24)=pos by omega,c.val pos 4 U,j]
 rw[jh _ _ _ _ _ i U U,e,show((z p).toNat:Int)=z p by omega,oC,show pos-24+4=pos+4-24 by omega]
theorem xq{k:Nat}(r:p+k<288)(l:24<=pos)(n:∀i,i<k+1->z (p+i)=0)(e:pos+9<=8*b'.length)(m:val b' pos 4=0)(d:val b' (pos+4) 5=k)(c:Ag b b' pos) (R:Du->Option ((Nat->Int)×Nat)) (h:∀f,Ag b f pos->R f=FX (f.drop 3) (F+1) p (pos-24) (zp z p)):∀f,Ag b' f (pos+9)->R f=FX (f.drop 3) F (p+1+k) (pos+9-24) (zp z (p+1+k)):=by
 intro f a;rw[h f (c.i (a.l U) (AB _))];have q:(f.drop 3).length=f.length-3:=BX ..;have o:=a.len;have g:val (f.drop 3) (pos-24) 4=0:=by rw[Tw,show 8*3+(pos-24)=pos by omega,a.val pos 4 U,m]
 have j:val (f.drop 3) (pos-24+4) 5=k:=by rw[Tw,show 8*3+(pos-24+4)=pos+4 by omega,a.val (pos+4) 5 U,d]
 rw[jN _ _ _ _ _ U U g U U,j,rG z p (k+1) n,show p+(k+1)=p+1+k by omega,show pos-24+9=pos+9-24 by omega]
def nz(z:Nat->Int):Nat->Nat
 | 0=>0
 | p+1=>nz z p+if z p=0 then 0 else 1
theorem sV(z:Nat->Int)(p k:Nat)(h:∀i,i<k->z (p+i)=0):nz z (p+k)=nz z p:=by
 induction k with
 |zero=>rfl
 |succ k a=>rw[<-DK,nz,a (λi _=>h i U),AD (h k U)];rfl
theorem fF(z:Nat->Int)(p:Nat):nz z p<=p:=by
 induction p with
 |zero=>exact AB _
 |succ p a=>unfold nz;split<;>omega
def JO(s:Nat×Nat):Nat:=if s.1<256 then 1 else s.1-253
structure Pw (d:Du) (at_:Nat) (s:Nat×Nat):Prop where
 lt:s.1<288
 fit:at_+JO s<=d.length
 byte:s.1<256->(d.getD at_ 0).toNat=s.1
 copy:¬s.1<256->1<=s.2/\s.2<=4096/\s.2<=at_/\∀i,i<s.1-253->d.getD (at_+i) 0=d.getD (at_+i-s.2) 0
theorem iF(d:Du)(n:Nat)(h:n<d.length):d.take (n+1)=d.take n++[d.getD n 0]:=by rw[Al,AI,AE h];rfl
theorem oE(d:Du)(a back k:Nat)(e:1<=back)(b:back<=a)(f:a+k<=d.length)(h:∀i,i<k->d.getD (a+i) 0=d.getD (a+i-back) 0):OA (d.take a) back k=d.take (a+k):=by
 induction k with
 |zero=>rfl
 |succ k c=>rw[OA,c U (λi _=>h i U),<-DK,iF d (a+k) U,Ac,Bz U,h k U];congr 2;rw[AI,Aq U,AI]
theorem kY{f:Du}(a:i<288)(d:1<=z i)(b:pos+(z i).toNat<=8*f.length)(c:val f pos (z i).toNat=num z 288 i):Jn f z pos 288=some i:=
 U9 f z pos i a ((Rz f z pos i).2 ⟨d,b,c.A⟩)
theorem sG(j:24<=pos)(m:i<256)(p:1<=z i)(k:a<d.length)(l:(d.getD a 0).toNat=i)(g:pos+(z i).toNat<=8*b'.length)(o:val b' pos (z i).toNat=num z 288 i)(c:Ag b b' pos) (R:Du->Option (Du×Nat)) (h:∀f,Ag b f pos->R f=FR (f.drop 3) z 288 d.length (F+1) (d.take a) (pos-24)):∀f,Ag b' f (pos+(z i).toNat)->R f=FR (f.drop 3) z 288 d.length F (d.take (a+1)) (pos+(z i).toNat-24):=by intro f e;rw[h f (c.i (e.l U) (AB _))];have r:(f.drop 3).length=f.length-3:=BX ..;have q:=e.len;have n:Jn (f.drop 3) z (pos-24) 288=some i:=kY U p U (by rw[Tw,show 8*3+(pos-24)=pos by omega,e.val pos _ U,o]);rw[kR _ _ _ _ _ _ _ i (by rw[Ac];omega) n m,iF d a k,show pos-24+(z i).toNat=pos+(z i).toNat-24 by omega];rw[<-l,UInt8.ofNat_toNat]
theorem yR{back:Nat}(o:24<=pos)(s:¬i<256)(t:i<288)(w:1<=z i)(p:a+(i-253)<=d.length)(q:1<=back)(g:back<=a)(r:∀j,j<i-253->d.getD (a+j) 0=d.getD (a+j-back) 0)(m:pos+(z i).toNat+12<=8*b'.length)(v:val b' pos (z i).toNat=num z 288 i)(k:val b' (pos+(z i).toNat) 12=back-1)(e:Ag b b' pos) (R:Du->Option (Du×Nat)) (h:∀f,Ag b f pos->R f=FR (f.drop 3) z 288 d.length (F+1) (d.take a) (pos-24)):∀f,Ag b' f (pos+(z i).toNat+12)->R f=FR (f.drop 3) z 288 d.length F (d.take (a+(i-253))) (pos+(z i).toNat+12-24):=by
 intro f c;rw[h f (e.i (c.l U) (AB _))];have y:(f.drop 3).length=f.length-3:=BX ..;have x:=c.len;have u:Jn (f.drop 3) z (pos-24) 288=some i:=kY U w U (by rw[Tw,show 8*3+(pos-24)=pos by omega,c.val pos _ U,v]);have l:val (f.drop 3) (pos-24+(z i).toNat) 12=back-1:=by rw[Tw,show 8*3+(pos-24+(z i).toNat)=pos+(z i).toNat by omega,c.val _ 12 U,k]
 have n:(d.take a).length=a:=by rw[Ac];omega
 rw[kT _ _ _ _ _ _ _ i U u s U (by rw[l,n];omega),l,show back-1+1=back by omega,oE d a back _ q g p r,show pos-24+(z i).toNat+12=pos+(z i).toNat+12-24 by omega]
theorem nT(s:Du)(p k:Nat)(h:∀i,p<=i->bt s i=0):val s p k=0:=by
 induction k with
 |zero=>rfl
 |succ k a=>rw[Ov,a,h _ U]
theorem oB{T:Du}{p1 p2:Nat}(b:24<=p2)(e:Fits z 288)(a:Wr T p2)(f:FX (T.drop 3) 288 0 0 (λ_=>0)=some (z,p1-24))(c:FR (T.drop 3) z 288 d.length d.length [] (p1-24)=some (d,p2-24)):Iu (T.drop 3) 288 d.length=some d:=by have j:(T.drop 3).length=T.length-3:=BX ..;have g:=a.h;have h:=a.g;rw[gS _ _ _ z (p1-24) (p2-24) d f ((Z4 z 288).2 e) c,AD];refine⟨by omega,nT _ _ _ λi _=>?_⟩;rw[iS];exact a.zero _ U
end Y.Pk
namespace Y
open Go.RowKit Pk
variable {z:Nat->Int} {c c':Du} {p pos:Nat}
structure WL (z:Nat->Int) (c:Du) (p pos:Nat):Prop where
 e:p<=288
 ps:∃ch,pos=24+4*nz z p+9*ch/\(32*ch<=p+32*nz z p\/(32*ch<=p+32*(nz z p+1)/\(p=288\/z p≠0)))
 rd:∃F,288<=p+F/\∀f,Ag c f pos->FX (f.drop 3) 288 0 0 (λ_=>0)=FX (f.drop 3) F p (pos-24) (zp z p)
theorem WL.init(z:Nat->Int)(c:Du):WL z c 0 24:=
 ⟨by omega,⟨0,I,.w U⟩,288,by omega,λf _=>by rw[yQ]⟩
theorem WL.bound(h:WL z c p pos):24<=pos/\pos<=24+13*nz z p+90:=by obtain⟨_,_,_⟩:=h.ps;exact Dz h.e
theorem WL.one(h:WL z c p pos)(e:p<288)(j:1<=z p)(i:Wr c' (pos+4))(g:val c' pos 4=(z p).toNat)(d:Ag c c' pos):WL z c' (p+1) (pos+4):=by
 obtain⟨b,_,_⟩:=h.ps;obtain⟨F,hF,f⟩:=h.rd;have k:nz z (p+1)=nz z p+1:=by rw[nz,AC U]
 obtain⟨a,rfl⟩:∃a,F=a+1:=⟨F-1,by omega⟩;exact⟨by omega,⟨b,by omega,.w U⟩,a,by omega,uS e h.bound.1 j i.h g d _ f⟩
theorem WL.run{k:Nat}(h:WL z c p pos)(n:p+k<288)(t:k<=31)(f:∀i,i<k+1->z (p+i)=0)(b:k=31\/p+1+k=288\/z (p+1+k)≠0)(r:Wr c' (pos+9))(q:val c' pos 4=0)(e:val c' (pos+4) 5=k)(l:Ag c c' pos):WL z c' (p+1+k) (pos+9):=by
 obtain⟨j,_,a⟩:=h.ps;obtain⟨F,hF,o⟩:=h.rd;have m:nz z (p+1+k)=nz z p:=by rw[show p+1+k=p+(k+1) by omega];exact sV z p (k+1) f
 obtain⟨d,rfl⟩:∃d,F=d+1:=⟨F-1,by omega⟩;have g:=f 0 U;rw[Bq]at g;have s:32*j<=p+32*nz z p:=by
  rcases a with a|⟨_,a|a⟩
  .exact a
  .omega
  exact absurd g a
 refine⟨by omega,⟨j+1,by omega,?_⟩,d,by omega,xq n h.bound.1 f r.h q e l _ o⟩;rw[m];rcases b with b|b|b
 .left;omega
 .right;exact⟨by omega,.w b⟩
 right;exact⟨by omega,.s b⟩
theorem WL.done(h:WL z c 288 pos)(d:∀i,288<=i->z i=0):∀f,Ag c f pos->FX (f.drop 3) 288 0 0 (λ_=>0)=some (z,pos-24):=by intro f a;obtain⟨_,hF,b⟩:=h.rd;rw[b f a,jC,qf z 288 d]
theorem rI(w:Z)(B g lb:Nat)(b:Du)(z:Nat->Int)(G:B<=w.heap.size)(T:0<b.length)(H:lb<B)(o:w.rowIs lb 3 288 (λj=>.a (z j)))(l:∀i,0<=z i/\z i<=12)(K:∀i,288<=i->z i=0)(h:BW w B g b 24):Calls prog 249 #[.c g,.b lb 288 288] w λe w'=>e=.a (.tuple #[])/\∃b' pos,BW w' B g b' pos/\Ag b b' 24/\24<=pos/\pos<=24+13*nz z 288+90/\(∀f,Ag b' f pos->FX (f.drop 3) 288 0 0 (λ_=>0)=some (z,pos-24))/\Below B w w':=by
 have k:=J h;have Q:=J l;have aO:=J K;have v:=J o;clear l K h o;go_enter func249,ntmps249;go_wp2;go_loopw [4] (λi wr=>∃p pos:Nat,∃c,i=.a p/\Hid (WL z c p pos)/\Hid (BW wr B g c pos)/\Hid (Ag b c 24)/\Hid (Below B w wr)) (λi _=>288-(intOf i).toNat)
 case atStart=>exact⟨0,24,b,I,WL.init z b,k,Ag.refl _ _,AP _ _⟩
 case round=>
  clear k;obtain⟨p,pos,c,rfl,r,R,N,F⟩:=hrel;have M:=r.o.e;have V:=r.o.bound;have A:=fF z p;by_cases az:p<288
  .have s:=(Oz v.o F.o H).cell (i:=p) az;have u:=Q.o p;obtain⟨n,d⟩:∃n:Nat,z p=(n:Int):=⟨(z p).toNat,by omega⟩;have A:=J d;rw[d]at s;have x:n<=12:=U;clear d u;have l:B<=wr.s:=AG G F.o.size;go_wp2_with fail;refine(XL _ B g c pos n 4 l (AQ T N.o.len) U U U R.o).l ?_;rintro e d ⟨rfl,c1,u,S,l,m⟩;have t:=J (F.o.i m);have M:=Oz v.o t.o H;have k:=M.cell (i:=p) az;rw[A.o]at k;have D:=J (N.o.i S V.1);have o:=J u;have v:=J S;have x:=J l;have H:B<=d.s:=AG G t.o.size;clear u S l m s F N R;by_cases S:n=0
   .subst S;go_wp2;have l:∀i,i<288->d.g lb i (.a (z i)):=λi m=>M.cell m;have G:=J l;have m:=J (λi=>(Q.o i).1);clear l M k;go_loopw [5] (λi wr=>∃q:Nat,i=.a q/\q<=31/\p+q<288/\Hid (∀j,j<q+1->z (p+j)=0)/\wr=d) (λi _=>32-(intOf i).toNat)
    case atStart=>exact⟨0,I,by omega,by omega,λj K=>by rw[show p+j=p by omega];exact A.o,I⟩
    obtain⟨q,rfl,m,s,L,rfl⟩:=hrel;have C:Hid (q=31\/p+1+q=288\/z (p+1+q)≠0->∀c2,Wr c2 (pos+9)->Ag c1 c2 (pos+4)->val c2 (pos+4) 5=q->WL z c2 (p+q+1) (pos+9)):=λk c2 u d l=>by rw[show p+q+1=p+1+q by omega];exact r.o.run s m L.o k u (by rw[d.val pos 4 (AB _)];exact x.o) l (v.o.i d U)
    by_cases P:q<31/\p+q+1<288/\z (p+q+1)=0
    .obtain⟨_,m,k⟩:=P;have S:=G.o (p+q+1) m;rw[k]at S;have m:Hid (∀j,j<q+1+1->z (p+j)=0):=λj K=>by
      by_cases e:j=q+1
      .subst e;exact k
      exact L.o j U
     clear L k C;have k:decide ((q:Int)<31)=true:=EL;have k:decide ((p:Int)+(q:Int)+1<288)=true:=EL;go_wp2;go_roundw
     case rel=>exact⟨q+1,by go_num,by omega,by omega,m,by trivial⟩
     case measure=>simp[intOf];omega
    have s:Hid (∀c2,Wr c2 (pos+9)->Ag c1 c2 (pos+4)->val c2 (pos+4) 5=q->WL z c2 (p+q+1) (pos+9)):=C.o (by
     by_cases a:q=31
     .exact .w a
     by_cases b:p+1+q=288
     .exact .s (.w b)
     refine .s (.s λh=>P ⟨by omega,by omega,?_⟩);rw[show p+q+1=p+1+q by omega];exact h)
    clear C L;have k:=XL wr B g c1 (pos+4) q 5 H (AQ T D.o.len) U U U o.o;have u:=J k;clear k;have k:(31<=q)\/(q<31/\p+q+1=288)\/(q<31/\p+q+1<288/\z (p+q+1)≠0):=by
     by_cases a:31<=q
     .exact .w a
     by_cases b:p+q+1=288
     .exact .s (.w ⟨by omega,b⟩)
     exact .s (.s ⟨by omega,by omega,λh=>P ⟨by omega,by omega,h⟩⟩)
    clear P;rcases k with a|⟨a,b⟩|⟨a,b,c0⟩;focus
     have P:decide ((q:Int)<31)=false:=EL;go_wp2_with fail;refine u.o.l ?_;rintro e H ⟨rfl,c2,k,d,l,m⟩;have L:=J (s.o c2 k.wr d l);have W:=J (D.o.i d U);have T:=J (t.o.i m);have K:=J k;clear k d l m u s G x v
    rotate_left
    focus
     have P:decide ((q:Int)<31)=true:=EL;have a2:decide ((p:Int)+(q:Int)+1<288)=false:=EL;go_wp2_with fail;refine u.o.l ?_;rintro e H ⟨rfl,c2,k,d,l,m⟩;have L:=J (s.o c2 k.wr d l);have W:=J (D.o.i d U);have T:=J (t.o.i m);have K:=J k;clear k d l m u s G x v
    rotate_left
    focus
     have P:decide ((q:Int)<31)=true:=EL;have a2:decide ((p:Int)+(q:Int)+1<288)=true:=EL;have S:=G.o (p+q+1) b;have P:=Q.o (p+q+1);have P:(z (p+q+1)==0)=false:=by simp;exact c0
     clear c0;generalize z (p+q+1)=y at *;go_wp2_with fail;refine u.o.l ?_;rintro e H ⟨rfl,c2,k,d,l,m⟩;have L:=J (s.o c2 k.wr d l);have W:=J (D.o.i d U);have T:=J (t.o.i m);have K:=J k;clear k d l m u s G x v S
    rotate_left
    all_goals
     go_wp2;go_roundw
     case rel=>exact⟨p+q+1,pos+9,c2,by go_num,L,K,W,T⟩
     case measure=>simp[intOf];omega
   have d:(0:Int)<(n:Int):=U;have C:=J (r.o.one az (Dz A.o) o.o.wr (by rw[x.o,A.o];rfl) v.o);clear r A x v M;go_wp2;go_roundw
   case rel=>exact⟨p+1,pos+4,c1,by go_num,C,o,D,t⟩
   case measure=>simp[intOf];omega
  have k:p=288:=U;subst k;go_wp2;go_end0;exact⟨I,c,pos,R.o,N.o,V.1,V.2,r.o.done aO.o,F.o⟩
end Y
namespace Y.Pk
open Go
structure GQ where
 wt:Nat
 a:Nat
 b:Nat
 n:Nat
 c:Nat
def GQ.v(e:GQ):Value:=.b e.b e.n e.c
def Gf:GQ:=⟨0,0,0,0,0⟩
def Ju:List GQ->List Value
 | []=>[]
 | e::es=>.a e.wt :: .a e.a::e.v::Ju es
theorem pY(es:List GQ):(Ju es).length=es.length*3:=by
 induction es with
 |nil=>rfl
 |cons e es a=>simp[Ju,a];omega
theorem sQ(a b:List GQ):Ju (a++b)=Ju a++Ju b:=by
 induction a with
 |nil=>rfl
 |cons e a c=>simp[Ju,c]
theorem Sk(es:List GQ)(i:Nat)(h:i<es.length):(Ju es)[3*i]?=some (.a ((es.getD i Gf).wt:Nat))/\(Ju es)[3*i+1]?=some (.a ((es.getD i Gf).a:Nat))/\(Ju es)[3*i+2]?=some (es.getD i Gf).v:=by
 induction es generalizing i with
 |nil=>simp at h
 |cons e es a=>
  cases i with
  |zero=>simp[Ju]
  |succ i=>have:=a i (EU h);rw[show 3*(i+1)=3*i+1+1+1 by omega,show 3*i+1+1+1+1=(3*i+1)+1+1+1 by omega,show 3*i+1+1+1+2=(3*i+2)+1+1+1 by omega];simpa[Ju]using this
theorem nU(es:List GQ)(i:Nat)(e:GQ):(((Ju es).set (3*i) (.a e.wt)).set (3*i+1) (.a e.a)).set (3*i+2) e.v=Ju (es.set i e):=by
 induction es generalizing i with
 |nil=>simp[Ju]
 |cons x es a=>
  cases i with
  |zero=>simp[Ju]
  |succ i=>have:=a i;rw[show 3*(i+1)=3*i+1+1+1 by omega,show 3*i+1+1+1+1=(3*i+1)+1+1+1 by omega,show 3*i+1+1+1+2=(3*i+2)+1+1+1 by omega];simpa[Ju]using this
theorem tK(es:List GQ)(k:Nat):(Ju es).take (k*3)=Ju (es.take k):=by
 induction es generalizing k with
 |nil=>simp[Ju]
 |cons x es a=>
  cases k with
  |zero=>simp[Ju]
  |succ k=>rw[D9,show k*3+1*3=k*3+1+1+1 by omega];simp[Ju,a]
def wa(es:List GQ)(i:Nat):Nat:=(es.getD i Gf).wt
def swp(es:List GQ)(i j:Nat):List GQ:=(es.set i (es.getD j Gf)).set j (es.getD i Gf)
theorem Qq(es:List GQ)(i j:Nat):(swp es i j).length=es.length:=by simp[swp]
theorem eP(es:List GQ)(i j:Nat)(a:i<es.length)(b:j<es.length):List.Perm (swp es i j) es:=by have:=List.set_set_perm a b;unfold swp;rw[AI,AE b,AI,AE a];exact this
theorem Rt(es:List GQ)(i j k:Nat)(b:i<es.length)(c:j<es.length):wa (swp es i j) k=if k=j then wa es i else if k=i then wa es j else wa es k:=by
 unfold wa swp;rw[AI,List.getElem?_set];by_cases h:j=k
 .subst h;simp[b,c]
 rw[AC h,AC (λe=>h e.A),List.getElem?_set];by_cases a:i=k
 .subst a;simp[b,c]
 rw[AC a,AC (λe=>a e.A),AI]
def LD(es:List GQ):Prop:=∀i,0<i->i<es.length->wa es ((i-1)/2)<=wa es i
structure RI (es:List GQ) (a:Nat):Prop where
 all:∀i,0<i->i<es.length->i≠a->wa es ((i-1)/2)<=wa es i
 skip:∀i,0<i->i<es.length->(i-1)/2=a->0<a->wa es ((a-1)/2)<=wa es i
structure SI (es:List GQ) (a:Nat):Prop where
 all:∀i,0<i->i<es.length->(i-1)/2≠a->wa es ((i-1)/2)<=wa es i
 skip:∀i,0<i->i<es.length->(i-1)/2=a->0<a->wa es ((a-1)/2)<=wa es i
theorem sF{es:List GQ}{a:Nat}(h:RI es a)(o:0<a)(g:a<es.length)(m:wa es a<=wa es ((a-1)/2)):RI (swp es a ((a-1)/2)) ((a-1)/2):=by
 have d:(a-1)/2<es.length:=U;obtain⟨b,k⟩:=E ((a-1)/2);rw[<-k]at m d |-;constructor
 .intro i f c l;rw[Qq]at c;rw[Rt es a b _ g d,Rt es a b _ g d];rw[AC l];by_cases e:i=a
  .subst e;rw[AD k.A,AD I];exact m
  rw[AC e];have j:=h.all i f c e;by_cases e1:(i-1)/2=b
  .rw[AD e1];rw[e1]at j;omega
  rw[AC e1];by_cases e2:(i-1)/2=a
  .rw[AD e2];have:=h.skip i f c e2 o;rw[<-k]at this;exact this
  rw[AC e2];exact j
 intro i f c l p;rw[Qq]at c;rw[Rt es a b _ g d,Rt es a b _ g d];have n:=h.all b p d U;rw[AC U,AC (by omega:¬(b-1)/2=a)];by_cases e:i=b
 .omega
 rw[AC e];by_cases e2:i=a
 .rw[AD e2];exact n
 rw[AC e2];have j:=h.all i f c e2;rw[l]at j;omega
theorem j6{es:List GQ}{a:Nat}(h:RI es a)(b:a=0\/wa es ((a-1)/2)<=wa es a):LD es:=by
 intro i c d;by_cases e:i=a
 .subst e;rcases b with b|b
  .omega
  exact b
 exact h.all i c d e
theorem ov{es:List GQ}{a b:Nat}(h:SI es a)(c:(b-1)/2=a)(l:0<b)(f:b<es.length)(o:wa es b<=wa es a)(m:∀i,0<i->i<es.length->(i-1)/2=a->wa es b<=wa es i):SI (swp es a b) b:=by
 have j:a<es.length:=U;constructor
 .intro i g d k;rw[Qq]at d;rw[Rt es a b _ j f,Rt es a b _ j f];rw[AC k];by_cases e:i=b
  .subst e;rw[AD c,AD I];exact o
  rw[AC e];by_cases e1:(i-1)/2=a
  .rw[AD e1,AC U];exact m i g d e1
  rw[AC e1];have n:=h.all i g d e1;by_cases e2:i=a
  .rw[AD e2,e2];have:=h.skip b l f c U;exact this
  rw[AC e2];exact n
 intro i g d k _;rw[Qq]at d;rw[Rt es a b _ j f,Rt es a b _ j f];rw[AC U,AD c,AC U,AC U];have:=h.all i g d U;rw[k]at this;exact this
theorem uX{es:List GQ}{a:Nat}(h:SI es a)(d:∀i,0<i->i<es.length->(i-1)/2=a->wa es a<=wa es i):LD es:=by
 intro i b c;by_cases e:(i-1)/2=a
 .rw[e];exact d i b c e
 exact h.all i b c e
theorem yD{es:List GQ}(h:LD es):∀i,i<es.length->wa es 0<=wa es i:=by
 intro i;induction i using Nat.strongRecOn with
 |_ i b=>
  intro a;by_cases e:i=0
  .subst e;exact AB _
  exact AG (b ((i-1)/2) U U) (h i U a)
theorem i6(es:List GQ)(e:GQ)(i:Nat)(h:i<es.length):wa (es++[e]) i=wa es i:=by unfold wa;rw[AI,BG h,AI]
theorem tq{es:List GQ}(h:LD es)(e:GQ):RI (es++[e]) es.length:=by
 constructor
 .intro i c a d;have b:i<es.length:=by simp at a;omega
  rw[i6 es e i b,i6 es e _ U];exact h i c b
 intro i c a d _;simp at a;omega
def Gc(es:List GQ):List GQ:=(es.set 0 (es.getD (es.length-1) Gf)).take (es.length-1)
theorem ZJ(es:List GQ):(Gc es).length=es.length-1:=by simp[Gc]
theorem fm(es:List GQ)(i:Nat)(h:0<i)(a:i<es.length-1):wa (Gc es) i=wa es i:=by unfold wa Gc;rw[AI,Aq a,Dl U,AI]
theorem uj{es:List GQ}(h:LD es):SI (Gc es) 0:=by
 constructor
 .intro i a b c;rw[ZJ]at b;rw[fm es i a b,fm es _ U U];exact h i a U
 intro i a b c _;omega
theorem jv(e:GQ)(r:List GQ):List.Perm (Gc (e::r)) r:=by
 cases h:r.reverse with
 |nil=>have:r=[]:=EU h;subst this;exact List.Perm.refl _
 |cons x l=>
  have a:r=l.reverse++[x]:=by have:=AX List.reverse h;simpa using this
  subst a;have:Gc (e::(l.reverse++[x]))=x::l.reverse:=by
   unfold Gc;have b:(e::(l.reverse++[x])).getD ((e::(l.reverse++[x])).length-1) Gf=x:=by rw[AI];simp[List.getElem?_cons]
   rw[b];simp[List.take_append]
  rw[this];exact(List.perm_append_singleton x _).A
end Y.Pk
namespace Y
open Go.RowKit Pk
theorem kp(w:Z)(p s q t:Nat)(x y:Value):Calls prog 338 #[.agg #[.a p,.a s,x],.agg #[.a q,.a t,y]] w λe w'=>∃r:Bool,e=.a (.bool r)/\(r=true->p<=q)/\(r=false->q<=p)/\∃c d,w'=(w.alloc c).alloc d:=by
 by_cases h:(p:Int)=(q:Int)
 .have b:((p:Int) != (q:Int))=false:=by simp[h]
  go_enter func338,ntmps338;go_wp2;go_ret;exact⟨_,I,by omega,by omega,_,_,I⟩
 have b:((p:Int) != (q:Int))=true:=by simp[h]
 go_enter func338,ntmps338;go_wp2;go_ret;exact⟨_,I,by intro a;simp at a;omega,by intro a;simp at a;omega,_,_,I⟩
structure QM (w:Z) (B qb:Nat) (es:List GQ) (pu:Nat):Prop where
 a:B<=qb
 st:∃v,w.heap[qb]?=some (.cells #[v,.a pu] 341 (0,0))/\w.ownsRow B 344 3 v es.length (Ju es)
structure Fr (B:Nat) (w w':Z):Prop where
 b:Below B w w'
 ints:E6 3 w w'
theorem Fr.refl(B:Nat)(w:Z):Fr B w w:=⟨AP _ _,E6.refl _ _⟩
theorem Fr.i{B:Nat}{a b c:Z}(h:Fr B a b)(k:Fr B b c):Fr B a c:=⟨h.b.i k.b,h.ints.i k.ints⟩
theorem Yo{w:Z}{B n:Nat}{e:TypeId}{v:Value}{c:List Value}(h:w.ownsRow B e 3 v n c)(d:0<n):∃r cap,v=.b r n cap/\B<=r/\n<=cap:=by
 rcases h.2 with⟨rfl,rfl⟩|⟨g,cap,_,rfl,a,_,b,_⟩
 .omega
 exact⟨g,cap,I,a,b⟩
theorem QM.of{w w':Z}{B d:Nat}{es:List GQ}{l:Nat}(h:QM w B d es l)(j:∀k,k<w.heap.size->w'.heap[k]?=w.heap[k]?):QM w' B d es l:=by
 obtain⟨v,e,f⟩:=h.st;refine⟨h.a,v,(j d (lt_of_heap e)).i e,f.1,?_⟩;rcases f.2 with c|⟨g,a,b,c,m,i,n⟩
 .exact .w c
 exact .s ⟨g,a,b,c,m,(j g (lt_of_heap i)).i i,n⟩
theorem Fr.alloc{B:Nat}{a b:Z}(h:Fr B a b)(c:B<=b.heap.size)(o:Obj):Fr B a (b.alloc o):=⟨h.b.alloc c o,h.ints.alloc o⟩
theorem Fr.drew{B:Nat}{a b:Z}(h:Fr B a b):Fr B a b.drew:=⟨h.b.drew,h.ints.drew⟩
theorem Fr.size{B:Nat}{a b:Z}(h:Fr B a b)(c:B<=a.heap.size):B<=b.heap.size:=AG c h.b.size
theorem UD(w:Z)(a b:Obj)(k:Nat)(c:k<w.heap.size):((w.alloc a).alloc b).drew.heap[k]?=w.heap[k]? := by show((w.alloc a).alloc b).heap[k]?=_;rw[AO _ _ k EL,AO _ _ k c]
theorem QM.drew{w:Z}{B b:Nat}{es:List GQ}{a:Nat}(h:QM w B b es a):QM w.drew B b es a:=h.of λ_ _=>rfl
theorem QM.make{w:Z}{B a:Nat}{es:List GQ}{b n:Nat}{v:Value}(c:B<=a)(h:w.heap[a]?=some (.cells #[v,.a b] 341 (0,0)))(d:es.length=n)(e:w.ownsRow B 344 3 v n (Ju es)):QM w B a es b:=by subst d;exact⟨c,v,h,e⟩
def Em(W:Z)(r i:Nat)(e:GQ):Z:=((W.setCell (O r (i*3)) (.a e.wt)).setCell (O r (i*3+1)) (.a e.a)).setCell (O r (i*3+2)) (.b e.b e.n e.c)
theorem Ut{W:Z}{B n r cap:Nat}{a:List GQ}(h:W.ownsRow B 344 3 (.b r n cap) n (Ju a))(i:Nat)(e:GQ):(Em W r i e).ownsRow B 344 3 (.b r n cap) n (Ju (a.set i e)):=by have b:=(h.stored (i*3) (.a e.wt)).1;have c:=(b.stored (i*3+1) (.a e.a)).1;have d:=(c.stored (i*3+2) (.b e.b e.n e.c)).1;have:=nU a i e;rw[BQ 3 i]at this;rw[<-this];exact d
theorem PN(W:Z)(r i:Nat)(e:GQ)(k:Nat)(a:k≠r):(Em W r i e).heap[k]?=W.heap[k]? := by unfold Em;rw[AH _ _ _ k a,AH _ _ _ k a,AH _ _ _ k a]
theorem UW{B:Nat}{a W:Z}{v:Value}{n r cap:Nat}{j:List Value}(h:Fr B a W)(c:W.ownsRow B 344 3 (.b r n cap) n j)(i:Nat)(e:GQ):Fr B a (Em W r i e):=by have b:B<=r:=(c.lt r I).1;refine⟨((h.b.setCell (p:=⟨r,i*3,none⟩) b _).setCell (p:=⟨r,i*3+1,none⟩) b _).setCell (p:=⟨r,i*3+2,none⟩) b _,?_⟩;obtain⟨_,_,g⟩:=Lib.ownsRow_kind c r I;refine h.ints.i λk _ f e2=>PN W r i e k ?_;intro d;subst d;rw[g]at e2;simp at e2
theorem pO(w:Z)(B l:Nat)(es:List GQ)(pu a:Nat)(hB:B<=w.heap.size)(V:es.length<=1000)(ha:a<es.length)(C:RI es a)(h:QM w B l es pu):Calls prog 330 #[.c l,.a a] w λe w'=>e=.a (.tuple #[])/\∃s,List.Perm s es/\Pk.LD s/\QM w' B l s pu/\Fr B w w':=by
 have q:=J C;have o:=J h;clear C h;go_enter func330,ntmps330;go_wp2;go_loopw [1] (λi wr=>∃b:Nat,∃g,i=.a b/\b<g.length/\g.length=es.length/\Hid (RI g b)/\Hid (List.Perm g es)/\Hid (QM wr B l g pu)/\Hid (Fr B w wr)) (λi _=>(intOf i).toNat)
 case atStart=>exact⟨a,es,I,ha,I,q,List.Perm.refl _,o,Fr.refl _ _⟩
 case round=>
  clear q o ha;obtain⟨b,g,rfl,hb,a7,q,F,o,z⟩:=hrel;by_cases h0:b=0
  .subst h0;go_wp2;go_end0;exact⟨I,g,F.o,j6 q.o (.w I),o.o,z.o⟩
  have aK:(0:Int)<(b:Int):=U;obtain⟨v,p,j⟩:=o.o.st;have aD:=o.o.a;obtain⟨r,T,rfl,hr,L⟩:=Yo j U;obtain⟨c,hc⟩:=E ((b-1)/2);have K:=EV 0 p;obtain⟨t,u,x⟩:=Sk g b hb;obtain⟨k1,k2,k3⟩:=Sk g c U;have aE:c<g.length:=U;obtain⟨d,P⟩:∃e,e=g.getD b Gf:=⟨_,I⟩;obtain⟨f,Q⟩:∃e,e=g.getD c Gf:=⟨_,I⟩;rw[<-P]at t u x;rw[<-Q]at k1 k2 k3;have y1:wr.cell? (O r (b*3))=some (.a d.wt):=by rw[j.cellAt (b*3) U,BQ];exact t
  have y2:wr.cell? (O r (b*3+1))=some (.a d.a):=by rw[j.cellAt (b*3+1) U,BQ];exact u
  have y3:wr.cell? (O r (b*3+2))=some (.b d.b d.n d.c):=by rw[j.cellAt (b*3+2) U,BQ];exact x
  have z1:wr.cell? (O r (c*3))=some (.a f.wt):=by rw[j.cellAt (c*3) U,BQ];exact k1
  have z2:wr.cell? (O r (c*3+1))=some (.a f.a):=by rw[j.cellAt (c*3+1) U,BQ];exact k2
  have z3:wr.cell? (O r (c*3+2))=some (.b f.b f.n f.c):=by rw[j.cellAt (c*3+2) U,BQ];exact k3
  have G:=J P;have H:=J Q;obtain⟨n,hn⟩:=E g.length;have ai:((b:Int)-1)/2=(c:Int):=U;have A:=J p;have y:=J j;have D:=J hc;have am:=J a7;have a5:g.length<=1000:=U;rw[<-hn]at K aE hb a5;have m:=J hn;clear t u x k1 k2 k3 p j hc a7 P Q hn L V;go_wp2;rw[ai];go_region_held3 (λw'=>w'.cell? (O l 0)=some (.b r n T)/\w'.cell? (O r (b*3))=some (.a d.wt)/\w'.cell? (O r (b*3+1))=some (.a d.a)/\w'.cell? (O r (b*3+2))=some (.b d.b d.n d.c)/\w'.cell? (O r (c*3))=some (.a f.wt)/\w'.cell? (O r (c*3+1))=some (.a f.a)/\w'.cell? (O r (c*3+2))=some (.b f.b f.n f.c)) (go_keep) (first|(go_at_call 338;refine(kp _ d.wt d.a f.wt f.a (.b d.b d.n d.c) (.b f.b f.n f.c)).l ?_;rintro e w' ⟨rr,rfl,ay,av,o1,o2,rfl⟩));have M:=J (o.o.of (UD wr o1 o2));have S:=J (((z.o.alloc (z.o.size hB) o1).alloc (by have:=z.o.size hB;simp;omega) o2).drew);rename_i hHeld;clear hHeld K y1 y2 y3 z1 z2 z3 A y o z;generalize ((wr.alloc o1).alloc o2).drew=W at *;cases rr with
  |false=>go_wp2;((try simp only[Exit.inBlock,Exit.then]);refine BE (CW I _ _ _) I ?_);refine⟨I,g,F.o,j6 q.o (.s ?_),M.o,S.o⟩;have:=av (by trivial);rw[<-D.o];unfold wa;rw[<-G.o,<-H.o];exact this
  |true=>
   have au:=ay (by trivial);have aG:Hid (wa g b<=wa g ((b-1)/2)):=by show _<=_;rw[<-D.o];unfold wa;rw[<-G.o,<-H.o];exact au
   clear ay av au;obtain⟨v,p,j⟩:=M.o.st;obtain⟨k,aC,rfl,aL,L⟩:=Yo j (Dz m.o);obtain⟨t,u,x⟩:=Sk g b (Dz m.o);obtain⟨k1,k2,k3⟩:=Sk g c (Dz m.o);rw[<-G.o]at t u x;rw[<-H.o]at k1 k2 k3;rw[<-m.o]at p j;have K:=EV 0 p;have y1:W.cell? (O k (b*3))=some (.a d.wt):=by rw[j.cellAt (b*3) U,BQ];exact t
   have y2:W.cell? (O k (b*3+1))=some (.a d.a):=by rw[j.cellAt (b*3+1) U,BQ];exact u
   have y3:W.cell? (O k (b*3+2))=some (.b d.b d.n d.c):=by rw[j.cellAt (b*3+2) U,BQ];exact x
   have z1:W.cell? (O k (c*3))=some (.a f.wt):=by rw[j.cellAt (c*3) U,BQ];exact k1
   have z2:W.cell? (O k (c*3+1))=some (.a f.a):=by rw[j.cellAt (c*3+1) U,BQ];exact k2
   have z3:W.cell? (O k (c*3+2))=some (.b f.b f.n f.c):=by rw[j.cellAt (c*3+2) U,BQ];exact k3
   have f1:=j.frozenAt (b*3);have f2:=j.frozenAt (b*3+1);have f3:=j.frozenAt (b*3+2);have f4:=j.frozenAt (c*3);have f5:=j.frozenAt (c*3+1);have f6:=j.frozenAt (c*3+2);have A:=J p;have y:=J j;clear p j t u x k1 k2 k3 L;go_wp2;go_region;have aw:l≠k:=by intro e;subst e;obtain⟨_,_,hk⟩:=Lib.ownsRow_kind y.o l I;rw[A.o]at hk;simp at hk
   have N:=Ut y.o b f;have R:=Ut N c d;have an:Fr B w (Em (Em W k b f) k c d):=UW (v:=.g) (UW (v:=.g) S.o y.o b f) N c d;have ao:(g.set b f).set c d=swp g b c:=by unfold swp;rw[G.o,H.o]
   have ax:(Em (Em W k b f) k c d).heap[l]?=W.heap[l]? := (PN _ _ _ _ _ aw).i (PN _ _ _ _ _ aw);rw[ao]at R;have aH:(swp g b c).length=n:=by rw[Qq,m.o]
   have aJ:=QM.make aD (ax.i A.o) aH R;have az:=J aJ.drew;have aA:=J an.drew;have ae:Hid (RI (swp g b c) c):=by have:=sF q.o U (Dz m.o) aG.o;rw[<-D.o]at this;exact this
   have aI:Hid (List.Perm (swp g b c) es):=(eP g b c (Dz m.o) (Dz m.o)).i F.o;have ar:(swp g b c).length=es.length:=by rw[Qq,am.o]
   have aB:c<(swp g b c).length:=U;have GU:c<b:=Dz D.o;have HW:Hid (Em (Em W k b f) k c d=((((((W.setCell (O k (b*3)) (.a f.wt)).setCell (O k (b*3+1)) (.a f.a)).setCell (O k (b*3+2)) (.b f.b f.n f.c)).setCell (O k (c*3)) (.a d.wt)).setCell (O k (c*3+1)) (.a d.a)).setCell (O k (c*3+2)) (.b d.b d.n d.c))):=I;rw[<-HW.o];clear N R an ao ax HW K y1 y2 y3 z1 z2 z3 f1 f2 f3 f4 f5 f6 A y M S F q;generalize (Em (Em W k b f) k c d).drew=W3 at *;have aF:=J ar;clear ar;go_wp2;go_roundw
   case rel=>exact⟨c,swp g b c,I,aB,aF.o,ae,aI,az,aA⟩
   case measure=>simp[intOf];omega
end Y
namespace Y
open Go.RowKit Pk
variable {w a W b:Z} {B qb pu n r cap i j:Nat} {xs:List GQ} {ei ej:GQ}
theorem QM.look(h:QM w B qb xs pu)(p:n=xs.length)(l:0<n):∃r cap,B<=r/\n<=cap/\qb≠r/\w.heap[qb]?=some (.cells #[.b r n cap,.a pu] 341 (0,0)) /\ w.ownsRow B 344 3 (.b r n cap) n (Ju xs)/\w.cell? (O qb 0)=some (.b r n cap) /\ (∀i,i<n->∀e,e=xs.getD i Gf->w.cell? (O r (i*3))=some (.a (e.wt:Nat))/\w.cell? (O r (i*3+1))=some (.a (e.a:Nat))/\w.cell? (O r (i*3+2))=some (.b e.b e.n e.c))/\(∀j,w.frozen? (O r j)=false):=by
 subst p;obtain⟨_,b,a⟩:=h.st;obtain⟨r,cap,rfl,q,d⟩:=Yo a l;refine⟨r,cap,q,d,?_,b,a,?_,?_,λj=>a.frozenAt j⟩
 .intro e;subst e;obtain⟨_,_,c⟩:=Lib.ownsRow_kind a qb I;rw[b]at c;simp at c
 .rw[AU w qb 0 _ 341 (0,0) b];rfl
 intro i o e m;subst m;obtain⟨f,g,k⟩:=Sk xs i o;rw[a.cellAt (i*3) U,a.cellAt (i*3+1) U,a.cellAt (i*3+2) U,BQ i 3];exact⟨f,g,k⟩
theorem QM.len(h:QM w B qb xs pu)(f:n=xs.length):∃a cap,w.cell? (O qb 0)=some (.slice a n cap):=by
 subst f;obtain⟨v,d,b⟩:=h.st;have:∃a c,v=.slice a xs.length c:=by
  rcases b.2 with⟨rfl,e⟩|⟨g,cap,_,rfl,_⟩
  .rw[e];exact⟨_,_,I⟩
  exact⟨_,_,I⟩
 obtain⟨a,c,rfl⟩:=this;exact⟨a,c,by rw[AU w qb 0 _ 341 (0,0) d];rfl⟩
theorem rO(l:B<=qb)(q:n=xs.length)(m:Fr B a W)(c:qb≠r)(d:W.heap[qb]?=some (.cells #[.b r n cap,.a pu] 341 (0,0)))(b:W.ownsRow B 344 3 (.b r n cap) n (Ju xs)) (o:ei=xs.getD i Gf) (p:ej=xs.getD j Gf):QM (Em (Em W r i ej) r j ei) B qb (swp xs i j) pu/\Fr B a (Em (Em W r i ej) r j ei):=by
 have e:=Ut b i ej;have f:=Ut e j ei;have g:Fr B a (Em (Em W r i ej) r j ei):=UW (v:=.g) (UW (v:=.g) m b i ej) e j ei;have h:(xs.set i ej).set j ei=swp xs i j:=by unfold swp;rw[o,p]
 have k:(Em (Em W r i ej) r j ei).e W qb:=(PN _ _ _ _ _ c).i (PN _ _ _ _ _ c);rw[h]at f;exact⟨QM.make l (k.i d) (by rw[Qq,q]) f,g⟩
structure N4 (qb B:Nat) (w w':Z):Prop where
 a:Fr B w w'
 own:w'.heap[qb]?=w.heap[qb]?
 far:∀k,k<w.heap.size->k≠qb->(∀n cap,w.cell? (O qb 0)≠some (.b k n cap))->w'.heap[k]?=w.heap[k]?
theorem N4.refl(a B:Nat)(w:Z):N4 a B w w:=⟨Fr.refl _ _,I,λ_ _ _ _=>rfl⟩
theorem N4.size(h:N4 qb B a b)(c:B<=a.heap.size):B<=b.heap.size:=h.a.size c
theorem N4.drew(h:N4 qb B a b):N4 qb B a b.drew:=⟨h.a.drew,h.own,h.far⟩
theorem N4.Tk(h:N4 qb B a b)(i:B<=b.heap.size)(j:qb<b.heap.size)(c d:Obj):N4 qb B a ((b.alloc c).alloc d).drew:=
 ⟨((h.a.alloc i c).alloc EL d).drew,(UD b c d qb j).i h.own,λk e f g=>(UD b c d k (AQ e h.a.b.size)).i (h.far k e f g)⟩
theorem N4.swap(h:N4 qb B a W)(m:Fr B a (Em (Em W r i ej) r j ei))(b:qb≠r)(c:W.heap[qb]?=some (.cells #[.b r n cap,.a pu] 341 (0,0))):N4 qb B a (Em (Em W r i ej) r j ei):=by
 refine⟨m,((PN _ _ _ _ _ b).i (PN _ _ _ _ _ b)).i h.own,λk g l d=>?_⟩;have f:k≠r:=by
  intro e;subst e;refine d n cap ?_;have:W.cell? (O qb 0)=some (.b k n cap):=by rw[AU W qb 0 _ 341 (0,0) c];rfl
  rw[<-this];exact(AK h.own).A
 exact((PN _ _ _ _ _ f).i (PN _ _ _ _ _ f)).i (h.far k g l d)
theorem QM.lt{es:List GQ}(h:QM w B qb es pu):qb<w.heap.size:=by obtain⟨_,a,_⟩:=h.st;exact lt_of_heap a
theorem mG(w:Z)(B qb:Nat)(es:List GQ)(pu:Nat)(hB:B<=w.heap.size)(hes:es.length<=1000)(hsi:SI es 0)(h:QM w B qb es pu):Calls prog 331 #[.c qb] w λe w'=>e=.a (.tuple #[])/\∃es',List.Perm es' es/\Pk.LD es'/\QM w' B qb es' pu/\N4 qb B w w':=by
 have a6:=J hsi;have Hq:=J h;clear hsi h;go_enter func331,ntmps331;go_wp2;go_loopw [2] (λi wr=>∃b:Nat,∃xs,i=.a b/\b<=xs.length/\xs.length=es.length/\Hid (SI xs b)/\Hid (List.Perm xs es)/\Hid (QM wr B qb xs pu)/\Hid (N4 qb B w wr)) (λi _=>1000-(intOf i).toNat)
 case atStart=>exact⟨0,es,I,by omega,I,a6,List.Perm.refl _,Hq,N4.refl _ _ _⟩
 case round=>
  clear a6 Hq;obtain⟨b,xs,rfl,hb,a7,a6,Hp,Hq,Hf⟩:=hrel;obtain⟨n,hn⟩:=E xs.length;have an:=J a7;have ae:n<=1000:=U;rw[<-hn]at hb;have Hn:=J hn;clear a7 hn;go_wp2;go_loopw [4,3] (λi j ar=>∃c d:Nat,i=.a c/\j=.a d/\2*b+1<=c/\c<=2*b+3/\(d=b\/(2*b+1<=d/\d<c/\d<n))/\Hid (wa xs d<=wa xs b/\∀k,2*b+1<=k->k<c->k<n->wa xs d<=wa xs k)/\Hid (QM ar B qb xs pu)/\Hid (N4 qb B w ar)) (λi _ _=>3000-(intOf i).toNat)
  case atStart=>exact⟨2*b+1,b,by go_num,I,by omega,by omega,.w I,⟨AB _,by omega⟩,Hq,Hf⟩
  case round=>
   clear Hq Hf;obtain⟨c,d,rfl,rfl,aO,aQ,hd,Hw,Hq,Hf⟩:=hrel;have aF:=Hq.o.a;by_cases hg:c<=2*b+2/\c<n
   ·obtain⟨aJ,aG⟩:=hg;obtain⟨r,cap,hr,a5,ah,a9,a3,x0,a1,a2⟩:=Hq.o.look Hn.o U;have ai:d<n:=U;obtain⟨ec,ac⟩:∃e,e=xs.getD c Gf:=⟨_,I⟩;obtain⟨ed,a4⟩:∃e,e=xs.getD d Gf:=⟨_,I⟩;obtain⟨y1,y2,y3⟩:=a1 c aG ec ac;obtain⟨z1,z2,z3⟩:=a1 d ai ed a4;have aw:=J ac;have av:=J a4;have au:decide ((c:Int)<=2*(b:Int)+2)=true:=EL;have aD:decide ((c:Int)<(n:Int))=true:=EL;clear a1 a2 a9 a3 ac a4 a5;go_wp2;go_region_held3 (λw'=>w'.cell? (O qb 0)=some (.b r n cap)/\w'.cell? (O r (c*3))=some (.a ec.wt)/\w'.cell? (O r (c*3+1))=some (.a ec.a)/\w'.cell? (O r (c*3+2))=some (.b ec.b ec.n ec.c)/\w'.cell? (O r (d*3))=some (.a ed.wt)/\w'.cell? (O r (d*3+1))=some (.a ed.a)/\w'.cell? (O r (d*3+2))=some (.b ed.b ed.n ed.c)) (go_keep) (first | (go_at_call 338;refine(kp _ ec.wt ec.a ed.wt ed.a (.b ec.b ec.n ec.c) (.b ed.b ed.n ed.c)).l ?_;rintro e w' ⟨rr,rfl,am,af,o1,o2,rfl⟩));have ao:=J (Hq.o.of (UD wr o1 o2));have ax:=J (Hf.o.Tk (Hf.o.size hB) Hq.o.lt o1 o2);rename_i hHeld;clear hHeld x0 y1 y2 y3 z1 z2 z3 Hq Hf;generalize ((wr.alloc o1).alloc o2).drew=W at *;cases rr with
    | false=>
     have a8:=af (by trivial);have ag:Hid (wa xs d<=wa xs b/\∀k,2*b+1<=k->k<c+1->k<n->wa xs d<=wa xs k):=⟨Hw.o.1,λk k1 k2 k3=>by
      by_cases e:k=c
      ·subst e;unfold wa;rw[<-aw.o,<-av.o];exact a8
      exact Hw.o.2 k k1 U k3⟩
     clear am af a8 Hw;go_wp2;go_roundw
     case rel=>exact⟨c+1,d,by go_num,I,by omega,by omega,by omega,ag,ao,ax⟩
     case measure=>simp[intOf];omega
    | true=>
     have a8:=am (by trivial);have ag:Hid (wa xs c<=wa xs b/\∀k,2*b+1<=k->k<c+1->k<n->wa xs c<=wa xs k):=by
      have az:wa xs c<=wa xs d:=by unfold wa;rw[<-aw.o,<-av.o];exact a8
      exact⟨AG az Hw.o.1,λk k1 k2 k3=>by
       by_cases e:k=c
       ·subst e;exact AB _
       exact AG az (Hw.o.2 k k1 U k3)⟩
     clear am af a8 Hw;go_wp2;go_roundw
     case rel=>exact⟨c+1,c,by go_num,I,by omega,by omega,by omega,ag,ao,ax⟩
     case measure=>simp[intOf];omega
   obtain⟨a0,aK,hx⟩:=Hq.o.len Hn.o;by_cases aJ:c<=2*b+2;focus
    have au:decide ((c:Int)<=2*(b:Int)+2)=true:=EL;have aD:decide ((c:Int)<(n:Int))=false:=EL;have aP:n<=c:=U
   rotate_left
   focus
    have au:decide ((c:Int)<=2*(b:Int)+2)=false:=EL;have ay:c=2*b+3:=U;have aN:=J ay;clear ay
   rotate_left
   all_goals
    by_cases aA:d=b
    ·subst aA;have aE:((d:Int)==(d:Int))=true:=EJ;go_wp2
     ·((try simp only[Exit.inBlock,Exit.then]);refine BE (CW I _ _ _) I ?_)
      refine⟨I,xs,Hp.o,uX a6.o ?_,Hq.o,Hf.o⟩;intro i h1 h2 h3;exact Hw.o.2 i U (Dz Hn.o) (Dz Hn.o)
    have aE:((d:Int)==(b:Int))=false:=EL
    ·skip;have ai:d<n:=U;have aI:b<n:=U;obtain⟨r,cap,hr,a5,ah,a9,a3,x0,a1,a2⟩:=Hq.o.look Hn.o U;obtain⟨eb,ad⟩:∃e,e=xs.getD b Gf:=⟨_,I⟩;obtain⟨ed,a4⟩:∃e,e=xs.getD d Gf:=⟨_,I⟩;obtain⟨y1,y2,y3⟩:=a1 b aI eb ad;obtain⟨z1,z2,z3⟩:=a1 d ai ed a4;have f1:=a2 (b*3);have f2:=a2 (b*3+1);have f3:=a2 (b*3+2);have f4:=a2 (d*3);have f5:=a2 (d*3+1);have f6:=a2 (d*3+2);have aa:=rO aF Hn.o Hf.o.a ah a9 a3 ad a4;have aB:=J aa.1.drew;have aC:=J (Hf.o.swap aa.2 ah a9).drew;have aj:Hid (SI (swp xs b d) d):=ov a6.o U U (Dz Hn.o) Hw.o.1 λi h1 h2 h3=>Hw.o.2 i U (Dz Hn.o) (Dz Hn.o);have aL:Hid (List.Perm (swp xs b d) es):=(eP xs b d (Dz Hn.o) (Dz Hn.o)).i Hp.o;have aH:Hid ((swp xs b d).length=es.length):=by show _=_;rw[Qq,an.o]
     have aM:d<=(swp xs b d).length:=by rw[Qq];exact Dz Hn.o
     have HW:Hid (Em (Em wr r b ed) r d eb=((((((wr.setCell (O r (b*3)) (.a ed.wt)).setCell (O r (b*3+1)) (.a ed.a)).setCell (O r (b*3+2)) (.b ed.b ed.n ed.c)).setCell (O r (d*3)) (.a eb.wt)).setCell (O r (d*3+1)) (.a eb.a)).setCell (O r (d*3+2)) (.b eb.b eb.n eb.c))):=I;clear a9 a3 a1 a2 ad a4 aa a5 hx;go_wp2;go_region;rw[<-HW.o];clear HW x0 y1 y2 y3 z1 z2 z3 f1 f2 f3 f4 f5 f6 Hq Hf Hp a6;generalize (Em (Em wr r b ed) r d eb).drew=W3 at *;go_wp2;go_roundw
     case rel=>exact⟨d,swp xs b d,I,aM,aH.o,aj,aL,aB,aC⟩
     case measure=>simp[intOf];omega
theorem RY:(prog.info? 344).map (λi=>(i.zero,i.size,i.bytes))=some (some (.agg #[.a 0,.a 0,.g]),3,40):=EG
theorem wi(w:Z)(a b c:Value)(t:TypeId):∀j u,[a,b,c][j]?=some u->(w.alloc (.cells #[a,b,c] t)).cell? ((⟨w.heap.size,0,none⟩:Addr).add j)=some u:=
 World.news_of_block (cs:=#[a,b,c]) (AR _ _)
theorem E6.Pp{t:TypeId}{a b c:Z}(h:E6 t a b){base n:Nat}{e:TypeId}{v:Value}{o:List Value}(d:b.ownsRow base e 3 v n o)(l:e≠t)(m:b.grownBy c v.ownBlock):E6 t a c:=by
 refine h.i λk _ f j=>m.u k (lt_of_heap j) ?_;rcases d.2 with⟨rfl,_⟩|⟨g,_,_,rfl,_,i,_⟩
 .simp[Value.ownBlock]
 intro e2;simp[Value.ownBlock]at e2;subst e2;rw[j]at i;simp at i;exact l i.2.1.A
theorem Fr.app{w c:Z}{B n:Nat}{v:Value}{f:List Value}{o:Obj}(d:B<=w.heap.size)(b:w.ownsRow B 344 3 v n f)(a:(w.alloc o).drew.grownBy c v.ownBlock):Fr B w c:=
 ⟨(((AP B w).alloc d o).drew).C a EL (λq e=>(b.lt q e).1),((E6.refl 3 w).alloc o).drew.Pp (b.alloc o).drew EB a⟩
theorem fp(w:Z)(B b:Nat)(es:List GQ)(d wt k m l:Nat)(V:B<=w.heap.size)(P:es.length<=900)(L:d<=1000000)(r:Pk.LD es)(h:QM w B b es d):Calls prog 310 #[.c b,.a wt,.b k m l] w λe w'=>e=.a (.tuple #[])/\∃f,List.Perm f (⟨wt,d,k,m,l⟩::es)/\Pk.LD f/\QM w' B b f (d+1)/\Fr B w w':=by
 obtain⟨S,H,D,z,t⟩:=An RY;have aD:=J r;obtain⟨v,j,y⟩:=h.st;have M:=h.a;obtain⟨n,Q⟩:=E es.length;rw[<-Q]at y P;have A:∃a c,v=.slice a n c:=by
  rcases y.2 with⟨rfl,F⟩|⟨g,i,_,rfl,_⟩
  .rw[F];exact⟨_,_,I⟩
  exact⟨_,_,I⟩
 obtain⟨a,i,rfl⟩:=A;have s:=J Q;have P:=EV 0 j;have x1:=EV 1 j;have au:∀o,(w.alloc o).cell? (O b 0)=some (.slice a n i):=λo=>by rw[<-P];exact AK (AO w o b (lt_of_heap j))
 have az:∀o,(w.alloc o).cell? (O b 1)=some (.a d):=λo=>by rw[<-x1];exact AK (AO w o b (lt_of_heap j))
 have W:=J j;have A:=J y;clear r h j y Q;go_enter func310,ntmps310;go_wp2;go_region_law
  (refine step_append_lies _ KH _ _ _ KH B 344 S _ 3 40 underlying339 H D z t I U (.slice a n i) n _ KH (A.o.drew.alloc _) ⟨w.heap.size,0,none⟩ 1 1 [.a wt,.a d,.b k m l] KH I (wi w.drew _ _ _ _) (by intro u p;simp at p;rcases p with rfl|rfl|rfl<;>rfl) U Fs U EL (w.heap.size+1) EJ ?_;intro q x C T D y _;have z:=(((E6.refl 341 w).drew.alloc _).Pp (A.o.drew.alloc _) EB D).u W.o;have j:C.cell? (O b 0)=some (.slice a n i):=(by rw[AU C b 0 _ 341 (0,0) z];rfl);have i:=Fg 0 z;have t:=J z;have G:=J T;have S:=J D;clear z T D y)
 rotate_left
 rotate_left
 rotate_left
 all_goals
  have p:=AJ C b 0 _ 341 (.b q (n+1) x) t.o;have T:=EV 1 p;have i:=Fg 1 p;have K:=AJ _ b 1 _ 341 (.a ((d+1:Nat):Int)) p;have Q:=EV 0 K;have r:b≠q:=by intro e;subst e;obtain⟨_,_,j⟩:=Lib.ownsRow_kind G.o b I;rw[t.o]at j;simp at j
  have N:(Value.slice (FH q) (n+1) x).ownBlock≠some b:=by simp[Value.ownBlock];exact λe=>r e.A
  have F:=Bg (a:=⟨b,1,none⟩) (Bg (a:=⟨b,0,none⟩) G.o N (.b q (n+1) x)) N (.a ((d+1:Nat):Int));have L:=Fr.app V A.o S.o;have H:Fr B w ((C.setCell (O b 0) (.b q (n+1) x)).setCell (O b 1) (.a ((d+1:Nat):Int))):=⟨(L.b.setCell (p:=⟨b,0,none⟩) M _).setCell (p:=⟨b,1,none⟩) M _,(L.ints.set t.o EB).set p EB⟩;have j:Ju es++[.a wt,.a d,.b k m l]=Ju (es++[⟨wt,d,k,m,l⟩]):=by rw[sQ];rfl
  rw[j]at F;have r:=QM.make M K (by rw[AM,<-s.o];rfl) F;have R:=J (pO _ B b (es++[⟨wt,d,k,m,l⟩]) (d+1) n (H.size V) (by rw[AM,<-s.o];simp;omega) (by rw[AM,<-s.o];simp) (by rw[s.o];exact tq aD.o _) r);have V:=J H;clear p K F L H j r N t G S W A P x1 au az;rw[show((d+1:Nat):Int)=(d:Int)+1 by omega]at Q R V;go_wp2_with fail;refine R.o.l ?_;rintro e _ ⟨rfl,f,K,G,N,y⟩;go_wp2;go_end0;exact⟨I,f,K.i (List.perm_append_singleton _ _),G,N,V.o.i y⟩
def Ul(qb:Nat)(w w':Z):Prop:=∀k,k<w.heap.size->k≠qb->(∀n cap,w.cell? (O qb 0)≠some (.b k n cap))->w'.heap[k]?=w.heap[k]?
theorem oz(w:Z)(B b:Nat)(d:Nat)(g:B<=w.heap.size)(h:QM w B b [] d):Calls prog 311 #[.c b] w λe w'=>e=.a (.tuple #[.agg #[.a 0,.a 0,.g],.bool false])/\QM w' B b [] d/\Fr B w w'/\Ul b w w':=by
 obtain⟨a,_,i⟩:=h.len (n:=0) I;have j:b<w.s:=Am w _ i;have l:w.s≠b:=U;change Hid _ at h;go_enter func311,ntmps311;go_wp2;have f:f311.results=#[.cell 2 344,.tmp 3]:=EG;refine BE (v:=.tuple #[.agg #[.a 0,.a 0,.g],.bool false]) ?_ I ?_
 .simp[results,f,go_sem]
 refine⟨I,h.o.of λk c=>AO _ _ k c,(Fr.refl B w).alloc g _,λk c _ _=>AO _ _ k c⟩
theorem QM.Tb{w:Z}{B a:Nat}{es:List GQ}{f r n cap R o:Nat}{x:Value}(h:QM w B a es f)(b:w.heap[a]?=some (.cells #[.b r n cap,x] 341 (0,0)))(i:R≠a)(j:R≠r)(v:Value):QM (w.setCell (O R o) v) B a es f/\(w.setCell (O R o) v).heap[a]?=some (.cells #[.b r n cap,x] 341 (0,0)):=by
 have d:=AH w ⟨R,o,none⟩ v a (λe=>i e.A);obtain⟨g,c,k⟩:=h.st;have l:g=.b r n cap:=by rw[b]at c;simp at c;exact c.1.A
 refine⟨⟨h.a,g,d.i c,Bg (a:=⟨R,o,none⟩) k ?_ v⟩,d.i b⟩;rw[l];simp[Value.ownBlock];exact λe=>j e.A
theorem Fr.c{B R o:Nat}{a b:Z}(h:Fr B a b)(c:B<=R)(d:a.heap.size<=R)(v:Value):Fr B a (b.setCell (O R o) v):=
 ⟨h.b.setCell (p:=⟨R,o,none⟩) c v,λk x f e=>(AH b ⟨R,o,none⟩ v k (by have:=lt_of_heap e;simp;omega)).i (h.ints k x f e)⟩
theorem pt{W:Z}{B r cap n:Nat}{es:List GQ}{a:GQ}(c:n+1=es.length)(b:a=es.getD n Gf)(h:W.ownsRow B 344 3 (.b r (n+1) cap) (n+1) (Ju (es.set 0 a))):W.ownsRow B 344 3 (.b r n cap) n (Ju (Gc es)):=by
 have d:Gc es=(es.set 0 a).take n:=by unfold Gc;rw[<-c,DE,b]
 have e:Ju (es.set 0 a)=Ju (Gc es)++(Ju (es.set 0 a)).drop (n*3):=by rw[d,<-tK,CZ]
 rw[e]at h;refine ownsRow_pop ?_ h;rw[pY,ZJ,<-c];rfl
theorem kz(w:Z)(B d:Nat)(es:List GQ)(e0:GQ)(M n:Nat)(x:B<=w.heap.size)(q:n+1=es.length)(hn9:n<=900)(p:e0=es.getD 0 Gf)(A:Pk.LD es)(h:QM w B d es M):Calls prog 311 #[.c d] w λe w'=>e=.a (.tuple #[.agg #[.a e0.wt,.a e0.a,.b e0.b e0.n e0.c],.bool true])/\∃i,List.Perm i (Gc es)/\Pk.LD i/\QM w' B d i M/\Fr B w w'/\Ul d w w':=by
 obtain⟨r,f,s,_,aP,V,ae,C,S,K⟩:=h.look q U;obtain⟨c,az⟩:∃e,e=es.getD n Gf:=⟨_,I⟩;obtain⟨N,P,Q⟩:=S 0 U e0 p;obtain⟨z1,z2,z3⟩:=S n U c az;simp only[Nat.zero_mul,Ak]at N P Q;have f1:=K 0;have f2:=K 1;have f3:=K 2;have ay:=h.a;have aO:=lt_of_heap V;have aS:=(ae.lt r I).2;have u:w.heap.size≠d:=U;have t:w.heap.size≠r:=U;have ad:w.heap.size+1≠d:=U;have af:w.heap.size+1≠r:=U;have aT:=J A;have aF:=J az;have b3:=J p;have aM:=J V;have ar:=J ae;change Hid _ at h q;clear S K V ae az p A;go_enter func311,ntmps311;go_wp2;have H:((w.alloc (.cells #[.a 0,.a 0,.g] 344)).alloc (.cells #[.a e0.wt,.a e0.a,.b e0.b e0.n e0.c] 344)).heap[d]?=_:=(UD w _ _ d aO).i aM;have g:((w.alloc (.cells #[.a 0,.a 0,.g] 344)).alloc (.cells #[.a e0.wt,.a e0.a,.b e0.b e0.n e0.c] 344)).ownsRow B 344 3 _ _ _:=(ar.o.alloc _).alloc _;have aQ:=J (((Fr.refl B w).alloc x (.cells #[.a 0,.a 0,.g] 344)).alloc EL (.cells #[.a e0.wt,.a e0.a,.b e0.b e0.n e0.c] 344));have HR:Hid (((w.alloc (.cells #[.a 0,.a 0,.g] 344)).alloc (.cells #[.a e0.wt,.a e0.a,.b e0.b e0.n e0.c] 344)).heap[w.heap.size]?=some (.cells #[.a 0,.a 0,.g] 344 (0,0))):=(AO _ _ _ EJ).i (AR _ _);have HN:Hid (((w.alloc (.cells #[.a 0,.a 0,.g] 344)).alloc (.cells #[.a e0.wt,.a e0.a,.b e0.b e0.n e0.c] 344)).heap[w.heap.size+1]?=some (.cells #[.a e0.wt,.a e0.a,.b e0.b e0.n e0.c] 344 (0,0))):=by have:=AR (w.alloc (.cells #[.a 0,.a 0,.g] 344)) (.cells #[.a e0.wt,.a e0.a,.b e0.b e0.n e0.c] 344);simp only[BM]at this;exact this
 have Hx:=J C;have b7:Hid (∀k,k<w.heap.size->((w.alloc (.cells #[.a 0,.a 0,.g] 344)).alloc (.cells #[.a e0.wt,.a e0.a,.b e0.b e0.n e0.c] 344)).heap[k]?=w.heap[k]?):=UD w _ _;clear C N P Q z1 z2 z3 f1 f2 f3 aM ar h;generalize ((w.alloc (.cells #[.a 0,.a 0,.g] 344)).alloc (.cells #[.a e0.wt,.a e0.a,.b e0.b e0.n e0.c] 344))=W at *;have b9:QM W B d es M:=QM.make ay H q.o.A g;obtain⟨g1,g2,g3⟩:=Sk es n (Dz q.o);rw[<-aF.o]at g1 g2 g3;have C:=EV 0 H;have z1:W.cell? (O r (n*3))=some (.a c.wt):=by rw[g.cellAt (n*3) U,BQ];exact g1
 have z2:W.cell? (O r (n*3+1))=some (.a c.a):=by rw[g.cellAt (n*3+1) U,BQ];exact g2
 have z3:W.cell? (O r (n*3+2))=some (.b c.b c.n c.c):=by rw[g.cellAt (n*3+2) U,BQ];exact g3
 obtain⟨k1,k2,k3⟩:=Sk es 0 (Dz q.o);rw[<-b3.o]at k1 k2 k3;have N:W.cell? (O r 0)=some (.a e0.wt):=by rw[g.cellAt 0 U];exact k1
 have P:W.cell? (O r 1)=some (.a e0.a):=by rw[g.cellAt 1 U];exact k2
 have Q:W.cell? (O r 2)=some (.b e0.b e0.n e0.c):=by rw[g.cellAt 2 U];exact k3
 have f1:=g.frozenAt 0;have f2:=g.frozenAt 1;have f3:=g.frozenAt 2;have aK:=Ut g 0 c;have ag:Fr B w (Em W r 0 c):=UW (v:=.g) aQ g 0 c;have aN:=pt q aF aK;have ah:(Em W r 0 c).heap[d]?=_:=(PN W r 0 c d aP).i H;have aG:Hid ((Em W r 0 c).heap[w.heap.size]?=_):=(PN W r 0 c _ t).i HR;have aJ:Hid ((Em W r 0 c).heap[w.heap.size+1]?=_):=(PN W r 0 c _ af).i HN;have HW:Hid (Em W r 0 c=((W.setCell (O r 0) (.a c.wt)).setCell (O r 1) (.a c.a)).setCell (O r 2) (.b c.b c.n c.c)):=I;have aL:=J aN;change Hid _ at ah ag;have bg:¬n+1<n:=U;clear H g b9 g1 g2 g3 k1 k2 k3 aK aN aQ HR HN;go_region;rw[<-HW.o];clear HW C N P Q z1 z2 z3 f1 f2 f3;have aR:Hid (∀k,k<w.heap.size->k≠r->(Em W r 0 c).drew.heap[k]?=w.heap[k]?):=λk l s=>(PN W r 0 c k s).i (b7 k l);have aE:Hid ((Em W r 0 c).drew.heap[d]?=_):=ah;have bc:Hid ((Em W r 0 c).drew.heap[w.heap.size]?=_):=aG;have b0:Hid ((Em W r 0 c).drew.heap[w.heap.size+1]?=_):=aJ;have aw:=J aL.o.drew;have ao:=J ag.o.drew;clear ah aG aJ aL ag;generalize (Em W r 0 c).drew=m at *;have F:=aE;have C:=EV 0 F;have xf:=Fg 0 F;have G:=AJ m d 0 _ 341 (.b r n f) F;have aZ:(Value.slice (FH r) n f).ownBlock≠some d:=by simp[Value.ownBlock];exact λe=>aP e.A
 have an:=Bg (a:=⟨d,0,none⟩) aw aZ (.b r n f);have D:Fr B w (m.setCell (O d 0) (.b r n f)):=⟨ao.o.b.setCell (p:=⟨d,0,none⟩) ay _,ao.o.ints.set F EB⟩;have aI:(Gc es).length=n:=by rw[ZJ,<-q.o];rfl
 have aW:=QM.make ay G aI an;have am:=J (mG _ B d (Gc es) M (D.size x) (by rw[aI];omega) (uj aT) aW);have bf:Hid ((m.setCell (O d 0) (.b r n f)).heap[w.heap.size]?=_):=(AH _ _ _ _ u).i bc;have b5:Hid ((m.setCell (O d 0) (.b r n f)).heap[w.heap.size+1]?=_):=(AH _ _ _ _ ad).i b0;have x5:=EV 0 G;change Hid _ at x5;have b8:Hid (∀k,k<w.heap.size->k≠d->k≠r->(m.setCell (O d 0) (.b r n f)).heap[k]?=w.heap[k]?):=λk l y s=>(AH m ⟨d,0,none⟩ _ k y).i (aR k l s);change Hid _ at G D;have bh:n<=f:=U;go_wp2_with fail;refine am.o.l ?_;rintro e w6 ⟨rfl,i,hp,A,aH,L⟩;have aj:∀k o,k≠d->k≠r->(m.setCell (O d 0) (.b r n f)).heap[k]?=some o->w6.heap[k]?=some o:=λk o aV aU ho=>(L.far k (lt_of_heap ho) aV (λa b z=>by rw[x5.o]at z;cases z;exact aU I)).i ho;have v:=aj _ _ u t bf;have T:=aj _ _ ad af b5;have n1:=EV 0 T;have n2:=EV 1 T;have n3:=EV 2 T;have r1:=EV 0 v;have r2:=EV 1 v;have r3:=EV 2 v;have bb:=Fg 0 v;have b6:=Fg 1 v;have aY:=Fg 2 v;have b4:Hid (∀k,k<w.heap.size->k≠d->k≠r->w6.heap[k]?=w.heap[k]?):=λk l y s=>(L.far k (AQ l D.o.b.size) y (λa b z=>by rw[x5.o]at z;cases z;exact s I)).i (b8 k l y s);change Hid _ at aH;have aD:=J (L.own.i G);have aX:=J (D.o.i L.a);change Hid _ at hp A;have bi:Hid (w.heap.size<=w.heap.size):=AB _;generalize j:w.heap.size=R at x aO aS u t ad af n1 n2 n3 r1 r2 r3 bb b6 aY |-;change Hid _ at j;go_wp2;have ax:f311.results=#[.cell 2 344,.tmp 3]:=EG;refine BE (v:=.tuple #[.agg #[.a e0.wt,.a e0.a,.b e0.b e0.n e0.c],.bool true]) ?_ I ?_
 .simp[results,ax,go_sem,r1,r2,r3]
 have a1:=aH.o.Tb (R:=R) (o:=0) aD u t (.a e0.wt);have a2:=a1.1.Tb (R:=R) (o:=1) a1.2 u t (.a e0.a);have a3:=a2.1.Tb (R:=R) (o:=2) a2.2 u t (.b e0.b e0.n e0.c);refine⟨I,i,hp.o,A.o,a3.1,((aX.o.c x (Dz j.o) _).c x (Dz j.o) _).c x (Dz j.o) _,λk l y hx=>?_⟩;have aC:k≠R:=Dz j.o;rw[AH _ _ _ k aC,AH _ _ _ k aC,AH _ _ _ k aC];exact b4 k l y (λe=>by subst e;exact hx _ _ Hx)
theorem OG:(prog.info? 3).map (λi=>(i.zero,i.size,i.bytes))=some (some (.a 0),1,8):=EG
theorem xH(w:Z)(b n c:Nat)(z:Nat->Int)(p:0<n)(s:n<=1000)(g:∀i,i<n->w.cell? (O b i)=some (.a (z i))):Calls prog 281 #[.b b n c] w λe w'=>w'=w/\∃m:Int,e=.a (.a m)/\(∀i,i<n->z i<=m)/\∃i,i<n/\z i=m:=by
 have t:=g 0 p;have r:¬(n:Int)<1:=U;change Hid _ at g;go_enter func281,ntmps281;go_wp2;go_loopw [4,3] (λi m wr=>wr=w/\∃k:Nat,∃x:Int,i=.a k/\m=.a x/\1<=k/\k<=n/\Hid ((∀j,j<k->z j<=x)/\∃j,j<k/\z j=x)) (λi _ _=>n-(intOf i).toNat)
 case atStart=>exact⟨I,1,z 0,I,I,by omega,by omega,⟨λj f=>by rw[show j=0 by omega];exact Int.le_refl _,0,by omega,I⟩⟩
 case round=>
  obtain⟨rfl,k,x,rfl,rfl,_,_,a⟩:=hrel;by_cases l:k<n
  .have u:=g k l;by_cases q:x<=z k
   .have d:Hid ((∀j,j<k+1->z j<=z k)/\∃j,j<k+1/\z j=z k):=⟨λj f=>by
     by_cases e:j=k
     .subst e;exact Int.le_refl _
     exact Int.le_trans (a.o.1 j U) q,k,by omega,I⟩
    generalize z k=y at *;have h:max x y=y:=U;go_wp2;go_roundw
    case rel=>exact⟨by trivial,k+1,y,by go_num,I,by omega,by omega,d⟩
    case measure=>simp[intOf];omega
   have d:Hid ((∀j,j<k+1->z j<=x)/\∃j,j<k+1/\z j=x):=⟨λj f=>by
    by_cases e:j=k
    .subst e;omega
    .exact a.o.1 j U,by
    obtain⟨j,f,e⟩:=a.o.2;exact⟨j,by omega,e⟩⟩
   generalize z k=y at *;have h:max x y=x:=U;go_wp2;go_roundw
   case rel=>exact⟨by trivial,k+1,x,by go_num,I,by omega,by omega,d⟩
   case measure=>simp[intOf];omega
  have o:k=n:=U;subst o;go_wp2;go_ret;exact⟨I,x,I,a.o.1,a.o.2⟩
def FM(l:List Nat):List Value:=l.map λx=>.a (x:Nat)
theorem oL(w:Z)(n:Nat)(m:0<n)(s:n<=1000):Calls prog 332 #[.g,.a n] w λe w'=>∃G,e=.a (.b w.heap.size 0 G)/\w'.ownsRow w.heap.size 3 1 (.b w.heap.size 0 G) 0 []/\Below w.heap.size w w':=by
 obtain⟨d,o,l,_,g⟩:=An OG;have f:(Builtin.firstCells d.size 0 (.g)).run prog w.drew=.ok ([]:List Value).toArray w.drew:=run_firstCells_none w.drew d.size 0 0 0;have b:=λp=>Lib.run_append_grow_zeros w 22 3 p 3 d (.a 0) .i64 .i64 underlying22 underlying3 o l none 0 0 [] f n U U U U
  (by rw[g];omega) (by rw[g,Ak];exact growslice_fits m U)
 rw[Ak]at b;obtain⟨G,a⟩:=E (grownCap w n 0 3);have r:n<=G:=by rw[a];exact grownCap_ge w _ _ _
 have h:G<=maxLen:=by rw[a];exact grownCap_le_maxLen w n 0 3 Fs
 have q:G<=9223372036854775807:=by unfold maxLen at h;omega
 rw[<-a]at b;obtain⟨C,c⟩:∃C:Array Value,C=([]:List Value).toArray++Builtin.zeroCells (Value.int IntKind.i64 0).cells n++Builtin.zeroCells (Value.int IntKind.i64 0).cells (G-n):=⟨_,I⟩;rw[<-c]at b;have k:C.size=G:=by rw[c,De,De,size_zeroCells,size_zeroCells];have:(Value.int IntKind.i64 0).cells.size=1:=I;rw[this];simp;omega
 have j:Hid ((w.drew.a C 3).r w.s 3 1 (.b w.s 0 G) 0 []):=⟨I,.s ⟨_,G,C,I,AB _,AR _ _,by omega,h,by omega,by simp⟩⟩;have i:Hid (w.b (w.drew.a C 3)):=(AP _ w).drew.a;clear c k a f;go_enter func332,ntmps332;go_wp2_with (at_builtin;refine Lib.wpList_append_run _ I _ _ _ _ I _ _ I I _ _ (b _) ?_);go_ret;exact⟨G,I,j,i⟩
theorem Zd{w:Z}{B b n c:Nat}{l:List Nat}(h:w.ownsRow B 3 1 (.b b n c) n (FM l)):∀j u,(FM l)[j]?=some u->w.cell? ((⟨b,0,none⟩:Addr).add j)=some u:=by
 intro j u a;have f:j<n:=by
  rcases CS j n with d|d
  .exact d
  rw[Ay (by rw[h.1];omega)]at a;cases a
 have e:(⟨b,0,none⟩:Addr).add j=⟨b,j,none⟩:=by unfold Addr.add;split<;>simp_all
 rw[e,h.cellAt j U,a]
theorem Ya(l:List Nat):∀u∈FM l,u.oneCell'=true:=by intro u a;unfold FM at a;simp at a;obtain⟨_,_,rfl⟩:=a;rfl
theorem Yq{w w':Z}{B K n:Nat}{e:TypeId}{a:Nat}{v:Value}{i:List Value}(h:w.ownsRow B e a v n i)(m:Below K w w')(l:w.heap.size<=K):w'.ownsRow B e a v n i:=by
 refine⟨h.1,?_⟩;rcases h.2 with d|⟨g,b,c,d,j,f,k⟩
 .exact .w d
 exact .s ⟨g,b,c,d,j,(m.u g (AQ (lt_of_heap f) l)).i f,k⟩
theorem OL(w:Z)(b n c:Nat)(l:List Nat)(v:0<n)(x:n<=1000)(h:w.ownsRow 0 3 1 (.b b n c) n (FM l)):Calls prog 279 #[.b b n c] w λe w'=>∃g cap,e=.a (.b g n cap)/\w'.ownsRow w.heap.size 3 1 (.b g n cap) n (FM l)/\Below w.heap.size w w':=by
 obtain⟨t,r,q,p,o⟩:=An OG;have j:=J h;have u:∀(w:Z) (a:Option Addr) (n c f d:Nat),(binOp .eql 22 (.slice a n c) (.slice none f d)).run prog w=.ok (.bool a.isNone) w:=λw a n c f d=>Lib.run_eql_slice_nil w _ _ a n c f d underlying22;go_enter func279,ntmps279;go_wp2_with (at_builtin;refine wpList_append_lies _ I _ _ 22 I w.s 3 t (.a 0) 1 8 underlying22 r q p o I EB _ 0 [] I (World.ownsRow_made w #[] 0 (AB _) (AW _) I) ⟨b,0,none⟩ n c (FM l) I ?qc1 ?qc2 ?qc3 ?qc7 ?qc4 ?qc5 ?qc6 (w.s+1) ?qc8 ?_)
 case qc1=>exact j.o.1
 case qc2=>exact Zd (j.o.alloc _)
 case qc3=>exact Ya l
 case qc4=>unfold maxLen;omega
 case qc5=>omega
 case qc6=>simp
 case qc7=>omega
 case qc8=>simp
 intro g cap _ i m _ _;change Hid _ at i;have k:=J ((Iy).C m EJ (by intro _ s;simp[Value.ownBlock]at s;omega));try rw[Ak]
 go_wp2;go_ret;exact⟨g,cap,I,i,k⟩
theorem yx(w:Z)(n u a x z b C:Nat)(A B:List Nat)(d:0<a)(d:0<b)(d:a+b<=1000)(h:w.heap[n]?=some (.cells #[.b u a x,.b z b C] 22 (0,0))) (Q:w.ownsRow 0 3 1 (.b u a x) a (FM A)) (R:w.ownsRow 0 3 1 (.b z b C) b (FM B)):Calls prog 312 #[.b n 2 2] w λe w'=>∃g cap,e=.a (.b g (a+b) cap)/\w'.ownsRow w.heap.size 3 1 (.b g (a+b) cap) (a+b) (FM (A++B))/\Below w.heap.size w w':=by
 obtain⟨T,S,H,M,K⟩:=An OG;have d:=EV 0 h;have d:=EV 1 h;change Hid _ at h Q R;go_enter func312,ntmps312;go_wp2;go_loopw [11,3] (λi s wr=>w=wr/\((i=.a 0/\s=.a 0)\/(i=.a 1/\s=.a a)\/(i=.a 2/\s=.a ((a:Int)+(b:Int))))) (λi _ _=>2-(intOf i).toNat)
 case atStart=>exact⟨I,.w ⟨I,I⟩⟩
 case round=>
  obtain⟨rfl,⟨rfl,rfl⟩|⟨rfl,rfl⟩|⟨rfl,rfl⟩⟩:=hrel
  .have d:¬(a:Int)<0:=U;go_wp2;go_roundw
   case rel=>exact⟨by trivial,.s (.w ⟨I,I⟩)⟩
   case measure=>simp[intOf]
  .have d:¬(a:Int)+(b:Int)<0:=U;go_wp2;go_roundw
   case rel=>exact⟨by trivial,.s (.s ⟨I,I⟩)⟩
   case measure=>simp[intOf]
  have L:=J (oL w (a+b) U U);rw[show((a+b:Nat):Int)=(a:Int)+(b:Int) by omega]at L;go_wp2_with fail;refine L.o.l ?_;rintro e _ ⟨G,rfl,d,V⟩;have W:=J d;have d:=J V;go_wp2;go_loopw [27,6] (λi v o=>Hid (w.b o)/\((i=.a 0/\∃g c,v=.b g 0 c/\Hid (o.r w.s 3 1 (.b g 0 c) 0 []))\/(i=.a 1/\∃g c,v=.b g a c/\Hid (o.r w.s 3 1 (.b g a c) a (FM A)))\/(i=.a 2/\∃g c,v=.b g (a+b) c/\Hid (o.r w.s 3 1 (.b g (a+b) c) (a+b) (FM (A++B)))))) (λi _ _=>2-(intOf i).toNat)
  case atStart=>exact⟨d,.w ⟨I,_,G,I,W⟩⟩
  obtain⟨d,⟨rfl,g,D,rfl,f⟩|⟨rfl,g,D,rfl,f⟩|⟨rfl,g,D,rfl,f⟩⟩:=hrel
  .have y:=(d.o.u n (lt_of_heap h)).i h;have L:=EV 0 y;have N:=J (Yq Q d (AB _));have o:=d.o.size;go_wp2_with (at_builtin;refine wpList_append_lies _ I _ _ 22 I w.s 3 T (.a 0) 1 8 underlying22 S H M K I EB _ 0 [] I f ⟨u,0,none⟩ a x (FM A) I N.o.1 (Zd N) (Ya A) U Fs U U wr.s I ?_);intro k j l m p x u;have r:Hid (l.r w.s 3 1 (.b k a j) a (FM A)):=by show l.r _ _ _ _ _ _;simpa using m
   have t:=J (d.o.C p U (λq F=>(f.o.lt q F).1));try rw[Ak]
   go_wp2;go_roundw
   case rel=>exact⟨t,.s (.w ⟨I,k,j,by simp,r⟩)⟩
   case measure=>simp[intOf]
  .have y:=(d.o.u n (lt_of_heap h)).i h;have L:=EV 1 y;have P:=J (Yq R d (AB _));have o:=d.o.size;go_wp2_with (at_builtin;refine wpList_append_lies _ I _ _ 22 I w.s 3 T (.a 0) 1 8 underlying22 S H M K I EB _ a (FM A) I f ⟨z,0,none⟩ b C (FM B) I P.o.1 (Zd P) (Ya B) U Fs U U wr.s I ?_);intro k j l m p x u;have r:Hid (l.r w.s 3 1 (.b k (a+b) j) (a+b) (FM (A++B))):=by show l.r _ _ _ _ _ _;unfold FM at m |-;rw[Au];exact m
   have t:=J (d.o.C p U (λq F=>(f.o.lt q F).1));go_wp2;go_roundw
   case rel=>exact⟨t,.s (.s ⟨I,k,j,I,r⟩)⟩
   case measure=>simp[intOf]
  go_wp2;go_ret;exact⟨g,D,I,f,d⟩
end Y
namespace Y
open Go.RowKit Pk Go.Shelf
theorem wF(w:Z)(n:Nat)(m:0<n)(s:n<=100000):Calls prog 257 #[.g,.a n] w λe w'=>∃G,e=.a (.b w.heap.size 0 G)/\w'.ownsRow w.heap.size 88 1 (.b w.heap.size 0 G) 0 []/\Below w.heap.size w w':=by
 obtain⟨d,o,l,_,g⟩:=An NB;have f:(Builtin.firstCells d.size 0 (.g)).run prog w.drew=.ok ([]:List Value).toArray w.drew:=run_firstCells_none w.drew d.size 0 0 0;have b:=λp=>Lib.run_append_grow_zeros w 201 3 p 88 d (.d 0) .i64 .i64 underlying201 underlying3 o l none 0 0 [] f n U U U U
  (by rw[g];omega) (by rw[g,Ak];exact growslice_fits m U)
 rw[Ak]at b;obtain⟨G,a⟩:=E (grownCap w n 0 88);have r:n<=G:=by rw[a];exact grownCap_ge w _ _ _
 have h:G<=maxLen:=by rw[a];exact grownCap_le_maxLen w n 0 88 Fs
 have q:G<=9223372036854775807:=by unfold maxLen at h;omega
 rw[<-a]at b;obtain⟨C,c⟩:∃C:Array Value,C=([]:List Value).toArray++Builtin.zeroCells (Value.int IntKind.u32 0).cells n++Builtin.zeroCells (Value.int IntKind.u32 0).cells (G-n):=⟨_,I⟩;rw[<-c]at b;have k:C.size=G:=by rw[c,De,De,size_zeroCells,size_zeroCells];have:(Value.int IntKind.u32 0).cells.size=1:=I;rw[this];simp;omega
 have j:Hid ((w.drew.a C 88).r w.s 88 1 (.b w.s 0 G) 0 []):=⟨I,.s ⟨_,G,C,I,AB _,AR _ _,by omega,h,by omega,by simp⟩⟩;have i:Hid (w.b (w.drew.a C 88)):=(AP _ w).drew.a;clear c k a f;go_enter func257,ntmps257;go_wp2_with (at_builtin;refine Lib.wpList_append_run _ I _ _ _ _ I _ _ I I _ _ (b _) ?_);go_ret;exact⟨G,I,j.o,i.o⟩
theorem pX(w:Z)(i g k a d c:Nat)(b:List Nat)(l:b.length=k+a)(W:0<b.length)(S:b.length<=100000)(s:w.heap[i]?=some (.cells #[.slice (some (O g k)) a d,.b g k c] 201 (0,0))) (o:∀j,(h:j<b.length)->w.cell? (O g j)=some (F9 b[j])) (T:g<w.heap.size):Calls prog 205 #[.b i 2 2] w λe w'=>∃v,e=.a v/\w'.ownsRow w.heap.size 88 1 v b.length ((b.drop k++b.take k).map F9)/\Below w.heap.size w w':=by
 obtain⟨H,V,M,R,N⟩:=An NB;have c0:=EV 0 s;have c1:=EV 1 s;have Q:=lt_of_heap s;obtain⟨m,W⟩:=E b.length;have P:(a:Int)+(k:Nat)=(m:Nat):=U;have r:0<m:=U;have q:m<=100000:=U;have F:a<=m:=U;have L:k<=m:=U;have G:=J o;have A:=J W;have p:=J l;clear s o W l;go_enter func205,ntmps205;go_wp2;refine wp_loop_rounds 3 ?_;rw[DT];go_wp2;rw[DT];go_wp2;rw[DT];go_wp2_with fail;refine(wF w m r q).l ?_;rintro e C ⟨_,rfl,L,q⟩;have d0:C.cell? (O i 0)=some (.slice (some (O g k)) a d):=by rw[q.cell (p:=⟨i,0,none⟩) Q];exact c0
 have d1:C.cell? (O i 1)=some (.b g k c):=by rw[q.cell (p:=⟨i,1,none⟩) Q];exact c1
 have F:Hid (∀j,(h:j<b.length)->C.cell? (O g j)=some (F9 b[j])):=J (λj h=>by rw[q.cell (p:=⟨g,j,none⟩) T];exact G.o j h);have r:=J L;have o:=J q;clear L q c0 c1;go_wp2;refine wp_loop_rounds 3 ?_;rw[DT];go_wp2_with (at_builtin;refine Av _ I _ _ 201 I w.heap.size 88 H (.d 0) 1 4 underlying201 V M R N I EB _ _ _ I r.o ⟨g,k,none⟩ a d ((b.drop k).map F9) I ?q0 ?q1 ?q2 ?q3 ?q4 ?q5 ?_)
 case q0=>have:=p.o;simp;omega
 case q1=>
  intro j u f;have s:=p.o;have n:k+j<b.length:=by have:=(AN.1 f).1;simp at this;omega
  have:=F.o (k+j) n;rw[BI,C4,AE n]at f;simp at f;rw[<-f,show(⟨g,k,none⟩:Addr).add j=⟨g,k+j,none⟩ by simp[Addr.add]];exact this
 case q2=>intro u B;obtain⟨x,_,rfl⟩:=AZ.1 B;rfl
 case q3=>simp[maxLen];omega
 case q4=>(try simp);omega
 case q5=>exact o.o.size
 intro _ D t z _;have A:Below w.heap.size w D:=o.o.C z o.o.size (λk e=>by exact Dz ((r.o.lt k e).1));have f1:D.cell? (O i 1)=some (.b g k c):=by rw[<-d1];exact AK (z.u i (Dz o.o.size) (λe=>by exact Dz ((r.o.lt i e.A).1)))
 have Fx:Hid (∀j,(h:j<b.length)->D.cell? (O g j)=some (F9 b[j])):=J (λj h=>by rw[A.cell (p:=⟨g,j,none⟩) T];exact G.o j h);try simp only[Ak,BB]at t
 have K:=J t;have y:=J A;clear r o t A z d0 d1 F;go_wp2;rw[DT];go_wp2_with (at_builtin;refine Av _ I _ _ 201 I w.heap.size 88 H (.d 0) 1 4 underlying201 V M R N I EB _ _ _ I K.o ⟨g,0,none⟩ k c ((b.take k).map F9) I ?q0 ?q1 ?q2 ?q3 ?q4 ?q5 ?_)
 case q0=>have:=p.o;simp;omega
 case q1=>
  intro j u f;have s:=p.o;have n:j<k/\j<b.length:=by have:=(AN.1 f).1;simp at this;omega
  have:=Fx.o j n.2;rw[BI,Aq n.1,AE n.2]at f;simp at f;rw[<-f,show(⟨g,0,none⟩:Addr).add j=⟨g,j,none⟩ by simp[Addr.add];exact λh=>h.A];exact this
 case q2=>intro u B;obtain⟨x,_,rfl⟩:=AZ.1 B;rfl
 case q3=>simp[maxLen];omega
 case q4=>(try simp);omega
 case q5=>exact y.o.size
 intro t z H P _;have o:Hid (Below w.heap.size w z):=J (y.o.C P y.o.size (λk e=>by exact Dz ((K.o.lt k e).1)));have l:=J H;clear H P;go_wp2;rw[DT];go_wp2;go_ret;refine⟨t,I,?_,o.o⟩;have:=l.o;rw[Au,List.map_drop,List.map_take,p.o,Nat.add_comm];exact this
def K8(n a:Nat):Nat:=(n+4294967296-a)%4294967296
theorem xa{n a:Nat}(c:n<=4294967295)(b:a<=4294967295):IntKind.u32.wrap ((n:Int)-(a:Int))=((K8 n a:Nat):Int):=by unfold K8;rw[IntKind.wrap_u32];omega
theorem qn(n a:Nat):K8 n a<=4294967295:=by unfold K8;omega
def Kd:List Nat->Nat->Nat->Nat->Nat->Nat
 | [],_,f,_,_=>f
 | n::l,i,f,wd,a=>if wd<K8 n a then Kd l (i+1) i (K8 n a) n else Kd l (i+1) f wd n
def GI(ys:List Nat):Nat:=Kd ys 0 0 0 (ys.getLastD 0)
def ZR(w:Z)(xs:List Nat)(e:Ending)(w':Z):Prop:=∃(v:Value) (ys:List Nat),e=.a v/\ys.Perm xs/\Asc ys/\w'.ownsRow w.heap.size 88 1 v ys.length ((ys.drop (GI ys)++ys.take (GI ys)).map F9)/\Below w.heap.size w w'
theorem Td(w:Z)(g cap:Nat)(p:Array Value)(d:List Nat)(F:w.heap[g]?=some (.cells p 88 (0,0)))(a:p.toList.take d.length=d.map F9)(M:d≠[])(t:d.length<=100000)(R:∀x∈d,x<=4294967295):Calls prog 141 #[.b g d.length cap] w λe w'=>ZR w d e w':=by
 have Q:=lt_of_heap F;obtain⟨m,z⟩:=E (w.alloc (.cells #[.b g d.length cap] 201));have G:=Ia z;have W:=JK z;have L:m.cell? (O w.heap.size 0)=some (.b g d.length cap):=by rw[z];simp
 have P:m.heap[g]?=some (.cells p 88 (0,0)):=(W.u g Q).i F;have Q:Ih Fence.wide 1 prog 256 #[.c w.heap.size] (λx=>#[F9 x]) d m.heap.size (λk=>k<m.heap.size) m:=mP 1 U m w.heap.size g cap d m.heap.size _ U U (show g<m.heap.size by omega) t L p P a;have B:=J ((B7 (n:=4)).1 (sM 4 U 256 _ (enters_of func256 EG I) d M t m m.heap.size _ (AB _) (λk t=>t) Q));have A:=J ((B7 (n:=4)).1 (nN 4 (FH g) d.length cap w));have H:=J z;have s:=J W;have u:=J G;obtain⟨T,S⟩:=E d.length;rw[<-S]at A H |-;have b:Hid (T=d.length/\0<T):=J ⟨S,by rw[S];exact Bl.2 M⟩;clear Q L P F z W G S;go_enter func141,ntmps141;go_wp2_with fail;refine A.o.l ?_;rintro e _ ⟨rfl,z⟩;rw[<-H.o]at z;subst z;go_wp2_with fail;refine B.o.l ?_;rintro e r ⟨_,c,rfl,P,V,W,d⟩;have ad:=P.length_eq;rcases W.2 with⟨_,h0⟩|⟨o,a,D,rfl,q,l,Q,H,T,L⟩
 .exact Dz b.o
 obtain⟨n,F⟩:=E c.length;have aR:0<n:=Dz b.o;have b:n<=100000:=U;have b:n<=a:=U;obtain⟨n1,aT⟩:=E (n-1);have b:(n:Int)-1=(n1:Nat):=U;have ai:n1<n:=U;obtain⟨b,G⟩:∃b:Nat->Nat,∀j,b j=c[j]! := ⟨λj=>c[j]!,λ_=>rfl⟩;have m:Hid (∀j,(h:j<c.length)->r.cell? (O o j)=some (F9 c[j])):=J (λj h=>by
  rw[AU r o j _ 88 (0,0) l,<-Bw];have:(D.toList.take (c.length*1))[j]?=(c.map F9)[j]? := by rw[L]
  rw[Aq U]at this;rw[this];simp[h])
 have aN:∀j,j<n->r.cell? (O o j)=some (.d (b j:Nat)):=λj h=>by rw[m.o j U,G,CD c j U];rfl
 have z:∀j,j<n->b j<=4294967295:=λj h=>by rw[G,CD c j U];exact R _ (P.mem_iff.1 (Bn _))
 have S:=lt_of_heap l;have p:Hid (Below w.heap.size w r):=J (s.o.i (d.l (Dz u.o)));have s:a<=9223372036854775807:=by unfold maxLen at H;omega
 have D:=J P;have M:=J V;have y:=J F;have N:=J G;have v:Hid (b n1=c.getLastD 0):=J (by have e:c.length-1=n1:=U;have h:n1<c.length:=U;rw[G,CD c n1 h,Cq,List.getLast?_eq_getElem?,e,AE h];rfl)
 rw[<-F];clear W d L T H l q A B P V F aT G ad Q;go_wp2_with fail;go_loopg [4,5,6,21] n (λk l q F d wr=>∃(i f u s:Nat),l=.a f/\q=.d u/\F=.d s/\d=.a i/\i<=n/\f<n/\u<=4294967295/\s<=4294967295/\n-i<=k/\wr=r/\Hid (Kd (c.drop i) i f u s=GI c))
 case atStart=>exact⟨0,0,0,b n1,I,I,I,I,by omega,aR,by omega,z n1 ai,by omega,I,J (by rw[v.o];rfl)⟩
 case round=>
  obtain⟨i,f,u,s,rfl,rfl,rfl,rfl,_,H,W,d,t,V,v⟩:=hrel;have l:=V.A;subst l;by_cases G:i<n
  .have l:(i:Int)<(n:Nat):=U;have q:=z i G;have t:=xa q d;have F:Hid (c.drop i=b i::c.drop (i+1)):=J (by have:=y.o;rw[Ah (by omega:i<c.length),N.o,CD c i U])
   by_cases L:u<K8 (b i) s
   .have d:(u:Int)<(K8 (b i) s:Nat):=U;go_wp2_with fail;go_roundg (n-(i+1))
    case measure=>omega
    case rel=>exact⟨i+1,i,K8 (b i) s,b i,I,I,I,by go_num,by omega,G,qn _ _,q,by omega,I,J (by rw[<-v.o,F.o];simp only[Kd];rw[AD L])⟩
   have d:¬(u:Int)<(K8 (b i) s:Nat):=U;go_wp2_with fail;go_roundg (n-(i+1))
   case measure=>omega
   case rel=>exact⟨i+1,f,u,b i,I,I,I,by go_num,by omega,H,W,q,by omega,I,J (by rw[<-v.o,F.o];simp only[Kd];rw[AC L])⟩
  have l:¬(i:Int)<(n:Nat):=U;have G:Hid (f=GI c):=J (by have:=v.o;rw[CU (Dz y.o)]at this;exact this);clear v;have v:=G;clear G;have b:f<=n:=U;have b:¬a=f:=U;have b:f<=a:=U;clear aN z;go_wp2_with fail;refine BL (S:=λ_=>True) EG trivial (λhHeld=>?_);refine Ef 0 I hHeld ?_;refine Ef 1 I hHeld ?_;refine Ef 2 I hHeld ?_;refine Ef 3 I hHeld ?_;refine Ef 4 I hHeld ?_;refine Ef 5 I hHeld ?_;refine rd 6 I (λK F=>?_);go_simp;obtain⟨N,Q⟩:=E ((r.alloc (.cells #[.slice (some (O o f)) (n-f) (a-f),.b o f a] 201)).drew);obtain⟨P,z⟩:=E r.heap.size;have T:N.heap[P]?=some (.cells #[.slice (some (O o f)) (n-f) (a-f),.b o f a] 201 (0,0)):=by rw[Q,z];exact AR _ _
  have R:Below r.heap.size r N:=by rw[Q];exact(Iy).drew
  have G:∀j,(h:j<c.length)->N.cell? (O o j)=some (F9 c[j]):=λj h=>by rw[R.cell (p:=⟨o,j,none⟩) S];exact m.o j h
  have C:=J (pX N P o f (n-f) (a-f) a c (Dz y.o) (Dz y.o) (Dz y.o) T G (AQ S R.size));have l:=J (p.o.i (R.l p.o.size));refine F.o _ _ trivial (λhHeld=>?_);rw[<-Q];simp only[<-z];clear F K Q z T R G;refine rd 7 I (λK F=>?_);go_simp;refine C.o.l ?_;rintro e _ ⟨_,rfl,V,z⟩;have a:=J (l.o.i (z.l l.o.size));have b:=J (ownsRow_base_a V l.o.size);rcases V.2 with⟨_,h0⟩|⟨_,_,_,rfl,_⟩
  .exact Dz y.o
  clear V z;refine F.o _ _ trivial (λhHeld=>?_);clear F K;refine Ef 8 I hHeld ?_;refine B8 EG ?_ _;clear hHeld;go_wp2_with fail;go_ret;refine⟨_,c,I,D.o,M.o,?_,a.o⟩;rw[<-v.o];exact b.o
end Y
end Go.Proofs.YtodmdkhdbfbfgaaGreatDoor
namespace Go.Proofs
open Go.RowKit Go.Maps Go.Sort Go.Shelf
shelf_lay_g SlLaysZI.n7 Ggz 7 at Tryz 140 as keysA
shelf_lay_g SlLaysZI.n6 Ggz 6 at Tryz 139 as sortedA
shelf_lay_g SlLaysM.n5 Slgm 5 at Tryz 201 as sortA
theorem Se(m:Nat):AnyZI.SortsIn prog sortedA_ren Fence.wide m:=
 ⟨λe d a g W f b c=>B7.2 (AnyM.slices_Sort_int sortA e d a g W f b c),
  λp a W=>B7.2 (AnyM.slices_Sort_int_none sortA p a W)⟩
namespace YtodmdkhdbfbfgaaGreatDoor.Y
theorem eD(a:Option Nat)(w:Z):Calls prog 140 #[.map a] w λe w'=>e=.a (.func (.func 202) #[] #[.c w.heap.size])/\w'=w.alloc (.cells #[.map a] 200):=
 (B7 (n:=5)).1 (AnyZI.keys_in keysA Fence.wide 5 trivial I a w)
theorem pw{H:Type}{R:Value->Option (DataW H×List MemPlace)}(w:Z)(Bm g n:Nat)(D:DataW H)(c:Bm<w.heap.size)(h:w.cell? (O Bm 0)=some (.e g))(b:w.ownsMap prog 3 R g n D)(i:Maps.size D<=100000):Calls prog 139 #[.func (.func 202) #[] #[.c Bm]] w λe w'=>∃(v:Value) (a:List Int),e=.a v/\a.Perm (intKeys D)/\w'.ownsRow w.heap.size 3 1 v a.length ((a.mergeSort (λx y=>decide (x<=y))).map encZ)/\(v=.g↔a=[])/\Below w.heap.size w w':=by
 have f:SeqGives Fence.wide 2 prog 202 #[.c Bm] encZ (λa=>a.Perm (intKeys D)) (Maps.size D) w:=
  AnyZI.keys_gives (ρ:=keysA_ren) {keysA with} Fence.wide _ trivial I U Bm g n D _ c h b
 have d:=AnyZI.sorted_in sortedA Fence.wide 5 trivial trivial trivial trivial I U (Se _) (enters_of func201 EG I) 202 #[.c Bm] trivial (enters_of func202 EG I) _ _ Fs U _ f;change CallsIn _ _ prog 139 _ _ _ at d;exact(B7 (n:=5)).1 d
end YtodmdkhdbfbfgaaGreatDoor.Y
end Go.Proofs
namespace Go.Proofs.YtodmdkhdbfbfgaaGreatDoor
namespace Y
open Go.RowKit Pk Go.Maps Go.Sort Go.ChangeShapes
variable {w w':Z} {z g n B:Nat} {xs:List Nat} {N:Nat->List Nat}
def nd:List Nat->DataW Value
 | []=>.nil
 | x::xs=>.slice (lits .u32 ((x::xs).map (λx:Nat=>(x:Int)))) []
def NJ(w:Z)(z g n:Nat)(N:Nat->List Nat):Prop:=∃D:DataW Value,w.ownsGroups prog 3 z 88 .u32 g n D/\(∀b:Nat,b<=1000000->D.atKey (.int .i64 (b:Int)) .nil=nd (N b)/\(Maps.has D (.int .i64 (b:Int))=true↔N b≠[]))/\(∀kl,Maps.has D kl=true->∃b:Nat,b<=1000000/\kl=.int .i64 (b:Int))
theorem lI{D:DataW Value}(h:w.ownsGroups prog 3 z 88 .u32 g n D):w.ownsMap prog 3 (rowElem (H:=Value) w z 88 .u32) g n D:=by obtain⟨b,a,c,d,e,f,_⟩:=h;exact⟨b,a,c,d,e,f⟩
theorem wY{c:List Int}(h:(lits .u32 c:List (DataW Value))=lits .u32 (xs.map (λx:Nat=>(x:Int)))):c=xs.map (λx:Nat=>(x:Int)):=by unfold lits at h;exact(List.map_inj_right (λa b e=>by cases e;rfl)).1 h
theorem gu(a:List Nat):(a.map (λx:Nat=>(x:Int))).map (Value.int .u32)=a.map F9:=by simp[F9,Function.comp_def]
theorem sr{v:Value}(h:w.ownsRow z 88 1 v xs.length (xs.map F9))(b:xs≠[]):rowDatum (H:=Value) .u32 v (xs.map (λx:Nat=>(x:Int)))=nd xs:=by
 cases xs with
 |nil=>exact absurd I b
 |cons x xs=>
  rcases h.2 with⟨_,a⟩|⟨g,_,_,rfl,_⟩
  .simp at a
  rfl
theorem wf_u32{x:Nat}(h:x<=4294967295):(Lit.int .u32 x).wf=true:=by simp[Lit.wf,IntKind.min,IntKind.max,IntKind.signed,IntKind.bits];omega
def Ry(w:Z)(z g n b:Nat)(N:Nat->List Nat)(v:Value):Prop:=∀(w1:Z) (v':Value) (xs':List Nat),w.grownBy w1 v.ownBlock->w1.ownsRow z 88 1 v' xs'.length (xs'.map F9)->xs'≠[]->(∀x∈xs',x<=4294967295)->xs'.length<=n+1->(v'.ownBlock=v.ownBlock\/∃g',v'.ownBlock=some g'/\w.heap.size<=g') ->
 ∃w2,(Instr.mapUpdate 200 (.e g) (.a (b:Int)) v').run prog w1=.ok () w2/\NJ w2 z g (n+1) (λc=>if c=b then xs' else N c)/\w1.grownBy w2 (some g)
theorem NJ.look(h:NJ w z g n N){b:Nat}(j:b<=1000000)(a:n<=1000000):∃v,(Instr.lookup 200 (.e g) (.a (b:Int)) false).run prog w=.ok v w/\w.ownsRow z 88 1 v (N b).length ((N b).map F9)/\(N b).length<=n/\Ry w z g n b N v:=by
 obtain⟨_,t,q,T⟩:=h;obtain⟨v,k,F,a,d,_,A⟩:=t.at OP underlying200 (qR w) Fs (Oi j);have m:k=(N b).map (λx:Nat=>(x:Int)):=by
  rw[(q b j).1]at a;cases s:N b with
  |nil=>
   rw[s]at a;rcases d.1.2 with⟨rfl,p⟩|⟨L,f,i,rfl,_⟩
   .exact BP.1 p
   simp[nd,rowDatum]at a
  |cons x l=>
   rw[s]at a;rcases d.1.2 with⟨rfl,p⟩|⟨L,f,i,rfl,_⟩
   .simp[nd,rowDatum]at a
   have G:(DataW.slice (lits .u32 ((x::l).map (λx:Nat=>(x:Int)))) []:DataW Value)=.slice (lits .u32 k) []:=a;exact wY (DataW.slice.inj G).1.A
 have C:k.length=(N b).length:=by rw[m];simp
 have D:w.r z 88 1 v (N b).length ((N b).map F9):=by have:=d.1;rw[C,m,gu]at this;exact this
 refine⟨v,F,D,by omega,λd a K S l u W V B=>?_⟩;obtain⟨f,M,P,Q⟩:=A d a (K.map (λx:Nat=>(x:Int))) S ⟨by rw[B0,gu];exact l,λz a=>by obtain⟨x,H,rfl⟩:=AZ.1 a;exact wf_u32 (W x H)⟩ (EU V) B;refine⟨f,M,⟨_,P,λc R=>?_,λy o=>?_⟩,Q⟩
 .have r:=(lI t).isMap;dsimp only;by_cases e:c=b
  .subst e;rw[D5 r (k:=.int .i64 (c:Int)) trivial,Cx r (k:=.int .i64 (c:Int)) trivial,AD I];exact⟨sr l u,by simp[u]⟩
  rw[DU (int_ne e),Bp (int_ne e),AC e];exact q c R
 by_cases e:y=.int .i64 (b:Int)
 .exact⟨b,j,e⟩
 rw[Bp e]at o;exact T y o
theorem NJ.made(w:Z):NJ (w.alloc (.map #[] 0)) (w.heap.size+1) w.heap.size 0 (λ_=>[]):=⟨.map [],World.ownsGroups_made w _ _ _ _,λb _=>⟨I,by simp[Maps.has]⟩,λ_ h=>by simp[Maps.has]at h⟩
theorem below_grown(h:Below B w w')(a:w.heap.size<=B):w.grownBy w' none:=⟨h.os,h.tape,h.output,h.size,λk _ _=>h.d k⟩
theorem NJ.f(h:NJ w z g n N)(c:Below B w w')(a:w.heap.size<=B):NJ w' z g n N:=by obtain⟨D,e,b,d⟩:=h;refine⟨D,e.kept (below_grown c a) EJ (λ_ _ _ x _=>?_),b,d⟩;cases x.val.ownBlock<;>simp
def Yb(w:Z)(n:Nat)(N:Nat->List Nat)(e:Ending)(w':Z):Prop:=∃(v:Value) (ks:List Nat),e=.a v/\Asc ks/\ks.Nodup/\(∀b,b∈ks↔N b≠[])/\ks.length<=n/\w'.ownsRow w.heap.size 3 1 v ks.length (ks.map (λk:Nat=>Value.int .i64 (k:Int)))/\Below w.heap.size w w'
theorem NJ.keys{Bm:Nat}(h:NJ w z g n N)(hN:∀b,N b≠[]->b<=1000000)(f:n<=100000)(K:Bm<w.heap.size)(d:w.cell? (O Bm 0)=some (.e g)):Calls prog 139 #[.func (.func 202) #[] #[.c Bm]] w λe w'=>Yb w n N e w':=by
 obtain⟨D,i,R,m⟩:=h;have o:=lI i;refine(pw w Bm g n D K d o (AG o.size_le f)).l ?_;rintro e w' ⟨v,P,rfl,V,F,-,L⟩;obtain⟨l,s,j,_⟩:=o.entries OP;obtain⟨d,Q,A⟩:=o.keysOf;obtain rfl:l=d:=by rw[s]at Q;simpa using Q
 have C:∀x:Int,Maps.has D (.int .i64 x)=true↔x∈intKeys D:=λx=>by
  rw[s,Maps.has_eq,Ap];show _↔x∈l.map λp=>Go.intOf p.1;rw[AZ];constructor
  .rintro⟨p,i,T⟩;obtain⟨v,r⟩:=A p i;obtain⟨y,_,f,_⟩:=Maps.keyOf_i64 underlying3 r;rw[f]at T;exact⟨p,i,by rw[f];simpa[Lit.sameKey,Go.intOf]using T⟩
  rintro⟨p,i,rfl⟩;obtain⟨v,r⟩:=A p i;obtain⟨y,_,f,_⟩:=Maps.keyOf_i64 underlying3 r;exact⟨p,i,by rw[f];simp[Lit.sameKey,Go.intOf]⟩
 have t:(intKeys D).Nodup:=by rw[s];show(l.map λp=>Go.intOf p.1).Nodup;refine CT.2 (j.imp_of_mem λ{p q} i d M e=>M ?_);obtain⟨v,r⟩:=A p i;obtain⟨u,i⟩:=A q d;obtain⟨x,_,d,_⟩:=Maps.keyOf_i64 underlying3 r;obtain⟨y,_,f,_⟩:=Maps.keyOf_i64 underlying3 i;rw[d,f]at e |-;exact AX _ e
 have W:∀x∈intKeys D,∃b:Nat,b<=1000000/\x=(b:Int):=λx d=>by obtain⟨b,L,e⟩:=m _ ((C x).2 d);exact⟨b,L,by cases e;rfl⟩
 obtain⟨S,B⟩:=E (P.mergeSort (λx y=>decide (x<=y)));have m:S.Perm (intKeys D):=by rw[B];exact(CV _ _).i V
 have r:S.Pairwise (λa b=>a<=b):=by have:=CQ (le:=λx y:Int=>decide (x<=y)) (λa b c G H=>by simp only[BJ]at *;omega) (λa b=>by simp;omega) P;rw[<-B]at this;exact this.imp (λh=>by simpa using h)
 have j:∀x∈S,∃b:Nat,b<=1000000/\x=(b:Int):=λx d=>W x (m.mem_iff.1 d);have i:S=(S.map Int.toNat).map (λk:Nat=>(k:Int)):=by
  rw[Cj];conv=>lhs;rw[<-List.map_id S]
  refine BO (λx d=>?_);obtain⟨b,_,rfl⟩:=j x d;simp
 refine⟨v,S.map Int.toNat,I,?_,?_,λb=>?_,?_,?_,L⟩
 .refine CT.2 (r.imp_of_mem λ{x y} d f h=>?_);obtain⟨b,_,rfl⟩:=j x d;obtain⟨c,_,rfl⟩:=j y f;simpa using h
 .refine CT.2 ((m.A.nodup t).imp_of_mem λ{x y} d f h e=>h ?_);obtain⟨b,_,rfl⟩:=j x d;obtain⟨c,_,rfl⟩:=j y f;have:b=c:=EU e;rw[this]
 .constructor
  .intro t;obtain⟨x,d,rfl⟩:=AZ.1 t;obtain⟨c,f,rfl⟩:=j x d;exact(R c f).2.1 ((C _).2 (m.mem_iff.1 d))
  intro t;have:=(C _).1 ((R b (hN b t)).2.2 t);exact AZ.2 ⟨(b:Int),m.mem_iff.2 this,by simp⟩
 .have G:=o.size_le;have H:=m.length_eq;rw[s]at G H;have d:(intKeys (DataW.map l)).length=l.length:=by show(l.map _).length=_;simp
  rw[B0,H,d];exact G
 have d:P.length=(S.map Int.toNat).length:=by rw[B0,B];exact(List.length_mergeSort _).A
 rw[<-B,d]at F;have:S.map encZ=(S.map Int.toNat).map (λk:Nat=>Value.int .i64 (k:Int)):=by
  conv=>lhs;rw[i]
  rw[Cj];rfl
 rw[this]at F;exact F
end Y
namespace Y
open Go.RowKit Pk Go.Shelf Go.Sort Go.Maps
def numsOf(ls:List (Nat×Nat))(b:Nat):List Nat:=(ls.filter (λx=>x.1==b)).map (·.2)
theorem px(a:List (Nat×Nat))(x:Nat×Nat)(c:Nat):numsOf (a++[x]) c=if c=x.1 then numsOf a x.1++[x.2]else numsOf a c:=by
 unfold numsOf;rw[DG,Au];by_cases h:c=x.1
 .subst h;simp
 have:(x.1==c)=false:=by simpa using λe=>h e.symm
 simp[this,h]
theorem jt(a:List (Nat×Nat)){i:Nat}(h:i<a.length):(MO a)[i*2]?=some (.a (a[i].1:Nat))/\(MO a)[i*2+1]?=some (.d (a[i].2:Nat)):=by
 induction a generalizing i with
 |nil=>simp at h
 |cons x l b=>
  have e:MO (x::l)=.a x.1 :: .d x.2::MO l:=by simp[MO]
  rw[e];cases i with
  |zero=>exact⟨I,I⟩
  |succ i=>have:=b (i:=i) (EU h);rw[show(i+1)*2=i*2+1+1 by omega];simpa using this
theorem lT(a:List (Nat×Nat))(b:Nat):(numsOf a b).length<=a.length:=by unfold numsOf;rw[B0];exact C0 _ _
def Gp(b:Nat)(ys:List Nat):List (Nat×Nat):=ys.map (λy=>(b,y))
def Re(w:Z)(ls:List (Nat×Nat))(e:Ending)(w':Z):Prop:=∃(v:Value) (ks:List Nat) (rs:Nat->List Nat),e=.a v/\Asc ks/\ks.Nodup/\(∀b,b∈ks↔numsOf ls b≠[]) /\
 (∀b∈ks,∃ys,ys.Perm (numsOf ls b)/\Asc ys/\rs b=ys.drop (GI ys)++ys.take (GI ys))/\w'.ownsRow w.heap.size 90 2 v (ks.flatMap (λb=>Gp b (rs b))).length (MO (ks.flatMap (λb=>Gp b (rs b))))/\Below w.heap.size w w'
def qA(W:Z)(z g n b:Nat)(N:Nat->List Nat)(v:Value):Prop:=W.ownsRow z 88 1 v (N b).length ((N b).map F9)/\∀(w1:Z) (g' cap x:Nat),W.grownBy w1 v.ownBlock->w1.ownsRow z 88 1 (.b g' ((N b).length+1) cap) ((N b).length+1) ((N b).map F9++[.d x])->(∀y∈N b,y<=4294967295)->x<=4294967295->(N b).length<=n->(v.ownBlock=some g'\/g'=W.heap.size) ->
 ∃w2,(Instr.mapUpdate 200 (.e g) (.a (b:Int)) (.b g' ((N b).length+1) cap)).run prog w1=.ok () w2/\NJ w2 z g (n+1) (λc=>if c=b then N b++[x]else N c)/\w1.grownBy w2 (some g)
theorem gX{w W:Z}{z g n b:Nat}{N:Nat->List Nat}{v:Value}(c:w.ownsRow z 88 1 v (N b).length ((N b).map F9))(m:Ry w z g n b N v)(a:w.grownBy W none):qA W z g n b N v:=by
 have d:w.grownBy W v.ownBlock:=⟨a.os,a.tape,a.output,a.size,λk o _=>a.u k o EJ⟩;refine⟨c.kept a (by cases v.ownBlock<;>simp),λq e _ x f i j _ _ l=>?_⟩;refine m q _ (N b++[x]) (d.i f) (by simpa[F9]using i) EJ (λy p=>?_) EL ?_
 .rcases Aj.1 p with h|h
  .exact j y h
  simp at h;omega
 rcases l with h|h
 .exact Or.w h.A
 exact Or.s ⟨e,I,by exact Dz a.size⟩
theorem uQ(w:Z)(T cap:Nat)(S:Array Value)(a:List (Nat×Nat))(u:w.heap[T]?=some (.cells S 90 (0,0)))(G:S.toList.take (a.length*2)=MO a)(hne:a≠[])(d:a.length<=100000)(g:∀x∈a,x.1<=1000000/\x.2<=4294967295):Calls prog 84 #[.b T a.length cap] w λe w'=>Re w a e w':=by
 obtain⟨i0,hi,bC,bV,c8⟩:=An NB;obtain⟨j0,hj,bI,cj,bR⟩:=An QU;have f:=lt_of_heap u;obtain⟨f,hz⟩:=E w.heap.size;obtain⟨l,B⟩:=E (w.alloc (.map #[] 0));have z:=Ia B hz.A;have o:Below f w l:=by rw[B,hz];exact Iy
 have s:=kE w;rw[<-B,<-hz]at s;have bA:Hid (NJ l (f+1) f 0 (λ_=>[])):=J (by rw[B,hz];exact NJ.made w);obtain⟨N,l⟩:=E a.length;have p:N<=100000:=U;have F:Hid (∀W,Below f w W->∀i,(h:i<a.length)->W.cell? (O T (i*2))=some (.a (a[i].1:Nat))/\W.cell? (O T (i*2+1))=some (.d (a[i].2:Nat))):=J (λW C i h=>by
  have D:=(C.d T).i u;have e:∀k,k<a.length*2->S[k]?=(MO a)[k]? := λk H=>by rw[<-G,Aq H,Bw]
  rw[AU W T _ _ 90 (0,0) D,AU W T _ _ 90 (0,0) D,e _ U,e _ U];exact jt a h)
 change Hid _ at B hz z o;have aU:=J l;have p:=J g;rw[<-l];clear u l G d g;go_enter func84,ntmps84;go_wp2_with rw[<-B.o,<-hz.o];go_loopg [14] N (λk d wr=>∃(i n:Nat),d=.a i/\i<=N/\N-i<=k/\n<=i/\Hid (NJ wr (f+1) f n (numsOf (a.take i)))/\Hid (Below f w wr)/\f+1<=wr.heap.size)
 .exact⟨0,0,I,by omega,by omega,by omega,bA,o,by exact Dz z.o⟩
 .clear s;obtain⟨i,n,rfl,_,H,_,HN,A,_⟩:=hrel;by_cases d:i<N
  .have b9:(i:Int)<(N:Nat):=U;have d:i<a.length:=Dz aU.o;obtain⟨b,B⟩:=E ((a[i]).1);obtain⟨r,g⟩:=E ((a[i]).2);have C:b<=1000000:=by rw[B];exact(p _ (Bn d)).1
   have D:r<=4294967295:=by rw[g];exact(p _ (Bn d)).2
   obtain⟨c0,c1⟩:=F wr A i d;rw[<-B]at c0;rw[<-g]at c1;have HT:Hid (a.take (i+1)=a.take i++[(b,r)]):=J (by rw[Al,AE d,B,g];rfl);clear B g;obtain⟨q,o⟩:=E wr.heap.size;obtain⟨z,Q⟩:=E (wr.alloc (.cells #[.a b,.d r] 90));have g:z.heap.size=q+1:=by rw[Q,o];simp
   have G:Below f w z:=by rw[Q];exact A.o.a
   have bG:wr.grownBy z none:=by rw[Q];exact BF wr _ none
   have F:=Gi Q o.A;have k0:=NO 0 F;have k1:=NO 1 F;have T:Hid (NJ z.drew (f+1) f n (numsOf (a.take i))):=J (HN.o.f (B:=wr.heap.size) (by rw[Q];exact(Iy).drew) (AB _));obtain⟨u,R⟩:=E ((z.alloc (.cells #[.d r] 88)).drew);have l:u.heap.size=q+2:=by rw[R];show(z.alloc _).heap.size=_;simp[g]
   have b3:Below f w u:=by rw[R];exact(G.a).drew
   have S:u.heap[q+1]?=some (.cells #[.d r] 88 (0,0)):=by rw[R,<-g];exact AR _ _
   have d:∀k,k<q+1->u.heap[k]?=z.heap[k]? := λk H=>by rw[R];exact Jm
   have P:z.drew.grownBy u none:=by rw[R];exact⟨I,I,I,by simp,λk H _=>AO z _ k (EU H)⟩
   have M:=EV 0 ((d _ U).i F);have m1:=EV 1 ((d _ U).i F);have bY:=J (T.o.f (B:=z.drew.heap.size) ⟨P.os,P.tape,P.output,P.size,λk H=>P.u k H EJ⟩ (AB _));have aZ:=J ((d _ U).i F);have cm:=J Q;have s:=J R;change Hid _ at g l b3 S;have z:=J P;have cf:=J o;have bL:Hid (∀y∈numsOf (a.take i) b,y<=4294967295):=J (λy u=>by unfold numsOf at u;obtain⟨x,L,rfl⟩:=AZ.1 u;exact(p x (DP (Ad.1 L).1)).2)
   have co:f+1<=q:=U;clear Q R G F d P bG o;go_wp2_with rw[<-cm.o,<-cf.o];refine BL (S:=λV=>V.cell? (O q 0)=some (.a b)/\V.cell? (O q 1)=some (.d r)) EG ⟨k0,k1⟩ (λhHeld=>?_);refine Ef 0 I hHeld ?_;refine Ef 1 I hHeld ?_;refine Ef 2 I hHeld ?_;refine Ef 3 I hHeld ?_;refine Ef 4 I hHeld ?_;refine Ef 5 I hHeld ?_;refine Ef 7 I hHeld ?_;refine Ef 8 I hHeld ?_;refine wpAnyH_ready (rs:=[6,9]) EG EJ ?_;refine CX I (λK o=>?_) (CX I (λK o=>?_) Dp)
   case' refine_1=>obtain⟨v,P,F,aM,d⟩:=T.o.look C U;have G:=J (gX F d z);go_simp;refine o _ _ ⟨k0,k1⟩ (λhHeld=>?_);clear o K P d F;refine rd 9 I (λK o=>?_);go_simp;refine o _ _ (by rw[<-s.o];exact⟨M,m1⟩) (λhHeld=>?_);rw[<-s.o]at hHeld |-;simp only[g.o];clear o K
   case' refine_2=>obtain⟨v,P,F,aM,d⟩:=bY.o.look C U;have G:=J (gX F d ⟨I,I,I,AB _,λ_ _ _=>rfl⟩);go_simp;refine o _ _ (by rw[<-s.o];exact⟨M,m1⟩) (λhHeld=>?_);rw[<-s.o]at hHeld |-;simp only[g.o];clear o K;refine rd 6 I (λK o=>?_);go_simp;refine o _ _ ⟨M,m1⟩ (λhHeld=>?_);clear o K P d F
   all_goals
    refine rd 10 I (λK o=>?_);refine step_append_lies _ I _ _ 201 I (f+1) 88 i0 (.d 0) 1 4 underlying201 hi bC bV c8 I EB v _ _ I G.o.1 ⟨q+1,0,none⟩ 1 1 [.d r] I I ?q1 ?q2 U Fs U (by rw[l.o];omega) _ I ?_
    case q1=>exact World.news_of_block (cs:=#[.d r]) S
    case q2=>simp[Value.oneCell']
    intro g4 ag Q s d z _;obtain⟨R,_,o5,g⟩:=G.o.2 Q g4 ag r d s bL D aM (z.imp id (λh=>h));have s:∀k,v.ownBlock=some k->f+1<=k/\k≠q:=λk e=>⟨(G.o.1.lt k e).1,λz=>by
     rcases G.o.1.2 with⟨e2,_⟩|⟨g',S,T,e2,_,e3,_⟩
     .rw[e2]at e;cases e
     rw[e2]at e;cases e;dsimp only at z;rw[z,aZ.o]at e3;cases e3⟩
    have z:=d.u q (by rw[l.o];omega) (λe=>(s q e.A).2 I);have n0:=(AK z).i M;have n1:=(AK z).i m1;refine o _ _ ⟨n0,n1⟩ (λhHeld=>?_);clear o K;simp only[Act.put];refine rd 11 I (λK o=>?_);go_simp;have z:=d.size;have D:q+2<=Q.heap.size:=by rw[l.o]at z;exact z
    have D:=(AK (g.u q U (λe=>by simp at e;omega))).i n0;have p1:=(AK (g.u q U (λe=>by simp at e;omega))).i n1;have z:=J ((b3.o.C d (by rw[l.o];omega) (λk e=>by exact Dz ((s k e).1))).C g U (λk e=>by cases e;exact AB _));have l:Hid (NJ R (f+1) f (n+1) (numsOf (a.take (i+1)))):=J (by
     rw[HT.o];have e:numsOf (a.take i++[(b,r)])=λc=>if c=b then numsOf (a.take i) b++[r]else numsOf (a.take i) c:=by funext c;exact px _ _ c
     rw[e];exact o5)
    have d:f+1<=R.heap.size:=Dz g.size;refine o _ _ ⟨D,p1⟩ (λhHeld=>?_);clear o K hHeld;refine B8 EG ?_ _;go_wp2_with fail;go_roundg (N-(i+1))
    case measure=>omega
    case rel=>exact⟨i+1,n+1,by go_num,by omega,by omega,by omega,l,z,d⟩
  have b9:¬(i:Int)<(N:Nat):=U;have bx:Hid (NJ wr (f+1) f n (numsOf a)):=J (by have:=HN;rw[AT (Dz aU.o)]at this;exact this);clear HN bA;go_wp2_with fail;refine(eD (some f) wr).l ?_;rintro e s ⟨rfl,d⟩;have z:=Ia d;have l:=JK d;have o:s.cell? (O wr.heap.size 0)=some (.e f):=by rw[d];simp
  have R:=J (bx.o.f l (AB _));have aX:∀b,numsOf a b≠[]->b<=1000000:=λb h=>by obtain⟨x,L⟩:=Cr _ h;unfold numsOf at L;obtain⟨y,u,rfl⟩:=AZ.1 L;have:=Ad.1 u;have e:y.1=b:=EU this.2;rw[<-e];exact(p y this.1).1
  have D:=J (R.o.keys (Bm:=wr.heap.size) aX U U o);have bq:=J (A.o.i (l.b));obtain⟨_,g⟩:=E wr.heap.size;rw[<-g]at D;simp only[<-g];change Hid _ at aX;have bn:Hid (f+1<=s.heap.size):=J U;clear l o d z g;go_wp2_with fail;refine D.o.l ?_;rintro e N ⟨_,g,rfl,az,aW,aa,_,af,l⟩;have bB:g≠[]:=λe=>by
   obtain⟨x,L⟩:=Cr _ hne;have:x.1∈g:=(aa x.1).2 (λe=>by have:x.2∈numsOf a x.1:=AZ.2 ⟨x,Ad.2 ⟨L,by simp⟩,I⟩;rw[e]at this;cases this)
   rw[e]at this;cases this
  rcases af.2 with⟨_,h0⟩|⟨o,_,d,rfl,q1,q2,q3,q4,q5,G⟩
  .exact absurd (BP.1 h0) bB
  rw[Dk]at G;obtain⟨M,Q⟩:=E g.length;obtain⟨s,z⟩:=E N.heap.size;have bP:o<s:=by rw[z];exact lt_of_heap q2
  have bW:=J (bq.o.i (l.l (Dz bn.o)));have bT:=J (R.o.f l (AB _));have bM:f+1<=s:=by have:=bn.o;exact Dz l.size
  have c9:Hid (∀W,Below s N W->∀j,(h:j<g.length)->W.cell? (O o j)=some (.a (g[j]:Nat))):=J (λW C j h=>by
   rw[AU W o j _ 3 (0,0) ((C.u o bP).i q2),<-Bw];have:(d.toList.take g.length)[j]?=(g.map (λk:Nat=>Value.int .i64 (k:Int)))[j]? := by rw[G]
   rw[Aq h]at this;rw[this];simp[h])
  have d:M<=100000:=U;change Hid _ at aW aa;have bp:=J Q;change Hid _ at z az;rw[<-Q];clear af l q1 q2 q3 q4 q5 G D Q bB R bq bx A;go_wp2_with fail;go_loopg [6,34] M (λk s6 d Q=>∃(j:Nat) (D:Nat->List Nat) (v:Value),v=s6/\d=.a j/\j<=M/\M-j<=k/\Hid (∀b∈g.take j,∃l,l.Perm (numsOf a b)/\Asc l/\D b=l.drop (GI l)++l.take (GI l)) /\
   Hid (Q.ownsRow s 90 2 v ((g.take j).flatMap (λb=>Gp b (D b))).length (MO ((g.take j).flatMap (λb=>Gp b (D b)))))/\Hid (Below s N Q)/\((g.take j).flatMap (λb=>Gp b (D b))).length<=j*100000)
  .exact⟨0,λ_=>[],_,I,I,by omega,by omega,J EJ,J (by simpa[MO]using Af N s 90 2),J (AP _ _),by simp⟩
  obtain⟨j,D,v6,rfl,rfl,_,H,HR,R,f,bX⟩:=hrel;by_cases d:j<M
  .have ay:(j:Int)<(M:Nat):=U;have o:j<g.length:=Dz bp.o;obtain⟨b,B⟩:=E (g[j]);have ck:=c9 wr f j o;rw[<-B]at ck;have A:b∈g:=by rw[B];exact Bn o
   have d:=(aa b).1 A;have C:=aX b d;have bF:b∉g.take j:=λh=>by rw[List.mem_take_iff_getElem]at h;obtain⟨A,_,e⟩:=h;exact CY.1 aW A j U o U (e.i B)
   have bl:Hid (g.take (j+1)=g.take j++[b]):=J (by rw[Al,AE o,B];rfl);have bj:=bT.o.f f (by rw[z.o];exact AB _);obtain⟨_,P,F,aM,-⟩:=bj.look C U;rcases F.2 with⟨_,h0⟩|⟨g4,ag,o,rfl,p1,p2,p3,p4,p5,p6⟩
   .exact absurd (BP.1 h0) d
   rw[Dk]at p6;have bc:(numsOf a b).length<=100000:=by have:=lT a b;exact Dz aU
   have H:=J (Td wr g4 ag o (numsOf a b) p2 p6 d bc (λy u=>by unfold numsOf at u;obtain⟨x,L,rfl⟩:=AZ.1 u;exact(p x (Ad.1 L).1).2))
   obtain⟨m,o⟩:=E ((numsOf a b).length);rw[<-o]at P H;have p:Hid (m=(numsOf a b).length/\m<=100000/\0<m):=J ⟨o,by omega,by rw[o];exact Bl.2 d⟩;have aV:s<=wr.heap.size:=by rw[z.o];exact f.o.size
   obtain⟨A,ah⟩:=E ((g.take j).flatMap (λb=>Gp b (D b)));rw[<-ah]at R bX;change Hid _ at ah;clear F p1 p2 p3 p4 p5 p6 o B aM bc bj d;go_wp2_with fail;refine H.o.l ?_;rintro e w8 ⟨_,l,rfl,L,ad,a7,aP⟩;obtain⟨d,B⟩:=E (l.drop (GI l)++l.take (GI l));rw[<-B]at a7;have F:d.length=l.length:=by rw[B];simp;omega
   have ci:l.length=m:=by rw[L.length_eq,p.o.1]
   have o:=p.o.2;rcases a7.2 with⟨_,h0⟩|⟨o,_,p,rfl,q1,q2,q3,q4,q5,G⟩
   .omega
   rw[Dk]at G;have cl:Hid (∀W:Z,W.heap[o]?=some (.cells p 88 (0,0))->∀t,t<m->W.cell? (O o t)=some (.d (d[t]! : Nat))):=J (λW C t h=>by
    rw[AU W o t _ 88 (0,0) C,<-Bw];have:(p.toList.take l.length)[t]?=(d.map F9)[t]? := by rw[G]
    rw[Aq U]at this;rw[this,CD d t U];simp[show t<d.length by omega,F9])
   have bf:=J (f.o.i (aP.l aV));have C:Hid (w8.ownsRow s 90 2 v6 (A++Gp b (d.take 0)).length (MO (A++Gp b (d.take 0)))):=J (by have:=R.o.kept (below_grown aP (AB _)) (by cases v6.ownBlock<;>simp);simpa[Gp]using this)
   have br:=J q2;have HY:Hid (∃l,l.Perm (numsOf a b)/\Asc l/\d=l.drop (GI l)++l.take (GI l)):=J ⟨l,L,ad,B⟩;rw[ci]at F |-;change Hid _ at F;clear a7 aP q1 q2 q3 q4 q5 G P ck H L ad B R;go_wp2_with fail;go_loopg [6,43] m (λk s6 a Q=>∃(t:Nat) (v:Value),v=s6/\a=.a t/\t<=m/\m-t<=k/\Hid (Q.ownsRow s 90 2 v (A++Gp b (d.take t)).length (MO (A++Gp b (d.take t))))/\Hid (Below s N Q)/\Hid (Q.heap[o]?=some (.cells p 88 (0,0))))
   .exact⟨0,v6,I,I,by omega,by omega,C,bf,br⟩
   clear C bf br;obtain⟨t,v,rfl,rfl,_,_,P,l,a⟩:=hrel;by_cases B:t<m
   .have N:(t:Int)<(m:Nat):=U;have C:=cl wr a t B;obtain⟨y,u⟩:∃y,y=d[t]! := ⟨_,I⟩;rw[<-u]at C;have G:Hid (A++Gp b (d.take (t+1))=(A++Gp b (d.take t))++[(b,y)]):=J (by
     have:=F.o;have h:t<d.length:=U;have e:d.take (t+1)=d.take t++[y]:=by rw[Al,AE h,u,CD d t h];rfl
     rw[e];simp[Gp])
    obtain⟨C,B⟩:=E (A++Gp b (d.take t));rw[<-B]at P G;have H:C.length<=100000*100000+100000:=by
     have:(Gp b (d.take t)).length<=t:=by simp[Gp];omega
     have h2:j*100000<=100000*100000:=Bt _ U;rw[B,AM];omega
    have b5:s<=wr.heap.size:=by rw[z.o];exact l.o.size
    clear u B;go_wp2_with (at_builtin;refine Av _ I _ _ 144 I s 90 j0 (.agg #[.a 0,.d 0]) 2 16 underlying144 hj bI cj bR I EB _ _ _ I (P.o.alloc _) ⟨wr.heap.size,0,none⟩ 1 1 [.a b,.d y] I I ?q1 ?q2 ?q3 ?q4 ?q5 ?_)
    case q1=>exact World.news_of_block (cs:=#[.a b,.d y]) (AR _ _)
    case q2=>simp[Value.oneCell']
    case q3=>unfold maxLen;omega
    case q4=>omega
    case q5=>simp;omega
    intro H L z u Q;have bS:=J ((l.o.alloc b5 _).C u EL (λk e=>(P.o.lt k e).1));have B:Hid (L.ownsRow s 90 2 H (C++[(b,y)]).length (MO (C++[(b,y)]))):=J (by rw[ig];simpa using z);have C:Hid (L.heap[o]?=some (.cells p 88 (0,0))):=J (by
     have p:=lt_of_heap a;refine(u.u o EL (λe=>?_)).i ((AO wr _ o p).i a);rcases P.o.2 with⟨e2,_⟩|⟨g',S,T,e2,_,e3,_⟩
     .rw[e2]at e;cases e
     rw[e2]at e;cases e;rw[a.o]at e3;cases e3)
    rw[<-G.o]at B;clear z u Q;go_wp2_with fail;go_roundg (m-(t+1))
    case measure=>omega
    case rel=>exact⟨t+1,H,I,by go_num,by omega,by omega,B,bS,C⟩
   have N:¬(t:Int)<(m:Nat):=U;have o:Hid (wr.ownsRow s 90 2 v (A++Gp b d).length (MO (A++Gp b d))):=J (by have:=P;rw[AT (Dz F.o)]at this;exact this)
   go_wp2_with fail;go_roundg (M-(j+1))
   case measure=>omega
   have e:(g.take (j+1)).flatMap (λc=>Gp c (if c=b then d else D c))=A++Gp b d:=by
    rw[bl.o,List.flatMap_append,ah.o];congr 1
    .rw[List.flatMap_def,List.flatMap_def];congr 1;exact BO (λc a=>by rw[AC (λe=>bF (by rw[<-e];exact a))])
    simp
   refine⟨j+1,λc=>if c=b then d else D c,v,I,by go_num,by omega,by omega,J (λc a=>?_),J (by rw[e];exact o),l,?_⟩
   .by_cases l:c=b
    .subst l;dsimp only;rw[AD I];exact HY
    rw[bl.o]at a;dsimp only;rw[AC l];rcases Aj.1 a with h|h
    .exact HR c h
    simp at h;exact absurd h l
   rw[e,AM];have:(Gp b d).length=m:=by simp[Gp,F.o]
   have h2:(j+1)*100000=j*100000+100000:=U;omega
  have ay:¬(j:Int)<(M:Nat):=U;have a:Hid (g.take j=g):=J (AT (Dz bp.o));rw[a.o]at HR R;go_wp2_with fail;go_ret;unfold Re;rw[<-hz.o];refine⟨v6,g,D,I,az,aW,aa,HR,?_,bW.o.i (f.o.b)⟩;exact ownsRow_base_a R U
end Y
namespace Y
open Go.RowKit Pk Go.Shelf
def bw(ls:List (Nat×Nat)):List (Nat×(Nat×Nat)):=(List.range ls.length).map (λk=>(ls.length-1-k,ls[ls.length-1-k]!))
theorem XH(a:List (Nat×Nat)):(bw a).length=a.length:=by simp[bw]
theorem eS(a:List (Nat×Nat)){k:Nat}(h:k<(bw a).length):(bw a)[k]=(a.length-1-k,a[a.length-1-k]!):=by simp[bw]
theorem jI(a:List (Nat×Nat)):(bw a).map (·.2)=a.reverse:=by
 apply List.ext_getElem
 .simp[bw]
 intro _ b _;simp[bw]at b;rw[List.getElem_map,eS,List.getElem_reverse];simp only;rw[CD a _ U]
theorem ri(n:Nat)(a:1<=n)(w:Z)(B g cap:Nat)(a:List (Nat×Nat))(A:Nat)(S:Nat->Prop)(F:B<A)(P:g<A)(y:S B)(z:S g)(T:a.length<=100000*100000)(f:w.cell? (O B 0)=some (.b g a.length cap))(c:Array Value)(d:w.heap[g]?=some (.cells c 90 (0,0)))(R:c.toList.take (a.length*2)=MO a):Ih Fence.wide n prog 138 #[.c B] Nc (bw a) A S w:=by
 intro l C W Q M q;have x:W.cell? (O B 0)=some (.b g a.length cap):=by rw[Q.cell (p:=⟨B,0,none⟩) F];exact f
 have F:W.heap[g]?=some (.cells c 90 (0,0)):=(Q.u g P).i d;have v:Hid (∀V:Z,V.heap[g]?=some (.cells c 90 (0,0))->∀i,(h:i<a.length)->V.cell? (O g (i*2))=some (.a (a[i].1:Nat))/\V.cell? (O g (i*2+1))=some (.d (a[i].2:Nat))):=J (λV j i h=>by
  have e:∀k,k<a.length*2->c[k]?=(MO a)[k]? := λk c=>by rw[<-R,Aq c,Bw]
  rw[AU V g _ _ 90 (0,0) j,AU V g _ _ 90 (0,0) j,e _ U,e _ U];exact jt a h)
 obtain⟨m,s⟩:=E a.length;have o:=J s;have c:m<=100000*100000:=U;rw[<-s]at x;have H:=J F;have D:Hid (∀V:Z,KR S W V->V.cell? (O B 0)=some (.b g m cap)):=J (λV L=>by rw[AK (L B y)];exact x);clear f d R s F;refine Cy func138 I trivial ?_ I;simp only[ntmps138,BV,Ae,Bf,Nat.reduceAdd,Nat.reduceSub,Bc,Bb,Bo,Bh,BB,Az];gi_wp2;gi_loopw [3] (λi wr=>∃p:Nat,p<=m/\i=.a ((p:Nat)-1)/\C ((bw a).take (m-p)) wr/\Hid (KR S W wr)) (λi _=>(intOf i+1).toNat)
 case atStart=>exact⟨m,AB _,I,by simpa using q,J (λ_ _=>rfl)⟩
 case round=>
  clear x;obtain⟨t,_,rfl,q,u⟩:=hrel;by_cases c:0<t
  .obtain⟨p,R⟩:∃p,t=p+1:=⟨t-1,by omega⟩;subst R;have N:(((p+1:Nat):Int)-1)=(p:Nat):=U;rw[N];have G:p<a.length:=Dz o.o;obtain⟨c0,c1⟩:=v.o wr ((u.o g z).i H.o) p G;obtain⟨b,f⟩:=E ((a[p]).1);obtain⟨r,j⟩:=E ((a[p]).2);have F:=D.o wr u.o;have K:m-(p+1)<(bw a).length:=by have:=o.o;rw[XH];omega
   have v:(bw a)[m-(p+1)]=(p,(b,r)):=by have s:=o.o;rw[eS];have e:a.length-1-(m-(p+1))=p:=U;rw[e,CD a p G,f,j]
   obtain⟨_,_,_,_,H,P⟩:=M ((bw a).take (m-(p+1))) (p,(b,r)) wr q (by rw[<-v,DY K];exact List.take_prefix _ _);unfold Nc at H;have D:=J P;have x:Hid ((bw a).take (m-p)=(bw a).take (m-(p+1))++[(p,(b,r))]):=J (by rw[<-v,DY K];congr 1;omega)
   rw[<-f]at c0;rw[<-j]at c1;have a:(p:Int)<(m:Nat):=U;have a:(0:Int)<=(p:Nat):=U;clear P q v f j N;gi_wp2_with gi_in;refine D.o.mono ?_;rintro e _ ⟨rfl,M,L⟩;have j:=J (u.o.i L);have N:=J M;clear M L D H c0 c1 F;gi_wp2;go_roundw
   case rel=>exact⟨p,by omega,I,by rw[x.o];exact N.o,j⟩
   case measure=>simp[intOf]
  have f:t=0:=U;subst f;have d:=J q;clear q;gi_wp2;go_end0;exact⟨⟨_,I⟩,by have:=d.o;rw[DC,AT (by rw[XH,<-o.o];exact AB _)]at this;exact this⟩
end Y
end Go.Proofs.YtodmdkhdbfbfgaaGreatDoor
namespace Go.Proofs
open Go.Shelf
def LW:Go.Shelf.Ren:=⟨fun | 169=>137 | n=>n,fun | 70=>191 | 9=>9 | 0=>0 | 72=>193 | 37=>111 | 127=>242 | 3=>3 | 5=>5 | n=>n,fun | n=>n⟩
theorem RN:Go.Proofs.Lays.n169 prog LW:={
 mixed:=EG
 f169:=func137.i (AX some EG)
 t0:=underlying0
 a0:=isAgg0
 z0:=sizeOf0
 v0:=zeroValue0
 t3:=underlying3
 a3:=isAgg3
 z3:=sizeOf3
 v3:=zeroValue3
 t9:=underlying9
 a9:=isAgg9
 z9:=sizeOf9
 v9:=zeroValue9
 t37:=underlying111
 a37:=isAgg111
 z37:=sizeOf111
 v37:=zeroValue111
 t70:=underlying191
 a70:=isAgg191
 z70:=sizeOf191
 v70:=zeroValue191
 t72:=underlying193
 a72:=isAgg193
 z72:=sizeOf193
 v72:=zeroValue193
 t127:=underlying242
 a127:=isAgg242
 z127:=sizeOf242
 v127:=zeroValue242 }
theorem Ki:Builder.Extra prog LW:={
 sizeBuilder:=EG
 liesBuilder:=EG
 t5:=underlying5
 a5:=isAgg5
 z5:=sizeOf5
 v5:=zeroValue5
 infoByte:=EG
 cellsByte:=EG
 sizeByte:=EG
 neB5:=by decide }
open Go.RowKit in
theorem Builder_String_any_k(B b:Nat)(l:Du)(w:Z)(h:Lib.IsBuilderF 193 5 B b (Lib.byteCells l) w)(a:B<=w.heap.size):Calls prog 137 #[.c b] w λe w'=>e=.a (.string ⟨l.toArray⟩)/\(Lib.IsBuilderF 193 5 B b (Lib.byteCells l) w'/\Below B w w'/\Lib.OthersKept 5 (some b) w w'):=Any.Builder_String_any_k RN Ki B b l w h a
end Go.Proofs
namespace Go.Proofs.YtodmdkhdbfbfgaaGreatDoor
section
open Go.RowKit Go.Nt
theorem Rc:(prog.info? 193).map (·.size)=some 2:=EG
theorem Uz:liesAt prog prog.depth 193 (2/prog.cellsOf 193) 0 193 1=true:=EG
theorem vw(b:Nat)(w:Z)(f:w.cell? (O b 0)=some (.pointer none))(g:w.frozen? (O b 0)=false)(a:w.shape? b=some (193,2)):Calls prog 199 #[.c b] w λe w'=>e=.a (.tuple #[])/\w'=w.setCell (O b 0) (.c b):=by obtain⟨j,c,d⟩:=Option.map_eq_some_iff.1 Rc;have k1:=Lib.run_to_unsafe (P:=prog) w ⟨b,0,none⟩ underlying191 underlying285 c (by rw[d];decide) a (Nat.zero_lt_succ 1);have k2:=Lib.run_from_unsafe (P:=prog) w ⟨b,0,none⟩ underlying285 underlying191 c a Uz;clear c d;go_enter func199,ntmps199;go_wp2;rw[run_callFunc_extern func251 EG EG EG (e:=Extern.AbiNoEscape.same) EG];rw[Lib.run_noEscape];simp only[Result.andThen];rw[Oper.upon_value];go_wp2;go_end0;exact⟨I,I⟩
theorem mZ(b:Nat)(w:Z)(d:w.cell? (O b 0)=some (.c b)):Calls prog 199 #[.c b] w λe w'=>e=.a (.tuple #[])/\w'=w:=by obtain⟨j,a,c⟩:=Option.map_eq_some_iff.1 Rc;have k1:=Lib.run_neq_ptr_same (P:=prog) w ⟨b,0,none⟩ underlying191 a;clear a c;go_enter func199,ntmps199;go_wp2;go_end0;exact⟨I,I⟩
def Li(w:Z)(b:Nat)(l:Bs):Prop:=∃p v,w.heap[b]?=some (.cells #[p,v] 193 (0,0))/\(p=.pointer none\/p=.c b)/\Bytes w (b+1) v l
theorem Li.wC{w:Z}{b:Nat}{l:Bs}(h:Li w b l):Lib.IsBuilderF 193 5 b b (Lib.byteCells l) w:=by
 obtain⟨p,v,j,q,k⟩:=h;have f:w.r b 5 1 v (bv l).length (bv l):=by
  have d:=k;unfold Bytes at d;rw[Rx];refine⟨d.1,?_⟩;rcases d.2 with m|⟨g,a,c,e,_,n⟩
  .exact .w m
  exact .s ⟨g,a,c,e,by omega,n⟩
 have i:v.ownBlock≠some b:=by intro e;exact Dz ((Dn k b e).1)
 have o:Lib.byteCells l=bv l:=I;rw[o];rcases q with rfl|rfl
 .exact .w ⟨AB _,v,j,World.ownsRowF_of f,i⟩
 exact .s ⟨AB _,v,j,World.ownsRowF_of f,i⟩
theorem Li.a{w w':Z}{b:Nat}{l:Bs}(h:Li w b l)(d:Jf 90 w w'\/∀k,k<w.heap.size->w'.heap[k]?=w.heap[k]?):Li w' b l:=by
 obtain⟨p,v,n,q,i⟩:=h;rcases d with d|d
 .refine⟨p,v,d.cells n EB,q,i.1,?_⟩;rcases i.2 with j|⟨g,a,c,e,o,f,m⟩
  .exact .w j
  exact .s ⟨g,a,c,e,o,d.cells f EB,m⟩
 refine⟨p,v,(d b (lt_of_heap n)).i n,q,i.1,?_⟩;rcases i.2 with j|⟨g,a,c,e,o,f,m⟩
 .exact .w j
 exact .s ⟨g,a,c,e,o,(d g (lt_of_heap f)).i f,m⟩
def Mp(b:Nat)(w w':Z):Prop:=w'.os=w.os/\w'.tape=w.tape/\w'.output=w.output/\w.heap.size<=w'.heap.size/\∀(k:Nat) (o:Obj),w.heap[k]?=some o->k≠b->Po 5 o=false->w'.heap[k]?=some o
theorem rq(b:Nat)(l:Bs)(s:Bs)(w:Z)(h:Li w b l)(a:l.length<=100000000)(a:s.length<=100000000):Calls prog 136 #[.c b,.string (X s)] w λe w'=>(∃v,e=.a v)/\Li w' b (l++s)/\Mp b w w'/\Below b w w':=by
 obtain⟨i0,W,q,F,y⟩:=An IM;obtain⟨p,v,j,z,u⟩:=h;have d:=lt_of_heap j;obtain⟨m,K⟩:=E (X s);have d:m.size=s.length:=by rw[K,EF]
 rw[<-K];have P:=J K;have H:=J d;have a:m.size<=100000000:=U;have A:Hid (Calls prog 199 #[.c b] w λe w'=>e=.a (.tuple #[])/\w'.heap[b]?=some (.cells #[.c b,v] 193 (0,0))/\(∀k,k≠b->w'.heap[k]?=w.heap[k]?)/\w'.heap.size=w.heap.size/\w'.os=w.os/\w'.tape=w.tape/\w'.output=w.output):=by
  refine J ?_;rcases z with rfl|rfl
  .refine(vw b w (by rw[AU w b 0 _ 193 (0,0) j];rfl) (Fg 0 j) (by simp[World.shape?,j])).l ?_;rintro e w' ⟨rfl,rfl⟩;exact⟨I,AJ w b 0 _ 193 _ j,λk t=>AH w ⟨b,0,none⟩ _ k t,by simp,I,I,I⟩
  refine(mZ b w (by rw[AU w b 0 _ 193 (0,0) j];rfl)).l ?_;rintro e w' ⟨rfl,rfl⟩;exact⟨I,j,λ_ _=>rfl,I,I,I,I⟩
 obtain⟨n,f⟩:=E l.length;have D:=J f;have M:=J u;have G:n<=100000000:=U;clear j z u K d f;go_enter func136,ntmps136;go_wp2_with fail;refine A.o.l ?_;rintro e L ⟨rfl,R,i,f,G,z,d⟩;have Q:L.ownsRow (b+1) 5 1 v n (bv l):=by
  have r:=M.o;unfold Bytes at r;rw[<-D.o]at r;refine⟨r.1,?_⟩;rcases r.2 with B|⟨g,a,c,e,V,C,T⟩
  .exact .w B
  exact .s ⟨g,a,c,e,V,(i g U).i C,T⟩
 have c1:=EV 1 R;have x:=J Q;have S:=J R;obtain⟨j,K,rfl⟩:=Bytes.slice (w:=L) (B:=b+1) (v:=v) (l:=l) (by unfold Bytes;rw[<-D.o];exact Q);rw[<-D.o]at x c1 S;have N:=J (And.intro i (And.intro f (And.intro G (And.intro z d))));clear A i R Q f G z d;go_wp2_with (at_builtin;refine Ch _ I (.tmp 12) (.tmp 13) 111 9 I (b+1) 5 i0 underlying111 underlying9 W q F y _ _ _ I x.o m I ?c3 ?c4 ?c5 ?_)
 case c3=>unfold maxLen;omega
 case c4=>omega
 case c5=>exact Dz N.o.2.1
 intro Q y M d _;have f:b<L.heap.size:=lt_of_heap S.o;have z:b≠b+1:=U;have G:y.heap[b]?=some (.cells #[.c b,.slice j n K] 193 (0,0)):=(d.u b f (λe=>by exact Dz ((Dn x.o b e.A).1))).i S.o;have z:Bytes y (b+1) Q (l++s):=by unfold Bytes;have r:=P.o;have B:=D.o;have C:=H.o;rw[Qs,AM,<-B,<-C,<-Uk s,<-r];exact M
 obtain⟨j,c2,rfl⟩:=z.slice;have d1:=EV 1 G;have f1:=Fg 1 G;obtain⟨W,P⟩:=E ((l++s).length);rw[<-P]at z;rw[show(l++s).length=W from P.A]at M |-;obtain⟨q,f⟩:=E (y.setCell (O b 1) (.slice j W c2));have Q:q.heap[b]?=some (.cells #[.c b,.slice j W c2] 193 (0,0)):=by rw[f];exact AJ _ b 1 _ 193 _ G
 have H:∀k,k≠b->q.heap[k]?=y.heap[k]? := λk t=>by rw[f];exact AH y ⟨b,1,none⟩ _ k t
 have j:Hid (Li q b (l++s)):=J ⟨_,_,Q,.s I,z.1,by
  rcases z.2 with B|⟨g,a,c,e,V,C,T⟩
  .exact .w B
  exact .s ⟨g,a,c,e,V,(H g U).i C,T⟩⟩
 obtain⟨q1,q2,q3,q4,q5⟩:=N.o;have N:w.heap.size<=q.heap.size:=by rw[f];have:=d.size;simp;omega
 have F:Hid (Mp b w q):=J ⟨by rw[f];exact d.os.i q3,by rw[f];exact d.tape.i q4,by rw[f];exact d.output.i q5,N,λk o t K m=>by
  rw[H k K];have i:=(q1 k K).i t;refine(d.u k (lt_of_heap i) (λe=>?_)).i i;rcases x.o.2 with⟨u,_⟩|⟨g,a,c,u,_,a,_⟩
  .cases u;cases e
  cases u;cases e;rw[a]at i;cases i;simp[Po]at m⟩
 have a:Hid (Below b w q):=J ⟨F.o.1,F.o.2.1,F.o.2.2.1,N,λk t=>by rw[H k U];refine(d.u k U (λe=>?_)).i (q1 k U);exact Dz ((Dn x.o k e.A).1)⟩
 have R:=J f;clear M d z G Q H q1 q2 q3 q4 q5 f N P;go_wp2_with rw[<-R.o];go_ret2;exact⟨⟨_,I⟩,j.o,F.o,a.o⟩
end
end Go.Proofs.YtodmdkhdbfbfgaaGreatDoor
