/- Lemmas. -/
import Derived.StringKeys
import Derived.Maps.Views
import Derived.Test.YtodmdkhdbfbfgaaGreatDoorM10
set_option linter.unusedVariables false
set_option linter.unusedSimpArgs false
set_option maxRecDepth 100000
set_option maxHeartbeats 8000000
open Go.Proofs.Tryz
abbrev Go.Df:=@Go.World.drewN_drewN
namespace Go.Proofs.YtodmdkhdbfbfgaaGreatDoor
section
open Go.RowKit Go.Nt
def RJ(w:Z)(b o:Nat)(x:Ir):Prop:=
 w.cell? (O b o)=some (.a x.kind)/\w.cell? (O b (o+1))=some (.slice x.j.1 x.j.2.1 x.j.2.2)/\w.cell? (O b (o+2))=some (.string (X x.c))/\w.cell? (O b (o+3))=some (.string (X x.dst))/\w.cell? (O b (o+4))=some (.string (X x.data))/\w.cell? (O b (o+5))=some (.a x.a)/\w.cell? (O b (o+6))=some (.a x.b)/\w.cell? (O b (o+7))=some (.bool x.other)
def O1(w:Z)(a:Option Addr)(n:Nat)(f:Nat->Ir):Prop:=0<n->∃b off,a=some (O b off)/\∀k,k<n->RJ w b (off+k*8) (f k)
theorem RJ.f{w w':Z}{b o:Nat}{x:Ir}(h:RJ w b o x)(a:Below w.heap.size w w'):RJ w' b o x:=by obtain⟨a0,d,e,f,g,i,j,k⟩:=h;have c:b<w.s:=Am _ _ a0;exact⟨(a.cell c).i a0,(a.cell c).i d,(a.cell c).i e,(a.cell c).i f,(a.cell c).i g,(a.cell c).i i,(a.cell c).i j,(a.cell c).i k⟩
theorem sI{u:Bs->Option Bs}(p:Ge u)(w:Z)(f:ML w)(j m:Int)(G:Option Addr)(r M:Nat)(z:Nat->Int)(l:r<=17592186043904)(t:Y.IntsIn w G r z)(y:Option Addr)(N C:Nat)(c:Nat->Ir)(K:Nat->List It)(a:N<=1048576)(g:O1 w y N c)(v:∀k,k<N->NF w (λx=>x<w.heap.size) (c k) (K k)):Calls prog 8 #[.a j,.a m,.slice G r M,.slice y N C,.bool true] w λe w'=>e=.a (.bool true)/\Below w.heap.size w w':=by
 have L:=J (qS p w f);obtain⟨a,n⟩:=E w.heap.size;have F:0<a:=by rw[n];exact f.lt
 have P:Hid (∀V,Below a w V->Y.IntsIn V G r z):=J (λV s=>t.f (by rw[<-n];exact s));have aj:Hid (∀V,Below a w V->O1 V y N c):=J (λV s d=>by obtain⟨b,A,e,q⟩:=g d;exact⟨b,A,e,λk D=>(q k D).f (by rw[<-n];exact s)⟩)
 have W:=J v;rw[<-n]at L W |-;have q:=J n;have B:Hid (∀V,Below a w V->ML V):=J (λV s=>f.f s F);clear f t g v n;go_enter func8,ntmps8;go_wp2_with fail;refine L.o.l ?_;rintro e H ⟨rfl,f⟩;have g:=J f;have T:a<=H.heap.size:=by have:=f.size;rw[<-q.o]at this;exact this
 clear f L;go_wp2_with fail;refine(oZ H).l ?_;rintro e w' ⟨rfl,y⟩;have f:=y.A;subst f;clear y;go_wp2_with fail;refine(pB H).l ?_;rintro e w' ⟨rfl,y⟩;have f:=y.A;subst f;clear y;have n:=J (gR H j m G r M z l (P.o _ g.o));go_wp2_with fail;refine n.o.l ?_;rintro e l ⟨_,_,s,rfl,v,L,Q,R,M⟩;have t:=J (gR l m j none 0 0 (λ_=>0) U (λh=>absurd h EB));have S:=J Q;have d:=J R;have P:=J M;have f:Hid (Below a w l):=J (g.o.i (M.l T));clear Q R M n;go_wp2_with fail;refine t.o.l ?_;rintro e G ⟨_,_,y,rfl,R,n,l,r,m⟩;have H:=P.o.size;have j:Hid (KV u G a s y 0):=J (xV T F v L S.o d.o P.o (Dz (Y.EM.g S.o)) R n l r m (Dz (Y.EM.g l)));have M:Hid (Below a w G):=J (f.o.i (m.l U));clear t R n l r m v L S d P f H T g;go_wp2_with fail;go_loopw [17] (λi wr=>∃k:Nat,k<=N/\i=.a k/\Hid (KV u wr a s y (2*k))/\Hid (Below a w wr)) (λi _=>N-(intOf i).toNat)
 case atStart=>exact⟨0,AW _,I,j,M⟩
 case round=>
  clear j M;obtain⟨k,D,rfl,j,d⟩:=hrel;by_cases v:k<N
  .have f:(k:Int)<(N:Int):=U;have g:(0:Int)<=(k:Int):=U;obtain⟨b,A,R,L⟩:=aj.o wr d.o U;subst R;have Q:=L k v;have g:=W.o k v;have n:a<=wr.heap.size:=by have:=d.o.size;rw[<-q.o]at this;exact this
   have SS:=J (j.o.steps p n F (B.o _ d.o) U d.o (c k) (K k) g);have m:=J (j.o.swap.steps p n F (B.o _ d.o) U d.o (c k) (K k) g);obtain⟨o,n⟩:=E (c k);rw[<-n]at Q SS m;clear L g n;obtain⟨_,⟨_,_,_⟩,_,_,_,_,_,c⟩:=o;obtain⟨g,n,t,v,L,M,P,R⟩:=Q;dsimp only at g n t v L M P R;unfold NI Ir.arr at SS m;dsimp only at SS m;clear j;cases c;focus
    clear m;go_wp2_with fail;refine SS.o.l ?_;rintro e B ⟨rfl,l,p⟩;have D:Hid (Below a w B):=J (d.o.i (p.l (AB _)));have K:=J (l.looks U);have Q:=J l;have T:a<=B.heap.size:=by have:=D.o.size;rw[<-q.o]at this;exact this
    clear l p SS g n t v L M P R
   rotate_left
   focus
    clear SS;go_wp2_with fail;refine m.o.l ?_;rintro e B ⟨rfl,S,p⟩;have l:=S.swap;have D:Hid (Below a w B):=J (d.o.i (p.l (AB _)));have K:=J (l.looks U);have Q:=J l;have T:a<=B.heap.size:=by have:=D.o.size;rw[<-q.o]at this;exact this
    clear l S p m g n t v L M P R
   rotate_left
   all_goals
    go_wp2_with fail;refine K.o.l ?_;rintro e g ⟨rfl,W⟩;have R:=J (Q.o.f W);have t:Hid (Below a w g):=J (D.o.i (W.l T));have S:a<=g.heap.size:=by have:=t.o.size;rw[<-q.o]at this;exact this
    have n:=J (R.o.swap.looks U);clear W K Q;go_wp2_with fail;refine n.o.l ?_;rintro e l ⟨rfl,g⟩;have L:=J (R.o.f g);have c:Hid (Below a w l):=J (t.o.i (g.l S));clear g n R;go_wp2_with fail;go_roundw
    case rel=>exact⟨k+1,by omega,by go_num,by rw[show 2*(k+1)=2*k+2 by omega];exact L,c⟩
    case measure=>simp[intOf];omega
  have f:¬(k:Int)<(N:Int):=U;clear j;go_wp2_with fail;go_ret;exact⟨I,d.o⟩
theorem sX{u:Bs->Option Bs}(s:Ge u)(w:Z)(d:ML w)(n p:Int)(h:Option Addr)(g m:Nat)(z:Nat->Int)(i:g<=17592186043904)(c:Y.IntsIn w h g z)(j:Option Addr)(N C:Nat)(b:Nat->Ir)(o:Nat->List It)(r:N<=1048576)(a:O1 w j N b)(f:∀k,k<N->NF w (λx=>x<w.heap.size) (b k) (o k)):Calls prog 4 #[.a n,.a p,.slice h g m,.slice j N C] w λe w'=>e=.a (.bool true)/\Below w.heap.size w w':=by have P:=J (sI s w d n p h g m z i c j N C b o r a f);clear d c a f;go_enter func4,ntmps4;go_wp2_with fail;refine P.o.l ?_;rintro e _ ⟨rfl,l⟩;have q:=J l;clear l P;go_wp2_with fail;go_ret;exact⟨I,q.o⟩
end
namespace Y
open Go.RowKit Pk
structure MD (D:DataW Unit) (mp:Du->Option Nat):Prop where
 is:Maps.IsMap D
 no:∀s,mp s=none->Maps.has D (.string s)=false
 yes:∀s v,mp s=some v->Maps.has D (.string s)=true/\D.atKey (.string s) (.lit (.int .i64 0))=.lit (.int .i64 (v:Nat))
theorem MD.nil:MD (.map []) (λ_=>none):=⟨Maps.isMap_empty,λ_ _=>rfl,λ_ _ h=>by cases h⟩
theorem MD.put{D:DataW Unit}{c:Du->Option Nat}(h:MD D c)(k:Du)(v:Nat):MD (D.put (.string k) (.lit (.int .i64 v))) (λs=>if s=k then some v else c s):=by
 have b:WideAt.IsKeyLit (Lit.string k):=trivial;refine⟨h.is.put _ _,λs a=>?_,λs u a=>?_⟩
 .by_cases e:s=k
  .rw[AD e]at a;cases a
  rw[AC e]at a;rw[Bp (λe2=>e (by injection e2))];exact h.no s a
 by_cases e:s=k
 .rw[AD e]at a;cases a;subst e;exact⟨Cx h.is b _,D5 h.is b _ _⟩
 rw[AC e]at a;rw[Bp (λe2=>e (by injection e2)),DU (λe2=>e (by injection e2))];exact h.yes s u a
structure PM (w:Z) (B pb mb bb:Nat) (d:Du) (m:Nat) (mp:Du->Option Nat) (bf:Nat->Int):Prop where
 e:B<=pb
 hm:B<=mb
 hb:B<=bb
 st:w.heap[pb]?=some (.cells #[.string (X d),.e mb,.b bb d.length d.length] 337 (0,0))
 b:∃D,w.ownsMap prog 9 (plainElem prog 3) mb m D/\MD D mp
 a:w.rowIs bb 3 d.length (λj=>.a (bf j))
def Eb(d:Du)(v:Nat):Du:=(d.drop v).take 3
theorem kJ(w:Z)(c a:Nat)(d:Du)(x y:Value)(i:d.length<=4000)(g:a<=4000)(h:d.length<a+3)(b:w.heap[c]?=some (.cells #[.string (X d),x,y] 337 (0,0))):Calls prog 307 #[.c c,.a a] w λe w'=>e=.a (.tuple #[.string ⟨#[]⟩,.bool false])/\w'=w:=by have k:=EV 0 b;have j:=EF d;generalize X d=t at *;have f:(t.size:Int)<(a:Int)+3:=U;go_enter func307,ntmps307;go_wp2;go_ret2;exact⟨I,I⟩
theorem km(w:Z)(f a:Nat)(d:Du)(x y:Value)(m:d.length<=4000)(h:a+3<=d.length)(b:w.heap[f]?=some (.cells #[.string (X d),x,y] 337 (0,0))):Calls prog 307 #[.c f,.a a] w λe w'=>e=.a (.tuple #[.string (X (Eb d a)),.bool true])/\w'=w:=by
 have n:=EV 0 b;have i:=EF d;have c:=Ka d a (a+3);have g:Hid ((X d).extract a (a+3)=X (Eb d a)):=by show _=_;rw[c];unfold Eb;rw[show a+3-a=3 by omega]
 generalize X d=t at *;have j:¬(t.size:Int)<(a:Int)+3:=U;have k:a+3<=t.size:=U;have l:t.size<=4000:=U;clear b c i;go_enter func307,ntmps307;go_wp2;go_ret2;refine⟨?_,I⟩;rw[<-g.o];rfl
theorem uk(w:Z)(r a f:Nat)(d:Du)(x y:Value)(R:d.length<=4000)(S:f<a)(Q:a<=d.length)(n:w.heap[r]?=some (.cells #[.string (X d),x,y] 337 (0,0))):Calls prog 309 #[.c r,.a f,.a a] w λe w'=>∃k q:Nat,e=.a (.a k)/\w'=w.drewN q/\k<=34/\a+k<=d.length/\(∀j,j<k->d.getD (f+j) 0=d.getD (a+j) 0)/\(k=34\/a+k=d.length\/d.getD (f+k) 0≠d.getD (a+k) 0):=by
 have L:=EV 0 n;have p:=EF d;have g:∀k (h:k<(X d).size),((X d)[k]'h).toNat=(d.getD k 0).toNat:=λk h=>by rw[O0]
 generalize X d=t at *;change Hid _ at p g;go_enter func309,ntmps309;go_wp2;go_loopw [7] (λi wr=>∃k q:Nat,i=.a k/\wr=w.drewN q/\k<=34/\a+k<=d.length/\Hid (∀j,j<k->d.getD (f+j) 0=d.getD (a+j) 0)) (λi _=>34-(intOf i).toNat)
 case atStart=>exact⟨0,0,I,I,by omega,by omega,λj G=>by omega⟩
 case round=>
  obtain⟨k,q,rfl,rfl,_,_,c⟩:=hrel;have l:=p.o;have x1:=L;by_cases z:k=34
  .have C:decide ((k:Int)<34)=false:=EL;change Hid _ at l;go_wp2;go_quiet (fail);go_wp2;go_ret;exact⟨k,_,I,by simp only[Df,World.drew_drewN];rfl,by omega,by omega,c.o,.w z⟩
  have C:decide ((k:Int)<34)=true:=EL;by_cases B:a+k=d.length
  .have D:decide ((a:Int)+(k:Int)<(t.size:Int))=false:=EL;change Hid _ at l;go_wp2;go_quiet (fail);go_wp2;go_ret;exact⟨k,_,I,by simp only[Df,World.drew_drewN];rfl,by omega,by omega,c.o,.s (.w B)⟩
  obtain⟨A,m⟩:=E (a+k);obtain⟨F,hF⟩:=E (f+k);have D:decide ((A:Int)<(t.size:Int))=true:=EL;have H:F<t.size:=U;have K:A<t.size:=U;have e1:=g.o F H;have e2:=g.o A K;have N:t.size<=4000:=U;have W:=zW (x:=((a:Int)+(k:Int)));have w2:=zW (x:=((f:Int)+(k:Int)));have T:(a:Int)+(k:Int)=(A:Int):=U;have V:(f:Int)+(k:Int)=(F:Int):=U;have o:k+1<=34/\a+(k+1)<=d.length:=U;change Hid _ at m hF l;by_cases b:d.getD F 0=d.getD A 0
  .have s:Hid (∀j,j<k+1->d.getD (f+j) 0=d.getD (a+j) 0):=λj G=>by
    by_cases e:j=k
    .subst e;rw[<-m.o,<-hF.o];exact b
    exact c.o j U
   rw[<-b]at e2;generalize (d.getD F 0).toNat=u at *;go_wp2;go_quiet (fail);go_wp2;go_roundw
   case rel=>exact⟨k+1,_,by go_num,by first|rfl|trivial|(simp only[Df,World.drew_drewN];rfl),o.1,o.2,s⟩
   case measure=>simp[intOf];omega
  have M:(d.getD F 0).toNat≠(d.getD A 0).toNat:=λh=>b (BR.1 h);change Hid _ at b;generalize (d.getD F 0).toNat=u at *;generalize (d.getD A 0).toNat=v at *;have P:((u:Int)==(v:Int))=false:=EL;go_wp2;go_quiet (fail);go_wp2;go_ret;exact⟨k,_,I,by simp only[Df,World.drew_drewN];rfl,by omega,by omega,c,.s (.s (by rw[<-m.o,<-hF.o];exact b))⟩
def PZ:Option Nat->Int
 | some v=>(v:Int)
 | none=>-1
theorem OT:Maps.Keyed prog 9:=Maps.string_keyed underlying9
theorem gW(w:Z)(B o f u m:Nat)(d s:Du)(g:Du->Option Nat)(x:Nat->Int)(C:s.length<=4000)(h:PM w B o f u d m g x):Calls prog 308 #[.c o,.string (X s)] w λe w'=>e=.a (.a (PZ (g s)))/\w'=w:=by
 obtain⟨D,k,b⟩:=h.b;have F:=EV 1 h.st;have j:keyOf prog 9 (.string (X s))=some (.string s):=WideMaps.keyOf_string_mk underlying9 (by rw[EF];unfold maxLen;omega);have n:(zeroValue 3).run prog w=.ok (.int .i64 0) w:=by obtain⟨_,y,r,_⟩:=An LY;simp[zeroValue,typeInfo,y,r]
 change Hid _ at b;generalize X s=t at *;go_enter func308,ntmps308;cases l:g s with
 |none=>have A:=b.o.no s l;go_wp2_with (at_lookup;refine wpList_lookup_own_ok_int _ I _ _ 335 I 9 3 .i64 OT underlying335 underlying3 n f m D I k _ (.string s) I j ?_;intro c a p);go_ret;exact⟨I,I⟩
 |some v=>have i:=b.o.yes s v l;have z:=i.1;have q:=J i.2;go_wp2_with (at_lookup;refine wpList_lookup_own_ok_int _ I _ _ 335 I 9 3 .i64 OT underlying335 underlying3 n f m D I k _ (.string s) I j ?_;intro c a p);go_ret;rw[q.o]at a;injection a with h1;injection h1 with h2 h3;exact⟨Ma (by rw[<-h3];rfl),I⟩
structure PI (d:Du) (mp:Du->Option Nat) (bf:Nat->Int) (a:Nat):Prop where
 lt:∀s v,mp s=some v->v<a/\v+3<=d.length/\Eb d v=s
 ch:∀v,v<a->v+3<=d.length->bf v = -1\/∃u:Nat,bf v=(u:Int)/\u<v/\Eb d u=Eb d v
 all:∀v,v<a->v+3<=d.length->∃u,mp (Eb d v)=some u
theorem nI(d:Du)(u a j:Nat)(h:Eb d u=Eb d a)(c:j<3)(f:u+3<=d.length)(e:a+3<=d.length):d.getD (u+j) 0=d.getD (a+j) 0:=by have b:=AX (λl=>l.getD j 0) h;unfold Eb at b;simp only[AI,Aq c,C4]at b;simpa[AI]using b
theorem YE(d:Du)(a:Nat):(Eb d a).length<=3:=by unfold Eb;rw[Ac];omega
structure Good (d:Du) (a len bk:Nat):Prop where
 h:3<=len
 g:len<=34
 b1:1<=bk
 b2:bk<=a
 fit:a+len<=d.length
 same:∀j,j<len->d.getD (a+j) 0=d.getD (a+j-bk) 0
theorem xD(w:Z)(B b k f m a:Nat)(d:Du)(l:Du->Option Nat)(g:Nat->Int)(j:d.length<=4000)(n:a<=d.length)(i:d.length<a+3)(h:PM w B b k f d m l g):Calls prog 277 #[.c b,.a a] w λe w'=>e=.a (.tuple #[.a 0,.a 0])/\w'=w:=by have c:=J (kJ w b a d _ _ j U i h.st);clear h;go_enter func277,ntmps277;go_wp2_with (go_at_call 307;refine c.o.l ?_;rintro e w' ⟨rfl,rfl⟩);go_ret2;exact⟨I,I⟩
def Vj(d:Du)(a:Nat)(mp:Du->Option Nat)(w:Z)(e:Ending)(w':Z):Prop:=
 ∃len bk q:Nat,e=.a (.tuple #[.int .i64 len,.int .i64 bk])/\w'=w.drewN q/\((len=0/\bk=0)\/Good d a len bk)/\(∀v,mp (Eb d a)=some v->(∀j,a+j<d.length->d.getD (v+j) 0=d.getD (a+j) 0)->min 34 (d.length-a)<=len)
theorem vz(w:Z)(B x M K m a:Nat)(d:Du)(g:Du->Option Nat)(o:Nat->Int)(L:d.length<=4000)(z:a+3<=d.length)(h:PM w B x M K d m g o)(F:PI d g o a):Calls prog 277 #[.c x,.a a] w λe w'=>Vj d a g w e w':=by
 have G:=J (km w x a d _ _ L z h.st);have N:=J (gW w B x M K m d (Eb d a) g o (Dz (YE d a)) h);have A:Hid (∀f q,f<a->Calls prog 309 #[.c x,.a (f:Nat),.a a] (w.drewN q) _):=λf q c=>uk (w.drewN q) x a f d _ _ L c U h.st;have V:∀q,(w.drewN q).g x 2 (.b K d.length d.length):=λq=>by show w.cell? _=_;rw[AU w x 2 _ 337 (0,0) h.st];rfl
 have S:=J h.a;have x:=J F;have c:max (0:Int) ((a:Int)-4096)=0:=U;clear h F;obtain⟨s,n⟩:∃s:Int,s=PZ (g (Eb d a)):=⟨_,I⟩;rw[<-n]at N;have R:Hid (s = -1\/∃u:Nat,s=(u:Int)/\u<a/\Eb d u=Eb d a):=by
  cases D:g (Eb d a)with
  |none=>rw[D]at n;exact .w n
  |some v=>rw[D]at n;have:=x.o.lt _ _ D;exact .s ⟨v,n,this.1,this.2.2⟩
 have W:Hid (∀v,g (Eb d a)=some v->s=(v:Int)):=λv D=>by rw[D]at n;exact n
 clear n;go_enter func277,ntmps277;go_wp2_with (first|(go_at_call 307;refine Jj G.o ?_)|(go_at_call 308;refine Jj N.o ?_));go_loopw [8,4,5] (λf l b wr=>∃p:Int,∃c y q:Nat,f=.int .i64 p/\l=.int .i64 c/\b=.int .i64 y/\wr=w.drewN q/\c<=34 /\ -1<=p/\p<=4000/\Hid (p = -1\/∃u:Nat,p=(u:Int)/\u<a/\Eb d u=Eb d a)/\Hid ((c=0/\y=0)\/Good d a c y)/\Hid ((p=s/\c=0)\/(∀v,g (Eb d a)=some v->(∀j,a+j<d.length->d.getD (v+j) 0=d.getD (a+j) 0)->min 34 (d.length-a)<=c))) (λf _ _ _=>(intOf f+1).toNat)
 case atStart=>exact⟨s,0,0,0,I,I,I,I,by omega,by rcases R.o with h|⟨u,h,_⟩<;>omega,by rcases R.o with h|⟨u,h,C,_⟩<;>omega,R,.w ⟨I,I⟩,.w ⟨I,I⟩⟩
 case round=>
  clear G N;obtain⟨p,c,y,q,rfl,rfl,rfl,rfl,_,F,D,L,H,P⟩:=hrel;by_cases Q:p = -1
  .subst Q;have G:Hid (∀v,g (Eb d a)=some v->(∀j,a+j<d.length->d.getD (v+j) 0=d.getD (a+j) 0)->min 34 (d.length-a)<=c):=λv r t=>by
    rcases P.o with⟨i,C⟩|i
    .exact Dz (W.o v r)
    exact i v r t
   go_wp2;go_ret2;exact⟨c,y,q,I,I,H.o,G.o⟩
  obtain⟨u,T,N,M⟩:∃u:Nat,p=(u:Int)/\u<a/\Eb d u=Eb d a:=by
   rcases L.o with h|h
   .exact absurd h Q
   exact h
  have G:Hid (((u:Int)=s/\c=0)\/(∀v,g (Eb d a)=some v->(∀j,a+j<d.length->d.getD (v+j) 0=d.getD (a+j) 0)->min 34 (d.length-a)<=c)):=by rw[<-T];exact P
  subst T;have p:=J M;have T:=x.o.ch u N U;have R:=V q;have x:u<d.length:=U;clear P L M F D Q;go_wp2_with fail;refine(A.o u q N).l ?_;rintro e _ ⟨k,q2,rfl,rfl,M,A,N,L⟩;have D:3<=k:=by
   by_cases e0:3<=k
   .exact e0
   exfalso;rcases L with h|h|h
   .omega
   .omega
   exact h (nI d u a k p.o U U z)
  have F:Hid (Good d a k (a-u)):=⟨D,M,by omega,by omega,A,λj z=>by rw[show a+j-(a-u)=u+j by omega];exact(N j z).A⟩
  have M:Hid (∀v,g (Eb d a)=some v->(u:Int)=s->(∀j,a+j<d.length->d.getD (v+j) 0=d.getD (a+j) 0)->min 34 (d.length-a)<=k):=λv r n t=>by
   have:=W.o v r;have n:v=u:=U;subst n;rcases L with h|h|h
   .omega
   .omega
   by_cases e:a+k<d.length
   .exact absurd (t k e) h
   omega
  have n:(a:Int)-(u:Int)=((a-u:Nat):Int):=U;have s:∀n,(w.drewN n).g K u (.a (o u)):=λn=>S.o.cell (i:=u) x;have n:=V (q+q2);have n:=s (q+q2);have P:Hid (o u = -1\/∃z:Nat,o u=(z:Int)/\z<a/\Eb d z=Eb d a):=by
   rcases T with h|⟨z,i,C,n⟩
   .exact .w h
   exact .s ⟨z,i,by omega,n.i p.o⟩
  have n:-1<=o u/\o u<u:=by rcases T with h|⟨z,i,C,_⟩<;>omega
  have n:(u:Int)<(d.length:Int):=U;rw[Df];generalize o u=Q at *;clear N L T s V R;by_cases n:c<k
  .have n:decide ((c:Int)<(k:Int))=true:=EL;have A:Hid (∀v,g (Eb d a)=some v->(∀j,a+j<d.length->d.getD (v+j) 0=d.getD (a+j) 0)->min 34 (d.length-a)<=k):=λv r t=>by
    rcases G.o with⟨i,C⟩|i
    .exact M.o v r i t
    exact Dz (i v r t)
   clear G M H;by_cases S:k=34
   .subst S;go_wp2;go_ret2;exact⟨34,a-u,q+q2,I,I,.s F.o,A.o⟩
   have V:((k:Int)==34)=false:=EL;go_wp2;go_roundw
   case rel=>exact⟨Q,k,a-u,q+q2,I,I,I,by first|rfl|trivial,by omega,by omega,by omega,P,.s F.o,.s A.o⟩
   case measure=>simp[intOf];omega
  have n:decide ((c:Int)<(k:Int))=false:=EL;have A:Hid (∀v,g (Eb d a)=some v->(∀j,a+j<d.length->d.getD (v+j) 0=d.getD (a+j) 0)->min 34 (d.length-a)<=c):=λv r t=>by
   rcases G.o with⟨i,C⟩|i
   .omega
   exact i v r t
  clear G M;by_cases S:c=34
  .subst S;go_wp2;go_ret2;exact⟨34,y,q+q2,I,I,H.o,A.o⟩
  have V:((c:Int)==34)=false:=EL;go_wp2;go_roundw
  case rel=>exact⟨Q,c,y,q+q2,I,I,I,by first|rfl|trivial,by omega,by omega,by omega,P,H,.s A.o⟩
  case measure=>simp[intOf];omega
variable {w:Z} {B pb mb bb m a:Nat} {d:Du} {mp:Du->Option Nat} {bf:Nat->Int}
structure Tg (B:Nat) (w w':Z):Prop where
 b:Below B w w'
 steps:E6 282 w w'
theorem Tg.refl(B:Nat)(w:Z):Tg B w w:=⟨AP _ _,E6.refl _ _⟩
theorem wf_i64(a:Nat)(h:a<=4000):(Lit.int .i64 a).wf=true:=by have b:IntKind.i64.min = -9223372036854775808:=EB;have c:IntKind.i64.max=9223372036854775807:=EB;simp only[Lit.wf,b,c,AV,BJ];omega
theorem PM.drewN(h:PM w B pb mb bb d m mp bf)(q:Nat):PM (w.drewN q) B pb mb bb d m mp bf:=⟨h.e,h.hm,h.hb,h.st,h.b,h.a⟩
theorem PM.drew(h:PM w B pb mb bb d m mp bf):PM w.drew B pb mb bb d m mp bf:=⟨h.e,h.hm,h.hb,h.st,h.b,h.a⟩
theorem PM.apart(h:PM w B pb mb bb d m mp bf):pb≠bb/\mb≠bb/\pb≠mb:=by
 obtain⟨c,a,_⟩:=h.a;obtain⟨_,⟨_,_,b,_⟩,_⟩:=h.b;have f:=h.st;refine⟨?_,?_,?_⟩
 .intro e;subst e;rw[f]at a;simp at a
 .intro e;subst e;rw[b]at a;simp at a
 intro e;subst e;rw[f]at b;simp at b
theorem PM.before(h:PM w B pb mb bb d m mp bf)(a:Nat)(x:Int):PM (w.setCell (O bb a) (.int .i64 x)) B pb mb bb d m mp (λj=>if j=a then x else bf j):=by obtain⟨b,c,_⟩:=h.apart;obtain⟨D,e,f⟩:=h.b;refine⟨h.e,h.hm,h.hb,(AH w ⟨bb,a,none⟩ _ pb b).i h.st,⟨D,e.setCell c _,f⟩,?_⟩;refine(h.a.set a (.a x)).congr λj _=>?_;split<;>rfl
theorem PM.kept{w':Z}(h:PM w B pb mb bb d m mp bf){row:Option Nat}(a:w.grownBy w' row)(b:row≠some pb)(c:row≠some mb)(f:row≠some bb):PM w' B pb mb bb d m mp bf:=by obtain⟨D,g,i⟩:=h.b;exact⟨h.e,h.hm,h.hb,(a.u pb (lt_of_heap h.st) (λe=>b e.A)).i h.st,⟨D,g.kept a (λe=>c e.A),i⟩,h.a.y (a.u bb h.a.lt (λe=>f e.A))⟩
theorem sO(w:Z)(B b k f m a:Nat)(d:Du)(l:Du->Option Nat)(g:Nat->Int)(j:d.length<=4000)(n:a<=d.length)(i:d.length<a+3)(h:PM w B b k f d m l g):Calls prog 278 #[.c b,.a a] w λe w'=>e=.a (.tuple #[])/\w'=w:=by have c:=J (kJ w b a d _ _ j U i h.st);clear h;go_enter func278,ntmps278;go_wp2_with (go_at_call 307;refine c.o.l ?_;rintro e w' ⟨rfl,rfl⟩);((try simp only[Exit.inBlock,Exit.then]);refine BE (CW I _ _ _) I ?_);exact⟨I,I⟩
theorem rP(w:Z)(B i q g m a:Nat)(d:Du)(l:Du->Option Nat)(t:Nat->Int)(o:d.length<=4000)(S:a+3<=d.length)(z:m<=1000000)(h:PM w B i q g d m l t):Calls prog 278 #[.c i,.int .i64 a] w λe w'=>e=.a (.tuple #[])/\PM w' B i q g d (m+1) (λs=>if s=Eb d a then some a else l s) (λj=>if j=a then PZ (l (Eb d a))else t j)/\Tg B w w':=by
 have z:=J (km w i a d _ _ o S h.st);have u:Hid (∀V,PM V B i q g d m l t->Calls prog 308 #[.c i,.string (X (Eb d a))] V _):=λV n=>gW V B i q g m d (Eb d a) l t (Dz (YE d a)) n;have H:=EV 1 h.st;have A:=EV 2 h.st;have b:=h.a.cell (i:=a) U;have p:=h.a.frozen a;have C:a<d.length:=U;have o:=J h;clear h;obtain⟨v,F⟩:=E (PZ (l (Eb d a)));simp only[<-F]at u |-;clear F;go_enter func278,ntmps278;go_wp2_with (go_at_call 307;refine Jj z.o ?_);go_region_with (go_at_call 308;refine(u.o _ o.o.drew).l ?_;rintro e w' ⟨rfl,x⟩;have M:=x.A;subst M);rotate_left
 rotate_left
 all_goals
  have n:=(o.o.before a v).drew;have C:=n.apart;have x:Tg B w (w.c g a (.a v)).drew:=by obtain⟨c,P,_⟩:=o.o.a;exact⟨((AP B w).setCell (p:=⟨g,a,none⟩) o.o.hb _).drew,((E6.refl 282 w).set P EB).drew⟩
  clear H A b p z u o;generalize (w.c g a (.a v)).drew=W at *;have H:=EV 1 n.st;obtain⟨D,T,A⟩:=n.b;have u:=YE d a;have N:keyOf prog 9 (.string (X (Eb d a)))=some (.string (Eb d a)):=WideMaps.keyOf_string_mk underlying9 (by rw[EF];unfold maxLen;omega);have L:plainElem (H:=Unit) prog 3 (.int .i64 a)=some (.lit (.int .i64 a),[]):=plainElem_int underlying3 (wf_i64 a U);have b:=J n;have y:=J x;have G:=J C;have R:=J (A.put (Eb d a) a);clear n x A C;generalize X (Eb d a)=tk at *;go_wp2_with (at_mapUpdate;refine wpList_mapUpdate_own _ I _ _ _ 335 I 9 3 OT underlying335 (plainElem prog 3) q m D I T Fs _ _ (.string (Eb d a)) I I N (.lit (.int .i64 a)) [] L ?_;intro _ K r);go_end0;refine⟨I,⟨b.o.e,b.o.hm,b.o.hb,(r.u i (lt_of_heap b.o.st) (by simp;exact G.o.2.2)).i b.o.st,⟨_,K,R.o⟩,b.o.a.y (r.u g b.o.a.lt (by simp;exact λe=>G.o.2.1 e.A))⟩,?_⟩
 rotate_left
 rotate_left
 all_goals
  refine⟨y.o.b.i ((AP B W).C r ?_ (λk p=>by simp at p;subst p;exact b.o.hm)),y.o.steps.i λk _ f e=>r.u k (lt_of_heap e) ?_⟩
  .exact AG b.o.e (C5 (lt_of_heap b.o.st))
  intro p;simp at p;subst p;obtain⟨_,⟨_,_,Q,_⟩,_⟩:=b.o.b;rw[Q]at e;simp at e
theorem PI.add(h:PI d mp bf a)(g:a+3<=d.length):PI d (λs=>if s=Eb d a then some a else mp s) (λj=>if j=a then PZ (mp (Eb d a))else bf j) (a+1):=by
 refine⟨λs v b=>?_,λv f c=>?_,λv f c=>?_⟩
 .by_cases e:s=Eb d a
  .rw[AD e]at b;cases b;exact⟨by omega,g,e.A⟩
  rw[AC e]at b;have:=h.lt s v b;exact⟨by omega,this.2⟩
 .by_cases e:v=a
  .subst e;simp only[AD];cases i:mp (Eb d v)with
   |none=>exact .w I
   |some u=>have:=h.lt _ _ i;exact .s ⟨u,I,this.1,this.2.2⟩
  simp only[AC e];exact h.ch v U c
 by_cases e:Eb d v=Eb d a
 .exact⟨a,AD e⟩
 simp only[AC e];exact h.all v (by
  by_cases e2:v=a
  .subst e2;exact absurd I e
  omega) c
theorem PI.skip(h:PI d mp bf a)(f:d.length<a+3):PI d mp bf (a+1):=
 ⟨λs v e=>by have:=h.lt s v e;exact⟨by omega,this.2⟩,λv c b=>h.ch v U b,λv c b=>h.all v U b⟩
theorem PI.start(d:Du)(a:Nat->Int):PI d (λ_=>none) a 0:=⟨λ_ v c=>(by cases c),λv b=>(by omega),λv b=>(by omega)⟩
theorem tj(w:Z)(d:Du)(s:0<d.length)(u:d.length<=4000):Calls prog 276 #[.string (X d)] w λe w'=>∃pb mb bb,e=.a (.c pb)/\PM w' w.heap.size pb mb bb d 0 (λ_=>none) (λ_=>0)/\Tg w.heap.size w w':=by
 obtain⟨n,f⟩:=E d.length;obtain⟨M,c⟩:=E (madeCells #[Value.int .i64 0] n);have r:∀W:Z,(Instr.makeSlice 22 (.a n) (.a n)).run prog W=.ok (.b W.heap.size n n) (W.alloc (.cells M 3)):=λW=>by rw[c];exact Cn (P:=prog) 22 3 (.a 0) 8 underlying22 LY I .i64 .i64 n U U W
 have v:(X d).size=n:=by rw[EF,f]
 have i:=J c;have g:=J f;have p:Hid (X d=X d):=I;generalize a:X d=t at *;have j:=J a;clear c f a;have q:=@run_makeMap prog;go_enter func276,ntmps276;go_wp2;go_ret;obtain⟨b,h⟩:∃o,o=Obj.cells #[.string t,.e w.heap.size,.b (w.heap.size+1) n n] 337:=⟨_,I⟩;have m:(((w.alloc (.map #[] 0)).alloc (.cells M 3)).alloc b).heap[w.heap.size+1+1]?=some b:=by have:=AR ((w.alloc (.map #[] 0)).alloc (.cells M 3)) b;simp only[BM]at this;exact this
 have k:(((w.alloc (.map #[] 0)).alloc (.cells M 3)).alloc b).ownsMap (H:=Unit) prog 9 (plainElem prog 3) w.heap.size 0 (.map []):=((DJ w _ _ _).alloc _).alloc _;have l:(((w.alloc (.map #[] 0)).alloc (.cells M 3)).alloc b).rowIs (w.heap.size+1) 3 n (λ_=>.int .i64 0):=by have:=DA (w.alloc (.map #[] 0)) (.a 0) n 3;rw[<-i.o]at this;simp only[BM]at this;exact this.alloc _
 rw[<-h];refine⟨w.heap.size+1+1,I,⟨w.heap.size,w.heap.size+1,⟨by omega,by omega,by omega,?_,⟨_,k,MD.nil⟩,?_⟩⟩,?_⟩
 .rw[m,h,<-g.o,j.o]
 .rw[<-g.o];exact l
 exact⟨((Iy).alloc EJ _).a,(((E6.refl 282 w).alloc _).alloc _).alloc _⟩
end Y
namespace Y.Pk
open Go
def Eu{α:Type}(f:α->Nat):List α->Nat
 | []=>0
 | x::l=>f x+Eu f l
theorem Rf{α:Type}(f:α->Nat)(a b:List α):Eu f (a++b)=Eu f a+Eu f b:=by
 induction a with
 |nil=>simp[Eu]
 |cons x a c=>simp[Eu,c];omega
theorem fI{α:Type}(f:α->Nat){a b:List α}(h:List.Perm a b):Eu f a=Eu f b:=by
 induction h with
 |nil=>rfl
 |cons x _ e=>simp[Eu,e]
 |swap x y l=>simp[Eu];omega
 |trans _ _ c d=>exact c.i d
theorem XT{α:Type}{f g:α->Nat}{l:List α}(h:∀x∈l,f x=g x):Eu f l=Eu g l:=by
 induction l with
 |nil=>rfl
 |cons x l b=>simp only[Eu];rw[h x EJ,b (λy a=>h y (by simp[a]))]
theorem vp{α:Type}{f g:α->Nat}{l:List α}(h:∀x∈l,f x<=g x):Eu f l<=Eu g l:=by
 induction l with
 |nil=>exact AB _
 |cons x l b=>simp only[Eu];have:=h x EJ;exact Dz (b (λy a=>h y (by simp[a])))
theorem ZL{α:Type}(f:α->Nat)(k:Nat)(l:List α):Eu (λx=>k*f x) l=k*Eu f l:=by
 induction l with
 |nil=>simp[Eu]
 |cons x l a=>simp only[Eu];rw[a,Nat.mul_add]
def Fb:Nat->Nat
 | 0=>1
 | 1=>2
 | n+2=>Fb (n+1)+Fb n
theorem Zc(d:Nat):Fb (d+1)=Fb d+Fb (d-1):=by
 cases d with
 |zero=>rfl
 |succ d=>rfl
theorem wN(d:Nat):Fb d<=Fb (d+1):=by rw[Zc];omega
theorem eE{a b:Nat}(h:a<=b):Fb a<=Fb b:=by
 induction b with
 |zero=>rw[show a=0 by omega];exact AB _
 |succ b c=>
  by_cases e:a=b+1
  .rw[e];exact AB _
  exact AG (c U) (wN b)
theorem rB:Fb 13=610:=EB
structure JI (K:Nat) (es:List GQ) (G:Nat->List Nat) (D:Nat->Nat) (ln:Nat->Nat) (S:List Nat) (W:Nat):Prop where
 sym:List.Perm ((es.map λe=>G e.b).flatten) S
 len:∀e∈es,∀i∈G e.b,ln i+1<=(G e.b).length
 kr:∀e∈es,Eu (λi=>2^(K-ln i)) (G e.b)=2^K
 VV:∀e∈es,∀i∈G e.b,ln i<=D e.b
 Sp:∀e∈es,Fb (D e.b)<=e.wt
 Oe:∀e∈es,∀e'∈es,Fb (D e.b-1)<=e'.wt
 sum:Eu (λe=>e.wt) es=W
 zero:∀i,i∉S->ln i=0
theorem JI.perm{K:Nat}{es b:List GQ}{G:Nat->List Nat}{D d:Nat->Nat}{S:List Nat}{W:Nat}(h:JI K es G D d S W)(p:List.Perm b es):JI K b G D d S W:=
 ⟨((p.map _).flatten).i h.sym,λe a=>h.len e (p.mem_iff.1 a),λe a=>h.kr e (p.mem_iff.1 a),λe a=>h.VV e (p.mem_iff.1 a),λe a=>h.Sp e (p.mem_iff.1 a),λe a f c=>h.Oe e (p.mem_iff.1 a) f (p.mem_iff.1 c),(fI _ p).i h.sum,h.zero⟩
theorem QA{K:Nat}{es:List GQ}{G:Nat->List Nat}{D c:Nat->Nat}{S:List Nat}{W:Nat}(h:JI K es G D c S W){e:GQ}(a:e∈es):(G e.b).length<=S.length:=by
 rw[<-h.sym.length_eq];clear h;induction es with
 |nil=>simp at a
 |cons x es b=>
  simp only[BS,Cc,AM];rcases Ax.1 a with rfl|a
  .omega
  exact Dz (b a)
theorem JI.start(K:Nat)(G:Nat->List Nat):JI K [] G (λ_=>0) (λ_=>0) [] 0:=
 ⟨by simp,by simp,by simp,by simp,by simp,by simp,I,by simp⟩
theorem JI.one{K:Nat}{es:List GQ}{G:Nat->List Nat}{S:List Nat}{W:Nat}(h:JI K es G (λ_=>0) (λ_=>0) S W)(c:GQ)(i:Nat)(p:0<c.wt)(n:∀e∈es,e.b≠c.b):JI K (c::es) (λb=>if b=c.b then[i]else G b) (λ_=>0) (λ_=>0) (S++[i]) (W+c.wt):=by
 have d:∀e∈es,(λb=>if b=c.b then[i]else G b) e.b=G e.b:=λe a=>AC (n e a);have o:es.map (λe=>(λb=>if b=c.b then[i]else G b) e.b)=es.map λe=>G e.b:=BO d;refine⟨?_,?_,?_,λ_ _ _ _=>AW _,?_,?_,?_,λ_ _=>rfl⟩
 .rw[BS,o];simp only[AD,Cc];exact(List.perm_append_comm).i (h.sym.append_right _)
 .intro e a j g;rcases Ax.1 a with rfl|a
  .simp
  simp only[d e a]at g |-;exact h.len e a j g
 .intro e a;rcases Ax.1 a with rfl|a
  .simp[Eu]
  simp only[d e a];exact h.kr e a
 .intro e a;rcases Ax.1 a with rfl|a
  .simp[Fb];omega
  exact h.Sp e a
 .intro e a f m;rcases Ax.1 m with rfl|l
  .simp[Fb];omega
  rcases Ax.1 a with rfl|k
  .have:=h.Sp f l;simp[Fb]at this |-;omega
  exact h.Oe e k f l
 simp only[Eu];rw[h.sum];omega
theorem eI(K a:Nat)(h:a+1<=K):2*2^(K-(a+1))=2^(K-a):=by rw[<-Nat.pow_succ'];congr 1;omega
theorem JI.join{K:Nat}{r:List GQ}{e1 e2:GQ}{G:Nat->List Nat}{D q:Nat->Nat}{S:List Nat}{W:Nat}(h:JI K (e1::e2::r) G D q S W)(g:S.Nodup)(d:S.length<=K)(d:e1.wt<=e2.wt)(V:∀e∈r,e2.wt<=e.wt) (c:GQ) (s:c.wt=e1.wt+e2.wt) (L:∀e∈r,e.b≠c.b) (j:Nat->Nat) (n:∀i,i∈G e1.b++G e2.b->j i=q i+1) (t:∀i,i∉G e1.b++G e2.b->j i=q i):JI K (c::r) (λb=>if b=c.b then G e1.b++G e2.b else G b) (λb=>if b=c.b then max (D e1.b) (D e2.b)+1 else D b) j S W:=by
 have m:e1∈e1::e2::r:=EJ;have o:e2∈e1::e2::r:=EJ;have p:∀e∈r,e∈e1::e2::r:=λe f=>by simp[f]
 have v:=h.sym;simp only[BS,Cc]at v;have H:=v.A.nodup g;rw[<-Aw]at H;have P:∀i,i∈G e1.b++G e2.b->∀e∈r,i∉G e.b:=by intro i d e f R;exact(CI.1 H).2.2 i d i (List.mem_flatten.2 ⟨G e.b,AZ.2 ⟨e,f,I⟩,R⟩) I
 have y:∀e∈r,∀i∈G e.b,j i=q i:=λe f i d=>t i λu=>P i u e f d;have M:∀i∈G e1.b,q i+1<=K:=λi d=>by have a:=h.len e1 m i d;have b:=QA h m;omega
 have N:∀i∈G e2.b,q i+1<=K:=λi d=>by have a:=h.len e2 o i d;have b:=QA h o;omega
 have w:∀e∈r,(if e.b=c.b then G e1.b++G e2.b else G e.b)=G e.b:=λe f=>AC (L e f);have A:∀e∈r,(if e.b=c.b then max (D e1.b) (D e2.b)+1 else D e.b)=D e.b:=λe f=>AC (L e f);have g:=h.Sp e1 m;have T:=h.Sp e2 o;have g:=h.Oe e1 m e2 o;have g:=h.Oe e2 o e1 m;have Q:Fb (max (D e1.b) (D e2.b)+1)<=c.wt:=by
  rw[s];rcases Nat.le_total (D e1.b) (D e2.b)with g|g
  .rw[Nat.max_eq_right g,Zc];omega
  rw[Do g,Zc];omega
 have q:Fb (max (D e1.b) (D e2.b))<=e2.wt:=by
  rcases Nat.le_total (D e1.b) (D e2.b)with g|g
  .rw[Nat.max_eq_right g];exact T
  rw[Do g];omega
 refine⟨?_,?_,?_,?_,?_,?_,?_,?_⟩
 .have u:r.map (λe=>if e.b=c.b then G e1.b++G e2.b else G e.b)=r.map λe=>G e.b:=BO w;rw[BS,u];simp only[AD,Cc];rw[Aw];exact v
 .intro e f i d;rcases Ax.1 f with rfl|f
  .simp only[AD]at d |-;rw[n i d];rw[AM];rcases Aj.1 d with d|d
   .have:=h.len e1 m i d;have:0<(G e2.b).length:=by
     have s:=h.kr e2 o;cases B:G e2.b with
     |nil=>rw[B]at s;simp only[Eu]at s;exact Dz (DN (n:=K) (show 0<2 by omega))
     |cons x l=>simp
    omega
   have:=h.len e2 o i d;have:0<(G e1.b).length:=by
    have s:=h.kr e1 m;cases B:G e1.b with
    |nil=>rw[B]at s;simp only[Eu]at s;exact Dz (DN (n:=K) (show 0<2 by omega))
    |cons x l=>simp
   omega
  simp only[w e f]at d |-;rw[y e f i d];exact h.len e (p e f) i d
 .intro e f;rcases Ax.1 f with rfl|f
  .simp only[AD];rw[Rf];have k1:2*Eu (λi=>2^(K-j i)) (G e1.b)=2^K:=by rw[<-ZL,<-h.kr e1 m];refine XT λi d=>?_;rw[n i (Aj.2 (.w d))];exact eI K _ (M i d)
   have k2:2*Eu (λi=>2^(K-j i)) (G e2.b)=2^K:=by rw[<-ZL,<-h.kr e2 o];refine XT λi d=>?_;rw[n i (Aj.2 (.s d))];exact eI K _ (N i d)
   omega
  simp only[w e f];rw[<-h.kr e (p e f)];exact XT λi d=>by rw[y e f i d]
 .intro e f i d;rcases Ax.1 f with rfl|f
  .simp only[AD]at d |-;rw[n i d];rcases Aj.1 d with d|d
   .exact Dz (h.VV e1 m i d)
   exact Dz (h.VV e2 o i d)
  simp only[w e f]at d;simp only[A e f];rw[y e f i d];exact h.VV e (p e f) i d
 .intro e f;rcases Ax.1 f with rfl|f
  .simp only[AD];exact Q
  simp only[A e f];exact h.Sp e (p e f)
 .intro e f z F;rcases Ax.1 f with rfl|k
  .simp only[AD,DE];rcases Ax.1 F with rfl|C
   .omega
   exact Dz (V z C)
  simp only[A e k];rcases Ax.1 F with rfl|C
  .exact Dz (h.Oe e (p e k) e1 m)
  exact h.Oe e (p e k) z (p z C)
 .have:=h.sum;simp only[Eu]at this |-;omega
 intro i d;have V:i∉G e1.b++G e2.b:=λu=>d (v.mem_iff.1 (by rw[<-Aw];exact Aj.2 (.w u)));rw[t i V];exact h.zero i d
end Y.Pk
namespace Y
open Go.RowKit Pk
variable {l:List (Nat×Nat)} {a n c:Nat}
theorem Ql:(prog.info? 282).map (λi=>(i.zero,i.size,i.bytes))=some (some (.agg #[.a 0,.a 0]),2,16):=EG
def NP:List (Nat×Nat)->List Value
 | []=>[]
 | s::l=>.a s.1 :: .a s.2::NP l
theorem jO(a b:List (Nat×Nat)):NP (a++b)=NP a++NP b:=by
 induction a with
 |nil=>rfl
 |cons x a c=>simp[NP,c]
theorem iG(l:List (Nat×Nat))(i:Nat)(h:i<l.length):(NP l)[2*i]?=some (.a ((l.getD i (0,0)).1:Nat))/\(NP l)[2*i+1]?=some (.a ((l.getD i (0,0)).2:Nat)):=by
 induction l generalizing i with
 |nil=>simp at h
 |cons x l a=>
  cases i with
  |zero=>simp[NP]
  |succ i=>have:=a i (EU h);rw[show 2*(i+1)=2*i+1+1 by omega,show 2*i+1+1+1=(2*i+1)+1+1 by omega];simpa[NP]using this
def Jz(l:List (Nat×Nat))(k:Nat):Nat:=Eu Pk.JO (l.take k)
theorem vd(l:List (Nat×Nat))(s:Nat×Nat)(k:Nat)(h:k<=l.length):Jz (l++[s]) k=Jz l k:=by unfold Jz;rw[List.take_append_of_le_length h]
theorem sq(l:List (Nat×Nat))(s:Nat×Nat):Jz (l++[s]) (l.length+1)=Jz l l.length+Pk.JO s:=by unfold Jz;rw[AT EJ,AT (AB _),Rf];simp[Eu]
theorem Zn(l:List (Nat×Nat))(k:Nat)(h:k<l.length):Jz l (k+1)=Jz l k+Pk.JO (l.getD k (0,0)):=by unfold Jz;rw[Al,AE h,Rf,AI,AE h];simp[Eu]
structure P9 (d:Du) (l:List (Nat×Nat)) (a:Nat):Prop where
 ok:∀k,k<l.length->Pw d (Jz l k) (l.getD k (0,0))
 fin:Jz l l.length=a
theorem P9.snoc{d:Du}(h:P9 d l a)(s:Nat×Nat)(c:Pw d a s):P9 d (l++[s]) (a+Pk.JO s):=by
 refine⟨λk b=>?_,?_⟩
 .simp at b;rw[vd l s k U];by_cases e:k=l.length
  .subst e;rw[h.fin,AI,Ao (AB _)];simpa using c
  rw[AI,BG U,<-AI];exact h.ok k U
 rw[AM,List.length_singleton,sq,h.fin]
def NX(l:List (Nat×Nat)):Nat:=Eu (λs=>if s.1<256 then 1 else 0) l
def Rr(l:List (Nat×Nat)):Nat:=Eu (λs=>if s.1<256 then 0 else 1) l
theorem kW(l:List (Nat×Nat))(s:Nat×Nat):NX (l++[s])=NX l+if s.1<256 then 1 else 0:=by unfold NX;rw[Rf];simp[Eu]
theorem fj(l:List (Nat×Nat))(s:Nat×Nat):Rr (l++[s])=Rr l+if s.1<256 then 0 else 1:=by unfold Rr;rw[Rf];simp[Eu]
inductive AS (n c a:Nat) (l:List (Nat×Nat)):Prop
 | start:a=0->l=[]->AS n c a l
 | run:1<=a->NX l=1->34*Rr l+1=a->(∀s∈l,s.1=c\/s.1=287)->AS n c a l
 | rest (x:Nat):n<a+3->NX l+(n-a)<=3->34*Rr l<=a+33->(∀s∈l,s.1=c\/s.1=287\/s.1=x)->AS n c a l
theorem AS.lit(h:AS n c a l)(i:c<256)(k:a<n)(j:n<a+3\/a=0):AS n c (a+1) (l++[(c,0)]):=by
 have e1:=kW l (c,0);have e2:=fj l (c,0);rw[AD i]at e1 e2;cases h with
 |start d e=>subst d;subst e;refine .run U (by rw[e1];rfl) (by rw[e2];rfl) (λs b=>?_);simp at b;subst b;exact .w I
 |run d e g f=>
  refine .rest c U U U (λs b=>?_);rcases Aj.1 b with b|b
  .rcases f s b with h|h
   .exact .w h
   exact .s (.w h)
  simp at b;subst b;exact .w I
 |rest x d e g f=>
  refine .rest x U U U (λs b=>?_);rcases Aj.1 b with b|b
  .exact f s b
  simp at b;subst b;exact .w I
theorem AS.cp{b f:Nat}(h:AS n c a l)(m:a+3<=n)(o:1<=a)(p:b=min 34 (n-a)):AS n c (a+b) (l++[(b+253,f)]):=by
 have e1:=kW l (b+253,f);have e2:=fj l (b+253,f);rw[AC EL]at e1 e2;cases h with
 |start i j=>omega
 |run i j k g=>
  by_cases e:b=34
  .refine .run U U U (λs d=>?_);rcases Aj.1 d with d|d
   .exact g s d
   simp at d;subst d;right;simp;omega
  refine .rest (b+253) U U U (λs d=>?_);rcases Aj.1 d with d|d
  .rcases g s d with h|h
   .exact .w h
   exact .s (.w h)
  simp at d;subst d;right;right;rfl
 |rest x i j k g=>omega
theorem E6.Vo{t:TypeId}{w w':Z}(h:E6 t w w'){base a:Nat}{v:Value}{e:List Value}(o:w.ownsRow base t a v n e):w'.ownsRow base t a v n e:=by
 refine⟨o.1,?_⟩;rcases o.2 with d|⟨g,b,c,d,f,i,j⟩
 .exact .w d
 exact .s ⟨g,b,c,d,f,h.u i,j⟩
end Y
namespace Y
open Go.RowKit Pk
variable {w:Z} {B n:Nat} {v:Value} {xs:List Value}
structure SS (w0 w:Z) (B pb mb bb:Nat) (d:Du) (a m:Nat) (v:Value) (l:List (Nat×Nat)) (mp:Du->Option Nat) (bf:Nat->Int):Prop where
 pm:PM w B pb mb bb d m mp bf
 pi:PI d mp bf a
 own:w.ownsRow B 282 2 v l.length (NP l)
 b:Below B w0 w
theorem xP(h:w.ownsRow B 282 2 v n xs){g f b m:Nat}{d:Du}{o:Du->Option Nat}{l:Nat->Int}(p:PM w B g f b d m o l):v.ownBlock≠some g/\v.ownBlock≠some f/\v.ownBlock≠some b:=by
 obtain⟨c,j,_⟩:=p.a;obtain⟨_,⟨_,_,k,_⟩,_⟩:=p.b;have i:=p.st;refine⟨?_,?_,?_⟩
 .intro e;obtain⟨_,_,a⟩:=Lib.ownsRow_kind h g e;rw[i]at a;simp at a
 .intro e;obtain⟨_,_,a⟩:=Lib.ownsRow_kind h f e;rw[k]at a;simp at a
 intro e;obtain⟨_,_,a⟩:=Lib.ownsRow_kind h b e;rw[j]at a;simp at a
theorem jV(w:Z)(a b:Value)(t:TypeId):∀j u,[a,b][j]?=some u->(w.alloc (.cells #[a,b] t)).cell? ((⟨w.heap.size,0,none⟩:Addr).add j)=some u:=
 World.news_of_block (cs:=#[a,b]) (AR _ _)
theorem slice_form{e:TypeId}{b:Nat}(h:w.ownsRow B e b v n xs):∃a c,v=.slice a n c:=by
 rcases h.2 with⟨rfl,d⟩|⟨g,_,_,rfl,_⟩
 .rw[d];exact⟨_,_,I⟩
 exact⟨_,_,I⟩
theorem qc(d:Du)(c:Nat)(h:∀i,i<d.length->(d.getD i 0).toNat=c)(u a:Nat)(l:u+3<=d.length)(g:a+3<=d.length):Eb d u=Eb d a:=by
 have key:∀v,v+3<=d.length->Eb d v=[d.getD v 0,d.getD (v+1) 0,d.getD (v+2) 0]:=λv _=>by
  unfold Eb;apply DM;intro j;by_cases b:j<3
  .rw[Aq b,C4,AE U];have f:j=0\/j=1\/j=2:=U;rcases f with rfl|rfl|rfl<;>simp[AI,AE (show v<d.length by omega),AE (show v+1<d.length by omega),AE (show v+2<d.length by omega)]
  rw[Ay (by rw[Ac];omega),Ay EL]
 have e:∀i j,i<d.length->j<d.length->d.getD i 0=d.getD j 0:=λi j k b=>BR.1 ((h i k).i (h j b).A);rw[key u l,key a g,e u a U U,e (u+1) (a+1) U U,e (u+2) (a+2) U U]
def YW(w:Z)(B pb mb bb m a:Nat)(d:Du)(e:Ending)(w':Z):Prop:=e=.a (.tuple #[])/\∃m2 mp2 bf2,m2<=m+1/\PM w' B pb mb bb d m2 mp2 bf2/\PI d mp2 bf2 (a+1)/\Tg B w w'
theorem fZ(w:Z)(B b g c m a:Nat)(d:Du)(i:Du->Option Nat)(f:Nat->Int)(k:d.length<=4000)(p:a<=d.length)(q:m<=1000000)(h:PM w B b g c d m i f)(l:PI d i f a):Calls prog 278 #[.c b,.a a] w λe w'=>YW w B b g c m a d e w':=by
 by_cases j:a+3<=d.length
 .refine(rP w B b g c m a d i f k j q h).l ?_;rintro e w' ⟨rfl,n,o⟩;exact⟨I,_,_,_,AB _,n,l.add j,o⟩
 refine(sO w B b g c m a d i f k p U h).l ?_;rintro e w' ⟨rfl,rfl⟩;exact⟨I,_,_,_,by omega,h,l.skip U,Tg.refl _ _⟩
theorem fG(a b:Nat)(h:3<=a):Pk.JO (a+253,b)=a:=by unfold Pk.JO;rw[AC EL];simp
def Mx(d:Du)(w:Z)(e:Ending)(w':Z):Prop:=∃l v,e=.a v/\w'.ownsRow w.heap.size 282 2 v l.length (NP l)/\P9 d l d.length/\(∀c,(∀i,i<d.length->(d.getD i 0).toNat=c)->AS d.length c d.length l)/\Below w.heap.size w w'
theorem Wk(w:Z)(d:Du)(b:0<d.length)(hd:d.length<=4000):Calls prog 245 #[.string (X d)] w λe w'=>Mx d w e w':=by
 obtain⟨i0,hi,b0,b6,b4⟩:=An Ql;have f:=J (tj w d b hd);obtain⟨t,b⟩:=E (X d);have o:t.size=d.length:=by rw[b,EF]
 have n:∀k (h:k<t.size),(t[k]'h).toNat=(d.getD k 0).toNat:=λk h=>by subst b;rw[O0]
 rw[<-b]at f |-;change Hid _ at o n;clear b;go_enter func245,ntmps245;go_wp2_with fail;refine f.o.l ?_;rintro e r ⟨y,A,z,rfl,p,f⟩;have b:Hid (SS w r w.heap.size y A z d 0 0 (.g) [] (λ_=>none) (λ_=>0)):=⟨p,PI.start _ _,Af _ _ _ _,f.b⟩;go_wp2;go_loopw [5,3] (λi v wr=>∃a m:Nat,∃l P N,i=.a a/\a<=d.length/\m<=a/\l.length<=a/\Hid (SS w wr w.heap.size y A z d a m v l P N)/\Hid (P9 d l a)/\Hid (∀c,(∀i,i<d.length->(d.getD i 0).toNat=c)->AS d.length c a l)) (λi _ _=>d.length-(intOf i).toNat)
 .exact⟨0,0,[],_,_,I,by omega,by omega,by simp,b,⟨λk C=>by simp at C,I⟩,λc _=>.start I I⟩
 .clear b;obtain⟨a,m,l,P,N,rfl,_,_,_,s,aS,Has⟩:=hrel;have b5:=o.o;by_cases x:a<d.length
  .have g1:a<t.size:=U;have e1:=n.o a g1;obtain⟨c,o⟩:=E ((d.getD a 0).toNat);have p:c<256:=by rw[o];exact UInt8.toNat_lt _
   rw[<-o]at e1;have r:=J o;have b:t.size<=4000:=U;change Hid _ at b5;clear o;-- what longest answers,in any case
   have F:Hid (Calls prog 277 #[.c y,.a a] wr λe w'=>∃f n q:Nat,e=.a (.tuple #[.a f,.a n])/\w'=wr.drewN q/\((f=0/\n=0/\∀c,(∀i,i<d.length->(d.getD i 0).toNat=c)->d.length<a+3\/a=0)\/(Good d a f n/\∀c,(∀i,i<d.length->(d.getD i 0).toNat=c)->f=min 34 (d.length-a)))):=by
    by_cases B:a+3<=d.length
    .refine(vz wr w.heap.size y A z m a d P N hd B s.o.pm s.o.pi).l ?_;rintro e w' ⟨f,n,q,rfl,rfl,H,G⟩;have b:∀c,(∀i,i<d.length->(d.getD i 0).toNat=c)->0<a->min 34 (d.length-a)<=f:=λc o _=>by obtain⟨u,D⟩:=s.o.pi.all (a-1) U U;have C:Eb d (a-1)=Eb d a:=qc d c o (a-1) a U B;rw[C]at D;have B:=s.o.pi.lt _ _ D;exact G u D λj B=>BR.1 ((o _ U).i (o _ B).A)
     refine⟨f,n,q,I,I,?_⟩;rcases H with⟨g1,B⟩|g
     .refine .w ⟨g1,B,λc o=>?_⟩;by_cases e0:a=0
      .exact .s e0
      exact Dz (b c o U)
     refine .s ⟨g,λc o=>?_⟩;have G:=b c o (by have:=g.b1;exact Dz g.b2);have b:=g.g;have b:=g.fit;omega
    refine(xD wr w.heap.size y A z m a d P N hd U U s.o.pm).l ?_;rintro e w' ⟨rfl,rfl⟩;exact⟨0,0,0,I,I,.w ⟨I,I,λ_ _=>.w U⟩⟩
   go_wp2_with fail;refine F.o.l ?_;rintro e _ ⟨f,n,q,rfl,rfl,G⟩;have ar:=s.o.pm.drewN q;have b:=s.o.own;obtain⟨va,vc,H⟩:=slice_form b;subst H;have H:=J (xP b s.o.pm);change Hid _ at ar;have az:=J s.o.pi;have S:Hid ((wr.drewN q).r w.heap.size 282 2 (.slice va l.length vc) l.length (NP l)):=b;have aa:=J (below_drewN s.o.b q);have aG:w.heap.size<=(wr.drewN q).heap.size:=aa.o.size;clear b F s;generalize wr.drewN q=W at *;rcases G with⟨rfl,rfl,F⟩|⟨b,hcp⟩
   .change Hid _ at F;have bc:l.length+1<=4001:=U;go_wp2_with (at_builtin;refine wpList_append_lies _ I _ _ 271 I w.heap.size 282 i0 _ 2 16 underlying271 hi b0 b6 b4 I EB (.slice va l.length vc) l.length (NP l) I (S.o.alloc _) ⟨W.heap.size,0,none⟩ 1 1 [.a c,.a 0] I I (jV W _ _ _) (by intro u D;simp at D;rcases D with rfl|rfl<;>rfl) U Fs U EL (W.heap.size+1) EJ ?_);intro B G Q a6 L aI aJ;have a8:=ar.o.kept (BF W (.cells #[.a c,.a 0] 282) none) EJ EJ EJ;have au:=J (a8.kept L H.o.1 H.o.2.1 H.o.2.2);have a7:Hid (w.b Q):=(aa.o.alloc aG _).C L EL (λk C=>(S.o.lt k C).1);have ac:Hid (Q.r w.heap.size 282 2 (.b B (l.length+1) G) (l.length+1) (NP (l++[(c,0)]))):=by show Q.r _ _ _ _ _ _;rw[jO];exact a6
    have aB:Hid (P9 d (l++[(c,0)]) (a+1)):=aS.o.snoc (c,0) ⟨by simp;omega,by simp[Pk.JO,p];omega,λ_=>r.o.A,λh=>absurd p h⟩ |> λh=>by
     have:Pk.JO (c,0)=1:=by simp[Pk.JO,p]
     rw[this]at h;exact h
    have aD:Hid (∀c2,(∀i,i<d.length->(d.getD i 0).toNat=c2)->AS d.length c2 (a+1) (l++[(c,0)])):=λc2 M=>by have e:=r.o.i (M a x);subst e;exact(Has c M).lit p x (F c M)
    have aR:a+1<=d.length/\1<=34/\1<=1:=U;clear a8 a6 L aI aJ S ar aa H;go_wp2;go_loopw [38,5] (λi j K=>∃k x:Nat,∃p r,i=.a k/\j=.a ((a:Int)+(k:Int))/\k<=1/\x<=a+k/\Hid (PM K w.heap.size y A z d x p r)/\Hid (PI d p r (a+k))/\Hid (K.r w.heap.size 282 2 (.b B (l.length+1) G) (l.length+1) (NP (l++[(c,0)])))/\Hid (w.b K)) (λi _ _=>1-(intOf i).toNat)
    .exact⟨0,m,P,N,I,by go_num,by omega,by omega,au,az,ac,a7⟩
    clear au az ac a7;obtain⟨k,x,p,r,rfl,rfl,C,bh,V,F,ao,ah⟩:=hrel;by_cases bg:k<1
    .have R:=fZ wr w.heap.size y A z x (a+k) d p r hd U U V F;rw[show((a+k:Nat):Int)=(a:Int)+(k:Int) by omega]at R;have ai:=J R;go_wp2_with fail;refine ai.o.l ?_;rintro e w4 ⟨rfl,m3,aQ,aP,b9,av,aE,aj⟩;have T:=J av;have aC:Hid (PI d aQ aP (a+(k+1))):=aE;have an:=J (aj.steps.Vo ao);have am:=J (ah.o.i aj.b);go_wp2;go_roundw
     .exact⟨k+1,m3,aQ,aP,by go_num,by go_num,by omega,by omega,T,aC,an,am⟩
     .simp[intOf];omega
    have T:k=1:=U;have ay:Hid (SS w wr w.heap.size y A z d (a+k) x (.b B (l.length+1) G) (l++[(c,0)]) p r):=⟨V,F,by rw[AM];exact ao,ah⟩;have aA:Hid (P9 d (l++[(c,0)]) (a+k)):=by rw[T];exact aB
    have ax:Hid (∀c2,(∀i,i<d.length->(d.getD i 0).toNat=c2)->AS d.length c2 (a+k) (l++[(c,0)])):=by rw[T];exact aD
    go_wp2;go_roundw
    .exact⟨a+k,x,_,p,r,by go_num,by omega,by omega,by simp;omega,ay,aA,ax⟩
    .simp[intOf];omega
   have aZ:((f:Int)==0)=false:=by have:=b.h;simp;omega
   have aW:f<=34:=b.g;have b8:n<=4000:=Dz b.b2;change Hid _ at b hcp;have bc:l.length+1<=4001:=U;go_wp2_with (at_builtin;refine wpList_append_lies _ I _ _ 271 I w.heap.size 282 i0 _ 2 16 underlying271 hi b0 b6 b4 I EB (.slice va l.length vc) l.length (NP l) I (S.o.alloc _) ⟨W.heap.size,0,none⟩ 1 1 [.a ((f:Int)+253),.a n] I I (jV W _ _ _) (by intro u D;simp at D;rcases D with rfl|rfl<;>rfl) U Fs U EL (W.heap.size+1) EJ ?_);intro B G Q a6 L aI aJ;have a8:=ar.o.kept (BF W (.cells #[.a ((f:Int)+253),.a n] 282) none) EJ EJ EJ;have au:=J (a8.kept L H.o.1 H.o.2.1 H.o.2.2);have a7:=(aa.o.alloc aG _).C L EL (λk C=>(S.o.lt k C).1);have ac:Hid (Q.r w.heap.size 282 2 (.b B (l.length+1) G) (l.length+1) (NP (l++[(f+253,n)]))):=by show Q.r _ _ _ _ _ _;rw[jO];exact a6
   have aB:=aS.o.snoc (f+253,n) ⟨by have:=b.o.g;simp;omega,by rw[fG f n b.o.h];exact b.o.fit,λh=>by have:=b.o.h;simp at h;omega,λ_=>⟨b.o.b1,by have:=b.o.b2;simp;omega,b.o.b2,λi hi=>b.o.same i (EU hi)⟩⟩ |> λh=>by have:Pk.JO (f+253,n)=f:=fG f n b.o.h;rw[this]at h;exact h
   have aD:Hid (∀c2,(∀i,i<d.length->(d.getD i 0).toNat=c2)->AS d.length c2 (a+f) (l++[(f+253,n)])):=λc2 M=>(Has c2 M).cp (by have:=b.o.fit;exact Dz b.o.h) (by have:=b.o.b1;exact Dz b.o.b2) (hcp c2 M);have aR:a+f<=d.length/\f<=34/\1<=f:=by have:=b.o.fit;have:=b.o.g;exact Dz b.o.h
   go_wp2;go_loopw [38,5] (λi j K=>∃k x:Nat,∃p r,i=.a k/\j=.a ((a:Int)+(k:Int))/\k<=f/\x<=a+k/\Hid (PM K w.heap.size y A z d x p r)/\Hid (PI d p r (a+k))/\Hid (K.r w.heap.size 282 2 (.b B (l.length+1) G) (l.length+1) (NP (l++[(f+253,n)])))/\Hid (w.b K)) (λi _ _=>f-(intOf i).toNat)
   .exact⟨0,m,P,N,I,by go_num,by omega,by omega,au,az,ac,a7⟩
   obtain⟨k,x,p,r,rfl,rfl,C,bh,V,F,ao,ah⟩:=hrel;by_cases bg:k<f
   .have R:=fZ wr w.heap.size y A z x (a+k) d p r hd U U V F;rw[show((a+k:Nat):Int)=(a:Int)+(k:Int) by omega]at R;have ai:=J R;go_wp2_with fail;refine ai.o.l ?_;rintro e w4 ⟨rfl,m3,aQ,aP,b9,av,aE,aj⟩;change Hid _ at av;have aC:=aE;have an:=J (aj.steps.Vo ao);have am:=J (ah.o.i aj.b);go_wp2;go_roundw
    .exact⟨k+1,m3,aQ,aP,by go_num,by go_num,by omega,by omega,av,aC,an,am⟩
    .simp[intOf];omega
   have T:k=f:=U;have ay:Hid (SS w wr w.heap.size y A z d (a+k) x (.b B (l.length+1) G) (l++[(f+253,n)]) p r):=⟨V,F,by rw[AM];exact ao,ah.o⟩;have aA:Hid (P9 d (l++[(f+253,n)]) (a+k)):=by rw[T];exact aB
   have ax:Hid (∀c2,(∀i,i<d.length->(d.getD i 0).toNat=c2)->AS d.length c2 (a+k) (l++[(f+253,n)])):=by rw[T];exact aD
   go_wp2;go_roundw
   .exact⟨a+k,x,_,p,r,by go_num,by omega,by omega,by simp;omega,ay,aA,ax⟩
   .simp[intOf];omega
  have b:a=d.length:=U;have g1:¬a<t.size:=U;change Hid _ at b5 b;go_wp2;go_ret;refine⟨l,_,I,s.o.own,?_,?_,s.o.b⟩
  .rw[<-b.o];exact aS
  intro c o;have:=Has c o;rw[b.o]at this;exact this
variable {w w':Z} {B K c qb pu n b:Nat} {es:List GQ} {G:Nat->List Nat} {e:TypeId} {l:List Nat} {v:Value} {xs:List Value}
def Ew(wv:Nat->Nat)(k:Nat):List Nat:=(List.range k).filter λi=>decide (0<wv i)
def Fa(wv:Nat->Nat):Nat->Nat
 | 0=>0
 | k+1=>Fa wv k+wv k
theorem Zf(a:Nat->Nat)(k:Nat)(h:0<a k):Ew a (k+1)=Ew a k++[k]:=by unfold Ew;rw[Be,DG];simp[h]
theorem Xm(a:Nat->Nat)(k:Nat)(h:a k=0):Ew a (k+1)=Ew a k:=by unfold Ew;rw[Be,DG];simp[h]
theorem jY(a:Nat->Nat)(k:Nat):(Ew a k).Nodup:=List.Pairwise.filter _ List.nodup_range
theorem uR(a:Nat->Nat)(k:Nat):(Ew a k).length<=k:=by have:=C0 (λi=>decide (0<a i)) (List.range k);simpa[Ew]using this
theorem jy(a:Nat->Nat)(k i:Nat):i∈Ew a k↔i<k/\0<a i:=by unfold Ew;simp
def GM(w:Z)(B:Nat)(es:List GQ)(G:Nat->List Nat):Prop:=∀e∈es,w.ownsRow B 3 1 (.b e.b e.n e.c) e.n (FM (G e.b))
theorem GM.a(h:GM w B es G)(b:E6 3 w w'):GM w' B es G:=λe a=>b.own (h e a)
theorem GM.perm{a:List GQ}(h:GM w B es G)(p:List.Perm a es):GM w B a G:=λe b=>h e (p.mem_iff.1 b)
theorem GM.lt(h:GM w B es G){e:GQ}(a:e∈es):e.b<w.heap.size:=((h e a).lt e.b I).2
theorem GM.cons(h:GM w B es G){c:GQ}(d:w.ownsRow B 3 1 (.b c.b c.n c.c) c.n (FM l))(a:∀e∈es,e.b≠c.b):GM w B (c::es) (λb=>if b=c.b then l else G b):=by
 intro e f;rcases Ax.1 f with rfl|k
 .simp only[AD];exact d
 simp only[AC (a e k)];exact h e k
def N8(w:Z)(qb:Nat):Nat:=match w.cell? (O qb 0)with | some (.slice _ n _)=>n | _=>0
theorem QM.N8(h:QM w B qb es pu):N8 w qb=es.length:=by obtain⟨a,c,b⟩:=h.len I;unfold Y.N8;rw[b]
structure JS (K:Nat) (w:Z) (B qb:Nat) (es:List GQ) (pu:Nat) (G:Nat->List Nat) (D ln:Nat->Nat) (S:List Nat) (W:Nat):Prop where
 q:QM w B qb es pu
 h:Pk.LD es
 g:GM w B es G
 j:JI K es G D ln S W
theorem yF(w:Z)(B k:Nat)(a:B<=w.heap.size):(w.alloc (.cells #[.a k] 3)).ownsRow B 3 1 (.b w.heap.size 1 1) 1 (FM [k]):=
 ⟨I,.s ⟨_,1,_,I,a,AR _ _,AB _,by unfold maxLen;omega,I,I⟩⟩
theorem lh{a:Nat}(h:w.ownsRow B e a v n xs):w.ownsRow 0 e a v n xs:=by
 refine⟨h.1,?_⟩;rcases h.2 with d|⟨g,b,c,d,_,f⟩
 .exact .w d
 exact .s ⟨g,b,c,d,AW _,f⟩
theorem Wq{a:Nat}(h:w.ownsRow B e a v n xs)(l:∀k,B<=k->w'.heap[k]?=w.heap[k]?):w'.ownsRow B e a v n xs:=by
 refine⟨h.1,?_⟩;rcases h.2 with d|⟨g,b,c,d,f,i,j⟩
 .exact .w d
 exact .s ⟨g,b,c,d,f,(l g f).i i,j⟩
theorem QM.high(h:QM w B qb es pu)(a:∀k,B<=k->w'.heap[k]?=w.heap[k]?):QM w' B qb es pu:=by obtain⟨v,b,c⟩:=h.st;exact⟨h.a,v,(a qb h.a).i b,Wq c a⟩
theorem GM.high(h:GM w B es G)(a:∀k,B<=k->w'.heap[k]?=w.heap[k]?):GM w' B es G:=λe b=>Wq (h e b) a
theorem VW{k:Nat}(h:w.ownsRow B 3 1 (.b b n c) n (FM l))(a:k<n):w.cell? (O b k)=some (.a (l.getD k 0:Nat)):=by
 have d:l.length=n:=by have:=h.1;unfold FM at this;simpa using this
 rw[h.cellAt k U];unfold FM;rw[BI,AI,AE U];rfl
theorem Wm(h:w.ownsRow B 3 1 (.b b n c) n (FM l)):l.length=n:=by have:=h.1;unfold FM at this;simpa using this
theorem QM.SF(h:QM w B qb es pu)(k:Nat)(e:w.heap.size<=k):∀n cap,w.cell? (O qb 0)≠some (.b k n cap):=by
 intro n cap a;obtain⟨v,b,c⟩:=h.st;have d:w.cell? (O qb 0)=some v:=by rw[AU w qb 0 _ 341 (0,0) b];rfl
 rw[d]at a;simp at a;subst a;exact Dz ((c.lt k I).2)
theorem eu(h:Pk.LD es){x:GQ}(b:x∈es):wa es 0<=x.wt:=by obtain⟨i,a,rfl⟩:=DQ.1 b;have:=yD h i a;unfold wa at this |-;rw[AI (l:=es) (i:=i),AE a]at this;exact this
theorem iR(w:Z)(lb o:Nat)(v:Value):∀k,lb+1<=k->(w.setCell (O lb o) v).heap[k]?=w.heap[k]? := λk _=>AH w ⟨lb,o,none⟩ v k EL
theorem ko(l:List Nat)(k j:Nat)(a:k<l.length):j∈l.take (k+1)↔j∈l.take k\/j=l.getD k 0:=by rw[Al,Aj,AI,AE a];simp
theorem kP(l:List Nat)(k:Nat)(a:k<l.length):l.getD k 0∈l:=by rw[AI,AE a];exact Bn a
theorem sS(l:List Nat)(k:Nat)(b:l.Nodup)(a:k<l.length):l.getD k 0∉l.take k:=by
 intro h;have:l=l.take k++l.drop k:=(CZ k l).A;rw[this]at b;refine(CI.1 b).2.2 _ h (l.getD k 0) ?_ I;have c:l.getD k 0=l[k]:=by rw[AI,AE a];rfl
 rw[c,Ah a];exact List.mem_cons_self
theorem JI.last{e1:GQ}{D g:Nat->Nat}{S:List Nat}{W:Nat}(h:JI K [e1] G D g S W)(n:Nat->Nat)(m:∀i,i∈S↔i<288/\0<n i)(b:Nat->Nat)(k:∀i,i∈G e1.b->b i=max (g i) 1)(l:∀i,i∉G e1.b->b i=g i):(∀i,i<288->(0<b i↔0<n i))/\(∀i,288<=i->b i=0)/\(∀i,b i<=1\/(Fb (b i)<=W/\b i+1<=S.length))/\Eu (λi=>2^(K-b i)) S<=2^K:=by
 have e:=h.sym;simp only[BS,DF,Cc,List.flatten_nil,Br]at e;have j:e1∈[e1]:=EJ;have p:e1.wt=W:=by have:=h.sum;simpa[Eu]using this
 refine⟨λi f=>?_,λi f=>?_,λi=>?_,?_⟩
 .by_cases c:i∈G e1.b
  .rw[k i c];exact Dz ((m i).1 (e.mem_iff.1 c))
  rw[l i c];have d:i∉S:=λd=>c (e.mem_iff.2 d);rw[h.zero i d];have:¬0<n i:=λo=>d ((m i).2 ⟨f,o⟩);omega
 .have d:i∉S:=λd=>by exact Dz (((m i).1 d).1)
  rw[l i λc=>d (e.mem_iff.1 c),h.zero i d]
 .by_cases c:i∈G e1.b
  .rw[k i c];by_cases q:g i<=1
   .left;omega
   right;rw[Do U];have a:=h.len e1 j i c;rw[e.length_eq]at a;exact⟨AG (eE (h.VV e1 j i c)) (by rw[<-p];exact h.Sp e1 j),a⟩
  rw[l i c,h.zero i λd=>c (e.mem_iff.2 d)];left;omega
 rw[<-fI _ e,<-h.kr e1 j];refine vp λi f=>?_;rw[k i f];exact BK U U
theorem NV{w:Z}{B C n:Nat}{e:TypeId}{a:Nat}{v:Value}{f:List Value}(h:w.ownsRow B e a v n f)(k:C<=B):w.ownsRow C e a v n f:=by
 refine⟨h.1,?_⟩;rcases h.2 with d|⟨g,b,c,d,i,j⟩
 .exact .w d
 exact .s ⟨g,b,c,d,AG k i,j⟩
theorem uu(w:Z)(wb c:Nat)(p:Nat->Nat)(W:Nat)(hW:W=Fa p 288)(hW2:W<=1000000)(hne:0<W)(hz:∀i,i<288->w.cell? (O wb i)=some (.a (p i:Nat))):Calls prog 280 #[.b wb 288 c] w λe w'=>∃ln:Nat->Nat,e=.a (.b w.heap.size 288 288)/\w'.rowIs w.heap.size 3 288 (λj=>.a (ln j:Nat))/\Below w.heap.size w w'/\(∀i,i<288->(0<ln i↔0<p i))/\(∀i,288<=i->ln i=0)/\(∀i,ln i<=1\/(Fb (ln i)<=W/\ln i+1<=(Ew p 288).length))/\Eu (λi=>2^(288-ln i)) (Ew p 288)<=2^288:=by
 have de:wb<w.heap.size:=Am w _ (hz 0 U);obtain⟨M,hM⟩:=E (madeCells #[Value.int .i64 0] 288);have d4:∀W:Z,(Instr.makeSlice 22 (.a 288) (.a 288)).run prog W=.ok (.b W.heap.size 288 288) (W.alloc (.cells M 3)):=λW=>by rw[hM];exact Cn (P:=prog) 22 3 (.a 0) 8 underlying22 LY I .i64 .i64 288 U U W
 have az:(w.alloc (.cells M 3)).rowIs w.heap.size 3 288 (λj=>.a ((λ_=>0:Nat->Nat) j:Nat)):=by rw[hM];exact DA w (.a 0) 288 3
 clear hM;have cy:Hid (QM ((w.alloc (.cells M 3)).alloc (.cells #[.g,.a 0] 341)) (w.heap.size+1) (w.heap.size+1) [] 0):=QM.make (v:=.g) (n:=0) (AB _) (by have:=AR (w.alloc (.cells M 3)) (.cells #[.g,.a 0] 341);simp only[BM]at this;exact this) I (Af _ _ _ _)
 have cZ:=J (az.alloc (.cells #[.g,.a 0] 341));have bZ:Hid (Below w.heap.size w ((w.alloc (.cells M 3)).alloc (.cells #[.g,.a 0] 341))):=(Iy).alloc EJ _;have cG:Hid (((w.alloc (.cells M 3)).alloc (.cells #[.g,.a 0] 341)).heap.size=w.heap.size+2):=by show _=_;simp
 change Hid _ at hz hW;clear az;go_enter func280,ntmps280;go_wp2;clear d4;generalize ((w.alloc (.cells M 3)).alloc (.cells #[.g,.a 0] 341))=W0 at *;have d7:Hid (∀V,Below (w.heap.size+1) W0 V->∀i,i<288->V.cell? (O wb i)=some (.a (p i:Nat))):=λV hV i m=>by rw[hV.cell (p:=⟨wb,i,none⟩) EL,bZ.o.cell (p:=⟨wb,i,none⟩) EL];exact hz i m
 have cx:w.heap.size+1<=W0.heap.size:=Dz cG.o;go_loopw [21] (λi wr=>∃k d:Nat,∃A G,i=.a k/\k<=288/\d<=k/\A.length<=k/\Hid (JS 288 wr (w.heap.size+1) (w.heap.size+1) A d G (λ_=>0) (λ_=>0) (Ew p k) (Fa p k))/\Hid (Fr (w.heap.size+1) W0 wr)) (λi _=>288-(intOf i).toNat)
 .exact⟨0,0,[],λ_=>[],I,by omega,by omega,by simp,⟨cy,by intro i h1 u;simp at u,by intro e Q;simp at Q,JI.start _ _⟩,Fr.refl _ _⟩
 .clear cy;obtain⟨k,d,A,G,rfl,C,_,_,v,Hf⟩:=hrel;by_cases d9:k<288
  .have x0:=d7 _ Hf.o.b k d9;have ca:=Hf.o.size cx;by_cases h0:p k=0
   .have bK:Hid (JS 288 wr (w.heap.size+1) (w.heap.size+1) A d G (λ_=>0) (λ_=>0) (Ew p (k+1)) (Fa p (k+1))):=by have h:=v;rw[Xm p k h0,Fa,h0];exact h
    rw[h0]at x0;clear v h0;go_wp2;go_roundw
    .exact⟨k+1,d,A,G,by go_num,by omega,by omega,by omega,bK,Hf⟩
    .simp[intOf];omega
   obtain⟨y,hy⟩:=E (p k);have Hy:=J hy;rw[<-hy]at x0 h0;have df:(0:Int)<(y:Int):=U;clear hy;have ci:=v.o.q.of (w':=wr.alloc (.cells #[.a k] 3)) (λj hj=>AO _ _ j hj);have bF:=Hf.o.alloc ca (.cells #[.a k] 3);have ah:=J (fp _ (w.heap.size+1) (w.heap.size+1) A d y wr.heap.size 1 1 EL U U v.o.h ci);have bX:Hid (GM (wr.alloc (.cells #[.a k] 3)) (w.heap.size+1) A G):=v.o.g.a ((E6.refl 3 wr).alloc _);have c9:=J (yF wr (w.heap.size+1) k ca);change Hid _ at bF;have ad:Hid (∀e∈A,e.b≠wr.heap.size):=λe Q=>Nat.ne_of_lt (v.o.g.lt Q);have co:=J v.o.j;clear ci v;go_wp2_with fail;refine ah.o.l ?_;rintro e z ⟨rfl,aS,hp,hh,hq,hf⟩;have bK:Hid (JS 288 z (w.heap.size+1) (w.heap.size+1) aS (d+1) (λb=>if b=wr.heap.size then[k]else G b) (λ_=>0) (λ_=>0) (Ew p (k+1)) (Fa p (k+1))):=by rw[Zf p k (Dz Hy.o),Fa,<-Hy.o];exact⟨hq,hh,(GM.cons (c:=⟨y,d,wr.heap.size,1,1⟩) (bX.o.a hf.ints) (hf.ints.own c9) ad).perm hp,(JI.one co ⟨y,d,wr.heap.size,1,1⟩ k U ad).perm hp⟩
   have cL:=J (bF.o.i hf);have cC:aS.length<=k+1:=by rw[hp.length_eq];simp;omega
   clear ah bX c9 bF ad co hp hh hq hf x0;go_wp2;go_roundw
   .exact⟨k+1,d+1,aS,_,by go_num,by omega,by omega,cC,bK,cL⟩
   .simp[intOf];omega
  have b7:k=288:=U;subst b7;go_wp2;have aR:=J (Oz cZ Hf.o.b U);have aT:=J (bZ.o.i (Hf.o.b.b));have bh:=Hf.o.size cx;have bp:d+A.length<=576:=U;have HN:=J (jY p 288);have HL:=J (uR p 288);have aI:=J (jy p 288);have cM:Hid (JS 288 wr (w.heap.size+1) (w.heap.size+1) A d G (λ_=>0) (λ_=>0) (Ew p 288) W):=by rw[hW.o];exact v
  generalize hSe:Ew p 288=S at *;generalize hlb:w.heap.size=a at *;change Hid _ at hSe hlb;go_loopw [] (λwr=>∃d:Nat,∃A G D ln,d+A.length<=576/\a+1<=wr.heap.size/\Hid (JS 288 wr (a+1) (a+1) A d G D ln S W)/\Hid (wr.rowIs a 3 288 (λj=>.a (ln j:Nat)))/\Hid (Below a w wr)) (λwr=>N8 wr (a+1))
  .exact⟨d,A,G,_,_,bp,bh,cM,aR,aT⟩
  obtain⟨d,A,G,D,ln,bp,cg,v,Hl,Hb⟩:=hrel;cases A with
  |nil=>exfalso;have:=v.o.j.sum;simp[Eu]at this;omega
  |cons e1 t=>
   have ht:t.length<=575:=by simp at bp;omega
   have aG:=J (kz wr (a+1) (a+1) (e1::t) e1 d t.length cg I U I v.o.h v.o.q);go_wp2_with fail;refine aG.o.l ?_;rintro e B ⟨rfl,bY,cK,bO,b5,bu,_⟩;have aF:List.Perm bY t:=cK.i (jv e1 t);have d6:=v.o.g.a bu.ints;have bh:=bu.size cg;obtain⟨s,aV⟩:∃F,F=B.heap.size:=⟨_,I⟩;have aw:=b5.SF s U;have b3:=b5.lt;have aR:=J (Oz Hl bu.b U);have aT:=J (Hb.o.i (bu.b.b));change Hid _ at aF;have bf:=J d6;change Hid _ at b5 bO;have aE:=J v.o.j;have cX:=J v.o.h;have d1:Hid (N8 wr (a+1)=t.length+1):=v.o.q.N8;cases bY with
   |nil=>
    have cJ:=List.Perm.nil_eq aF |>.A;subst cJ;have aj:QM (B.alloc (.cells #[.a e1.wt,.a e1.a,.b e1.b e1.n e1.c] 344)) (a+1) (a+1) [] d:=b5.o.of λk C=>AO _ _ k C;have aG:=J (oz _ (a+1) (a+1) d EL aj);have b8:=J (aR.o.alloc (.cells #[.a e1.wt,.a e1.a,.b e1.b e1.n e1.c] 344));have aD:=J (bf.o.a ((E6.refl 3 B).alloc (.cells #[.a e1.wt,.a e1.a,.b e1.b e1.n e1.c] 344)));have aX:=J (aT.o.alloc U (.cells #[.a e1.wt,.a e1.a,.b e1.b e1.n e1.c] 344));have HF:Hid ((B.alloc (.cells #[.a e1.wt,.a e1.a,.b e1.b e1.n e1.c] 344)).heap[s]?=some (.cells #[.a e1.wt,.a e1.a,.b e1.b e1.n e1.c] 344 (0,0))):=by rw[aV];exact AR _ _
    have bb:Hid (∀n f,(B.alloc (.cells #[.a e1.wt,.a e1.a,.b e1.b e1.n e1.c] 344)).cell? (O (a+1) 0)≠some (.b s n f)):=λn f=>by rw[AK (AO B _ (a+1) b3)];exact aw n f
    have bS:s≠a+1:=U;have b6:s<(B.alloc (.cells #[.a e1.wt,.a e1.a,.b e1.b e1.n e1.c] 344)).heap.size:=EL;have dg:e1.b≠a:=by exact Dz ((bf e1 EJ).lt e1.b I)
    have bV:=J aV;have cF:a+1<=s:=U;clear aj aV aR bf aT aw;go_wp2_with fail;rw[<-bV.o];generalize (B.alloc (.cells #[.a e1.wt,.a e1.a,.b e1.b e1.n e1.c] 344))=V at *;refine aG.o.l ?_;rintro e z ⟨rfl,bq,P,a6⟩;have ax:=(a6 s b6 bS bb).i HF;have aY:=aD.o.a P.ints;have bj:=J ((Oz b8 P.b U).alloc (.cells #[.a 0,.a 0,.g] 344));have br:=J ((aX.o.i (P.b.b)).alloc (Dz P.b.size) (.cells #[.a 0,.a 0,.g] 344));have aN:=J (aY.a ((E6.refl 3 z).alloc (.cells #[.a 0,.a 0,.g] 344)));have cw:=(AO z (.cells #[.a 0,.a 0,.g] 344) s (lt_of_heap ax)).i ax;have f2:=EV 2 cw;have bQ:=Nat.ne_of_gt (lt_of_heap ax);clear aG b8 aX aD HF bb ax cw aY bq P a6 b6;go_wp2;obtain⟨l,L⟩:=E (G e1.b);have cz:=J L;have R:=aN e1 EJ;rw[<-L]at R;have cu:=Wm R;have cR:Hid (∀i∈l,i<288):=λi m=>((aI i).1 (aE.o.sym.mem_iff.1 (by rw[L]at m;simpa using m))).1;have bU:Hid (∀i,ln i<=300):=λi=>by
     by_cases m:i∈S
     .have h1:=aE.o.len e1 EJ i (by have:=aE.o.sym.mem_iff.2 m;simpa using this);have u:=QA aE (e:=e1) EJ;exact Dz HL.o
     rw[aE.o.zero i m];omega
    change Hid _ at R;have b4:=J cu;have cj:e1.n<=300:=by have u:=QA aE (e:=e1) EJ;have:=HL.o;rw[<-L]at u;omega
    clear L cu f2 bQ aN;generalize z.alloc (.cells #[.a 0,.a 0,.g] 344)=V0 at *;go_loopw [46] (λi N=>∃k:Nat,i=.a k/\k<=e1.n/\Hid (N.ownsRow (a+1) 3 1 (.b e1.b e1.n e1.c) e1.n (FM l))/\Hid (N.rowIs a 3 288 (λj=>.a ((if j∈l.take k then max (ln j) 1 else ln j:Nat):Int)))/\Hid (Below a w N)) (λi _=>e1.n-(intOf i).toNat)
    .exact⟨0,I,by omega,R,by simpa using bj,br⟩
    .clear R bj br;obtain⟨k,rfl,C,R,K,aB⟩:=hrel;by_cases bI:k<e1.n
     .have y0:=VW R bI;have aU:k<l.length:=Dz b4.o;have bc:=kP l k aU;have ao:=cR _ bc;have aP:=bU (l.getD k 0);obtain⟨q,H⟩:=E (l.getD k 0);rw[<-H]at y0 ao aP;have y1:=K.o.cell (i:=q) ao;have yf:=K.o.frozen q;obtain⟨x,hx⟩:∃x:Nat,x=if q∈l.take k then max (ln q) 1 else ln q:=⟨_,I⟩;rw[<-hx]at y1;have cq:x<=300:=by rw[hx];split<;>omega
      have am:=K.o.set q (.a ((max x 1:Nat):Int));have a3:(wr.setCell (O a q) (.a ((max x 1:Nat):Int))).rowIs a 3 288 (λj=>.a ((if j∈l.take (k+1)then max (ln j) 1 else ln j:Nat):Int)):=am.congr λj _=>by
       have T:=ko l k j aU;rw[<-H]at T;by_cases e:j=q
       .subst e;rw[AD I,AD (T.2 (.s I)),hx];congr 1;split<;>omega
       rw[AC e];by_cases u:j∈l.take k
       .rw[AD u,AD (T.2 (.w u))]
       rw[AC u,AC (λh3=>(T.1 h3).elim u e)]
      change Hid _ at a3;have a9:=J (Wq R (iR wr a q (.a ((max x 1:Nat):Int))));have ai:=J (aB.o.setCell (p:=⟨a,q,none⟩) (AB _) (.a ((max x 1:Nat):Int)));clear am H hx bc R K aB;have bz:((max x 1:Nat):Int)=max (x:Int) 1:=U;rw[bz]at a3 a9 ai;go_wp2;go_roundw
      .exact⟨k+1,by go_num,by omega,a9,a3,ai⟩
      .simp[intOf];omega
     have bB:k=e1.n:=U;subst bB;go_wp2;go_ret;have bn:l.take e1.n=l:=AT (Dz b4.o);have ae:=K;rw[bn]at ae;have cN:=aE;rw[hlb.o,hSe.o];have aa:=JI.last cN p aI (λj=>if j∈l then max (ln j) 1 else ln j) (λi m=>by rw[<-cz.o]at m;exact AD m) (λi m=>by rw[<-cz.o]at m;exact AC m);exact⟨λj=>if j∈l then max (ln j) 1 else ln j,I,ae,aB,aa.1,aa.2.1,aa.2.2.1,aa.2.2.2⟩
   |cons e2 r=>
    have dh:r.length+1=t.length:=by have:=aF.o.length_eq;simpa using this
    have aj:QM (B.alloc (.cells #[.a e1.wt,.a e1.a,.b e1.b e1.n e1.c] 344)) (a+1) (a+1) (e2::r) d:=b5.o.of λk C=>AO _ _ k C;have aG:=J (kz _ (a+1) (a+1) (e2::r) e2 d r.length EL I U I bO aj);have b8:=J (aR.o.alloc (.cells #[.a e1.wt,.a e1.a,.b e1.b e1.n e1.c] 344));have aD:=J (bf.o.a ((E6.refl 3 B).alloc (.cells #[.a e1.wt,.a e1.a,.b e1.b e1.n e1.c] 344)));have aX:=J (aT.o.alloc U (.cells #[.a e1.wt,.a e1.a,.b e1.b e1.n e1.c] 344));have HF:Hid ((B.alloc (.cells #[.a e1.wt,.a e1.a,.b e1.b e1.n e1.c] 344)).heap[s]?=some (.cells #[.a e1.wt,.a e1.a,.b e1.b e1.n e1.c] 344 (0,0))):=by rw[aV];exact AR _ _
    have bb:Hid (∀n f,(B.alloc (.cells #[.a e1.wt,.a e1.a,.b e1.b e1.n e1.c] 344)).cell? (O (a+1) 0)≠some (.b s n f)):=λn f=>by rw[AK (AO B _ (a+1) b3)];exact aw n f
    have bS:s≠a+1:=U;have b6:s<(B.alloc (.cells #[.a e1.wt,.a e1.a,.b e1.b e1.n e1.c] 344)).heap.size:=EL;have bV:=J aV;have cF:a+1<=s:=U;have bD:a+1<=(B.alloc (.cells #[.a e1.wt,.a e1.a,.b e1.b e1.n e1.c] 344)).heap.size:=EL;clear aj aV aR bf aT aw;go_wp2_with fail;rw[<-bV.o];generalize (B.alloc (.cells #[.a e1.wt,.a e1.a,.b e1.b e1.n e1.c] 344))=V at *;refine aG.o.l ?_;rintro e z ⟨rfl,aS,ct,cm,bq,P,a6⟩;have bC:=ct.i (jv e2 r);have ax:=(a6 s b6 bS bb).i HF;have aY:=aD.o.a P.ints;have cY:=P.size bD;obtain⟨F2,aL⟩:∃F,F=z.heap.size:=⟨_,I⟩;have bj:=J (((Oz b8 P.b U).alloc (.cells #[.a e2.wt,.a e2.a,.b e2.b e2.n e2.c] 344)).alloc (.cells #[.b e1.b e1.n e1.c,.b e2.b e2.n e2.c] 22));have br:=J (((aX.o.i (P.b.b)).alloc U (.cells #[.a e2.wt,.a e2.a,.b e2.b e2.n e2.c] 344)).alloc EL (.cells #[.b e1.b e1.n e1.c,.b e2.b e2.n e2.c] 22));have aN:=J ((aY.a ((E6.refl 3 z).alloc (.cells #[.a e2.wt,.a e2.a,.b e2.b e2.n e2.c] 344))).a ((E6.refl 3 _).alloc (.cells #[.b e1.b e1.n e1.c,.b e2.b e2.n e2.c] 22)));have cO:=J ((bq.of (w':=z.alloc (.cells #[.a e2.wt,.a e2.a,.b e2.b e2.n e2.c] 344)) λk C=>AO _ _ k C).of (w':=(z.alloc (.cells #[.a e2.wt,.a e2.a,.b e2.b e2.n e2.c] 344)).alloc (.cells #[.b e1.b e1.n e1.c,.b e2.b e2.n e2.c] 22)) λk C=>AO _ _ k C);have cS:=lt_of_heap ax;have aH:=(AO z (.cells #[.a e2.wt,.a e2.a,.b e2.b e2.n e2.c] 344) s cS).i ax;have aJ:(z.alloc (.cells #[.a e2.wt,.a e2.a,.b e2.b e2.n e2.c] 344)).heap[F2]?=some (.cells #[.a e2.wt,.a e2.a,.b e2.b e2.n e2.c] 344 (0,0)):=by rw[aL];exact AR _ _
    have f1:=EV 2 aH;have f2:=EV 2 aJ;have d5:=J ((AO _ (.cells #[.b e1.b e1.n e1.c,.b e2.b e2.n e2.c] 22) s EL).i aH);have cT:=J ((AO _ (.cells #[.b e1.b e1.n e1.c,.b e2.b e2.n e2.c] 22) F2 EL).i aJ);have HS:Hid (((z.alloc (.cells #[.a e2.wt,.a e2.a,.b e2.b e2.n e2.c] 344)).alloc (.cells #[.b e1.b e1.n e1.c,.b e2.b e2.n e2.c] 22)).heap[z.heap.size+1]?=some (.cells #[.b e1.b e1.n e1.c,.b e2.b e2.n e2.c] 22 (0,0))):=by have:=AR (z.alloc (.cells #[.a e2.wt,.a e2.a,.b e2.b e2.n e2.c] 344)) (.cells #[.b e1.b e1.n e1.c,.b e2.b e2.n e2.c] 22);simp only[BM]at this;exact this
    have cW:a+1<=((z.alloc (.cells #[.a e2.wt,.a e2.a,.b e2.b e2.n e2.c] 344)).alloc (.cells #[.b e1.b e1.n e1.c,.b e2.b e2.n e2.c] 22)).heap.size:=EL;have aQ:=J aL;have cU:a+1<=F2:=U;change Hid _ at bC cm;clear aG b8 aX aD HF bb ax aY bq P a6 b6 ct aH aJ aL;go_wp2_with fail;rw[<-aQ.o];rw[<-aQ.o]at HS;generalize ((z.alloc (.cells #[.a e2.wt,.a e2.a,.b e2.b e2.n e2.c] 344)).alloc (.cells #[.b e1.b e1.n e1.c,.b e2.b e2.n e2.c] 22))=V3 at *;have aK:e2∈e1::t:=By _ (aF.o.mem_iff.1 List.mem_cons_self);have bP:=aN e1 List.mem_cons_self;have bM:=aN e2 aK;have da:=Wm bP;have d3:=Wm bM;have a7:Hid (JI 288 (e1::e2::r) G D ln S W):=aE.o.perm (List.Perm.cons e1 aF);have H:=a7.o.sym;simp only[BS,Cc]at H;have aP:=H.length_eq;simp only[AM]at aP;have bG:=H.A.nodup HN;rw[<-Aw]at bG;have aA:=J ((CI.1 bG).1);have be:Hid (∀i,i∈G e1.b++G e2.b->i<288):=λi m=>((aI i).1 (H.mem_iff.1 (by rw[<-Aw];exact Aj.2 (.w m)))).1;have cE:=HL.o;have bE:∀e∈e1::e2::r,0<(G e.b).length:=λe Q=>by
     have C:=a7.o.kr e Q;cases hg:G e.b with
     |nil=>rw[hg]at C;simp only[Eu]at C;exact Dz (DN (n:=288) (show 0<2 by omega))
     |cons x l=>simp
    have cP:=bE e1 EJ;have cD:=bE e2 EJ;have cv:=J (yx V3 (F2+1) e1.b e1.n e1.c e2.b e2.n e2.c (G e1.b) (G e2.b) U U U HS.o (lh bP) (lh bM));have bU:Hid (∀i,ln i<=300):=λi=>by
     by_cases m:i∈S
     .have:=a7.o.sym.mem_iff.2 m;rw[List.mem_flatten]at this;obtain⟨_,h1,u⟩:=this;obtain⟨e0,h3,rfl⟩:=AZ.1 h1;have h4:=a7.o.len e0 h3 i u;have h5:=QA a7.o h3;omega
     rw[a7.o.zero i m];omega
    have cQ:e1.wt<=e2.wt:=eu cX.o aK;have d2:Hid (∀e∈r,e2.wt<=e.wt):=λe Q=>eu bO.o (By _ Q);have dd:e1.wt+e2.wt<=1000000:=by have:=a7.o.sum;simp only[Eu]at this;omega
    obtain⟨l,L⟩:=E (G e1.b++G e2.b);have b4:Hid (l.length=e1.n+e2.n):=by show _=_;rw[L,AM];omega
    rw[<-L]at aA be cv;change Hid _ at L;have dk:e1.n+e2.n<=300:=U;clear bP bM da d3 H aP bG bE cP cD aK HS f1 f2;refine cv.o.l ?_;rintro e w4 ⟨g,f,rfl,aC,a4⟩;have cH:=a4.size;have bm:∀k o,V3.heap[k]?=some o->w4.heap[k]?=some o:=λk o ho=>(a4.u k (lt_of_heap ho)).i ho;have b9:=J (bm _ _ d5);have bg:=J (bm _ _ cT);have cs:=J (Oz bj a4 bj.o.lt);have cl:=J (br.o.i (a4.b));have cB:=J (aN.o.a ((E6.refl 3 V3).f a4));have ce:=J (cO.o.of λk C=>a4.u k C);have di:=(aC.lt g I).1;have ad:Hid (∀e∈r,e.b≠g):=λe Q=>by have h1:e∈e1::t:=By _ (aF.o.mem_iff.1 (By _ Q));exact Dz (aN.o.lt h1)
    have ay:=NV aC U;have aZ:a+1<=w4.heap.size:=U;go_wp2;try rw[<-aQ.o]
    go_loopw [68] (λi N=>∃k:Nat,i=.a k/\k<=e1.n+e2.n/\a+1<=N.heap.size/\Hid (N.rowIs a 3 288 (λj=>.a ((if j∈l.take k then ln j+1 else ln j:Nat):Int)))/\Hid (N.ownsRow (a+1) 3 1 (.b g (e1.n+e2.n) f) (e1.n+e2.n) (FM l))/\Hid (QM N (a+1) (a+1) aS d)/\Hid (GM N (a+1) (e1::t) G)/\Hid (N.heap[s]?=some (.cells #[.a e1.wt,.a e1.a,.b e1.b e1.n e1.c] 344 (0,0)))/\Hid (N.heap[F2]?=some (.cells #[.a e2.wt,.a e2.a,.b e2.b e2.n e2.c] 344 (0,0)))/\Hid (Below a w N)) (λi _=>e1.n+e2.n-(intOf i).toNat)
    .exact⟨0,I,by omega,aZ,by simpa using cs,ay,ce,cB,b9,bg,cl⟩
    .clear cs ay ce cB b9 bg cl aZ;obtain⟨k,rfl,C,aM,K,a8,bs,bx,ar,av,aB⟩:=hrel;by_cases bI:k<e1.n+e2.n
     .have y0:=VW a8 bI;have aU:k<l.length:=Dz b4.o;have bc:=kP l k aU;have ao:=be _ bc;have aP:=bU (l.getD k 0);have bT:=sS l k aA aU;obtain⟨q,H⟩:=E (l.getD k 0);rw[<-H]at y0 ao aP bT;have y1:=K.o.cell (i:=q) ao;have yf:=K.o.frozen q;rw[AC bT]at y1;obtain⟨x,hx⟩:∃x:Nat,x=ln q:=⟨_,I⟩;rw[<-hx]at y1 aP;have am:=K.o.set q (.a ((x+1:Nat):Int));have a3:(wr.setCell (O a q) (.a ((x+1:Nat):Int))).rowIs a 3 288 (λj=>.a ((if j∈l.take (k+1)then ln j+1 else ln j:Nat):Int)):=am.congr λj _=>by
       have T:=ko l k j aU;rw[<-H]at T;by_cases e:j=q
       .subst e;rw[AD I,AD (T.2 (.s I)),hx]
       rw[AC e];by_cases u:j∈l.take k
       .rw[AD u,AD (T.2 (.w u))]
       rw[AC u,AC (λh3=>(T.1 h3).elim u e)]
      have af:=iR wr a q (.a ((x+1:Nat):Int));change Hid _ at a3;have a9:=J (Wq a8 af);have c8:=J (bs.o.high af);have aD:=J (bx.o.high af);have b0:=J ((af s U).i ar);have bi:=J ((af F2 U).i av);have ai:=J (aB.o.setCell (p:=⟨a,q,none⟩) (AB _) (.a ((x+1:Nat):Int)));clear am H hx bc bT af K a8 bs bx ar av aB;have bz:((x+1:Nat):Int)=(x:Int)+1:=U;rw[bz]at a3 a9 c8 aD b0 bi ai;clear bz;go_wp2;go_roundw
      .exact⟨k+1,by go_num,by omega,by simpa using aM,a3,a9,c8,aD,b0,bi,ai⟩
      .simp[intOf];omega
     have bB:k=e1.n+e2.n:=U;subst bB;have a1:=EV 0 ar;have a2:=EV 0 av;have bH:=bC.o.length_eq;have aO:=fp wr (a+1) (a+1) aS d (e1.wt+e2.wt) g (e1.n+e2.n) f aM U U cm bs;rw[show((e1.wt+e2.wt:Nat):Int)=(e1.wt:Int)+(e2.wt:Int) by omega]at aO;have ah:=J aO;change Hid _ at bH;have d8:d+r.length+2<=576:=by simp at bp;omega
     clear aO;go_wp2_with fail;refine ah.o.l ?_;rintro e w5 ⟨rfl,bW,cc,cA,bR,aW⟩;have bn:l.take (e1.n+e2.n)=l:=AT (Dz b4.o);have ae:=K;rw[bn]at ae;have bl:=J (Oz ae aW.b U);have cV:=J (aB.o.i (aW.b.b));have bN:=aW.size aM;have bA:=cc.i (List.Perm.cons _ bC);have cI:Hid (JS 288 w5 (a+1) (a+1) bW (d+1) (λb=>if b=g then G e1.b++G e2.b else G b) (λb=>if b=g then max (D e1.b) (D e2.b)+1 else D b) (λj=>if j∈l then ln j+1 else ln j) S W):=by
      refine⟨bR,cA,?_,?_⟩
      .refine GM.perm (GM.cons (c:=⟨e1.wt+e2.wt,d,g,e1.n+e2.n,f⟩) (es:=r) (G:=G) (l:=G e1.b++G e2.b) ?_ ?_ ad) bA
       .intro e Q;exact aW.ints.own (bx e (By _ (aF.o.mem_iff.1 (By _ Q))))
       rw[<-L.o];exact aW.ints.own a8
      exact(JI.join a7 HN cE cQ d2 ⟨e1.wt+e2.wt,d,g,e1.n+e2.n,f⟩ I ad (λj=>if j∈l then ln j+1 else ln j) (λi m=>by rw[<-L.o]at m;exact AD m) (λi m=>by rw[<-L.o]at m;exact AC m)).perm bA
     have bJ:bW.length=r.length+1:=by rw[bA.length_eq];rfl
     have bL:Hid (N8 w5 (a+1)=r.length+1):=by show _=_;rw[bR.N8,bJ]
     clear ah cc cA bR aW bn ae bA K a8 bs bx ar av aB a1 a2;change Hid _ at bJ;go_wp2;go_roundw
     .exact⟨d+1,bW,_,_,_,by have:=bJ.o;omega,bN,cI,bl,cV⟩
     have h1:=bL;have u:=d1;rw[h1,u];omega
theorem xU(f g:Nat->Nat)(k:Nat)(h:∀i,i<k->2*g i<=f i+1):2*Fa g k<=Fa f k+k:=by
 induction k with
 |zero=>simp[Fa]
 |succ k a=>have:=a (λi _=>h i U);have:=h k U;simp only[Fa];omega
theorem yi(f g:Nat->Nat)(k:Nat)(h:∀i,i<k->(0<g i↔0<f i)):0<Fa f k->0<Fa g k:=by
 induction k with
 |zero=>simp[Fa]
 |succ k b=>
  intro a;simp only[Fa]at a |-;by_cases e:0<f k
  .exact Dz ((h k U).2 e)
  exact Dz (b (λi _=>h i U) U)
theorem Wd(f g:Nat->Nat)(k:Nat)(h:∀i,i<k->f i=g i):Fa f k=Fa g k:=by
 induction k with
 |zero=>rfl
 |succ k a=>simp only[Fa];rw[a (λi _=>h i U),h k U]
theorem mE(f g:Nat->Nat)(k:Nat)(h:∀i,i<k->(0<f i↔0<g i)):Ew f k=Ew g k:=by unfold Ew;refine List.filter_congr λi a=>?_;have:=h i (EU a);simp[this]
theorem qW(f:Nat->Nat)(k i:Nat)(h:i<k):f i<=Fa f k:=by
 induction k with
 |zero=>omega
 |succ k a=>
  simp only[Fa];by_cases e:i=k
  .subst e;omega
  exact Dz (a U)
def TG(w:Z)(g:Nat):Nat:=Fa (λi=>match w.cell? (O g i)with | some (.int _ x)=>x.toNat | _=>0) 288
theorem eJ{w:Z}{B g c:Nat}{l:List Nat}(h:w.ownsRow B 3 1 (.b g 288 c) 288 (FM l)):TG w g=Fa (λi=>l.getD i 0) 288:=by unfold TG;refine Wd _ _ _ λi a=>?_;rw[VW h a];rfl
theorem ox(w:Z)(G c:Nat)(l:List Nat)(f:w.ownsRow 0 3 1 (.b G 288 c) 288 (FM l))(h0:0<Fa (λi=>l.getD i 0) 288)(h1:Fa (λi=>l.getD i 0) 288<=1000000):Calls prog 246 #[.b G 288 c] w λe w'=>∃ln:Nat->Nat,∃L,e=.a (.b L 288 288)/\w.heap.size<=L/\w'.rowIs L 3 288 (λj=>.a (ln j:Nat))/\Below w.heap.size w w'/\(∀i,i<288->(0<ln i↔0<l.getD i 0))/\(∀i,288<=i->ln i=0)/\(∀i,ln i<=12)/\(∀i,ln i<=1\/ln i+1<=(Ew (λi=>l.getD i 0) 288).length)/\Eu (λi=>2^(288-ln i)) (Ew (λi=>l.getD i 0) 288)<=2^288:=by
 have aF:=J (OL w G 288 c l U U f);have K:=J h0;have M:=J h1;clear f h0 h1;go_enter func246,ntmps246;go_wp2_with fail;refine aF.o.l ?_;rintro e _ ⟨g,p,rfl,A,Q⟩;have aL:=(A.lt g I).1;have R:=J A;have ad:=J Q;clear A Q aF;go_wp2;go_loopw [] (λwr=>∃m:List Nat,Hid (wr.r w.s 3 1 (.b g 288 p) 288 (FM m))/\Hid (w.b wr)/\Hid (∀i,i<288->(0<m.getD i 0↔0<l.getD i 0))/\Hid (0<Fa (λi=>m.getD i 0) 288/\Fa (λi=>m.getD i 0) 288<=1000000)) (λwr=>TG wr g)
 case atStart=>exact⟨l,R,ad,λi _=>Iff.rfl,⟨K.o,M.o⟩⟩
 case round=>
  clear R ad K M;obtain⟨m,b,d,C,s⟩:=hrel;have aI:=J (eJ b.o);have B:=d.o.size;have az:=J (uu wr g p (λi=>m.getD i 0) _ I s.o.2 s.o.1 (λi a=>VW b.o a));go_wp2_with fail;refine az.o.l ?_;rintro e w2 ⟨ln,rfl,D,aa,j1,j2,j3,j4⟩;have T:=J (xH w2 wr.s 288 288 (λi=>(ln i:Int)) U U (λi a=>D.cell a));have am:=J D;have o:=J aa;have N:=J j1;have v:=J j2;have y:=J j3;have P:=J j4;clear az D aa j1 j2 j3 j4;go_wp2_with fail;refine T.o.l ?_;rintro e _ ⟨rfl,mx,rfl,V,⟨im,_,aD⟩⟩;have aH:=J V;have aG:=J aD;clear V aD T;have ay:Hid (Ew (λi=>m.getD i 0) 288=Ew (λi=>l.getD i 0) 288):=mE _ _ 288 C.o;by_cases aO:mx<=12
  .go_wp2;go_ret;refine⟨ln,wr.s,I,B,am.o,d.o.i (o.o.l B),λi a=>(N.o i a).i (C.o i a),v.o,λi=>?_,λi=>?_,?_⟩
   .by_cases a:i<288
    .exact Dz (aH.o i a)
    rw[v.o i U];omega
   .rw[<-ay.o];exact(y.o i).imp id And.right
   rw[<-ay.o];exact P.o
  have au:610<=Fa (λi=>m.getD i 0) 288:=by
   have h:=aG.o;rcases y.o im with t|⟨t,_⟩
   .omega
   refine AG ?_ t;rw[<-rB];exact eE U
  have ar:=J au;have ae:=J (Yq b.o o.o (AB _));have S:=J (d.o.i (o.o.l B));clear au b d am o N v y P aH aG;go_wp2;go_loopw [17] (λi wq=>∃k:Nat,∃n:List Nat,i=.a k/\k<=288/\Hid (wq.r w.s 3 1 (.b g 288 p) 288 (FM n))/\Hid (w.b wq)/\Hid (∀i,i<288->n.getD i 0=if i<k then(m.getD i 0+1)/2 else m.getD i 0)) (λi _=>288-(intOf i).toNat)
  case atStart=>exact⟨0,m,I,by omega,ae,S,λi _=>by rw[AC U]⟩
  clear ae S;obtain⟨k,n,rfl,_,b,d,q⟩:=hrel;by_cases F:k<288
  .have y0:=VW b.o F;have z:=q.o k F;rw[AC U]at z;obtain⟨x,H⟩:=E (m.getD k 0);have aM:x<=1000000:=by have:=qW (λi=>m.getD i 0) 288 k F;exact Dz s.o.2
   rw[z,<-H]at y0;have W:=b.o.stored k (.a (((x+1)/2:Nat):Int));have aj:(FM n).set k (.a (((x+1)/2:Nat):Int))=FM (n.set k ((x+1)/2)):=by unfold FM;rw[List.map_set]
   have yf:=b.o.frozenAt k;have aw:=Wm b.o;have r:=W.1;rw[aj]at r;have r:=J r;have o:=J (d.o.setCell (p:=⟨g,k,none⟩) aL (.a (((x+1)/2:Nat):Int)));have aK:Hid (∀i,i<288->(n.set k ((x+1)/2)).getD i 0=if i<k+1 then(m.getD i 0+1)/2 else m.getD i 0):=λi a=>by
    rw[AI,List.getElem?_set];by_cases e:k=i
    .subst e;rw[AD I,AD U,AD U,<-H];rfl
    rw[AC e,<-AI,q.o i a];by_cases t:i<k
    .rw[AD t,AD U]
    rw[AC t,AC U]
   have aE:(((x+1)/2:Nat):Int)=((x:Int)+1)/2:=U;rw[aE]at r o;clear W aj z H aE aw b d q;go_wp2;go_roundw
   case rel=>exact⟨k+1,_,by go_num,by omega,r,o,aK⟩
   case measure=>simp[intOf];omega
  have aJ:k=288:=U;subst aJ;have u:Hid (∀i,i<288->n.getD i 0=(m.getD i 0+1)/2):=λi a=>by rw[q.o i a,AD a]
  have ac:2*Fa (λi=>n.getD i 0) 288<=Fa (λi=>m.getD i 0) 288+288:=xU _ _ _ λi a=>by have:=u.o i a;simp only[this];omega
  have an:Hid (∀i,i<288->(0<n.getD i 0↔0<l.getD i 0)):=λi a=>by rw[u.o i a,<-C.o i a];omega
  have ai:Hid (0<Fa (λi=>n.getD i 0) 288/\Fa (λi=>n.getD i 0) 288<=1000000):=by
   refine⟨yi (λi=>m.getD i 0) _ 288 (λi a=>?_) s.o.1,?_⟩
   .simp only[u.o i a];omega
   have:=s.o.2;exact Dz ar.o
  have ax:=J (eJ b.o);have ao:=J ac;clear ac q u;go_wp2;go_roundw
  case rel=>exact⟨n,b,d,an,ai⟩
  rw[ax.o,aI.o];have:=ao.o;exact Dz ar.o
end Y
namespace Y
open Go.RowKit Pk
def ID(l:List (Nat×Nat))(i:Nat):Nat:=Eu (λs=>if s.1=i then 1 else 0) l
theorem po(l:List (Nat×Nat))(i:Nat):ID l i<=l.length:=by
 unfold ID;induction l with
 |nil=>exact AB _
 |cons x l a=>simp only[Eu,Ae];split<;>omega
theorem yO(l:List (Nat×Nat))(k i:Nat)(h:k<l.length):ID (l.take (k+1)) i=ID (l.take k) i+if(l.getD k (0,0)).1=i then 1 else 0:=by unfold ID;rw[Al,AE h,Rf,AI,AE h];simp[Eu]
theorem i7(l:List (Nat×Nat))(i:Nat):0<ID l i↔∃s∈l,s.1=i:=by
 unfold ID;induction l with
 |nil=>simp[Eu]
 |cons x l a=>
  simp only[Eu,Ax,exists_eq_or_imp];by_cases e:x.1=i
  .simp[e];omega
  simp only[AC e,Ak,a];constructor
  .intro h;exact .s h
  rintro(h|h)
  .exact absurd h e
  exact h
theorem vH(f g:Nat->Nat)(k:Nat):Fa (λi=>f i+g i) k=Fa f k+Fa g k:=by
 induction k with
 |zero=>rfl
 |succ k a=>simp only[Fa];rw[a];omega
theorem o9(x k:Nat):Fa (λi=>if x=i then 1 else 0) k=if x<k then 1 else 0:=by
 induction k with
 |zero=>simp[Fa]
 |succ k a=>
  simp only[Fa];rw[a];by_cases e:x=k
  .subst e;simp
  by_cases h:x<k
  .rw[AD h,AC e,AD U]
  rw[AC h,AC e,AC U]
theorem tS(l:List (Nat×Nat))(h:∀s∈l,s.1<288):Fa (ID l) 288=l.length:=by
 induction l with
 |nil=>
  have:Fa (ID []) 288=Fa (λ_=>0) 288:=Wd _ _ _ λi _=>rfl;rw[this];have:∀k,Fa (λ_=>0) k=0:=λk=>by induction k with
   |zero=>rfl
   |succ k a=>simp only[Fa];omega
  rw[this];rfl
 |cons x l a=>have e:Fa (ID (x::l)) 288=Fa (λi=>(if x.1=i then 1 else 0)+ID l i) 288:=Wd _ _ _ λi _=>rfl;rw[e,vH,o9,AD (h x EJ),a (λs b=>h s (by simp[b]))];simp;omega
theorem uw{w:Z}{b n:Nat}{f:Nat->Nat}(h:w.rowIs b 3 n (λj=>.a (f j:Nat)))(g:n<=maxLen):w.ownsRow 0 3 1 (.b b n n) n (FM ((List.range n).map f)):=by
 obtain⟨c,d,_,e⟩:=h;refine⟨by simp[FM],.s ⟨b,n,c,I,AW _,d,AB _,g,by omega,?_⟩⟩;rw[AT EL];unfold FM;rw[Cj];apply DM;intro i;by_cases a:i<n
 .rw[BI,Cf a];have:=e i a;simpa using this
 rw[Ay EL,Ay EL]
theorem YA(f:Nat->Nat)(n i:Nat)(h:i<n):((List.range n).map f).getD i 0=f i:=by rw[AI,BI,Cf h];rfl
theorem od(w:Z)(c cnt cap:Nat)(l:List (Nat×Nat))(C:l.length=cnt)(S:cnt<=4000)(f:∀s∈l,s.1<288)(a:w.ownsRow 0 282 2 (.b c cnt cap) cnt (NP l)):Calls prog 247 #[.b c cnt cap] w λe w'=>e=.a (.b w.heap.size 288 288)/\w'.rowIs w.heap.size 3 288 (λj=>.a (ID l j:Nat))/\Below w.heap.size w w':=by
 obtain⟨M,p⟩:=E (madeCells #[Value.int .i64 0] 288);have P:∀W:Z,(Instr.makeSlice 22 (.a 288) (.a 288)).run prog W=.ok (.b W.heap.size 288 288) (W.alloc (.cells M 3)):=λW=>by rw[p];exact Cn (P:=prog) 22 3 (.a 0) 8 underlying22 LY I .i64 .i64 288 U U W
 have t:Hid ((w.alloc (.cells M 3)).rowIs w.heap.size 3 288 (λj=>.a (ID (l.take 0) j:Nat))):=by rw[p];exact DA w (.a 0) 288 3
 clear p;have z:=(a.lt c I).2;have G:Hid (∀i,i<cnt->w.cell? (O c (i*2))=some (.a ((l.getD i (0,0)).1:Nat))/\w.cell? (O c (i*2+1))=some (.a ((l.getD i (0,0)).2:Nat))):=λi _=>by rw[a.cellAt (i*2) U,a.cellAt (i*2+1) U,BQ i 2];exact iG l i U
 have K:=J f;have r:=J C;clear a f C;go_enter func247,ntmps247;go_wp2;clear P;go_loopw [9] (λi wr=>∃k:Nat,i=.a k/\k<=cnt/\Hid (wr.rowIs w.heap.size 3 288 (λj=>.a (ID (l.take k) j:Nat)))/\Hid (Below w.heap.size w wr)) (λi _=>cnt-(intOf i).toNat)
 case atStart=>exact⟨0,I,by omega,t,Iy⟩
 case round=>
  clear t;obtain⟨k,rfl,_,g,d⟩:=hrel;by_cases L:k<cnt
  .obtain⟨c1,c2⟩:=G.o k L;have o:k<l.length:=Dz r.o;have y:l.getD k (0,0)∈l:=by rw[AI,AE o];exact Bn o
   have u:=K.o _ y;obtain⟨s,q⟩:=E ((l.getD k (0,0)).1);obtain⟨b,B⟩:=E ((l.getD k (0,0)).2);rw[<-q]at c1 u;rw[<-B]at c2;have T:wr.cell? (O c (k*2))=some (.a s):=by rw[d.o.cell (p:=⟨c,k*2,none⟩) z];exact c1
   have V:wr.cell? (O c (k*2+1))=some (.a b):=by rw[d.o.cell (p:=⟨c,k*2+1,none⟩) z];exact c2
   have H:=d.o.size;have m:=g.o.alloc (.cells #[.a s,.a b] 282);have Q:=m.cell (i:=s) u;have a:=m.frozen s;obtain⟨x,n⟩:=E (ID (l.take k) s);have R:x<=4000:=by rw[n];have:=po (l.take k) s;rw[Ac]at this;omega
   rw[<-n]at Q;have v:=m.set s (.a ((x:Int)+1));have D:Hid (((wr.alloc (.cells #[.a s,.a b] 282)).setCell (O w.heap.size s) (.a ((x:Int)+1))).rowIs w.heap.size 3 288 (λj=>.a (ID (l.take (k+1)) j:Nat))):=v.congr λj _=>by
    rw[yO l k j o,<-q];by_cases e:j=s
    .subst e;rw[AD I,AD I,n];rfl
    rw[AC e,AC (λh=>e h.A)];rfl
   have F:Hid (Below w.heap.size w ((wr.alloc (.cells #[.a s,.a b] 282)).setCell (O w.heap.size s) (.a ((x:Int)+1)))):=(d.o.alloc H _).setCell (p:=⟨w.heap.size,s,none⟩) (AB _) _;clear v m q B n y c1 c2 g d;go_wp2;go_roundw
   case rel=>exact⟨k+1,by go_num,by omega,D,F⟩
   case measure=>simp[intOf];omega
  have N:k=cnt:=U;subst N;have A:l.take k=l:=AT (Dz r.o);rw[A]at g;clear A;go_wp2;go_ret;exact⟨I,g.o,d.o⟩
theorem oN(M K:Nat)(c:K=M+12)(S:List Nat)(a:Nat->Nat)(h:∀i∈S,a i<=12)(b:Eu (λi=>2^(K-a i)) S<=2^K):Eu (λi=>2^(12-a i)) S<=4096:=by
 have e:Eu (λi=>2^(K-a i)) S=2^M*Eu (λi=>2^(12-a i)) S:=by rw[<-ZL];refine XT λi d=>?_;rw[<-Nat.pow_add];congr 1;exact Dz (h i d)
 have e2:2^K=2^M*4096:=by rw[c,Nat.pow_add]
 rw[e,e2]at b;exact Nat.le_of_mul_le_mul_left b (DN U)
theorem nK(S:List Nat)(a:Nat->Nat)(h:∀i∈S,a i<=12)(b:Eu (λi=>2^(288-a i)) S<=2^288):Eu (λi=>2^(12-a i)) S<=4096:=
 oN 276 288 I S a h b
theorem nJ(a c:Nat->Nat)(k:Nat)(h:∀i,i<k->(0<a i↔0<c i)):sumTo (λi=>(a i:Int)) k=(Eu (λi=>2^(12-a i)) (Ew c k):Nat):=by
 induction k with
 |zero=>rfl
 |succ k g=>
  have d:=g (λi _=>h i U);have b:=h k U;rw[sumTo,d];unfold wt;by_cases e:0<c k
  .rw[Zf c k e,Rf,AD (Dz (b.2 e))];simp only[Eu,Bq];have:((12:Int)-(a k:Int)).toNat=12-a k:=U;rw[this];simp
  rw[Xm c k U,AC (by have:¬0<a k:=λf=>e (b.1 f);omega)];omega
theorem yt(a c:Nat->Nat)(d:∀i,i<288->(0<a i↔0<c i))(b:∀i,a i<=12)(e:Eu (λi=>2^(288-a i)) (Ew c 288)<=2^288):Fits (λi=>(a i:Int)) 288:=by refine⟨λk _=>⟨by omega,by exact Dz (b k)⟩,?_⟩;rw[nJ a c 288 d];exact Dz (nK (Ew c 288) a (λi _=>b i) e)
theorem vL(a c:Nat->Nat)(k:Nat)(h:∀i,i<k->(0<a i↔0<c i)):nz (λi=>(a i:Int)) k=(Ew c k).length:=by
 induction k with
 |zero=>rfl
 |succ k f=>
  have b:=h k U;rw[nz,f (λi _=>h i U)];by_cases e:0<c k
  .rw[Zf c k e,AC (Dz (b.2 e))];simp
  rw[Xm c k U,AD (by have:¬0<a k:=λd=>e (b.1 d);omega)];rfl
theorem rF(l:List Nat)(d:l.Nodup)(a b c:Nat)(h:∀x∈l,x=a\/x=b\/x=c):l.length<=3:=by
 match l,d,h with
 | [],_,_=>simp
 | [_],_,_=>simp
 | [_,_],_,_=>simp
 | [_,_,_],_,_=>simp
 |p::q::r::s::t,d,h=>exfalso;simp only[Ct,Ax,not_or]at d;have e:=h p EJ;have f:=h q EJ;have g:=h r EJ;have i:=h s EJ;omega
def Mg(ln:Nat->Nat)(s:Nat×Nat):Nat:=ln s.1+if s.1<256 then 0 else 12
theorem sN(a:Nat->Nat)(l:List (Nat×Nat))(h:∀s∈l,a s.1<=2):Eu (Mg a) l<=2*NX l+14*Rr l:=by
 unfold NX Rr;induction l with
 |nil=>simp[Eu]
 |cons x l d=>have e:=h x EJ;have b:=d (λs c=>h s (by simp[c]));simp only[Eu,Mg]at b |-;split<;>omega
theorem zD{n c pos d:Nat}{l:List (Nat×Nat)}{g:Nat->Nat}(w:0<n)(k:AS n c n l)(p:∀i,i<288->(0<g i↔0<ID l i))(q:∀i,g i<=1\/g i+1<=(Ew (ID l) 288).length) (j:pos<=24+13*nz (λi=>(g i:Int)) 288+90+Eu (Mg g) l) (o:8*d<pos+8):d<=40+n/16:=by
 have key:∀x,(∀s∈l,s.1=c\/s.1=287\/s.1=x)->NX l<=3->34*Rr l<=n+33->d<=40+n/16:=λx r _ _=>by
  have u:(Ew (ID l) 288).length<=3:=rF _ (jY _ _) c 287 x λy t=>by have:=((jy _ _ _).1 t).2;obtain⟨s,m,rfl⟩:=(i7 l y).1 this;exact r s m
  have v:=sN g l λs _=>by exact Dz (q s.1)
  rw[vL g (ID l) 288 p]at j;omega
 cases k with
 |start h _=>omega
 |run a b e f=>exact key c (λs m=>(f s m).elim .w (λh=>.s (.w h))) U U
 |rest x a b e f=>exact key x f U U
theorem fw(s:Du)(k:Nat):val s (8*k) 8=(s.getD k 0).toNat:=by
 have a:∀j,j<8->bt s (8*k+j)=(s.getD k 0).toNat/2^(7-j)%2:=λj _=>by unfold bt;rw[show(8*k+j)/8=k by omega,show(8*k+j)%8=j by omega]
 have b:=(s.getD k 0).toNat_lt;simp only[Ov,qY];rw[a 7 U,a 6 U,a 5 U,a 4 U,a 3 U,a 2 U,a 1 U,a 0 U];simp only[Ds,DC];generalize (s.getD k 0).toNat=x at *;simp only[show(2:Nat)^0=1 from I,show(2:Nat)^(7-6)=2 from I,show(2:Nat)^(7-5)=4 from I,show(2:Nat)^(7-4)=8 from I,show(2:Nat)^(7-3)=16 from I,show(2:Nat)^(7-2)=32 from I,show(2:Nat)^(7-1)=64 from I,show(2:Nat)^7=128 from I];omega
theorem ZS{b T:Du}{pos k:Nat}(h:Ag b T pos)(a:8*k+8<=pos):T.getD k 0=b.getD k 0:=by apply BR.1;rw[<-fw,<-fw];exact h.val _ _ a
theorem wI{d T:Du}{z:Nat->Int}{p1 p2:Nat}{b:Du}(m:0<d.length)(n:d.length<=4000)(h:b=[1,UInt8.ofNat (d.length/256),UInt8.ofNat (d.length%256)])(a:Ag b T 24)(e:24<=p2)(i:Fits z 288)(l:Wr T p2)(k:FX (T.drop 3) 288 0 0 (λ_=>0)=some (z,p1-24))(f:FR (T.drop 3) z 288 d.length d.length [] (p1-24)=some (d,p2-24)):Jd 288 T=some d:=by
 have g:=a.len;have e0:=ZS (k:=0) a U;have e1:=ZS (k:=1) a U;have e2:=ZS (k:=2) a U;have c:=oB e i l k f;subst h;simp only[Ae,Bf]at g;match T,g,e0,e1,e2,c with
 |t0::t1::t2::r,_,e0,e1,e2,c=>
  simp at e0 e1 e2;subst e0;have j:256*t1.toNat+t2.toNat=d.length:=by rw[e1,e2,Bx,Bx];omega
  rw[kV 288 (t1::t2::r) EJ (by show ¬(256*t1.toNat+t2.toNat<1\/4000<256*t1.toNat+t2.toNat);omega)];simp only[List.getD_cons_zero,List.getD_cons_succ,List.drop_succ_cons,List.drop_zero]at c |-;rw[j];exact c
theorem eH(w:Z)(B g:Nat)(b:Du)(pos n k:Nat)(t:B<=w.heap.size)(o:0<b.length)(a:pos<=400000)(A:k<=12)(a:n<2^k)(h:BW w B g b pos):Calls prog 250 #[.c g,.a n,.a k] w λe w'=>e=.a (.tuple #[])/\∃b',BW w' B g b' (pos+k)/\Ag b b' pos/\val b' pos k=n/\Below B w w'/\E6 282 w w':=by
 have d:=J a;have a:=J h;have f:n<4096:=by exact Dz (BK (show 0<2 by omega) A)
 obtain⟨v,P,f,s,p⟩:=An IM;go_enter func250,ntmps250;go_wp2;go_loopw [6] (λi wr=>∃j:Nat,j<=k/\i=.a ((k:Int)-1-(j:Int))/\∃c,BW wr B g c (pos+j)/\Ag b c pos/\val c pos j=n/2^(k-j)/\Below B w wr/\Hid (E6 282 w wr)) (λi _=>(intOf i+1).toNat)
 case atStart=>refine⟨0,by omega,by go_num,b,a,Ag.refl _ _,?_,AP _ _,E6.refl _ _⟩;rw[DC,Nat.div_eq_of_lt d.o];rfl
 case round=>
  obtain⟨j,_,rfl,c,N,C,Q,z,ay⟩:=hrel;by_cases aC:j<k
  .obtain⟨_,d,m⟩:=N.st;have a:=N.wr;have D:=N.a;have l:=AQ o C.len;have aD:=J a;change Hid _ at Q C;have o:=a.h;have o:=a.g;obtain⟨r,L,rfl,hr⟩:=jg m l;have aP:decide (0<=(k:Int)-1-(j:Int))=true:=EL;by_cases a:pos+j=8*c.length
   .have a:8*c.length-(pos+j)=0:=U;rw[a]at d;have x0:=EV 0 d;have x1:=EV 1 d;have o:=AG t z.size;have a:c.length<=100000:=U;change Hid _ at d z;go_wp2_with (at_builtin;refine wpList_append_lies _ I (.tmp 22) (.tmp 23) 111 I B 5 v (.f 0) 1 1 underlying111 P f s p I EB (.b r c.length L) c.length _ I (m.alloc _) ⟨wr.heap.size,0,none⟩ 1 1 [.f 0] I I (B9 _ _ _) (by intro u t;simp at t;subst t;rfl) U Fs U EL (wr.heap.size+1) EJ ?_);intro a l v p S _ _;have H:=(((E6.refl 279 wr).alloc _).C (m.alloc _) EB S).u d;have x:Hid (Below B w v):=(z.o.alloc o _).C S EL (λq F=>(m.lt q F).1);have p:v.ownsRow B 5 1 (.b a (c++[0]).length l) (c++[0]).length ((c++[(0:UInt8)]).map λ(y:UInt8)=>.f y.toNat):=by rw[AM,Au];exact p
    have V:=(p.lt a I).1;have y0:=EV 0 H;have f:=Fg 0 H;have o:=AJ v g 0 _ 279 (.b a (c.length+1) l) H;have y1:=EV 1 o;have f:=Fg 1 o;have R:=AJ _ g 1 _ 279 (.a 8) o;have f:=EV 1 R;have f:=Fg 1 R;have f:=AJ _ g 1 _ 279 (.a 7) R;have K:g≠a:=by intro e;subst e;obtain⟨_,_,A⟩:=Lib.ownsRow_kind p g I;rw[H]at A;simp at A
    have s:(Value.slice (FH a) (c++[0]).length l).ownBlock≠some g:=by simp[Value.ownBlock];exact λe=>K e.A
    have G:=Bg (a:=⟨g,1,none⟩) (Bg (a:=⟨g,1,none⟩) (Bg (a:=⟨g,0,none⟩) p s (.b a (c.length+1) l)) s (.a 8)) s (.a 7);have W:=J (((x.o.setCell (p:=⟨g,0,none⟩) D (.b a (c.length+1) l)).setCell (p:=⟨g,1,none⟩) D (.a 8)).setCell (p:=⟨g,1,none⟩) D (.a 7));have s:(c++[0]).length=c.length+1:=EJ;have x:=EV 0 f;have x:=EV 1 f;have x:(((v.setCell (O g 0) (.b a (c.length+1) l)).setCell (O g 1) (.a 8)).setCell (O g 1) (.a 7)).cell? (O a c.length)=some (.f 0):=by rw[G.cellAt c.length EJ,Au,Ao EJ];simp
    have x:=G.frozenAt c.length;have x:Hid (E6 282 w (((v.setCell (O g 0) (.b a (c.length+1) l)).setCell (O g 1) (.a 8)).setCell (O g 1) (.a 7))):=(((ay.o.i (((E6.refl 282 wr).alloc _).C (m.alloc _) EB S)).set H EB).set o EB).set R EB;have R:Hid ((((v.setCell (O g 0) (.b a (c.length+1) l)).setCell (O g 1) (.a 8)).setCell (O g 1) (.a 7)).heap[g]?=some (.cells #[.b a (c++[0]).length l,.a ((7:Nat):Int)] 279 (0,0))):=by show _=_;rw[f,s];rfl
    change Hid _ at G;go_wp2;go_region;have s:bits BinOp.or IntKind.u8 0 (bits BinOp.and IntKind.i64 ((n:Int)/2^(k-1-j)) 1%256*128%256)=((0+n/2^(k-1-j)%2*2^7:Nat):Int):=by have f:=Wu n k j 7 U;rw[show(2:Int)^7=128 by decide]at f;rw[f];exact Vq 0 _ 7 U (BU _ U) U EJ
    rw[s];have T:∀i,pos+j<=i->bt (c++[0]) i=0:=λi P=>ll c i U;obtain⟨f,s,M,H,S⟩:=WE (c:=c++[0]) (p:=pos+j) (q:=7) (x:=n/2^(k-1-j)%2) (y:=0+n/2^(k-1-j)%2*2^7) D R G EL EL T (BU _ U) EL EJ;rw[show(c++[(0:UInt8)]).length-1=c.length by simp]at s;have T:=W.o.setCell (p:=⟨a,c.length,none⟩) V (.f ((0+n/2^(k-1-j)%2*2^7:Nat):Int));have W:E6 282 w ((((v.setCell (O g 0) (.b a (c.length+1) l)).setCell (O g 1) (.a 8)).setCell (O g 1) (.a 7)).setCell (O a c.length) (.f ((0+n/2^(k-1-j)%2*2^7:Nat):Int))):=by obtain⟨x5,f5,R⟩:=Lib.ownsRow_kind G a I;exact x.o.set R EB
    have aL:Ag c f pos:=⟨by rw[S];simp,λi P=>by rw[M.bit i U,Wn c [0] i U]⟩;have x:val f pos j=val c pos j:=by rw[M.val pos j U];have G:Ag c (c++[0]) (8*c.length):=⟨by simp,λi P=>Wn c [0] i P⟩;exact G.val pos j U
    have G:val f pos (j+1)=n/2^(k-(j+1)):=by rw[Ov,H,x,Q.o];exact WZ n k j aC
    generalize ((((v.setCell (O g 0) (.b a (c.length+1) l)).setCell (O g 1) (.a 8)).setCell (O g 1) (.a 7)).setCell (O a c.length) (.f ((0+n/2^(k-1-j)%2*2^7:Nat):Int)))=x at *;have V:Hid (BW x.drew B g f (pos+(j+1))/\Ag b f pos/\val f pos (j+1)=n/2^(k-(j+1))/\Below B w x.drew/\Hid (E6 282 w x.drew)):=⟨⟨s.a,s.st,s.wr⟩,C.o.i aL (AB _),G,T.drew,W.drew⟩;go_wp2;go_roundw
    case rel=>exact⟨j+1,by omega,by go_num,f,V⟩
    case measure=>simp[intOf];omega
   obtain⟨q,F⟩:∃q,8*c.length-(pos+j)=q+1:=⟨8*c.length-(pos+j)-1,by omega⟩;rw[F]at d;have a:q<=6:=U;have x0:=EV 0 d;have x1:=EV 1 d;have f1:=Fg 1 d;have a:(((q+1:Nat):Int)==0)=false:=EL;have o:=AJ wr g 1 _ 279 (.a q) d;have y0:=EV 0 o;have y1:=EV 1 o;have K:g≠r:=by intro e;subst e;obtain⟨_,_,A⟩:=Lib.ownsRow_kind m g I;rw[d]at A;simp at A
   obtain⟨u,t⟩:=E ((c.getD (c.length-1) 0).toNat);have l:(wr.setCell (O g 1) (.a q)).cell? ⟨r,c.length-1,none⟩=some (.f u):=by rw[jB _ (λe=>K e.A),m.cellAt (c.length-1) U,t,BI,AI,AE U];rfl
   have l:(wr.setCell (O g 1) (.a q)).frozen? ⟨r,c.length-1,none⟩=false:=by rw[jG _ (λe=>K e.A)];exact m.frozenAt (c.length-1)
   have l:u<256:=by rw[t];exact UInt8.toNat_lt _
   change Hid _ at t F d o m z;rw[show((q+1:Nat):Int)=(q:Int)+1 by omega]at x1 a;go_wp2;go_region;rw[Wu n k j q U,Vq u (n/2^(k-1-j)%2) q U (BU _ U) l (by have:=(Yn c (pos+j) 0 U U aD.o.zero U).1;rw[F.o]at this;rw[t.o];exact this)]
   have p:(wr.setCell (O g 1) (.a q)).ownsRow B 5 1 (.b r c.length L) c.length (c.map λc=>.f (c.toNat:Nat)):=Bg m (by simp[Value.ownBlock];exact λe=>K e.A) _;obtain⟨f,s,M,H,S⟩:=WE (p:=pos+j) (q:=q) (x:=n/2^(k-1-j)%2) (y:=u+n/2^(k-1-j)%2*2^q) D o.o p U U aD.o.zero (BU _ U) (Dz F.o) (by rw[t.o]);have T:=(z.o.setCell (p:=⟨g,1,none⟩) D (.a q)).setCell (p:=⟨r,c.length-1,none⟩) hr (.f ((u+n/2^(k-1-j)%2*2^q:Nat):Int));have W:E6 282 w ((wr.setCell (O g 1) (.a q)).setCell ⟨r,c.length-1,none⟩ (.f ((u+n/2^(k-1-j)%2*2^q:Nat):Int))):=by obtain⟨x5,f5,R⟩:=Lib.ownsRow_kind p r I;exact(ay.o.set d EB).set R EB
   have G:val f pos (j+1)=n/2^(k-(j+1)):=by rw[Ov,H,M.val pos j U,Q.o];exact WZ n k j aC
   generalize ((wr.setCell (O g 1) (.a q)).setCell ⟨r,c.length-1,none⟩ (.f ((u+n/2^(k-1-j)%2*2^q:Nat):Int)))=x at *;have V:Hid (BW x.drew B g f (pos+(j+1))/\Ag b f pos/\val f pos (j+1)=n/2^(k-(j+1))/\Below B w x.drew/\Hid (E6 282 w x.drew)):=⟨⟨s.a,s.st,s.wr⟩,C.o.i M U,G,T.drew,W.drew⟩;go_wp2;go_roundw
   case rel=>exact⟨j+1,by omega,by go_num,f,V⟩
   case measure=>simp[intOf];omega
  have a:j=k:=U;subst a;have aP:decide (0<=(j:Int)-1-(j:Int))=false:=EL;change Hid _ at N C Q z;go_wp2;go_end0;refine⟨I,c,N,C,?_,z,ay⟩;have:=Q;rw[Ds,Nat.pow_zero,Nat.div_one]at this;exact this
end Y
namespace Y.Pk
def Ny(z:Nat->Int)(d k:Nat):List Nat:=(List.range k).filter λi=>decide (z i=(d:Int))
def G9(z:Nat->Int)(n:Nat):Nat->List Nat
 | 0=>[]
 | d+1=>G9 z n d++Ny z (d+1) n
theorem Wh(z:Nat->Int)(d k:Nat)(h:z k=(d:Int)):Ny z d (k+1)=Ny z d k++[k]:=by unfold Ny;rw[Be,DG];simp[h]
theorem Xk(z:Nat->Int)(d k:Nat)(h:z k≠(d:Int)):Ny z d (k+1)=Ny z d k:=by unfold Ny;rw[Be,DG];simp[h]
theorem XF(z:Nat->Int)(d k:Nat):(Ny z d k).length=cnt z d k:=by
 induction k with
 |zero=>rfl
 |succ k a=>
  by_cases h:z k=(d:Int)
  .rw[Wh z d k h,AM,a];simp[cnt,h]
  rw[Xk z d k h,a];simp[cnt,h]
theorem nV(z:Nat->Int)(d k i:Nat)(f:i<k)(h:z i=(d:Int)):(Ny z d k)[cnt z d i]?=some i:=by
 induction k with
 |zero=>omega
 |succ k b=>
  by_cases e:i=k
  .subst e;rw[Wh z d i h,Ao (by rw[XF];omega),XF];simp
  have c:=cnt_lt z d (show i<k by omega) h;by_cases a:z k=(d:Int)
  .rw[Wh z d k a,BG (by rw[XF];exact c)];exact b U
  rw[Xk z d k a];exact b U
theorem Yt(z:Nat->Int)(d n r:Nat)(h:r<cnt z d n):∃i,i<n/\z i=(d:Int)/\cnt z d i=r:=by
 induction n with
 |zero=>simp[cnt]at h
 |succ n c=>
  by_cases e:z n=(d:Int)
  .by_cases f:r<cnt z d n
   .obtain⟨i,g,a,b⟩:=c f;exact⟨i,by omega,a,b⟩
   refine⟨n,by omega,e,?_⟩;simp[cnt,e]at h;omega
  have:r<cnt z d n:=by simpa[cnt,e]using h
  obtain⟨i,g,a,b⟩:=c this;exact⟨i,by omega,a,b⟩
theorem Wj(z:Nat->Int)(n d:Nat):(G9 z n (d+1)).length=(G9 z n d).length+cnt z (d+1) n:=by rw[G9,AM,XF]
theorem uH(z:Nat->Int)(n d D r:Nat)(c:d+1<=D)(f:r<cnt z (d+1) n):(G9 z n D)[(G9 z n d).length+r]?=(Ny z (d+1) n)[r]? := by
 induction D with
 |zero=>omega
 |succ D a=>
  by_cases e:d=D
  .subst e;rw[G9,Ao U,Nat.add_sub_cancel_left]
  rw[G9,BG,a U];have b:(G9 z n (d+1)).length<=(G9 z n D).length:=by
   have:d+1<=D:=U;clear a e c;induction D with
   |zero=>omega
   |succ D a=>
    by_cases e:d+1=D+1
    .rw[e];exact AB _
    have:=a U;rw[Wj z n D];omega
  rw[Wj]at b;omega
theorem YI(z:Nat->Int)(n d:Nat):(G9 z n d).length<=d*n:=by
 induction d with
 |zero=>simp[G9]
 |succ d a=>rw[Wj];have:=XC z (d+1) n;rw[D9];omega
theorem found(s:Du)(z:Nat->Int)(pos d:Nat)(f:d+1<=12)(g:2*Kt z 288 d<=val s pos (d+1))(a:val s pos (d+1)-2*Kt z 288 d<cnt z (d+1) 288)(j:pos+(d+1)<=8*s.length):∃i,i<288/\(G9 z 288 12)[(G9 z 288 d).length+(val s pos (d+1)-2*Kt z 288 d)]?=some i/\hit s z pos i=true/\(z i).toNat=d+1:=by
 obtain⟨i,e,h,c⟩:=Yt z (d+1) 288 _ a;have b:(z i).toNat=d+1:=U;refine⟨i,e,?_,?_,b⟩
 .rw[uH z 288 d 12 _ f a,<-c];exact nV z (d+1) 288 i e h
 rw[Rz];refine⟨by omega,by omega,?_⟩;unfold num;rw[b,DE,c];omega
theorem Xh(s:Du)(z:Nat->Int)(pos d i:Nat)(c:i<288)(e:z i=(d:Int))(h:Kt z 288 d<=val s pos d):hit s z pos i=false:=by rw[<-Bool.not_eq_true,Rz];intro⟨a,_,b⟩;have:=Z7 z 288 i a c;rw[e,Int.toNat_natCast]at this b;omega
end Y.Pk
namespace Y
open Go.RowKit Pk
variable {w w':Z} {tr t e:TypeId} {b base n:Nat} {v:Value} {xs:List Value} {f:Nat->Value}
def Nb(w:Z)(row:Option Nat)(t:TypeId):Prop:=∀g,row=some g->∃cur fz,w.heap[g]?=some (.cells cur t fz)
theorem kM{row:Option Nat}{c:Array Value}{g:Nat×Nat}(i:w.grownBy w' row)(j:Nb w row tr)(d:w.heap[b]?=some (.cells c t g))(a:t≠tr):w'.heap[b]?=w.heap[b]? := by refine i.u b (lt_of_heap d) λe=>?_;obtain⟨_,f,h⟩:=j b e.A;rw[d]at h;simp at h;exact a h.2.1
def RZ(z:Nat->Int)(v:Value)(j:Nat):Value:=if j<=12 then .a (if j=0 then 0 else(cnt z j 288:Nat))else v
def Dc(w:Z)(base db:Nat)(z:Nat->Int):Prop:=
 ∃v,w.rowIs db 327 14 (RZ z v)/\w.ownsRow base 3 1 v (G9 z 288 12).length ((G9 z 288 12).map λi=>.a (i:Nat))
def JV(z:Nat->Int)(d k:Nat)(v:Value)(j:Nat):Value:=if j<=12 then .a (if j=0 then 0 else if j<=d then(cnt z j 288:Nat)else if j=d+1 then(cnt z j k:Nat)else 0)else v
theorem tE(z:Nat->Int)(j:Nat)(h:j<14):(#[Value.int .i64 0,.a 0,.a 0,.a 0,.a 0,.a 0,.a 0,.a 0,.a 0,.a 0,.a 0,.a 0,.a 0,.g]:Array Value)[j]?=some (JV z 0 0 (.g) j):=by
 unfold JV;match j,h with
 |0,_=>rfl
 |1,_=>rfl
 |2,_=>rfl
 |3,_=>rfl
 |4,_=>rfl
 |5,_=>rfl
 |6,_=>rfl
 |7,_=>rfl
 |8,_=>rfl
 |9,_=>rfl
 |10,_=>rfl
 |11,_=>rfl
 |12,_=>rfl
 |13,_=>rfl
theorem xS(z:Nat->Int)(d k:Nat)(v u:Value)(j:Nat)(a:j<14):(if j=13 then u else JV z d k v j)=JV z d k u j:=by
 unfold JV;by_cases h:j=13
 .rw[AD h,AC U]
 rw[AC h,AD (show j<=12 by omega),AD (show j<=12 by omega)]
theorem y9(z:Nat->Int)(d k:Nat)(v:Value)(j:Nat)(a:d<12)(h:z k=((d+1:Nat):Int)):(if j=d+1 then Value.int .i64 ((cnt z (d+1) k:Nat)+1)else JV z d k v j)=JV z d (k+1) v j:=by
 unfold JV;by_cases e:j=d+1
 .subst e;rw[AD I,AD U,AC U,AC U,AD I];simp only[cnt,AD h];go_num
 rw[AC e];by_cases e1:j<=12
 .rw[AD e1,AD e1,AC e,AC e]
 rw[AC e1,AC e1]
theorem pq(z:Nat->Int)(d k:Nat)(v:Value)(j:Nat)(h:z k≠((d+1:Nat):Int)):JV z d k v j=JV z d (k+1) v j:=by
 have e1:cnt z (d+1) (k+1)=cnt z (d+1) k:=by rw[cnt,AC h,Bq]
 unfold JV;by_cases e:j=d+1
 .subst e;rw[e1]
 rw[AC e,AC e]
theorem xu(z:Nat->Int)(d:Nat)(v:Value)(j:Nat):JV z d 288 v j=JV z (d+1) 0 v j:=by
 unfold JV;by_cases e:j<=12
 .rw[AD e,AD e];by_cases e0:j=0
  .rw[AD e0,AD e0]
  rw[AC e0,AC e0];by_cases e1:j<=d
  .rw[AD e1,AD U]
  rw[AC e1];by_cases e2:j=d+1
  .rw[AD e2,AD U]
  rw[AC e2,AC U];by_cases e3:j=d+1+1
  .rw[AD e3];simp[cnt]
  rw[AC e3]
 rw[AC e,AC e]
theorem sY(z:Nat->Int)(v:Value)(j:Nat):JV z 12 0 v j=RZ z v j:=by
 unfold JV RZ;by_cases e:j<=12
 .rw[AD e,AD e,AD e]
 rw[AC e,AC e]
theorem Ye(h:w.ownsRow base e 1 v n xs):Nb w v.ownBlock e:=λg b=>by obtain⟨a,_,_,_,c,_⟩:=PO h b;exact⟨a,_,c⟩
theorem XE{row:Option Nat}(h:w.rowIs b t n f)(i:w.grownBy w' row)(j:Nb w row tr)(a:t≠tr):w'.rowIs b t n f:=by obtain⟨c,d,e,g⟩:=h;exact⟨c,(kM i j d a).i d,e,g⟩
theorem U8{row:Option Nat}(h:w.ownsRow base e 1 v n xs)(f:w.grownBy w' row)(i:Nb w row tr)(b:e≠tr):w'.ownsRow base e 1 v n xs:=by
 refine h.kept f ?_;cases j:v.ownBlock with
 |none=>exact .w I
 |some g=>refine .s λd=>?_;obtain⟨c1,_,_,_,c,_⟩:=PO h j;obtain⟨c2,f2,a⟩:=i g d.A;rw[c]at a;simp at a;exact b a.2.1
theorem gO{u:Value}{N o:Nat}(h:w.ownsRow base e 1 v n xs)(l:w.rowIs b t N f)(a:e≠t):(w.setCell (O b o) u).ownsRow base e 1 v n xs:=by obtain⟨c,i,_,_⟩:=l;exact U8 h (row:=some b) (tr:=t) ⟨I,I,I,by simp,λk _ j=>AH w ⟨b,o,none⟩ u k (λe=>j (by simp[e]))⟩ (λg d=>by simp at d;subst d;exact⟨c,_,i⟩) a
theorem XA{b:List Nat}(h:w.ownsRow base 3 1 v n (b.map λi=>Value.int .i64 (i:Nat))):b.length=n/\∃a c,v=.slice a n c/\IntsIn w a n (λj=>((b.getD j 0:Nat):Int)):=by
 have k:b.length=n:=by have:=h.1;simpa using this
 refine⟨k,?_⟩;have f:w.r base 3 1 v n ((List.range n).map λj=>Value.int .i64 ((b.getD j 0:Nat):Int)):=by
  have e:(b.map λi=>Value.int .i64 (i:Nat))=(List.range n).map λj=>Value.int .i64 ((b.getD j 0:Nat):Int):=by
   apply DM;intro j;by_cases g:j<n
   .have d:j<b.length:=U;simp[g,d]
   rw[Ay EL,Ay EL]
  rw[<-e];exact h
 exact xi f
theorem tY(a:Option Addr)(cap:Nat)(z:Nat->Int)(w:Z)(L:IntsIn w a 288 z):Calls prog 261 #[.slice a 288 cap] w λe w'=>e=.a (.c w.heap.size)/\Below w.heap.size w w'/\Dc w' w.heap.size w.heap.size z:=by
 obtain⟨m,C,T,x,t⟩:=An LY;obtain⟨b,s,rfl,H⟩:=L U;have A:=J H;clear H L;go_enter func261,ntmps261;go_wp2;go_loopw [4] (λi wr=>∃d D:Nat,d<=12/\D<=d+1/\d+1<=D/\i=.a D/\Below w.heap.size w wr/\∃v,wr.rowIs w.heap.size 327 14 (JV z d 0 v)/\wr.ownsRow w.heap.size 3 1 v (G9 z 288 d).length ((G9 z 288 d).map λi=>.a (i:Nat))) (λi _=>13-(intOf i).toNat)
 case atStart=>refine⟨0,1,by omega,by omega,by omega,I,Iy,.g,?_,Af _ _ _ _⟩;exact World.rowIs_alloc w _ 327 _ (λj y=>tE z j y)
 case round=>
  obtain⟨d,D,_,_,_,rfl,g,v,h,c⟩:=hrel;by_cases S:d<12
  .have f:decide ((D:Int)<=12)=true:=EL;go_wp2;go_loopw [15] (λi wr=>∃k:Nat,k<=288/\i=.a k/\Below w.heap.size w wr/\∃v n,wr.rowIs w.heap.size 327 14 (JV z d k v)/\n<=3456+k/\wr.ownsRow w.heap.size 3 1 v n ((G9 z 288 d++Ny z (d+1) k).map λi=>.a (i:Nat))) (λi _=>288-(intOf i).toNat)
   case atStart=>have f:=YI z 288 d;exact⟨0,by omega,I,g,v,(G9 z 288 d).length,h,by omega,by simpa[Ny]using c⟩
   clear g h c v;obtain⟨k,_,rfl,g,v,n,h,_,c⟩:=hrel;have f:=g.size;by_cases F:k<288
   .have f:wr.cell? {block:=b,off:=s+k}=some (Value.int IntKind.i64 (z k)):=by rw[g.cell (p:=⟨b,s+k,none⟩) (Am w _ (A.o k F))];exact A.o k F
    by_cases p:z k=((d+1:Nat):Int)
    .have V:(z k==(D:Int))=true:=by rw[p,show D=d+1 by omega];simp
     have r:=J p;clear p;obtain⟨_,f,B,l,_⟩:=XA c;subst l;have G:wr.cell? (O w.heap.size 13)=some (.slice f n B):=by rw[h.cell U];rfl
     have f:=h.lt;go_wp2_with (at_builtin;refine Av _ I (.tmp 27) (.tmp 29) 22 I w.heap.size 3 m (.a 0) 1 8 underlying22 C T x t I EB _ _ _ I (c.alloc _) ⟨wr.heap.size,0,none⟩ 1 1 [.a k] I I ?c1 ?c2 ?c3 ?c4 ?c5 ?_)
     case c1=>exact B9 _ _ _
     case c2=>intro u K;simp at K;subst K;rfl
     case c3=>unfold maxLen;omega
     case c4=>omega
     case c5=>simp;omega
     intro m l B x _;have C:Below w.heap.size w l:=(g.a).C x EL (λq L=>(c.lt q L).1);have f:=XE (h.alloc _) x (Ye (c.alloc _)) EB;have t:l.ownsRow w.heap.size 3 1 m (n+1) ((G9 z 288 d++Ny z (d+1) (k+1)).map λi=>Value.int .i64 (i:Nat)):=by rw[Wh z (d+1) k r.o,Au,Au];exact B
     obtain⟨_,m,o,H,_⟩:=XA t;subst H;clear B x c g h G;have s:=f.frozen 13;have s:=f.frozen D;obtain⟨_,G⟩:∃u,l.cell? (O w.heap.size 13)=some u:=⟨_,f.cell U⟩;have M:l.cell? (O w.heap.size D)=some (.a (cnt z (d+1) k:Nat)):=by rw[f.cell U];unfold JV;rw[AD U,AC U,AC U,AD U,show D=d+1 by omega]
     have s:cnt z (d+1) k<=k:=XC _ _ _;have s:(l.setCell (O w.heap.size 13) (.slice m (n+1) o)).cell? (O w.heap.size D)=some (.a (cnt z (d+1) k:Nat)):=by rw[((f.set 13 (.slice m (n+1) o)).cell (i:=D) U),AC U,<-f.cell (i:=D) U];exact M
     have s:(D:Int)<13:=U;have P:((l.setCell (O w.heap.size 13) (.slice m (n+1) o)).setCell (O w.heap.size D) (.a ((cnt z (d+1) k:Nat)+1))).rowIs w.heap.size 327 14 (JV z d (k+1) (.slice m (n+1) o)):=by refine((f.set 13 _).set D _).congr λj y=>?_;rw[xS z d k _ _ j y,show D=d+1 by omega];exact y9 z d k _ j S r.o
     have N:((l.setCell (O w.heap.size 13) (.slice m (n+1) o)).setCell (O w.heap.size D) (.a ((cnt z (d+1) k:Nat)+1))).ownsRow w.heap.size 3 1 (.slice m (n+1) o) (n+1) ((G9 z 288 d++Ny z (d+1) (k+1)).map λi=>Value.int .i64 (i:Nat)):=
      gO (gO t f EB) (f.set 13 _) EB
     have Q:Below w.heap.size w ((l.setCell (O w.heap.size 13) (.slice m (n+1) o)).setCell (O w.heap.size D) (.a ((cnt z (d+1) k:Nat)+1))):=
      (C.c).c
     clear t f C;go_wp2;go_region;go_wp2;go_roundw
     case rel=>exact⟨k+1,by omega,by go_num,Q.drew,_,n+1,P.drew,by omega,N.drew⟩
     case measure=>simp[intOf];omega
    have V:(z k==(D:Int))=false:=by rw[show D=d+1 by omega];simpa using p
    have r:=J p;clear p;go_wp2;go_roundw
    case rel=>exact⟨k+1,by omega,by go_num,g,v,n,h.congr (λj _=>pq z d k v j r.o),by omega,by rw[Xk z (d+1) k r.o];exact c⟩
    case measure=>simp[intOf];omega
   have W:k=288:=U;subst W;go_wp2;go_roundw
   case rel=>have p:=(XA c).1;refine⟨d+1,D+1,by omega,by omega,by omega,by go_num,g,v,h.congr (λj _=>xu z d v j),?_⟩;show wr.ownsRow w.heap.size 3 1 v (G9 z 288 d++Ny z (d+1) 288).length ((G9 z 288 d++Ny z (d+1) 288).map λi=>Value.int .i64 (i:Nat));rw[p];exact c
   case measure=>simp[intOf];omega
  have R:d=12:=U;subst R;go_wp2;go_ret;exact⟨I,g,v,h.congr (λj _=>sY z v j),c⟩
variable {w w':Z} {rb pos base db:Nat} {s:Du} {tr:TypeId} {z:Nat->Int}
theorem Rd.a(h:Rd w rb s pos):Nb w (some rb) 295:=λg a=>by simp at a;subst a;exact⟨_,_,h⟩
theorem Rd.d{row:Option Nat}(h:Rd w rb s pos)(b:w.grownBy w' row)(c:Nb w row tr)(a:295≠tr):Rd w' rb s pos:=
 (kM b c h a).i h
theorem Dc.d{row:Option Nat}(h:Dc w base db z)(a:w.grownBy w' row)(b:Nb w row tr)(c:327≠tr)(d:3≠tr):Dc w' base db z:=by obtain⟨v,f,e⟩:=h;exact⟨v,XE f a b c,U8 e a b d⟩
theorem Dc.cell(h:Dc w base db z)(D:Nat)(c:1<=D)(a:D<=12):w.cell? (O db D)=some (.a (cnt z D 288:Nat)):=by obtain⟨_,b,_⟩:=h;rw[b.cell U];unfold RZ;rw[AD a,AC U]
theorem Dc.syms(h:Dc w base db z):∃a c,w.cell? (O db 13)=some (.slice a (G9 z 288 12).length c)/\IntsIn w a (G9 z 288 12).length (λj=>(((G9 z 288 12).getD j 0:Nat):Int)):=by obtain⟨_,e,d⟩:=h;obtain⟨_,a,c,rfl,b⟩:=XA d;refine⟨a,c,?_,b⟩;rw[e.cell U];rfl
theorem xr(g db base:Nat)(z:Nat->Int)(s:Du)(pos:Nat)(w:Z)(hs:s.length<=140737488351232)(hf:Fits z 288)(F:Rd w g s pos)(hp:pos<=8*s.length)(r:Dc w base db z):Calls prog 294 #[.c db,.c g] w λe w'=>w.grownBy w' (some g) /\ ((∃i,i<288/\hit s z pos i=true/\e=.a (.tuple #[.a (i:Nat),.bool true])/\Rd w' g s (pos+(z i).toNat)) \/ ((∀i,i<288->hit s z pos i=false)/\e=.a (.tuple #[.a 0,.bool false]))):=by
 have hT:=F.a;have HT:=J hT;have aJ:=J r;have aY:=YI z 288 12;have Q:Hid (∀i,i<288->z i<=((0:Nat):Int)->hit s z pos i=false):=λi l h=>by rw[<-Bool.not_eq_true,Rz];intro hh;omega
 clear hT r;go_enter func294,ntmps294;go_wp2;go_loopw [6,7,8,9] (λx f p i wr=>∃d D P V A L:Nat,d<=12/\D<=d+1/\d+1<=D/\P<=pos+d/\pos+d<=P/\P<=8*s.length/\i=.a D/\x=.a V/\f=.a A/\p=.a L/\A<=V/\V<=4096/\L<=3456 /\
  Hid (V=val s pos d/\A=Kt z 288 d/\L=(G9 z 288 d).length)/\Rd wr g s P/\w.grownBy wr (some g)/\Hid (∀i,i<288->z i<=(d:Int)->hit s z pos i=false)) (λ_ _ _ i _=>13-(intOf i).toNat)
 case atStart=>exact⟨0,1,pos,0,0,0,by omega,by omega,by omega,by omega,by omega,hp,I,I,I,I,by omega,by omega,by omega,⟨I,I,I⟩,F,World.grownBy.refl _ _,Q⟩
 case round=>
  clear Q F;obtain⟨d,D,P,V,A,L,_,_,_,_,_,az,rfl,rfl,rfl,rfl,_,_,_,j,B,u,t⟩:=hrel;by_cases aO:d<12
  .have aG:decide ((D:Int)<=12)=true:=EL;by_cases hb:P+1<=8*s.length
   .go_wp2_with fail;refine(VC g s P 1 _ hs B U hb).l ?_;rintro e v ⟨rfl,H,aw⟩;have o:=PQ u aw;have R:=aJ.o.d o HT.o EB EB;have aN:=R.cell D U U;have aD:=XC z D 288;rw[m7];have aT:=WA s P;have k:Hid (2*V+bt s P=val s pos (d+1)):=by have b:=j.o.1;have c:pos+d=P:=U;show _=_;rw[Ov,c,b]
    generalize bt s P=a at *;have aS:bits BinOp.or IntKind.i64 ((V:Int)*2) (a:Int)=((2*V+a:Nat):Int):=by rw[jS _ _ U U U U U];omega
    have n:Hid (cnt z D 288=cnt z (d+1) 288):=by show _=_;rw[show D=d+1 by omega]
    obtain⟨C,hC⟩:=E (cnt z D 288);rw[<-hC]at aN aD n;clear hC B u aw;have ay:(D:Int)<13:=U;by_cases ah:2*V+a-2*A<C
    .have hF:=found s z pos d U (by have b:=j.o.2.1;have c:=k.o;omega) (by have b:=j.o.2.1;have c:=k.o;have m:=n.o;omega) U;obtain⟨i,aB,G,N,au⟩:=hF;obtain⟨_,_,_,av⟩:=R.syms;have K:=J G;have ae:=J N;have aC:=J au;clear G N au;have ad:L+(2*V+a-2*A)<(G9 z 288 12).length:=by
      have b:=j.o;have c:=k.o;have m:=K.o;rw[<-b.2.2,<-c,<-b.2.1]at m;rcases CS (L+(2*V+a-2*A)) (G9 z 288 12).length with h|h
      .exact h
      rw[Ay h]at m;cases m
     obtain⟨ao,S,af,T⟩:=av U;subst af;have ax:v.cell? ⟨ao,S+(L+(2*V+a-2*A)),none⟩=some (.a i):=by rw[T _ ad];have b:=j.o;have c:=k.o;have m:=K.o;rw[<-b.2.2,<-c,<-b.2.1]at m;simp[List.getD,m]
     have aF:v.cell? ⟨ao,S+(L+(2*V+a)-A*2),none⟩=some (.a i):=by rw[show L+(2*V+a)-A*2=L+(2*V+a-2*A) by omega];exact ax
     clear T av ax;generalize (G9 z 288 12).length=M at *;have aA:((2*V+a:Nat):Int)-(A:Int)*2<(C:Int):=U;have aL:Rd v g s (pos+(z i).toNat):=by rw[aC.o,show pos+(d+1)=P+1 by omega];exact H
     go_wp2;go_ret2;exact⟨o,.w ⟨i,aB,ae.o,I,aL⟩⟩
    have aR:¬(((2*V+a:Nat):Int)-(A:Int)*2<(C:Int)):=U;have W:Kt z 288 (d+1)=2*A+C:=by rw[Kt,<-j.o.2.1,n.o]
    have ar:(G9 z 288 (d+1)).length=L+C:=by rw[Wj,<-j.o.2.2,n.o]
    have aE:=YI z 288 (d+1);have a9:Hid (2*V+a=val s pos (d+1)/\2*A+C=Kt z 288 (d+1)/\L+C=(G9 z 288 (d+1)).length):=⟨k.o,W.A,ar.A⟩;have ai:Hid (∀i,i<288->z i<=((d+1:Nat):Int)->hit s z pos i=false):=λi l h=>by
     by_cases e:z i=((d+1:Nat):Int)
     .refine Xh s z pos (d+1) i l e ?_;have c:=k.o;omega
     exact t.o i l U
    have aK:val s pos (d+1)<4096:=AQ (Tq s pos _) (BK U (by omega:d+1<=12));have aH:2*V+a<=4096:=by have c:=k.o;omega
    have aM:L+C<=3456:=U;clear W ar aE aK j k t n;go_wp2;go_roundw
    case rel=>exact⟨d+1,D+1,P+1,2*V+a,2*A+C,L+C,by omega,by omega,by omega,by omega,by omega,hb,by go_num,by go_num,by go_num,by go_num,by omega,aH,aM,a9,H,o,ai⟩
    case measure=>simp[intOf];omega
   have y:Hid (∀i,i<288->hit s z pos i=false):=λi l=>by
    by_cases e:z i<=(d:Int)
    .exact t.o i l e
    rw[<-Bool.not_eq_true,Rz];intro hh;omega
   go_wp2_with fail;refine(Vu g s P 1 _ hs az B U U).l ?_;rintro e v ⟨rfl,q,rfl⟩;have o:=PQ u (SA _ q _);go_wp2;go_ret2;exact⟨o,.s ⟨y.o,I⟩⟩
  have y:Hid (∀i,i<288->hit s z pos i=false):=λi l=>t.o i l (Dz (hf.UJ i l));go_wp2;go_ret2;exact⟨u,.s ⟨y.o,I⟩⟩
theorem tG(z:Nat->Int)(p j:Nat)(x:Int):(if j=p then Value.int .i64 x else Value.int .i64 (z j))=Value.int .i64 (upd z p x j):=by unfold upd;split<;>rfl
theorem ti(z:Nat->Int)(p j:Nat)(h:z p=0):(if j=p then Value.int .i64 0 else Value.int .i64 (z j))=Value.int .i64 (z j):=by
 by_cases e:j=p
 .rw[AD e,e,h]
 rw[AC e]
theorem pM{a b:Z}{g o c:Nat}(h:a.grownBy b (some c))(f:a.heap.size<=g)(v:Value):a.grownBy (b.setCell (O g o) v) (some c):=
 ⟨h.os,h.tape,h.output,by simpa using h.size,λk d e=>(AH b ⟨g,o,none⟩ v k EL).i (h.u k d e)⟩
theorem Rd.other{w:Z}{a g o:Nat}{s:Du}{pos:Nat}(h:Rd w a s pos)(b:a≠g)(v:Value):Rd (w.setCell (O g o) v) a s pos:=
 (AH w ⟨g,o,none⟩ v a b).i h
theorem yb(a:Nat)(s:Du)(w:Z)(B:s.length<=140737488351232)(T:Rd w a s 0)(R:Option ((Nat->Int)×Nat))(hR:FX s 288 0 0 (λ_=>0)=R):Calls prog 258 #[.c a] w λe w'=>w.grownBy w' (some a) /\ ((∃z pos,R=some (z,pos)/\pos<=8*s.length/\e=.a (.tuple #[.b w.heap.size 288 288,.bool true])/\w'.rowIs w.heap.size 3 288 (λj=>.a (z j))/\Rd w' a s pos) \/ (R=none/\e=.a (.tuple #[.g,.bool false]))):=by
 have av:Hid (Gw s R 0 0 (λ_=>0)):=.w ⟨by omega,by omega,λ_ _=>rfl,288,by omega,hR⟩;clear hR;obtain⟨M,S⟩:=E (madeCells #[Value.int .i64 0] 288);have aD:∀W:Z,(Instr.makeSlice 22 (.a 288) (.a 288)).run prog W=.ok (.b W.heap.size 288 288) (W.alloc (.cells M 3)):=λW=>by rw[S];exact Cn (P:=prog) 22 3 (.a 0) 8 underlying22 LY I .i64 .i64 288 U U W
 have a5:(w.alloc (.cells M 3)).rowIs w.heap.size 3 288 (λj=>.a ((λ_=>0:Nat->Int) j)):=by rw[S];exact DA w (.a 0) 288 3
 have au:=T.lt;have ay:Rd (w.alloc (.cells M 3)) a s 0:=(AO w _ a au).i T;have aw:w.grownBy (w.alloc (.cells M 3)) (some a):=BF w _ _;clear S T;go_enter func258,ntmps258;go_wp2;clear aD;go_loopw [5] (λx wr=>∃p pos:Nat,∃z,p<=288/\pos<=8*s.length/\x=.a p/\Hid (Gw s R p pos z)/\wr.rowIs w.heap.size 3 288 (λj=>.a (z j))/\Rd wr a s pos/\w.grownBy wr (some a)) (λx _=>288-(intOf x).toNat)
 case atStart=>exact⟨0,0,_,by omega,by omega,I,av,a5,ay,aw⟩
 case round=>
  clear av a5 ay aw;obtain⟨p,pos,z,_,ao,rfl,c,L,t,A⟩:=hrel;by_cases k:p<288
  .have aF:=J (xQ c.o k).2;by_cases v:8*s.length<pos+4
   .have d:=J (pH c.o k v);go_wp2_with fail;refine(Vu a s pos 4 _ B ao t U v).l ?_;rintro e D ⟨rfl,q,rfl⟩;have r:=PQ A (SA _ q _);go_wp2;go_ret2;exact⟨r,.s ⟨d.o,I⟩⟩
   go_wp2_with fail;refine(VC a s pos 4 _ B t U U).l ?_;rintro e D ⟨rfl,G,r⟩;have g:=XE L r t.a EB;have P:=PQ A r;clear L t A r;have aH:=Tq s pos 4;have H:Hid (val s pos 4≠0->Gw s R (p+1) (pos+4) (upd z p (val s pos 4))):=λh=>xj c.o k v h;have K:Hid (val s pos 4=0->¬8*s.length<pos+9->Gw s R (p+1+val s (pos+4) 5) (pos+9) z):=λh l=>nY c.o k v h l;have Q:Hid (val s pos 4=0->8*s.length<pos+9->R=none):=λh l=>sH c.o k v h l;clear c;generalize val s pos 4=b at *;have aB:=g.cell (i:=p) k;have aC:=g.frozen p;have aK:=g.lt;have y:=g.set p (.a b);have o:=pM (o:=p) P (AB _) (.a b);have i:=G.other (g:=w.heap.size) (o:=p) U (.a b);by_cases C:b=0
   .have aE:¬(0:Int)<(b:Int):=U;have n:(D.setCell (O w.heap.size p) (.a b)).rowIs w.heap.size 3 288 (λj=>.a (z j)):=y.congr λj _=>by rw[C];exact ti z p j (aF.o p (AB _))
    have V:=J C;clear C y g P G;obtain⟨_,N⟩:∃W,W=D.setCell (O w.heap.size p) (.a b):=⟨_,I⟩;rw[<-N]at n o i;have F:=J N;clear N;by_cases l:8*s.length<pos+9
    .have d:=J (Q.o V.o l);go_wp2_with fail;rw[<-F.o];refine(Vu a s (pos+4) 5 _ B U i U U).l ?_;rintro e w4 ⟨rfl,q,rfl⟩;have u:=PQ o (SA _ q _);go_wp2;go_ret2;exact⟨u,.s ⟨d.o,I⟩⟩
    go_wp2_with fail;rw[<-F.o];refine(VC a s (pos+4) 5 _ B i U U).l ?_;rintro e w4 ⟨rfl,ah,u⟩;have ad:=XE n u i.a EB;have ax:=PQ o u;have aI:=Tq s (pos+4) 5;have m:=J (K.o V.o l);clear F n o i u K H Q aB aC;generalize val s (pos+4) 5=f at *;by_cases aJ:288<=p+f
    .have d:Hid (R=none):=by
      rcases m.o with⟨h,_⟩|⟨_,_,h⟩
      .omega
      exact h
     have am:(288:Int)<=(p:Int)+(f:Int):=U;go_wp2;go_ret2;exact⟨ax,.s ⟨d.o,I⟩⟩
    have am:¬(288:Int)<=(p:Int)+(f:Int):=U;have aG:Hid (Gw s R (p+f+1) (pos+9) z):=by rw[show p+f+1=p+1+f by omega];exact m
    clear m;go_wp2;go_roundw
    case rel=>exact⟨p+f+1,pos+9,z,by omega,by omega,by go_num,aG,ad,ah,ax⟩
    case measure=>simp[intOf];omega
   have aE:(0:Int)<(b:Int):=U;have m:=J (H.o C);have n:(D.setCell (O w.heap.size p) (.a b)).rowIs w.heap.size 3 288 (λj=>.a (upd z p b j)):=y.congr λj _=>tG z p j _;clear y g P G H K Q;go_wp2;go_roundw
   case rel=>exact⟨p+1,pos+4,_,by omega,by omega,by go_num,m,n,i,o⟩
   case measure=>simp[intOf];omega
  have aj:p=288:=U;subst aj;obtain⟨az,aA⟩:=xC c.o;have d:=J az;clear az c;go_wp2;go_ret2;exact⟨A,.w ⟨z,pos,d.o,aA,I,L,t⟩⟩
end Y
end Go.Proofs.YtodmdkhdbfbfgaaGreatDoor
