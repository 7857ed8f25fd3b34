/- Lemmas. -/
import Derived.Defers
import Derived.Deep.RegionLaw
import Derived.Test.YtodmdkhdbfbfgaaGreatDoorM06
set_option linter.unusedVariables false
set_option linter.unusedSimpArgs false
set_option maxRecDepth 100000
set_option maxHeartbeats 8000000
open Go.Proofs.Tryz
abbrev Go.Cs:=@Option.some.inj
abbrev Go.Dh:=@Bool.and_eq_false_iff
abbrev Go.Dm:=@List.Pairwise.of_map
abbrev Go.Ar:=@List.setIfInBounds_toArray
abbrev Go.DI:=@Go.wpAnyIn_done
abbrev Go.DR:=@List.mem_reverse
namespace Go.Proofs.YtodmdkhdbfbfgaaGreatDoor
namespace Y
open Go.RowKit Pk
open Go.Nt
variable {l l':List Fp} {f:Fp} {m m':M} {c n k x y cn nn:Nat} {t t':Du} {K S:Nat->Bool} {ps:List (Nat×Nat)} {left:List Du}
abbrev Fq (m:M):List Fp:=FD (Gn m) m.d m.a
def M0(l:List Fp):Prop:=∀f∈l,∀g∈l,f.b=g.b->f.num=g.num->f.at_=g.at_->f=g
theorem M0.look(h:M0 l)(a:f∈l):Ea l f.b f.num f.at_=some f:=eX a (λx e b c d=>h x e f a b c d)
theorem jD{i q:Nat}(d:c<256)(h:n<4294967296)(j:EK t.length<65536)(g:k<EK t.length)(f:i<m.a)(l:q<m.d)(e:m.c i q=Fo (IJ c n t k)):Md c n t k i∈Fq m:=by
 have a:=Vm (t:=t) d h g j;have b:FJ (Gn m i q)=some {IJ c n t k with a:=(IJ c n t k).a++List.replicate (51-(IJ c n t k).a.length) 0}:=by unfold Gn;rw[e,Xe (Go.Nt.GW _ a.t)];exact Wy a
 exact GV.2 ⟨i,q,_,f,l,b,I⟩
theorem iX(e:∀f∈l',f.b=x->f.num=y->f∈l)(g:M0 l)(h:Ea l' x y k=some f):Ea l x y k=some f:=by obtain⟨c,a,b,d⟩:=Oa h;have:=g.look (e f c a b);rw[a,b,d]at this;exact this
theorem Wx{l a:List Fp}{x y o:Nat}(d:∀f∈a,f.b=x->f.num=y->f∈l)(e:M0 l):∀(k:Nat) (ps:List Fp),Fz a x y o k=some ps->Fz l x y o k=some ps
 |0,ps,h=>h
 | k+1,ps,h=>by
   unfold Fz at h |-;cases b:Fz a x y o k with
   |none=>rw[b]at h;cases h
   |some g=>
     rw[b]at h;cases c:Ea a x y k with
     |none=>rw[c]at h;cases h
     |some f=>
       rw[c]at h;rw[Wx d e k g b,iX d e c];exact h
theorem fu(c:∀f∈l',f.b=x->f.num=y->f∈l)(i:M0 l)(h:FK l' x y=true):FK l x y=true:=by
 unfold FK at h |-;rw[AV]at h |-;refine⟨?_,?_⟩
 .obtain⟨f,k,d,a⟩:=FE.1 h.1;exact FE.2 ⟨f,c f k d a,d,a⟩
 have a:=h.2;unfold GO at a |-;by_cases b:M5 l' x y=0
 .rw[AD b]at a;cases a
 rw[AC b]at a;have j:M5 l x y=M5 l' x y:=by
  unfold M5 at b |-;cases e:Ea l' x y 0 with
  |none=>rw[e]at b;exact absurd I b
  |some f=>rw[iX c i e]
 rw[j,AC b];cases g:Fz l' x y (M5 l' x y) (M5 l' x y)with
 |none=>rw[g]at a;cases a
 |some m=>rw[Wx c i _ m g];rfl
structure L0 (m:M) (c n:Nat) (K:Nat->Bool) (t:Du):Prop where
 a:M0 (Fq m)
 here:∃pos:Nat->Nat×Nat,∀k,k<EK t.length->(pos k).1<m.a/\(pos k).2<m.d/\(pos k).2<m.g (pos k).1/\K (pos k).1=true/\m.c (pos k).1 (pos k).2=Fo (IJ c n t k)
 Lx:∀x y,FK (Fq m) x y=true->x<c\/(x=c/\y<=n)
 b:∀f∈Fq m,f.b<=ER m
 Um:c<=ER m
 pos:0<t.length
 g:EK t.length<=256
 num:n<2147483648
theorem L0.Qp(h:L0 m c n K t)(a:WF m):c<256:=by have:=h.Um;have:=FV m;exact Dz a.a
theorem L0.look(h:L0 m c n K t)(g:WF m):∃EW:Nat->Nat,∀k,k<EK t.length->Ea (Fq m) c n k=some (Md c n t k (EW k)):=by obtain⟨pos,f⟩:=h.here;refine⟨λk=>(pos k).1,λk a=>?_⟩;obtain⟨b,d,_,_,e⟩:=f k a;have:=h.num;have:=h.g;exact h.a.look (jD (h.Qp g) U U a b d e)
theorem L0.whole(h:L0 m c n K t)(g:WF m):∃ps z,GO (Fq m) c n=some ps/\Fi ps=t++z/\FK (Fq m) c n=true/\(Fi ps).length<=EK t.length*51:=by
 obtain⟨a,e⟩:=h.look g;have d:=kj h.pos e;obtain⟨z,i⟩:=mQ c n t a;refine⟨_,z,d,i,?_,?_⟩
 .have f:0<EK t.length:=by have:=h.pos;unfold EK;omega
  have b:=Oa (e 0 f);unfold FK;rw[d,FE.2 ⟨_,b.1,b.2.1,b.2.2.1⟩];rfl
 have key:∀k,(Fi ((List.range k).map λj=>Md c n t j (a j))).length<=k*51:=λk=>by
  induction k with
  |zero=>simp[Fi]
  |succ k l=>
   rw[Be,Au,List.map_singleton,WN,AM];have:(Md c n t k (a k)).a.length<=51:=by unfold Md;simp;omega
   omega
 exact key _
theorem ZU{p q:Nat->Bool}(h:∀i,p i=true->q i=true):∀l:List Nat,l.countP p<=l.countP q
 | []=>AB _
 | a::l=>by
   have c:=ZU h l;rw[Cm,Cm];by_cases b:p a=true
   .rw[AD b,AD (h a b)];omega
   rw[AC b];omega
theorem Ff.FV{a:M}{b:List Du}(h:Ff a K b m S ps left):ER a<=ER m:=by unfold ER;rw[h.a];exact ZU h.b _
theorem WY(h:Ff m K (Ej cn nn t) m' S ps left)(e:cn<256)(l:nn<4294967296)(n:EK t.length<65536)(w:M0 (Fq m))(v:Fc (Fq m) cn nn=false):M0 (Fq m'):=by
 intro f s g o e1 e2 e3;have r:∀f∈Fq m,¬(f.b=cn/\f.num=nn):=λf j ⟨a,b⟩=>by have:=FE.2 ⟨f,j,a,b⟩;rw[v]at this;cases this
 rcases h.found e l n s with⟨k,i,q,d,_,rfl⟩|d
 .rcases h.found e l n o with⟨p,x,y,c,u,rfl⟩|c
  .have:k=p:=e3;subst this;rw[d]at c;cases c;rfl
  exact absurd ⟨e1.A,e2.A⟩ (r g c)
 rcases h.found e l n o with⟨p,x,y,c,u,rfl⟩|c
 .exact absurd ⟨e1,e2⟩ (r f d)
 exact w f d g c e1 e2 e3
theorem ky(h:Ff m K (Ej cn nn t) m' S ps left)(u:cn<256)(x:nn<4294967296)(y:EK t.length<65536)(v:Fc (Fq m) cn nn=false)(w:left≠[]):FK (Fq m') cn nn=false:=by
 have j:∀f∈Fq m',f.b=cn->f.num=nn->∃k i q,ps[k]?=some (i,q)/\k<EK t.length/\f=Md cn nn t k i:=λf g a b=>by
  rcases h.found u x y g with d|d
  .exact d
  have:=FE.2 ⟨f,d,a,b⟩;rw[v]at this;cases this
 have z:ps.length<EK t.length:=by have l:=AX List.length h.part;rw[BX,Ec]at l;have A:0<left.length:=Bl.2 w;omega
 have r:Ea (Fq m') cn nn ps.length=none:=MM.2 (λf g ⟨a,b,c⟩=>by obtain⟨k,i,q,d,l,rfl⟩:=j f g a b;have:k=ps.length:=c;rw[this,Ay (AB _)]at d;cases d)
 unfold FK;rw[Dh];right;unfold GO;by_cases e:M5 (Fq m') cn nn=0
 .rw[AD e];rfl
 rw[AC e];have s:M5 (Fq m') cn nn=EK t.length:=by
  unfold M5 at e |-;cases d:Ea (Fq m') cn nn 0 with
  |none=>rw[d]at e;exact absurd I e
  |some f=>obtain⟨n,o,p,_⟩:=Oa d;obtain⟨k,i,q,_,_,rfl⟩:=j f n o p;rfl
 rw[s];have:Fz (Fq m') cn nn (EK t.length) (ps.length+1)=none:=by unfold Fz;rw[r];cases Fz (Fq m') cn nn (EK t.length) ps.length<;>rfl
 rw[Xg U this];rfl
theorem WK(h:Ff m K (Ej cn nn t) m' S ps left)(g:cn<256)(j:nn<4294967296)(k:EK t.length<65536)(l:M0 (Fq m))(d:¬(x=cn/\y=nn))(n:FK (Fq m') x y=true):FK (Fq m) x y=true:=
 fu (λf c a b=>by
  rcases h.found g j k c with⟨_,i,q,_,_,rfl⟩|e
  .exact absurd ⟨a.A,b.A⟩ d
  exact e) l n
theorem Mv(h:Ff m K (Ej (ER m) nn t) m' S ps left)(d:ER m<256)(e:nn<4294967296)(g:EK t.length<65536)(a:∀f∈Fq m,f.b<=ER m):∀f∈Fq m',f.b<=ER m:=λf b=>by
 rcases h.found d e g b with⟨_,i,q,_,_,rfl⟩|c
 .exact AB _
 exact a f c
theorem L0.no(h:L0 m c n K t)(z:WF m)(a:Ff m K (Ej (ER m) nn t') m' S ps left)(d:nn<4294967296)(g:EK t'.length<65536)(o:Fc (Fq m) (ER m) nn=false)(v:left≠[]):L0 m' c n K t:=by
 have b:ER m<256:=by have:=FV m;exact Dz z.a
 refine⟨WY a b d g h.a o,?_,λx y j=>?_,λf p=>AG (Mv a b d g h.b f p) a.FV,AG h.Um a.FV,h.pos,h.g,h.num⟩
 .obtain⟨pos,w⟩:=h.here;refine⟨pos,λk u=>?_⟩;obtain⟨q,r,l,i,s⟩:=w k u;exact⟨by rw[a.a];exact q,by rw[a.d];exact r,AQ l (a.g _ i),i,by rw[a.kept _ _ i l];exact s⟩
 by_cases e:x=ER m/\y=nn
 .obtain⟨rfl,rfl⟩:=e;rw[ky a b d g o v]at j;cases j
 exact h.Lx x y (WK a b d g h.a e j)
theorem L0.yes(h:L0 m c n K t)(F:WF m)(a:Ff m K (Ej (ER m) nn t') m' S ps [])(A:nn<2147483648)(C:EK t'.length<=256)(D:0<t'.length)(w:Fc (Fq m) (ER m) nn=false)(B:n<=nn):L0 m' (ER m) nn S t':=by
 have j:ER m<256:=by have:=FV m;exact Dz F.a
 have G:ps.length=EK t'.length:=by have g:=AX List.length a.part;rw[BX,Ec]at g;have v:=a.le;rw[Ec]at v;simp at g;omega
 refine⟨WY a j U U h.a w,⟨λk=>ps.getD k (0,0),λk z=>?_⟩,λx y b=>?_,λf s=>AG (Mv a j U U h.b f s) a.FV,a.FV,D,C,A⟩
 .obtain⟨x,b⟩:∃x,ps[k]?=some x:=⟨_,AE U⟩;obtain⟨i,q⟩:=x;have e:ps.getD k (0,0)=(i,q):=by rw[AI,b];rfl
  dsimp only;rw[e];obtain⟨l,o,p,d,r⟩:=a.f k i q b;refine⟨l,o,p,r,?_⟩;unfold Ej at d;rw[BI,Cf z]at d;simpa using d.A
 by_cases e:x=ER m/\y=nn
 .exact .s ⟨e.1,by omega⟩
 have:=h.Um;rcases h.Lx x y (WK a j U U h.a e b)with u|⟨u,g⟩
 .exact .w U
 by_cases H:c=ER m
 .exact .s ⟨by omega,by omega⟩
 exact .w U
theorem L0.last(h:L0 m c n K t)(F:WF m):TS (Fq m) c n:=by
 intro _ S _;obtain⟨s,a,_,_,A,P,_,B,Q,rfl⟩:=S;obtain⟨_,_,_,_,L,_⟩:=h.whole F;have V:=h.num;have W:=h.Qp F;have H:(c,n)∈s:=(A _).2 ⟨by omega,by omega,L⟩;have u:∀x∈s,x.1<c\/(x.1=c/\x.2<=n):=λx g=>h.Lx x.1 x.2 ((A x).1 g).2.2;have q:n∈numsOf s c:=AZ.2 ⟨(c,n),Ad.2 ⟨H,by simp⟩,I⟩;have f:c∈a:=(B _).2 (λe=>by rw[e]at q;cases q);have M:∀b∈a,b<=c:=λb T=>by obtain⟨x,g⟩:=Cr _ ((B b).1 T);unfold numsOf at g;obtain⟨y,k,rfl⟩:=AZ.1 g;have i:=Ad.1 k;have e:y.1=b:=EU i.2;exact Dz (u y i.1)
 have z:a.getLast? = some c:=by
  have d:a≠[]:=λe=>by rw[e]at f;cases f
  rw[CJ d];have j:=Yc P f;rw[Cq,CJ d]at j;have R:=M _ (List.getLast_mem d);have:a.getLast d=c:=by simp at j;omega
  rw[this]
 obtain⟨w,N⟩:∃w,a=w++[c]:=by
  have d:a≠[]:=λe=>by rw[e]at f;cases f
  refine⟨a.dropLast,?_⟩;rw[CJ d]at z;have:=(List.dropLast_concat_getLast d).A;rw[Cs z]at this;exact this
 obtain⟨o,D,C,r⟩:=Q c f;have v:∀y∈o,y<=n:=λy k=>by have:=D.mem_iff.1 k;unfold numsOf at this;obtain⟨x,g,rfl⟩:=AZ.1 this;have i:=Ad.1 g;have e:x.1=c:=EU i.2;exact Dz (u x i.1)
 rw[yz C (λy k=>by exact Dz (v y k))]at r;simp only[List.drop_zero,DO,Br]at r;have p:=D.mem_iff.2 q;have l:o≠[]:=λe=>by rw[e]at p;cases p
 have G:o.getLast? = some n:=by
  rw[CJ l];have j:=Yc C p;rw[Cq,CJ l]at j;have R:=v _ (List.getLast_mem l);have:o.getLast l=n:=by simp at j;omega
  rw[this]
 rw[N,List.flatMap_append];simp only[List.flatMap_cons,List.flatMap_nil,Br];rw[r];unfold Gp;rw[List.getLast?_append,List.getLast?_map,G];rfl
end Y
section
open Go.RowKit Go.Nt
theorem mN(b:Nat)(l:List It)(w:Z)(d:EH w b l):Calls prog 146 #[.e b] w λe w'=>e=.a (.e w.heap.size)/\EH w' w.heap.size l/\Below w.heap.size w w':=by obtain⟨D,g,f⟩:=d;refine(AnyW.maps_Clone_owns Sr 9 JA b _ D w g).l ?_;rintro e w' ⟨rfl,a,_,c⟩;exact⟨I,⟨D,a,f⟩,c⟩
theorem nF(x y:Nd):(if x.d==y.d then if(X x.data).toList==(X y.data).toList then if x.a==y.a then x.b==y.b else false else false else false)=decide (x=y):=by rw[Of];obtain⟨a,b,c,d⟩:=x;obtain⟨e,f,g,h⟩:=y;simp only[Nd.mk.injEq];by_cases i:a=e<;>by_cases j:b=f<;>by_cases k:c=g<;>by_cases l:d=h<;>simp[i,j,k,l]
theorem wH(a:BinOp)(x y:Operand)(b c:Array Value)(w:Z):(eqGuard a 117 x y (.agg b) (.agg c)).run prog w=.ok () w:=run_eqGuard_agg w a 117 x y b c EG
theorem wZ(x y:Nd)(w:Z):(Op.equalIn 10000 117 (Gm x) (Gm y)).run prog w=.ok (decide (x=y)) w:=by unfold Gm;rw[run_equalIn_agg w 9999 117 _ _ EG EG];rw[show prog.fieldsOf 117=_ from by unfold Program.fieldsOf;rw[underlying117]];rw[<-nF];simp[Op.eqFields,part,go_sem,underlying9,underlying4,underlying3];by_cases a:x.d=y.d<;>by_cases b:(X x.data).toList=(X y.data).toList<;>by_cases c:x.a=y.a<;>by_cases d:x.b=y.b<;>simp[a,b,c,d]
theorem ub(x y:Nd)(w:Z):(binOp .neq 117 (Gm x) (Gm y)).run prog w=.ok (.bool (!decide (x=y))) w:=by have h:=wZ x y w;unfold Gm at *;rw[run_neq_struct,h];rfl
theorem iy:∀{l m:List It},(l.map (·.c)).Nodup->(∀x∈l,x∈m)->m.length<=l.length->∀x∈m,x∈l
 | [],m,_,_,c,x,b=>by
   have:m=[]:=BP.1 (EU c)
   rw[this]at b;exact b
 | a::l,m,hn,hs,c,x,b=>by
   rw[BS,Ct]at hn;have h:=hs a EJ;by_cases e:x=a
   .simp[e]
   have d:=List.length_erase_of_mem h
   have:=iy (m:=m.erase a) hn.2 (λy f=>(List.mem_erase_of_ne (λg=>hn.1 (AZ.2 ⟨y,f,by rw[g]⟩))).2 (hs y (by simp[f]))) (by simp at c;omega) x ((List.mem_erase_of_ne e).2 b)
   simp[this]
theorem oI{l m:List It}(d:(l.map (·.c)).Nodup)(i:(m.map (·.c)).Nodup)(g:l.length=m.length)(h:∀x∈l,at? m x.c=some x):∀p,at? l p=at? m p:=by
 have c:∀x∈l,x∈m:=λx b=>(Ji (h x b)).1;have e:=iy d c U;intro p;cases a:at? m p with
 |none=>rw[GN]at a |-;exact λx b=>a x (c x b)
 |some y=>obtain⟨f,rfl⟩:=Ji a;exact at_mem d (e y f)
def pd(l m:List It)(w:Z)(e:Ending)(w':Z):Prop:=Below w.heap.size w w'/\∃r,e=.a (.bool r)/\(r=true->∀p,at? l p=at? m p)
theorem nX(c B:Nat)(l m:List It)(w:Z)(j:EH w c l)(b:EH w B m)(p:(l.map (·.c)).Nodup)(n:(m.map (·.c)).Nodup)(s:l.length<=1000)(s:∀x∈l,x.c.length<=1048576):Calls prog 148 #[.e c,.e B] w λe w'=>pd l m w e w':=by
 have a:=j.len p 3;have a:=b.len n 3;have d:=j.lt;have an:=b.lt;have T:=J s;have K:=J p;have d:=J n;have aU:=J b;obtain⟨D,ho,hh⟩:=j;have H:=J hh;have L:=J ho;by_cases Q:l.length=m.length
 .have d:=J (oI p n Q);rw[<-Q]at a;clear p n s ho hh b Q;go_enter func148,ntmps148;go_wp2_with (first|(at_range;refine DV _ I _ 77 I 9 117 Jr underlying77 _ c _ D I L.o ?_;intro f a k A)|go_in);go_frame;have C:Hid (Below w.heap.size w f):=J ((AP _ w).C k (AB _) (λq s=>by cases s));have N:=J a;clear a k L;obtain⟨r,a⟩:=E w.heap.size;rw[<-a]at N A |-;have P:w.heap.size<=r:=U;clear A a;go_loopw [5] (λ_ F=>∃(left:Lit->Bool) (cnt:Nat),F.ranges prog 9 JA c r (Maps.size D) D left cnt/\Hid (∀x∈l,left (.string x.c)=false->at? m x.c=some x)/\Hid (Below w.heap.size w F))
   (λ_ F=>F.rangeLeft c r)
  case atStart=>exact⟨_,_,N.o,J (λx a g=>by rw[(H.o x.c).1,at_mem K.o a]at g;cases g),C⟩
  obtain⟨left,cnt,S,Q,G⟩:=hrel;clear C N;have A:=G.o.size;go_wp2_with (first|(at_next;refine DH _ rfl _ rfl 9 Jr JA (λx:Bs=>.string (X x)) id (λkey i f=>by obtain⟨x,a,_⟩:=Maps.keyOf_str underlying9 f;exact⟨x,a⟩) (λv _ _=>⟨v,I⟩) c r _ _ _ _ I S ?_ ?_)|go_in)
  .intro _ C;have k:=J (d.o (λx a=>Q.o x a (C _)));go_wp2;go_ret;exact⟨G.o,true,I,λ_=>k.o⟩
  intro q c i _ _ d au f aG hv R C aO L aP u;obtain⟨i,N,rfl,_⟩:=Maps.keyOf_str underlying9 f;obtain rfl:q=i:=by cases N;rfl
  have M:Maps.has D (.string q)=true:=CG R;rw[(H.o q).1]at M;obtain⟨x,a⟩:=Bi.1 M;obtain⟨V,k⟩:=Ji a;have t:q.length<=maxLen:=by have:=T.o x V;rw[k]at this;unfold maxLen;omega
  have aS:c=Gm (nd x):=by have e1:=(H.o q).2 x a (.lit (.bool false));rw[R]at e1;subst e1;exact VS hv
  have i:Hid (Below w.heap.size w d):=J (G.o.C L A (λ_ e=>by cases e;exact P));have T:EH d B m:=aU.o.f (i.o) an;have c:wr.heap.size<=d.heap.size:=U;have P:=i.o.size;have c:=J C;have G:=J S;have H:=J V;have F:=J k;have A:EH (d.alloc (.cells #[.bool x.d,.string (X x.data),.a x.a,.a x.b] 117)) B m:=T.y (AO _ _ _ T.lt);subst aS;unfold Gm nd at u |-;simp only at u |-;have B:=J u;clear R hv f aG L aP C S M a V k N T;cases k:at? m q with
  |none=>have f:=(A.c t k).1;unfold Gm at f;clear A k;go_wp2;go_ret;exact⟨(i.o.alloc P _).alloc EL _,false,I,λh=>by cases h⟩
  |some y=>
   have f:=(A.b t k).1;have t:=λW=>ub (nd x) (nd y) W;have a:=wH .neq;unfold Gm nd at f t;simp only at f t;obtain⟨_,M⟩:=E (X y.data);obtain⟨_,C⟩:=E (X x.data);rw[<-M,<-C]at t;rw[<-M,<-C]at f;rw[<-C]at u |-;obtain⟨o,a⟩:=E (decide (nd x=nd y));have L:=a;unfold nd at L;rw[<-L]at t;have V:=J a;have N:=J k;clear A k M C a L;cases o with
   |false=>go_wp2;go_ret;exact⟨(i.o.alloc P _).alloc EL _,false,I,λh=>by cases h⟩
   |true=>
    go_wp2;go_roundw
    case rel=>
     refine⟨_,au,(c.o.kept (BF d _ none) EJ EJ).kept (BF _ _ none) EJ EJ,J (λz a g=>?_),J ((i.o.alloc P _).alloc EL _)⟩;by_cases e:z.c=q
     .have L:nd x=nd y:=by have:=V.o;simpa using this.A
      have j:=at_mem K.o a;have b:=at_mem K.o H.o;rw[F.o,<-e,j]at b;have M:z=x:=by cases b;rfl
      obtain⟨_,R⟩:=Ji N.o;have A:y=x:=by have e1:=lL y;have e2:=lL x;rw[R,<-L]at e1;rw[F.o]at e2;exact e1.A.i e2
      rw[e,N.o,M,A]
     refine Q.o z a ?_;have S:Lit.sameKey (.string z.c) (.string q)=false:=DL (λh=>e (by cases h;rfl));rw[S]at g;simpa using g
    case measure=>rw[((c.o.kept (BF d _ none) EJ EJ).kept (BF _ _ none) EJ EJ).left_eq,G.o.left_eq];exact aO
 clear p n s ho hh b;have b:((l.length:Int) != (m.length:Int))=true:=Di.2 U;go_enter func148,ntmps148;go_wp2;go_ret;exact⟨AP _ _,false,I,λh=>by cases h⟩
theorem qJ(a b c f:Nat)(g:Option Nat)(d:Int)(x:Value)(w:Z)(l:w.cell? (O b 0)=some (.a d))(m:w.cell? (O c 0)=some (.map g))(k:w.cell? (O a 0)=some (.c f))(n:w.cell? (O f 2)=some x)(o:w.frozen? (O f 2)=false)(h:d≠0):CallsD prog 147 #[.c b,.c c,.c a] .returning w λe i w'=>i=.returning/\(e=.a (.tuple #[])/\w'=w.setCell (O f 2) (.map g)):=by have j:(d != 0)=true:=EU h;go_enter_d func147,ntmps147;go_wp2;go_end0;exact⟨I,I⟩
theorem qk(a b c:Nat)(w:Z)(f:w.cell? (O b 0)=some (.a 0)):CallsD prog 147 #[.c b,.c c,.c a] .returning w λe d w'=>d=.returning/\(e=.a (.tuple #[])/\w'=w):=by go_enter_d func147,ntmps147;go_wp2;go_end0;exact⟨I,I⟩
end
section
open Go.RowKit Go.Nt
structure II (w:Z) (fb tb lo hi cb lb:Nat) (L:Y.Loc) (lv:Y.Lv) (kv qv:Option Nat) (nk nq:Nat) (m:Y.M) (K Q:Nat->Bool) (b p:Nat) (l:List It):Prop where
 o:IV w fb cb lb tb
 j:EH w tb l
 h:Y.FA w lo hi cb lb L lv kv qv nk nq m K Q b p
 nf:¬Y.FY lo hi lb kv qv fb
 r:¬Y.FY lo hi lb kv qv tb
 ne:fb≠tb
 tk:∀g,lv.tk=some g->¬Y.FY lo hi lb kv qv g/\g≠fb/\g≠tb/\∃n S,Y.GB w g n S/\n<=100000/\∀x,KF (S x)
def Lm(fb tb lo hi lb:Nat)(kv qv:Option Nat)(k:Nat):Prop:=Y.FY lo hi lb kv qv k\/k=fb\/k=tb
theorem IV.p0{w:Z}{a b lb c:Nat}(h:IV w a b lb c):w.cell? (O a 0)=some (.c b):=by rw[AU w a 0 _ 79 (0,0) h];rfl
theorem IV.p1{w:Z}{a b lb c:Nat}(h:IV w a b lb c):w.cell? (O a 1)=some (.c lb):=by rw[AU w a 1 _ 79 (0,0) h];rfl
theorem IV.d{w:Z}{a b lb c:Nat}(h:IV w a b lb c)(k:Nat):w.frozen? (O a k)=false:=CE w a k _ 79 h
theorem IV.set{w:Z}{a b lb d:Nat}(h:IV w a b lb d)(c:Nat):IV (w.setCell (O a 2) (.e c)) a b lb c:=AJ w a 2 _ 79 (.e c) h
theorem II.a{w w':Z}{a c i d o lb:Nat}{L:Y.Loc}{lv:Y.Lv}{f j:Option Nat}{s nq:Nat}{m:Y.M}{K Q:Nat->Bool}{b p:Nat}{l:List It}(h:II w a c i d o lb L lv f j s nq m K Q b p l)(B:w.heap.size<=w'.heap.size)(e:∀k,Lm a c i d lb f j k\/lv.tk=some k->k<w.heap.size->w'.heap[k]?=w.heap[k]?):II w' a c i d o lb L lv f j s nq m K Q b p l:=
 ⟨(e a (.w (.s (.w I))) (lt_of_heap h.o)).i h.o,h.j.y (e c (.w (.s (.s I))) h.j.lt),h.h.a (AG h.h.sz B) (λk z A=>e k (.w (.w z)) A),h.nf,h.r,h.ne,λg r=>by obtain⟨t,u,v,n,S,q,x,y⟩:=h.tk g r;exact⟨t,u,v,n,S,q.y (e g (.s r) q.lt),x,y⟩⟩
theorem II.f{w w':Z}{c n g e a lb:Nat}{L:Y.Loc}{lv:Y.Lv}{f j:Option Nat}{i nq:Nat}{m:Y.M}{K Q:Nat->Bool}{b p:Nat}{l:List It}(h:II w c n g e a lb L lv f j i nq m K Q b p l)(d:Below w.heap.size w w'):II w' c n g e a lb L lv f j i nq m K Q b p l:=
 h.a d.size λk _ o=>d.u k o
def Vd(w:Z)(lv:Y.Lv)(m:Y.M)(S:Nat->Nat->Bool):Prop:=(lv.tk=none->S=Fc (FD (Y.Gn m) m.d m.a))/\∀g,lv.tk=some g->∃n,Y.GB w g n S/\n<=100000
def Np(u:Bs->Option Bs)(w:Z)(fb tb lo hi cb lb:Nat)(L:Y.Loc)(lv:Y.Lv)(kv qv:Option Nat)(nk nq:Nat)(m:Y.M)(K Q:Nat->Bool)(b p:Nat)(l l':List It)(z0E:Int)(e:Ending)(w':Z):Prop:=
 Y.Fm (Lm fb tb lo hi lb kv qv) w w' /\
 ((∃x c,(z0E≠0/\x=z0E\/z0E=0/\m.b=0/\x=10\/z0E=0/\m.b≠0/\∃t,Fu u (Eg l') t/\Y.F3 m t.length≠0/\x=Y.F3 m t.length)/\e=.a (.a x)/\w.heap.size<=c/\II w' fb c lo hi cb lb L lv kv qv nk nq m K Q b p l) \/
 (z0E=0/\m.b≠0/\(∀q,at? l' q=at? l q)/\e=.a (.a 0)/\II w' fb tb lo hi cb lb L lv kv qv nk nq m K Q b p l') \/
 (z0E=0/\m.b≠0/\∃t S,Fu u (Eg l') t/\Y.F3 m t.length=0/\Vd w lv m S/\(∀x,KF (S x)) /\
   ((∃ib nk' g,(Y.IF m lv S K Q b p t).left=[]/\e=.a (.a 0)/\w.heap.size<=ib/\(lv.tk=some g\/w.heap.size<=g)/\(∃nt,Y.GB w' g nt S/\nt<=100000)/\II w' fb tb lo hi cb lb L ⟨Y.ER m,Y.Gr m lv S,some g⟩ (some ib) qv nk' nq (Y.IF m lv S K Q b p t).m (Y.IF m lv S K Q b p t).S (Y.IF m lv S K Q b p t).Q (Y.IF m lv S K Q b p t).b (Y.IF m lv S K Q b p t).p l') \/
   (∃c,(Y.IF m lv S K Q b p t).left≠[]/\e=.a (.a (if(Y.IF m lv S K Q b p t).m.b=0 then 10 else 9))/\w.heap.size<=c/\II w' fb c lo hi cb lb L ⟨lv.a,lv.b,none⟩ kv qv nk nq (Y.IF m lv S K Q b p t).m K (Y.IF m lv S K Q b p t).Q b m.d l))))
theorem II.back{w:Z}{a t0 c i d o lb:Nat}{L:Y.Loc}{lv:Y.Lv}{f j:Option Nat}{u nq:Nat}{m:Y.M}{K Q:Nat->Bool}{b p:Nat}{l:List It}(D:IV w a o lb t0)(C:EH w c l)(s:Y.FA w i d o lb L lv f j u nq m K Q b p)(nf:¬Y.FY i d lb f j a)(G:¬Y.FY i d lb f j c)(t:a≠c)(tk:∀g,lv.tk=some g->¬Y.FY i d lb f j g/\g≠a/\g≠c/\∃n S,Y.GB w g n S/\n<=100000/\∀x,KF (S x)):II (w.setCell (O a 2) (.e c)) a c i d o lb L lv f j u nq m K Q b p l:=by have e:∀k,k≠a->(w.c a 2 (.e c)).e w k:=λk q=>AH w ⟨a,2,none⟩ _ k q;refine⟨D.set c,C.y (e c λh=>t h.A),s.a (by have:=s.sz;simpa using this) (λk q _=>e k λh=>nf (by rw[<-h];exact q)),nf,G,t,λg F=>?_⟩;obtain⟨v,r,y,n,S,z,A,B⟩:=tk g F;exact⟨v,r,y,n,S,z.y (e g r),A,B⟩
theorem nQ(tmps:Array Value)(R:Ending->Z->Prop)(z D a:Nat)(c:Option Nat)(x:Int)(y:Value)(V:Z)(d:tmps[4]?=some (.c (z+1)))(b:V.cell? (O (z+1) 0)=some (.a x))(j:V.cell? (O D 0)=some (.map c))(i:V.cell? (O z 0)=some (.c a))(m:V.cell? (O a 2)=some y)(n:V.frozen? (O a 2)=false)(l:x≠0)(k:a≠z+1)(g:R (.a (.a x)) (V.setCell (O a 2) (.map c))):bodyPostD prog f89 R Exit.ret {tmps:=tmps,defers:=[{target:=.fn (.func 147) #[.c (z+1),.c D,.c z],args:=#[]}]} V:=by
 refine leaves_cons (f:=147) (args:=#[.c (z+1),.c D,.c z]) EJ (by simp[go_sem]) ?_;refine(qJ z (z+1) D a c x y V b j i m n l).mono ?_;rintro e _ _ ⟨rfl,rfl,rfl⟩;have f:(V.setCell (O a 2) (.map c)).cell? (O (z+1) 0)=some (.a x):=by
  rw[World.cell?_setCell_other]
  .exact b
  intro h;cases h
 simp[Leaves,settle,results,results89,go_sem,d,f];exact g
theorem iE(tmps:Array Value)(R:Ending->Z->Prop)(z D:Nat)(V:Z)(b:tmps[4]?=some (.c (z+1)))(a:V.cell? (O (z+1) 0)=some (.a 0))(c:R (.a (.a 0)) V):bodyPostD prog f89 R Exit.ret {tmps:=tmps,defers:=[{target:=.fn (.func 147) #[.c (z+1),.c D,.c z],args:=#[]}]} V:=by refine leaves_cons (f:=147) (args:=#[.c (z+1),.c D,.c z]) EJ (by simp[go_sem]) ?_;refine(qk z (z+1) D V a).mono ?_;rintro e _ _ ⟨rfl,rfl,rfl⟩;simp[Leaves,settle,results,results89,go_sem,b,a];exact c
structure Mid (V:Z) (z D fb tb c lo hi cb lb:Nat) (L:Y.Loc) (lv:Y.Lv) (kv qv:Option Nat) (nk nq:Nat) (m:Y.M) (K Q:Nat->Bool) (b p:Nat) (l l':List It) (x:Int):Prop where
 a:V.heap[z]?=some (.cells #[.c fb] 30 (0,0))
 d:V.heap[D]?=some (.cells #[.e c] 77 (0,0))
 e:V.heap[z+1]?=some (.cells #[.a x] 35 (0,0))
 o:IV V fb cb lb tb
 t:EH V c l
 j:EH V tb l'
 h:Y.FA V lo hi cb lb L lv kv qv nk nq m K Q b p
 tk:∀g,lv.tk=some g->¬Y.FY lo hi lb kv qv g/\g≠fb/\g≠tb/\g<z/\∃n S,Y.GB V g n S/\n<=100000/\∀x,KF (S x)
 nf:¬Y.FY lo hi lb kv qv fb
 r:¬Y.FY lo hi lb kv qv tb
 q:∀k,z<=k->¬Y.FY lo hi lb kv qv k
 ne:fb≠tb
 zs:fb<z/\tb<z/\z+2<=c/\c<D
namespace Mid
variable {V V':Z} {z D fb tb c lo hi cb lb:Nat} {L:Y.Loc} {lv:Y.Lv} {kv qv:Option Nat} {nk nq:Nat} {m:Y.M} {K Q:Nat->Bool} {b p:Nat} {l l':List It} {x:Int}
theorem f(h:Mid V z D fb tb c lo hi cb lb L lv kv qv nk nq m K Q b p l l' x)(a:Below V.heap.size V V'):Mid V' z D fb tb c lo hi cb lb L lv kv qv nk nq m K Q b p l l' x:=
 ⟨(a.u _ (lt_of_heap h.a)).i h.a,(a.u _ (lt_of_heap h.d)).i h.d,(a.u _ (lt_of_heap h.e)).i h.e,(a.u _ (lt_of_heap h.o)).i h.o,h.t.f a h.t.lt,h.j.f a h.j.lt,h.h.new a,λg q=>by obtain⟨e,i,j,k,n,S,d,o⟩:=h.tk g q;exact⟨e,i,j,k,n,S,d.y (a.u g d.lt),o⟩,h.nf,h.r,h.q,h.ne,h.zs⟩
theorem drew(h:Mid V z D fb tb c lo hi cb lb L lv kv qv nk nq m K Q b p l l' x):Mid V.drew z D fb tb c lo hi cb lb L lv kv qv nk nq m K Q b p l l' x:=h.f ((AP _ V).drew)
theorem set(h:Mid V z D fb tb c lo hi cb lb L lv kv qv nk nq m K Q b p l l' x)(y:Int):Mid (V.setCell (O (z+1) 0) (.a y)) z D fb tb c lo hi cb lb L lv kv qv nk nq m K Q b p l l' y:=by have e:∀k,k≠z+1->(V.c (z+1) 0 (.a y)).e V k:=λk a=>AH V ⟨z+1,0,none⟩ _ k a;have t:=h.zs;refine⟨(e _ U).i h.a,(e _ U).i h.d,AJ V (z+1) 0 _ 35 (.a y) h.e,(e _ U).i h.o,h.t.y (e _ U),h.j.y (e _ U),h.h.a (by have:=h.h.sz;simpa using this) (λk a _=>e k λd=>h.q (z+1) U (by rw[<-d];exact a)),λg s=>?_,h.nf,h.r,h.q,h.ne,h.zs⟩;obtain⟨f,i,j,o,n,S,q,r⟩:=h.tk g s;exact⟨f,i,j,o,n,S,q.y (e g U),r⟩
theorem a0(h:Mid V z D fb tb c lo hi cb lb L lv kv qv nk nq m K Q b p l l' x):V.cell? (O z 0)=some (.c fb):=by rw[AU V z 0 _ 30 (0,0) h.a];rfl
theorem d0(h:Mid V z D fb tb c lo hi cb lb L lv kv qv nk nq m K Q b p l l' x):V.cell? (O D 0)=some (.e c):=by rw[AU V D 0 _ 77 (0,0) h.d];rfl
theorem e0(h:Mid V z D fb tb c lo hi cb lb L lv kv qv nk nq m K Q b p l l' x):V.cell? (O (z+1) 0)=some (.a x):=by rw[AU V (z+1) 0 _ 35 (0,0) h.e];rfl
theorem ef(h:Mid V z D fb tb c lo hi cb lb L lv kv qv nk nq m K Q b p l l' x):V.frozen? (O (z+1) 0)=false:=CE V (z+1) 0 _ 35 h.e
theorem g(h:Mid V z D fb tb c lo hi cb lb L lv kv qv nk nq m K Q b p l l' x):II V fb tb lo hi cb lb L lv kv qv nk nq m K Q b p l':=
 ⟨h.o,h.j,h.h,h.nf,h.r,h.ne,λg j=>by obtain⟨a,d,e,_,n,S,f,i⟩:=h.tk g j;exact⟨a,d,e,n,S,f,i⟩⟩
theorem door{R:Ending->Z->Prop}(h:Mid V z D fb tb c lo hi cb lb L lv kv qv nk nq m K Q b p l l' x)(tmps:Array Value)(a:tmps[4]?=some (.c (z+1)))(o:x≠0)(j:II (V.setCell (O fb 2) (.e c)) fb c lo hi cb lb L lv kv qv nk nq m K Q b p l->R (.a (.a x)) (V.setCell (O fb 2) (.e c))):bodyPostD prog f89 R Exit.ret {tmps:=tmps,defers:=[{target:=.fn (.func 147) #[.c (z+1),.c D,.c z],args:=#[]}]} V:=by have q:=h.zs;refine nQ tmps R z D fb (some c) x _ V a h.e0 h.d0 h.a0 h.o.c2 (h.o.d 2) o U (j (II.back h.o h.t h.h h.nf (h.q c U) U λg k=>?_));obtain⟨d,e,_,a,n,S,f,i⟩:=h.tk g k;exact⟨d,e,by omega,n,S,f,i⟩
end Mid
theorem zE{w:Z}{g c j lb:Nat}{L:Y.Loc}{v0:Y.Lv}{f i:Option Nat}{o nq:Nat}{m:Y.M}{K Q:Nat->Bool}{b p:Nat}{S:Nat->Nat->Bool}{t:Du}{e:Ending}{w':Z}(h:Y.ND w g c j lb L v0 f i o nq m K Q b p S t e w'):(∃x:Int,e=.a (.a x))/\Y.Fm (Y.FY g c lb f i) w w':=by
 obtain⟨k,l,n⟩:=h;by_cases a:Y.F3 m t.length=0
 .by_cases d:(Y.IF m v0 S K Q b p t).left=[]
  .obtain⟨_,_,_,_,rfl,_,_,_,_,hF,_⟩:=l a d;exact⟨⟨_,I⟩,hF⟩
  obtain⟨rfl,_,hF⟩:=n a d;exact⟨⟨_,I⟩,hF⟩
 obtain⟨rfl,rfl⟩:=k a;exact⟨⟨_,I⟩,Y.Fm.refl _ _⟩
theorem kC{m:Y.M}(a:Y.WF m)(x:Nat):KF (Fc (FD (Y.Gn m) m.d m.a) x):=YU (by have b:=KB (Y.Gn m) m.d m.a;have c:m.a*m.d<=32*16:=Co a.a a.b;omega) x
theorem Mid.TI{V n:Z}{z D t A c j f o lb:Nat}{L:Y.Loc}{lv:Y.Lv}{i k:Option Nat}{C nq:Nat}{m:Y.M}{K Q:Nat->Bool}{b p:Nat}{l v:List It}{x:Int}(h:Mid V z D t A c j f o lb L lv i k C nq m K Q b p l v x)(hF:Y.Fm (Y.FY j f lb i k) V n){a:Y.Lv}{d e:Nat}{w:Y.M}{r s:Nat->Bool}{b' y:Nat}(B:Y.FA n j f o lb L a i k d e w r s b' y)(q:a.tk=none):Mid n z D t A c j f o lb L a i k d e w r s b' y l v x:=by have F:=h.zs;exact⟨(hF.u _ (lt_of_heap h.a) (h.q _ (AB _))).i h.a,(hF.u _ (lt_of_heap h.d) (h.q _ U)).i h.d,(hF.u _ (lt_of_heap h.e) (h.q _ U)).i h.e,(hF.u _ (lt_of_heap h.o) h.nf).i h.o,h.t.y (hF.u _ h.t.lt (h.q _ U)),h.j.y (hF.u _ h.j.lt h.r),B,λg u=>(by rw[q]at u;cases u),h.nf,h.r,h.q,h.ne,h.zs⟩
theorem rM{u:Bs->Option Bs}(hP:Ge u)(G:Nat)(cap:Array Value)(w:Z)(c d q o cb lb:Nat)(L:Y.Loc)(lv:Y.Lv)(v s:Option Nat)(nk nq:Nat)(m:Y.M)(K Q:Nat->Bool)(b p:Nat)(l P:List It)(i:Int) (h:II w c d q o cb lb L lv v s nk nq m K Q b p l) (ht:EX l) (j:i=0->EX P) (hml:ML w) (h0:¬Lm c d q o lb v s 0) (hb:b<1000) (hp:p<=m.d) (hin:∀args w,(callFunc G args).run prog w=.ok (.enter G args) w) (hdo:∀W,Below w.heap.size w W->Calls prog G (#[.e d]++cap) W λe w'=>F0 d l P i W e w'):Calls prog 89 #[.c c,.func (.func G) #[] cap] w λe w'=>Np u w c d q o cb lb L lv v s nk nq m K Q b p l P i e w':=by
 have cx:∀(fn:Fn) (first cap:Array Value) (w:Z),(Instr.makeFunc fn first cap).run prog w=.ok (.func fn first cap) w:=λ_ _ _ _=>rfl;have cw:=lt_of_heap h.o;have cl:=h.j.lt;obtain⟨a,ax⟩:=E w.heap.size;obtain⟨W1,aw⟩:=E ((w.alloc (.cells #[.c c] 30)).alloc (.cells #[.a 0] 35));have b8:Below w.heap.size w W1:=by rw[aw];exact((AP _ w).alloc (AB _) _).alloc EJ _
 have bn:W1.heap.size=a+2:=by rw[aw,ax];simp
 have bf:W1.heap[a]?=some (.cells #[.c c] 30 (0,0)):=by rw[aw,ax];exact(AO _ _ _ EJ).i (AR _ _)
 have bI:W1.heap[a+1]?=some (.cells #[.a 0] 35 (0,0)):=by rw[aw,ax];have:=AR (w.alloc (.cells #[.c c] 30)) (.cells #[.a 0] 35);simpa using this
 have aP:=h.f b8;have A:=J (mN d l W1 aP.j);have a0:W1.cell? (O a 0)=some (.c c):=by rw[AU W1 a 0 _ 30 (0,0) bf];rfl
 have c2:=aP.o.c2;have bu:=J aP;have bB:=J bf;have bL:=J bI;have b6:=J b8;have bh:=J aw;have ae:=J ax;have bF:=J hdo;have bR:=J hin;have aL:=J bn;have H:=J h;have br:=J hml;clear aP bf bI b8 aw hdo h hml hin bn ax;go_enter_defers func89,ntmps89;go_wp2_with rw[<-bh.o,<-ae.o];refine A.o.l ?_;rintro e W2 ⟨rfl,ay,am⟩;obtain⟨C,hC⟩:=E W1.heap.size;rw[<-hC]at ay |-;have bK:=bu.o.f am;have bs:=(am.u a (Dz aL.o)).i bB.o;have bJ:=(am.u (a+1) (Dz aL.o)).i bL.o;obtain⟨D,hD⟩:=E W2.heap.size;obtain⟨F,aH⟩:=E (W2.alloc (.cells #[.e C] 77));have au:Below W2.heap.size W2 F:=by rw[aH];exact(AP _ W2).alloc (AB _) _
 have cs:a+2<=D:=by rw[hD];have:=am.size;exact Dz aL.o
 have aO:F.heap.size=D+1:=by rw[aH,hD];simp
 have b7:=bK.f au;have b9:F.heap[a]?=_:=(au.u a U).i bs;have bq:F.heap[a+1]?=_:=(au.u (a+1) U).i bJ;have bi:F.heap[D]?=some (.cells #[.e C] 77 (0,0)):=by rw[aH,hD];exact AR _ _
 have bH:EH F C l:=ay.f au (Dz ay.lt);have ao:Below w.heap.size w F:=(b6.o.i (am.l b6.o.size)).i (au.l (by have:=b6.o.size;exact Dz am.size));have cv:a+2<=C/\C<D:=⟨by rw[hC];have:=aL.o;omega,by rw[hD];exact ay.lt⟩;have a0:F.cell? (O a 0)=some (.c c):=by rw[AU F a 0 _ 30 (0,0) b9];rfl
 have c2:=b7.o.c2;have bM:=J aH;have HD:=J hD;have aI:=J b7;have bx:=J b9;have aN:=J bq;have bE:=J bi;have bb:=J bH;have b0:=J ao;have ci:=J aO;have af:=bF.o F ao;have ag:=J af;clear bK bs bJ am aH hD ay hC au b7 b9 bq bi bH ao aO af bu bB bL bh A;have hin:=bR.o;go_wp2_with rw[<-bM.o,<-HD.o];refine ag.o.l ?_;rintro e W4 ⟨rfl,ad,bj⟩;have ct:a+1≠d/\a≠d/\D≠d/\C≠d/\c<a/\d<a:=Dz ae.o;obtain⟨R,aj⟩:=E (W4.setCell (O (a+1) 0) (.a i));have hK:∀k,k<F.heap.size->k≠d->k≠a+1->R.heap[k]?=F.heap[k]? := λk z h1 h2=>by rw[aj];exact(AH W4 ⟨a+1,0,none⟩ _ k h2).i (ad.u k z h1)
 have aD:F.heap.size<=R.heap.size:=by rw[aj];have:=ad.size;simpa using this
 have b4:∀k,Y.FY q o lb v s k->k<a/\k≠d:=λk z=>⟨by rw[ae.o];exact Y.Iz H.o.h z,λe=>H.o.r (by rw[<-e];exact z)⟩;have aO:=ci.o;have av:Mid R a D c d C q o cb lb L lv v s nk nq m K Q b p l (if i=0 then P else l) i:=by
  refine⟨(hK a U U U).i bx.o,(hK D U U U).i bE.o,?_,(hK c U H.o.ne U).i aI.o.o,bb.o.y (hK C bb.o.lt U U),bj.y (by rw[aj];exact AH W4 ⟨a+1,0,none⟩ _ d (show d≠a+1 by omega)),aI.o.h.a (AG aI.o.h.sz aD) (λk z _=>by have:=b4 k z;exact hK k U this.2 U),λg hg=>?_,H.o.nf,H.o.r,λk z h=>by have:=b4 k h;omega,H.o.ne,by omega⟩
  .rw[aj];exact AJ W4 (a+1) 0 _ 35 (.a i) ((ad.u (a+1) U U).i aN.o)
  obtain⟨h1,h2,h3,n,S,h4,h5,h6⟩:=H.o.tk g hg;obtain⟨_,_,_,n',S',ca,cg,c8⟩:=aI.o.tk g hg;have be:g<a:=by rw[ae.o];exact h4.lt
  exact⟨h1,h2,h3,be,n',S',ca.y (hK g U h3 U),cg,c8⟩
 have bm:Y.Fm (Lm c d q o lb v s) w R:=by have h1:Y.Fm (Lm c d q o lb v s) F W4:=⟨ad.os,ad.tape,ad.output,ad.size,λk z hn=>ad.u k z λe=>hn (.s (.s e))⟩;rw[aj];exact((Y.Fm.d b0.o).i h1).set (λbe=>by exact Dz ae.o) 0 _
 have HX:Hid (∀V y,Y.Fm (Lm c d q o lb v s) w V->Y.Fm (Lm c d q o lb v s) w (V.setCell (O (a+1) 0) (.a y))):=J λV y hV=>hV.set (λbe=>by exact Dz ae.o) 0 _;have HY:Hid (∀V y,Y.Fm (Lm c d q o lb v s) w V->Y.Fm (Lm c d q o lb v s) w (V.setCell (O c 2) y)):=J λV y hV=>hV.set (λ_=>.s (.w I)) 2 _;have e0:W4.cell? (O (a+1) 0)=some (.a 0):=by rw[AU W4 (a+1) 0 _ 35 (0,0) ((ad.u (a+1) U U).i aN.o)];rfl
 have f0:W4.frozen? (O (a+1) 0)=false:=CE W4 (a+1) 0 _ 35 ((ad.u (a+1) U U).i aN.o);have e5:=av.e0;have f5:=av.ef;have a5:=av.a0;have d5:=av.d0;have aU:=J aj;have aa:=J av;have aT:=J bm;have aM:Hid (w.heap.size<=C):=J (Dz ae.o);have bW:=J ht;have aV:=J j;clear ad bj aj hK aD bm b4 aO av aI bx aN bE bb ag bF a0 c2 ht j;by_cases hE:i=0
 .subst hE;rw[AD I]at aa;have A:=J (Y.Er R q o cb L m aa.o.h.j);have p0:=aa.o.o.p0;have p1:=aa.o.o.p1;have p2:=aa.o.o.c2;have j:=aV.o I;have ht:=bW.o;by_cases az:m.b=0
  .have aW:(m.b==0)=true:=by simp[az]
   rw[aW]at A;go_wp2_with (first|(rw[<-aU.o])|(go_at_call 25;refine Jj A.o ?_)|fail);exact(aa.o.set 10).door _ rfl EB λhM=>⟨HY.o _ _ (HX.o _ _ aT.o),.w ⟨10,C,.s (.w ⟨I,az,I⟩),I,aM.o,hM⟩⟩
  have aW:(m.b==0)=false:=by simp[az]
  rw[aW]at A;have aB:ML R:=by obtain⟨x,hx⟩:=br.o;exact⟨x,by rw[AK (aT.o.u 0 br.o.lt h0)];exact hx⟩
  have B:=J (nX d C P l R.drew aa.o.drew.j aa.o.drew.t j.nodup ht.nodup (Dz j.len) (λx hx=>by exact Dz ((NR (j.ok x hx)).p)));have ah:=J aB;have aE:=J az;have ce:R.drew.cell? (O a 0)=some (.c c):=a5;have bQ:R.drew.cell? (O c 2)=some (.e d):=p2;have bP:R.drew.cell? (O D 0)=some (.e C):=d5;clear aB az;go_wp2_with (first|(rw[<-aU.o])|(go_at_call 25;refine Jj A.o ?_)|fail);go_region_held3 (λV=>V.cell? (O a 0)=some (.c c)/\V.cell? (O c 2)=some (.e d)/\V.cell? (O D 0)=some (.e C)) (go_keep) (first
   | (go_at_call 148;refine B.o.l ?_;rintro e T ⟨aS,r,rfl,hr⟩;have N:=J (aa.o.drew.f aS);have a6:=N.o.a0;have p6:=N.o.o.c2;have d6:=N.o.d0;have aX:=J (aT.o.drew.i (Y.Fm.d aS));have aK:Hid (ML T):=J ((ah.o.f (AP _ R).drew ah.o.lt).f aS ah.o.lt);have Hr:=J hr;clear aS hr))
  rename_i hHeld;clear hHeld ce bQ bP a5 p2 d5 A B p0 p1 e5 f5;have e6:=N.o.e0;have f6:=N.o.ef;cases r with
  |true=>go_wp2_with fail;exact iE _ _ a D _ I (N.o.set 0).e0 ⟨HX.o _ _ aX.o,.s (.w ⟨I,aE.o,Hr.o trivial,I,(N.o.set 0).g⟩)⟩
  |false=>
   obtain⟨S,bC,aZ,bA⟩:∃S,Vd w lv m S/\(∀x,KF (S x))/\∀V,Below T.drew.heap.size T.drew V->Y.FA V q o cb lb L lv v s nk nq m K Q b p->Calls prog 127 #[.c lb] V λe w'=>Y.JM V q o cb lb L lv v s nk nq m K Q b p S e w':=by
    cases hg:lv.tk with
    |none=>exact⟨_,⟨λ_=>rfl,λg ar=>by rw[hg]at ar;cases ar⟩,kC N.o.h.wf,λV _ hL=>Y.Kz.2 V q o cb lb L lv v s nk nq m K Q b p _ I hL hg aE.o (kC N.o.h.wf _)⟩
    |some g=>
     obtain⟨h1,h2,h3,h4,n,S,h5,h6,h7⟩:=N.o.drew.tk g hg;have c9:w.heap[g]?=T.drew.heap[g]? := (aX.o.u g (Dz ae.o) (λhS=>by
      rcases hS with h|h|h
      .exact h1 h
      .exact h2 h
      exact h3 h)).A
     exact⟨S,⟨(λh=>by rw[hg]at h;cases h),λg' ar=>by rw[hg]at ar;cases ar;exact⟨n,h5.y c9,h6⟩⟩,h7,λV hV hL=>Y.Kz.1 V q o cb lb L lv v s nk nq m K Q b p S g n hL hg (h5.y (hV.u g h5.lt)) h6 h1 (h7 _)⟩
   have HT:=J (kg hP d P T.drew N.o.drew.j j (aK.o.f (AP _ T).drew aK.o.lt));have bN:GF (Eg P)<=4271*60:=by have h1:GF (Eg P)=GF P:=((MQ P).map _).sum_nat;have h2:=Yk λx hx=>NR (j.ok x hx);have h3:=j.len;have h4:4271*P.length<=4271*60:=Dq _ h3;omega
   have aC:Hid (∀V t,Fu u (Eg P) t->Below T.drew.heap.size T.drew V->Calls prog 78 #[.c lb,.string (X t)] V λe w'=>Y.ND V q o cb lb L lv v s nk nq m K Q b p S t e w'):=J λV t aJ hV=>by have hL:=N.o.h.drew.new hV;exact Y.IZ V q o cb lb L lv v s nk nq m K Q b p S t hL hb hp (Dz (UZ aJ)) (Jk (aZ _) (BU _ EB)).2 (λ_=>bA V hV hL)
   have bG:=J bC;have b5:=J aZ;have p1:=N.o.o.p1;have cc:T.drew.cell? (O a 0)=some (.c c):=a6;have cj:T.drew.cell? (O c 2)=some (.e d):=p6;have bY:T.drew.cell? (O c 1)=some (.c lb):=p1;clear bC aZ bA bN d6 ht j;go_wp2_with fail;go_region_held3 (λV=>V.cell? (O a 0)=some (.c c)/\V.cell? (O c 2)=some (.e d)/\V.cell? (O c 1)=some (.c lb)) (go_keep) (first
    | (go_at_call 43;refine HT.o.l ?_;rintro e W7 ⟨t,rfl,aJ,aF⟩;have f:=J (N.o.drew.f aF);have a7:=f.o.a0;have p7:=f.o.o.c2;have q7:=f.o.o.p1;have bU:=J (aX.o.drew.i (Y.Fm.d aF));have bl:=J (aC.o W7 t aJ aF);have aY:=J aJ;have cu:=J aF.size;clear aF aJ;obtain⟨z0X,hX⟩:=E (X t);rw[<-hX]at bl |-;clear hX)
    | (go_at_call 78;refine bl.o.l ?_;rintro e M ac;obtain⟨⟨x,rfl⟩,aA⟩:=zE ac;have bS:=J ac;have aG:=J aA;have zs:=f.o.zs;have k8:=(aA.u _ (lt_of_heap f.o.a) (f.o.q _ (AB _))).i f.o.a;have k9:=(aA.u _ (lt_of_heap f.o.o) f.o.nf).i f.o.o;have bg:=(aA.u _ (lt_of_heap f.o.e) (f.o.q _ U)).i f.o.e;have a8:M.cell? (O a 0)=some (.c c):=(by rw[AU M a 0 _ 30 (0,0) k8];rfl);have p8:=IV.c2 k9;have q8:=IV.p1 k9;have e8:M.cell? (O (a+1) 0)=some (.a 0):=(by rw[AU M (a+1) 0 _ 35 (0,0) bg];rfl);have f8:M.frozen? (O (a+1) 0)=false:=CE M (a+1) 0 _ 35 bg;have p9:(M.setCell (O (a+1) 0) (.a x)).cell? (O c 2)=some (.e d):=(by rw[World.cell?_setCell_other];exact p8;intro h;cases h);have q9:(M.setCell (O (a+1) 0) (.a x)).cell? (O c 1)=some (.c lb):=(by rw[World.cell?_setCell_other];exact q8;intro h;cases h);clear ac aA k8 k9 bg))
   rename_i hHeld;clear hHeld HT aC cc cj bY a6 p6 p1;go_wp2_with fail;have b3:=HX.o M x (bU.o.i (aG.o.l λk _ z=>.w z));have cm:a+2<=W7.heap.size:=Dz f.o.t.lt;have co:=ae.o;obtain⟨h1,h2,h3⟩:=bS.o;by_cases hm:Y.F3 m t.length=0
   .by_cases hl:(Y.IF m lv S K Q b p t).left=[]
    .obtain⟨ib,cf,g,nt,hx,aR,bp,bD,bX,_,Mc,bz⟩:=h2 hm hl;have ai:x=0:=by injection hx with h;injection h
     subst ai;have bO:M.heap[a+1]?=some (.cells #[.a 0] 35 (0,0)):=(aG.o.u _ (lt_of_heap f.o.e) (f.o.q _ U)).i f.o.e;have bZ:=AJ M (a+1) 0 _ 35 (.a 0) bO;have ek:∀k,k≠a+1->(M.setCell (O (a+1) 0) (.a 0)).heap[k]?=M.heap[k]? := λk z=>AH M ⟨a+1,0,none⟩ _ k z;have an:∀k,Y.FY q o lb (some ib) s k->Y.FY q o lb v s k\/k=ib:=λk z=>by
      rcases z with h|h|h|h
      .exact .w (.w h)
      .exact .w (.s (.w h))
      .cases h;exact .s I
      exact .w (.s (.s (.s h)))
     have aQ:g≠a+1/\g≠c/\g≠d:=by
      rcases bz with h|h
      .obtain⟨_,a1,a2,a3,_⟩:=f.o.tk g h;exact⟨by omega,a1,a2⟩
      omega
     refine iE _ _ a D _ I (by rw[AU _ (a+1) 0 _ 35 (0,0) bZ];rfl) ⟨b3,.s (.s ⟨I,aE.o,t,S,aY.o,hm,bG.o,b5.o,.w ⟨ib,cf,g,hl,I,by omega,?_,⟨nt,bp.y (ek g aQ.1),bD⟩,?_⟩⟩)⟩
     .rcases bz with h|h
      .exact .w h
      exact .s U
     refine⟨(ek c U).i ((aG.o.u _ (lt_of_heap f.o.o) f.o.nf).i f.o.o),(f.o.j.y (aG.o.u _ f.o.j.lt f.o.r)).y (ek d U),aR.a (by have:=aR.sz;simpa using this) (λk z _=>ek k ?_),λh=>?_,λh=>?_,f.o.ne,λg' ar=>?_⟩
     .intro e;rcases an k z with h|h
      .exact f.o.q k U h
      omega
     .rcases an c h with h|h
      .exact f.o.nf h
      omega
     .rcases an d h with h|h
      .exact f.o.r h
      omega
     cases ar;exact⟨bX,aQ.2.1,aQ.2.2,nt,S,bp.y (ek g aQ.1),bD,b5.o⟩
    obtain⟨hx,aR,_⟩:=h3 hm hl;have ai:x=if(Y.IF m lv S K Q b p t).m.b=0 then 10 else 9:=by injection hx with h;injection h
    have bT:=f.o.TI aG.o aR I;exact(bT.set x).door _ I (by rw[ai];split<;>decide) λhM=>⟨HY.o _ _ b3,.s (.s ⟨I,aE.o,t,S,aY.o,hm,bG.o,b5.o,.s ⟨C,hl,by rw[ai],aM.o,hM⟩⟩)⟩
   obtain⟨hx,bV⟩:=h1 hm;have ai:x=Y.F3 m t.length:=by injection hx with h;injection h
   subst bV;exact(f.o.set x).door _ I (by rw[ai];exact hm) λhM=>⟨HY.o _ _ b3,.w ⟨x,C,.s (.s ⟨I,aE.o,t,aY.o,hm,ai⟩),I,aM.o,hM⟩⟩
 have cq:(i != 0)=true:=EU hE;rw[AC hE]at aa;go_wp2_with rw[<-aU.o];exact(aa.o.set i).door _ rfl hE λhM=>⟨HY.o _ _ (HX.o _ _ aT.o),.w ⟨i,C,.w ⟨hE,I⟩,I,aM.o,hM⟩⟩
end
section
open Go.RowKit Go.Nt
variable {p:Bs} {l l':List It} {u:Bs->Option Bs} {w w':Z} {fb tb lo hi cb lb nk nq b:Nat} {L:Y.Loc} {kv qv:Option Nat} {m:Y.M} {K Q:Nat->Bool} {z0E:Int} {e:Ending}
theorem ZZ:∀q:Bs,q.contains 47=true->(par q++[47]) <+: q
 | [],h=>by cases h
 | c::cs,h=>by
   unfold par;by_cases a:cs.contains 47=true
   .rw[AD a];obtain⟨r,d⟩:=ZZ cs a;exact⟨r,by rw[Az,Az,d]⟩
   rw[AC a];have e:c=47:=by
    rw[List.contains_cons]at h;rcases Bool.or_eq_true_iff.1 h with b|b
    .exact(Cu.1 b).A
    exact absurd b a
   rw[e];exact⟨cs,I⟩
theorem gQ{q:Bs}(h:par q=p)(b:p≠[]):KJ q p=true:=by
 have a:q.contains 47=true:=by
  cases q with
  |nil=>exact absurd h.A b
  |cons c d=>
   unfold par at h;by_cases a:d.contains 47=true
   .rw[List.contains_cons,a,Bool.or_true]
   rw[AC a]at h;exact absurd h.A b
 unfold KJ;rw[<-h];exact List.isPrefixOf_iff_prefix.2 (ZZ q a)
theorem EX.remove(h:EX l)(a:PH l p=0):EX (l.filter λy=>decide (y.c≠p)):=by
 refine h.drop p λy g e=>?_;unfold PH at a;by_cases b:Et l p=0
 .rw[AD b]at a;have f:p≠[]:=by rintro rfl;unfold Et FN at b;rw[show EO []=false from I]at b;simp at b
  have d:=gQ e f;have c:(l.map (·.c)).any (λq=>KJ q p)=true:=Ap.2 ⟨y.c,AZ.2 ⟨y,g,I⟩,d⟩;rw[c,AD I]at a;cases a
 rw[AC b]at a;exact b a
theorem Np.new{W:Z}{lv:Y.Lv}{p:Nat}(h:Np u W fb tb lo hi cb lb L lv kv qv nk nq m K Q b p l l' z0E e w')(z:Below w.heap.size w W)(N:∀g,lv.tk=some g->g<w.heap.size):Np u w fb tb lo hi cb lb L lv kv qv nk nq m K Q b p l l' z0E e w':=by
 obtain⟨G,y⟩:=h;have F:∀S,Vd W lv m S->Vd w lv m S:=λS h=>⟨h.1,λg D=>by obtain⟨n,H,M⟩:=h.2 g D;exact⟨n,H.y (z.u g (N g D)).A,M⟩⟩
 have k:=z.size;refine⟨(Y.Fm.d z).i G,?_⟩;rcases y with⟨x,c,d,f,i,j⟩|y|⟨d,f,t,S,i,j,B,C,⟨P,A,g,r,s,v,a,q,o⟩|⟨c,r,s,v,a⟩⟩
 .exact .w ⟨x,c,d,f,AG k i,j⟩
 .exact .s (.w y)
 .exact .s (.s ⟨d,f,t,S,i,j,F S B,C,.w ⟨P,A,g,r,s,AG k v,a.imp id (AG k),q,o⟩⟩)
 exact .s (.s ⟨d,f,t,S,i,j,F S B,C,.s ⟨c,r,s,AG k v,a⟩⟩)
theorem qx{lv:Y.Lv}{p:Nat}(h:Np u w fb tb lo hi cb lb L lv kv qv nk nq m K Q b p l l' z0E e w'):∃x:Int,e=.a (.a x):=by
 obtain⟨_,q⟩:=h;rcases q with⟨x,c,i,f,j,k⟩|⟨_,_,_,a,_⟩|⟨i,f,t,_,j,k,_,_,⟨_,_,g,n,a,o,d,_,_⟩|⟨c,n,a,o,d⟩⟩
 .exact⟨_,f⟩
 .exact⟨_,a⟩
 .exact⟨_,a⟩
 exact⟨_,a⟩
theorem II.lt{w:Z}{c i f d j lb:Nat}{L:Y.Loc}{lv:Y.Lv}{e g:Option Nat}{o nq:Nat}{m:Y.M}{K Q:Nat->Bool}{b p:Nat}{l:List It}(h:II w c i f d j lb L lv e g o nq m K Q b p l)(k:Nat)(a:Lm c i f d lb e g k\/lv.tk=some k):k<w.heap.size:=by
 rcases a with(a|a|a)|a
 .exact Y.Iz h.h a
 .rw[a];exact lt_of_heap h.o
 .rw[a];exact h.j.lt
 obtain⟨_,_,_,_,_,n,_⟩:=h.tk k a;exact n.lt
theorem WQ{l:List It}(g:(l.map (·.c)).Nodup){x:It}:x∈l↔at? l x.c=some x:=by
 constructor
 .intro f;cases h:at? l x.c with
  |none=>exact absurd I (GN.1 h x f)
  |some y=>
   obtain⟨k,e⟩:=Ji h;obtain⟨i,c,rfl⟩:=DQ.1 f;obtain⟨j,d,rfl⟩:=DQ.1 k;have:=(CY.1 g);by_cases b:i=j
   .subst b;rfl
   exfalso;rcases Nat.lt_or_gt_of_ne b with a|a
   .exact this i j (EU c) (EU d) a (EU e.A)
   exact this j i (EU d) (EU c) a (EU e)
 exact λh=>(Ji h).1
theorem fo{l g:List It}(h:(l.map (·.c)).Nodup)(k:g.Perm l):Eg g=Eg l:=by
 have m:∀l:List It,(Eg l).Pairwise (λx y=>(!less y.c x.c)=true):=λl=>by
  unfold Eg;exact CQ (le:=λx y:It=>!less y.c x.c) (λa b c f d=>by
   simp only[Bool.not_eq_true']at f d |-;cases i:less c.c a.c with
   |false=>rfl
   |true=>
    cases j:less a.c b.c with
    |true=>rw[Rm _ _ _ i j]at d;cases d
    |false=>rw[Qf _ _ j f]at i;rw[i]at d;cases d) (λa b=>by
   cases f:less b.c a.c with
   |false=>simp
   |true=>rw[XD f];simp) l
 refine Cv (le:=λx y=>(!less y.c x.c)=true) (λa b q r f d=>?_) (m g) (m l) (((MQ g).i k).i (MQ l).A);simp only[Bool.not_eq_true']at f d;have e:=Qf _ _ d f;have o:a∈l:=k.mem_iff.1 (Eo.1 q);have p:b∈l:=Eo.1 r;have n:=(WQ h).1 o;have s:=(WQ h).1 p;rw[e,s]at n;exact(Cs n).A
theorem jk{l d:List It}(h:EX l)(f:EX d)(g:∀q,at? d q=at? l q):Eg d=Eg l:=by
 refine fo h.nodup ((Cp ?_ ?_).2 (λ_=>by rw[WQ f.nodup,WQ h.nodup,g]))
 .exact Dm (·.c) (λa b c e=>c (by rw[e])) f.nodup
 exact Dm (·.c) (λa b c e=>c (by rw[e])) h.nodup
theorem ZF{l:List It}(h:EX l):Eg (Eg l)=Eg l:=fo h.nodup (MQ l)
theorem m6{w:Z}{g n n':Nat}{S a:Nat->Nat->Bool}(h:Y.GB w g n S)(f:Y.GB w g n' a){b r:Nat}(d:b<=1000000)(e:r<=4294967295):S b r=a b r:=by have c:=h.look d e;rw[f.look d e]at c;simpa using c.A
end
namespace Y
open Go.RowKit Pk
open Go.Nt
theorem Sg{m:M}{K Q:Nat->Bool}{b p:Nat}(l:WF m)(t:JX m Q b p)(c:b<m.a)(k:p<=m.d){a:List Du}(u:∀x∈a,x.length=64):∃v ps,KL m K a b v (F4 K ⟨a,m,Q,b,p,λ_=>false⟩) ps:=by
 have j:=Ff.start l K a;unfold F4 Gy;by_cases d:a.length+p<=m.d
 .rw[AD (show(LS.mk a m Q b p λ_=>false).left.length+(LS.mk a m Q b p λ_=>false).p<=m.d from d)];obtain⟨ps,r,q⟩:=Ff.EY b a m p _ [] j;have n:=Xr b a m p (λ_=>false) l t d u;have s:=Ow b a m p (λ_=>false);have f:KL m K a b 0 (LS.prog ⟨a,m,Q,b,p,λ_=>false⟩) ps:=⟨r,by show b=(b+0)%m.a;rw[Bq,Bd c],λi g=>.s ⟨(q i g).elim id (λh=>by cases h),n⟩,s.2.2.2 k⟩;obtain⟨v,o,_,e⟩:=KL.rounds c m.a 0 _ ps f U;exact⟨v,o,e⟩
 rw[AC (show ¬(LS.mk a m Q b p λ_=>false).left.length+(LS.mk a m Q b p λ_=>false).p<=m.d from d)];have f:KL m K a b 0 ⟨a,m,Q,b,p,λ_=>false⟩ []:=⟨j,by show b=(b+0)%m.a;rw[Bq,Bd c],λi g=>(by cases g),k⟩;obtain⟨v,ps,_,e⟩:=KL.rounds c m.a 0 _ [] f U;exact⟨v,ps,e⟩
theorem iA(S:Nat->Bool):∀f k,IP S f k<=f
 |0,k=>by simp[IP]
 | f+1,k=>by
   rw[IP]
   split
   .exact Dz (iA S f ((k+1)%4294967296))
   omega
theorem Ph{S:Nat->Bool}{k:Nat}(h:k+701<4294967296):k<=M2 S k/\M2 S k<=k+700:=by have:=iA S 700 k;unfold M2;rw[Bd U];omega
end Y
section
open Go.RowKit Go.Nt
def tP(w:Z)(lv:Y.Lv)(m:Y.M):Prop:=∀g,lv.tk=some g->∃nt S,Y.GB w g nt S/\nt<=100000/\∀y,y<=4294967295->Fc (Y.Fq m) (Y.ER m) y=true->S (Y.ER m) y=true\/(lv.a=Y.ER m/\y<=lv.b)
end
namespace Y
open Go.RowKit Pk
open Go.Nt
variable {m0:M} {K:Nat->Bool} {xs:List Du} {b0 v:Nat} {s:LS}
theorem sR(h:Lh m0 K xs b0 v s)(c:(E5 s.m K s.Q s.b).1=true):(LS.a K s).prog.m.b=0\/(LS.a K s).prog.left.length<=s.left.length-m0.d:=by
 have j:=h.wf.d;have e:(s.b+1)%s.m.a<s.m.a:=BU _ U;obtain⟨k1,k2,k3⟩:=R9 s.m K s.Q s.b;have f:=Zo h.wf K h.c;have g:=Si h.wf K s.Q s.b;have i:(E5 s.m K s.Q s.b).2.1.fail<0:=by
  unfold E5;split
  .exact h.fail
  split
  .exact h.fail
  cases b:s.m.e ((s.b+1)%s.m.a)with
  |true=>rw[gl b];exact h.fail
  |false=>have:=Yy h.fail e b;split<;>exact this.1
 have d:(E5 s.m K s.Q s.b).2.2.2=0:=by
  unfold E5 at c |-;repeat' split at c;all_goals first|cases c|skip
  all_goals simp_all
 obtain⟨_,_,a⟩:=XG (Q:=(E5 s.m K s.Q s.b).2.2.1) ((s.b+1)%s.m.a) s.left (E5 s.m K s.Q s.b).2.1 (E5 s.m K s.Q s.b).2.2.2 s.S g i f h.lens;rcases a with a|a
 .exact .w a
 right;rw[d,k2,h.d,DC]at a;show(EY _ s.left _ (E5 s.m K s.Q s.b).2.2.2 s.S).1.length<=_;rw[d];exact a
structure Mz (m0:M) (K:Nat->Bool) (xs:List Du) (b0 v:Nat) (s:LS):Prop where
 g:Lh m0 K xs b0 v s
 part:s.m.b≠0->s.left≠[]->GA m0.a s.S*m0.d+s.left.length<=xs.length
 all:GA m0.a s.S*m0.d<xs.length+m0.d
theorem Mz.round(h:Mz m0 K xs b0 v s)(a:s.m.b≠0)(d:s.left≠[]):Mz m0 K xs b0 (v+1) (FB K s):=by
 have i:=h.g.round a;have j:=h.part a d;have k:0<s.left.length:=Bl.2 d;refine⟨i,?_,?_⟩;all_goals
  unfold FB;split
 .rename_i e;intro g f;have m:=(sR h.g e).resolve_left g;have b:=Xw m0.a ((s.b+1)%s.m.a) s.left (E5 s.m K s.Q s.b).2.1 (E5 s.m K s.Q s.b).2.2.2 s.S;have c:GA m0.a (LS.a K s).prog.S*m0.d<=(GA m0.a s.S+1)*m0.d:=Bt m0.d b;rw[D9,Nat.one_mul]at c;have l:0<(LS.a K s).prog.left.length:=Bl.2 f;omega
 .exact λ_ _=>j
 .rename_i e;have b:=Xw m0.a ((s.b+1)%s.m.a) s.left (E5 s.m K s.Q s.b).2.1 (E5 s.m K s.Q s.b).2.2.2 s.S;have c:GA m0.a (LS.a K s).prog.S*m0.d<=(GA m0.a s.S+1)*m0.d:=Bt m0.d b;rw[D9,Nat.one_mul]at c;omega
 exact h.all
theorem Mz.rounds{c:M}{K:Nat->Bool}{d:List Du}{a:Nat}:∀(k v:Nat) (s:LS),Mz c K d a v s->∃v',Mz c K d a v' (F8 K k s)
 |0,v,s,h=>⟨v,h⟩
 | k+1,v,s,h=>by
   rw[F8]
   split
   .exact⟨v,h⟩
   rename_i b;exact Mz.rounds k (v+1) _ (h.round (λe=>b (.s e)) λe=>b (.w e))
structure UL (m:M) (K Q:Nat->Bool) (b p:Nat):Prop where
 wf:WF m
 fail:m.fail<0
 c:JX m Q b p
 g:GA m.a K<=FT m/2
 b:b<m.a
 p:p<=m.d
theorem UL.lay{m:M}{Q:Nat->Bool}{b p:Nat}(h:UL m K Q b p)(u:∀x∈xs,x.length=64)(D:0<xs.length)(j:xs.length<=F5 m)(s:LS)(c:s=F4 K ⟨xs,m,Q,b,p,λ_=>false⟩):(s.left=[]/\UL s.m s.S s.Q s.b s.p\/s.left≠[]/\s.m.b=0/\UL s.m K s.Q b m.d)/\s.m.a=m.a/\s.m.d=m.d/\s.m.e=m.e:=by
 have B:1<=FT m/2:=by
  unfold F5 at j;rcases Nat.eq_zero_or_pos (FT m/2)with e|e
  .rw[e,Nat.zero_mul]at j;omega
  exact e
 have C:=h.wf.e;have g:=N6 (K:=K) (s:=⟨xs,m,Q,b,p,λ_=>false⟩) h.wf h.c;rw[<-c]at g;unfold F4 Gy at c;by_cases t:xs.length+p<=m.d
 .rw[AD (show(LS.mk xs m Q b p λ_=>false).left.length+(LS.mk xs m Q b p λ_=>false).p<=(LS.mk xs m Q b p λ_=>false).m.d from t)]at c;obtain⟨l,k,f⟩:=XG (Q:=Q) b xs m p (λ_=>false) h.wf h.fail h.c u;have n:(EY b xs m p (λ_=>false)).1=[]\/(EY b xs m p (λ_=>false)).2.1.b=0:=by
   rcases f with f|f
   .exact .s f
   exact .w (Bu U)
  rw[Yg K n]at c;obtain⟨k1,k2,k3,z⟩:=Ow b xs m p (λ_=>false);have v:=Xw m.a b xs m p (λ_=>false);rw[UX]at v;subst c;refine⟨?_,k1,k2,k⟩;by_cases d:(EY b xs m p (λ_=>false)).1=[]
  .refine .w ⟨d,⟨Pa b xs m p _ h.wf,l,VF b xs m p _ h.wf h.c,?_,?_,?_⟩⟩
   .show GA (EY b xs m p (λ_=>false)).2.1.a (EY b xs m p (λ_=>false)).2.2.2<=FT (EY b xs m p (λ_=>false)).2.1/2;rw[Yd k1 k,k1];omega
   .show b<(EY b xs m p (λ_=>false)).2.1.a;rw[k1];exact h.b
   show(EY b xs m p (λ_=>false)).2.2.1<=(EY b xs m p (λ_=>false)).2.1.d;rw[k2];exact z h.p
  refine .s ⟨d,n.resolve_left d,⟨g.2,l,?_,?_,?_,?_⟩⟩
  .have:=JX.shut (LS.prog ⟨xs,m,Q,b,p,λ_=>false⟩).m (LS.prog ⟨xs,m,Q,b,p,λ_=>false⟩).Q b g.1.c;have e:(LS.prog ⟨xs,m,Q,b,p,λ_=>false⟩).m.d=m.d:=k2;rw[e]at this;exact this
  .show GA (EY b xs m p (λ_=>false)).2.1.a K<=FT (EY b xs m p (λ_=>false)).2.1/2;rw[Yd k1 k,k1];exact h.g
  .show b<(EY b xs m p (λ_=>false)).2.1.a;rw[k1];exact h.b
  show m.d<=(EY b xs m p (λ_=>false)).2.1.d;rw[k2];exact AB _
 rw[AC (show ¬(LS.mk xs m Q b p λ_=>false).left.length+(LS.mk xs m Q b p λ_=>false).p<=(LS.mk xs m Q b p λ_=>false).m.d from t)]at c;have r:Lh m K xs b 0 ⟨xs,m,Q,b,p,λ_=>false⟩:=⟨h.wf,I,I,by show b=(b+0)%m.a;rw[Bq,Bd h.b],h.fail,I,h.c,u,.s (by simp[cntF])⟩;have w:Mz m K xs b 0 ⟨xs,m,Q,b,p,λ_=>false⟩:=⟨r,λ_ _=>by show GA m.a (λ_=>false)*m.d+xs.length<=_;rw[UX];omega,by show GA m.a (λ_=>false)*m.d<_;rw[UX];omega⟩;obtain⟨_,a⟩:=Mz.rounds m.a 0 _ w;rw[<-c]at a;have o:=mU r (by
  have e1:FT m<=(List.range m.a).countP (λi=>!K i && !m.e i)+GA m.a K:=by rw[<-wo];refine AG (List.countP_mono_left λi _ y=>?_) (YV _ K (List.range m.a));revert y;cases K i<;>cases m.e i<;>simp
  have e2:FT m/2<=(List.range m.a).countP (λi=>!K i && !m.e i):=Dz h.g;refine AG j ?_;unfold F5;rw[BQ];exact Dq _ e2)
 have e:s=F8 K m.a ⟨xs,m,Q,b,p,λ_=>false⟩:=c;rw[<-e]at o;have q:=Yd a.g.a a.g.e;have A:=h.wf.d;refine⟨?_,a.g.a,a.g.d,a.g.e⟩;by_cases d:s.left=[]
 .refine .w ⟨d,⟨a.g.wf,a.g.fail,a.g.c,?_,?_,?_⟩⟩
  .rw[q,a.g.a];have e1:=a.all;unfold F5 at j;have e2:GA m.a s.S*m.d<(FT m/2+1)*m.d:=by rw[D9,Nat.one_mul];omega
   exact Dz (Nat.lt_of_mul_lt_mul_right e2)
  .rw[a.g.b,a.g.a];exact BU _ U
  have:=lD (K:=K) (k:=m.a) (s:=⟨xs,m,Q,b,p,λ_=>false⟩) h.p;rw[<-e]at this;exact this
 refine .s ⟨d,o.resolve_right d,⟨a.g.wf,a.g.fail,?_,?_,?_,?_⟩⟩
 .rw[<-a.g.d];exact JX.shut _ _ _ g.1.c
 .rw[q,a.g.a];exact h.g
 .rw[a.g.a];exact h.b
 rw[a.g.d];exact AB _
def I8(m m':M):Prop:=∃i,i<m.a/\m.e i=false/\m'.e i=true
theorem lQ{p q:Nat->Bool}(h:∀i,p i=true->q i=true):∀(l:List Nat) {j:Nat},j∈l->p j=false->q j=true->l.countP p<l.countP q
 | a::l,j,b,h1,h2=>by
   have e:l.countP p<=l.countP q:=List.countP_mono_left (λx _ d=>h x d);rw[Cm,Cm];rcases Ax.1 b with rfl|b
   .rw[h1,h2];simp;omega
   have f:=lQ h l b h1 h2;by_cases c:p a=true
   .rw[AD c,AD (h a c)];omega
   rw[AC c];omega
theorem I8.ER{m a:M}(h:I8 m a)(e:∀i,m.e i=true->a.e i=true)(f:a.a=m.a):ER m<ER a:=by obtain⟨i,b,c,d⟩:=h;unfold Y.ER;rw[f];exact lQ e _ (Bv.2 b) c d
theorem I8.then{a b c:M}(h:I8 a b)(g:∀i,b.e i=true->c.e i=true):I8 a c:=by obtain⟨i,d,e,f⟩:=h;exact⟨i,d,e,g i f⟩
theorem I8.ahead{a b c:M}(h:I8 b c)(g:∀i,a.e i=true->b.e i=true)(j:b.a=a.a):I8 a c:=by
 obtain⟨i,_,d,f⟩:=h;refine⟨i,by omega,?_,f⟩;cases e:a.e i with
 |false=>rfl
 |true=>rw[g i e]at d;cases d
def nf(m:M):M:={m with fail:=-1}
theorem kk{m:M}(h:WF m):WF (nf m):={h with n:=by show(-1:Int) <= -1;omega,o:=by show(-1:Int)<=_;omega}
theorem fX(a fail:Int):(E7 a fail).1=1\/((E7 a fail).1=(E7 a (-1)).1/\(E7 a fail).2.1=(E7 a (-1)).2.1/\(E7 a (-1)).2.2 = -1):=by
 unfold E7;by_cases b:a=0
 .simp[b]
 by_cases c:a=1
 .simp[c]
 by_cases d:fail<0
 .simp[b,c,d]
 by_cases e:fail=0
 .left;simp[b,c,e]
 right;simp[b,c,d,e]
theorem pL(m:M)(b p:Int)(x:Du):I8 m (El m b p x).2\/((El m b p x).1=(El (nf m) b p x).1/\nf (El m b p x).2=(El (nf m) b p x).2):=by
 have e:LL (nf m) b p x↔LL m b p x:=Iff.rfl;unfold El;by_cases h:LL m b p x
 .rw[AD h,AD (e.2 h)];obtain⟨i,q,rfl,rfl,j,g,_⟩:=Uv h;rcases fX m.b m.fail with a|⟨a,d,f⟩
  .left;refine⟨i,j,g,?_⟩;unfold Gk;rw[a];simp[GX,Lc]
  right;have e1:(E7 (nf m).b (nf m).fail)=E7 m.b (-1):=I;unfold Gk;rw[e1,a];have e2:nf (tick m)=tick (nf m):=by unfold tick;rw[e1,d,f];rfl
  repeat' split
  .exact⟨I,by rw[<-e2];rfl⟩
  .exact⟨I,by rw[<-e2];rfl⟩
  .exact⟨I,by rw[<-e2];rfl⟩
  exact⟨I,e2⟩
 rw[AC h,AC (λc=>h (e.1 c))];exact .s ⟨I,I⟩
theorem vF(m:M)(b:Int):I8 m (FC m b).2\/((FC m b).1=(FC (nf m) b).1/\nf (FC m b).2=(FC (nf m) b).2):=by
 have e:IE (nf m) b=IE m b:=I;unfold FC;rw[e];by_cases h:IE m b=false
 .rw[AD h,AD h];obtain⟨i,rfl,g,f⟩:=Uw h;rcases fX m.b m.fail with a|⟨a,c,d⟩
  .left;refine⟨i,g,f,?_⟩;unfold Jc;rw[a];simp[Lc]
  right;have e1:(E7 (nf m).b (nf m).fail)=E7 m.b (-1):=I;unfold Jc;rw[e1,a];have e2:nf (tick m)=tick (nf m):=by unfold tick;rw[e1,c,d];rfl
  repeat' split
  .exact⟨I,by rw[<-e2];rfl⟩
  .exact⟨I,by rw[<-e2];rfl⟩
  .exact⟨I,by rw[<-e2];rfl⟩
  exact⟨I,e2⟩
 rw[AC h,AC h];exact .s ⟨I,I⟩
theorem lU(b:Nat):∀(l:List Du) (m:M) (p:Nat) (S:Nat->Bool),WF m->I8 m (EY b l m p S).2.1\/((EY b l m p S).1=(EY b l (nf m) p S).1/\nf (EY b l m p S).2.1=(EY b l (nf m) p S).2.1/\(EY b l m p S).2.2=(EY b l (nf m) p S).2.2)
 | [],m,p,S,_=>.s ⟨I,I,I⟩
 | x::l,m,p,S,hw=>by
   have k:(nf m).d=m.d:=I;unfold EY;rw[k];by_cases d:p<m.d
   .rw[AD d,AD d];have a:WF (El m (b:Nat) (p:Nat) x).2:=QC hw _ _ _;rcases pL m (b:Nat) (p:Nat) x with h|⟨f,g⟩
    .left
     split
     .exact h.then (λi e=>Rq b i l _ _ _ a e)
     exact h
    rw[<-f,<-g];by_cases c:(El m (b:Nat) (p:Nat) x).1=true
    .rw[AD c,AD c];rcases lU b l _ (p+1) (λj=>j==b||S j) a with h|h
     .exact .w (h.ahead (λi e=>Vw hw i e) (YQ _ _ _ _))
     exact .s h
    rw[AC c,AC c];exact .s ⟨I,I,I⟩
   rw[AC d,AC d];exact .s ⟨I,I,I⟩
def Lg(s:LS):LS:={s with m:=nf s.m}
theorem ew(s:LS)(d:WF s.m):I8 s.m s.prog.m\/Lg s.prog=(Lg s).prog:=by
 rcases lU s.b s.left s.m s.p s.S d with h|⟨a,b,c⟩
 .exact .w h
 right;unfold LS.prog Lg;dsimp only;rw[a,b,c]
theorem wU(K:Nat->Bool)(s:LS):I8 s.m (s.a K).m\/(Lg (s.a K)=(Lg s).a K/\(E5 s.m K s.Q s.b).1=(E5 (nf s.m) K s.Q s.b).1):=by
 have c:(nf s.m).a=s.m.a:=I;have d:(nf s.m).d=s.m.d:=I;unfold LS.a Lg E5;dsimp only;rw[c,d];rcases vF s.m (((s.b+1)%s.m.a:Nat):Int)with h|⟨a,b⟩
 .by_cases c1:K ((s.b+1)%s.m.a)=true
  .right;simp[c1]
  by_cases c2:s.Q ((s.b+1)%s.m.a)=true
  .right;simp[c1,c2]
  left
  rw[AC c1,AC c2]
  split<;>exact h
 right
 rw[<-a,<-b]
 repeat' split
 all_goals exact⟨I,I⟩
theorem XI(K:Nat->Bool)(s:LS)(d:WF s.m):(∀i,s.m.e i=true->(FB K s).m.e i=true)/\WF (FB K s).m/\(FB K s).m.a=s.m.a:=by
 have a:=Si d K s.Q s.b;have c:=R9 s.m K s.Q s.b;unfold FB;split
 .exact⟨λi b=>Rq _ i _ _ _ _ a (Ty K s.Q s.b i b),Pa _ _ _ _ _ a,(Ow _ _ _ _ _).1.i c.1⟩
 exact⟨λi b=>Ty K s.Q s.b i b,a,c.1⟩
theorem pZ(K:Nat->Bool)(s:LS)(g:WF s.m):I8 s.m (FB K s).m\/Lg (FB K s)=FB K (Lg s):=by
 have b:=Si g K s.Q s.b;have d:=R9 s.m K s.Q s.b;rcases wU K s with h|⟨c,f⟩
 .left;unfold FB;split
  .exact h.then (λi a=>Rq _ i _ _ _ _ b a)
  exact h
 have e:(E5 (Lg s).m K (Lg s).Q (Lg s).b).1=(E5 s.m K s.Q s.b).1:=f.A;unfold FB;rw[e];split
 .rcases ew (s.a K) b with h|h
  .exact .w (h.ahead (λi a=>Ty K s.Q s.b i a) d.1)
  exact .s (by rw[h,c])
 exact .s c
theorem XP(K:Nat->Bool):∀(k:Nat) (s:LS),WF s.m->(∀i,s.m.e i=true->(F8 K k s).m.e i=true)/\WF (F8 K k s).m/\(F8 K k s).m.a=s.m.a
 |0,s,a=>⟨λ_ h=>h,a,I⟩
 | k+1,s,a=>by
   obtain⟨b,c,d⟩:=XI K s a;obtain⟨e,f,g⟩:=XP K k (FB K s) c;rw[F8]
   split
   .exact⟨λ_ h=>h,a,I⟩
   exact⟨λi j=>e i (b i j),f,g.i d⟩
theorem eZ(K:Nat->Bool):∀(k:Nat) (s:LS),WF s.m->I8 s.m (F8 K k s).m\/Lg (F8 K k s)=F8 K k (Lg s)
 |0,s,c=>.s I
 | k+1,s,c=>by
   obtain⟨f,d,g⟩:=XI K s c;have e:((Lg s).left=[]\/(Lg s).m.b=0)↔(s.left=[]\/s.m.b=0):=Iff.rfl;by_cases a:s.left=[]\/s.m.b=0
   .rw[F8,F8,AD a,AD (e.2 a)];exact .s I
   rw[F8,F8,AC a,AC (λh=>a (e.1 h))];rcases pZ K s c with h|h
   .exact .w (h.then (XP K k _ d).1)
   rcases eZ K k (FB K s) d with b|b
   .exact .w (b.ahead f g)
   exact .s (by rw[b,h])
theorem lu(K:Nat->Bool)(s:LS)(c:WF s.m):I8 s.m (F4 K s).m\/Lg (F4 K s)=F4 K (Lg s):=by
 unfold F4;have f:(Lg s).m.a=s.m.a:=I;rw[f];have g:I8 s.m (Gy s).m\/Lg (Gy s)=Gy (Lg s):=by
  unfold Gy;have e:(Lg s).left.length+(Lg s).p<=(Lg s).m.d↔s.left.length+s.p<=s.m.d:=Iff.rfl;by_cases b:s.left.length+s.p<=s.m.d
  .rw[AD b,AD (e.2 b)];exact ew s c
  rw[AC b,AC (λh=>b (e.1 h))];exact .s I
 have a:WF (Gy s).m/\(Gy s).m.a=s.m.a/\∀i,s.m.e i=true->(Gy s).m.e i=true:=by
  unfold Gy;split
  .exact⟨Pa _ _ _ _ _ c,(Ow _ _ _ _ _).1,λi j=>Rq _ i _ _ _ _ c j⟩
  exact⟨c,I,λ_ h=>h⟩
 rcases g with h|h
 .exact .w (h.then (XP K _ _ a.1).1)
 rcases eZ K s.m.a (Gy s) a.1 with d|d
 .exact .w (d.ahead a.2.2 a.2.1)
 exact .s (by rw[d,h])
theorem Mk(K:Nat->Bool)(s:LS)(c:WF s.m):(∀i,s.m.e i=true->(F4 K s).m.e i=true)/\WF (F4 K s).m/\(F4 K s).m.a=s.m.a:=by
 have a:WF (Gy s).m/\(Gy s).m.a=s.m.a/\∀i,s.m.e i=true->(Gy s).m.e i=true:=by
  unfold Gy;split
  .exact⟨Pa _ _ _ _ _ c,(Ow _ _ _ _ _).1,λi b=>Rq _ i _ _ _ _ c b⟩
  exact⟨c,I,λ_ h=>h⟩
 obtain⟨d,e,f⟩:=XP K s.m.a (Gy s) a.1;exact⟨λi b=>d i (a.2.2 i b),e,f.i a.2.1⟩
theorem Pq{m:M}{K Q:Nat->Bool}{b p:Nat}(f:WF m)(d:JX m Q b p)(k:GA m.a K<=FT m/2)(j:b<m.a)(l:p<=m.d){c:List Du}(o:∀x∈c,x.length=64)(g:0<c.length)(i:c.length<=F5 m)(s:LS)(e:s=F4 K ⟨c,m,Q,b,p,λ_=>false⟩):s.left=[]\/s.m.b=0\/I8 m s.m:=by
 have n:UL (nf m) K Q b p:=⟨kk f,by show(-1:Int)<0;decide,⟨d.open_,d.c⟩,k,j,l⟩;rcases lu K ⟨c,m,Q,b,p,λ_=>false⟩ f with h|h
 .exact .s (.s (by rw[e];exact h))
 rw[<-e]at h;have a:=(n.lay o g i (Lg s) h).1;rcases a with⟨a,_⟩|⟨_,a,_⟩
 .exact .w a
 exact .s (.w a)
theorem Zg(b:Nat):∀(l:List Du) (m:M) (p:Nat) (S:Nat->Bool),WF m->∀i,(EY b l m p S).2.2.2 i=true->S i=true\/m.e i=false
 | [],m,p,S,_,i,h=>.w h
 | x::l,m,p,S,hw,i,h=>by
   unfold EY at h
   split at h
   .split at h
    .rename_i a;rcases Zg b l _ _ _ (QC hw _ _ _) i h with h|h
     .rcases Bool.or_eq_true_iff.1 h with h|h
      .right
       have e:i=b:=EU h
       subst e;have d:LL m (i:Nat) (p:Nat) x:=by
        unfold El at a
        split at a
        .assumption
        cases a
       obtain⟨j,_,e,_,_,c,_⟩:=Uv d
       have:i=j:=U
       rw[this];exact c
      exact .w h
     right
     cases e:m.e i with
     |false=>rfl
     |true=>rw[Vw hw i e]at h;cases h
    exact .w h
   exact .w h
theorem tO(K:Nat->Bool)(s:LS)(a:WF s.m)(i:Nat)(h:(FB K s).S i=true):s.S i=true\/s.m.e i=false:=by
 unfold FB at h;split at h
 .rcases Zg _ _ _ _ _ (Si a K s.Q s.b) i h with h|h
  .exact .w h
  right;cases e:s.m.e i with
  |false=>rfl
  |true=>rw[Ty K s.Q s.b i e]at h;cases h
 exact .w h
theorem jK(K:Nat->Bool):∀(k:Nat) (s:LS),WF s.m->∀i,(F8 K k s).S i=true->s.S i=true\/s.m.e i=false
 |0,s,a,i,h=>.w h
 | k+1,s,a,i,h=>by
   rw[F8]at h
   split at h
   .exact .w h
   obtain⟨b,c,_⟩:=XI K s a;rcases jK K k _ c i h with h|h
   .exact tO K s a i h
   right
   cases e:s.m.e i with
   |false=>rfl
   |true=>rw[b i e]at h;cases h
theorem LH(K:Nat->Bool)(s:LS)(a:WF s.m)(i:Nat)(h:(F4 K s).S i=true):s.S i=true\/s.m.e i=false:=by
 unfold F4 at h;have b:WF (Gy s).m/\∀i,s.m.e i=true->(Gy s).m.e i=true:=by
  unfold Gy;split
  .exact⟨Pa _ _ _ _ _ a,λi c=>Rq _ i _ _ _ _ a c⟩
  exact⟨a,λ_ h=>h⟩
 rcases jK K _ _ b.1 i h with h|h
 .unfold Gy at h;split at h
  .exact Zg _ _ _ _ _ a i h
  exact .w h
 right;cases e:s.m.e i with
 |false=>rfl
 |true=>rw[b.2 i e]at h;cases h
variable {m m':M} {f:Fp} {k:Nat} {Q:Nat->Bool}
structure O2 (m:M):Prop where
 a:M0 (Fq m)
 b:∀f∈Fq m,f.b<=ER m/\(m.e f.d=true->f.b<ER m)
theorem K5:f∈Fq m↔∃i p q,i<m.a/\p<m.d/\FJ (pad (m.c i p))=some q/\f=Fp.mk' q i:=GV
theorem o0(m:M)(k:Nat)(n:k<m.a)(r:WF m):(FC m (k:Nat)).2.e=(λi=>(FC m (k:Nat)).2.e i)/\(∀i,m.e i=true->(FC m (k:Nat)).2.e i=true)/\(∀i,i≠k->(FC m (k:Nat)).2.e i=m.e i/\(FC m (k:Nat)).2.g i=m.g i/\∀p,(FC m (k:Nat)).2.c i p=m.c i p) /\ (∀i p,(FC m (k:Nat)).2.c i p=[]\/(FC m (k:Nat)).2.c i p=m.c i p)/\(m.b=0->(FC m (k:Nat)).2.b=0) /\ ((FC m (k:Nat)).1=true->(FC m (k:Nat)).2.e k=false/\(FC m (k:Nat)).2.g k=0/\∀p,p<m.d->(FC m (k:Nat)).2.c k p=[]) /\ ((FC m (k:Nat)).1=false->(FC m (k:Nat)).2.e k=true\/(FC m (k:Nat)).2.b=0):=by
 unfold FC;by_cases h:IE m (k:Nat)=false
 .rw[AD h];have f:m.e k=false:=by rw[K7 m n]at h;exact h
  have o:(k:Int).toNat=k:=U;rw[o];unfold Jc;by_cases b:(E7 m.b m.fail).1=0
  .rw[AD b];refine⟨I,λi a=>a,λi a=>⟨I,AC a,λp=>AC (λh=>a h.1)⟩,λi p=>?_,λe=>?_,λ_=>⟨f,AD I,λp q=>AD ⟨I,q⟩⟩,λh=>by cases h⟩
   .show(if i=k/\p<m.d then[]else m.c i p)=[]\/(if i=k/\p<m.d then[]else m.c i p)=m.c i p;split
    .exact .w I
    exact .s I
   unfold E7 at b;rw[AD e]at b;cases b
  rw[AC b];by_cases c:(E7 m.b m.fail).1=1
  .rw[AD c];refine⟨I,λi a=>?_,λi a=>⟨AC a,I,λp=>rfl⟩,λi p=>.s I,λe=>?_,(λh=>by cases h),λ_=>.w (AD I)⟩
   .show(if i=k then true else m.e i)=true;split
    .rfl
    exact a
   unfold E7 at c;rw[AD e]at c;cases c
  rw[AC c];by_cases d:(E7 m.b m.fail).1=2
  .rw[AD d];have e:(E7 m.b m.fail).2.1=0:=by
    unfold E7 at d |-;repeat' split at d;all_goals(first|cases d|skip)
    repeat' split;all_goals first|rfl|omega
   refine⟨I,λi a=>a,λi a=>⟨I,AC a,λp=>AC (λh=>a h.1)⟩,λi p=>?_,λ_=>e,(λh=>by cases h),λ_=>.s e⟩;show(if i=k/\p<m.cut.toNat%m.d then[]else m.c i p)=[]\/(if i=k/\p<m.cut.toNat%m.d then[]else m.c i p)=m.c i p;split
   .exact .w I
   exact .s I
  rw[AC d];have e:(E7 m.b m.fail).2.1=0:=by
   unfold E7 at b c d |-;by_cases a0:m.b=0
   .rw[AD a0];exact a0
   rw[AC a0]at b c d;by_cases g:m.b=1
   .rw[AD g]at d;exact absurd I d
   rw[AC g]at b c;by_cases j:m.fail<0
   .rw[AD j]at b;exact absurd I b
   rw[AC j]at b c;by_cases l:m.fail=0
   .rw[AD l]at c;exact absurd I c
   rw[AC l]at b;exact absurd I b
  exact⟨I,λi a=>a,λi a=>⟨I,I,λp=>rfl⟩,λi p=>.s I,λ_=>e,(λh=>by cases h),λ_=>.s e⟩
 rw[AC h];have f:m.e k=true:=by rw[K7 m n]at h;simpa using h
 exact⟨I,λi a=>a,λi a=>⟨I,I,λp=>rfl⟩,λi p=>.s I,λh=>h,(λh=>by cases h),λ_=>.w f⟩
structure PK (m:M) (k:Nat) (m':M) (Q:Nat->Bool):Prop where
 wf:WF m'
 a:m'.a=m.a
 d:m'.d=m.d
 l:∀i,m.e i=true->m'.e i=true
 e:∀i p,m'.c i p=[]\/m'.c i p=m.c i p
 same:∀i,k<=i->m'.e i=m.e i
 c:∀i,Q i=true->i<k/\m'.e i=false/\m'.g i=0
 gone:m'.b≠0->∀i,i<k->m'.e i=false->Q i=true/\∀p,p<m.d->m'.c i p=[]
theorem K0{m:M}(v:WF m):∀k,k<=m.a->PK m k (E4 m k).1 (E4 m k).2
 |0,_=>⟨v,I,I,λ_ h=>h,λ_ _=>.s I,λ_ _=>rfl,(λi h=>by cases h),λ_ i h=>absurd h (Nat.not_lt_zero _)⟩
 | k+1,D=>by
   have a:=K0 v k U;obtain⟨g,d⟩:=E ((E4 m k).1);obtain⟨l,o⟩:=E ((E4 m k).2);rw[<-d,<-o]at a;have e1:(E4 m (k+1)).1=(FC g (k:Nat)).2:=by rw[E4,d]
   have e2:(E4 m (k+1)).2=if(FC g (k:Nat)).1 then(λj=>j==k||l j)else l:=by rw[E4,d,o]
   rw[e1,e2];obtain⟨-,z,f,A,B,t,C⟩:=o0 g k (by rw[a.a];omega) a.wf;have w:l k=false:=by
    cases e:l k with
    |false=>rfl
    |true=>exact Dz ((a.c k e).1)
   refine⟨Ve a.wf _,(Xv _ _).i a.a,(YF _ _).i a.d,λi b=>z i (a.l i b),λi p=>?_,λi b=>((f i U).1).i (a.same i U),λi b=>?_,λu i b r=>?_⟩
   .rcases A i p with h|h
    .exact .w h
    rw[h];exact a.e i p
   .by_cases c:(FC g (k:Nat)).1=true
    .rw[AD c]at b;by_cases e:i=k
     .subst e;exact⟨by omega,(t c).1,(t c).2.1⟩
     have:l i=true:=by simpa[e]using b
     obtain⟨q,n,s⟩:=a.c i this;exact⟨by omega,by rw[(f i e).1];exact n,by rw[(f i e).2.1];exact s⟩
    rw[AC c]at b;have e:i≠k:=λe=>by rw[e,w]at b;cases b
    obtain⟨q,n,s⟩:=a.c i b;exact⟨by omega,by rw[(f i e).1];exact n,by rw[(f i e).2.1];exact s⟩
   have x:g.b≠0:=λh=>u (B h)
   by_cases e:i=k
   .subst e;cases c:(FC g (i:Nat)).1 with
    |true=>
      rw[AD I];exact⟨by simp,by rw[<-a.d];exact(t c).2.2⟩
    |false=>
      rcases C c with h|h
      .rw[h]at r;cases r
      exact absurd h u
   rw[(f i e).1]at r;obtain⟨q,n⟩:=a.gone x i U r;refine⟨?_,λp y=>by rw[(f i e).2.2 p];exact n p y⟩
   split
   .simp[q]
   exact q
theorem PK.Fq(h:PK m k m' Q)(d:f∈Y.Fq m'):f∈Y.Fq m:=by
 obtain⟨i,p,q,b,c,a,rfl⟩:=K5.1 d;rw[h.a]at b;rw[h.d]at c;rcases h.e i p with e|e
 .rw[e,Qc EB]at a;cases a
 rw[e]at a;exact K5.2 ⟨i,p,q,b,c,a,I⟩
theorem Gz(a:m'.a=m.a)(h:∀i,m.e i=true->m'.e i=true):ER m<=ER m':=by unfold ER;rw[a];exact ZU h _
theorem uM(d:m'.a=m.a)(h:∀i,m.e i=true->m'.e i=true):I8 m m'\/∀i,i<m.a->m'.e i=m.e i:=by
 by_cases a:∃i,i<m.a/\m.e i=false/\m'.e i=true
 .exact .w a
 right;intro i c;cases e:m.e i with
 |true=>exact h i e
 |false=>
  cases b:m'.e i with
  |false=>rfl
  |true=>exact absurd ⟨i,c,e,b⟩ a
theorem qm(b:m'.a=m.a)(h:∀i,i<m.a->m'.e i=m.e i):ER m'=ER m:=by unfold ER;rw[b];exact List.countP_congr (λi a=>by rw[h i (Bv.1 a)])
theorem O2.step(b:m'.a=m.a)(a:∀i,m.e i=true->m'.e i=true)(g:f.d<m.a)(j:f.b<=ER m)(c:m.e f.d=true->f.b<ER m):f.b<=ER m'/\(m'.e f.d=true->f.b<ER m'):=by
 have h:=Gz b a;refine⟨by omega,λd=>?_⟩;cases e:m.e f.d with
 |true=>exact Dz (c e)
 |false=>exact Dz (I8.ER ⟨f.d,g,e,d⟩ a b)
theorem PK.p(h:PK m k m' Q)(c:O2 m):O2 m':=by refine⟨λf b g d=>c.a f (h.Fq b) g (h.Fq d),λf b=>?_⟩;have a:=h.Fq b;exact O2.step h.a h.l (IK a).2 (c.b f a).1 (c.b f a).2
def Ys(m:M)(t:Du)(r:Int×M):Prop:=
 WF r.2/\r.2.a=m.a/\r.2.d=m.d/\(∀i,m.e i=true->r.2.e i=true)/\O2 r.2 /\
  ((r.1=0/\m.b≠0/\∃c n K,L0 r.2 c n K t)\/(r.1=9/\(F5 m<EK t.length\/I8 m r.2))\/(r.1=10/\r.2.b=0))
theorem O2.renew(W:O2 m)(hw:WF m){t:Du}(ht:0<t.length):Ys m t (Fe m t):=by
 unfold Fe;by_cases j:F3 m t.length=0
 .rw[AC (by simp[j])];have T:=JW j;have am:EK t.length<=F5 m:=by
   unfold F3 at j;rw[AC T]at j;split at j
   .cases j
   omega
  have b:=K0 hw m.a (AB _);obtain⟨a,aA⟩:=E ((E4 m m.a).1);obtain⟨Q,hQ⟩:=E ((E4 m m.a).2);rw[<-aA,<-hQ]at b |-;have v:=b.p W;by_cases c:F3 a t.length=0
  .rw[AC (by simp[c])];have w:=JW c;have aa:EK t.length<=F5 a:=by
    unfold F3 at c;rw[AC w]at c;split at c
    .cases c
    omega
   have ay:=Kg b.wf;have ax:0<EK t.length:=by unfold EK;omega
   have aE:=FV a;have aD:=b.wf.a;have h4:=b.wf.d;have ah:∀i,i<a.a->a.e i=false->Q i=true/\∀p,p<m.d->a.c i p=[]:=λi z hb=>b.gone w i (by rw[b.a]at z;exact z) hb;have N:∀f∈Fq a,f.b<ER a:=λf l=>by
    have aB:=(v.b f l).2;cases e:a.e f.d with
    |true=>exact aB e
    |false=>obtain⟨i,p,q,n,A,r,rfl⟩:=K5.1 l;have:=(ah i n e).2 p (by rw[<-b.d];exact A);rw[this,Qc EB]at r;cases r
   have M:∀y,Fc (Fq a) (ER a) y=false:=λy=>by
    cases e:Fc (Fq a) (ER a) y with
    |false=>rfl
    |true=>obtain⟨f,l,e1,_⟩:=FE.1 e;exact Dz (N f l)
   have aj:Gr a ⟨0,0,none⟩ (Fc (FD (Gn a) a.d a.a))=1:=by unfold Gr;exact Va EB (M 1)
   obtain⟨s,hs⟩:=E (Km a Q t);have R:s=F4 (λ_=>false) ⟨Ej (ER a) 1 t,a,Q,a.a-1,a.d,λ_=>false⟩:=by rw[hs];unfold Km IF;rw[aj]
   rw[<-hs];have L:JX a Q (a.a-1) a.d:=JX.shut a Q _ (λi z=>by obtain⟨n,A,r⟩:=b.c i z;exact⟨by rw[b.a];exact n,A,r⟩)
   have u:=Mk (λ_=>false) ⟨Ej (ER a) 1 t,a,Q,a.a-1,a.d,λ_=>false⟩ b.wf;obtain⟨C,g⟩:=fR (K:=λ_=>false) b.wf L U (AB _) (Gg (ER a) 1 t);have S:=LH (λ_=>false) ⟨Ej (ER a) 1 t,a,Q,a.a-1,a.d,λ_=>false⟩ b.wf;have az:=Pq b.wf L (by rw[UX];exact AW _) U (AB _) (Gg (ER a) 1 t) (by rw[Ec];exact ax) (by rw[Ec];exact aa) s R;rw[<-R]at u g S;have F:ER a<256:=U;have H:EK t.length<65536:=U;have aw:∀i,m.e i=true->s.m.e i=true:=λi z=>u.1 i (b.l i z);have G:O2 s.m:=by
    refine⟨WY g F EB H v.a (M 1),λf l=>?_⟩;rcases g.found F EB H l with⟨k,i,q,d,_,rfl⟩|d
    .obtain⟨n,_,_,_,D⟩:=g.f k i q d;rw[g.a]at n;have a6:a.e i=false:=by
      rcases S i D with h|h
      .cases h
      exact h
     exact O2.step g.a u.1 (f:=Md (ER a) 1 t k i) n (AB _) (λh=>by have V:a.e i=true:=h;rw[a6]at V;cases V)
    exact O2.step g.a u.1 (IK d).2 (v.b f d).1 (v.b f d).2
   refine⟨u.2.1,u.2.2.i b.a,g.d.i b.d,aw,G,?_⟩;dsimp only;by_cases o:s.left=[]
   .rw[AD o];rw[o]at g;left;refine⟨I,T,ER a,1,s.S,⟨G.a,?_,λx y av=>?_,λf l=>(G.b f l).1,g.FV,ht,by omega,by decide⟩⟩
    .have aC:C.length=EK t.length:=by have d:=AX List.length g.part;rw[BX,Ec]at d;have h5:=g.le;rw[Ec]at h5;simp at d;omega
     refine⟨λk=>C.getD k (0,0),λk hk=>?_⟩;obtain⟨x,hx⟩:∃x,C[k]?=some x:=⟨_,AE U⟩;obtain⟨i,q⟩:=x;have e:C.getD k (0,0)=(i,q):=by rw[AI,hx];rfl
     obtain⟨n,A,r,K,D⟩:=g.f k i q hx;dsimp only;rw[e];refine⟨n,A,r,D,?_⟩;have e2:(Ej (ER a) 1 t)[k]?=some (Fo (IJ (ER a) 1 t k)):=by unfold Ej;simp[hk]
     rw[e2]at K;exact(Cs K).A
    by_cases P:x=ER a/\y=1
    .exact .s ⟨P.1,by omega⟩
    left;have d:=WK g F EB H v.a P av;unfold FK at d;simp only[AV]at d;obtain⟨f,l,rfl,_⟩:=FE.1 d.1;exact N f l
   rw[AC o];right;by_cases B:s.m.b=0
   .rw[AD B];exact .s ⟨I,B⟩
   rw[AC B];left;refine⟨I,.s ?_⟩;rcases az with h|h|h
   .exact absurd h o
   .exact absurd h B
   exact h.ahead b.l b.a
  rw[AD c];refine⟨b.wf,b.a,b.d,b.l,v,.s ?_⟩;dsimp only;unfold F3 at c |-;by_cases w:a.b=0
  .rw[AD w];exact .s ⟨I,w⟩
  rw[AC w]at c |-;left;split
  .rename_i d;refine⟨I,.s ?_⟩;rcases uM b.a b.l with h|h
   .exact h
   exfalso;have e:F5 a=F5 m:=by unfold F5 FT;rw[qm b.a h,b.a,b.d]
   omega
  rename_i d;rw[AC d]at c;exact absurd I c
 rw[AD j];refine⟨hw,I,I,λ_ h=>h,W,.s ?_⟩;dsimp only;unfold F3 at j |-;by_cases o:m.b=0
 .rw[AD o];exact .s ⟨I,o⟩
 rw[AC o]at j |-;left;split
 .rename_i c;exact⟨I,.w c⟩
 rename_i c;rw[AC c]at j;exact absurd I j
end Y
section
open Go.RowKit Go.Nt
variable {m:Y.M} {u:Bs->Option Bs} {l:List It} {t:Bs}
theorem jZ(k:Y.WF m)(t:Du):Y.WF (Y.Fe m t).2/\(Y.Fe m t).2.a=m.a/\(∀i,m.e i=true->(Y.Fe m t).2.e i=true)/\((Y.Fe m t).1=0\/(Y.Fe m t).1=9\/(Y.Fe m t).1=10)/\((Y.Fe m t).1=0->m.b≠0):=by
 have e:∀(m:Y.M) n,Y.F3 m n=0\/Y.F3 m n=9\/Y.F3 m n=10:=λm n=>by
  unfold Y.F3;split
  .exact .s (.s I)
  split
  .exact .s (.w I)
  exact .w I
 unfold Y.Fe;by_cases c:Y.F3 m t.length=0
 .rw[AC (by simp[c])];have f:=Y.JW c;have b:=Y.K0 k m.a (AB _);obtain⟨a,l⟩:=E ((Y.E4 m m.a).1);obtain⟨Q,o⟩:=E ((Y.E4 m m.a).2);rw[<-l,<-o]at b |-;by_cases g:Y.F3 a t.length=0
  .rw[AC (by simp[g])];obtain⟨s,j⟩:=E (Y.Km a Q t);have d:(∀i,a.e i=true->s.m.e i=true)/\Y.WF s.m/\s.m.a=a.a:=by rw[j];unfold Y.Km Y.IF;exact Y.Mk (λ_=>false) ⟨Ej (Y.ER a) (Y.Gr a ⟨0,0,none⟩ (Fc (FD (Y.Gn a) a.d a.a))) t,a,Q,a.a-1,a.d,λ_=>false⟩ b.wf
   rw[<-j];refine⟨d.2.1,d.2.2.i b.a,λi p=>d.1 i (b.l i p),?_,λ_=>f⟩;dsimp only;split
   .exact .w I
   split
   .exact .s (.s I)
   exact .s (.w I)
  rw[AD g];exact⟨b.wf,b.a,b.l,e _ _,λ_=>f⟩
 rw[AD c];exact⟨k,I,λi h=>h,e _ _,λh=>absurd h c⟩
theorem gg(j:Fu u (Eg l) t)(o:Y.WF m)(a:JU (Eg l) (Y.FT m) m.d=true):EK t.length<=Y.F5 m:=by
 have r:=UZ j;unfold JU at a;simp only[AV,BJ]at a;obtain⟨d,e⟩:=a;have f:=o.e;unfold Y.F5 EK;obtain⟨g,b⟩:=E (Y.FT m);obtain⟨p,c⟩:=E m.d;rw[<-b,<-c]at e |-;rw[<-b]at d;rw[<-c]at f;obtain⟨k,n⟩:=E (g/2);rw[<-n];have h:g<=2*k+1:=U;have i:2<=k:=U;have s:g*p<=(2*k+1)*p:=Bt _ h;have v:(2*k+1)*p=2*(k*p)+p:=by rw[D9,Nat.one_mul,Ck]
 have w:2*p<=k*p:=Bt _ i;have q:g*p*4<=(2*(k*p)+p)*4:=Bt _ U;omega
theorem rf{s:Sv}(n:Fu u (Eg l) t)(i:Y.WF m)(A:s.m<=Y.ER m)(g:s.e=false->Y.O2 m)(h:s.e=true->s.free=true)(k:(Y.Fe m t).1≠0):Kh s (Y.Fe m t).2 (Eg l) (Y.Fe m t).1=true:=by
 obtain⟨_,_,_,o,_⟩:=jZ i t;have v:(Y.Fe m t).1=9\/(Y.Fe m t).1=10:=o.resolve_left k;cases b:s.e with
 |true=>
  have w:Ks s (Y.Fe m t).2=true:=by unfold Ks;rw[h b];rfl
  unfold Kh;rw[w];rcases v with e|e<;>rw[e]<;>simp
 |false=>
  obtain⟨_,f,q,j,_,r⟩:=(g b).renew i (VO n);rcases r with⟨e,_⟩|⟨e,d⟩|⟨e,y⟩
  .exact absurd e k
  .rw[e];unfold Kh;cases c:Ks s (Y.Fe m t).2 with
   |true=>simp
   |false=>
    cases a:JU (Eg l) (Y.FT (Y.Fe m t).2) (Y.Fe m t).2.d with
    |false=>simp
    |true=>
     exfalso;unfold Ks at c;simp only[Bool.or_eq_false_iff,decide_eq_false_iff_not]at c;have z:=Y.Gz f j;have p:Y.ER (Y.Fe m t).2=Y.ER m:=U;rcases d with d|d
     .have x:Y.FT (Y.Fe m t).2=Y.FT m:=by unfold Y.FT;rw[p,f]
      rw[x,q]at a;exact Dz (gg n i a)
     exact Dz (Y.I8.ER d j f)
  rw[e];unfold Kh;rw[y];simp
end
namespace Y
open Go.RowKit Pk Go.Shelf
theorem qP(w:Z):Calls prog 84 #[.g] w λe w'=>e=.a (.g)/\Below w.heap.size w w':=by
 obtain⟨a,c⟩:=E w.heap.size;obtain⟨f,d⟩:=E (w.alloc (.map #[] 0));have u:=Ia d c.A;have t:Below a w f:=by rw[d,c];exact Iy
 have q:=kE w;rw[<-d,<-c]at q;have z:Hid (NJ f (a+1) a 0 (λ_=>[])):=J (by rw[d,c];exact NJ.made w);have x:=J d;have v:=J c;have i:=J u;have A:=J t;rw[<-c];clear d c u t;go_enter func84,ntmps84;go_wp2_with rw[<-x.o,<-v.o];refine wp_loop_rounds 1 ?_;rw[DT];go_wp2_with fail;refine(eD (some a) f).l ?_;rintro e k ⟨rfl,g⟩;have s:k.heap.size=a+2:=by rw[g];simp[i.o]
 have j:=JK g;have o:k.cell? (O f.heap.size 0)=some (.e a):=by rw[g];simp
 have p:=z.o.f j (AB _);have l:=J (p.keys (Bm:=f.heap.size) (λb h=>absurd I h) U (by rw[i.o];omega) o);have C:Hid (Below a w k):=J (A.o.i (j.l (by rw[i.o];omega)));have D:=J s;clear j o g s p q;go_wp2_with fail;refine l.o.l ?_;rintro e H ⟨_,G,rfl,-,-,n,-,m,r⟩;have B:G=[]:=List.eq_nil_iff_forall_not_mem.2 (λb F=>absurd I ((n b).1 F));subst B;have y:Hid (Below a w H):=J (C.o.i (r.l (by rw[D.o];omega)));rcases m.2 with⟨rfl,_⟩|⟨_,_,_,rfl,_⟩;all_goals
  clear m r n l;go_wp2_with fail;refine wp_loop_rounds 1 ?_;rw[DT];go_wp2_with fail;go_ret;exact⟨I,y.o⟩
theorem xG(n:Nat)(j:1<=n)(w:Z)(B:Nat)(d:Nat)(S:Nat->Prop)(f:B<d)(c:w.cell? (O B 0)=some (.g)):Ih Fence.wide n prog 138 #[.c B] Nc [] d S w:=by
 intro l _ W b g a;have h:W.cell? (O B 0)=some (.g):=by rw[b.cell (p:=⟨B,0,none⟩) f];exact c
 have e:=J a;clear c a g b;refine Cy func138 I trivial ?_ I;simp only[ntmps138,BV,Ae,Bf,Nat.reduceAdd,Nat.reduceSub,Bc,Bb,Bo,Bh,BB,Az];gi_wp2;gi_loopw [3] (λi wr=>i=.a (-1)/\wr=W) (λ_ _=>0)
 case atStart=>exact⟨I,I⟩
 case round=>obtain⟨rfl,rfl⟩:=hrel;gi_wp2;go_end0;exact⟨⟨_,I⟩,e.o⟩
end Y
namespace Y
open Go.RowKit Pk Go.Shelf
open Go.Nt (Fp Ea Fc FE Le Oa FD GO Fi LG IW)
attribute [local go_sem] Oper.semAt_some
def UT(l:List Fp)(w:Z)(e:Ending)(w':Z):Prop:=∃(v:Value) (ord:List (Nat×Nat)) (ib nb:Nat->Nat->Nat),e=.a v/\Gx l ord/\ord.length<=100000*100000/\w'.ownsRow w.heap.size 94 5 v ord.length (PU l ib ord.reverse) /\
 (∀x∈ord,GO l x.1 x.2=some (GY l x.1 x.2)/\w.heap.size<=ib x.1 x.2/\nb x.1 x.2<=100000/\FI w' (ib x.1 x.2) (nb x.1 x.2) (LG (GY l x.1 x.2)))/\Below w.heap.size w w'
theorem Pn(w:Z)(F d cb:Nat)(L:Loc)(m:M)(u:WF m)(h:CP w F d cb L m)(t:d<=w.heap.size)(i:m.b≠0)(l:List Fp)(hl:FD (Gn m) m.d m.a=l)(c:∀f∈l,Le f/\f.d<1000) :
 CallsIn Fence.wide 20 prog 45 #[.c cb] w λe w'=>UT l w e w':=by
 obtain⟨i0,eb,dE,dR,dW⟩:=An S7;have T:m.a*m.d<=100000:=by
  have g:=u.a;have p:=u.b
  calc m.a*m.d<=32*16:=Co U U
   _<=100000:=U
 have A:=J (QY w F d cb L m u h t i);obtain⟨u,hz⟩:=E w.heap.size;have t:=J hz;have d:=J hl;have i:=J h;have dw:=J c;unfold UT;rw[<-hz];clear hl hz h c;refine callsIn_of_wp_marks func45 I trivial ?_ I;simp only[ntmps45,BV,Ae,Bf,Nat.reduceAdd,Nat.reduceSub,Bc,Bb,Bo,Bh,BB,Az];gi_wp2_with fail;refine⟨trivial,(B7.2 A).l ?_⟩;rintro e F ⟨rfl,i,H⟩;rw[<-t.o]at i H |-;rw[d.o]at i;have e5:=J i;have dT:=J H;obtain⟨d,t⟩:=E F.heap.size;have R:u<d:=by rw[t];exact i.lt
 obtain⟨P,c⟩:=E (F.alloc (.map #[] 0));obtain⟨G,ax⟩:=E (P.alloc (.cells #[.e d] 137));have N:P.heap.size=d+1:=by rw[c,t];simp
 have s3:G.heap.size=d+2:=by rw[ax];simp[N]
 have dt:=vm F;rw[<-c,<-t]at dt;have o2:P.ownsMap prog 90 Kj d 0 (.map []):=by rw[c,t];exact DJ F _ _ _
 have P:Below d F G:=by rw[ax,c,t];exact((AP _ F).alloc (AB _) _).alloc EJ _
 have Q:G.ownsMap prog 90 Kj d 0 (.map []):=Uq o2 (by rw[ax];exact AO _ _ _ U);have be:=Gi ax N;have bn:=i.y (P.u u R);have B:=J (kN G u (m.a*m.d) l bn T (λf F=>(dw f F).1));change Hid _ at c;have cc:=J ax;change Hid _ at t N;have t:=J s3;change Hid _ at Q;have T:=J be;have dd:=J bn;have df:=J (H.i (P.l (C5 R)));clear i H ax s3 o2 P be bn A e5;gi_wp2_with rw[<-cc.o,N.o];refine⟨trivial,(B7.2 B).l ?_⟩;rintro e w4 ⟨rfl,i,af⟩;rw[t.o]at i af |-;obtain⟨D,G,N,t⟩:=i;change Hid _ at N;have dM:Hid (∀kl,Maps.has D kl=true->∃x y,x<=1000000/\y<=4294967295/\kl=lk x y):=J (λkl i=>by
  obtain⟨x,y,g,p,rfl⟩:=t kl i;exact⟨x,y,g,p,I⟩)
 have cz:=G.size_le;have cS:=G.lt;have da:=J (Uq (w':=w4) Q (af.d d));have dy:=J ((af.d (d+1)).i T);have di:=J (dd.o.y (af.d u));have ds:=J (df.o.i (af.b));clear t af B;gi_wp2_with (first|(gi_at_range;refine wpListIn_range_own _ I _ 130 I 90 243 Jb underlying130 _ (d+2) _ D I G ?_;intro P H t cW)|gi_in)
 go_frame
 obtain⟨F,R⟩:=E w4.heap.size;have dg:=J (Uq (w':=P) da (t.u d U (λe=>by cases e)));have P:=J ((t.u (d+1) U (λe=>by cases e)).i dy);have dj:=J (di.o.y (t.u u U (λe=>by cases e)));have dh:=J (ds.o.C t U (λk e=>by cases e));rw[<-R]at H cW cS |-;change Hid _ at H;clear R t G da dy di ds dt c cc Q T dd df dT
 gi_loopw [17] (λ_ G=>∃(left:Lit->Bool) (cnt n:Nat),G.ranges prog 90 unitElem (d+2) F 100000 D left cnt/\n+cnt<=100000/\Hid (ZE G left (F+1) d n l (Maps.has D))/\Hid (KO G u (m.a*m.d) (Ea l))/\Hid (G.heap[d+1]? = some (.cells #[.e d] 137 (0,0)))/\Hid (Below u w G)/\F<G.heap.size)
  (λ_ G=>G.rangeLeft (d+2) F)
 .exact⟨_,_,0,H,by simpa using cz,J ⟨_,_,_,_,WM.made l dg.o,λb r _ _=>by cases Maps.has D (lk b r)<;>simp⟩,dj,P,dh,by omega⟩
 .clear H dg P dj dh;obtain⟨left,cnt,n6,cl,_,HS,HF,HR,HB,_⟩:=hrel;gi_wp2_with (first|(gi_at_next;refine wpListIn_next_ranges _ rfl _ rfl 90 Jb unitElem id id (λkey kl i=>⟨key,I⟩) (λv _ _=>⟨v,I⟩) (d+2) F 100000 _ _ _ I cl ?_ ?_)|gi_in)
  .intro _ dn;obtain⟨DW,S,ib,nb,G,bE⟩:=HS.o;have bb:∀b r,b<=1000000->r<=4294967295->S b r=FK l b r:=λb r g p=>by
    rw[bE b r g p,dn,N.o b r g p];unfold FK;simp
   change Hid _ at bb;obtain⟨P,c⟩:=E (wr.alloc (.cells #[.g] 86));obtain⟨t,N⟩:=E wr.heap.size;have H:=Ia c N.A;have T:∀k,k<t->P.heap[k]? = wr.heap[k]? := λk i=>by rw[c];exact Jm
   have R:=Gi c N.A;have cR:∀b r,S b r=true->ib b r<t:=λb r h=>by exact Dz ((G.OU b r h).2.2.2.2.2.2.lt)
   have Q:=(T _ U).i HR.o;have bT:=G.kept (λk _ hl=>T k U);have k7:=EV 0 Q;have de:=J R;have bm:RL w u d t (F+1) 0 n6 l DW S ib nb [] P:=⟨⟨_,R,Af _ _ _ _⟩,bT,cR,Q,by rw[c];exact HB.o.a⟩;change Hid _ at bm;have ej:F<t:=U
   change Hid _ at c N H;clear cl HS HF HR HB T R Q G bT dn bE;gi_wp2_with rw[<-c.o,<-N.o];refine⟨trivial,(B7.2 (mM (some d) P)).l ?_⟩;rintro e N ⟨rfl,Q⟩;rw[H.o];have s8:N.heap.size=t+2:=by rw[Q];simp[H.o]
   have b8:Below (t+1) P N:=by rw[Q];exact(AP _ _).alloc (by rw[H.o];omega) _
   have P:N.cell? (O (t+1) 0)=some (.e d):=by rw[Q,<-H.o];simp
   have c:=bm.o.wm.Mi bm.o.h (λk i hl=>b8.d k);have H:=rT 17 U (t+1) d n6 _ N U P c.own (λkl i=>by
    obtain⟨b,r,g,p,e⟩:=c.keys kl i;exact⟨(b,r),⟨g,p⟩,e⟩)
   have C8:=J (sw 19 U 143 _ (enters_of func143 EG I) _ _ (AG c.own.size_le U) N H);have b9:=J c.has;change Hid _ at b8 s8;have dZ:=J c.own;clear H P Q c;gi_wp2_with fail;refine⟨trivial,C8.o.l ?_⟩;rintro e w9 ⟨_,H,rfl,⟨bK,aL,aB⟩,aN,au,bB⟩;by_cases ca:H=[]
   .have c:=au.2 ca;subst ca;subst c;have aV:∀b r,b<=1000000->r<=4294967295->FK l b r=false:=λb r g p=>by
     rw[<-bb.o b r g p,<-b9.o b r g p];cases c:Maps.has DW (lk b r)with
     |false=>rfl
     |true=>have:=(aB (b,r) ⟨g,p⟩).2 c;cases this
    have HT:Hid (Gx l []):=J ⟨[],[],λ_=>[],List.nodup_nil,λx=>⟨λh=>(by cases h),λ⟨g,p,T⟩=>(by rw[aV x.1 x.2 g p]at T;cases T)⟩,by simp[Asc],List.nodup_nil,by simp[numsOf],λb hb=>(by cases hb),I⟩;have ai:=b8.o.i (bB.l (by rw[s8.o];omega));have s9:t+2<=w9.heap.size:=by have:=bB.size;rw[s8.o]at this;exact this
    change Hid _ at ai;clear bK aL aB aN au bB C8 b8 aV;gi_wp2_with fail;refine⟨trivial,(B7.2 (qP w9)).l ?_⟩;rintro e P ⟨rfl,an⟩;have ao:=ai.o.i (an.b);have dG:t+2<=P.heap.size:=Dz an.size
    change Hid _ at ao;clear an ai s9;gi_wp2_with fail;refine⟨trivial,(B7.2 (mC none 0 0 P)).l ?_⟩;rintro e R ⟨rfl,a6⟩;have dP:=Ia a6;have bz:=JK a6;have bI:R.cell? (O P.heap.size 0)=some (.g):=by rw[a6];simp
    have bl:=xG 19 U R P.heap.size R.heap.size (λk=>k=P.heap.size) U bI;have N:=ao.o.i (bz.b);obtain⟨ac,am⟩:=E R.heap.size;have bp:RL w u d t (F+1) ac n6 l DW S ib nb [] R:=by
     obtain⟨⟨v,aG,ah⟩,G,av,aP,aR⟩:=bm.o;exact⟨⟨_,(N.d t).i de.o,Af _ _ _ _⟩,G.Mi av (λk i hl=>N.d k),av,(N.d _).i aP,aR.i (N.b)⟩
    change Hid _ at am;clear a6 bz bI k7 bm ao N;gi_wp2_with fail;refine X5 I U (gf:=138) (lb:=#[.c P.heap.size]) I trivial (enters_of func138 EG I) bl (AB _) (λk h=>by omega) (λ_=>rfl) (RL w u d t (F+1) ac n6 l DW S ib nb)
     (λs A C row hs hg hr=>hs.C (B:=R.heap.size) U U U (Dz hs.wm.own.lt) hg hr) bp
     (λx W=>{ tmps:=#[.c cb,undef,.g,.e u,.c (d+1),u5,u6,u7,.c t,undef,.c W.heap.size,.c cb,.e u,.e d,.e u,.map (some (d+2)),.c F,.tuple #[.bool false],.bool false,u19,u20,u21,u22,u23,u24,u25,u26,u27,u28,u29,u30,.e d,.func (.func 143) #[] #[.c (t+1)],.g,.g,.func (.func 138) #[] #[.c P.heap.size],.a (x.1:Nat),.agg #[.a (x.2.1:Nat),.d (x.2.2:Nat)],undef,undef,undef,undef,undef,undef,undef],defers:=[] }) (λx W=>W.alloc (.cells #[.a (x.2.1:Nat),.d (x.2.2:Nat)] 90)) (λx W=>Iy) ?nas ?nassign ?nbody ?ndone
    .exact λbc x W hs=>hs.C (B:=R.heap.size) U U U (Dz hs.wm.own.lt) (BF W _ none) (λr e=>by cases e)
    .intro l x W K c;unfold Nc;gi_wp2;exact c
    .intro l0 bc x W V hV hI aH dI cC
     have:=aH.length_le
     simp at this
    intro D' W hD hI c;obtain⟨⟨v,aG,ah⟩,G,av,aP,aR⟩:=hI;obtain⟨dS,ed⟩:=cell_of_box_a aG;have aa:u<=ac:=Dz am.o
    rcases ah.2 with⟨rfl,_⟩|⟨g3,cap3,cur3,rfl,_⟩
    all_goals
     gi_wp2;refine⟨by simp,.w ⟨_,_,I,run_takeDeferred c,?_⟩⟩;exact⟨_,results_tmp I _ _ _,_,[],ib,nb,I,HT,by simp,ownsRow_base_a (ah.kept (grownBy_putObj_a _ _ _) (ownsRow_ne_a ah c (λd8 e=>by cases e))) aa,λx hx=>(by cases hx),aR.C (grownBy_putObj_a _ _ _) (Dz G.own.lt) (λk e=>by cases e;omega)⟩
   obtain⟨⟨Q,r0⟩,br⟩:=Cr _ ca;have b6:=ca;have cM:H.length<=100000:=AG (oT dZ bK aL (λx hx=>(aB x (aL x hx)).1 hx)) U;have co:∀x,x∈H↔(x.1<=1000000/\x.2<=4294967295/\FK l x.1 x.2=true):=λx=>by
    constructor
    .intro hx;have g:=aL x hx;have p:=(aB x g).1 hx;rw[b9.o x.1 x.2 g.1 g.2,bb.o x.1 x.2 g.1 g.2]at p;exact⟨g.1,g.2,p⟩
    rintro⟨g,p,T⟩;exact(aB x ⟨g,p⟩).2 (by rw[b9.o x.1 x.2 g p,bb.o x.1 x.2 g p];exact T)
   rcases aN.2 with⟨h0,_⟩|⟨g9,cap9,cur9,rfl,q1,q2,q3,q4,q5,q6⟩
   .exact absurd (au.1 h0) b6
   have C9:=J (uQ w9 g9 cap9 cur9 H q2 q6 b6 cM (λx hx=>(co x).1 hx |>.elim λa b=>⟨a,b.1⟩));obtain⟨nx,dp⟩:=E H.length;rw[<-dp]at C9 |-;have ai:=b8.o.i (bB.l (by rw[s8.o];omega));have s9:t+2<=w9.heap.size:=by have:=bB.size;rw[s8.o]at this;exact this
   change Hid _ at ai co bK br;have dr:Hid (H.length<=100000):=J cM;clear aL aB aN au bB q1 q2 q3 q4 q5 q6 C8 b8 dp cM b6 ca;gi_wp2_with fail;refine⟨trivial,(B7.2 C9).l ?_⟩;rintro e P ⟨_,ks,rs,rfl,bQ,bi,aw,cy,ag,an⟩;obtain⟨aC,aJ⟩:=E (ks.flatMap (λb=>Gp b (rs b)));rw[<-aJ]at ag;have HT:Hid (Gx l aC):=J ⟨H,ks,rs,bK,co,bQ,bi,aw,cy,aJ⟩;have bF:aC≠[]:=λe=>by
    have g:r0∈numsOf H Q:=AZ.2 ⟨(Q,r0),Ad.2 ⟨br,by simp⟩,I⟩;have p:=(aw Q).2 (λe'=>by rw[e']at g;cases g);obtain⟨ys,hp,_,er⟩:=cy Q p;have T:=List.length_pos_of_mem (hp.mem_iff.2 g);have h4:(rs Q).length=ys.length:=by rw[er];simp;omega
    have h5:aC.length=0:=by rw[e];rfl
    cases hr:rs Q with
    |nil=>rw[hr]at h4;simp at h4;omega
    |cons y l' =>
      have:(Q,y)∈aC:=by rw[aJ];exact List.mem_flatMap.2 ⟨Q,p,AZ.2 ⟨y,by rw[hr];simp,I⟩⟩
      rw[e]at this;cases this
   have dl:aC.length<=100000*100000:=by
    have g:ks.length<=100000:=by
     have:=Ly ks (H.map (·.1)) bi (λb hb=>by
      obtain⟨x,hx⟩:=Cr _ ((aw b).1 hb);unfold numsOf at hx;obtain⟨y,Q,rfl⟩:=AZ.1 hx
      have:=Ad.1 Q
      exact AZ.2 ⟨y,this.1,by simpa using this.2⟩)
     rw[B0]at this
     exact Dz dr.o
    have p:=yS ks (λb=>Gp b (rs b)) 100000 (λb hb=>by
     obtain⟨ys,hp,_,er⟩:=cy b hb;have e1:(rs b).length=ys.length:=by rw[er];simp;omega
     have e2:=hp.length_eq;have e3:=lT H b
     have:=dr.o
     simp only[Gp,B0];omega)
    rw[aJ];exact AG p (Bt _ g)
   rcases ag.2 with⟨_,h0⟩|⟨Q,H,cur10,rfl,q1,q2,q3,q4,q5,q6⟩
   .exact absurd (BP.1 h0) bF
   have ao:=ai.o.i (an.b);have dG:t+2<=P.heap.size:=Dz an.size
   have bP:=lt_of_heap q2;have cX:t<Q:=U
   change Hid _ at ao;obtain⟨no,aV⟩:=E aC.length;have dF:=J aV;rw[<-aV];clear bQ bi aw cy aJ bK br co ag an q1 q3 q4 q5 C9 ai s9 aV;gi_wp2_with fail;refine⟨trivial,(B7.2 (mC (FH Q) no H P)).l ?_⟩;rintro e R ⟨rfl,a6⟩;have dP:=Ia a6;have bz:=JK a6;have bI:R.cell? (O P.heap.size 0)=some (.b Q aC.length H):=by rw[a6,dF.o];simp
   have bl:=ri 19 U R P.heap.size Q H aC R.heap.size (λk=>k=P.heap.size\/k=Q) U U (.w I) (.s I) dl bI cur10 ((bz.u Q bP).i q2) q6;have N:=ao.o.i (bz.b);obtain⟨ac,am⟩:=E R.heap.size;have bp:RL w u d t (F+1) ac n6 l DW S ib nb [] R:=by
    obtain⟨⟨v,aG,ah⟩,G,av,aP,aR⟩:=bm;exact⟨⟨_,(N.d t).i de,Af _ _ _ _⟩,G.Mi av (λk i hl=>N.d k),av,(N.d _).i aP,aR.i (N.b)⟩
   change Hid _ at am;clear a6 bz bI k7 bm ao N q2 q6;gi_wp2_with fail;refine X5 I U (gf:=138) (lb:=#[.c P.heap.size]) I trivial (enters_of func138 EG I) bl (AB _) (λk h=>by rcases h with h|h<;>omega) (λ_=>rfl) (RL w u d t (F+1) ac n6 l DW S ib nb)
    (λs A C row hs hg hr=>hs.C (B:=R.heap.size) U U U (Dz hs.wm.own.lt) hg hr) bp
    (λx W=>{ tmps:=#[.c cb,undef,.g,.e u,.c (d+1),u5,u6,u7,.c t,undef,.c W.heap.size,.c cb,.e u,.e d,.e u,.map (some (d+2)),.c F,.tuple #[.bool false],.bool false,u19,u20,u21,u22,u23,u24,u25,u26,u27,u28,u29,u30,.e d,.func (.func 143) #[] #[.c (t+1)],.b g9 nx cap9,.b Q no H,.func (.func 138) #[] #[.c P.heap.size],.a (x.1:Nat),.agg #[.a (x.2.1:Nat),.d (x.2.2:Nat)],undef,undef,undef,undef,undef,undef,undef],defers:=[] }) (λx W=>W.alloc (.cells #[.a (x.2.1:Nat),.d (x.2.2:Nat)] 90)) (λx W=>Iy) ?has2 ?assign ?body ?done
   .exact λbc x W hs=>hs.C (B:=R.heap.size) U U U (Dz hs.wm.own.lt) (BF W _ none) (λr e=>by cases e)
   .intro l x W K c;unfold Nc;gi_wp2;exact c
   .intro l0 bc x W V hV hI aH dI cC;obtain⟨i',b,r⟩:=x;have ci:S b r=true:=by
     have g:(i',b,r)∈bw aC:=aH.subset EJ;have p:(b,r)∈aC:=by
      have:=List.mem_map_of_mem (f:=(·.2)) g
      rw[jI]at this;exact DR.1 this
     have T:=HT.o.mem p;rw[bb.o b r T.1 T.2.1];exact T.2.2
    have H:bc.length<=100000*100000:=by
     have:=aH.length_le
     rw[XH]at this;simp at this;omega
    obtain⟨⟨v,aG,cQ⟩,G,av,aP,aR⟩:=hI;obtain⟨hb,hr,-,-,_,-,-⟩:=G.OU b r ci;have H:=av b r ci;have ee:=lt_of_heap aG;have e4:=lt_of_heap aP;dsimp only at hV cC |-;obtain⟨kb,aZ⟩:=E W.heap.size;have cJ:V.heap[kb]? = some (.cells #[.a b,.d r] 90 (0,0)):=by
     rw[aZ,hV _ (AB _) EJ];exact AR _ _
    rw[<-aZ];obtain⟨N,hX⟩:=E (X (Fi (GY l b r)));obtain⟨z0E,hE⟩:=E (IW (GY l b r));obtain⟨IB,cF⟩:=E (ib b r);have H:=EV 0 aG;have H:=EV 0 aP;have H:=EV 0 cJ;have H:=EV 1 cJ;have H:(Instr.lookup 137 (.e d) (.agg #[.a b,.d r]) false).run prog V.drew=.ok (.agg #[.string N,.a b,.d r,.e IB,.a z0E]) V.drew:=by
     rw[hX,hE,cF];exact(G.Mi (w':=V.drew) av (λ_ _ _=>rfl)).look ci
    obtain⟨V2,H⟩:=E ((V.alloc (.cells #[.string N,.a b,.d r,.e IB,.a z0E] 94)).drew);have e6:V2.heap.size=V.heap.size+1:=by rw[H];show(V.alloc _).heap.size=_;simp
    have bW:∀k,k<V.heap.size->V2.heap[k]? = V.heap[k]? := λk i=>by rw[H];exact AO V _ k i
    have dc:V2.heap[V.heap.size]? = some (.cells #[.string N,.a b,.d r,.e IB,.a z0E] 94 (0,0)):=by rw[H];exact AR _ _
    have em:=EV 0 ((bW t U).i aG);have cZ:V.grownBy V2 none:=by rw[H];exact⟨I,I,I,by simp,λk i _=>AO V _ k i⟩
    have bf:=cQ.kept cZ (by cases v.ownBlock<;>simp);have dN:W.heap.size+1<=V.heap.size:=EU cC
    have aa:ac<=V2.heap.size:=Dz am.o
    obtain⟨_,w3,aQ,a9,bj,bH,cU⟩:=run_append_own_at (P:=prog) V2 ac 86 86 94 i0 _ 5 48 underlying86 eb dE dR dW I EB v bc.length _ bf ⟨V.heap.size,0,none⟩ 1 1 [.string N,.a b,.d r,.e IB,.a z0E] I (World.news_of_block (cs:=#[.string N,.a b,.d r,.e IB,.a z0E]) dc) (by simp[Value.oneCell']) Fs U aa;have cf:∀k,v.ownBlock=some k->ac<=k:=λk e=>(cQ.lt k e).1
    have dv:P.heap.size+1=ac:=Dz am.o
    have ah:=(bj.u t U (λe=>by exact Dz (cf t e.A))).i ((bW t U).i aG);obtain⟨_,_⟩:=cell_of_box_a ah;rcases a9.2 with⟨_,h0⟩|⟨g3,cap3,cur3,rfl,q1,q2,q3,q4,q5,q6⟩
    .omega
    obtain⟨np,cI⟩:=E (bc.length+1);rw[<-cI]at aQ a9;obtain⟨w4,aD⟩:=E (w3.setCell (O t 0) (.b g3 np cap3));have bJ:w3.grownBy w4 (some t):=by rw[aD];exact grownBy_setCell0_a _ _ _
    have e7:=bj.size;have cu:∀k,k≠t->k<ac->k<V.heap.size->w4.heap[k]? = V.heap[k]? := λk i hz hl=>(bJ.u k U (λe=>by cases e;exact i I)).i ((bj.u k U (λe=>by exact Dz (cf k e.A))).i (bW k hl))
    have a7:∀a,gr R.heap.size (λk=>k=P.heap.size\/k=Q) (RL w u d t (F+1) ac n6 l DW S ib nb) (bc++[(i',b,r)]) V .normal a w4:=λa=>by
     refine⟨?_,λk h => ?_,⟨⟨_,by rw[aD];exact heap_setCell_box_a _ ah,?_⟩,G.Mi av (λk i hl=>cu k U U hl),av,(cu _ U U U).i aP,?_⟩⟩
     .refine KeepsFrom.trans (?_:KeepsFrom _ V V2) (KeepsFrom.trans (?_:KeepsFrom _ V2 w3) (KeepsFrom.of_grownBy bJ (λj e=>by cases e;omega)))
      .exact⟨by omega,λk o _ i _=>(bW k (lt_of_heap i)).i i⟩
      exact⟨bj.size,λk o _ i t=>(bj.u k (lt_of_heap i) (λe=>by
       rcases bf.2 with⟨e2,_⟩|⟨_,_,_,e2,_,e3,_⟩
       .rw[e2]at e;cases e
       rw[e2]at e;cases e;rw[i]at e3;cases e3;cases t)).i i⟩
     .exact cu k (by rcases h with h|h<;>omega) (by rcases h with h|h<;>omega) (by rcases h with h|h<;>omega)
     .have:=a9.kept bJ (ownsRow_ne_a a9 ah (λd8 e=>by cases e))
      rw[Au,List.map_singleton,wj,AM,List.length_singleton,<-cI];unfold PF;rw[<-hX,<-hE,<-cF];exact this
     have t:Below u w V2:=by rw[H];exact(aR.a).drew
     exact(t.C bj U (λk e=>by exact Dz (cf k e))).C bJ U (λk e=>by cases e;omega)
    change Hid _ at H aD;clear hV aZ cJ aG cQ bf G av aP aR hX hE cF bW dc a9 bj bH cU ah q1 q2 q3 q4 q5 q6 bJ e7 cu e4 e6 ee cZ cf cI aH ci;gi_wp2_with fail;refine wpIn_region_any EG ?_;refine C6 (rs:=[0,1,2]) EG EJ ?_;refine B5 I (λK c => ?_) (B5 I (λK c => ?_) (B5 I (λK c => ?_) (Cd)))
    .go_simp;refine c _ _ ?_;clear c K;refine C6 (rs:=[1,2]) EG EJ ?_;refine B5 I (λK c => ?_) (B5 I (λK c => ?_) (Cd))
     focus
      go_simp;refine c _ _ ?_;clear c K;refine C6 (rs:=[2]) EG EJ ?_
     rotate_left
     focus
      go_simp;refine c _ _ ?_;clear c K;refine C6 (rs:=[1]) EG EJ ?_
     rotate_left
     all_goals
      refine B5 I (λK c => ?_) (Cd)
      .go_simp;refine c _ _ ?_;clear c K;refine KD 3 EG I (λK c => ?_)
       .go_simp;refine c _ _ ?_;refine KD 4 EG I (λK c => ?_)
        .go_simp;refine c _ _ ?_;rw[<-H.o];refine KD 5 EG I (λK c => ?_)
         .refine Qn I _ _ 86 I v (.b V.heap.size 1 1) I I _ _ aQ (c _ _ ?_);simp only[Act.put,Ar,List.set];refine KD 6 EG I (λK c => ?_)
          .go_simp;refine c _ _ ?_;rw[<-aD.o];refine DI EG ?_ _;exact a7 { tmps:=#[],defers:=[] }
    .go_simp;refine c _ _ ?_;refine C6 (rs:=[0,2]) EG EJ ?_;refine B5 I (λK c => ?_) (B5 I (λK c => ?_) (Cd))
     .go_simp;refine c _ _ ?_;refine KD 2 EG I (λK c => ?_)
      .go_simp;refine c _ _ ?_;refine KD 3 EG I (λK c => ?_)
       .go_simp;refine c _ _ ?_;refine KD 4 EG I (λK c => ?_)
        .go_simp;refine c _ _ ?_;rw[<-H.o];refine KD 5 EG I (λK c => ?_)
         .refine Qn I _ _ 86 I v (.b V.heap.size 1 1) I I _ _ aQ (c _ _ ?_);simp only[Act.put,Ar,List.set];refine KD 6 EG I (λK c => ?_)
          .go_simp;refine c _ _ ?_;rw[<-aD.o];refine DI EG ?_ _;exact a7 { tmps:=#[],defers:=[] }
     go_simp;refine c _ _ ?_;refine C6 (rs:=[0,3]) EG EJ ?_;refine B5 I (λK c => ?_) (B5 I (λK c => ?_) (Cd))
     .go_simp;refine c _ _ ?_;refine KD 3 EG I (λK c => ?_)
      .go_simp;refine c _ _ ?_;refine KD 4 EG I (λK c => ?_)
       .go_simp;refine c _ _ ?_;rw[<-H.o];refine KD 5 EG I (λK c => ?_)
        .refine Qn I _ _ 86 I v (.b V.heap.size 1 1) I I _ _ aQ (c _ _ ?_);simp only[Act.put,Ar,List.set];refine KD 6 EG I (λK c => ?_)
         .go_simp;refine c _ _ ?_;rw[<-aD.o];refine DI EG ?_ _;exact a7 { tmps:=#[],defers:=[] }
     go_simp;refine c _ _ ?_;refine C6 (rs:=[0,4]) EG EJ ?_;refine B5 I (λK c => ?_) (B5 I (λK c => ?_) (Cd))
     .go_simp;refine c _ _ ?_;refine KD 4 EG I (λK c => ?_)
      .go_simp;refine c _ _ ?_;rw[<-H.o];refine KD 5 EG I (λK c => ?_)
       .refine Qn I _ _ 86 I v (.b V.heap.size 1 1) I I _ _ aQ (c _ _ ?_);simp only[Act.put,Ar,List.set];refine KD 6 EG I (λK c => ?_)
        .go_simp;refine c _ _ ?_;rw[<-aD.o];refine DI EG ?_ _;exact a7 { tmps:=#[],defers:=[] }
     go_simp;refine c _ _ ?_;rw[<-H.o];refine KD 0 EG I (λK c => ?_)
     .go_simp;refine c _ _ ?_;refine KD 5 EG I (λK c => ?_)
      .refine Qn I _ _ 86 I v (.b V.heap.size 1 1) I I _ _ aQ (c _ _ ?_);simp only[Act.put,Ar,List.set];refine KD 6 EG I (λK c => ?_)
       .go_simp;refine c _ _ ?_;rw[<-aD.o];refine DI EG ?_ _;exact a7 { tmps:=#[],defers:=[] }
    go_simp;refine c _ _ ?_;refine C6 (rs:=[0,1]) EG EJ ?_;refine B5 I (λK c => ?_) (B5 I (λK c => ?_) (Cd))
    .go_simp;refine c _ _ ?_;refine KD 1 EG I (λK c => ?_)
     .go_simp;refine c _ _ ?_;refine KD 3 EG I (λK c => ?_)
      .go_simp;refine c _ _ ?_;refine KD 4 EG I (λK c => ?_)
       .go_simp;refine c _ _ ?_;rw[<-H.o];refine KD 5 EG I (λK c => ?_)
        .refine Qn I _ _ 86 I v (.b V.heap.size 1 1) I I _ _ aQ (c _ _ ?_);simp only[Act.put,Ar,List.set];refine KD 6 EG I (λK c => ?_)
         .go_simp;refine c _ _ ?_;rw[<-aD.o];refine DI EG ?_ _;exact a7 { tmps:=#[],defers:=[] }
    go_simp;refine c _ _ ?_;refine C6 (rs:=[0,3]) EG EJ ?_;refine B5 I (λK c => ?_) (B5 I (λK c => ?_) (Cd))
    .go_simp;refine c _ _ ?_;refine KD 3 EG I (λK c => ?_)
     .go_simp;refine c _ _ ?_;refine KD 4 EG I (λK c => ?_)
      .go_simp;refine c _ _ ?_;rw[<-H.o];refine KD 5 EG I (λK c => ?_)
       .refine Qn I _ _ 86 I v (.b V.heap.size 1 1) I I _ _ aQ (c _ _ ?_);simp only[Act.put,Ar,List.set];refine KD 6 EG I (λK c => ?_)
        .go_simp;refine c _ _ ?_;rw[<-aD.o];refine DI EG ?_ _;exact a7 { tmps:=#[],defers:=[] }
    go_simp;refine c _ _ ?_;refine C6 (rs:=[0,4]) EG EJ ?_;refine B5 I (λK c => ?_) (B5 I (λK c => ?_) (Cd))
    .go_simp;refine c _ _ ?_;refine KD 4 EG I (λK c => ?_)
     .go_simp;refine c _ _ ?_;rw[<-H.o];refine KD 5 EG I (λK c => ?_)
      .refine Qn I _ _ 86 I v (.b V.heap.size 1 1) I I _ _ aQ (c _ _ ?_);simp only[Act.put,Ar,List.set];refine KD 6 EG I (λK c => ?_)
       .go_simp;refine c _ _ ?_;rw[<-aD.o];clear c K;refine DI EG ?_ _;exact a7 { tmps:=#[],defers:=[] }
    go_simp;refine c _ _ ?_;rw[<-H.o];clear c K;refine KD 0 EG I (λK c => ?_)
    .go_simp;refine c _ _ ?_;clear c K;refine KD 5 EG I (λK c => ?_)
     .refine Qn I _ _ 86 I v (.b V.heap.size 1 1) I I _ _ aQ (c _ _ ?_);simp only[Act.put,Ar,List.set];clear c K;refine KD 6 EG I (λK c => ?_)
      .go_simp;refine c _ _ ?_;rw[<-aD.o];clear c K;refine DI EG ?_ _;exact a7 { tmps:=#[],defers:=[] }
   intro D' W hD hI c;obtain⟨⟨v,aG,ah⟩,G,av,aP,aR⟩:=hI;rw[jI,XH]at ah;obtain⟨dS,ed⟩:=cell_of_box_a aG;rcases ah.2 with⟨_,h0⟩|⟨g3,cap3,cur3,rfl,_⟩
   .exact absurd (BP.1 h0) bF
   have aa:u<=ac:=Dz am.o
   gi_wp2;refine⟨by simp,.w ⟨_,_,I,run_takeDeferred c,?_⟩⟩;refine⟨_,results_tmp I _ _ _,_,aC,ib,nb,I,HT,dl,ownsRow_base_a (ah.kept (grownBy_putObj_a _ _ _) (ownsRow_ne_a ah c (λd8 e=>by cases e))) aa,λx hx => ?_,aR.C (grownBy_putObj_a _ _ _) (Dz G.own.lt) (λk e=>by cases e;omega)⟩;have T:=HT.o.mem hx;obtain⟨_,_,c,_,_,t,H⟩:=G.OU x.1 x.2 (by rw[bb.o x.1 x.2 T.1 T.2.1];exact T.2.2);exact⟨c,by omega,t,H.y (World.putObj_heap_other (by have:=av x.1 x.2 (by rw[bb.o x.1 x.2 T.1 T.2.1];exact T.2.2);omega))⟩
  intro x _ kl _ _ c R bY dU hv dm c9 bO T dV cq;have Q:=CG dm;obtain⟨b,r,hb,hr,rfl⟩:=dM kl Q;have hx:=Jb.inj (bY.i I) (LR hb hr);subst hx;have t:F<c.heap.size:=U
  have t:∀k,k≠F->k<wr.heap.size->c.heap[k]? = wr.heap[k]? := λk i cP=>T.u k cP (λe=>by cases e;exact i I)
  obtain⟨DW,S,ib,nb,G,bE⟩:=HS.o;have bN:=G.kept (λk i hl=>t k U hl);have cA:n6+1+R<=100000:=U
  have d5:=HF.o.y (t u U U);have dk:=(t (d+1) U U).i HR.o;have dq:=HB.o.C T U (λq H=>by cases H;omega);obtain⟨kb,aZ⟩:=E c.heap.size;obtain⟨H,ax⟩:=E (c.alloc (.cells #[.a b,.d r] 90));have s3:=Ia ax aZ.A;have be:=Gi ax aZ.A;have c0:=EV 0 be;have c1:=EV 1 be;have P:∀k,k<kb->H.heap[k]? = c.heap[k]? := λk i=>by rw[ax];exact Jm
  have bn:=d5.y (P u U);have A:=J (sK H u (m.a*m.d) l b r bn dw.o hb hr);have bS:Hid (H.ranges prog 90 unitElem (d+2) F 100000 D (λz=>left z && !z.sameKey (lk b r)) R):=J (by rw[ax];exact c9.alloc _);have dz:=J cl;have bX:=J bO;have cc:=J ax;have cH:=J aZ;have aX:=J s3;have aW:=J P;have aT:=J bN;have e9:=J bE;have ea:=J Q;have cx:=J bn;have bZ:=J ((P (d+1) U).i dk);have ct:Hid (Below u w H):=J (by rw[ax];exact dq.a);have c:F<kb:=U
  have bG:=J be;clear cl c9 T dV bO dm hv bY dU Q t G bN bE d5 dk dq aZ ax s3 be P bn HS HF HR HB
  try simp only[id]at cq
  unfold lv at cq
  try simp only[id]
  unfold lv at A |-;gi_wp2_with (first|(rw[<-cc.o,<-cH.o])|gi_in);refine⟨trivial,(B7.2 A).l ?_⟩;rintro e bM ⟨af,t⟩;have aK:∀c:Nat->Nat->Bool,(∀x y,x<=1000000->y<=4294967295->c x y=((x==b&&y==r&&(GO l b r).isSome)||S x y))->∀x y,x<=1000000->y<=4294967295->c x y=(Maps.has D (lk x y) && !(left (lk x y) && !(lk x y).sameKey (lk b r))&&(GO l x y).isSome):=λc c x y g p=>by
   rw[c x y g p,e9.o x y g p];by_cases e:x=b/\y=r
   .obtain⟨rfl,rfl⟩:=e;have hs:Lit.sameKey (lk x y) (lk x y)=true:=by simp[Lit.sameKey,lk]
    rw[hs,ea.o];cases(GO l x y).isSome<;>simp
   have c:lk x y≠lk b r:=λG=>e (Tn g p hb hr G)
   rw[DL c]
   have:(x==b&&y==r)=false:=EU (λg p=>e ⟨g,p⟩)
   rw[this];simp
  change Hid _ at aK;rw[aX.o]at af t;have bL:kb+1<=bM.heap.size:=by have:=af.size;rw[aX.o]at this;exact this
  rcases t with⟨G,ii,n',t,rfl,_,hn',Q⟩|⟨aV,N,y,z,q,k,rfl⟩
  .obtain⟨N,hX⟩:=E (X (Fi G));obtain⟨z0E,hE⟩:=E (IW G);obtain⟨c,g⟩:=E (bM.alloc (.cells #[.string N,.a b,.d r,.e ii,.a z0E] 94));obtain⟨q5,P⟩:=E bM.heap.size;have s5:=Ia g P.A;have p:∀k,k<=kb->c.heap[k]? = H.heap[k]? := λk i=>by rw[g];exact(Jm).i (af.d k)
   have T:=Gi g P.A;have d0:=EV 0 T;have d1:=EV 1 T;have d2:=EV 2 T;have d3:=EV 3 T;have d4:=EV 4 T;have e0:=(AK (p kb (AB _))).i c0;have e1:=(AK (p kb (AB _))).i c1;have e2:=EV 0 ((p (d+1) U).i bZ.o);have bh:=cH.o;have aM:WM c (F+1) d n6 l DW S ib nb:=aT.o.kept (λk i hl=>(p k U).i (aW.o k U));have bV:FI c ii n' (LG G):=Q.y (by rw[g];exact AO _ _ _ Q.lt);obtain⟨w6,D6,eg,dD,G,bD,d6⟩:=aM.store hb hr t (i:=ii) (k:=n') U hn' bV U U;have bR:=d6.C;have cN:∀k,k≠d->k<c.heap.size->w6.heap[k]? = c.heap[k]? := λk i cP=>bR.u k cP (λe=>by cases e;exact i I)
   unfold rv lv at G;rw[<-hX,<-hE]at G;have G:Below (kb+1) H c:=by rw[g];exact af.alloc bL _
   have cL:=J ((ct.o.i (G.b)).C bR U (λk e=>by cases e;omega));have aI:w6.ranges prog 90 unitElem (d+2) F 100000 D (λz=>left z && !z.sameKey (lk b r)) R:=by
    have cG:H.grownBy c none:=⟨G.os,G.tape,G.output,G.size,λk i _=>G.u k (by rw[aX.o]at i;exact i)⟩;exact(bS.o.kept cG EJ EJ).kept bR EJ EL
   have cK:Hid (ZE w6 (λz=>left z && !z.sameKey (lk b r)) (F+1) d (n6+1) l (Maps.has D)):=J ⟨D6,_,eg,dD,bD,aK.o _ (λx y _ _=>by rw[t];simp)⟩;have cD:=J (cx.o.y ((cN u U U).i (p u U)));have cE:=J ((cN (d+1) U U).i ((p (d+1) U).i bZ.o));have cV:F<w6.heap.size:=Dz bR.size
   have aO:=J aI;change Hid _ at g P;rw[<-hX,<-hE];clear hX hE af Q bV p T aM bD d6 bR cN G aI t ct cx bZ aT aW bG A cq s5 bh;gi_wp2_with (first|(rw[<-g.o,<-P.o])|gi_in);go_roundw
   .exact⟨_,R,n6+1,aO,cA,cK,cD,cE,cL,cV⟩
   .rw[aO.o.left_eq,dz.o.left_eq];exact bX
  obtain⟨c,g⟩:=E (bM.alloc (.cells #[.string N,.a y,.d z,.map q,.a k] 94));obtain⟨q5,P⟩:=E bM.heap.size;have s5:=Ia g P.A;have p:∀k,k<=kb->c.heap[k]? = H.heap[k]? := λk i=>by rw[g];exact(Jm).i (af.d k)
  have bh:=cH.o;have aM:WM c (F+1) d n6 l DW S ib nb:=aT.o.kept (λk i hl=>(p k U).i (aW.o k U));have G:Below (kb+1) H c:=by rw[g];exact af.alloc bL _
  have cL:=J (ct.o.i (G.b));have aI:c.ranges prog 90 unitElem (d+2) F 100000 D (λz=>left z && !z.sameKey (lk b r)) R:=by
   have cG:H.grownBy c none:=⟨G.os,G.tape,G.output,G.size,λk i _=>G.u k (by rw[aX.o]at i;exact i)⟩;exact bS.o.kept cG EJ EJ
  have cK:Hid (ZE c (λz=>left z && !z.sameKey (lk b r)) (F+1) d n6 l (Maps.has D)):=J ⟨DW,S,ib,nb,aM,aK _ (λx y _ _=>by rw[aV];simp)⟩;have cD:=J (cx.o.y (p u U));have cE:=J ((p (d+1) U).i bZ);have cV:F<c.heap.size:=U
  have aO:=J aI;change Hid _ at g P;clear af p aM G aI aV ct cx bZ aT aW bG A cq s5 bh;gi_wp2_with (first|(rw[<-g.o,<-P.o])|gi_in);go_roundw
  .exact⟨_,R,n6,aO,by omega,cK,cD,cE,cL,cV⟩
  .rw[aO.o.left_eq,dz.o.left_eq];exact bX
end Y
section
open Go.RowKit Go.Nt
open Y (PF)
theorem gA{l:List Fp}{b n o:Nat}:∀{k:Nat} {ps:List Fp},Fz l b n o k=some ps->ps.map Fp.at_=List.range k/\∀f∈ps,f∈l
 |0,ps,h=>by simp[Fz]at h;subst h;simp
 | k+1,ps,h=>by
   rw[Fz]at h
   split at h
   .rename_i m f j i
    split at h
    .cases h
     obtain⟨d,e⟩:=gA j;have c:=Oa i;refine⟨by rw[Au,d,Be,List.map_singleton,c.2.2.2],λg a=>?_⟩;rcases Aj.1 a with a|a
     .exact e g a
     simp at a;subst a;exact c.1
    cases h
   cases h
theorem fS{l:List Fp}{b n:Nat}{a:List Fp}(h:GO l b n=some a):a.length<=l.length/\∀f∈a,f∈l:=by
 unfold GO at h;split at h
 .cases h
 obtain⟨g,c⟩:=gA h;refine⟨Y.Ly a l ?_ c,c⟩;have:(a.map Fp.at_).Nodup:=by rw[g];exact List.nodup_range
 exact(CT.1 this).imp (λd e=>d (by rw[e]))
theorem mW{a:List Fp}(h:∀f∈a,f.a.length=51):(Fi a).length=a.length*51:=by
 induction a with
 |nil=>rfl
 |cons f a e=>have b:=e (λg d=>h g (by simp[d]));have c:=h f EJ;unfold Fi at b |-;simp only[BS,Cc,AM,Ae,b,c];omega
theorem mj{l:List Fp}{a:List (Nat×Nat)}(h:Y.Gx l a){x:Nat×Nat}(j:x.1<=1000000)(k:x.2<=4294967295)(m:Y.FK l x.1 x.2=true):x∈a:=by
 obtain⟨r,_,_,_,o,_,_,f,g,rfl⟩:=h;have q:=(o x).2 ⟨j,k,m⟩;have c:x.2∈Y.numsOf r x.1:=AZ.2 ⟨x,Ad.2 ⟨q,by simp⟩,I⟩;have d:=(f x.1).2 (λe=>by rw[e]at c;cases c);obtain⟨b,p,_,i⟩:=g x.1 d;refine List.mem_flatMap.2 ⟨x.1,d,AZ.2 ⟨x.2,?_,I⟩⟩;have n:x.2∈b.take (Y.GI b)++b.drop (Y.GI b):=by rw[CZ];exact p.mem_iff.2 c
 rw[i,Aj];exact(Aj.1 n).symm
def Jw(u:Bs->Option Bs)(l:List Fp)(x:Nat×Nat):Prop:=∀tl,parse u (Fi (Y.GY l x.1 x.2))=some tl->Ek tl=false
def OD(ps:List Fp)(b r:Nat)(np:Nat)(cb:Nat)(tl:List It)(w:Z)(e:Ending)(w':Z):Prop:=
 ∃fb lb tb ib n,e=.a (.tuple #[.c fb,.a 0])/\IV w' fb cb lb tb/\EH w' tb tl/\Y.Fh w' lb cb ⟨b,r,none⟩ (some ib) none (IW ps) np/\n<=100000/\Y.FI w' ib n (LG ps)/\w.heap.size<=fb/\w.heap.size<=lb/\w.heap.size<=tb/\w.heap.size<=ib/\ib<tb/\Below w.heap.size w w'
def OQ(u:Bs->Option Bs)(l:List Fp)(np cb:Nat)(w:Z)(e:Ending)(w':Z):Prop:=
 ∃ord,Y.Gx l ord/\(((∀x∈ord,Jw u l x)/\e=.a (.tuple #[.pointer none,.a 11])/\Below w.heap.size w w') \/
  ∃pre x post tl,ord.reverse=pre++x::post/\(∀y∈pre,Jw u l y)/\parse u (Fi (Y.GY l x.1 x.2))=some tl/\Ek tl=true/\GO l x.1 x.2=some (Y.GY l x.1 x.2)/\OD (Y.GY l x.1 x.2) x.1 x.2 np cb tl w e w')
theorem gv(l:List Fp)(a:Nat->Nat->Nat):∀(ys:List (Nat×Nat)) (i:Nat) (h:i<ys.length) (k:Nat),k<5->(Y.PU l a ys)[i*5+k]?=(PF (Y.GY l ys[i].1 ys[i].2) ys[i].1 ys[i].2 (a ys[i].1 ys[i].2))[k]?
 | [],i,h,k,b=>by simp at h
 | y::ys,0,h,k,b=>by
   have:Y.PU l a (y::ys)=PF (Y.GY l y.1 y.2) y.1 y.2 (a y.1 y.2)++Y.PU l a ys:=by simp[Y.PU]
   rw[this,BG (by simp[PF];omega)];simp
 | y::ys,i+1,h,k,b=>by
   have:Y.PU l a (y::ys)=PF (Y.GY l y.1 y.2) y.1 y.2 (a y.1 y.2)++Y.PU l a ys:=by simp[Y.PU]
   rw[this,Ao (by simp[PF];omega)];have e:(i+1)*5+k-(PF (Y.GY l y.1 y.2) y.1 y.2 (a y.1 y.2)).length=i*5+k:=by simp[PF];omega
   rw[e,gv l a ys i (EU h) k b];simp
theorem OZ(w:Z)(lo hi v:Nat)(L:Y.Loc)(m:Y.M)(hw:Y.WF m)(h:Y.CP w lo hi v L m)(hsz:hi<=w.heap.size)(hlf:m.b≠0)(l:List Fp)(hl:FD (Y.Gn m) m.d m.a=l) (hml:ML w) {u:Bs->Option Bs} (hP:Ge u):Calls prog 20 #[.c v] w λe w'=>OQ u l m.d v w e w':=by
 have aQ:m.a*m.d<=512:=by
  have h1:=hw.a;have h2:=hw.b;calc m.a*m.d<=32*16:=Co U U
   _<=512:=U
 have aL:∀f∈l,Le f/\f.d<1000:=λf V=>by rw[<-hl]at V;have:=IK V;have:=hw.a;exact⟨(IK V).1,by omega⟩
 have aK:Hid (∀(x:Nat×Nat) p,GO l x.1 x.2=some p->(Fi p).length<=1000000):=J (λx p F=>by obtain⟨h1,h2⟩:=fS F;rw[mW (λf V=>(aL f (h2 f V)).1.t)];have:=KB (Y.Gn m) m.d m.a;rw[hl]at this;omega)
 have A:=J (Y.Er w lo hi v L m h);have aJ:(m.b==0)=false:=by simp[hlf]
 rw[aJ]at A;have B:=J ((B7 (n:=20)).1 (Y.Pn w lo hi v L m hw h hsz hlf l hl aL));have HC:=J h;have aY:=J hml;clear h hml aJ aL hl;go_enter func20,ntmps20;go_wp2_with fail;refine Jj A.o ?_;go_wp2_with fail;refine B.o.l ?_;rintro e H ⟨_,j,t,aI,rfl,b7,b0,a3,az,aW⟩;obtain⟨a,N⟩:=E j.reverse;obtain⟨d,a2⟩:=E j.length;have S:a.length=d:=by rw[N,a2];simp
 have an:Hid (∀x∈a,GO l x.1 x.2=some (Y.GY l x.1 x.2)/\w.heap.size<=t x.1 x.2/\aI x.1 x.2<=100000/\Y.FI H (t x.1 x.2) (aI x.1 x.2) (LG (Y.GY l x.1 x.2))):=J (λx c=>az x (by rw[N]at c;exact DR.1 c));have HT:=J b7;have aO:=J N;change Hid _ at S;rw[<-a2,<-N]at a3;have bp:d<=100000*100000:=by rw[a2];exact b0
 have Q:=J aW;clear az b7 N a2 aW A B b0;have ay:Hid (d=0->j=[]):=J (λh=>by have h1:=S.o;rw[aO.o]at h1;simp at h1;exact BP.1 U)
 rcases a3.2 with⟨rfl,h0⟩|⟨g,_,_,rfl,q1,q2,q3,q4,q5,q6⟩
 .subst h0;have ho:=ay I;clear a3;go_wp2_with fail;refine wp_loop_rounds 1 ?_;rw[DT];go_wp2_with fail;go_ret2;exact⟨j,HT,.w ⟨λx c=>(by rw[ho]at c;cases c),I,Q⟩⟩
 have a4:Hid (∀W:Z,Below H.heap.size H W->∀i,(h:i<a.length)->W.cell? (O g (i*5))=some (.string (Y.X (Fi (Y.GY l a[i].1 a[i].2))))/\W.cell? (O g (i*5+1))=some (.a (a[i].1:Nat))/\W.cell? (O g (i*5+2))=some (.d (a[i].2:Nat))/\W.cell? (O g (i*5+3))=some (.map (some (t a[i].1 a[i].2)))/\W.cell? (O g (i*5+4))=some (.a (IW (Y.GY l a[i].1 a[i].2):Nat))):=J (λW hb i h=>by
  have bh:=lt_of_heap q2;have hr:=(hb.u g bh).i q2;have key:∀k (hk:k<5),W.cell? (O g (i*5+k))=(PF (Y.GY l a[i].1 a[i].2) a[i].1 a[i].2 (t a[i].1 a[i].2))[k]? := λk hk=>by have e:=gv l t a i h k hk;rw[AU W g _ _ 94 (0,0) hr,<-e,<-q6,<-Bw,Aq (by rw[<-S.o];omega)]
  exact⟨key 0 U,key 1 U,key 2 U,key 3 U,key 4 U⟩)
 have aA:=Q.o.size;obtain⟨z1,aD⟩:=E H.heap.size;rw[<-aD]at a4 aA;have bu:=J aD;have bg:Hid (∀x∈a,t x.1 x.2<z1):=J (λx c=>by rw[aD];exact(an x c).2.2.2.lt);clear a3 q1 q2 q3 q4 q5 q6 aD;go_wp2_with fail;go_loopg [15] d (λk bm wr=>∃i:Nat,bm=.a i/\i<=d/\d-i<=k/\Hid (Below z1 H wr)/\Hid (∀x∈a.take i,Jw u l x))
 case atStart=>exact⟨0,I,by omega,by omega,J (AP _ _),J EJ⟩
 case round=>
  obtain⟨i,rfl,_,hk,HB,HN⟩:=hrel;by_cases bE:i<d
  .have aS:(i:Int)<(d:Nat):=U;have aC:i<a.length:=Dz S.o;obtain⟨c0,c1,c2,c3,c4⟩:=a4 wr HB i aC;obtain⟨x,c⟩:=E (a[i]);have aM:x∈a:=by rw[c];exact Bn aC
   rw[<-c]at c0 c1 c2 c3 c4;obtain⟨b,r⟩:=x;obtain⟨K,Mc,hn,G⟩:=an _ aM;have aa:=bg _ aM;dsimp only at c0 c1 c2 c3 c4 K Mc hn G aa;obtain⟨p,F⟩:=E (Y.GY l b r);have a7:=aK (b,r) _ K;rw[<-F]at c0 c4 K G a7;obtain⟨o,aw⟩:=E (t b r);obtain⟨n,aX⟩:=E (aI b r);rw[<-aw]at c3 Mc G aa;rw[<-aX]at hn G;obtain⟨y,hX⟩:=E (X (Fi p));have b6:Y.X (Fi p)=y:=by rw[hX];rfl
   rw[b6]at c0;obtain⟨z0E,hE⟩:=E (IW p);rw[<-hE]at c4;obtain⟨zr,M⟩:=E wr.heap.size;have bD:z1<=zr:=by rw[M,bu.o];exact HB.o.size
   obtain⟨W2,R⟩:=E (wr.alloc (.cells #[.string y,.a b,.d r,.e o,.a z0E] 94));have s2:=Ia R M.A;have aB:=Gi R M.A;have b2:Below z1 H W2:=by rw[R];exact HB.o.a
   have d0:=EV 0 aB;have ah:=aY.o.f (Q.o.i (b2.l aA)) aY.o.lt;have C:=J (nj hP (Fi p) W2 ah a7);rw[<-hX]at C;have aT:=J b2;have aU:=J (G.y (b2.u o aa));change Hid _ at R M s2 aB hE F K;have bz:Hid (a.take (i+1)=a.take i++[(b,r)]):=J (by rw[Al,AE aC,<-c];rfl);have bq:Hid (j.reverse=a.take i++(b,r)::a.drop (i+1)):=J (by rw[<-aO.o,c,<-Ah aC,CZ])
   clear G b2 hX b6 ah c aM aw aX a7;go_wp2_with rw[<-R.o,<-M.o];refine C.o.l ?_;rintro e w3 ⟨q,⟨rfl,b4⟩|⟨tl,tb,ar,aZ,rfl,bA,hT⟩⟩
   .have s:=J (aT.o.i (q.l (by rw[s2.o];omega)));have bj:Hid (∀x∈a.take (i+1),Jw u l x):=J (λx c=>by
     rw[bz.o]at c;rcases Aj.1 c with c|c
     .exact HN x c
     simp at c;subst c;intro tl aF;dsimp only at aF;rw[<-F.o]at aF;exact b4 tl aF)
    clear q b4 C aU aB d0 c0 c1 c2 c3 c4 HN;go_wp2_with fail;go_roundg (d-(i+1))
    case measure=>omega
    case rel=>exact⟨i+1,by go_num,by omega,by omega,s,bj⟩
   have ac:=Q.o.i ((aT.o.i (q.l (by rw[s2.o];omega))).l aA);have D:=J (rZ w3 lo hi v L m y b r z0E (some o) (Y.EM.f HC hsz ac) (Dz ac.size));have z2:=q.size;rw[s2.o]at q bA z2;have P:=(q.d zr).i aB;have e0:=EV 0 P;have e1:=EV 1 P;have e2:=EV 2 P;have e3:=EV 3 P;have e4:=EV 4 P;have aH:=aU.o.y (q.d o);have aV:=J hT;have aj:=J aH;have s:=J ac;change Hid _ at ar aZ;have bb:=HN;go_wp2_with fail;refine D.o.l ?_;rintro e w4 ⟨lb,rfl,aJ,aR,z⟩;obtain⟨_,aE⟩:=E (w4.alloc (.cells #[.c v,.c lb,.e tb] 79));obtain⟨fb,aP⟩:=E w4.heap.size;have T:=JK aE;have b3:=Gi aE aP.A;have aG:=aV.o.f z aV.o.lt;have bx:=J (aG.f T aG.lt);have ad:=aj.o.y (w':=w4) (z.u o aj.o.lt);have aN:=J (ad.y (T.u o ad.lt));have bn:=J ((T.u lb (lt_of_heap aR)).i aR);have be:=J ((s.o.i (z.l s.o.size)).i (T.l (by have:=s.o.size;exact Dz z.size)));have b8:=J aE;have b9:=J aP;have bf:=J b3;have bc:w.heap.size<=fb:=by have:=s.o.size;exact Dz z.size
   have bs:w.heap.size<=lb:=Dz s.o.size;have bl:w.heap.size<=tb:=U;have hit:o<tb:=U;clear aG ad aR z T b3 aE aP D e0 e1 e2 e3 e4;go_wp2_with rw[<-b8.o,<-b9.o];go_ret2;refine⟨j,HT,.s ⟨a.take i,(b,r),a.drop (i+1),tl,bq,bb,?_⟩⟩;dsimp only;rw[<-F.o];exact⟨ar,aZ,K,fb,lb,tb,o,n,I,bf,bx,by rw[<-hE.o];exact bn,hn,aN,bc,bs,bl,Mc,hit,be⟩
  have aS:¬(i:Int)<(d:Nat):=U;have bi:Hid (∀x∈j,Jw u l x):=J (λx c=>HN x (by rw[AT (by rw[S.o];omega),aO];exact DR.2 c))
  go_wp2_with fail;go_ret2;exact⟨j,HT,.w ⟨bi,I,Q.o.i (HB.o.l aA)⟩⟩
end
namespace Y
open Go.RowKit Pk
theorem Ru:(prog.info? 4).map (λi=>(i.zero,i.size,i.bytes))=some (some (.bool false),1,1):=EG
end Y
end Go.Proofs.YtodmdkhdbfbfgaaGreatDoor
