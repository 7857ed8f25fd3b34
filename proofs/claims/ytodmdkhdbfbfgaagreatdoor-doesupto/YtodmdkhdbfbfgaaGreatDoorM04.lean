/- Lemmas. -/
import Derived.RangeFuncGives
import Derived.RangeFuncSeq
import Derived.Sort.MapsRangeIn
import Derived.RegionIn
import Derived.Shelf.SlIter.Collect
import Derived.Sort.WalkA
import Derived.Sort.WalkB3
import Derived.Sort.WalkD1
import Derived.Sort.Grow
import Derived.Sort.WalkC4
import Derived.Deep.CutBlock
import Derived.Sort.WalkA6
import Derived.Shelf.SlSortCmp.Xorshift
import Derived.Shelf.Small.Bits
import Derived.Ground.SlsfProg
import Derived.Ground.NamesProg
import Derived.Sort.Walk7
import Derived.Sort.Walk13a
import Derived.Sort.AssemblyPlain
import Derived.Test.YtodmdkhdbfbfgaaGreatDoorM03
set_option linter.unusedVariables false
set_option linter.unusedSimpArgs false
set_option maxRecDepth 100000
set_option maxHeartbeats 8000000
open Go.Proofs.Tryz
abbrev Go.AI:=@List.getD_eq_getElem?_getD
abbrev Go.Ai:=@Go.Calls.quiet_of_same
abbrev Go.B0:=@List.length_map
abbrev Go.DN:=@Nat.pow_pos
abbrev Go.DY:=@List.take_append_getElem
namespace Go.Proofs.YtodmdkhdbfbfgaaGreatDoor
namespace Y
open Go.RowKit Pk
open Go.Nt (M2 EK Ej Fo IJ Fc FD KF YU)
def Km(m:M)(Q:Nat->Bool)(t:Du):LS:=IF m ⟨0,0,none⟩ (Fc (FD (Gn m) m.d m.a)) (λ_=>false) Q (m.a-1) m.d t
def Fe(m:M)(t:Du):Int×M:=
 if F3 m t.length≠0 then(F3 m t.length,m)
 else if F3 (E4 m m.a).1 t.length≠0 then(F3 (E4 m m.a).1 t.length,(E4 m m.a).1)
 else
  let s:=Km (E4 m m.a).1 (E4 m m.a).2 t
  (if s.left=[]then 0 else if s.m.b=0 then 10 else 9,s.m)
theorem gN(m:M):∀k,(E4 m k).1.d=m.d
 |0=>rfl
 |k+1=>by rw[E4];exact(YF _ _).i (gN m k)
theorem JW{m:M}{n:Nat}(h:F3 m n=0):m.b≠0:=by
 unfold F3 at h;split at h
 .omega
 assumption
theorem Ot(w:Z)(d c f:Nat)(L:Loc)(m:M)(t:Du)(r:WF m)(h:CP w d c f L m)(x:c<=w.heap.size)(ht:t.length<=1000000):Calls prog 42 #[.c f,.string (X t)] w λe w'=>e=.a (.a (Fe m t).1)/\CP w' d c f L (Fe m t).2/\Ed d c w w':=by
 have K:=J (eU w d c f L m t r h U);obtain⟨_,hX⟩:=E (X t);rw[<-hX]at K |-;by_cases G:F3 m t.length=0
 .rw[G]at K;have D:=J (xM w d c f L m r h x);have H:=WJ r m.a;have y:=lJ m m.a;have z:=gN m m.a;have q:=r.a;have p:=r.b;have i:=r.d;obtain⟨a,A⟩:=E ((E4 m m.a).1);obtain⟨j,F⟩:=E ((E4 m m.a).2);rw[<-A,<-F]at D;rw[<-A]at H y z;have B:Hid (Fe m t=if F3 a t.length≠0 then(F3 a t.length,a)else(if(Km a j t).left=[]then 0 else if(Km a j t).m.b=0 then 10 else 9,(Km a j t).m)):=J (by unfold Fe;rw[AC (by simp[G]),<-A,<-F])
  obtain⟨b,W⟩:=E m.a;obtain⟨s,N⟩:=E m.d;rw[<-W]at D y q i;rw[<-N]at z p;have P:=J y;have C:=J z;have i:=J H;have HX:=J hX;clear h A F hX W N r G y z H;go_enter func42,ntmps42;go_wp2_with (first|(go_at_call 74;refine Jj K.o ?_)|fail);refine D.o.l ?_;rintro e u ⟨rfl,W,hQ,N⟩;have HB:=J (GC u d c f L a W);rw[P.o]at HB;have HP:=J (GH u d c f L a W);rw[C.o]at HP;have y:=N.size;obtain⟨l,aA⟩:=E w.heap.size;rw[<-aA]at hQ y x;simp only[<-aA];have v:=hQ.lt;obtain⟨o,H⟩:=E u.heap.size;obtain⟨n,y⟩:=E (u.alloc (.cells #[.c f,.a 0,.d 0,.map none,.map none,.e l,.a ((b-1:Nat):Int),.a s] 132));have x:Below u.heap.size u n:=by rw[y];exact(AP _ u).alloc (AB _) _
  have aH:Fh n o f ⟨0,0,none⟩ none (some l) (b-1) s:=by show n.heap[o]?=_;rw[y,H];exact AR _ _
  have F:FA n d c f o L ⟨0,0,none⟩ none (some l) 0 b a (λ_=>false) j (b-1) s:=
   ⟨aH,EM.f W U x,i.o,.w ⟨I,λ_=>rfl⟩,.s ⟨l,I,hQ.y (x.u l v)⟩,λg i=>(by cases i),λg i=>(by cases i;exact⟨by omega,by omega⟩),λg i=>(by cases i),U,by exact Dz x.size⟩
  have aK:n.heap.size=o+1:=by rw[y,H];simp
  have u:KF (Fc (FD (Gn a) a.d a.a) (ER a)):=YU (by have:=Go.Nt.KB (Gn a) a.d a.a;rw[P.o,C.o]at this;have:b*s<=512:=Co q p;rw[P.o,C.o];omega) _;have a9:Gr a ⟨0,0,none⟩ (Fc (FD (Gn a) a.d a.a))<4294967296:=(Go.Nt.Jk u (BU _ EB)).2;by_cases D:F3 a t.length=0
  .have i:=JW D;have z:=IZ n d c f o L ⟨0,0,none⟩ none (some l) 0 b a (λ_=>false) j (b-1) s (Fc (FD (Gn a) a.d a.a)) t F U (by rw[C.o];exact AB _) ht a9 (λ_=>Kz.2 n d c f o L ⟨0,0,none⟩ none (some l) 0 b a (λ_=>false) j (b-1) s _ I F I i u);rw[<-HX.o]at z;have A:=J z;have i:Hid (IF a ⟨0,0,none⟩ (Fc (FD (Gn a) a.d a.a)) (λ_=>false) j (b-1) s t=Km a j t):=J (by unfold Km;rw[P.o,C.o]);have aB:Hid (∀V,Fm (FY d c o none (some l)) n V->Ed d c w V):=J (λV q=>by
    have Q:Fm (FY d c o none (some l)) w V:=(Fm.Mr N λk Q p=>.w ⟨Q,p⟩).i ((Fm.d x).i q);refine Q.only λk _ q=>?_;rcases q with q|q|q|q
    .exact q
    .omega
    .cases q
    cases q;omega)
   have T:=J y;have S:=J H;have v:=J D;have ac:((b:Int)-1)=((b-1:Nat):Int):=U;clear z aH F y x W hQ N H aK u a9 D aA;go_wp2_with (first|(go_at_call 76;refine Jj HB.o ?_)|(go_at_call 77;refine Jj HP.o ?_)|(rw[ac,<-T.o,<-S.o])|(rw[<-T.o,<-S.o])|fail);refine A.o.l ?_;rintro e W3 ⟨_,a7,az⟩;rw[i.o]at a7 az;by_cases R:(Km a j t).left=[]
   .obtain⟨_,_,_,_,rfl,Q,_,_,_,P,_,_⟩:=a7 v.o R;have aF:=J Q.j;have aC:=J (aB.o W3 P);have i:=B.o;rw[AC (by rw[v.o];simp),AD R]at i;have p:=J i;clear a7 az Q P A i;go_wp2_with fail;go_ret;exact⟨by rw[p.o];rfl,by rw[p.o];exact aF.o,aC.o⟩
   obtain⟨rfl,Q,P⟩:=az v.o R;have aF:=J Q.j;have aC:=J (aB.o W3 P);have i:=B.o;rw[AC (by rw[v.o];simp),AC R]at i;obtain⟨q,R⟩:∃q:Int,q=if(Km a j t).m.b=0 then 10 else 9:=⟨_,I⟩;rw[<-R]at i |-;have p:=J i;clear a7 az Q P A i R;go_wp2_with fail;go_ret;exact⟨by rw[p.o];rfl,by rw[p.o];exact aF.o,aC.o⟩
  have z:=IZ n d c f o L ⟨0,0,none⟩ none (some l) 0 b a (λ_=>false) j (b-1) s (Fc (FD (Gn a) a.d a.a)) t F U (by rw[C.o];exact AB _) ht a9 (λh=>absurd h D);rw[<-HX.o]at z;have A:=J z;have c:=J F.j;have aB:=J (N.i (Ed.of_below x));have T:=J y;have S:=J H;have v:=J D;have ac:((b:Int)-1)=((b-1:Nat):Int):=U;clear z aH F y x W hQ N H aK u a9 D aA;go_wp2_with (first|(go_at_call 76;refine Jj HB.o ?_)|(go_at_call 77;refine Jj HP.o ?_)|(rw[ac,<-T.o,<-S.o])|(rw[<-T.o,<-S.o])|fail);refine A.o.l ?_;rintro e W3 ⟨y,_,_⟩;obtain⟨rfl,rfl⟩:=y v.o;have i:=B.o;rw[AD v.o]at i;obtain⟨q,R⟩:∃q:Int,q=F3 a t.length:=⟨_,I⟩;rw[<-R]at i |-;have p:=J i;clear i R A y;go_wp2_with fail;go_ret;exact⟨by rw[p.o];rfl,by rw[p.o];exact c.o,aB.o⟩
 obtain⟨z,y⟩:=E (F3 m t.length);have B:Hid (Fe m t=(z,m)):=J (by unfold Fe;rw[AD G,y]);rw[<-y]at K G;have F:(z != 0)=true:=EU G;have A:=J h;clear h y hX r;go_enter func42,ntmps42;go_wp2_with (first|(go_at_call 74;refine Jj K.o ?_)|fail);go_ret;exact⟨by rw[B.o];rfl,by rw[B.o];exact A.o,Ed.refl _ _ _⟩
end Y
namespace Y
open Go.RowKit Pk
theorem ke{m:M}(h:m.b = -1):(tick m).b = -1:=by
 unfold tick E7;show(if m.b=0 then _ else _:Int × Int × Int).2.1 = -1;rw[h];simp
 repeat' split
 all_goals rfl
theorem YV{α:Type}(p q:α->Bool):∀l:List α,l.countP (λx=>p x||q x)<=l.countP p+l.countP q
 | []=>AB _
 | x::l=>by
   have:=YV p q l
   simp only[Cm];cases p x<;>cases q x<;>simp<;>omega
theorem fk(f:Nat->Bool):∀l:List Nat,l.countP (λi=>!f i)+l.countP f=l.length
 | []=>rfl
 | x::l=>by
   have:=fk f l
   simp only[Cm,Ae];cases f x<;>simp<;>omega
def GA(n:Nat)(S:Nat->Bool):Nat:=(List.range n).countP S
theorem UX(n:Nat):GA n (λ_=>false)=0:=by unfold GA;simp
theorem Me{n:Nat}{S R:Nat->Bool}(h:∀i,S i=true->R i=true):GA n S<=GA n R:=List.countP_mono_left λi _ a=>h i a
theorem fQ(b:Nat):∀n,GA n (λj=>j==b)<=1/\(n<=b->GA n (λj=>j==b)=0)
 |0=>⟨by simp[GA],λ_=>rfl⟩
 | n+1=>by
   obtain⟨c,a⟩:=fQ b n;have e:GA (n+1) (λj=>j==b)=GA n (λj=>j==b)+if n=b then 1 else 0:=by
    unfold GA;rw[Be,List.countP_append];simp[Cm]
   rw[e]
   split
   .rename_i d
    have:=a U
    exact⟨by omega,λh=>by omega⟩
   exact⟨by omega,λh=>by exact Dz (a U)⟩
theorem rW(n b:Nat)(S:Nat->Bool):GA n (λj=>j==b||S j)<=GA n S+1:=by have a:=YV (λj=>j==b) S (List.range n);have c:=(fQ b n).1;unfold GA at *;omega
theorem jx(b:Nat):∀(l:List Du) (m:M) (p:Nat) (S:Nat->Bool) (i:Nat),(EY b l m p S).2.2.2 i=true->(i==b||S i)=true
 | [],m,p,S,i,h=>by rw[EY]at h;simp only[]at h;rw[h,Bool.or_true]
 | x::xs,m,p,S,i,h=>by
   rw[EY]at h
   split at h
   .split at h
    .have:=jx b xs _ _ _ i h
     simp only[Ce]at this |-;rcases this with a|a|a
     .exact .w a
     .exact .w a
     exact .s a
    simp only[]at h;rw[h,Bool.or_true]
   simp only[]at h;rw[h,Bool.or_true]
theorem Xw(n b:Nat)(l:List Du)(m:M)(p:Nat)(S:Nat->Bool):GA n (EY b l m p S).2.2.2<=GA n S+1:=
 AG (Me λi h=>jx b l m p S i h) (rW n b S)
theorem Yd{m a:M}(b:a.a=m.a)(c:a.e=m.e):FT a=FT m:=by unfold FT ER;rw[b,c]
theorem wo(m:M):(List.range m.a).countP (λi=>!m.e i)=FT m:=by have a:=fk m.e (List.range m.a);rw[List.length_range]at a;have b:(List.range m.a).countP m.e=ER m:=I;unfold FT;omega
theorem mc(K:Nat->Bool){s:LS}(h:s.p<=s.m.d):(FB K s).p<=(FB K s).m.d:=by
 obtain⟨k1,k2,k3⟩:=R9 s.m K s.Q s.b;unfold FB;split
 .obtain⟨q1,q2,q3,q4⟩:=Ow ((s.b+1)%s.m.a) s.left (E5 s.m K s.Q s.b).2.1 (E5 s.m K s.Q s.b).2.2.2 s.S;have q5:(LS.a K s).prog.m.d=(E5 s.m K s.Q s.b).2.1.d:=q2;rw[q5];exact q4 (by rw[k2];exact k3)
 show(E5 s.m K s.Q s.b).2.2.2<=(E5 s.m K s.Q s.b).2.1.d;rw[k2];exact k3
theorem lD{K:Nat->Bool}:∀{k:Nat} {s:LS},s.p<=s.m.d->(F8 K k s).p<=(F8 K k s).m.d
 |0,s,h=>h
 | k+1,s,h=>by
   rw[F8]
   split
   .exact h
   exact lD (mc K h)
end Y
namespace Y
open Go.RowKit Pk
open Go.Nt (Fp M2 EK Ej Fo IJ Fc FE FD GV FJ l6 Wy Vm Md Ea eX)
theorem Qc{x:Du}(h:x.length<64):FJ (pad x)=none:=by apply l6;unfold pad;rw[AI,Ao U,List.getElem?_replicate];rw[AD U];rfl
theorem Xe{x:Du}(h:x.length=64):pad x=x:=by unfold pad;rw[h];simp
theorem Ff.found{j:M}{K:Nat->Bool}{d g:Nat}{t:Du}{m:M}{S:Nat->Bool}{u:List (Nat×Nat)}{left:List Du}(h:Ff j K (Ej d g t) m S u left)(w:d<256)(y:g<4294967296)(z:EK t.length<65536){f:Fp}(x:f∈FD (Gn m) m.d m.a):(∃k i q,u[k]?=some (i,q)/\k<EK t.length/\f=Md d g t k i)\/f∈FD (Gn j) j.d j.a:=by
 obtain⟨i,p,q,o,s,a,rfl⟩:=GV.1 x;rcases h.e i p o s with v|⟨_,_,c,_,e⟩|e|e
 .left;obtain⟨k,r⟩:=List.getElem?_of_mem v;obtain⟨_,_,_,b,_⟩:=h.f k i p r;have l:k<EK t.length:=by have:=(AN.1 b).1;rwa[Go.Nt.Ec]at this
  have e:m.c i p=Fo (IJ d g t k):=by unfold Ej at b;rw[BI,Cf l]at b;simpa using b.A
  refine⟨k,i,p,r,l,?_⟩;have n:=Vm (t:=t) w y l z;unfold Gn at a;rw[e,Xe (Go.Nt.GW _ n.t),Wy n]at a;cases a;rfl
 .exfalso;unfold Gn at a;rw[e,Qc (by rw[Ac];omega)]at a;cases a
 .exfalso;unfold Gn at a;rw[e,Qc EB]at a;cases a
 right;refine GV.2 ⟨i,p,q,by rw[<-h.a];exact o,by rw[<-h.d];exact s,?_,I⟩;unfold Gn at a |-;rw[<-e];exact a
end Y
namespace Y
open Go.RowKit Pk
open Go.Nt
variable {m:M} {b p:Nat} {K:Nat->Bool} {s:LS}
theorem oo(n:WF m){x:Du}(j:b<m.a)(i:m.e b=false)(l:p=m.g b)(q:p<m.d)(o:x.length=64) :
 (El m (b:Nat) (p:Nat) x).1=true\/(El m (b:Nat) (p:Nat) x).2.b=0\/(El m (b:Nat) (p:Nat) x).2.e b=true:=by
 rcases Qv m b p x n with⟨d,_,_,_,_,_,_,e⟩|⟨d,e|⟨e,g⟩|⟨_,_,_,_,_,c,_,⟨e,g⟩|⟨e,g⟩⟩⟩
 .exact .w d
 .have k:LL m (b:Nat) (p:Nat) x:=⟨by unfold IE hasB;simp[j,i],by rw[l];simp,by omega,o⟩;refine .s (.w ?_);rw[e];unfold El at d e;rw[AD k]at d e;have f:=AX M.g e;unfold Gk at d f;simp only[Int.toNat_natCast]at d f;rcases UA m.b m.fail with a|a|a|a
  .rw[AD a]at d;cases d
  .rw[AC (by rw[a];decide),AD a]at f
   have:=congrFun f b
   have h:(if b=b then p+1 else m.g b)=m.g b:=this;rw[AD I]at h;omega
  .rw[AC (by rw[a];decide),AC (by rw[a];decide),AD a]at f
   have:=congrFun f b
   have h:(if b=b then p+1 else m.g b)=m.g b:=this;rw[AD I]at h;omega
  unfold E7 at a
  repeat' split at a
  all_goals simp at a
  all_goals assumption
 .refine .s (.w ?_);rw[e];show(E7 m.b m.fail).2.1=0;rw[g];unfold E7;simp
 .exact .s (.w (by rw[e];exact g))
 exact .s (.s (by rw[e];show(if b=b then true else _)=true;rw[AD I]))
theorem Xr{Q:Nat->Bool}(b:Nat):∀(l:List Du) (m:M) (p:Nat) (S:Nat->Bool),WF m->JX m Q b p->l.length+p<=m.d->(∀x∈l,x.length=64) ->
 (EY b l m p S).1=[]\/(EY b l m p S).2.1.b=0\/(EY b l m p S).2.1.e b=true
 | [],m,p,S,_,_,_,_=>.w I
 | x::l,m,p,S,hw,hr,hl,hx=>by
   have c:p<m.d:=by simp at hl;omega
   obtain⟨i,j,k,_⟩:=hr.open_ c;have n:=oo hw i j k.A c (hx x EJ);have d:=Zm hw (x:=x) hr c;unfold EY;rw[AD c];by_cases a:(El m (b:Nat) (p:Nat) x).1=true
   .rw[AD a];rw[AD a]at d;have r:=Ow b [x] m p S;have g:(El m (b:Nat) (p:Nat) x).2.d=m.d:=by
     rcases Qv m b p x hw with⟨_,_,_,_,_,_,_,e⟩|⟨o,_⟩
     .rw[e];rfl
     rw[o]at a;cases a
    have f:WF (El m (b:Nat) (p:Nat) x).2:=by
     have:=Pa b [x] m p S hw
     unfold EY at this;rw[AD c,AD a]at this;exact this
    exact Xr b l _ (p+1) _ f d (by rw[g];simp at hl;omega) (λy q=>hx y (by simp[q]))
   rw[AC a];rcases n with h|h|h
   .exact absurd h a
   .exact .s (.w h)
   exact .s (.s h)
theorem fR{Q:Nat->Bool}(l:WF m)(t:JX m Q b p)(c:b<m.a)(k:p<=m.d){a:List Du}(u:∀x∈a,x.length=64):∃ps,Ff m K a (F4 K ⟨a,m,Q,b,p,λ_=>false⟩).m (F4 K ⟨a,m,Q,b,p,λ_=>false⟩).S ps (F4 K ⟨a,m,Q,b,p,λ_=>false⟩).left:=by
 have j:=Ff.start l K a;unfold F4 Gy;by_cases d:a.length+p<=m.d
 .rw[AD (show(LS.mk a m Q b p λ_=>false).left.length+(LS.mk a m Q b p λ_=>false).p<=m.d from d)];obtain⟨ps,r,q⟩:=Ff.EY b a m p _ [] j;have n:=Xr b a m p (λ_=>false) l t d u;have s:=Ow b a m p (λ_=>false);have f:KL m K a b 0 (LS.prog ⟨a,m,Q,b,p,λ_=>false⟩) ps:=⟨r,by show b=(b+0)%m.a;rw[Bq,Bd c],λi g=>.s ⟨(q i g).elim id (λh=>by cases h),n⟩,s.2.2.2 k⟩;obtain⟨v,o,_,e⟩:=KL.rounds c m.a 0 _ ps f U;exact⟨o,e.lay⟩
 rw[AC (show ¬(LS.mk a m Q b p λ_=>false).left.length+(LS.mk a m Q b p λ_=>false).p<=m.d from d)];have f:KL m K a b 0 ⟨a,m,Q,b,p,λ_=>false⟩ []:=⟨j,by show b=(b+0)%m.a;rw[Bq,Bd c],λi g=>(by cases g),k⟩;obtain⟨v,ps,_,e⟩:=KL.rounds c m.a 0 _ [] f U;exact⟨ps,e.lay⟩
theorem o7(c:WF s.m)(h:JX s.m s.Q s.b s.p):JX (FB K s).m (FB K s).Q (FB K s).b (FB K s).p/\WF (FB K s).m:=by
 have b:=Zo c K h;have a:=Si c K s.Q s.b;unfold FB;split
 .exact⟨VF _ _ _ _ _ a b,Pa _ _ _ _ _ a⟩
 exact⟨b,a⟩
theorem Z3{K:Nat->Bool}:∀(k:Nat) (s:LS),WF s.m->JX s.m s.Q s.b s.p->JX (F8 K k s).m (F8 K k s).Q (F8 K k s).b (F8 K k s).p/\WF (F8 K k s).m
 |0,s,a,h=>⟨h,a⟩
 | k+1,s,a,h=>by
   unfold F8
   split
   .exact⟨h,a⟩
   have:=o7 (K:=K) a h
   exact Z3 k _ this.2 this.1
theorem N6(a:WF s.m)(h:JX s.m s.Q s.b s.p):JX (F4 K s).m (F4 K s).Q (F4 K s).b (F4 K s).p/\WF (F4 K s).m:=by
 unfold F4 Gy;split
 .exact Z3 _ _ (Pa _ _ _ _ _ a) (VF _ _ _ _ _ a h)
 exact Z3 _ _ a h
end Y
namespace Y
open Go.RowKit Pk
def Kj:Value->Option (DataW Value×List MemPlace):=λv=>some (.held v,[])
theorem pP{v u:Value}{a:List MemPlace}(h:Kj v=some (.held u,a)):v=u:=by unfold Kj at h;simp at h;exact h.1
theorem qR(w:Z):(zeroValue 201).run prog w=.ok (.g) w:=EG
theorem kE(w:Z):(Instr.makeMap 200 none).run prog w=.ok (.e w.heap.size) (w.alloc (.map #[] 0)):=by simp[Instr.makeMap,Result.andThen]
theorem Uq{w w':Z}{T:TypeId}{H:Type}{R:Value->Option (DataW H×List MemPlace)}{g n:Nat}{D:DataW H}(h:w.ownsMap prog T R g n D)(e:w'.heap[g]?=w.heap[g]?):w'.ownsMap prog T R g n D:=by obtain⟨b,a,c,d⟩:=h;exact⟨b,a,e.i c,d⟩
end Y
section
open Go.RowKit
def uF{α:Type}(B:Nat)(z0I:List α->Z->Prop)(xs:List α)(W:Z):Exit->Act->Z->Prop
 | .normal,_,W'=>KeepsFrom B W W'/\z0I xs W'/\KeepsWalks W W'
 | _,_,_=>False
variable {F:Fence} {n:Nat} {P:Program}
theorem uU{α:Type}{g:Operand}{T:Array Tmp}{assign body:Code}{Q:Exit->Act->Z->Prop}{a:Act}{w:Z} (hro:F.round=none) (h1:1<=n) {gf:Nat} {lb:Array Value} (hg:a.eval g=.func (.func gf) #[] lb) (hFg:F.fn gf) (eg:∀j w,(callFunc gf j).run P w=.ok (.enter gf j) w) {enc:α->Value} {S:List α->Prop} {N:Nat} (L:SeqGives F (n-1) P gf lb enc S N w) (hps:T.size=1) (d:List α->Z->Prop) (C:OwnFrom w.heap.size d) (hIa:AbidesFrom w.heap.size d) (h0:d [] w) (a₁:α->Z->Act) (b:α->Z->Z) (f:∀x W,Below W.heap.size W (b x W)) (has2:∀c x W,d c W->d c (b x W)) (H:∀x W,KeepsWalks W (b x W)) (i:∀(l:Nat) (x:α) (W:Z) (K:Act->Z->Prop),K (a₁ x W) (b x W) -> assign.wpIn (F.inRound l) (n-1-1) P (Exit.then K (λ_ _ _=>False)) {tmps:=(T.zip #[enc x]).foldl (λt (p,v)=>t.setIfInBounds p v) a.tmps,defers:=[]} W) (q:∀(l:Nat) (c:List α) (x:α) (W V:Z),(∀k,W.heap.size<=k->k<(b x W).heap.size->V.heap[k]?=(b x W).heap[k]?)->d c V->c.length<N->w.heap.size<=W.heap.size->(b x W).heap.size<=V.heap.size->body.wpIn (F.inRound l) (n-1-1) P (uF w.heap.size d (c++[x]) V) (a₁ x W) V) (u:∀(D:Nat) (xs:List α) (W:Z),S xs->w.heap.size<=D->d xs W->W.heap[D]?=some (.deferred (some []))->Q .normal {a with defers:={target:=.collected D,args:=#[]} :: a.defers} W):(Code.rangeFunc g T assign body).wpIn F n P Q a w:=by
 refine wpIn_rangeFunc λfn af=>?_;rw[hro];obtain⟨r,o⟩:∃r:LoopState->Option Code->Loop,r=λst pe=>{state:=st,pending:=pe,fn,tmps:=a.tmps,params:=T,assign,body,defers:=w.heap.size}:=⟨_,I⟩;obtain⟨V,G⟩:=E ((w.alloc (.deferred (some []))).alloc (.loop (r .ready none)));have hL:Fj w (r .ready none) V:=by rw[G];refine⟨?_,(AO _ _ _ EJ).trans (World.alloc_heap_new w _)⟩;have:=World.alloc_heap_new (w.alloc (.deferred (some []))) (.loop (r .ready none));rwa[BM]at this
 have ad:d [] V:=by rw[G];exact C.alloc _ (C.alloc _ h0)
 have ag:w.b V:=by rw[G];exact(Iy).alloc EJ _
 have ai:V.heap.size=w.heap.size+2:=by rw[G];simp
 refine⟨w.heap.size+1,[{target:=.collected w.heap.size,args:=#[]}],V,{target:=.fn (.func gf) lb,args:=#[.func (.yield (w.heap.size+1)) #[] #[]]},V,gf,
  #[.func (.yield (w.heap.size+1)) #[] #[]]++lb,V,?_,?_,?_,?_,λ_=>h1,?_⟩
 .rw[G,o];exact run_enterLoop_outer _ _ _ _ _
 .simp only[resolve,hg];simp[go_sem]
 .intro _ a7;simp[Target.leads]at a7;subst a7;exact hFg
 .simp[invoke,go_sem,eg]
 refine(L (w.heap.size+1) (λc W=>d c W/\Fj w (r .ready none) W) V ag (λs A B row h a5 M=>⟨hIa s A B row h.1 a5 (λk e=>⟨by have:=(M k e).1;omega,(M k e).2⟩),?_⟩) ?_ ⟨ad,hL⟩).l ?_
 .refine⟨(a5.u _ (BC.1 h.2.1).1 (λe=>by exact Dz ((M _ e.A).1))).trans h.2.1,(a5.u _ (BC.1 h.2.2).1 (λe=>by exact Dz ((M _ e.A).1))).trans h.2.2⟩
 .rintro c x W ⟨hi,m⟩ a6;have a8:=(BC.1 m.1).1;have hy:=run_yield (P:=P) (args:=#[enc x]) m.1 (by rw[o];simp[hps]);rw[o]at hy;have z:Fj w (r .ready none) (b x W):=⟨((f x W).u _ a8).trans m.1,((f x W).d _).trans m.2⟩;have ah:=(f x W).size;refine⟨fn,_,assign,body,hy,roundIn_of_wpIn af (i _ x W _ ⟨_,run_beginRound z.1 (by rw[o]),?_⟩)⟩;clear hy;have ae:Fj w {r .ready none with state:=.busy} ((b x W).putObj (w.heap.size+1) (.loop {r .ready none with state:=.busy})):=z.turn _;have ac:Below w.heap.size (b x W) ((b x W).putObj (w.heap.size+1) (.loop {r .ready none with state:=.busy})):=belowK_b (w:=w) (AB _) (b x W) _ _ _ U z.1 I I;refine wpIn_mono (q _ c x W _ (λk h1 _=>World.putObj_heap_other U) (C.putObj _ (has2 c x W hi) U z.1 I) a6 U ac.size) ?_;rintro e _ _ y;cases e with
  |normal=>
   obtain⟨hk,a9,aa⟩:=y;have R:=ae.kept hk;have he:=run_endRound (P:=P) none R.1;rw[o]at he;refine⟨_,_,he,I,⟨C.putObj _ a9 U R.1 I,?_⟩,?_⟩
   .have:=R.turn (r .ready none);rw[o]at this |-;exact this
   exact(((H x W).trans (KeepsWalks.putObj _ z.1 I)).trans aa).trans (KeepsWalks.putObj _ R.1 I)
  |ret=>exact y.elim
  |exit id=>exact y.elim
  |goto t=>exact y.elim
  |panic ch=>exact y.elim
  |outgrown=>exact y.elim
 rintro e _ ⟨⟨v,rfl⟩,xs,hS,hi,m⟩;exact⟨none,_,by have:=run_endLoop (P:=P) m.1 (by rw[o];simp);rw[o]at this;exact this,u _ xs _ hS (AB _) (C.putObj _ hi U m.1 I) ((World.putObj_heap_other U).trans m.2)⟩
end
namespace Y
open Go.RowKit Pk Go.Shelf
attribute [local go_sem] Oper.semAt_some
def LZ(x:Nat×Nat):Value:=.agg #[.a x.1,.d x.2]
def Oj(x:Nat×Nat):Prop:=x.1<=1000000/\x.2<=4294967295
structure TT {H:Type} (D:DataW H) (left:Lit->Bool) (xs:List (Nat×Nat)):Prop where
 nd:xs.Nodup
 ok:∀x∈xs,Oj x
 mem:∀x,Oj x->(x∈xs↔Maps.has D (lk x.1 x.2)=true/\left (lk x.1 x.2)=false)
theorem rT{H:Type}{R:Value->Option (DataW H×List MemPlace)}(n:Nat)(d:1<=n)(Bm b q:Nat)(f:DataW H)(w:Z)(L:Bm<w.heap.size)(A:w.cell? (O Bm 0)=some (.e b))(d:w.ownsMap prog 90 R b q f)(D:∀p,Maps.has f p=true->∃x,Oj x/\p=lk x.1 x.2):SeqGives Fence.wide n prog 143 #[.c Bm] LZ (λxs=>xs.Nodup/\(∀x∈xs,Oj x)/\∀x,Oj x->(x∈xs↔Maps.has f (lk x.1 x.2)=true)) (Maps.size f) w:=by
 intro l k W m M S i;have g:W.cell? (O Bm 0)=some (.e b):=by rw[m.cell (p:=⟨Bm,0,none⟩) L];exact A
 have C:W.ownsMap prog 90 R b q f:=by have s:=d.lt;obtain⟨g,B,j,o⟩:=d;exact⟨g,B,(m.u b s).i j,o⟩
 clear A d;refine Cy func143 I trivial ?_ I;simp only[ntmps143,BV,Ae,Bf,Nat.reduceAdd,Nat.reduceSub,Bc,Bb,Bo,Bh,BB,Az];gi_wp2_with (first|(gi_at_range;refine wpListIn_range_own _ I _ 137 I 90 94 Jb underlying137 _ b q _ I C ?_;intro d T F K)|gi_in);go_frame;have g:=K;gi_loopw [3] (λ_ wr=>∃(left:Lit->Bool) (cnt:Nat) (xs:List (Nat×Nat)),wr.ranges prog 90 R b W.heap.size q f left cnt/\TT f left xs/\xs.length+cnt<=Maps.size f/\k xs wr/\W.heap.size<wr.heap.size)
  (λ_ wr=>wr.rangeLeft b W.heap.size)
 case atStart=>exact⟨_,_,[],T,⟨List.nodup_nil,λx j=>(by cases j),λx j=>⟨λh=>(by cases h),λh=>(by rw[h.1]at h;cases h.2)⟩⟩,by simp,M [] W d none i F (λr e=>by cases e),by omega⟩
 case round=>
  obtain⟨left,cnt,xs,A,i,_,F,_⟩:=hrel;gi_wp2_with (first|(gi_at_next;refine wpListIn_next_ranges _ rfl _ rfl 90 Jb R id id (λkey p D=>⟨key,I⟩) (λv _ _=>⟨v,I⟩) b W.heap.size q _ _ _ I A ?_ ?_)|gi_in)
  .intro _ G;gi_wp2;go_end0;exact⟨⟨_,I⟩,xs,⟨i.nd,i.ok,λx j=>⟨λh=>((i.mem x j).1 h).1,λh=>(i.mem x j).2 ⟨h,G _⟩⟩⟩,F⟩
  intro x _ p _ _ s V T u hv g d aB L N C;have B:Maps.has f p=true:=CG g;obtain⟨y,o,rfl⟩:=D p B;have j:x=LZ y:=Jb.inj (T.i I) (LR o.1 o.2);subst j;have G:k xs s:=M xs wr s (some W.heap.size) F L (λr e=>by cases e;exact⟨AB _,A.iter_walk⟩);obtain⟨t,m⟩:=E (s.alloc (.cells #[.int .i64 y.1,.int .u32 y.2] 90));obtain⟨_,D⟩:=E s.heap.size;have K:=Gi m D.A;have c0:=EV 0 K;have c1:=EV 1 K;have P:k xs t:=M xs s t none G (by rw[m];exact BF s _ none) (λr e=>by cases e);have Q:t.ranges prog 90 R b W.heap.size q f (λz=>left z && !z.sameKey (lk y.1 y.2)) V:=by rw[m];exact d.alloc _
  obtain⟨_,_,_,_,f,j⟩:=S xs y t P U;have M:W.heap.size<t.heap.size:=by rw[m];simp;omega
  have k:Hid True:=J trivial;have t:=J Q;have q:=J A;have k:=J m;have p:=J D;have P:=J j;have s:=J u;have au:=J B;try simp only[id]at C
  unfold LZ at C f;try simp only[id]
  unfold LZ;clear m D K g hv T u L N d A Q B G F j;gi_wp2_with (first|(rw[<-k.o,<-p.o])|gi_in);refine P.o.mono ?_;rintro e A ⟨rfl,d,G⟩;have T:=t.o.of_walks G;have S:=J T;have g:Hid (W.heap.size<A.heap.size):=J (AQ M G.size);have Q:=J d;clear T d G P f C c0 c1;gi_wp2;go_roundw
  case rel=>
   have u:=s.o;refine⟨_,V,xs++[y],S.o,⟨?_,?_,?_⟩,by simp;omega,Q.o,g.o⟩
   .rw[CI];refine⟨i.nd,by simp,λa f c d=>?_⟩;simp at d;subst d;rintro rfl;have:=((i.mem _ o).1 f).2;rw[u]at this;cases this
   .intro z g;rcases Aj.1 g with g|g
    .exact i.ok z g
    simp at g;subst g;exact o
   intro z g;by_cases e:z=y
   .subst e;have N:Lit.sameKey (lk z.1 z.2) (lk z.1 z.2)=true:=by simp[Lit.sameKey,lk]
    refine⟨λ_=>⟨au.o,by rw[N];simp⟩,λ_=>by simp⟩
   have N:Lit.sameKey (lk z.1 z.2) (lk y.1 y.2)=false:=DL (λh=>e (by have:=Tn g.1 g.2 o.1 o.2 h;exact Prod.ext this.1 this.2));rw[N];simp only[Bool.not_false,Bool.and_true];rw[<-i.mem z g];simp[e]
  case measure=>rw[S.o.left_eq,q.o.left_eq];exact aB
end Y
namespace Y
open Go.RowKit Pk Go.Shelf
attribute [local go_sem] Oper.semAt_some
def MO(xs:List (Nat×Nat)):List Value:=xs.flatMap λx=>[.a (x.1:Nat),.d (x.2:Nat)]
theorem ig(a:List (Nat×Nat))(x:Nat×Nat):MO (a++[x])=MO a++[.a x.1,.d x.2]:=by simp[MO]
theorem QU:(prog.info? 90).map (λi=>(i.zero,i.size,i.bytes))=some (some (.agg #[.a 0,.d 0]),2,16):=EG
def WI(w:Z)(bx:Nat)(pre:List (Nat×Nat))(W:Z):Prop:=∃v,W.heap[bx]?=some (.cells #[v] 144 (0,0))/\W.ownsRow (bx+1) 90 2 v pre.length (MO pre)/\Below bx w W/\(v=.g↔pre=[])
theorem WI.C{w:Z}{a:Nat}{b:List (Nat×Nat)}{W W':Z}{row:Option Nat}(h:WI w a b W)(j:W.grownBy W' row)(l:∀r,row=some r->a+1<=r/\∃o:Obj,W.heap[r]?=some o/\o.isCells=false)(y:w.heap.size=a):WI w a b W':=by
 obtain⟨v,m,n,p,t⟩:=h;refine⟨v,(j.u a (lt_of_heap m) (λe=>by exact Dz ((l a e.A).1))).i m,?_,p.C j (Dz p.size) (λk e=>by exact Dz ((l k e).1)),t⟩;refine⟨n.1,?_⟩;rcases n.2 with f|⟨g,c,d,e,f,i,u⟩
 .exact .w f
 exact .s ⟨g,c,d,e,f,(j.u g (lt_of_heap i) (λs=>by obtain⟨_,o,q,x⟩:=l g s.A;rw[i]at q;cases q;cases x)).i i,u⟩
theorem qu{o:Obj}(h:o.isWalk=true):o.isCells=false:=by cases o<;>first|rfl|cases h
theorem sx(n:Nat)(hn:2<=n)(g:Nat)(lb:Array Value)(eg:∀c w,(callFunc g c).run prog w=.ok (.enter g c) w)(S:List (Nat × Nat)->Prop)(N:Nat)(hN:N<=100000)(w:Z)(G:SeqGives Fence.wide (n - 1) prog g lb LZ S N w) :
 CallsIn Fence.wide n prog 142 #[.g,.func (.func g) #[] lb] w λe w'=>∃(v:Value) (xs:List (Nat × Nat)),e=.a v/\S xs/\w'.ownsRow w.heap.size 90 2 v xs.length (MO xs)/\(v=.g↔xs=[])/\Below w.heap.size w w':=by
 obtain⟨i0,hi,au,az,av⟩:=An QU;refine callsIn_of_wp_marks func142 I trivial ?_ I;simp only[ntmps142,BV,Ae,Bf,Nat.reduceAdd,Nat.reduceSub,Bc,Bb,Bo,Bh,BB,Az];gi_wp2;obtain⟨_,P⟩:=E (w.alloc (.cells #[.g] 144));obtain⟨bx,a⟩:=E w.heap.size;have aK:=Ia P a.A;have aE:=Gi P a.A;have am:=JK P;rw[<-P]
 try simp only[<-a]
 refine uU I U (gf:=g) (lb:=lb) I trivial eg (G.later am) I (WI w bx)
  (λs A C row hs hg F=>hs.C hg (λr e=>⟨by have:=(F r e).1;omega,(F r e).2⟩) a.A)
  (λs A C row hs hg F=>hs.C hg (λr e=>⟨by have:=(F r e).1;omega,by obtain⟨_,o,h1,h2⟩:=F r e;exact⟨o,h1,qu h2⟩⟩) a.A)
  ⟨_,aE,Af _ _ _ _,by rw[a];exact am,by simp⟩
  (λx W=>{ tmps:=#[.g,.func (.func g) #[] lb,.c bx,undef,.g,.c W.heap.size,.func (.func g) #[] lb,LZ x,undef,undef,undef,undef,undef],defers:=[] })
  (λx W=>W.alloc (.cells #[.a (x.1:Nat),.d (x.2:Nat)] 90))
  (λx W=>Iy) ?has2 (λx W=>KeepsWalks.alloc W _) ?assign ?body ?done
 case has2=>exact λf x W h=>h.C (BF W _ none) (λr e=>by cases e) a.A
 case assign=>
  intro l x W _ y;unfold LZ at y |-;rw[a]at y;gi_wp2;exact y
 case body=>
  intro l f x W V hV hI _ _ _;subst a;obtain⟨v,z,b,p,ad⟩:=hI;have T:V.heap[W.heap.size]? = some (.cells #[.a x.1,.d x.2] 90 (0,0)):=by
   rw[hV _ (AB _) EJ];exact AR _ _
  have aF:w.heap.size<V.heap.size:=lt_of_heap z;have aO:W.heap.size<V.heap.size:=lt_of_heap T;obtain⟨_,_⟩:=cell_of_box_a z;have aG:V.cell? (O W.heap.size 0)=some (.a x.1):=by simp[World.cell?,T]
  have aR:V.cell? (O W.heap.size 1)=some (.d x.2):=by simp[World.cell?,T]
  have a9:∀{j:Nat} {o:Obj},V.heap[j]? = some o->(∀B,o≠.cells B 90 (0,0))->some j≠v.ownBlock:=λi ax=>by
   rcases ownsRow_ne_a b i ax with e|e
   .rw[e];simp
   exact λD=>e D.A
  gi_wp2_with (first
   | (gi_at_builtin;refine wpListIn_append_own _ I _ _ 144 I (w.heap.size+1) 90 i0 _ 2 16 underlying144 hi au az av I EB _ _ _ I (b.alloc _) ⟨V.heap.size,0,none⟩ 1 1 [.a x.1,.d x.2] I I ?_ (by simp[Value.oneCell']) (by simp[maxLen];omega) U EL ?_
      rotate_left
      intro v' m R ar _;have ah:m.heap[w.heap.size]? = some (.cells #[v] 144 (0,0)):=(ar.u w.heap.size EL (a9 z (λB e=>by cases e))).trans ((AO _ _ w.heap.size aF).trans z);obtain⟨aC,aD⟩:=cell_of_box_a ah;obtain⟨t,d,K,rfl,_,_,_,_,_,_⟩:∃t d K,v'=.b t (f.length+1) d/\w.heap.size+1<=t/\m.heap[t]? = some (.cells K 90 (0,0))/\f.length+1<=d/\d<=maxLen/\K.size=d*2/\K.toList.take ((f.length+1)*2)=MO f++[.a x.1,.d x.2]:=by
       rcases R.2 with⟨_,h0⟩|h'
       .exact absurd h0 U
       exact h'
      go_frame)
   |gi_round_op_a)
  .have L:(V.alloc (.cells #[.a x.1,.d x.2] 90)).grownBy m v.ownBlock:=ar;obtain⟨H,M⟩:∃H,m.setCell (O w.heap.size 0) (.b t (f.length+1) d)=H:=⟨_,I⟩;rw[M];have aj:m.grownBy H (some w.heap.size):=by rw[<-M];exact grownBy_setCell0_a _ _ _
   have ay:H.heap[w.heap.size]? = some (.cells #[.b t (f.length+1) d] 144 (0,0)):=by rw[<-M];exact heap_setCell_box_a _ ah
   have ac:=R.kept aj (ownsRow_ne_a R ah (λB e=>by cases e));have ao:Below w.heap.size w m:=(p.alloc p.size _).C L (by have:=p.size;simp;omega) (λk e=>by exact Dz ((b.lt k e).1));have aw:Below w.heap.size w H:=ao.C aj ao.size (λk e=>by cases e;omega);refine⟨?_,⟨_,ay,by rw[ig];simpa using ac,aw,by simp⟩,((KeepsWalks.alloc _ _).trans (KeepsWalks.of_grownBy L (ownsRow_not_walk_a (b.alloc _)))).trans (by rw[<-M];exact KeepsWalks.setCell _ _ _)⟩;refine((KeepsOthers.alloc _ (.cells #[.a x.1,.d x.2] 90)).from _).trans (KeepsFrom.trans (?_:KeepsFrom _ _ m) (KeepsFrom.of_grownBy aj (λj e=>by cases e;omega)));exact⟨L.size,λk o _ Q ho=>(L.u k (lt_of_heap Q) (λe=>by
    rcases b.2 with⟨D,_⟩|⟨q,_,B,D,_,hq,_⟩
    .rw[D]at e;cases e
    rw[D]at e;simp[Value.ownBlock]at e;subst e;rw[AO _ _ _ (lt_of_heap hq),hq]at Q;cases Q
    cases ho)).trans Q⟩
  intro j u i
  have:=AR V (.cells #[.a x.1,.d x.2] 90)
  rcases j with _|_|j
  .simp at i;subst i;unfold World.cell? Addr.add;simp only[Nat.reduceAdd,Nat.reduceEqDiff,Dr,CR,this,Ak,Nat.one_ne_zero];rfl
  .simp at i;subst i;unfold World.cell? Addr.add;simp only[Nat.reduceAdd,Nat.reduceEqDiff,Dr,CR,this,Ak,Nat.one_ne_zero];rfl
  simp at i
 case done=>
  intro _ xs W hS _ hI y;subst a;obtain⟨v,z,b,p,ad⟩:=hI;obtain⟨aC,aD⟩:=cell_of_box_a z;gi_wp2;refine⟨by simp,.w ⟨_,_,I,run_takeDeferred y,?_⟩⟩;exact⟨_,results_tmp I _ _ _,v,xs,I,hS,(ownsRow_base_a b U).kept (grownBy_putObj_a _ _ _) (ownsRow_ne_a b y (λB e=>by cases e)),ad,p.C (grownBy_putObj_a _ _ _) p.size (λk e=>by cases e;omega)⟩
theorem sw(n:Nat)(k:3<=n)(g:Nat)(lb:Array Value)(f:∀a w,(callFunc g a).run prog w=.ok (.enter g a) w)(S:List (Nat×Nat)->Prop)(N:Nat)(h:N<=100000)(w:Z)(b:SeqGives Fence.wide (n-1-1) prog g lb LZ S N w):CallsIn Fence.wide n prog 85 #[.func (.func g) #[] lb] w λe w'=>∃(v:Value) (xs:List (Nat×Nat)),e=.a v/\S xs/\w'.ownsRow w.heap.size 90 2 v xs.length (MO xs)/\(v=.g↔xs=[])/\Below w.heap.size w w':=by refine Cy func85 I trivial ?_ I;simp only[ntmps85,BV,Ae,Bf,Nat.reduceAdd,Nat.reduceSub,Bc,Bb,Bo,Bh,BB,Az];gi_wp2_with fail;refine⟨trivial,λ_=>by omega,(sx (n-1) U g lb f S N h _ b).l ?_⟩;rintro e w' ⟨v,xs,rfl,i,d,c,j⟩;gi_wp2;go_ret;exact⟨v,xs,I,i,d,c,j⟩
end Y
section
open Go.RowKit
def KR(S:Nat->Prop)(W W':Z):Prop:=∀k,S k->W'.heap[k]?=W.heap[k]?
theorem KR.i{S:Nat->Prop}{A B C:Z}(h:KR S A B)(k:KR S B C):KR S A C:=λi a=>(k i a).i (h i a)
theorem KR.of_below{S:Nat->Prop}{A B:Z}{n:Nat}(h:Below n A B)(a:∀k,S k->k<n):KR S A B:=λi b=>h.u i (a i b)
def Ih{α:Type}(F:Fence)(n:Nat)(P:Program)(g:Nat)(lb:Array Value)(encs:α->Array Value)(xs:List α)(n₀:Nat)(S:Nat->Prop)(w:Z):Prop:=
 ∀(l:Nat) (z0J:List α->Z->Prop) (W:Z),Below n₀ w W ->
  (∀pre x W1,z0J pre W1->pre++[x] <+: xs->YieldAt F (n-1) P l (encs x) W1 λe W'=>e=.a (.bool true)/\z0J (pre++[x]) W'/\KR S W1 W') ->
  z0J [] W->CallsIn F n P g (#[.func (.yield l) #[] #[]]++lb) W λe W'=>(∃v,e=.a v)/\z0J xs W'
theorem Ih.later{α:Type}{F:Fence}{n:Nat}{P:Program}{g:Nat}{lb:Array Value}{a:α->Array Value}{d:List α}{b:Nat}{S:Nat->Prop}{w w':Z}(h:Ih F n P g lb a d b S w)(f:Below b w w'):Ih F n P g lb a d b S w':=
 λl c W e=>h l c W (f.i e)
def gr{α:Type}(B:Nat)(S:Nat->Prop)(z0I:List α->Z->Prop)(xs:List α)(W:Z):Exit->Act->Z->Prop
 | .normal,_,W'=>KeepsFrom B W W'/\KR S W W'/\z0I xs W'
 | _,_,_=>False
variable {F:Fence} {n:Nat} {P:Program}
theorem X5{α:Type}{g:Operand}{G:Array Tmp}{assign body:Code}{Q:Exit->Act->Z->Prop}{a:Act}{w:Z} (T:F.round=none) (h1:1<=n) {gf:Nat} {lb:Array Value} (hg:a.eval g=.func (.func gf) #[] lb) (H:F.fn gf) (eg:∀m w,(callFunc gf m).run P w=.ok (.enter gf m) w) {f:α->Array Value} {xs:List α} {n₀:Nat} {S:Nat->Prop} (A:Ih F (n-1) P gf lb f xs n₀ S w) (N:n₀<=w.heap.size) (L:∀k,S k->k<w.heap.size) (R:∀x,G.size=(f x).size) (d:List α->Z->Prop) (y:OwnFrom w.heap.size d) (h0:d [] w) (a₁:α->Z->Act) (b:α->Z->Z) (h:∀x W,Below W.heap.size W (b x W)) (has2:∀c x W,d c W->d c (b x W)) (i:∀(l:Nat) (x:α) (W:Z) (K:Act->Z->Prop),K (a₁ x W) (b x W) -> assign.wpIn (F.inRound l) (n-1-1) P (Exit.then K (λ_ _ _=>False)) {tmps:=(G.zip (f x)).foldl (λt (p,v)=>t.setIfInBounds p v) a.tmps,defers:=[]} W) (q:∀(l:Nat) (c:List α) (x:α) (W V:Z),(∀k,W.heap.size<=k->k<(b x W).heap.size->V.heap[k]?=(b x W).heap[k]?)->d c V->c++[x] <+: xs->w.heap.size<=W.heap.size->(b x W).heap.size<=V.heap.size->body.wpIn (F.inRound l) (n-1-1) P (gr w.heap.size S d (c++[x]) V) (a₁ x W) V) (s:∀(D:Nat) (W:Z),w.heap.size<=D->d xs W->W.heap[D]?=some (.deferred (some []))->Q .normal {a with defers:={target:=.collected D,args:=#[]} :: a.defers} W):(Code.rangeFunc g G assign body).wpIn F n P Q a w:=by
 refine wpIn_rangeFunc λfn ad=>?_;rw[T];obtain⟨r,j⟩:∃r:LoopState->Option Code->Loop,r=λst pe=>{state:=st,pending:=pe,fn,tmps:=a.tmps,params:=G,assign,body,defers:=w.heap.size}:=⟨_,I⟩;obtain⟨V,z⟩:=E ((w.alloc (.deferred (some []))).alloc (.loop (r .ready none)));have hL:Fj w (r .ready none) V:=by rw[z];refine⟨?_,(AO _ _ _ EJ).i (World.alloc_heap_new w _)⟩;have:=World.alloc_heap_new (w.alloc (.deferred (some []))) (.loop (r .ready none));rwa[BM]at this
 have aa:d [] V:=by rw[z];exact y.alloc _ (y.alloc _ h0)
 have ae:w.b V:=by rw[z];exact(Iy).alloc EJ _
 have ag:V.heap.size=w.heap.size+2:=by rw[z];simp
 refine⟨w.heap.size+1,[{target:=.collected w.heap.size,args:=#[]}],V,{target:=.fn (.func gf) lb,args:=#[.func (.yield (w.heap.size+1)) #[] #[]]},V,gf,
  #[.func (.yield (w.heap.size+1)) #[] #[]]++lb,V,?_,?_,?_,?_,λ_=>h1,?_⟩
 .rw[z,j];exact run_enterLoop_outer _ _ _ _ _
 .simp only[resolve,hg];simp[go_sem]
 .intro _ a7;simp[Target.leads]at a7;subst a7;exact H
 .simp[invoke,go_sem,eg]
 refine(A (w.heap.size+1) (λc W=>d c W/\Fj w (r .ready none) W) V (ae.l N) ?_ ⟨aa,hL⟩).l ?_
 .rintro c x W ⟨M,o⟩ a4;have a8:=(BC.1 o.1).1;have hy:=run_yield (P:=P) (args:=f x) o.1 (by rw[j];simp[R x]);rw[j]at hy;have C:Fj w (r .ready none) (b x W):=⟨((h x W).u _ a8).i o.1,((h x W).d _).i o.2⟩;have af:=(h x W).size;refine⟨fn,_,assign,body,hy,roundIn_of_wpIn ad (i _ x W _ ⟨_,run_beginRound C.1 (by rw[j]),?_⟩)⟩;clear hy;have ac:Fj w {r .ready none with state:=.busy} ((b x W).putObj (w.heap.size+1) (.loop {r .ready none with state:=.busy})):=C.turn _;have a6:Below w.heap.size (b x W) ((b x W).putObj (w.heap.size+1) (.loop {r .ready none with state:=.busy})):=belowK_b (w:=w) (AB _) (b x W) _ _ _ U C.1 I I;refine wpIn_mono (q _ c x W _ (λk h1 _=>World.putObj_heap_other U) (y.putObj _ (has2 c x W M) U C.1 I) a4 U a6.size) ?_;rintro e _ W3 u;cases e with
  |normal=>
   obtain⟨hk,hb,a9⟩:=u;have B:=ac.kept hk;have he:=run_endRound (P:=P) none B.1;rw[j]at he;refine⟨_,_,he,I,⟨y.putObj _ a9 U B.1 I,?_⟩,?_⟩
   .have:=B.turn (r .ready none);rw[j]at this |-;exact this
   have a5:=belowK_b (w:=w) (AB _) W3 (w.heap.size+1) _ (.loop (r .ready none)) U B.1 I I;rw[j]at a5;exact(((KR.of_below ((h x W).b) L).i (KR.of_below a6 L)).i hb).i (KR.of_below a5 L)
  |ret=>exact u.elim
  |exit id=>exact u.elim
  |goto t=>exact u.elim
  |panic ch=>exact u.elim
  |outgrown=>exact u.elim
 rintro e _ ⟨⟨v,rfl⟩,M,o⟩;exact⟨none,_,by have:=run_endLoop (P:=P) o.1 (by rw[j];simp);rw[j]at this;exact this,s _ _ (AB _) (y.putObj _ M U o.1 I) ((World.putObj_heap_other U).i o.2)⟩
end
namespace Y
open Go.RowKit Pk Go.Shelf
attribute [local go_sem] Oper.semAt_some
def Ss:Value:=.agg #[.string ⟨#[]⟩,.a 0,.d 0,.map none,.a 0]
theorem TP(w:Z):(zeroValue 94).run prog w=.ok Ss w:=EG
theorem vm(w:Z):(Instr.makeMap 137 none).run prog w=.ok (.e w.heap.size) (w.alloc (.map #[] 0)):=by simp[Instr.makeMap,Result.andThen]
theorem mM(q:Option Nat)(w:Z):Calls prog 86 #[.map q] w λe w'=>e=.a (.func (.func 143) #[] #[.c w.heap.size])/\w'=w.alloc (.cells #[.map q] 137):=by go_enter func86,ntmps86;go_wp2;go_ret;exact⟨I,I⟩
theorem mC(p:Option Addr)(k c:Nat)(w:Z):Calls prog 83 #[.slice p k c] w λe w'=>e=.a (.func (.func 138) #[] #[.c w.heap.size])/\w'=w.alloc (.cells #[.slice p k c] 144):=by go_enter func83,ntmps83;go_wp2;go_ret;exact⟨I,I⟩
def Nc(x:Nat×(Nat×Nat)):Array Value:=#[.a x.1,.agg #[.a x.2.1,.int .u32 x.2.2]]
end Y
namespace Y
open Go.RowKit Go.Sort
variable {w:Z} {EW off n:Nat} {d dj:Array Int}
theorem SY(x:Int)(w:Z):Calls prog 337 #[.int .u32 x] w λe w'=>e=.a (.bool false)/\w'=w:=by go_enter func337,ntmps337;go_wp2;go_ret;exact⟨by simp,I⟩
theorem Fy(x y:Int)(w:Z):Calls prog 323 #[.int .u32 x,.int .u32 y] w λe w'=>e=.a (.bool (ltInt x y))/\w'=w:=by go_enter func323,ntmps323;go_wp2_with (go_at_call 337;refine(SY _ _).l ?_;rintro e w' ⟨rfl,rfl⟩);go_ret;exact⟨I,I⟩
abbrev FG (w:Z) (EW off:Nat) (d:Array Int):Prop:=Holds (Value.int .u32) w EW off d
abbrev Ez (w:Z) (n EW off:Nat) (d:Array Int):Z:=putRow (Value.int .u32) (Sort.ahead w n) EW off d
theorem RE(a:FG w EW off d)(b:dj.size=d.size)(t:Nat)(c:t<d.size):(Ez w n EW off dj).cell? ⟨EW,off+t,none⟩=some (.int .u32 dj[t]!):=
 cell?_putRow _ _ _ _ d dj (holds_ahead _ _ _ _ _ _ a) b t U
theorem RV(a:FG w EW off d)(t:Nat)(b:t<d.size):(Ez w n EW off dj).frozen? ⟨EW,off+t,none⟩=false:=by rw[frozen?_putRow];exact((holds_ahead _ _ n _ _ _ a) t b).2
theorem tR(f off cap a b:Nat)(d:Array Int)(w:Z)(s:FG w f off d)(N:a<=b)(V:b<=d.size)(Q:d.size<=1000000):Calls prog 317 #[.slice (some ⟨f,off,none⟩) d.size cap,.a a,.a b] w λe w'=>e=.a (.tuple #[])/\∃n,w'=Ez w n f off (insertionSort ltInt d a b):=by
 go_enter func317,ntmps317;go_wp2;go_loopw [6] (λx wr=>∃(i n:Nat) (k:Array Int),x=.a i/\a<i/\i<=b+1/\k.size=d.size/\wr=Ez w n f off k/\Hid (insOuter ltInt a b i k=insOuter ltInt a b (a+1) d)) (λx _=>b+1-(intOf x).toNat)
 case atStart=>exact⟨a+1,0,d,by go_num,by omega,by omega,I,(putRow_self _ _ _ _ _ s).A,J I⟩
 case round=>
  obtain⟨i,n,k,rfl,_,_,M,F,A⟩:=hrel;by_cases C:i<b
  .have H:(i:Int)<(b:Nat):=U;go_wp2;go_loopw [7] (λy K=>∃(j m:Nat) (c:Array Int),y=.a j/\a<=j/\j<=i/\c.size=d.size/\K=Ez w m f off c/\Hid (insInner ltInt a j c=insInner ltInt a i k)) (λy _=>(intOf y).toNat)
   case atStart=>exact⟨i,n,k,I,by omega,AB _,M,by first|rfl|exact F,J I⟩
   obtain⟨j,m,c,rfl,_,_,p,l,z⟩:=hrel;obtain⟨G,r⟩:∃G:Nat->Int,∀t,G t=c[t]! := ⟨λt=>c[t]!,λ_=>rfl⟩;have S:∀t,t<d.size->wr.cell? ⟨f,off+t,none⟩=some (.int .u32 (G t)):=λt v=>by rw[l,r];exact RE s p t v
   have T:∀t,t<d.size->wr.frozen? ⟨f,off+t,none⟩=false:=λt v=>by rw[l];exact RV s t v
   have B:=J l;have h:=J r;have D:Hid ((j<=a\/ltInt c[j]! c[j-1]! = false)->∀q,∃o R g,Value.int .i64 ((i:Int)+1)=.a (o:Nat)/\a<o/\o<=b+1/\g.size=d.size/\wr.drewN q=Ez w R f off g/\Hid (insOuter ltInt a b o g=insOuter ltInt a b (a+1) d)):=J (λP q=>
    ⟨i+1,m+q,c,by go_num,by omega,by omega,p,by rw[B.o];exact putRow_drewN _ _ _ _ _ _ _,J (by rw[<-A.o,insOuter_go _ _ _ _ _ C,<-z.o,insInner_stop _ _ _ _ P])⟩)
   clear l r F;go_wp2;by_cases L:a<j
   .go_quiet (first|(go_at_call 323;refine Ai (Fy _ _ _)));go_wp2
    .have u:ltInt (G j) (G (j-1))=true:=by assumption
     go_region;all_goals go_wp2
     go_roundw
     case rel=>
      refine⟨j-1,m+(nq+1),swp c j (j-1),by congr 1;omega,by omega,by omega,by rw[size_swp];exact p,?_,J ?_⟩
      .rw[B.o,h.o,h.o];exact swap_worldA _ w m (nq+1) f off c j (j-1) U U
      rw[<-z.o,insInner_go ltInt a j c L (by rw[<-h.o,<-h.o];exact u)]
     case measure=>simp[intOf];omega
    have u:ltInt (G j) (G (j-1))=false:=by assumption
    go_roundw
    case rel=>exact D.o (Or.s (by rw[<-h.o,<-h.o];exact u)) nq
    case measure=>simp[intOf];omega
   go_quiet (first|(go_at_call 323;refine Ai (Fy _ _ _)));go_wp2;go_roundw
   case rel=>exact D.o (Or.w U) nq
   case measure=>simp[intOf];omega
  have H:¬(i:Int)<(b:Nat):=U;go_wp2;go_end0;exact⟨I,n,by unfold insertionSort;rw[<-A.o,insOuter_stop _ _ _ _ _ C]⟩
end Y
namespace Y
open Go.RowKit Go.Sort
variable {d:Array Int} {i j hi r:Nat}
theorem sU(h:i<j):reverseLoop i j d=reverseLoop (i+1) (j-1) (swp d i j):=by rw[reverseLoop,AD h]
theorem mh(h:¬i<j):reverseLoop i j d=d:=by rw[reverseLoop,AC h]
theorem qh(f off cap a b:Nat)(d:Array Int)(w:Z)(k:FG w f off d)(y:a<b)(F:b<=d.size)(z:d.size<=1000000):Calls prog 321 #[.slice (some ⟨f,off,none⟩) d.size cap,.a a,.a b] w λe w'=>e=.a (.tuple #[])/\∃n,w'=Ez w n f off (reverseRange d a b):=by
 go_enter func321,ntmps321;go_wp2;go_loopw [6,7] (λo p wr=>∃(i j m:Nat) (c:Array Int),o=.a i/\p=.a j/\a<=i/\i<=b/\j<b/\c.size=d.size/\wr=Ez w m f off c/\Hid (reverseLoop i j c=reverseRange d a b)) (λo p _=>(intOf p).toNat-(intOf o).toNat)
 case atStart=>exact⟨a,b-1,0,d,I,by congr 1;omega,AB _,by omega,by omega,I,(putRow_self _ _ _ _ _ k).A,J I⟩
 case round=>
  obtain⟨i,j,m,c,rfl,rfl,_,_,_,s,g,r⟩:=hrel;by_cases u:i<j
  .have x:(i:Int)<(j:Nat):=U;obtain⟨G,h⟩:∃G:Nat->Int,∀t,G t=c[t]! := ⟨λt=>c[t]!,λ_=>rfl⟩;have B:∀t,t<d.size->wr.cell? ⟨f,off+t,none⟩=some (.int .u32 (G t)):=λt l=>by rw[g,h];exact RE k s t l
   have D:∀t,t<d.size->wr.frozen? ⟨f,off+t,none⟩=false:=λt l=>by rw[g];exact RV k t l
   have v:=J g;have q:=J h;have C:i<d.size:=U;have A:j<d.size:=U;clear g h;go_wp2;go_region;all_goals go_wp2
   go_roundw
   case rel=>
    refine⟨i+1,j-1,m+1,swp c i j,by go_num,by congr 1;omega,by omega,by omega,by omega,by rw[size_swp];exact s,?_,J ?_⟩
    .rw[v.o,q.o,q.o];exact swap_worldA _ w m 1 f off c i j U U
    rw[<-r.o,sU u]
   case measure=>simp[intOf];omega
  have x:¬(i:Int)<(j:Nat):=U;go_wp2;go_end0;exact⟨I,m,by rw[<-r.o,mh u]⟩
def KU(hi first r:Nat)(d:Array Int):Nat:=if 2*r+1+1<hi/\ltInt d[first+(2*r+1)]! d[first+(2*r+1)+1]! = true then 2*r+2 else 2*r+1
theorem rR{first:Nat}(h:hi<=2*r+1):siftDown ltInt hi first r d=d:=by rw[siftDown,dif_pos U]
theorem Yh{first:Nat}(h:¬hi<=2*r+1)(b:ltInt d[first+r]! d[first+KU hi first r d]! = false):siftDown ltInt hi first r d=d:=by
 unfold KU at b;rw[siftDown,dif_neg U];by_cases a:2*r+1+1<hi/\ltInt d[first+(2*r+1)]! d[first+(2*r+1)+1]! = true
 .rw[AD a]at b;simp[a.1,a.2,b]
 rw[AC a]at b;have:(decide (2*r+1+1<hi)&&ltInt d[first+(2*r+1)]! d[first+(2*r+1)+1]!)=false:=by
  cases c:(decide (2*r+1+1<hi)&&ltInt d[first+(2*r+1)]! d[first+(2*r+1)+1]!)with
  |false=>rfl
  |true=>rw[AV,BJ]at c;exact absurd c a
 simp[this,b]
theorem ZQ{first:Nat}(h:¬hi<=2*r+1)(b:ltInt d[first+r]! d[first+KU hi first r d]! = true):siftDown ltInt hi first r d=siftDown ltInt hi first (KU hi first r d) (swp d (first+r) (first+KU hi first r d)):=by
 unfold KU at b |-;conv=>lhs;rw[siftDown,dif_neg U]
 by_cases a:2*r+1+1<hi/\ltInt d[first+(2*r+1)]! d[first+(2*r+1)+1]! = true
 .rw[AD a]at b |-;have e:2*r+2<hi:=U;simp[a.1,a.2,b,e]
 rw[AC a]at b |-;have:(decide (2*r+1+1<hi)&&ltInt d[first+(2*r+1)]! d[first+(2*r+1)+1]!)=false:=by
  cases c:(decide (2*r+1+1<hi)&&ltInt d[first+(2*r+1)]! d[first+(2*r+1)+1]!)with
  |false=>rfl
  |true=>rw[AV,BJ]at c;exact absurd c a
 simp[this,b]
theorem Rs(f off cap o a first:Nat)(d:Array Int)(w:Z)(s:FG w f off d)(F:first+a<=d.size)(u:o<=d.size)(D:d.size<=1000000):Calls prog 334 #[.slice (some ⟨f,off,none⟩) d.size cap,.a o,.a a,.a first] w λe w'=>e=.a (.tuple #[])/\∃n,w'=Ez w n f off (siftDown ltInt a first o d):=by
 go_enter func334,ntmps334;go_wp2;go_loopw [8] (λK wr=>∃(r m:Nat) (c:Array Int),K=.a r/\r<=1000000/\c.size=d.size/\wr=Ez w m f off c/\Hid (siftDown ltInt a first r c=siftDown ltInt a first o d)) (λK _=>a-(intOf K).toNat)
 case atStart=>exact⟨o,0,d,I,by omega,I,(putRow_self _ _ _ _ _ s).A,J I⟩
 case round=>
  obtain⟨r,m,c,rfl,_,z,A,x⟩:=hrel;by_cases y:a<=2*r+1
  .have l:(a:Int)<=2*(r:Nat)+1:=U;go_wp2;go_end0;exact⟨I,m,by rw[<-x.o,rR y]⟩
  have l:¬(a:Int)<=2*(r:Nat)+1:=U;obtain⟨G,H⟩:∃G:Nat->Int,∀t,G t=c[t]! := ⟨λt=>c[t]!,λ_=>rfl⟩;have F:∀t,t<d.size->wr.cell? ⟨f,off+t,none⟩=some (.int .u32 (G t)):=λt g=>by rw[A,H];exact RE s z t g
  have D:∀t,t<d.size->wr.frozen? ⟨f,off+t,none⟩=false:=λt g=>by rw[A];exact RV s t g
  have C:=J A;have b:=J H;clear A H;have i:2*r+1<a:=U;by_cases hc:2*r+1+1<a
  .have S:2*(r:Int)+1+1<(a:Nat):=U;have i:first+(2*r+1)<d.size:=U
   have i:first+(2*r+1)+1<d.size:=U
   go_wp2;go_quiet (first|(go_at_call 323;refine Ai (Fy _ _ _)));cases B:ltInt (G (first+(2*r+1))) (G (first+(2*r+1)+1))with
   |true=>
    obtain⟨q,l⟩:=E (wr.drewN nq);obtain⟨p,u⟩:=E (m+nq);have i:Hid (q=Ez w p f off c):=J (by rw[l,u,C.o];exact putRow_drewN _ _ _ _ _ _ _);have K:∀t,t<d.size->q.cell? ⟨f,off+t,none⟩=some (.int .u32 (G t)):=λt g=>by rw[i.o,b.o];exact RE s z t g
    have V:∀t,t<d.size->q.frozen? ⟨f,off+t,none⟩=false:=λt g=>by rw[i.o];exact RV s t g
    rw[<-l];clear l u F D;have j:Hid (KU a first r c=2*r+1+1):=J (by unfold KU;rw[AD ⟨hc,by rw[<-b.o,<-b.o];exact B⟩]);have R:first+(2*r+1+1)<d.size:=U
    have L:first+r<d.size:=U
    have M:=zW (x:=((first:Int)+(r:Int)));have T:(0:Int)<=(first:Int)+(r:Int):=U;have Q:(first:Int)+(r:Int)<(d.size:Nat):=U;have W:((first:Int)+(r:Int)).toNat=first+r:=U
    have H:=zW (x:=((first:Int)+(2*(r:Int)+1+1)));have P:(0:Int)<=(first:Int)+(2*(r:Int)+1+1):=U;have N:(first:Int)+(2*(r:Int)+1+1)<(d.size:Nat):=U;have ar:((first:Int)+(2*(r:Int)+1+1)).toNat=first+(2*r+1+1):=U
    go_wp2;go_quiet (first|(go_at_call 323;refine Ai (Fy _ _ _)));cases v:ltInt (G (first+r)) (G (first+(2*r+1+1)))with
    |false=>have k:Hid (siftDown ltInt a first o d=c):=J (by rw[<-x.o];exact Yh y (by rw[j.o,<-b.o,<-b.o];exact v));go_wp2;((try simp only[Exit.inBlock,Exit.then]);refine BE (CW I _ _ _) I ?_);exact⟨I,_,by rw[k.o,i.o];exact putRow_drewN _ _ _ _ _ _ _⟩
    |true=>
     have k:Hid (siftDown ltInt a first (2*r+1+1) (swp c (first+r) (first+(2*r+1+1)))=siftDown ltInt a first o d):=J (by rw[<-x.o,ZQ y (by rw[j.o,<-b.o,<-b.o];exact v),j.o]);go_wp2;go_region;all_goals go_wp2
     go_roundw
     case rel=>refine⟨2*r+1+1,p+(nq+1),swp c (first+r) (first+(2*r+1+1)),by congr 1,by omega,by rw[size_swp];exact z,?_,k⟩;rw[i.o,b.o,b.o];exact swap_worldA _ w p _ f off c (first+r) (first+(2*r+1+1)) U U
     case measure=>simp[intOf];omega
   |false=>
    obtain⟨q,l⟩:=E (wr.drewN nq);obtain⟨p,u⟩:=E (m+nq);have i:Hid (q=Ez w p f off c):=J (by rw[l,u,C.o];exact putRow_drewN _ _ _ _ _ _ _);have K:∀t,t<d.size->q.cell? ⟨f,off+t,none⟩=some (.int .u32 (G t)):=λt g=>by rw[i.o,b.o];exact RE s z t g
    have V:∀t,t<d.size->q.frozen? ⟨f,off+t,none⟩=false:=λt g=>by rw[i.o];exact RV s t g
    rw[<-l];clear l u F D;have j:Hid (KU a first r c=2*r+1):=J (by unfold KU;rw[AC (λh=>by have:=h.2;rw[<-b.o,<-b.o,B]at this;cases this)]);have R:first+(2*r+1)<d.size:=U
    have L:first+r<d.size:=U
    have M:=zW (x:=((first:Int)+(r:Int)));have T:(0:Int)<=(first:Int)+(r:Int):=U;have Q:(first:Int)+(r:Int)<(d.size:Nat):=U;have W:((first:Int)+(r:Int)).toNat=first+r:=U
    have H:=zW (x:=((first:Int)+(2*(r:Int)+1)));have P:(0:Int)<=(first:Int)+(2*(r:Int)+1):=U;have N:(first:Int)+(2*(r:Int)+1)<(d.size:Nat):=U;have ar:((first:Int)+(2*(r:Int)+1)).toNat=first+(2*r+1):=U
    go_wp2;go_quiet (first|(go_at_call 323;refine Ai (Fy _ _ _)));cases v:ltInt (G (first+r)) (G (first+(2*r+1)))with
    |false=>have k:Hid (siftDown ltInt a first o d=c):=J (by rw[<-x.o];exact Yh y (by rw[j.o,<-b.o,<-b.o];exact v));go_wp2;((try simp only[Exit.inBlock,Exit.then]);refine BE (CW I _ _ _) I ?_);exact⟨I,_,by rw[k.o,i.o];exact putRow_drewN _ _ _ _ _ _ _⟩
    |true=>
     have k:Hid (siftDown ltInt a first (2*r+1) (swp c (first+r) (first+(2*r+1)))=siftDown ltInt a first o d):=J (by rw[<-x.o,ZQ y (by rw[j.o,<-b.o,<-b.o];exact v),j.o]);go_wp2;go_region;all_goals go_wp2
     go_roundw
     case rel=>refine⟨2*r+1,p+(nq+1),swp c (first+r) (first+(2*r+1)),by congr 1,by omega,by rw[size_swp];exact z,?_,k⟩;rw[i.o,b.o,b.o];exact swap_worldA _ w p _ f off c (first+r) (first+(2*r+1)) U U
     case measure=>simp[intOf];omega
  have S:¬2*(r:Int)+1+1<(a:Nat):=U;have A:=zW (x:=(2*(r:Int)+1+1));have A:decide (2*(r:Int)+1+1<(a:Nat))=false:=BZ S;go_wp2;go_quiet (first|(go_at_call 323;refine Ai (Fy _ _ _)));obtain⟨q,l⟩:=E (wr.drewN nq);obtain⟨p,u⟩:=E (m+nq);have i:Hid (q=Ez w p f off c):=J (by rw[l,u,C.o];exact putRow_drewN _ _ _ _ _ _ _);have K:∀t,t<d.size->q.cell? ⟨f,off+t,none⟩=some (.int .u32 (G t)):=λt g=>by rw[i.o,b.o];exact RE s z t g
  have V:∀t,t<d.size->q.frozen? ⟨f,off+t,none⟩=false:=λt g=>by rw[i.o];exact RV s t g
  rw[<-l];clear l u F D;have j:Hid (KU a first r c=2*r+1):=J (by unfold KU;rw[AC (λh=>hc h.1)]);have R:first+(2*r+1)<d.size:=U
  have L:first+r<d.size:=U
  have M:=zW (x:=((first:Int)+(r:Int)));have T:(0:Int)<=(first:Int)+(r:Int):=U;have Q:(first:Int)+(r:Int)<(d.size:Nat):=U;have W:((first:Int)+(r:Int)).toNat=first+r:=U
  have H:=zW (x:=((first:Int)+(2*(r:Int)+1)));have P:(0:Int)<=(first:Int)+(2*(r:Int)+1):=U;have N:(first:Int)+(2*(r:Int)+1)<(d.size:Nat):=U;have ar:((first:Int)+(2*(r:Int)+1)).toNat=first+(2*r+1):=U
  go_wp2;go_quiet (first|(go_at_call 323;refine Ai (Fy _ _ _)));cases v:ltInt (G (first+r)) (G (first+(2*r+1)))with
  |false=>have k:Hid (siftDown ltInt a first o d=c):=J (by rw[<-x.o];exact Yh y (by rw[j.o,<-b.o,<-b.o];exact v));go_wp2;((try simp only[Exit.inBlock,Exit.then]);refine BE (CW I _ _ _) I ?_);exact⟨I,_,by rw[k.o,i.o];exact putRow_drewN _ _ _ _ _ _ _⟩
  |true=>
   have k:Hid (siftDown ltInt a first (2*r+1) (swp c (first+r) (first+(2*r+1)))=siftDown ltInt a first o d):=J (by rw[<-x.o,ZQ y (by rw[j.o,<-b.o,<-b.o];exact v),j.o]);go_wp2;go_region;all_goals go_wp2
   go_roundw
   case rel=>refine⟨2*r+1,p+(nq+1),swp c (first+r) (first+(2*r+1)),by congr 1,by omega,by rw[size_swp];exact z,?_,k⟩;rw[i.o,b.o,b.o];exact swap_worldA _ w p _ f off c (first+r) (first+(2*r+1)) U U
   case measure=>simp[intOf];omega
theorem rowU_holds{w:Z}{b off:Nat}{d a:Array Int}(c:FG w b off d)(n:Nat)(e:a.size=d.size):FG (Ez w n b off a) b off a:=holds_putRow _ _ _ _ d a (holds_ahead _ _ _ _ _ _ c) e
theorem Yx(w:Z)(n m a off:Nat){d d':Array Int}(h:d'.size=d.size):Ez (Ez w n a off d) m a off d'=Ez w (n+m) a off d':=putRow_ahead_putRow _ _ _ _ _ _ _ _ h
theorem Tr(a first r:Nat)(d:Array Int):(siftDown ltInt a first r d).size=d.size:=size_siftDown ltInt _ _ _ _ _ (AB _)
theorem Ug(c off cap a b:Nat)(d:Array Int)(w:Z)(s:FG w c off d)(hab:a<b)(hb:b<=d.size)(hsz:d.size<=1000000):Calls prog 318 #[.slice (some ⟨c,off,none⟩) d.size cap,.a a,.a b] w λe w'=>e=.a (.tuple #[])/\∃n,w'=Ez w n c off (heapSort ltInt d a b):=by
 obtain⟨g,aj⟩:=E (b-a);have aB:1<=g:=U;have aA:a+g<=d.size:=U;have h1:(b:Int)-(a:Nat)=(g:Nat):=U;obtain⟨k0,V⟩:=E ((g-1)/2);have h2:Int.tdiv ((g:Int)-1) 2=(k0:Nat):=by rw[Ba U];omega
 have ao:k0<g:=U;have ac:Hid (heapSort ltInt d a b=heapPop ltInt a g (heapBuild ltInt g a (k0+1) d)):=J (by unfold heapSort;rw[<-aj,<-V]);clear aj V;go_enter func318,ntmps318;go_wp2;go_loopw [9] (λq wr=>∃(k m:Nat) (j:Array Int),q=.a ((k:Nat)-1:Int)/\k<=k0+1/\j.size=d.size/\wr=Ez w m c off j/\Hid (heapBuild ltInt g a k j=heapBuild ltInt g a (k0+1) d)) (λq _=>(intOf q+1).toNat)
 case atStart=>exact⟨k0+1,0,d,by congr 1;omega,AB _,I,(putRow_self _ _ _ _ _ s).A,J I⟩
 case round=>
  obtain⟨k,m,j,rfl,hk,B,h,R⟩:=hrel;cases k with
  |succ k=>
   have o:(((k+1:Nat):Int)-1)=(k:Nat):=U;rw[o];have au:(0:Int)<=(k:Nat):=U;have A:=J (Rs c off cap k g a j wr (by rw[h];exact rowU_holds s m B) U U U);rw[B]at A;have z:=J h;clear h;go_wp2_with fail;refine A.o.l ?_;rintro e w3 ⟨rfl,n,T⟩;have an:Hid (w3=Ez w (m+n) c off (siftDown ltInt g a k j)):=J (by rw[T,z.o];exact Yx w m n c off (by rw[Tr]));clear T A;go_wp2;go_roundw
   case rel=>exact⟨k,m+n,siftDown ltInt g a k j,I,by omega,by rw[Tr];exact B,an.o,J (by rw[<-R.o];rfl)⟩
   case measure=>simp[intOf]
  |zero=>
   have o:(((0:Nat):Int)-1) = -1:=I;rw[o];obtain⟨_,am⟩:=E wr;subst am;have ax:=J h;clear h;go_wp2;go_loopw [10] (λq wr=>∃(k n:Nat) (f:Array Int),q=.a ((k:Nat)-1:Int)/\k<=g/\f.size=d.size/\wr=Ez w n c off f/\Hid (heapPop ltInt a k f=heapPop ltInt a g (heapBuild ltInt g a (k0+1) d))) (λq _=>(intOf q+1).toNat)
   case atStart=>exact⟨g,m,j,I,AB _,B,ax.o,J (by rw[<-R.o];rfl)⟩
   case round=>
    obtain⟨k,n,f,rfl,hk,r,h,K⟩:=hrel;cases k with
    |succ k=>
     have o:(((k+1:Nat):Int)-1)=(k:Nat):=U;rw[o];have au:(0:Int)<=(k:Nat):=U;obtain⟨G,M⟩:∃G:Nat->Int,∀t,G t=f[t]! := ⟨λt=>f[t]!,λ_=>rfl⟩;have y:∀t,t<d.size->wr.cell? ⟨c,off+t,none⟩=some (.int .u32 (G t)):=λt N=>by rw[h,M];exact RE s r t N
     have C:∀t,t<d.size->wr.frozen? ⟨c,off+t,none⟩=false:=λt N=>by rw[h];exact RV s t N
     have z:=J h;have D:=J M;have H:a<d.size:=U;have S:a+k<d.size:=U;clear h M;have A:=J (λW hW=>Rs c off cap 0 k a (swp f a (a+k)) W hW (by rw[size_swp];omega) (by rw[size_swp];omega) (by rw[size_swp];omega));rw[size_swp,r]at A;by_cases ay:k=0
     case pos=>
      subst ay;have L:=y a H;go_wp2_with fail;go_region;obtain⟨i,l⟩:=E (((wr.setCell ⟨c,off+a,none⟩ (.int .u32 (G a))).setCell ⟨c,off+a,none⟩ (.int .u32 (G a))).drew);rw[<-l];have x:Hid (i=Ez w (n+1) c off (swp f a (a+0))):=J (by rw[l,z.o,D.o];exact swap_worldA _ w n 1 c off f a a U U);clear l L;have u:Hid (Calls prog 334 #[.slice (some ⟨c,off,none⟩) d.size cap,.a 0,.a 0,.a a] i λe w'=>e=.a (.tuple #[])/\∃P,w'=Ez i P c off (siftDown ltInt 0 a 0 (swp f a (a+0)))):=J (A.o i (by rw[x.o];exact rowU_holds s (n+1) (by rw[size_swp];exact r)));clear A y C;go_wp2_with fail;refine u.o.l ?_;rintro e Q ⟨rfl,p,v⟩;have F:Hid (Q=Ez w (n+1+p) c off (siftDown ltInt 0 a 0 (swp f a (a+0)))):=J (by rw[v,x.o];exact Yx w (n+1) p c off (by rw[Tr]));clear v u;go_wp2;go_roundw
      case rel=>exact⟨0,n+1+p,siftDown ltInt 0 a 0 (swp f a (a+0)),by first|rfl|go_num,by omega,by rw[Tr,size_swp];exact r,F.o,J (by rw[<-K.o];rfl)⟩
      case measure=>simp[intOf]
     case neg=>
      have az:off+(a+k)≠off+a:=U;have L:=y a H;have GU:=y (a+k) S;have av:=C a H;have aw:=C (a+k) S;go_wp2_with fail;go_region;obtain⟨i,l⟩:=E (((wr.setCell ⟨c,off+a,none⟩ (.int .u32 (G (a+k)))).setCell ⟨c,off+(a+k),none⟩ (.int .u32 (G a))).drew);rw[<-l];have x:Hid (i=Ez w (n+1) c off (swp f a (a+k))):=J (by rw[l,z.o,D.o,D.o];exact swap_worldA _ w n 1 c off f a (a+k) U U);clear l L GU av aw;have u:Hid (Calls prog 334 #[.slice (some ⟨c,off,none⟩) d.size cap,.a 0,.a k,.a a] i λe w'=>e=.a (.tuple #[])/\∃P,w'=Ez i P c off (siftDown ltInt k a 0 (swp f a (a+k)))):=J (A.o i (by rw[x.o];exact rowU_holds s (n+1) (by rw[size_swp];exact r)));clear A y C;go_wp2_with fail;refine u.o.l ?_;rintro e Q ⟨rfl,p,v⟩;have F:Hid (Q=Ez w (n+1+p) c off (siftDown ltInt k a 0 (swp f a (a+k)))):=J (by rw[v,x.o];exact Yx w (n+1) p c off (by rw[Tr]));clear v u;go_wp2;go_roundw
      case rel=>exact⟨k,n+1+p,siftDown ltInt k a 0 (swp f a (a+k)),by first|rfl|go_num,by omega,by rw[Tr,size_swp];exact r,F.o,J (by rw[<-K.o];rfl)⟩
      case measure=>simp[intOf]
    |zero=>have o:(((0:Nat):Int)-1) = -1:=I;rw[o];have ar:=J h;clear h;go_wp2;go_end0;exact⟨I,n,by rw[ac.o,<-K.o,ar.o];rfl⟩
theorem Zl(m off cap a b c f s:Nat)(d:Array Int)(w:Z)(u:FG w m off d)(C:a<d.size)(D:b<d.size)(k:Holds (Value.int .i64) w c f (one s))(F:s<=1000)(A:d.size<=1000000):Calls prog 339 #[.slice (some ⟨m,off,none⟩) d.size cap,.a a,.a b,.pointer (some ⟨c,f,none⟩)] w λe w'=>e=.a (.tuple #[.a ((order2 ltInt d a b s).1:Nat),.a ((order2 ltInt d a b s).2.1:Nat)])/\∃n,w'=putRow (Value.int .i64) (Sort.ahead w n) c f (one (order2 ltInt d a b s).2.2):=by
 obtain⟨G,o⟩:∃G:Nat->Int,∀t,G t=d[t]! := ⟨λt=>d[t]!,λ_=>rfl⟩;have z:∀t,t<d.size->w.cell? ⟨m,off+t,none⟩=some (.int .u32 (G t)):=λt B=>by rw[o];exact(u t B).1
 have c0:w.cell? ⟨c,f,none⟩=some (.a s):=(k 0 (by simp[one])).1;have f0:w.frozen? ⟨c,f,none⟩=false:=(k 0 (by simp[one])).2;have i:=J o;have p:=J k;clear o k u;go_enter func339,ntmps339;go_wp2;go_quiet (first|(go_at_call 323;refine Ai (Fy _ _ _)));obtain⟨l,g⟩:=E (w.drewN nq);have c1:l.cell? ⟨c,f,none⟩=some (.a s):=by rw[g];exact c0
 have f1:l.frozen? ⟨c,f,none⟩=false:=by rw[g];exact f0
 have q:Hid (Holds (Value.int .i64) l c f (one s)):=J (by rw[g];exact λj v=>⟨(p.o j v).1,(p.o j v).2⟩);have r:Hid (l=Sort.ahead w nq):=J (by rw[g];rfl);rw[<-g];clear z c0 f0 g;cases x:ltInt (G b) (G a)with
 |true=>
  have e2:order2 ltInt d a b s=(b,a,s+1):=by unfold order2;rw[<-i.o,<-i.o,x];rfl
  have h:=J e2;have y:=J (one_set q.o (s+1));clear e2;go_wp2;go_ret2;refine⟨by rw[h.o];rfl,nq,?_⟩;rw[h.o,<-r.o];exact y.o
 |false=>
  have e2:order2 ltInt d a b s=(a,b,s):=by unfold order2;rw[<-i.o,<-i.o,x];rfl
  have h:=J e2;clear e2;go_wp2;go_ret2;refine⟨by rw[h.o];rfl,nq,?_⟩;rw[h.o,<-r.o];exact(putRow_self _ _ _ _ _ q.o).A
theorem Lp{w:Z}{a off e f n t:Nat}{d:Array Int}(h:FG w a off d)(b:e≠a):FG (putRow (Value.int .i64) (Sort.ahead w n) e f (one t)) a off d:=λj c=>
 ⟨by rw[cell?_putRow_other _ _ _ _ _ _ (Or.w (Ne.A b))];exact(h j c).1,by rw[frozen?_putRow];exact(h j c).2⟩
theorem OW{w:Z}{a b s n t:Nat}(h:Holds (Value.int .i64) w a b (one s)):Holds (Value.int .i64) (putRow (Value.int .i64) (Sort.ahead w n) a b (one t)) a b (one t):=holds_putRow _ _ _ _ (one s) (one t) (holds_ahead _ _ _ _ _ _ h) I
theorem VK(d:Array Int)(a b s:Nat):(order2 ltInt d a b s).2.2<=s+1:=by unfold order2;split<;>simp
theorem ZW(i off cap a b c f h s:Nat)(d:Array Int)(w:Z)(v:FG w i off d)(L:a<d.size)(M:b<d.size)(N:c<d.size)(l:f≠i)(x:Holds (Value.int .i64) w f h (one s))(u:s<=900)(j:d.size<=1000000):Calls prog 336 #[.slice (some ⟨i,off,none⟩) d.size cap,.a a,.a b,.a c,.pointer (some ⟨f,h,none⟩)] w λe w'=>e=.a (.a ((median ltInt d a b c s).1:Nat))/\∃n,w'=putRow (Value.int .i64) (Sort.ahead w n) f h (one (median ltInt d a b c s).2):=by have A:=J (Zl i off cap a b f h s d w v L M x U j);obtain⟨g,t⟩:=E (order2 ltInt d a b s);have q:=order2_lt d s L M;have q1:=VK d a b s;rw[<-t]at A q q1;obtain⟨k,m⟩:=E (order2 ltInt d g.2.1 c g.2.2);have P:=order2_lt d g.2.2 q.2 N;have q2:=VK d g.2.1 c g.2.2;rw[<-m]at P q2;obtain⟨z,u⟩:=E (order2 ltInt d g.1 k.1 k.2.2);have G:Hid (median ltInt d a b c s=(z.2.1,z.2.2)):=J (by rw[u,m,t];rfl);have R:=J v;have T:=J x;have p:=J m;have H:=J u;clear t m u v x;go_enter func336,ntmps336;go_wp2_with fail;refine A.o.l ?_;rintro e D ⟨rfl,n1,o⟩;have F:Hid (FG D i off d):=J (by rw[o];exact Lp R.o l);have K:Hid (Holds (Value.int .i64) D f h (one g.2.2)):=J (by rw[o];exact OW T.o);have B:=J (Zl i off cap g.2.1 c f h g.2.2 d D F.o q.2 N K.o U j);rw[<-p.o]at B;have W:=J o;clear o A;go_wp2_with fail;refine B.o.l ?_;rintro e r ⟨rfl,y,p⟩;have S:Hid (FG r i off d):=J (by rw[p];exact Lp F.o l);have V:Hid (Holds (Value.int .i64) r f h (one k.2.2)):=J (by rw[p];exact OW K.o);have C:=J (Zl i off cap g.1 k.1 f h k.2.2 d r S.o q.1 P.1 V.o U j);rw[<-H.o]at C;have o:Hid (r=putRow (Value.int .i64) (Sort.ahead w (n1+y)) f h (one k.2.2)):=J (by rw[p,W.o,one_one]);clear p B;go_wp2_with fail;refine C.o.l ?_;rintro e t ⟨rfl,Q,H⟩;have m:Hid (t=putRow (Value.int .i64) (Sort.ahead w (n1+y+Q)) f h (one z.2.2)):=J (by rw[H,o.o,one_one]);clear H C;go_wp2;go_ret;exact⟨by rw[G.o];rfl,n1+y+Q,by rw[G.o];exact m.o⟩
theorem YP(c off cap a b f s:Nat)(d:Array Int)(w:Z)(k:FG w c off d)(v:1<=a)(t:a+1<d.size)(h:b≠c)(l:Holds (Value.int .i64) w b f (one s))(u:s<=900)(i:d.size<=1000000):Calls prog 335 #[.slice (some ⟨c,off,none⟩) d.size cap,.a a,.pointer (some ⟨b,f,none⟩)] w λe w'=>e=.a (.a ((medianAdjacent ltInt d a s).1:Nat))/\∃n,w'=putRow (Value.int .i64) (Sort.ahead w n) b f (one (medianAdjacent ltInt d a s).2):=by have A:=J (ZW c off cap (a-1) a (a+1) b f s d w k U U t h l u i);have r:(a:Int)-1=((a-1:Nat):Int):=U;have g:Hid (medianAdjacent ltInt d a s=median ltInt d (a-1) a (a+1) s):=J I;obtain⟨_,o⟩:=E (median ltInt d (a-1) a (a+1) s);rw[<-o]at A g;obtain⟨p,m⟩:=E (a-1);rw[<-m]at A r;clear k l o m;go_enter func335,ntmps335;go_wp2_with fail;refine A.o.l ?_;rintro e _ ⟨rfl,n1,j⟩;have q:=J j;clear j A;go_wp2;go_ret;exact⟨by rw[g.o];rfl,n1,by rw[g.o];exact q.o⟩
variable {a b l q:Nat} {d:Array Int}
def Rk:Hint->Nat
 | .unknown=>0
 | .increasing=>1
 | .decreasing=>2
theorem ZY(d:Array Int){c n:Nat}(s:Nat)(g:a<n)(h:b<n)(i:c<n):(median ltInt d a b c s).1<n:=by have e:=order2_lt d s g h;have f:=order2_lt d (order2 ltInt d a b s).2.2 e.2 i;exact(order2_lt d (order2 ltInt d (order2 ltInt d a b s).2.1 c (order2 ltInt d a b s).2.2).2.2 e.1 f.1).2
theorem UR(d:Array Int)(a b c s:Nat):(median ltInt d a b c s).2<=s+3:=by have e:=VK d a b s;have f:=VK d (order2 ltInt d a b s).2.1 c (order2 ltInt d a b s).2.2;have g:=VK d (order2 ltInt d a b s).1 (order2 ltInt d (order2 ltInt d a b s).2.1 c (order2 ltInt d a b s).2.2).1 (order2 ltInt d (order2 ltInt d a b s).2.1 c (order2 ltInt d a b s).2.2).2.2;show(order2 ltInt d _ _ _).2.2<=_;omega
theorem wJ(w:Z)(n s:Nat):∃a,putRow (Value.int .i64) (Sort.ahead (w.alloc (.cells #[.a 0] 3)) n) w.heap.size 0 (one s)=grow (Sort.ahead w n) a:=by rw[alloc_eq_grow,ahead_grow];obtain⟨a,_,h⟩:=putRow_grow_new (Value.int .i64) (Sort.ahead w n) #[.cells #[.a 0] 3] w.s 0 (one s) (AB _);exact⟨a,h⟩
theorem uh(w:Z):Holds (Value.int .i64) (w.alloc (.cells #[.a 0] 3)) w.heap.size 0 (one 0):=λj a=>by
 have:j=0:=by simp[one]at a;omega
 subst this;exact⟨by simp[one],by simp⟩
def hintOf(s:Nat):Hint:=if s=0 then .increasing else if s=12 then .decreasing else .unknown
theorem sC(e:l=b-a)(f:q=l/4)(c:¬8<=l):choosePivot ltInt d a b=(a+q*2,hintOf 0):=by subst f e;simp[choosePivot,hintOf,c]
theorem vq(f:l=b-a)(g:q=l/4)(e:8<=l)(c:¬50<=l):choosePivot ltInt d a b=((median ltInt d (a+q) (a+q*2) (a+q*3) 0).1,hintOf (median ltInt d (a+q) (a+q*2) (a+q*3) 0).2):=by subst g f;simp[choosePivot,hintOf,e,c]
theorem sD{i j k:Nat}{e f g h:Nat×Nat}(v:l=b-a)(w:q=l/4)(c:50<=l)(s:i=a+q)(t:j=a+q*2)(u:k=a+q*3)(m:e=medianAdjacent ltInt d i 0)(n:f=medianAdjacent ltInt d j e.2)(o:g=medianAdjacent ltInt d k f.2)(p:h=median ltInt d e.1 f.1 g.1 g.2):choosePivot ltInt d a b=(h.1,hintOf h.2):=by subst p o n m u t s w v;have r:8<=b-a:=U;simp[choosePivot,hintOf,r,c]
theorem Sq(c off cap a b:Nat)(d:Array Int)(w:Z)(L:FG w c off d)(v:a<b)(f:b<=d.size)(K:c<w.heap.size)(f:d.size<=1000000):Calls prog 320 #[.slice (some ⟨c,off,none⟩) d.size cap,.a a,.a b] w λe w'=>e=.a (.tuple #[.a ((choosePivot ltInt d a b).1:Nat),.a (Rk (choosePivot ltInt d a b).2:Nat)])/\∃n P,w'=grow (Sort.ahead w n) P:=by
 obtain⟨l,M⟩:=E (b-a);have g:(b:Int)-(a:Nat)=(l:Nat):=U;obtain⟨q,h⟩:=E (l/4);have g:Int.tdiv (l:Nat) 4=(q:Nat):=by rw[Ba U];omega
 have g:a+l<=d.size:=U;have g:q*4<=l:=U;obtain⟨z,v⟩:=E w.heap.size;obtain⟨g,B⟩:=E (w.alloc (.cells #[.a 0] 3));have H1:Hid (FG g c off d):=J (by rw[B,alloc_eq_grow];exact holds_grow _ _ _ _ _ _ K L);have H:Hid (Holds (Value.int .i64) g z 0 (one 0)):=J (by rw[B,v];exact uh w);have u:z≠c:=U;have F:Hid (∀n s,∃P,putRow (Value.int .i64) (Sort.ahead g n) z 0 (one s)=grow (Sort.ahead w n) P):=J (λn s=>by rw[B,v];exact wJ w n s);have aG:Hid (∃P,g=grow (Sort.ahead w 0) P):=J ⟨_,by rw[B,alloc_eq_grow];rfl⟩;have ag:=J B;have P:=J v;have K:=J M;have S:=J h;clear L B v M h;by_cases ay:8<=l
 .have ar:(8:Int)<=(l:Nat):=U;by_cases a7:50<=l
  .have a6:(50:Int)<=(l:Nat):=U;obtain⟨i,L⟩:=E (a+q);obtain⟨j,v⟩:=E (a+q*2);obtain⟨k,M⟩:=E (a+q*3);have e1:(a:Int)+(q:Int)=(i:Nat):=U;have e2:(a:Int)+(q:Int)*2=(j:Nat):=U;have e3:(a:Int)+(q:Int)*3=(k:Nat):=U;have B:12<=q:=Dz S.o;obtain⟨o,V⟩:∃r,r=medianAdjacent ltInt d i 0:=⟨_,I⟩;obtain⟨h,x⟩:∃r,r=medianAdjacent ltInt d j o.2:=⟨_,I⟩;obtain⟨m,W⟩:∃r,r=medianAdjacent ltInt d k h.2:=⟨_,I⟩;obtain⟨Q,y⟩:∃r,r=median ltInt d o.1 h.1 m.1 m.2:=⟨_,I⟩;have p:Hid (choosePivot ltInt d a b=(Q.1,hintOf Q.2)):=J (sD K.o S.o a7 L v M V x W y);have b1:o.1<d.size/\o.2<=3:=by rw[V];exact⟨ZY d 0 U U U,UR d _ _ _ 0⟩
   have b2:h.1<d.size/\h.2<=6:=by rw[x];exact⟨ZY d _ U U U,by have:=UR d (j-1) j (j+1) o.2;exact AG this U⟩
   have b3:m.1<d.size/\m.2<=9:=by rw[W];exact⟨ZY d _ U U U,by have:=UR d (k-1) k (k+1) h.2;exact AG this U⟩
   have A:=J (YP c off cap i z 0 0 d g H1.o U U u H.o U f);rw[<-V]at A;have D:=J x;have T:=J W;have aA:=J y;have R:Hid (1<=i/\i+1<d.size/\1<=j/\j+1<d.size/\1<=k/\k+1<d.size):=J U;clear V x W y L v M B;go_enter func320,ntmps320;go_wp2_with rw[<-ag.o,<-P.o];refine A.o.l ?_;rintro e y ⟨rfl,n1,x⟩;have C:Hid (FG y c off d):=J (by rw[x];exact Lp H1.o u);have N:Hid (Holds (Value.int .i64) y z 0 (one o.2)):=J (by rw[x];exact OW H.o);have W:=J (YP c off cap j z 0 o.2 d y C.o R.o.2.2.1 R.o.2.2.2.1 u N.o U f);rw[<-D.o]at W;have B:=J x;clear x A e1 e2 e3;go_wp2_with fail;refine W.o.l ?_;rintro e V ⟨rfl,D,x⟩;have G:Hid (FG V c off d):=J (by rw[x];exact Lp C.o u);have av:Hid (Holds (Value.int .i64) V z 0 (one h.2)):=J (by rw[x];exact OW N.o);have y:=J (YP c off cap k z 0 h.2 d V G.o R.o.2.2.2.2.1 R.o.2.2.2.2.2 u av.o U f);rw[<-T.o]at y;have az:Hid (V=putRow (Value.int .i64) (Sort.ahead g (n1+D)) z 0 (one h.2)):=J (by rw[x,B.o,one_one]);clear x W;go_wp2_with fail;refine y.o.l ?_;rintro e x ⟨rfl,N,T⟩;have R:Hid (FG x c off d):=J (by rw[T];exact Lp G.o u);have C:Hid (Holds (Value.int .i64) x z 0 (one m.2)):=J (by rw[T];exact OW av.o);have W:=J (ZW c off cap o.1 h.1 m.1 z 0 m.2 d x R.o b1.1 b2.1 b3.1 u C.o U f);have G:=UR d o.1 h.1 m.1 m.2;rw[<-aA.o]at W G;have R:Hid (x=putRow (Value.int .i64) (Sort.ahead g (n1+D+N)) z 0 (one m.2)):=J (by rw[T,az.o,one_one]);clear T y;go_wp2_with fail;refine W.o.l ?_;rintro e o ⟨rfl,T,m⟩;have c1:o.cell? ⟨z,0,none⟩=some (.a Q.2):=by rw[m];exact(one_cell (OW C.o)).1
   have h:Hid (o=putRow (Value.int .i64) (Sort.ahead g (n1+D+N+T)) z 0 (one Q.2)):=J (by rw[m,R.o,one_one]);clear m W;obtain⟨t,x⟩:=E Q.2;rw[<-x]at c1 G;have y:=J x;clear x;by_cases C:t=0
   .subst C;go_wp2;go_ret2;refine⟨by rw[p.o,<-y.o];rfl,n1+D+N+T,?_⟩;rw[h.o];exact F.o _ _
   have o:((t:Int)==0)=false:=EU C;by_cases W:t=12
   .subst W;go_wp2;go_ret2;refine⟨by rw[p.o,<-y.o];rfl,n1+D+N+T,?_⟩;rw[h.o];exact F.o _ _
   have m:((t:Int)==12)=false:=EL;go_wp2;go_ret2;refine⟨by rw[p.o,<-y.o];unfold hintOf;rw[AC C,AC W];rfl,n1+D+N+T,?_⟩;rw[h.o];exact F.o _ _
  have a6:¬(50:Int)<=(l:Nat):=U;obtain⟨i,L⟩:=E (a+q);obtain⟨j,v⟩:=E (a+q*2);obtain⟨k,M⟩:=E (a+q*3);have e1:(a:Int)+(q:Int)=(i:Nat):=U;have e2:(a:Int)+(q:Int)*2=(j:Nat):=U;have e3:(a:Int)+(q:Int)*3=(k:Nat):=U;have A:=J (ZW c off cap i j k z 0 0 d g H1.o U U U u H.o U f);obtain⟨r,W⟩:=E (median ltInt d i j k 0);have G:=UR d i j k 0;rw[<-W]at A G;have p:Hid (choosePivot ltInt d a b=(r.1,hintOf r.2)):=J (by rw[vq K.o S.o ay a7,<-L,<-v,<-M,<-W]);clear W L v M;go_enter func320,ntmps320;go_wp2_with rw[<-ag.o,<-P.o];refine A.o.l ?_;rintro e M ⟨rfl,n1,L⟩;have c1:M.cell? ⟨z,0,none⟩=some (.a r.2):=by rw[L];exact(one_cell (OW H.o)).1
  have B:=J L;clear L A;obtain⟨t,x⟩:=E r.2;rw[<-x]at c1 G;have y:=J x;clear x;by_cases C:t=0
  .subst C;go_wp2;go_ret2;refine⟨by rw[p.o,<-y.o];rfl,n1,?_⟩;rw[B.o];exact F.o _ _
  have L:(t:Int)≠0:=U;have o:((t:Int)==0)=false:=EU L;have m:((t:Int)==12)=false:=EL;go_wp2;go_ret2;refine⟨by rw[p.o,<-y.o];unfold hintOf;rw[AC C,AC U];rfl,n1,?_⟩;rw[B.o];exact F.o _ _
 have ar:¬(8:Int)<=(l:Nat):=U;obtain⟨j,v⟩:=E (a+q*2);have e2:(a:Int)+(q:Int)*2=(j:Nat):=U;have p:Hid (choosePivot ltInt d a b=(j,hintOf 0)):=J (by rw[sC K.o S.o ay,<-v]);have c1:g.cell? ⟨z,0,none⟩=some (.a 0):=(one_cell H.o).1;clear v;go_enter func320,ntmps320;go_wp2_with rw[<-ag.o,<-P.o];go_ret2;exact⟨by rw[p.o];rfl,0,aG.o⟩
variable {w wr:Z} {EW off n:Nat} {d dk:Array Int}
theorem OR(b:FG w EW off d)(c:dk.size=d.size)(e:wr=Ez w n EW off dk):(∀t,t<d.size->wr.cell? ⟨EW,off+t,none⟩=some (.int .u32 dk[t]!))/\(∀t,t<d.size->wr.frozen? ⟨EW,off+t,none⟩=false):=by subst e;exact⟨λt a=>RE b c t a,λt a=>RV b t a⟩
theorem LX(a:wr=Ez w n EW off dk)(q:Nat):wr.drewN q=Ez w (n+q) EW off dk:=by rw[a];exact putRow_drewN _ _ _ _ _ _ _
theorem Ig{i j:Nat}(c:wr=Ez w n EW off dk)(a:i<dk.size)(b:j<dk.size):((wr.setCell ⟨EW,off+i,none⟩ (.int .u32 dk[j]!)).setCell ⟨EW,off+j,none⟩ (.int .u32 dk[i]!)).drew=Ez w (n+1) EW off (swp dk i j):=by subst c;exact swap_worldA (Value.int .u32) w n 1 EW off dk i j a b
theorem So(a:FG w EW off d):w=Ez w 0 EW off d:=(putRow_self _ _ _ _ _ a).A
theorem qd(r off cap a b c:Nat)(d:Array Int)(w:Z)(L:FG w r off d)(f:a<=c)(f:c<b)(f:b<=d.size)(f:d.size<=1000000):Calls prog 324 #[.slice (some ⟨r,off,none⟩) d.size cap,.a a,.a b,.a c] w λe w'=>e=.a (.a ((partitionEqual ltInt d a b c).1:Nat))/\∃n,w'=Ez w n r off (partitionEqual ltInt d a b c).2:=by
 obtain⟨f,S⟩:∃G:Nat->Int,∀t,G t=d[t]! := ⟨λt=>d[t]!,λ_=>rfl⟩;have v:∀t,t<d.size->w.cell? ⟨r,off+t,none⟩=some (.int .u32 (f t)):=λt T=>by rw[S];exact(L t T).1
 have H:∀t,t<d.size->w.frozen? ⟨r,off+t,none⟩=false:=λt T=>(L t T).2;have Q:=J S;have A:=J L;clear S L;go_enter func324,ntmps324;go_upto_region 1 with fail;go_cut []from 11 (λF=>∃n,F=Ez w n r off (swp d a c))
 case first=>
  by_cases f:c=a
  .subst f;go_region;all_goals go_wp2
   all_goals go_meet
   refine⟨1,?_⟩;rw[Q.o];exact(Ig (So A.o) U U).i (by rw[Ak])
  have T:¬a=c:=λh=>f h.A;go_region;all_goals go_wp2
  all_goals go_meet
  refine⟨1,?_⟩;rw[Q.o,Q.o];exact(Ig (So A.o) U U).i (by rw[Ak])
 case rest=>
 obtain⟨n0,f⟩:=hcut;have g:=J f;clear f v H;go_wp2_with fail;go_loopg [9,10] (b-a) (λk V W wr=>∃(i j n:Nat) (f:Array Int),V=.a i/\W=.a j/\a<i/\i<=j+1/\j<b/\j+1-i<=k/\f.size=d.size/\wr=Ez w n r off f/\Hid (partEqLoop ltInt a i j f=partitionEqual ltInt d a b c))
 case atStart=>exact⟨a+1,b-1,n0,swp d a c,by go_num,by congr 1;omega,by omega,by omega,by omega,by omega,size_swp _ _ _,g.o,J I⟩
 case round=>
  obtain⟨i,j,n,f,rfl,rfl,_,_,_,_,K,R,S⟩:=hrel;obtain⟨G,c⟩:∃G:Nat->Int,∀t,G t=f[t]! := ⟨λt=>f[t]!,λ_=>rfl⟩;have q:=J c;have o:=J R;clear R c;go_upto_block 2 with fail;go_cut [9]from 29 to 82 (λc F=>∃(g m:Nat),c=.a g/\i<=g/\g<=j+1/\F=Ez w m r off f/\Hid (g=scanUp (λx=>!ltInt f[a]! x) f j i))
  case first=>
   go_wp2_with fail;go_loopg [9] (j+1-i) (λk V L=>∃(l m:Nat),V=.a l/\i<=l/\l<=j+1/\j+1-l<=k/\L=Ez w m r off f/\Hid (scanUp (λx=>!ltInt f[a]! x) f j l=scanUp (λx=>!ltInt f[a]! x) f j i))
   case atStart=>exact⟨i,n,I,by omega,by omega,by omega,o.o,J I⟩
   case round=>
    obtain⟨l,m,rfl,C,D,N,y,s⟩:=hrel;obtain⟨v,H⟩:=OR A.o K y;simp only[<-q.o]at v;have u:=J y;clear y;by_cases B:l<=j
    .have P:(l:Int)<=(j:Nat):=U;go_wp2_with fail;go_quiet (first|(go_at_call 323;refine Ai (Fy _ _ _)));go_wp2_with fail
     .have z:(!ltInt (G a) (G l))=true:=by assumption
      go_roundg (j+1-(l+1))
      case measure=>omega
      case rel=>exact⟨l+1,m+nq,by go_num,by omega,by omega,by omega,LX u.o nq,J (by rw[<-s.o,scanUp_go _ _ _ _ B (by rw[<-q.o,<-q.o];exact z)])⟩
     have z:(!ltInt (G a) (G l))=false:=by assumption
     go_meet
     case rel=>exact⟨l,m+nq,I,C,D,LX u.o nq,J (by rw[<-s.o,scanUp_end _ _ _ _ (Or.s (by rw[<-q.o,<-q.o];exact z))])⟩
    have P:decide ((l:Int)<=(j:Nat))=false:=BZ U;go_wp2_with fail;go_quiet (first|(go_at_call 323;refine Ai (Fy _ _ _)));go_wp2_with fail;go_meet
    case rel=>exact⟨l,m+nq,I,C,D,LX u.o nq,J (by rw[<-s.o,scanUp_end _ _ _ _ (Or.w B)])⟩
  case rest=>
   obtain⟨g,Q,rfl,_,_,c,M⟩:=hcut;have l:=J c;clear c;go_upto_block 4 with fail;go_cut [10]from 29 to 82 (λc F=>∃(p m:Nat),c=.a p/\p<=j/\g<=p+1/\F=Ez w m r off f/\Hid (p=scanDown (λx=>ltInt f[a]! x) f g j))
   case first=>
    go_wp2_with fail;go_loopg [10] (j+1-g) (λk W L=>∃(o m:Nat),W=.a o/\o<=j/\g<=o+1/\o+1-g<=k/\L=Ez w m r off f/\Hid (scanDown (λx=>ltInt f[a]! x) f g o=scanDown (λx=>ltInt f[a]! x) f g j))
    case atStart=>exact⟨j,Q,I,by omega,by omega,by omega,l.o,J I⟩
    case round=>
     obtain⟨o,m,rfl,C,D,N,y,s⟩:=hrel;obtain⟨v,H⟩:=OR A.o K y;simp only[<-q.o]at v;have u:=J y;clear y;by_cases B:g<=o
     .have P:(g:Int)<=(o:Nat):=U;go_wp2_with fail;go_quiet (first|(go_at_call 323;refine Ai (Fy _ _ _)));go_wp2_with fail
      .have z:ltInt (G a) (G o)=true:=by assumption
       go_roundg (o+1-1-g)
       case measure=>omega
       case rel=>exact⟨o-1,m+nq,by congr 1;omega,by omega,by omega,by omega,LX u.o nq,J (by rw[<-s.o,scanDown_go _ _ _ _ B U (by rw[<-q.o,<-q.o];exact z)])⟩
      have z:ltInt (G a) (G o)=false:=by assumption
      go_meet
      case rel=>exact⟨o,m+nq,I,C,D,LX u.o nq,J (by rw[<-s.o,scanDown_end _ _ _ _ (Or.s (by rw[<-q.o,<-q.o];exact z))])⟩
     have P:decide ((g:Int)<=(o:Nat))=false:=BZ U;go_wp2_with fail;go_quiet (first|(go_at_call 323;refine Ai (Fy _ _ _)));go_wp2_with fail;go_meet
     case rel=>exact⟨o,m+nq,I,C,D,LX u.o nq,J (by rw[<-s.o,scanDown_end _ _ _ _ (Or.w B)])⟩
   case rest=>
    obtain⟨p,c,rfl,_,_,R,N⟩:=hcut;obtain⟨v,H⟩:=OR A.o K R;simp only[<-q.o]at v;have y:=J R;clear R;by_cases R:p<g
    .have l:(p:Int)<(g:Nat):=U;go_wp2_with fail;go_ret;have e:=partEq_break ltInt a i j f M.o N.o R;rw[S.o]at e;rw[e];exact⟨I,c,y.o⟩
    have o:g<p:=scans_lt ltInt a i j f U M.o N.o U;have l:¬(p:Int)<(g:Nat):=U;have T:¬g=p:=U;have l:¬p=g:=U;go_wp2_with fail;go_region;all_goals go_wp2_with fail
    go_roundg (p-1+1-(g+1))
    case measure=>omega
    refine⟨g+1,p-1,c+1,swp f g p,by go_num,by congr 1;omega,by omega,by omega,by omega,by omega,by rw[size_swp];exact K,?_,J ?_⟩
    .rw[q.o,q.o];exact Ig y.o U U
    rw[<-S.o,partEq_go ltInt a i j f M.o N.o R]
theorem U5(s off cap a b c:Nat)(d:Array Int)(w:Z)(y:FG w s off d)(f:a<=c)(f:c<b)(f:b<=d.size)(f:d.size<=1000000):Calls prog 325 #[.slice (some ⟨s,off,none⟩) d.size cap,.a a,.a b,.a c] w λe w'=>e=.a (.tuple #[.a ((partition ltInt d a b c).1:Nat),.bool (partition ltInt d a b c).2.1])/\∃n,w'=Ez w n s off (partition ltInt d a b c).2.2:=by
 obtain⟨g,f⟩:∃G:Nat->Int,∀t,G t=d[t]! := ⟨λt=>d[t]!,λ_=>rfl⟩;have A:∀t,t<d.size->w.cell? ⟨s,off+t,none⟩=some (.int .u32 (g t)):=λt g=>by rw[f];exact(y t g).1
 have P:∀t,t<d.size->w.frozen? ⟨s,off+t,none⟩=false:=λt g=>(y t g).2;have R:=J f;have K:=J y;clear f y;go_enter func325,ntmps325;go_upto_region 1 with fail;go_cut []from 12 (λH=>∃n,H=Ez w n s off (swp d a c))
 case first=>
  by_cases y:c=a
  .subst y;go_region;all_goals go_wp2
   all_goals go_meet
   refine⟨1,?_⟩;rw[R.o];exact(Ig (So K.o) U U).i (by rw[Ak])
  have an:¬a=c:=λh=>y h.A;go_region;all_goals go_wp2
  all_goals go_meet
  refine⟨1,?_⟩;rw[R.o,R.o];exact(Ig (So K.o) U U).i (by rw[Ak])
 case rest=>
 obtain⟨n0,f⟩:=hcut;have ax:=J f;clear f A P;obtain⟨g,y⟩:=E (swp d a c);have F:g.size=d.size:=by rw[y];exact size_swp _ _ _
 rw[<-y]at ax;have ar:=J y;clear y;obtain⟨G,hG⟩:∃G:Nat->Int,∀t,G t=g[t]! := ⟨λt=>g[t]!,λ_=>rfl⟩;have o:=J hG;clear hG;obtain⟨i,f⟩:=E (a+1);obtain⟨j,l⟩:=E (b-1);have ei:(a:Int)+1=(i:Nat):=U;have ej:(b:Int)-1=(j:Nat):=U;have aH:a<i:=U;have aI:i<=j+1:=U;have az:j<b:=U;have Hi:=J f;have Hj:=J l;clear f l;go_upto_block 0 with fail;go_cut [10]from 30 to 167 (λao H=>∃(f m:Nat),ao=.a f/\i<=f/\f<=j+1/\H=Ez w m s off g/\Hid (f=scanUp (λx=>ltInt x g[a]!) g j i))
 case first=>
  go_wp2_with fail;go_loopg [10] (j+1-i) (λk vi V=>∃(p m:Nat),vi=.a p/\i<=p/\p<=j+1/\j+1-p<=k/\V=Ez w m s off g/\Hid (scanUp (λx=>ltInt x g[a]!) g j p=scanUp (λx=>ltInt x g[a]!) g j i))
  case atStart=>exact⟨i,n0,by rfl,by omega,by omega,by omega,ax.o,J I⟩
  case round=>
   obtain⟨p,m,rfl,C,D,h3,y,u⟩:=hrel;obtain⟨A,P⟩:=OR K.o F y;simp only[<-o.o]at A;have v:=J y;clear y;by_cases B:p<=j
   .have Q:(p:Int)<=(j:Nat):=U;go_wp2_with fail;go_quiet (first|(go_at_call 323;refine Ai (Fy _ _ _)));go_wp2_with fail
    .have z:ltInt (G p) (G a)=true:=by assumption
     go_roundg (j+1-(p+1))
     case measure=>omega
     case rel=>exact⟨p+1,m+nq,by go_num,by omega,by omega,by omega,LX v.o nq,J (by rw[<-u.o,scanUp_go _ _ _ _ B (by rw[<-o.o,<-o.o];exact z)])⟩
    have z:ltInt (G p) (G a)=false:=by assumption
    go_meet
    case rel=>exact⟨p,m+nq,I,C,D,LX v.o nq,J (by rw[<-u.o,scanUp_end _ _ _ _ (Or.s (by rw[<-o.o,<-o.o];exact z))])⟩
   have Q:decide ((p:Int)<=(j:Nat))=false:=BZ U;go_wp2_with fail;go_quiet (first|(go_at_call 323;refine Ai (Fy _ _ _)));go_wp2_with fail;go_meet
   case rel=>exact⟨p,m+nq,I,C,D,LX v.o nq,J (by rw[<-u.o,scanUp_end _ _ _ _ (Or.w B)])⟩
 case rest=>
 obtain⟨f,m2,rfl,aJ,af,ag,L⟩:=hcut;have aj:=J ag;clear ag;go_upto_block 2 with fail;go_cut [11]from 30 to 167 (λaw H=>∃(l m:Nat),aw=.a l/\l<=j/\f<=l+1/\H=Ez w m s off g/\Hid (l=scanDown (λx=>!ltInt x g[a]!) g f j))
 case first=>
  go_wp2_with fail;go_loopg [11] (j+1-f) (λk vj V=>∃(q m:Nat),vj=.a q/\q<=j/\f<=q+1/\q+1-f<=k/\V=Ez w m s off g/\Hid (scanDown (λx=>!ltInt x g[a]!) g f q=scanDown (λx=>!ltInt x g[a]!) g f j))
  case atStart=>exact⟨j,m2,I,by omega,by omega,by omega,aj.o,J I⟩
  case round=>
   obtain⟨q,m,rfl,C,D,h3,y,u⟩:=hrel;obtain⟨A,P⟩:=OR K.o F y;simp only[<-o.o]at A;have v:=J y;clear y;by_cases B:f<=q
   .have Q:(f:Int)<=(q:Nat):=U;go_wp2_with fail;go_quiet (first|(go_at_call 323;refine Ai (Fy _ _ _)));go_wp2_with fail
    .have z:(!ltInt (G q) (G a))=true:=by assumption
     go_roundg (q+1-1-f)
     case measure=>omega
     case rel=>exact⟨q-1,m+nq,by congr 1;omega,by omega,by omega,by omega,LX v.o nq,J (by rw[<-u.o,scanDown_go _ _ _ _ B U (by rw[<-o.o,<-o.o];exact z)])⟩
    have z:(!ltInt (G q) (G a))=false:=by assumption
    go_meet
    case rel=>exact⟨q,m+nq,I,C,D,LX v.o nq,J (by rw[<-u.o,scanDown_end _ _ _ _ (Or.s (by rw[<-o.o,<-o.o];exact z))])⟩
   have Q:decide ((f:Int)<=(q:Nat))=false:=BZ U;go_wp2_with fail;go_quiet (first|(go_at_call 323;refine Ai (Fy _ _ _)));go_wp2_with fail;go_meet
   case rel=>exact⟨q,m+nq,I,C,D,LX v.o nq,J (by rw[<-u.o,scanDown_end _ _ _ _ (Or.w B)])⟩
 case rest=>
 obtain⟨l,T,rfl,aF,ae,R,M⟩:=hcut;obtain⟨A,P⟩:=OR K.o F R;simp only[<-o.o]at A;have N:=J R;clear R;by_cases W:l<f
 .have a7:(l:Int)<(f:Nat):=U;have HP:=J (part_first_break ltInt d a b c Hi.o Hj.o ar.o L.o M.o W);by_cases ah:l=a
  .subst ah;go_wp2_with fail;go_region;all_goals go_wp2_with fail
   go_ret2;rw[HP.o];refine⟨I,T+1,?_⟩;rw[o.o];exact Ig N.o U U
  have av:¬a=l:=λh=>ah h.A;go_wp2_with fail;go_region;all_goals go_wp2_with fail
  go_ret2;rw[HP.o];refine⟨I,T+1,?_⟩;rw[o.o,o.o];exact Ig N.o U U
 have aA:f<l:=part_scans_lt ltInt a i j g U L.o M.o U;have a7:¬(l:Int)<(f:Nat):=U;have an:¬f=l:=U;have ad:¬l=f:=U;obtain⟨r,S⟩:=E (partLoop ltInt a (f+1) (l-1) (swp g f l));have HP:Hid (partition ltInt d a b c=(r.1,false,swp r.2 r.1 a)):=J (by rw[S];exact part_first_go ltInt d a b c Hi.o Hj.o ar.o L.o M.o W);have Hr:=J S;clear S;go_wp2_with fail;go_region;all_goals go_wp2_with fail
 have aD:=J (Ig (i:=f) (j:=l) N.o U U);have S:=aD.o;rw[<-o.o,<-o.o]at S;rw[S];clear S A P;go_loopg [10,11] (b-a) (λk vi vj wr=>∃(i j n:Nat) (S:Array Int),vi=.a i/\vj=.a j/\a<i/\i<=j+1/\j<b/\j+1-i<=k/\S.size=d.size/\wr=Ez w n s off S/\Hid (partLoop ltInt a i j S=r))
 case atStart=>exact⟨f+1,l-1,T+1,swp g f l,by go_num,by congr 1;omega,by omega,by omega,by omega,by omega,by rw[size_swp];exact F,I,J Hr.o.A⟩
 clear aD N L M o ar aj ax Hi Hj ei ej Hr aA a7 W an ad ae aF af aJ F aH aI az;obtain⟨i,j,n,g,rfl,rfl,aH,aI,az,_,F,aB,S⟩:=hrel;obtain⟨G,hG⟩:∃G:Nat->Int,∀t,G t=g[t]! := ⟨λt=>g[t]!,λ_=>rfl⟩;have o:=J hG;have HW:=J aB;clear aB hG;go_upto_block 6 with fail;go_cut [10]from 99 to 152 (λao H=>∃(f m:Nat),ao=.a f/\i<=f/\f<=j+1/\H=Ez w m s off g/\Hid (f=scanUp (λx=>ltInt x g[a]!) g j i))
 case first=>
  go_wp2_with fail;go_loopg [10] (j+1-i) (λk vi V=>∃(p m:Nat),vi=.a p/\i<=p/\p<=j+1/\j+1-p<=k/\V=Ez w m s off g/\Hid (scanUp (λx=>ltInt x g[a]!) g j p=scanUp (λx=>ltInt x g[a]!) g j i))
  case atStart=>exact⟨i,n,I,by omega,by omega,by omega,HW.o,J I⟩
  case round=>
   obtain⟨p,m,rfl,C,D,h3,y,u⟩:=hrel;obtain⟨A,P⟩:=OR K.o F y;simp only[<-o.o]at A;have v:=J y;clear y;by_cases B:p<=j
   .have Q:(p:Int)<=(j:Nat):=U;go_wp2_with fail;go_quiet (first|(go_at_call 323;refine Ai (Fy _ _ _)));go_wp2_with fail
    .have z:ltInt (G p) (G a)=true:=by assumption
     go_roundg (j+1-(p+1))
     case measure=>omega
     case rel=>exact⟨p+1,m+nq,by go_num,by omega,by omega,by omega,LX v.o nq,J (by rw[<-u.o,scanUp_go _ _ _ _ B (by rw[<-o.o,<-o.o];exact z)])⟩
    have z:ltInt (G p) (G a)=false:=by assumption
    go_meet
    case rel=>exact⟨p,m+nq,I,C,D,LX v.o nq,J (by rw[<-u.o,scanUp_end _ _ _ _ (Or.s (by rw[<-o.o,<-o.o];exact z))])⟩
   have Q:decide ((p:Int)<=(j:Nat))=false:=BZ U;go_wp2_with fail;go_quiet (first|(go_at_call 323;refine Ai (Fy _ _ _)));go_wp2_with fail;go_meet
   case rel=>exact⟨p,m+nq,I,C,D,LX v.o nq,J (by rw[<-u.o,scanUp_end _ _ _ _ (Or.w B)])⟩
 case rest=>
 obtain⟨f,m2,rfl,aJ,af,ag,L⟩:=hcut;have aj:=J ag;clear ag;go_upto_block 8 with fail;go_cut [11]from 99 to 152 (λaw H=>∃(l m:Nat),aw=.a l/\l<=j/\f<=l+1/\H=Ez w m s off g/\Hid (l=scanDown (λx=>!ltInt x g[a]!) g f j))
 case first=>
  go_wp2_with fail;go_loopg [11] (j+1-f) (λk vj V=>∃(q m:Nat),vj=.a q/\q<=j/\f<=q+1/\q+1-f<=k/\V=Ez w m s off g/\Hid (scanDown (λx=>!ltInt x g[a]!) g f q=scanDown (λx=>!ltInt x g[a]!) g f j))
  case atStart=>exact⟨j,m2,I,by omega,by omega,by omega,aj.o,J I⟩
  case round=>
   obtain⟨q,m,rfl,C,D,h3,y,u⟩:=hrel;obtain⟨A,P⟩:=OR K.o F y;simp only[<-o.o]at A;have v:=J y;clear y;by_cases B:f<=q
   .have Q:(f:Int)<=(q:Nat):=U;go_wp2_with fail;go_quiet (first|(go_at_call 323;refine Ai (Fy _ _ _)));go_wp2_with fail
    .have z:(!ltInt (G q) (G a))=true:=by assumption
     go_roundg (q+1-1-f)
     case measure=>omega
     case rel=>exact⟨q-1,m+nq,by congr 1;omega,by omega,by omega,by omega,LX v.o nq,J (by rw[<-u.o,scanDown_go _ _ _ _ B U (by rw[<-o.o,<-o.o];exact z)])⟩
    have z:(!ltInt (G q) (G a))=false:=by assumption
    go_meet
    case rel=>exact⟨q,m+nq,I,C,D,LX v.o nq,J (by rw[<-u.o,scanDown_end _ _ _ _ (Or.s (by rw[<-o.o,<-o.o];exact z))])⟩
   have Q:decide ((f:Int)<=(q:Nat))=false:=BZ U;go_wp2_with fail;go_quiet (first|(go_at_call 323;refine Ai (Fy _ _ _)));go_wp2_with fail;go_meet
   case rel=>exact⟨q,m+nq,I,C,D,LX v.o nq,J (by rw[<-u.o,scanDown_end _ _ _ _ (Or.w B)])⟩
 case rest=>
 obtain⟨l,T,rfl,aF,ae,R,M⟩:=hcut;obtain⟨A,P⟩:=OR K.o F R;simp only[<-o.o]at A;have N:=J R;clear R;by_cases W:l<f
 .have a7:(l:Int)<(f:Nat):=U;have e:=part_break ltInt a i j g L.o M.o W;rw[S.o]at e;have p:Hid (partition ltInt d a b c=(l,false,swp g l a)):=J (by rw[HP.o,e]);clear e;by_cases ah:l=a
  .subst ah;go_wp2_with fail;go_region;all_goals go_wp2_with fail
   go_ret2;rw[p.o];refine⟨I,T+1,?_⟩;rw[o.o];exact Ig N.o U U
  have av:¬a=l:=λh=>ah h.A;go_wp2_with fail;go_region;all_goals go_wp2_with fail
  go_ret2;rw[p.o];refine⟨I,T+1,?_⟩;rw[o.o,o.o];exact Ig N.o U U
 have aA:f<l:=part_scans_lt ltInt a i j g U L.o M.o U;have a7:¬(l:Int)<(f:Nat):=U;have an:¬f=l:=U;have ad:¬l=f:=U;go_wp2_with fail;go_region;all_goals go_wp2_with fail
 go_roundg (l-1+1-(f+1))
 case measure=>omega
 refine⟨f+1,l-1,T+1,swp g f l,by go_num,by congr 1;omega,by omega,by omega,by omega,by omega,by rw[size_swp];exact F,?_,J ?_⟩
 .rw[o.o,o.o];exact Ig N.o U U
 rw[<-S.o,part_go ltInt a i j g L.o M.o W]
end Y
namespace Y
open Go.RowKit Go.Sort
theorem wh(o off cap a b:Nat)(d:Array Int)(w:Z)(hH:FG w o off d)(hab:a<b)(hb:b<=d.size)(hsz:d.size<=1000000):Calls prog 322 #[.slice (some ⟨o,off,none⟩) d.size cap,.a a,.a b] w λe w'=>e=.a (.bool (partialInsertionSort ltInt d a b).2)/\∃n,w'=Ez w n o off (partialInsertionSort ltInt d a b).1:=by
 have C:=J hH;clear hH;go_enter func322,ntmps322;go_wp2_with fail;go_loopg [7,8] 6 (λk vi vs wr=>∃(i s n:Nat) (c:Array Int),vi=.a i/\vs=.a s/\a<i/\i<=b/\s<=5/\6-s<=k/\c.size=d.size/\wr=Ez w n o off c/\Hid (partialIns ltInt a b (5-s) i c=partialInsertionSort ltInt d a b))
 case atStart=>exact⟨a+1,0,0,d,by go_num,I,by omega,by omega,by omega,by omega,I,So C.o,J I⟩
 case round=>
  obtain⟨i,s,n,c,rfl,rfl,_,_,_,_,ay,az,P⟩:=hrel;obtain⟨G,hG⟩:∃G:Nat->Int,∀t,G t=c[t]! := ⟨λt=>c[t]!,λ_=>rfl⟩;have A:=J hG;have HW:=J az;clear az hG;by_cases hs:s<5
  .have aF:(s:Int)<5:=U;go_upto_block 2 with fail;go_cut [7]from 13 to 132 (λs7 K=>∃(k2 m:Nat),s7=.a k2/\i<=k2/\k2<=b/\K=Ez w m o off c/\Hid (scanSorted ltInt c b i=k2))
   case first=>
    go_wp2_with fail;go_loopg [7] (b-i) (λk vi N=>∃(g m:Nat),vi=.a g/\i<=g/\g<=b/\b-g<=k/\N=Ez w m o off c/\Hid (scanSorted ltInt c b g=scanSorted ltInt c b i))
    case atStart=>exact⟨i,n,I,by omega,by omega,by omega,HW.o,J I⟩
    case round=>
     obtain⟨g,m,rfl,T,B,h3,u,p⟩:=hrel;obtain⟨y,L⟩:=OR C.o ay u;simp only[<-A.o]at y;have q:=J u;clear u;by_cases aA:g<b
     .have ao:(g:Int)<(b:Nat):=U;go_wp2_with fail;go_quiet (first|(go_at_call 323;refine Ai (Fy _ _ _)));go_wp2_with fail
      .have v:(!ltInt (G g) (G (g-1)))=true:=by assumption
       go_roundg (b-(g+1))
       case measure=>omega
       case rel=>exact⟨g+1,m+nq,by go_num,by omega,by omega,by omega,LX q.o nq,J (by rw[<-p.o,scanSorted_go _ _ _ _ aA (by rw[<-A.o,<-A.o];simpa using v)])⟩
      have v:(!ltInt (G g) (G (g-1)))=false:=by assumption
      go_meet
      case rel=>exact⟨g,m+nq,I,T,B,LX q.o nq,J (by rw[<-p.o,scanSorted_stop _ _ _ _ (Or.s (by rw[<-A.o,<-A.o];simpa using v))])⟩
     have ao:decide ((g:Int)<(b:Nat))=false:=BZ U;go_wp2_with fail;go_quiet (first|(go_at_call 323;refine Ai (Fy _ _ _)));go_wp2_with fail;go_meet
     case rel=>exact⟨g,m+nq,I,T,B,LX q.o nq,J (by rw[<-p.o,scanSorted_stop _ _ _ _ (Or.w aA)])⟩
   obtain⟨k2,V,rfl,_,_,au,HI⟩:=hcut;obtain⟨y,L⟩:=OR C.o ay au;simp only[<-A.o]at y;have ax:=J au;clear au;by_cases R:k2=b
   .have M:Hid (partialInsertionSort ltInt d a b=(c,true)):=J (by rw[<-P.o];exact pi_true ltInt a b s i c hs (by rw[HI.o];exact R));subst R;go_wp2_with fail;go_ret;rw[M.o];exact⟨I,V,ax.o⟩
   have aE:((k2:Int)==(b:Nat))=false:=EL;by_cases aB:b-a<50
   .have aw:(b:Int)-(a:Nat)<50:=U;have M:Hid (partialInsertionSort ltInt d a b=(c,false)):=J (by rw[<-P.o];exact pi_short ltInt a b s i c hs (by rw[HI.o];exact R) aB);go_wp2_with fail;go_ret;rw[M.o];exact⟨I,V,ax.o⟩
   have aw:¬(b:Int)-(a:Nat)<50:=U;have HN:=J (pi_go ltInt a b s i k2 c hs HI.o R aB);have aJ:0<k2:=U;go_wp2_with fail;go_region;all_goals go_upto_if 61 with fail
   obtain⟨d1,Q⟩:=E (swp c k2 (k2-1));have av:=Ig (i:=k2) (j:=k2-1) ax.o U U;rw[<-A.o,<-A.o,<-Q]at av;rw[av];have ae:d1.size=d.size:=by rw[Q,size_swp];exact ay
   rw[<-Q]at HN;clear av y L Q;go_cut []from 13 to 132 (λK=>∃m,(fixDown ltInt a k2 d1).size=d.size/\K=Ez w m o off (fixDown ltInt a k2 d1))
   case first=>
    by_cases B:2<=k2-a
    .have an:(2:Int)<=(k2:Nat)-(a:Nat):=U;have x:Hid (fixDown ltInt a k2 d1=shiftDown ltInt (k2-1) d1):=J (by unfold fixDown;rw[AD B]);go_wp2_with fail;go_loopg [9] k2 (λk vj N=>∃(j m:Nat) (f:Array Int),vj=.a j/\j<k2/\j<=k/\f.size=d.size/\N=Ez w m o off f/\Hid (shiftDown ltInt j f=shiftDown ltInt (k2-1) d1))
     case atStart=>exact⟨k2-1,V+1,d1,by congr 1;omega,by omega,by omega,ae,I,J I⟩
     obtain⟨j,m,f,rfl,T,h3,r,u,p⟩:=hrel;obtain⟨z,F⟩:∃G:Nat->Int,∀t,G t=f[t]! := ⟨λt=>f[t]!,λ_=>rfl⟩;obtain⟨y,L⟩:=OR C.o r u;simp only[<-F]at y;have l:=J F;have q:=J u;clear u F;by_cases S:1<=j
     .have a7:(1:Int)<=(j:Nat):=U;go_wp2_with fail;go_quiet (first|(go_at_call 323;refine Ai (Fy _ _ _)));go_wp2_with fail
      .have v:(!ltInt (z j) (z (j-1)))=true:=by assumption
       go_meet
       case rel=>exact⟨m+nq,by rw[x.o,<-p.o,shiftDown_stop _ _ _ (Or.s (by rw[<-l.o,<-l.o];simpa using v))];exact⟨r,LX q.o nq⟩⟩
      have v:(!ltInt (z j) (z (j-1)))=false:=by assumption
      obtain⟨wq,H⟩:=E (wr.drewN nq);have D:wq=Ez w (m+nq) o off f:=by rw[H];exact LX q.o nq
      rw[<-H];obtain⟨a9,am⟩:=OR C.o r D;simp only[<-l.o]at a9;have ar:=J D;clear H D y L;go_region;all_goals go_wp2_with fail
      go_roundg (j-1)
      case measure=>omega
      refine⟨j-1,m+nq+1,swp f j (j-1),by congr 1;omega,by omega,by omega,by rw[size_swp];exact r,?_,J ?_⟩
      .rw[l.o,l.o];exact Ig ar.o U U
      rw[<-p.o,shiftDown_go ltInt j f S (by rw[<-l.o,<-l.o];simpa using v)]
     have a7:¬(1:Int)<=(j:Nat):=U;go_wp2_with fail;go_meet
     case rel=>exact⟨m,by rw[x.o,<-p.o,shiftDown_stop _ _ _ (Or.w U)];exact⟨r,q.o⟩⟩
    have an:¬(2:Int)<=(k2:Nat)-(a:Nat):=U;have x:Hid (fixDown ltInt a k2 d1=d1):=J (by unfold fixDown;rw[AC B]);go_wp2_with fail;go_meet
    case rel=>exact⟨V+1,by rw[x.o];exact⟨ae,I⟩⟩
   obtain⟨m4,a8,ai⟩:=hcut;obtain⟨d2,aD⟩:=E (fixDown ltInt a k2 d1);rw[<-aD]at ai HN a8;have aC:=J ai;clear ai aD;have aj:Hid (∀m K,(fixUp ltInt b k2 d2).size=d.size->K=Ez w m o off (fixUp ltInt b k2 d2)->∃(i W n:Nat) (c:Array Int),Value.int .i64 (k2:Int)=.a i/\Value.int .i64 ((s:Int)+1)=.a W/\a<i/\i<=b/\W<=5/\6-W<=5-s/\c.size=d.size/\K=Ez w n o off c/\Hid (partialIns ltInt a b (5-W) i c=partialInsertionSort ltInt d a b)):=
    J (λm K h h'=>⟨k2,s+1,m,_,I,by go_num,by omega,by omega,by omega,by omega,h,h',J (by rw[<-P.o,HN.o])⟩)
   by_cases B:2<=b-k2
   .have an:(2:Int)<=(b:Nat)-(k2:Nat):=U;have x:Hid (fixUp ltInt b k2 d2=shiftUp ltInt b (k2+1) d2):=J (by unfold fixUp;rw[AD B]);go_wp2_with fail;go_loopg [10] (b-k2) (λk vj N=>∃(j m:Nat) (f:Array Int),vj=.a j/\k2<j/\j<=b/\b-j<=k/\f.size=d.size/\N=Ez w m o off f/\Hid (shiftUp ltInt b j f=shiftUp ltInt b (k2+1) d2))
    case atStart=>exact⟨k2+1,m4,d2,by go_num,by omega,by omega,by omega,a8,aC.o,J I⟩
    obtain⟨j,m,f,rfl,T,_,h3,r,u,p⟩:=hrel;obtain⟨z,F⟩:∃G:Nat->Int,∀t,G t=f[t]! := ⟨λt=>f[t]!,λ_=>rfl⟩;obtain⟨y,L⟩:=OR C.o r u;simp only[<-F]at y;have l:=J F;have q:=J u;clear u F;by_cases S:j<b
    .have a7:(j:Int)<(b:Nat):=U;go_wp2_with fail;go_quiet (first|(go_at_call 323;refine Ai (Fy _ _ _)));go_wp2_with fail
     .have v:(!ltInt (z j) (z (j-1)))=true:=by assumption
      go_roundg (5-s)
      case measure=>omega
      have e:=shiftUp_stop ltInt b j f (Or.s (by rw[<-l.o,<-l.o];simpa using v));rw[p.o,<-x.o]at e;exact aj.o (m+nq) _ (by rw[e];exact r) (by rw[e];exact LX q.o nq)
     have v:(!ltInt (z j) (z (j-1)))=false:=by assumption
     obtain⟨wq,H⟩:=E (wr.drewN nq);have D:wq=Ez w (m+nq) o off f:=by rw[H];exact LX q.o nq
     rw[<-H];obtain⟨a9,am⟩:=OR C.o r D;simp only[<-l.o]at a9;have ar:=J D;clear H D y L;go_region;all_goals go_wp2_with fail
     go_roundg (b-(j+1))
     case measure=>omega
     refine⟨j+1,m+nq+1,swp f j (j-1),by go_num,by omega,by omega,by omega,by rw[size_swp];exact r,?_,J ?_⟩
     .rw[l.o,l.o];exact Ig ar.o U U
     rw[<-p.o,shiftUp_go ltInt b j f S (by rw[<-l.o,<-l.o];simpa using v)]
    have a7:¬(j:Int)<(b:Nat):=U;go_wp2_with fail;go_roundg (5-s)
    case measure=>omega
    have e:=shiftUp_stop ltInt b j f (Or.w S);rw[p.o,<-x.o]at e;exact aj.o m _ (by rw[e];exact r) (by rw[e];exact q.o)
   have an:¬(2:Int)<=(b:Nat)-(k2:Nat):=U;have x:Hid (fixUp ltInt b k2 d2=d2):=J (by unfold fixUp;rw[AC B]);go_wp2_with fail;go_roundg (5-s)
   case measure=>omega
   case rel=>exact aj.o m4 _ (by rw[x.o];exact a8) (by rw[x.o];exact aC.o)
  have aF:¬(s:Int)<5:=U;have M:Hid (partialInsertionSort ltInt d a b=(c,false)):=J (by rw[<-P.o,show s=5 by omega];exact pi_end ltInt a b i c);go_wp2_with fail;go_ret;rw[M.o];exact⟨I,n,HW.o⟩
end Y
end Go.Proofs.YtodmdkhdbfbfgaaGreatDoor
namespace Go.Proofs
open Go.RowKit Go.Sort Go.Shelf
shelf_lay_g SlLaysF0.n47 Slsf 47 at Tryz 236 as npowA
shelf_lay_g SlLaysF0.n48 Slsf 48 at Tryz 237 as xorA
namespace YtodmdkhdbfbfgaaGreatDoor.Y
theorem U7(n:Nat)(a:n<4611686018427387904)(w:Z):Calls prog 236 #[.a n] w λe w'=>e=.a (.int .u64 ((1 <<< bitsLen n:Nat):Int))/\w'=w:=AnyF.nextPowerOfTwo npowA n a w
theorem YM(b c a:Nat)(d:a<18446744073709551616)(w:Z)(f:w.cell? ⟨b,c,none⟩=some (.int .u64 a))(g:w.frozen? ⟨b,c,none⟩=false):Calls prog 237 #[.pointer (some ⟨b,c,none⟩)] w λe w'=>e=.a (.int .u64 (xorNextN a:Nat))/\w'=(w.setCell ⟨b,c,none⟩ (.int .u64 (xorNextN a:Nat))).drewN 3:=AnyF.xorshift_Next xorA b c a d w f g
end YtodmdkhdbfbfgaaGreatDoor.Y
end Go.Proofs
namespace Go.Proofs.YtodmdkhdbfbfgaaGreatDoor
namespace Y
open Go.RowKit Go.Sort
abbrev M6 (w:Z) (n EW off:Nat) (dk:Array Int) (r:UInt64):Z:=grow (Ez w n EW off dk) #[Obj.cells #[.int .u64 r.toNat] 261]
theorem iV{w:Z}{a off n:Nat}{d c:Array Int}{r:UInt64}(g:FG w a off d)(b:a<w.heap.size)(h:c.size=d.size):(∀t,t<d.size->(M6 w n a off c r).cell? ⟨a,off+t,none⟩=some (.int .u32 c[t]!))/\(∀t,t<d.size->(M6 w n a off c r).frozen? ⟨a,off+t,none⟩=false) /\ (M6 w n a off c r).cell? ⟨w.heap.size,0,none⟩=some (.int .u64 r.toNat)/\(M6 w n a off c r).frozen? ⟨w.heap.size,0,none⟩=false:=by
 have e:(Ez w n a off c).heap.size=w.heap.size:=EJ;refine⟨λt f=>?_,λt f=>?_,?_,?_⟩
 .rw[M6,cell?_grow _ _ _ (by rw[e];exact b)];exact RE g h t f
 .rw[M6,frozen?_grow _ _ _ (by rw[e];exact b)];exact RV g t f
 .rw[M6,<-e];exact grow_one_cell _ _ _
 rw[M6,<-e];exact grow_one_frozen _ _ _
theorem pT(w:Z)(n a off q:Nat)(b:Array Int)(r c:UInt64):((M6 w n a off b r).setCell ⟨w.heap.size,0,none⟩ (.int .u64 c.toNat)).drewN q=M6 w (n+q) a off b c:=by have d:(Ez w n a off b).heap.size=w.heap.size:=EJ;rw[M6,<-d,setCell_grow_one];show grow ((Ez w n a off b).drewN q) _=_;rw[LX I]
theorem xk{w:Z}{n c off:Nat}{b:Array Int}{i j:Nat}(r:UInt64)(a:c<w.heap.size)(d:i<b.size)(e:j<b.size):(((M6 w n c off b r).setCell ⟨c,off+i,none⟩ (.int .u32 b[j]!)).setCell ⟨c,off+j,none⟩ (.int .u32 b[i]!)).drew=M6 w (n+1) c off (swp b i j) r:=by rw[M6,setCell_grow _ _ _ _ _ (EU a),setCell_grow _ _ _ _ _ (EU a),M6,<-Ig I d e];rfl
theorem Tf(i off cap a b:Nat)(d:Array Int)(w:Z)(x:FG w i off d)(j:i<w.heap.size)(V:a<=b)(hb:b<=d.size)(hsz:d.size<=1000000):Calls prog 319 #[.slice (some ⟨i,off,none⟩) d.size cap,.a a,.a b] w λe w'=>e=.a (.tuple #[])/\∃n os,w'=grow (Ez w n i off (breakPatterns d a b)) os:=by
 obtain⟨L,hL⟩:=E (b-a);have H:b=a+L:=U;have eL:(b:Int)-(a:Nat)=(L:Nat):=U;have D:=J x;by_cases h8:8<=L
 .have ao:(8:Int)<=(L:Nat):=U;obtain⟨M,s⟩:∃M:Nat,M=1 <<< bitsLen L:=⟨_,I⟩;have aB:1<=M:=by rw[s,Nat.one_shiftLeft];exact Nat.two_pow_pos _
  have ay:M<=2*L:=by rw[s,Nat.one_shiftLeft];exact two_pow_bitsLen_le U
  obtain⟨q,hq⟩:=E (L/4);have eq:Int.tdiv (L:Nat) 4=(q:Nat):=by rw[Ba U];omega
  obtain⟨f,ai⟩:=E (a+q*2-1);have e0:(a:Int)+(q:Nat)*2-1=(f:Nat):=U;have e2:(a:Int)+(q:Nat)*2+1=(f:Nat)+2:=U;have aE:f+2<a+L:=U;have aF:a<=f:=U;have B:Hid (breakPatterns d a b=bpRest a L M f 3 0 (UInt64.ofNat L,d)):=J (by rw[H,breakPatterns_eq d a L h8,s,ai,hq]);have HP:Hid (∀w,Calls prog 236 #[.a L] w λe w'=>e=.a (.int .u64 M)/\w'=w):=J (λw=>by rw[s];exact U7 L U w);have ar:Hid (w.alloc (Obj.cells #[.int .u64 L] 261)=M6 w 0 i off d (UInt64.ofNat L)):=J (by rw[M6,<-So x,alloc_eq_grow,show(UInt64.ofNat L).toNat=L by simp;omega])
  have aA:a+L<=d.size:=U;clear s hq ai hL x H V hb;go_enter func319,ntmps319;go_wp2_with fail;refine(HP.o _).l ?_;rintro e _ ⟨rfl,Q⟩;rw[ar.o]at Q;have am:=J Q;clear Q;go_wp2_with fail;go_loopg [9] 4 (λk vi wr=>∃(p t n:Nat) (r:UInt64) (g:Array Int),vi=.a p/\Hid (p=f+t)/\t<=3/\4-t<=k/\g.size=d.size/\wr=M6 w n i off g r/\Hid (bpRest a L M f (3-t) t (r,g)=bpRest a L M f 3 0 (UInt64.ofNat L,d)))
  case atStart=>exact⟨f,0,0,UInt64.ofNat L,d,I,J I,by omega,by omega,I,am.o,J I⟩
  obtain⟨p,t,n,r,g,rfl,Hp,_,_,S,hw,F⟩:=hrel;obtain⟨G,T⟩:∃G:Nat->Int,∀t,G t=g[t]! := ⟨λt=>g[t]!,λ_=>rfl⟩;obtain⟨P,ag,K,N⟩:=iV (n:=n) (r:=r) D.o j S;simp only[<-hw]at P ag K N;simp only[<-T]at P;obtain⟨R,A⟩:∃R:Nat,R=(xorNext r).toNat:=⟨_,I⟩;have lR:R<18446744073709551616:=by rw[A];exact(xorNext r).toNat_lt
  obtain⟨c,y⟩:∃c:Nat,c=R &&& (M-1):=⟨_,I⟩;have lO:c<=M-1:=by rw[y];exact Nat.and_le_right
  have eM:(M:Int)-1=((M-1:Nat):Int):=U;have au:bits .and .u64 R ((M:Nat)-1)=(c:Nat):=by rw[eM,bits_and_u64_nat _ _ lR U,y]
  have HX:Hid (Calls prog 237 #[.c w.s] wr λe w'=>e=.a (.int .u64 R)/\w'=(wr.setCell ⟨w.s,0,none⟩ (.int .u64 R)).drewN 3):=J (by have h:=YM w.s 0 r.toNat r.toNat_lt wr K N;rw[<-xorNext_toNat,<-A]at h;exact h)
  have C:=J T;have HW:=J hw;have af:=J A;have HO:=J y;clear hw T A y eM;have W:=Hp.o;by_cases an:t<3
  .have a8:(p:Int)<=(f:Nat)+2:=U;have az:p<a+L:=U;obtain⟨o,m⟩:=E (if L<=c then c-L else c);have aC:o<L:=by rw[m];split<;>omega
   obtain⟨z,hz⟩:=E (a+o);have ez:(a:Int)+(o:Nat)=(z:Nat):=U;have aD:z<a+L:=U;have aw:Hid (bpRest a L M f (3-t) t (r,g)=bpRest a L M f (3-(t+1)) (t+1) (xorNext r,swp g p z)):=J (by rw[W,hz];exact bp_step a L M f t r g o an (by rw[<-af.o,<-HO.o,m]));have ad:Hid (∃(p' u n':Nat) (r':UInt64) (l:Array Int),Value.int .i64 ((p:Int)+1)=.a p'/\Hid (p'=f+u)/\u<=3/\4-u<=3-t/\l.size=d.size/\M6 w (n+3+1) i off (swp g p z) (xorNext r)=M6 w n' i off l r'/\Hid (bpRest a L M f (3-u) u (r',l)=bpRest a L M f 3 0 (UInt64.ofNat L,d))):=
    J ⟨p+1,t+1,n+3+1,xorNext r,swp g p z,by go_num,J U,by omega,by omega,by rw[size_swp];exact S,I,J (by rw[<-F.o,aw.o])⟩
   have aj:Hid (3-t<gk):=J U;clear W hz;go_wp2_with fail;refine HX.o.l ?_;rintro e w2 ⟨rfl,v⟩;rw[HW.o,af.o,pT w n i off 3 g r (xorNext r)]at v;obtain⟨a1,a5,-,-⟩:=iV (n:=n+3) (r:=xorNext r) D.o j S;simp only[<-v]at a1 a5;simp only[<-C.o]at a1;have ax:=J v;clear v P ag K N;have SW:Hid (((w2.setCell ⟨i,off+p,none⟩ (.int .u32 (G z))).setCell ⟨i,off+z,none⟩ (.int .u32 (G p))).drew=M6 w (n+3+1) i off (swp g p z) (xorNext r)):=J (by rw[ax.o,C.o,C.o];exact xk _ j U U)
   by_cases ah:L<=c;focus
    have a7:(L:Int)<=(c:Nat):=U;have eo:(c:Int)-(L:Nat)=(o:Nat):=by rw[m,AD ah];omega
    clear m
   rotate_left
   focus
    have a7:¬(L:Int)<=(c:Nat):=U;have eo:c=o:=by rw[m,AC ah]
    clear m;subst eo
   rotate_left
   all_goals
    by_cases ae:p=z
    .subst ae;go_wp2_with fail;go_region;all_goals go_wp2_with fail
     rw[SW.o];go_roundg (3-t)
     case measure=>exact aj.o
     case rel=>exact ad.o
    have av:¬z=p:=λh=>ae h.A;go_wp2_with fail;go_region;all_goals go_wp2_with fail
    rw[SW.o];go_roundg (3-t)
    case measure=>exact aj.o
    case rel=>exact ad.o
  have a8:¬(p:Int)<=(f:Nat)+2:=U;have h3:t=3:=U;rw[h3]at F;clear W;go_wp2_with fail;go_end0;refine⟨I,n,#[Obj.cells #[.int .u64 r.toNat] 261],?_⟩;rw[HW.o,B.o,<-F.o];rfl
 have ao:¬(8:Int)<=(L:Nat):=U;have B:Hid (breakPatterns d a b=d):=J (by unfold breakPatterns;simp only[];rw[AC U]);clear x H hL;go_enter func319,ntmps319;go_wp2;go_end0;refine⟨I,0,#[],?_⟩;rw[B.o,grow_empty];exact So D.o
abbrev Qb (w:Z) (EW off:Nat) (d:Array Int) (w':Z):Prop:=At (Value.int .u32) w EW off d w'
def S9(w:Z)(EW off a b:Nat)(d:Array Int)(w':Z):Prop:=∃d',PermIn a b d d'/\SortedIn ltInt a b d'/\Qb w EW off d' w'
def Goes(a b:Nat)(d:Array Int)(a' b':Nat)(dk:Array Int):Prop:=∀R,PermIn a' b' dk R->SortedIn ltInt a' b' R->PermIn a b d R/\SortedIn ltInt a b R
theorem Goes.end{a b c b':Nat}{d f R:Array Int}{w w':Z}{e off:Nat}(h:Goes a b d c b' f)(g:PermIn c b' f R)(i:SortedIn ltInt c b' R)(j:Qb w e off R w'):S9 w e off a b d w':=
 ⟨R,(h R g i).1,(h R g i).2,j⟩
theorem ZB:∀(N EW off cap a b j:Nat) (d:Array Int) (w:Z),b-a<N->FG w EW off d->EW<w.heap.size->a<=b->b<=d.size->d.size<=1000000->j<=100->Below ltInt a b d -> Calls prog 292 #[.slice (some ⟨EW,off,none⟩) d.size cap,.a a,.a b,.a j] w λe w'=>e=.a (.tuple #[])/\S9 w EW off a b d w':=by
 intro N;induction N with
 |zero=>intro _ _ _ _ _ _ _ _ h;exact absurd h (Nat.not_lt_zero _)
 |succ N ih=>
  intro EW off cap a b j d w _ hH l b4 hb _ _ ae;have m:=J hH;have IH:=J ih;have aR:=J ae;clear hH ih ae;go_enter func292,ntmps292;go_wp2_with fail;go_loopg [1,2,3,8,9] (b-a) (λk s1 s2 s3 s8 s9 wr=>∃(f g B:Nat) (T wp:Bool) (o:Array Int),s1=.a f/\s2=.a g/\s3=.a B/\s8=.bool T/\s9=.bool wp /\
   f<=g/\g<=d.size/\g-f<=k/\k<=b-a/\B<=j/\o.size=d.size/\Hid (Below ltInt f g o)/\Hid (Qb w EW off o wr)/\Hid (Goes a b d f g o))
  case atStart=>exact⟨a,b,j,true,true,d,I,I,I,I,I,b4,hb,AB _,AB _,AB _,I,aR,J (At.refl m.o),J (λR h1 h2=>⟨h1,h2⟩)⟩
  case round=>
   obtain⟨f,g,B,T,wp,o,rfl,rfl,rfl,rfl,rfl,K,_,_,_,aK,q,am,z,Q⟩:=hrel;obtain⟨L,hL⟩:=E (g-f);have eL:(g:Int)-(f:Nat)=(L:Nat):=U;by_cases b5:L<=12
   .have aJ:(L:Int)<=12:=U;have i:=J (tR EW off cap f g o wr (z.o.holds m.o q l).1 K U U);rw[q]at i;clear hL;go_wp2_with (go_at_call 317;refine i.o.l ?_;rintro e w1 ⟨rfl,aw⟩);(try simp only[Exit.inBlock,Exit.then]);refine BE (CW I _ _ _) I ?_;have D:=insertionSort_holds swo_ltInt o f g K U;exact⟨I,Q.o.end D.1 D.2 (z.o.step l D.1.1 aw)⟩
   have aJ:¬(L:Int)<=12:=U;by_cases aS:B=0
   .subst aS;have i:=J (Ug EW off cap f g o wr (z.o.holds m.o q l).1 U U U);rw[q]at i;clear hL;go_wp2_with (go_at_call 318;refine i.o.l ?_;rintro e w1 ⟨rfl,aw⟩);(try simp only[Exit.inBlock,Exit.then]);refine BE (CW I _ _ _) I ?_;have D:=heapSort_holds swo_ltInt o f g K U;exact⟨I,Q.o.end D.1 D.2 (z.o.step l D.1.1 aw)⟩
   have aU:((B:Int)==0)=false:=EL;have V:f<g:=U;clear hL;go_upto_if 35 with fail;go_cut [3]from 19 to 133 (λs3 wc=>∃(x:Nat) (d1:Array Int),s3=.a x/\x<=j/\Hid (PermIn f g o d1)/\Hid (Qb w EW off d1 wc))
   case first=>
    cases T
    .have i:=J (Tf EW off cap f g o wr (z.o.holds m.o q l).1 (z.o.holds m.o q l).2 K U U);rw[q]at i;go_wp2_with (go_at_call 319;refine i.o.l ?_;rintro e w1 ⟨rfl,aw⟩);go_meet;have p:=breakPatterns_holds o f g K U;exact⟨B-1,breakPatterns o f g,by congr 1;omega,by omega,J p,J (z.o.stepG l p.1 aw)⟩
    go_wp2_with fail;go_meet
    case rel=>exact⟨B,o,I,aK,J (permIn_refl _ _ _),z⟩
   obtain⟨x,d1,rfl,a7,aG,aF⟩:=hcut;have M:d1.size=d.size:=by rw[aG.o.1];exact q
   obtain⟨c,i⟩:=E (choosePivot ltInt d1 f g);have W:=choosePivot_holds ltInt d1 f g V;have ax:=J (Sq EW off cap f g d1 wc (aF.o.holds m.o M l).1 V U (aF.o.holds m.o M l).2 U);rw[M,<-i]at ax;rw[<-i]at W;obtain⟨s,aN⟩:=E (Rk c.2);obtain⟨pv,y⟩:=E c.1;rw[<-aN,<-y]at ax;rw[<-y]at W;clear i aN y;go_upto_if 50 with(go_at_call 320;refine ax.o.l ?_;rintro e w2 ⟨rfl,aO⟩);have aE:Hid (Qb w EW off d1 w2):=J (aF.o.same m.o M l aO);clear aO;go_cut [11,12]from 19 to 133 (λaX aB wc=>∃(pv s:Nat) (d2:Array Int),aX=.a pv/\aB=.a s/\f<=pv/\pv<g/\Hid (PermIn f g o d2)/\Hid (Qb w EW off d2 wc))
   case first=>
    by_cases hh:s=2
    .subst hh;have i:=J (qh EW off cap f g d1 w2 (aE.o.holds m.o M l).1 V U U);rw[M]at i;go_wp2_with (go_at_call 321;refine i.o.l ?_;rintro e _ ⟨rfl,aY⟩);go_meet;have p:=reverseRange_holds d1 f g K U;exact⟨g-1-(pv-f),1,_,by congr 1;omega,I,by omega,by omega,J (permIn_trans _ _ _ _ _ aG.o p),J (aE.o.step l p.1 aY)⟩
    have b7:((s:Int)==2)=false:=EL;go_wp2_with fail;go_meet
    case rel=>exact⟨pv,s,d1,I,I,W.1,W.2,aG,aE⟩
   clear ax W s pv;obtain⟨pv,s,d2,rfl,rfl,y,aa,ar,ao⟩:=hcut;have aQ:d2.size=d.size:=by rw[ar.o.1];exact q
   go_upto_region 15 with fail;go_cut [12,68]from 19 to 133 (λaB aT wx=>aB=.a s/\(∃c:Bool,aT=.bool c)/\wx=wc)
   case first=>
    by_cases h1:s=1
    .subst h1;cases T<;>cases wp <;>
      (go_wp2_with fail
       go_meet;exact⟨I,⟨_,I⟩,I⟩)
    have b9:((s:Int)==1)=false:=EL;cases T<;>cases wp <;>
     (go_wp2_with fail
      go_meet;exact⟨I,⟨_,I⟩,I⟩)
   obtain⟨rfl,⟨c,rfl⟩,aP⟩:=hcut;rw[<-aP]at ao;clear aP;go_upto_if 68 with fail;go_cut []from 19 to 133 (λwx=>∃d3,Hid (PermIn f g o d3)/\Hid (Qb w EW off d3 wx))
   case first=>
    cases c
    .go_wp2_with fail;go_meet
     case rel=>exact⟨d2,ar,ao⟩
    have b3:Hid (Below ltInt f g d2):=J (am.o.perm U ar.o);have i:=J (wh EW off cap f g d2 wc (ao.o.holds m.o aQ l).1 V U U);rw[aQ]at i;have p:=partialInsertionSort_holds swo_ltInt d2 f g V U b3.o;obtain⟨r,u⟩:=E (partialInsertionSort ltInt d2 f g);rw[<-u]at i p;obtain⟨rd,rb⟩:=r;have F:=J p;clear p u;dsimp only at i F;cases rb
    .go_wp2_with (go_at_call 322;refine i.o.l ?_;rintro e w4 ⟨rfl,aA⟩);go_meet
     case rel=>exact⟨rd,J (permIn_trans _ _ _ _ _ ar.o F.o.1),J (ao.o.step l F.o.1.1 aA)⟩
    go_wp2_with (go_at_call 322;refine i.o.l ?_;rintro e w4 ⟨rfl,aA⟩);(try simp only[Exit.inBlock,Exit.then]);refine BE (CW I _ _ _) I ?_;exact⟨I,Q.o.end (permIn_trans _ _ _ _ _ ar.o F.o.1) (F.o.2 (by first|rfl|trivial)) (ao.o.step l F.o.1.1 aA)⟩
   obtain⟨d3,av,aC⟩:=hcut;have C:d3.size=d.size:=by rw[av.o.1];exact q
   have aM:Hid (Below ltInt f g d3):=J (am.o.perm U av.o);obtain⟨G,hG⟩:∃G:Nat->Int,∀t,G t=d3[t]! := ⟨λt=>d3[t]!,λ_=>rfl⟩;have b0:∀t,t<d.size->wc.cell? ⟨EW,off+t,none⟩=some (.int .u32 (G t)):=λt _=>by rw[hG];exact((aC.o.holds m.o C l).1 t U).1
   have HG:=J hG;clear hG;go_upto_region 17 with fail;go_cut [87]from 19 to 133 (λaZ wx=>∃c:Bool,aZ=.bool c/\Hid (c=true->0<f/\ltInt d3[f-1]! d3[pv]! = false)/\Hid (Qb w EW off d3 wx))
   case first=>
    by_cases aV:0<f
    .have aI:(0:Int)<(f:Nat):=U;go_quiet (first|(go_at_call 323;refine Ai (Fy _ _ _)));go_wp2_with fail;go_meet
     case rel=>exact⟨_,I,J (λh=>⟨aV,by rw[<-HG.o,<-HG.o];simpa using h⟩),J (aC.o.ahead nq)⟩
    have aI:decide ((0:Int)<(f:Nat))=false:=BZ U;go_quiet (first|(go_at_call 323;refine Ai (Fy _ _ _)));go_wp2_with fail;go_meet
    case rel=>exact⟨_,I,J (λh=>absurd h EJ),J (aC.o.ahead nq)⟩
   obtain⟨c,rfl,HC,az⟩:=hcut;clear b0;cases c
   .have i:=J (U5 EW off cap f g pv d3 wc (az.o.holds m.o C l).1 y aa U U);rw[C]at i;obtain⟨r,u⟩:=E (partition ltInt d3 f g pv);obtain⟨n,ap,d4⟩:=r;have H:=J (round_part swo_ltInt (partition_holds ltInt) y aa U aM.o u.A);rw[<-u]at i;dsimp only at i;clear u;have q1:=H.o.1;have q2:=H.o.2.1;go_upto_if 113 with(go_at_call 325;refine i.o.l ?_;rintro e w7 ⟨rfl,ay⟩);obtain⟨r1,r2,S,r4,r5,r6,r7⟩:=H.o;have P:Hid (Qb w EW off d4 w7):=J (az.o.step l S ay);have A:d4.size=d.size:=S.i C;have R4:=J r4;have R5:=J r5;have R6:=J r6;have R7:=J r7;clear ay H S r4 r5 r6 r7;by_cases h4:n-f<g-n
    .have aW:(n:Int)-(f:Nat)<(g:Nat)-(n:Nat):=U;have au:=J (IH.o EW off cap f n x d4 w7 U (P.o.holds m.o A l).1 (P.o.holds m.o A l).2 r1 U U U R4.o);rw[A]at au;go_wp2_with (go_at_call 292;refine au.o.l ?_;rintro e w8 ⟨rfl,aL⟩);obtain⟨d5,v,s5,n5,aH,a5⟩:=aL;go_roundg (g-(n+1))
     case measure=>omega
     exact⟨n+1,g,x,_,ap,d5,by go_num,I,I,I,I,by omega,by omega,AB _,by omega,a7,by rw[v.1];exact A,J (R6.o d5 v s5).1,J (P.o.stepG l v.1 ⟨n5,aH,a5⟩),J (λR p hs=>by obtain⟨x1,x2⟩:=(R6.o d5 v s5).2 R p hs;exact Q.o R (permIn_trans _ _ _ _ _ av.o x1) x2)⟩
    have aW:¬(n:Int)-(f:Nat)<(g:Nat)-(n:Nat):=U;have em:(n:Int)+1=((n+1:Nat):Int):=U;have au:=J (IH.o EW off cap (n+1) g x d4 w7 U (P.o.holds m.o A l).1 (P.o.holds m.o A l).2 U U U U R5.o);rw[A,<-em]at au;clear em;go_wp2_with (go_at_call 292;refine au.o.l ?_;rintro e w8 ⟨rfl,aL⟩);obtain⟨d5,v,s5,n5,aH,a5⟩:=aL;go_roundg (n-f)
    case measure=>omega
    exact⟨f,n,x,_,ap,d5,I,I,I,I,I,r1,by omega,AB _,by omega,a7,by rw[v.1];exact A,J (R7.o d5 v s5).1,J (P.o.stepG l v.1 ⟨n5,aH,a5⟩),J (λR p hs=>by obtain⟨x1,x2⟩:=(R7.o d5 v s5).2 R p hs;exact Q.o R (permIn_trans _ _ _ _ _ av.o x1) x2)⟩
   have i:=J (qd EW off cap f g pv d3 wc (az.o.holds m.o C l).1 y aa U U);rw[C]at i;obtain⟨r,u⟩:=E (partitionEqual ltInt d3 f g pv);obtain⟨n,d4⟩:=r;have hC:=HC.o I;have H:=J (round_eq swo_ltInt (partitionEqual_holds ltInt) hC.1 y aa U aM.o hC.2 u.A);rw[<-u]at i;dsimp only at i;clear u hC;go_wp2_with (go_at_call 324;refine i.o.l ?_;rintro e w7 ⟨rfl,ay⟩);obtain⟨r1,r2,S,r4,r5⟩:=H.o;go_roundg (g-n)
   case measure=>omega
   exact⟨n,g,x,T,wp,d4,I,I,I,I,I,r2,by omega,AB _,by omega,a7,S.i C,J r4,J (az.o.step l S ay),J (λR p hs=>by obtain⟨x1,x2⟩:=r5 R p hs;exact Q.o R (permIn_trans _ _ _ _ _ av.o x1) x2)⟩
end Y
end Go.Proofs.YtodmdkhdbfbfgaaGreatDoor
namespace Go.Proofs
open Go.RowKit Go.Sort Go.Shelf
shelf_lay_g Lays.n125 Nm 125 at Tryz 118 as bitLenA
namespace YtodmdkhdbfbfgaaGreatDoor.Y
theorem Yf(n:Nat)(a:n<=1000000)(w:Z):Calls prog 118 #[.int .u64 n] w λe w'=>e=.a (.a (bitsLen n:Nat))/\w'=w:=by have h:=Any.bits_Len bitLenA (n:Int) w U U;rwa[Int.toNat_natCast,bitLen_eq _ U]at h
theorem uy{n:Nat}(h:n<=1000000):bitsLen n<=100:=by exact Dz ((bitsLen_le_iff n 20).2 U)
theorem VT(a off cap:Nat)(d:Array Int)(w:Z)(j:FG w a off d)(b:a<w.heap.size)(c:d.size<=1000000):Calls prog 255 #[.slice (some ⟨a,off,none⟩) d.size cap] w λe w'=>e=.a (.tuple #[])/\S9 w a off 0 d.size d w':=by
 obtain⟨n,g⟩:=E d.size;obtain⟨L,f⟩:=E (bitsLen n);have h:=J (Yf n U w);rw[<-f]at h;have i:=J (ZB (d.size-0+1) a off cap 0 d.size L d w U j b U (AB _) c (by rw[f];exact uy U) (Or.w I));rw[<-g]at i |-;rw[<-g]at c;clear g f j;go_enter func255,ntmps255;go_wp2_with (first
  | (go_at_call 118;refine h.o.l ?_;rintro e w' ⟨rfl,rfl⟩)
  | (go_at_call 292;refine i.o.l ?_;rintro e w' ⟨rfl,k⟩))
 go_end0;exact⟨I,k⟩
end YtodmdkhdbfbfgaaGreatDoor.Y
end Go.Proofs
namespace Go.Proofs.YtodmdkhdbfbfgaaGreatDoor
namespace Y
open Go.RowKit Pk Go.Shelf
attribute [local go_sem] Oper.semAt_some
def F9(x:Nat):Value:=.int .u32 x
theorem NB:(prog.info? 88).map (λi=>(i.zero,i.size,i.bytes))=some (some (.int .u32 0),1,4):=EG
theorem mP(n:Nat)(c:1<=n)(w:Z)(B g cap:Nat)(a:List Nat)(p:Nat)(S:Nat->Prop)(P:B<p)(R:g<p)(m:S g)(F:a.length<=100000)(C:w.cell? ⟨B,0,none⟩=some (.b g a.length cap))(b:Array Value)(c:w.heap[g]?=some (.cells b 88 (0,0)))(D:b.toList.take a.length=a.map F9):Ih Fence.wide n prog 256 #[.c B] (λx=>#[F9 x]) a p S w:=by
 intro l q W A Q N;have f:W.cell? ⟨B,0,none⟩=some (.b g a.length cap):=by rw[A.cell (p:=⟨B,0,none⟩) P];exact C
 have H:∀k (h:k<a.length),b[k]?=some (F9 a[k]):=by
  intro k h;have y:(b.toList.take a.length)[k]?=some (F9 a[k]):=by rw[D];simp[h]
  rw[Aq h]at y;simpa using y
 have G:W.h g b 88:=(A.u g R).i c;clear C c D;refine Cy func256 I trivial ?_ I;simp only[ntmps256,BV,Ae,Bf,Nat.reduceAdd,Nat.reduceSub,Bc,Bb,Bo,Bh,BB,Az];gi_wp2;gi_loopw [7] (λi wr=>∃k:Nat,k<=a.length/\i=.a k/\q (a.take k) wr/\Hid (KR S W wr)) (λi _=>a.length-(intOf i).toNat)
 case atStart=>exact⟨0,AW _,I,by simpa using N,J (λ_ _=>rfl)⟩
 case round=>
  obtain⟨k,_,rfl,j,r⟩:=hrel;by_cases d:k<a.length
  .have t:wr.cell? ⟨g,k,none⟩=some (.int .u32 (a[k]:Nat)):=by rw[AU wr g k _ 88 (0,0) ((r.o g m).i G)];exact H k d
   obtain⟨_,_,_,_,f,z⟩:=Q (a.take k) a[k] wr j (by rw[DY d];exact List.take_prefix _ _);unfold F9 at f;have s:=J z;have T:(k:Int)<(a.length:Nat):=U;have o:(0:Int)<=(k:Nat):=U;obtain⟨x,o⟩:=E (a[k]);have V:=J o;rw[<-o]at t f;clear z o j;gi_wp2_with gi_in;refine s.o.mono ?_;rintro e _ ⟨rfl,u,v⟩;have M:=J (r.o.i v);have L:=J u;clear u v s f t;gi_wp2;go_roundw
   case rel=>exact⟨k+1,by omega,I,by rw[<-DY d];exact L.o,M⟩
   case measure=>simp[intOf];omega
  have K:k=a.length:=U;subst K;have T:¬(a.length:Int)<(a.length:Nat):=U;gi_wp2;go_end0;exact⟨⟨_,I⟩,by simpa using j⟩
theorem nN(n:Nat)(p:Option Addr)(k c:Nat)(w:Z):CallsIn Fence.wide n prog 204 #[.slice p k c] w λe w'=>e=.a (.func (.func 256) #[] #[.c w.heap.size])/\w'=w.alloc (.cells #[.slice p k c] 201):=by refine Cy func204 I trivial ?_ I;simp only[ntmps204,BV,Ae,Bf,Nat.reduceAdd,Nat.reduceSub,Bc,Bb,Bo,Bh,BB,Az];gi_wp2;go_ret;exact⟨I,I⟩
def Wg(w:Z)(bx:Nat)(pre:List Nat)(W:Z):Prop:=∃v,W.heap[bx]?=some (.cells #[v] 201 (0,0))/\W.ownsRow (bx+1) 88 1 v pre.length (pre.map F9)/\Below bx w W/\(v=.g↔pre=[])
theorem Wg.C{w:Z}{a:Nat}{b:List Nat}{W W':Z}{row:Option Nat}(h:Wg w a b W)(j:W.grownBy W' row)(l:∀r,row=some r->a+1<=r/\∃o:Obj,W.heap[r]?=some o/\o.isCells=false)(y:w.heap.size=a):Wg w a b W':=by
 obtain⟨v,m,n,p,t⟩:=h;refine⟨v,(j.u a (lt_of_heap m) (λe=>by exact Dz ((l a e.A).1))).i m,?_,p.C j (Dz p.size) (λk e=>by exact Dz ((l k e).1)),t⟩;refine⟨n.1,?_⟩;rcases n.2 with f|⟨g,c,d,e,f,i,u⟩
 .exact .w f
 exact .s ⟨g,c,d,e,f,(j.u g (lt_of_heap i) (λs=>by obtain⟨_,o,q,x⟩:=l g s.A;rw[i]at q;cases q;cases x)).i i,u⟩
theorem nZ(n:Nat)(a:2<=n)(g:Nat)(lb:Array Value)(c:∀b w,(callFunc g b).run prog w=.ok (.enter g b) w)(s:List Nat)(a:s.length<=100000)(w:Z)(a:Nat)(S:Nat->Prop)(P:a<=w.heap.size)(hS:∀k,S k->k<w.heap.size)(z:Ih Fence.wide (n - 1) prog g lb (λx=>#[F9 x]) s a S w) :
 CallsIn Fence.wide n prog 291 #[.g,.func (.func g) #[] lb] w λe w'=>∃v:Value,e=.a v/\w'.ownsRow w.heap.size 88 1 v s.length (s.map F9)/\(v=.g↔s=[])/\Below w.heap.size w w':=by
 obtain⟨H,D,f,B,A⟩:=An NB;refine callsIn_of_wp_marks func291 I trivial ?_ I;simp only[ntmps291,BV,Ae,Bf,Nat.reduceAdd,Nat.reduceSub,Bc,Bb,Bo,Bh,BB,Az];gi_wp2;obtain⟨_,F⟩:=E (w.alloc (.cells #[.g] 201));have a:=Ia F;have b:=Gi F;have T:=JK F;rw[<-F];refine X5 I U (gf:=g) (lb:=lb) I trivial c (z.later (T.l P)) U (λk m=>by exact Dz (hS k m)) (λ_=>rfl) (Wg w w.heap.size)
  (λ_ _ C _ d c a=>d.C c (λr e=>⟨by have:=(a r e).1;omega,(a r e).2⟩) I)
  ⟨_,b,Af _ _ _ _,T,by simp⟩
  (λx W=>{ tmps:=#[.g,.func (.func g) #[] lb,.c w.heap.size,undef,.g,F9 x,.func (.func g) #[] lb,F9 x,undef,undef,undef,undef,undef],defers:=[] })
  (λx W=>W) (λx W=>AP _ W) (λa x W h=>h) ?assign ?body ?done
 case assign=>
  intro l x W _ y;unfold F9 at y |-;gi_wp2;exact y
 case body=>
  intro l a x W V _ N b _ _;have c:a.length<s.length:=by have:=b.length_le;simp at this;omega
  obtain⟨v,p,d,G,R⟩:=N;have i:w.heap.size<V.heap.size:=lt_of_heap p;obtain⟨_,_⟩:=cell_of_box_a p;have c:∀{j:Nat} {o:Obj},V.heap[j]? = some o->(∀t,o≠.cells t 88 (0,0))->some j≠v.ownBlock:=λs b=>by
   rcases ownsRow_ne_a d s b with e|e
   .rw[e];simp
   exact λu=>e u.A
  unfold F9;gi_wp2_with (first
   | (gi_at_builtin;refine wpListIn_append_own _ I _ _ 201 I (w.heap.size+1) 88 H _ 1 4 underlying201 D f B A I EB _ _ _ I (d.alloc _) ⟨V.heap.size,0,none⟩ 1 1 [.int .u32 x] I I (B9 _ _ _) (by simp[Value.oneCell']) (by simp[maxLen];omega) U EL ?_
      intro A f H b _;have L:f.heap[w.heap.size]? = some (.cells #[v] 201 (0,0)):=(b.u w.heap.size EL (c p (λt e=>by cases e))).trans ((AO _ _ w.heap.size i).trans p);obtain⟨s,z⟩:=cell_of_box_a L;obtain⟨i,c,B,rfl,_,_,_,_,_,_⟩:∃i c B,A=.b i (a.length+1) c/\w.heap.size+1<=i/\f.heap[i]? = some (.cells B 88 (0,0))/\a.length+1<=c/\c<=maxLen/\B.size=c*1/\B.toList.take ((a.length+1)*1)=a.map F9++[.int .u32 x]:=by
       rcases H.2 with⟨_,B⟩|A
       .exact absurd B U
       exact A
      go_frame)
   |gi_round_op_a)
  have D:(V.alloc (.cells #[.int .u32 x] 88)).grownBy f v.ownBlock:=b;obtain⟨A,K⟩:∃A,f.setCell ⟨w.heap.size,0,none⟩ (.b i (a.length+1) c)=A:=⟨_,I⟩;rw[K];have M:f.grownBy A (some w.heap.size):=by rw[<-K];exact grownBy_setCell0_a _ _ _
  have B:A.heap[w.heap.size]? = some (.cells #[.b i (a.length+1) c] 201 (0,0)):=by rw[<-K];exact heap_setCell_box_a _ L
  have a:=H.kept M (ownsRow_ne_a H L (λt e=>by cases e));have b:Below w.heap.size V f:=((AP _ V).a).C D EL (λk e=>by exact Dz ((d.lt k e).1));have Q:Below w.heap.size V A:=b.C M (by have:=D.size;simp at this;omega) (λk e=>by cases e;omega);refine⟨?_,KR.of_below Q hS,⟨_,B,by simpa[F9]using a,G.trans Q,by simp⟩⟩;refine((KeepsOthers.alloc _ (.cells #[.int .u32 x] 88)).from _).trans (KeepsFrom.trans (?_:KeepsFrom _ _ f) (KeepsFrom.of_grownBy M (λj e=>by cases e;omega)));exact⟨D.size,λk o _ m b=>(D.u k (lt_of_heap m) (λe=>by
   rcases d.2 with⟨u,_⟩|⟨q,_,t,u,_,a,_⟩
   .rw[u]at e;cases e
   rw[u]at e;simp[Value.ownBlock]at e;subst e;rw[AO _ _ _ (lt_of_heap a),a]at m;cases m
   cases b)).trans m⟩
 case done=>
  intro _ W _ N y;obtain⟨v,p,d,G,R⟩:=N;obtain⟨s,z⟩:=cell_of_box_a p;gi_wp2;refine⟨by simp,.w ⟨_,_,I,run_takeDeferred y,?_⟩⟩;exact⟨_,results_tmp I _ _ _,v,I,(ownsRow_base_a d U).kept (grownBy_putObj_a _ _ _) (ownsRow_ne_a d y (λt e=>by cases e)),R,G.C (grownBy_putObj_a _ _ _) G.size (λk e=>by cases e;omega)⟩
theorem qt(n:Nat)(p:3<=n)(g:Nat)(lb:Array Value)(j:∀a w,(callFunc g a).run prog w=.ok (.enter g a) w)(b:List Nat)(l:b.length<=100000)(w:Z)(f:Nat)(S:Nat->Prop)(d:f<=w.heap.size)(m:∀k,S k->k<w.heap.size)(c:Ih Fence.wide (n-1-1) prog g lb (λx=>#[F9 x]) b f S w):CallsIn Fence.wide n prog 254 #[.func (.func g) #[] lb] w λe w'=>∃v:Value,e=.a v/\w'.ownsRow w.heap.size 88 1 v b.length (b.map F9)/\(v=.g↔b=[])/\Below w.heap.size w w':=by refine Cy func254 I trivial ?_ I;simp only[ntmps254,BV,Ae,Bf,Nat.reduceAdd,Nat.reduceSub,Bc,Bb,Bo,Bh,BB,Az];gi_wp2_with fail;refine⟨trivial,λ_=>by omega,(nZ (n-1) U g lb j b l _ f S d m c).l ?_⟩;rintro e w' ⟨v,rfl,i,h,o⟩;gi_wp2;go_ret;exact⟨v,I,i,h,o⟩
end Y
namespace Y
open Go.RowKit Go.Sort
variable {w:Z} {g:Nat} {cur:Array Value} {e:TypeId} {xs:List Nat}
def ints(xs:List Nat):Array Int:=(xs.map (λx:Nat=>(x:Int))).toArray
theorem Tx(a:List Nat):(ints a).size=a.length:=by simp[ints]
theorem wA(a:List Nat){j:Nat}(h:j<a.length):(ints a)[j]! = (a[j]:Int):=by simp[ints,h]
theorem qe(c:w.heap[g]?=some (.cells cur e (0,0)))(d:cur.toList.take xs.length=xs.map F9):FG w g 0 (ints xs):=by
 intro j a;rw[Tx]at a;refine⟨?_,by simp[World.frozen?,c]⟩;have b:(cur.toList.take xs.length)[j]?=(xs.map F9)[j]? := by rw[d]
 rw[Aq a,Bw]at b;rw[wA xs a];simp only[World.cell?,c,Ak];rw[b];simp[a,F9]
theorem uv{w':Z}{d:Array Int}{b:Nat×Nat}(c:w.heap[g]?=some (.cells cur e b))(h:Qb w g 0 d w'):w'.heap[g]?=some (.cells (putCells (Value.int .u32) 0 d cur) e b)/\Below g w w'/\w.grownBy w' (some g):=by
 obtain⟨n,l,rfl⟩:=h;have j:g<w.heap.size:=(BC.1 c).1;have a:∀k,k<w.heap.size->some k≠some g->(grow (putRow (Value.int .u32) (Sort.ahead w n) g 0 d) l).heap[k]?=w.heap[k]? := λk f i=>by rw[heap_grow_old _ _ (EU f)];have:g≠k:=λe=>i (by rw[e]);simp[putRow,mapBlock,Sort.ahead,Array.getElem?_modify,this]
 refine⟨?_,⟨I,I,I,by simp,λk f=>a k U EL⟩,⟨I,I,I,by simp,a⟩⟩;rw[heap_grow_old _ _ (EU j)];simp[putRow,mapBlock,Sort.ahead,Array.getElem?_modify,c,onCells]
theorem tH(a:Array Value)(b:List Nat)(h:b.length<=a.size):(putCells (Value.int .u32) 0 (ints b) a).toList.take b.length=b.map F9:=by
 apply DM;intro j;by_cases c:j<b.length
 .rw[Aq c,Bw];simp[putCells,c,ints,F9,show j<a.size by omega]
 rw[List.getElem?_take_eq_none U,Ay EL]
abbrev Asc (ys:List Nat):Prop:=ys.Pairwise (·<=·)
theorem nD{d':Array Int}(a:PermIn 0 (ints xs).size (ints xs) d')(k:SortedIn ltInt 0 (ints xs).size d'):∃ys:List Nat,d'=ints ys/\ys.Perm xs/\Asc ys:=by
 have l:d'.size=xs.length:=by rw[a.1,Tx]
 have c:d'.toList.Perm (xs.map (λx:Nat=>(x:Int))):=by
  have:=a.2.2;have e1:(d'.extract 0 (ints xs).size).toList=d'.toList:=by rw[<-a.1];simp
  have e2:((ints xs).extract 0 (ints xs).size).toList=xs.map (λx:Nat=>(x:Int)):=by have:((ints xs).extract 0 (ints xs).size)=ints xs:=EJ;rw[this,ints]
  rwa[e1,e2]at this
 have f:∀z∈d'.toList,(z.toNat:Int)=z:=λz b=>by obtain⟨x,_,rfl⟩:=AZ.1 (c.mem_iff.1 b);simp
 refine⟨d'.toList.map Int.toNat,?_,?_,?_⟩
 .apply Array.ext';simp only[ints,Cj];conv=>lhs;rw[<-List.map_id d'.toList]
  exact BO (λz b=>(f z b).A)
 .have:=c.map Int.toNat;simpa[Cj,Function.comp_def]using this
 rw[Asc,CY];intro i j d e g;simp only[B0,Cz]at d e;have h:=k i j (AW _) g (by rw[Tx];omega);rw[CD d' j e,CD d' i d]at h;simp only[ltInt,decide_eq_false_iff_not,Int.not_lt]at h;simp only[List.getElem_map,Array.getElem_toList];omega
def iP(w:Z)(xs:List Nat)(e:Ending)(w':Z):Prop:=∃(v:Value) (ys:List Nat),e=.a v/\ys.Perm xs/\Asc ys/\w'.ownsRow w.heap.size 88 1 v ys.length (ys.map F9)/\Below w.heap.size w w'
theorem sM(n:Nat)(Q:4<=n)(g:Nat)(lb:Array Value)(F:∀d w,(callFunc g d).run prog w=.ok (.enter g d) w)(f:List Nat)(N:f≠[])(K:f.length<=100000)(w:Z)(q:Nat)(S:Nat->Prop)(o:q<=w.heap.size)(L:∀k,S k->k<w.heap.size)(l:Ih Fence.wide (n-1-1-1) prog g lb (λx=>#[F9 x]) f q S w):CallsIn Fence.wide n prog 203 #[.func (.func g) #[] lb] w λe w'=>iP w f e w':=by
 refine Cy func203 I trivial ?_ I;simp only[ntmps203,BV,Ae,Bf,Nat.reduceAdd,Nat.reduceSub,Bc,Bb,Bo,Bh,BB,Az];gi_wp2_with fail;refine⟨trivial,λ_=>by omega,(qt (n-1) U g lb F f K _ q S o L l).l ?_⟩;rintro e P ⟨_,rfl,A,z,M⟩;rcases A.2 with⟨G,_⟩|⟨m,b,h,rfl,a,c,_,p,i,j⟩
 .exact absurd (z.1 G) N
 rw[Dk]at j i;have s:=VT m 0 b (ints f) P (qe c j) (BC.1 c).1 (by rw[Tx];omega);rw[Tx]at s;gi_wp2_with fail;refine⟨trivial,λ_=>by omega,(B7.2 s).l ?_⟩;rintro e _ ⟨rfl,_,t,u,H⟩;rw[<-Tx]at t u;obtain⟨v,rfl,r,C⟩:=nD t u;obtain⟨B,D,-⟩:=uv c H;have y:=r.length_eq;gi_wp2;go_ret;show iP w f _ _;refine⟨.b m f.length b,v,I,r,C,⟨by simp,.s ⟨m,b,_,by rw[y],a,B,by omega,p,by simp[putCells,i],by rw[Dk];exact tH h v U⟩⟩,M.i (D.l a)⟩
end Y
namespace Y.Pk
structure Wr (b:Du) (pos:Nat):Prop where
 h:pos<=8*b.length
 g:8*b.length<pos+8
 zero:∀i,pos<=i->bt b i=0
structure Ag (b f:Du) (pos:Nat):Prop where
 len:b.length<=f.length
 bit:∀i,i<pos->bt f i=bt b i
theorem Ag.refl(b:Du)(pos:Nat):Ag b b pos:=⟨AB _,λ_ _=>rfl⟩
theorem Ag.i{a b c:Du}{p q:Nat}(h:Ag a b p)(k:Ag b c q)(e:p<=q):Ag a c p:=⟨AG h.len k.len,λi d=>(k.bit i U).i (h.bit i d)⟩
theorem Ag.l{a b:Du}{p q:Nat}(h:Ag a b q)(c:p<=q):Ag a b p:=⟨h.len,λi _=>h.bit i U⟩
theorem Ag.val{b f:Du}{pos:Nat}(h:Ag b f pos)(p d:Nat)(c:p+d<=pos):val f p d=val b p d:=by
 induction d with
 |zero=>rfl
 |succ d a=>rw[Ov,Ov,a U,h.bit _ U]
theorem uT(c x r:Nat)(i:c<256)(t:x<2)(s:r<8)(m:∀j,r<=j->j<8->c/2^(7-j)%2=0):c%2^(8-r)=0/\c+x*2^(7-r)<256/\∀j,j<8->(c+x*2^(7-r))/2^(7-j)%2=if j<r then c/2^(7-j)%2 else if j=r then x else 0:=by
 have l:c%2^(8-r)=0:=by
  have key:∀k,k<=8-r->c%2^k=0:=by
   intro k;induction k with
   |zero=>intro _;simp[Nat.mod_one]
   |succ k n=>intro _;have h:=n U;have a:=m (7-k) U U;rw[show 7-(7-k)=k by omega]at a;rw[CF,Nat.mod_mul,h,a];simp
  exact key _ (AB _)
 obtain⟨q,d⟩:∃q,c=2^(8-r)*q:=⟨c/2^(8-r),by exact Dz (Nat.div_add_mod c (2^(8-r)))⟩;have b:(2:Nat)^(8-r)=2^(7-r)*2:=by rw[<-CF];congr 1;omega
 have g:c+x*2^(7-r)=2^(7-r)*(2*q+x):=by rw[d,b,Nat.mul_add,Ck,BQ x]
 have f:(256:Nat)=2^(7-r)*2^(r+1):=by rw[<-Nat.pow_add,show 7-r+(r+1)=8 by omega]
 have o:2*q<2^(r+1):=by
  have:2^(7-r)*(2*q)<2^(7-r)*2^(r+1):=by rw[<-f,<-Ck,<-b,<-d];exact i
  exact Nat.lt_of_mul_lt_mul_left this
 have p:2^(r+1)%2=0:=by rw[CF];omega
 refine⟨l,?_,λj _=>?_⟩
 .rw[g,f];exact(Nat.mul_lt_mul_left (DN U)).2 U
 rw[g];by_cases h:j<=r
 .have e:(2:Nat)^(7-j)=2^(7-r)*2^(r-j):=by rw[<-Nat.pow_add];congr 1;omega
  rw[e,Nat.mul_div_mul_left _ _ (DN U)];by_cases a:j=r
  .subst a;simp;omega
  rw[AD U,d,b,Ck,Nat.mul_div_mul_left _ _ (DN U)];rw[show r-j=(r-j-1)+1 by omega,CF,BQ (2^(r-j-1)) 2,<-DD,<-DD];rw[show(2*q+x)/2=q by omega,show 2*q/2=q by omega]
 rw[AC U,AC U];have e:(2:Nat)^(7-r)=2^(7-j)*2^(j-r):=by rw[<-Nat.pow_add];congr 1;omega
 rw[e,Ck,Nat.mul_div_cancel_left _ (DN U),show j-r=(j-r-1)+1 by omega,CF,BQ (2^(j-r-1)) 2,Ck,Nat.mul_mod_right]
theorem Wn(b e:Du)(i:Nat)(h:i<8*b.length):bt (b++e) i=bt b i:=by unfold bt;rw[AI,BG U,AI]
theorem jj(b:Du)(i:Nat)(h:8*b.length<=i):bt b i=0:=by unfold bt;rw[AI,Ay U];simp
theorem ll(b:Du)(i:Nat)(h:8*b.length<=i):bt (b++[0]) i=0:=by
 by_cases e:i<8*b.length+8
 .unfold bt;rw[AI,Ao U,show i/8-b.length=0 by omega];simp
 exact jj _ _ EL
theorem Yn(b:Du)(pos x:Nat)(p:pos<8*b.length)(q:8*b.length<=pos+8)(g:∀i,pos<=i->bt b i=0)(o:x<2):(b.getD (b.length-1) 0).toNat%2^(8*b.length-pos)=0/\(b.getD (b.length-1) 0).toNat+x*2^(8*b.length-pos-1)<256 /\ ∀c':UInt8,c'.toNat=(b.getD (b.length-1) 0).toNat+x*2^(8*b.length-pos-1)->Wr (b.set (b.length-1) c') (pos+1)/\Ag b (b.set (b.length-1) c') pos/\bt (b.set (b.length-1) c') pos=x:=by
 have r:pos/8=b.length-1:=U;have f:=uT (b.getD (b.length-1) 0).toNat x (pos%8) (UInt8.toNat_lt _) o U (λj _ _=>by have:=g (8*(b.length-1)+j) U;unfold bt at this;rw[show(8*(b.length-1)+j)/8=b.length-1 by omega,show(8*(b.length-1)+j)%8=j by omega]at this;exact this)
 rw[show 8-pos%8=8*b.length-pos by omega,show 7-pos%8=8*b.length-pos-1 by omega]at f;obtain⟨l,m,k⟩:=f;refine⟨l,m,λc' n=>?_⟩;have key:∀i,bt (b.set (b.length-1) c') i=if i<pos then bt b i else if i=pos then x else 0:=by
  intro i;by_cases a:i/8=b.length-1
  .have e:(b.set (b.length-1) c').getD (i/8) 0=c':=by rw[a,AI,List.getElem?_set_self U];rfl
   have:=k (i%8) U;unfold bt;rw[e,n,this,a];by_cases c:i<pos
   .rw[AD U,AD c]
   rw[AC U,AC c];by_cases d:i=pos
   .rw[AD U,AD d]
   rw[AC U,AC d]
  have e:(b.set (b.length-1) c').getD (i/8) 0=b.getD (i/8) 0:=by rw[AI,Dl (λh=>a h.A),AI]
  have e2:bt (b.set (b.length-1) c') i=bt b i:=by unfold bt;rw[e]
  rw[e2];by_cases c:i<pos
  .rw[AD c]
  rw[AC c,AC U];exact g i U
 refine⟨⟨by rw[List.length_set];omega,by rw[List.length_set];omega,λi a=>by rw[key,AC U,AC U]⟩,⟨by rw[List.length_set];exact AB _,λi a=>by rw[key,AD a]⟩,by rw[key,AC U,AD I]⟩
theorem WZ(n k j:Nat)(a:j<k):2*(n/2^(k-j))+n/2^(k-1-j)%2=n/2^(k-(j+1)):=by rw[show k-j=(k-1-j)+1 by omega,show k-(j+1)=k-1-j by omega,CF,<-DD];omega
end Y.Pk
end Go.Proofs.YtodmdkhdbfbfgaaGreatDoor
