/- Lemmas. -/
import Derived.DeepKeys4
import Derived.Lib.ConvBytes
import Derived.Laws.BitsAllLaws
import Derived.Lib.AppendZerosOnto
import Derived.BigRegion
import Derived.Test.YtodmdkhdbfbfgaaGreatDoorM02
set_option linter.unusedVariables false
set_option linter.unusedSimpArgs false
set_option maxRecDepth 100000
set_option maxHeartbeats 8000000
open Go.Proofs.Tryz
abbrev Go.Bd:=@Nat.mod_eq_of_lt
abbrev Go.By:=@List.mem_cons_of_mem
abbrev Go.Ca:=@of_decide_eq_true
abbrev Go.C5:=@Nat.le_of_lt
abbrev Go.Ch:=@Go.Lib.wpList_append_own_string
abbrev Go.Ci:=@Nat.le_of_eq
abbrev Go.DM:=@List.ext_getElem?
abbrev Go.De:=@Array.size_append
abbrev Go.Dn:=@Go.World.ownsRow.lt
abbrev Go.Cf:=@List.getElem?_range
abbrev Go.Cm:=@List.countP_cons
abbrev Go.Ct:=@List.nodup_cons
namespace Go.Proofs.YtodmdkhdbfbfgaaGreatDoor
namespace Y
open Go.RowKit Pk
theorem Qv(m:M)(b p:Nat)(x:Du)(d:WF m) :
 ((El m (b:Nat) (p:Nat) x).1=true/\b<m.a/\m.e b=false/\p=m.g b/\p<m.d/\x.length=64/\m.b≠0/\(El m (b:Nat) (p:Nat) x).2=GX (G8 (tick m) b p x) b (p+1)) \/
 ((El m (b:Nat) (p:Nat) x).1=false/\((El m (b:Nat) (p:Nat) x).2=m\/(El m (b:Nat) (p:Nat) x).2=tick m/\m.b=0\/(b<m.a/\m.e b=false/\p=m.g b/\p<m.d/\x.length=64/\∃c,c<64/\((El m (b:Nat) (p:Nat) x).2=GX (G8 (tick m) b p (x.take c)) b (p+1)/\(tick m).b=0\/(El m (b:Nat) (p:Nat) x).2=GX (Lc (G8 (tick m) b p (x.take c)) b true) b (p+1)/\0<=m.fail)))):=by
 unfold El;by_cases j:LL m (b:Nat) (p:Nat) x
 .rw[AD j];obtain⟨i,q,e1,e2,g,f,l,k,h⟩:=Uv j;have r:i=b:=U
  have s:q=p:=U
  subst r s;simp only[Int.toNat_natCast];have c1:=d.h;have c2:=d.f;have u:=d.j;have v:=d.k;have o:m.cut.toNat<64:=U
  have n:m.part.toNat<64:=U
  unfold Gk;rcases UA m.b m.fail with a|a|a|a
  .rw[AD a];refine .w ⟨I,g,f,l,k,h,?_,I⟩;intro e;unfold E7 at a;rw[AD e]at a;simp at a
  .rw[AC (by rw[a];decide),AD a];refine .s ⟨I,.s (.s ⟨g,f,l,k,h,m.part.toNat,n,.s ⟨I,?_⟩⟩)⟩;unfold E7 at a
   repeat' split at a
   all_goals simp at a
   all_goals omega
  .rw[AC (by rw[a];decide),AC (by rw[a];decide),AD a];refine .s ⟨I,.s (.s ⟨g,f,l,k,h,m.cut.toNat,o,.w ⟨I,?_⟩⟩)⟩;unfold tick;show(E7 m.b m.fail).2.1=0;unfold E7 at a |-
   repeat' split at a
   all_goals simp at a
   rename_i e t;rw[AC e,AD t]
  rw[AC (by rw[a];decide),AC (by rw[a];decide),AC (by rw[a];decide)];refine .s ⟨I,.s (.w ⟨I,?_⟩)⟩;unfold E7 at a
  repeat' split at a
  all_goals simp at a
  all_goals assumption
 rw[AC j];exact .s ⟨I,.w I⟩
theorem UC(m:M)(b:Nat) :
 ((FC m (b:Nat)).1=true/\b<m.a/\m.e b=false/\m.b≠0/\(FC m (b:Nat)).2=GX (Is (tick m) b m.d) b 0) \/
 ((FC m (b:Nat)).1=false/\((FC m (b:Nat)).2=m/\(m.a<=b\/m.e b=true)\/(FC m (b:Nat)).2=tick m/\m.b=0\/(b<m.a/\m.e b=false/\((FC m (b:Nat)).2=Lc (tick m) b true/\0<=m.fail\/(∃k,(FC m (b:Nat)).2=GX (Is (tick m) b k) b m.d)/\(tick m).b=0)))):=by
 unfold FC;by_cases c:IE m (b:Nat)=false
 .rw[AD c];obtain⟨i,e1,g,f⟩:=Uw c;have j:i=b:=U
  subst j;simp only[Int.toNat_natCast];unfold Jc;rcases UA m.b m.fail with a|a|a|a
  .rw[AD a];refine .w ⟨I,g,f,?_,I⟩;intro e;unfold E7 at a;rw[AD e]at a;simp at a
  .rw[AC (by rw[a];decide),AD a];refine .s ⟨I,.s (.s ⟨g,f,.w ⟨I,?_⟩⟩)⟩;unfold E7 at a
   repeat' split at a
   all_goals simp at a
   all_goals omega
  .rw[AC (by rw[a];decide),AC (by rw[a];decide),AD a];refine .s ⟨I,.s (.s ⟨g,f,.s ⟨⟨_,I⟩,?_⟩⟩)⟩;unfold tick;show(E7 m.b m.fail).2.1=0;unfold E7 at a |-
   repeat' split at a
   all_goals simp at a
   rename_i e l;rw[AC e,AD l]
  rw[AC (by rw[a];decide),AC (by rw[a];decide),AC (by rw[a];decide)];refine .s ⟨I,.s (.w ⟨I,?_⟩)⟩;unfold E7 at a
  repeat' split at a
  all_goals simp at a
  all_goals assumption
 rw[AC c];refine .s ⟨I,.w ⟨I,?_⟩⟩;have d:IE m (b:Nat)=true:=EU c
 unfold IE hasB at d;simp at d;rcases d with h|h
 .exact .w U
 exact .s h
structure Ff (m0:M) (K:Nat->Bool) (xs:List Du) (m:M) (S:Nat->Bool) (ps:List (Nat×Nat)) (left:List Du):Prop where
 wf:WF m
 a:m.a=m0.a
 d:m.d=m0.d
 le:ps.length<=xs.length
 part:left=xs.drop ps.length
 f:∀(k i q:Nat),ps[k]?=some (i,q)->i<m.a/\q<m.d/\q<m.g i/\xs[k]?=some (m.c i q)/\S i=true
 Ue:∀i,S i=true->∃(k q:Nat),ps[k]?=some (i,q)
 nd:ps.Nodup
 e:∀(i q:Nat),i<m.a->q<m.d->(i,q)∈ps\/(∃x,x∈xs/\∃c:Nat,c<64/\m.c i q=x.take c)\/m.c i q=[]\/m.c i q=m0.c i q
 g:∀i,K i=true->m0.g i<=m.g i
 kept:∀i q,K i=true->q<m0.g i->m.c i q=m0.c i q
 b:∀i,m0.e i=true->m.e i=true
theorem Ff.start{m:M}(h:WF m)(K:Nat->Bool)(a:List Du):Ff m K a m (λ_=>false) [] a:=
 ⟨h,I,I,AW _,by simp,by simp,by simp,by simp,λi q _ _=>.s (.s (.s I)),λ_ _=>AB _,λ_ _ _ _=>rfl,λ_ h=>h⟩
theorem Ff.x{d:M}{K:Nat->Bool}{a:List Du}{m:M}{S:Nat->Bool}{b:List (Nat×Nat)}{x:Du}{l:List Du}(h:Ff d K a m S b (x::l)):a[b.length]?=some x/\l=a.drop (b.length+1)/\x∈a:=by
 have e:=h.part;have c:a[b.length]?=some x:=by have:=AX (λl:List Du=>l[0]?) e;simpa using this.A
 refine⟨c,?_,AY c⟩;have:=AX List.tail e;simpa using this
theorem Ff.new{e:M}{K:Nat->Bool}{f:List Du}{m:M}{S:Nat->Bool}{a:List (Nat×Nat)}{l:List Du}(h:Ff e K f m S a l)(b:Nat):(b,m.g b)∉a:=by intro d;obtain⟨k,c⟩:=List.getElem?_of_mem d;exact Dz ((h.f k b _ c).2.2.1)
theorem Ff.prog{u:M}{K:Nat->Bool}{n:List Du}{m:M}{S:Nat->Bool}{g:List (Nat×Nat)}{x:Du}{l:List Du}(h:Ff u K n m S g (x::l))(b p:Nat)(hr:(El m (b:Nat) (p:Nat) x).1=true):Ff u K n (El m (b:Nat) (p:Nat) x).2 (λj=>j==b||S j) (g++[(b,p)]) l:=by
 have v:=QC h.wf (b:Nat) (p:Nat) x;rcases Qv m b p x h.wf with⟨_,V,W,hp,s,hx,hl,e⟩|⟨B,_⟩
 .rw[e]at v |-;obtain⟨w,P,ag⟩:=h.x;have ac:g.length<n.length:=(AN.1 w).1;have r:=h.new b;rw[<-hp]at r;refine⟨v,h.a,h.d,by simp;omega,by simp[P],?_,?_,?_,?_,?_,?_,h.b⟩
  .intro k i q d;rw[List.getElem?_append]at d;split at d
   .rename_i af;obtain⟨C,D,F,G,H⟩:=h.f k i q d;have L:¬(i=b/\q=p):=λA=>r (by rw[<-A.1,<-A.2];exact AY d);refine⟨C,D,?_,?_,by simp[H]⟩
    .show q<if i=b then p+1 else m.g i;by_cases e:i=b
     .subst e;rw[AD I];omega
     rw[AC e];exact F
    show n[k]?=some (if i=b/\q=p then x else m.c i q);rw[AC L];exact G
   rename_i ah;have Q:k-g.length=0:=by
    rcases Nat.eq_zero_or_pos (k-g.length)with y|y
    .exact y
    rw[Ay EL]at d;cases d
   rw[Q]at d;simp at d;obtain⟨rfl,rfl⟩:=d;have N:k=g.length:=U;refine⟨V,s,?_,?_,by simp⟩
   .show p<if b=b then p+1 else m.g b;rw[AD I];omega
   show n[k]?=some (if b=b/\p=p then x else m.c b p);rw[AD ⟨I,I⟩,N];exact w
  .intro i f;simp only[Ce,Cu]at f;rcases f with rfl|f
   .exact⟨g.length,p,by simp⟩
   obtain⟨k,q,d⟩:=h.Ue i f;exact⟨k,q,by rw[BG (AN.1 d).1];exact d⟩
  .rw[CI];refine⟨h.nd,by simp,λa T c z=>?_⟩;simp at z;subst z;rintro rfl;exact r T
  .intro i q f t;by_cases e:i=b/\q=p
   .left;rw[e.1,e.2];simp
   have:(GX (G8 (tick m) b p x) b (p+1)).c i q=m.c i q:=AC e;rw[this];rcases h.e i q f t with o|o
   .exact .w (List.mem_append_left _ o)
   exact .s o
  .intro i f;have:=h.g i f;show u.g i<=if i=b then p+1 else m.g i;by_cases e:i=b
   .subst e;rw[AD I];omega
   rw[AC e];exact this
  intro i q f t;have o:=h.g i f;have R:=h.kept i q f t;show(if i=b/\q=p then x else m.c i q)=_;rw[AC (by rintro⟨rfl,rfl⟩;omega)];exact R
 rw[hr]at B;cases B
theorem Ff.X9{r:M}{K:Nat->Bool}{w:List Du}{m:M}{S:Nat->Bool}{s:List (Nat×Nat)}{x:Du}{l:List Du}(h:Ff r K w m S s (x::l))(b p:Nat)(Q:(El m (b:Nat) (p:Nat) x).1=false):Ff r K w (El m (b:Nat) (p:Nat) x).2 S s (x::l):=by
 have f:=QC h.wf (b:Nat) (p:Nat) x;obtain⟨_,_,N⟩:=h.x;have key:∀(d:M),WF d->d.a=m.a->d.d=m.d->p=m.g b->(∀i q,d.c i q=if i=b/\q=p then(d.c b p)else m.c i q)->(∃c,c<64/\d.c b p=x.take c)->(∀i,d.g i=if i=b then p+1 else m.g i)->(∀i,m.e i=true->d.e i=true)->Ff r K w d S s (x::l):=by
  intro d R t u n v T B V;have y:=h.new b;rw[<-n]at y;refine⟨R,t.i h.a,u.i h.d,h.le,h.part,?_,h.Ue,h.nd,?_,?_,?_,λi a=>V i (h.b i a)⟩
  .intro k i q z;obtain⟨C,D,F,G,H⟩:=h.f k i q z;have L:¬(i=b/\q=p):=λj=>y (by rw[<-j.1,<-j.2];exact AY z);refine⟨by rw[t];exact C,by rw[u];exact D,?_,by rw[v,AC L];exact G,H⟩;rw[B];by_cases e:i=b
   .subst e;rw[AD I];omega
   rw[AC e];exact F
  .intro i q a o;rw[t]at a;rw[u]at o;by_cases e:i=b/\q=p
   .obtain⟨rfl,rfl⟩:=e;obtain⟨c,g,j⟩:=T;exact .s (.w ⟨x,N,c,g,j⟩)
   rw[v,AC e];exact h.e i q a o
  .intro i a;have:=h.g i a;rw[B];by_cases e:i=b
   .subst e;rw[AD I];omega
   rw[AC e];exact this
  intro i q a o;have W:=h.g i a;have P:=h.kept i q a o;rw[v,AC (by rintro⟨rfl,rfl⟩;omega)];exact P
 rcases Qv m b p x h.wf with⟨A,_⟩|⟨_,e|⟨e,_⟩|⟨_,_,n,_,_,c,g,⟨e,_⟩|⟨e,_⟩⟩⟩
 .rw[Q]at A;cases A
 .rw[e];exact h
 .rw[e]at f |-;exact⟨f,h.a,h.d,h.le,h.part,h.f,h.Ue,h.nd,h.e,h.g,h.kept,h.b⟩
 .rw[e]at f |-;refine key _ f I I n (λi q=>?_) ⟨c,g,AD ⟨I,I⟩⟩ (λi=>rfl) (λi a=>a);show(if i=b/\q=p then x.take c else m.c i q)=if i=b/\q=p then(if b=b/\p=p then x.take c else m.c b p)else m.c i q;rw[AD (⟨I,I⟩:b=b/\p=p)]
 rw[e]at f |-;refine key _ f I I n (λi q=>?_) ⟨c,g,AD ⟨I,I⟩⟩ (λi=>rfl) (λi a=>?_)
 .show(if i=b/\q=p then x.take c else m.c i q)=if i=b/\q=p then(if b=b/\p=p then x.take c else m.c b p)else m.c i q;rw[AD (⟨I,I⟩:b=b/\p=p)]
 show(if i=b then true else m.e i)=true;by_cases e:i=b
 .rw[AD e]
 rw[AC e];exact a
theorem Ff.era{s:M}{K:Nat->Bool}{v:List Du}{m:M}{S:Nat->Bool}{n:List (Nat×Nat)}{l:List Du}(h:Ff s K v m S n l)(b:Nat)(H:K b=false)(L:S b=false\/m.e b=true):Ff s K v (FC m (b:Nat)).2 S n l:=by
 have f:=Ve h.wf (b:Nat);have key:∀(c:M),WF c->c.a=m.a->c.d=m.d->S b=false->(∀i q,c.c i q=m.c i q\/(i=b/\c.c i q=[]))->(∀i,i≠b->c.g i=m.g i)->(∀i,m.e i=true->c.e i=true)->Ff s K v c S n l:=by
  intro c P t u N z A Q;have x:∀{k i q:Nat},n[k]?=some (i,q)->i≠b:=λ{k i q} g r=>by have:=(h.f k i q g).2.2.2.2;rw[r,N]at this;cases this
  have w:∀{i:Nat},K i=true->i≠b:=λ{i} g r=>by rw[r,H]at g;cases g
  have y:∀{i q:Nat},i≠b->c.c i q=m.c i q:=λ{i q} a=>by
   rcases z i q with e|e
   .exact e
   exact absurd e.1 a
  refine⟨P,t.i h.a,u.i h.d,h.le,h.part,?_,h.Ue,h.nd,?_,?_,?_,λi a=>Q i (h.b i a)⟩
  .intro k i q g;obtain⟨B,C,D,F,G⟩:=h.f k i q g;refine⟨by rw[t];exact B,by rw[u];exact C,by rw[A i (x g)];exact D,by rw[y (x g)];exact F,G⟩
  .intro i q a j;rw[t]at a;rw[u]at j;rcases z i q with e|e
   .rw[e];exact h.e i q a j
   exact .s (.s (.w e.2))
  .intro i a;rw[A i (w a)];exact h.g i a
  intro i q a j;rw[y (w a)];exact h.kept i q a j
 have o:m.e b=false->S b=false:=λp=>L.resolve_right (by rw[p];decide);rcases UC m b with⟨_,p,d,_,e⟩|⟨_,⟨e,_⟩|⟨e,_⟩|⟨p,d,⟨e,_⟩|⟨⟨k,e⟩,_⟩⟩⟩
 .rw[e]at f |-;refine key _ f I I (o d) (λi q=>?_) (λi a=>AC a) (λi a=>a);show(if i=b/\q<m.d then[]else m.c i q)=m.c i q\/(i=b/\(if i=b/\q<m.d then[]else m.c i q)=[]);by_cases e:i=b/\q<m.d
  .rw[AD e];exact .s ⟨e.1,I⟩
  rw[AC e];exact .w I
 .rw[e];exact h
 .rw[e]at f |-;exact⟨f,h.a,h.d,h.le,h.part,h.f,h.Ue,h.nd,h.e,h.g,h.kept,h.b⟩
 .rw[e]at f |-;refine key _ f I I (o d) (λi q=>.w I) (λi a=>rfl) (λi a=>?_);show(if i=b then true else m.e i)=true;by_cases e:i=b
  .rw[AD e]
  rw[AC e];exact a
 rw[e]at f |-;refine key _ f I I (o d) (λi q=>?_) (λi a=>AC a) (λi a=>a);show(if i=b/\q<k then[]else m.c i q)=m.c i q\/(i=b/\(if i=b/\q<k then[]else m.c i q)=[]);by_cases e:i=b/\q<k
 .rw[AD e];exact .s ⟨e.1,I⟩
 rw[AC e];exact .w I
variable {m m0:M} {K:Nat->Bool} {xs:List Du} {ps:List (Nat×Nat)} {b v:Nat}
structure LS where
 left:List Du
 m:M
 Q:Nat->Bool
 b:Nat
 p:Nat
 S:Nat->Bool
def LS.prog(s:LS):LS:=
 ⟨(EY s.b s.left s.m s.p s.S).1,(EY s.b s.left s.m s.p s.S).2.1,s.Q,s.b,(EY s.b s.left s.m s.p s.S).2.2.1,(EY s.b s.left s.m s.p s.S).2.2.2⟩
def LS.a(K:Nat->Bool)(s:LS):LS:=⟨s.left,(E5 s.m K s.Q s.b).2.1,(E5 s.m K s.Q s.b).2.2.1,(s.b+1)%s.m.a,(E5 s.m K s.Q s.b).2.2.2,s.S⟩
def FB(K:Nat->Bool)(s:LS):LS:=if(E5 s.m K s.Q s.b).1 then(s.a K).prog else s.a K
def F8(K:Nat->Bool):Nat->LS->LS
 | 0,s=>s
 | k+1,s=>if s.left=[]\/s.m.b=0 then s else F8 K k (FB K s)
def Gy(s:LS):LS:=if s.left.length+s.p<=s.m.d then s.prog else s
def F4(K:Nat->Bool)(s:LS):LS:=F8 K s.m.a (Gy s)
theorem Yg(K:Nat->Bool){s:LS}(h:s.left=[]\/s.m.b=0):∀k,F8 K k s=s
 |0=>rfl
 |k+1=>by rw[F8,AD h]
theorem Ow(b:Nat):∀(l:List Du) (m:M) (p:Nat) (S:Nat->Bool),(EY b l m p S).2.1.a=m.a/\(EY b l m p S).2.1.d=m.d/\(EY b l m p S).1.length<=l.length/\(p<=m.d->(EY b l m p S).2.2.1<=m.d)
 | [],m,p,S=>⟨I,I,AB _,λh=>h⟩
 | x::xs,m,p,S=>by
   rw[EY]
   split
   .rename_i f
    split
    .obtain⟨a,c,e,d⟩:=Ow b xs (El m (b:Nat) (p:Nat) x).2 (p+1) (λj=>j==b||S j);rw[YQ]at a;rw[Wz]at c d;exact⟨a,c,by simp;omega,λ_=>d U⟩
    exact⟨YQ _ _ _ _,Wz _ _ _ _,AB _,λ_=>AB _⟩
   exact⟨I,I,AB _,λh=>h⟩
theorem Pa(b:Nat):∀(l:List Du) (m:M) (p:Nat) (S:Nat->Bool),WF m->WF (EY b l m p S).2.1
 | [],m,p,S,h=>h
 | x::xs,m,p,S,h=>by
   rw[EY]
   split
   .split
    .exact Pa b xs _ _ _ (QC h _ _ _)
    exact QC h _ _ _
   exact h
theorem R9(m:M)(K Q:Nat->Bool)(b:Nat):(E5 m K Q b).2.1.a=m.a/\(E5 m K Q b).2.1.d=m.d/\(E5 m K Q b).2.2.2<=m.d:=by
 unfold E5
 repeat' split
 all_goals simp[Xv,YF]
theorem Si(h:WF m)(K Q:Nat->Bool)(b:Nat):WF (E5 m K Q b).2.1:=by
 unfold E5
 repeat' split
 all_goals first|exact h|exact Ve h _
theorem Ff.EY{f:M}{K:Nat->Bool}{g:List Du}(b:Nat):∀(l:List Du) (m:M) (p:Nat) (S:Nat->Bool) (ps:List (Nat×Nat)),Ff f K g m S ps l ->
 ∃c,Ff f K g (EY b l m p S).2.1 (EY b l m p S).2.2.2 c (EY b l m p S).1/\(∀i,(EY b l m p S).2.2.2 i=true->i=b\/S i=true)
 | [],m,p,S,ps,h=>⟨ps,h,λi a=>.s a⟩
 | x::xs',m,p,S,ps,h=>by
   rw[Y.EY]
   split
   .split
    .rename_i d;obtain⟨c,j,k⟩:=Ff.EY b xs' _ (p+1) _ _ (h.prog b p d);refine⟨c,j,λi a=>?_⟩;rcases k i a with e|e
     .exact .w e
     simp only[Ce,Cu]at e;exact e
    rename_i d;exact⟨ps,h.X9 b p (EU d),λi a=>.s a⟩
   exact⟨ps,h,λi a=>.s a⟩
structure KL (m0:M) (K:Nat->Bool) (xs:List Du) (b0 v:Nat) (s:LS) (ps:List (Nat×Nat)):Prop where
 lay:Ff m0 K xs s.m s.S ps s.left
 b:s.b=(b0+v)%m0.a
 seen:∀i,s.S i=true->(∃u,1<=u/\u<=v/\i=(b0+u)%m0.a)\/(i=b0/\(s.left=[]\/s.m.b=0\/s.m.e b0=true))
 p:s.p<=m0.d
theorem tN{S:Nat->Bool}{l:List Du}(h:Ff m0 K xs m S ps l)(Q:Nat->Bool)(b:Nat)(c:S ((b+1)%m.a)=false\/m.e ((b+1)%m.a)=true):Ff m0 K xs (E5 m K Q b).2.1 S ps l:=by
 unfold E5;split
 .exact h
 rename_i a;split
 .exact h
 split
 .exact h.era _ (EU a) c
 exact h.era _ (EU a) c
theorem pU(i:Nat)(h:m.e i=true):(FC m (b:Nat)).2.e i=true:=by
 rcases UC m b with⟨_,_,_,_,e⟩|⟨_,⟨e,_⟩|⟨e,_⟩|⟨_,_,⟨e,_⟩|⟨⟨_,e⟩,_⟩⟩⟩;all_goals rw[e]
 .exact h
 .exact h
 .exact h
 .show(if i=b then true else m.e i)=true;by_cases e:i=b
  .rw[AD e]
  rw[AC e];exact h
 exact h
theorem Ty(K Q:Nat->Bool)(b i:Nat)(h:m.e i=true):(E5 m K Q b).2.1.e i=true:=by
 unfold E5
 repeat' split
 all_goals first|exact h|exact pU i h
theorem Vw(a:WF m){p:Nat}{x:Du}(i:Nat)(h:m.e i=true):(El m (b:Nat) (p:Nat) x).2.e i=true:=by
 rcases Qv m b p x a with⟨_,_,_,_,_,_,_,e⟩|⟨_,e|⟨e,_⟩|⟨_,_,_,_,_,c,_,⟨e,_⟩|⟨e,_⟩⟩⟩;all_goals rw[e]
 .exact h
 .exact h
 .exact h
 .exact h
 show(if i=b then true else m.e i)=true;by_cases e:i=b
 .rw[AD e]
 rw[AC e];exact h
theorem Rq(b i:Nat):∀(l:List Du) (m:M) (p:Nat) (S:Nat->Bool),WF m->m.e i=true->(EY b l m p S).2.1.e i=true
 | [],m,p,S,_,h=>h
 | x::xs,m,p,S,hw,h=>by
   rw[EY]
   split
   .split
    .exact Rq b i xs _ _ _ (QC hw _ _ _) (Vw hw i h)
    exact Vw hw i h
   exact h
theorem r8{a u n:Nat}(b:1<=u)(c:u<=v)(d:v+1<=n):(a+v+1)%n≠(a+u)%n:=by intro e;have h:=Nat.sub_mod_eq_zero_of_mod_eq e;rw[show a+v+1-(a+u)=v+1-u by omega,Bd U]at h;omega
theorem KL.round{c:Nat}{s:LS}(h:KL m0 K xs c v s ps)(t:c<m0.a)(x:v<m0.a)(o:s.left≠[])(m:s.m.b≠0):∃f,KL m0 K xs c (v+1) (FB K s) f:=by
 have r:=h.lay.a;have j:(s.b+1)%s.m.a=(c+(v+1))%m0.a:=by rw[r,h.b,Nat.add_mod,Nat.mod_mod,<-Nat.add_mod,DK]
 have q:s.S ((s.b+1)%s.m.a)=false\/s.m.e ((s.b+1)%s.m.a)=true:=by
  cases w:s.S ((s.b+1)%s.m.a)with
  |false=>exact .w I
  |true=>
   rcases h.seen _ w with⟨u,g,b,p⟩|⟨g,b⟩
   .rw[j]at p;exact absurd p (by rw[<-DK];exact r8 g b U)
   right;rw[g];rcases b with b|b|b
   .exact absurd b o
   .exact absurd b m
   exact b
 have l:=tN h.lay s.Q s.b q;obtain⟨k1,k2,k3⟩:=R9 s.m K s.Q s.b;unfold FB;split
 .obtain⟨f,g,b⟩:=Ff.EY ((s.b+1)%s.m.a) s.left (E5 s.m K s.Q s.b).2.1 (E5 s.m K s.Q s.b).2.2.2 s.S ps l;obtain⟨_,q2,_,q4⟩:=Ow ((s.b+1)%s.m.a) s.left (E5 s.m K s.Q s.b).2.1 (E5 s.m K s.Q s.b).2.2.2 s.S;refine⟨f,g,j,λi n=>?_,?_⟩
  .rcases b i n with e|e
   .exact .w ⟨v+1,by omega,AB _,e.i j⟩
   rcases h.seen i e with⟨u,d,a,k⟩|⟨d,a⟩
   .exact .w ⟨u,d,by omega,k⟩
   refine .s ⟨d,.s (.s ?_)⟩;have:s.m.e c=true:=by
    rcases a with a|a|a
    .exact absurd a o
    .exact absurd a m
    exact a
   exact Rq _ _ _ _ _ _ l.wf (Ty K s.Q s.b c this)
  show(Y.EY _ _ _ _ _).2.2.1<=m0.d;have:=q4 (by rw[k2];exact k3);rw[k2,h.lay.d]at this;exact this
 refine⟨ps,l,j,λi n=>?_,?_⟩
 .rcases h.seen i n with⟨u,d,a,k⟩|⟨d,a⟩
  .exact .w ⟨u,d,by omega,k⟩
  refine .s ⟨d,.s (.s ?_)⟩;have:s.m.e c=true:=by
   rcases a with a|a|a
   .exact absurd a o
   .exact absurd a m
   exact a
  exact Ty K s.Q s.b c this
 show(E5 s.m K s.Q s.b).2.2.2<=m0.d;rw[<-h.lay.d];exact k3
theorem KL.rounds{b:M}{K:Nat->Bool}{g:List Du}{d:Nat}(a:d<b.a):∀(k v:Nat) (s:LS) (ps:List (Nat×Nat)),KL b K g d v s ps->v+k<=b.a->∃v' c,v'<=b.a/\KL b K g d v' (F8 K k s) c
 |0,v,s,ps,h,j=>⟨v,ps,by omega,h⟩
 | k+1,v,s,ps,h,j=>by
   rw[F8]
   split
   .exact⟨v,ps,by omega,h⟩
   rename_i f;obtain⟨c,i⟩:=h.round a U (λe=>f (.w e)) (λe=>f (.s e));exact KL.rounds a k (v+1) _ _ i U
theorem ji(K:Nat->Bool)(s:LS):(FB K s).m.a=s.m.a/\(FB K s).m.d=s.m.d/\(FB K s).left.length<=s.left.length/\(FB K s).p<=s.m.d/\(FB K s).b=(s.b+1)%s.m.a:=by
 obtain⟨k1,k2,k3⟩:=R9 s.m K s.Q s.b;unfold FB;split
 .obtain⟨q1,q2,q3,q4⟩:=Ow ((s.b+1)%s.m.a) s.left (E5 s.m K s.Q s.b).2.1 (E5 s.m K s.Q s.b).2.2.2 s.S;exact⟨q1.i k1,q2.i k2,q3,by have:=q4 (by rw[k2];exact k3);rw[k2]at this;exact this,I⟩
 exact⟨k1,k2,AB _,k3,I⟩
theorem fc(s:LS):s.prog.m.a=s.m.a/\s.prog.m.d=s.m.d/\s.prog.left.length<=s.left.length/\(s.p<=s.m.d->s.prog.p<=s.m.d):=Ow s.b s.left s.m s.p s.S
theorem ZT(b:Nat):∀(l:List Du) (m:M) (p:Nat) (S:Nat->Bool),∀x∈(EY b l m p S).1,x∈l
 | [],m,p,S,x,h=>h
 | y::ys,m,p,S,x,h=>by
   rw[EY]at h
   split at h
   .split at h
    .exact By _ (ZT b ys _ _ _ x h)
    exact h
   exact h
def Ze(w:Z)(lo hi cb lb:Nat)(L:Loc)(lv:Lv)(kv qv:Option Nat)(nk nq:Nat)(K:Nat->Bool)(ib ni:Nat)(s t:LS)(e:Ending)(w':Z):Prop:=
 e=.a (.bool t.left.isEmpty)/\FA w' lo hi cb lb L lv kv qv nk nq t.m K t.Q t.b t.p/\FI w' ib (ni+40*s.left.length) t.S/\Fm (λk=>FY lo hi lb kv qv k\/k=ib) w w'
theorem Ub(w:Z)(f d j lb:Nat)(L:Loc)(lv:Lv)(p q:Option Nat)(F nq:Nat)(K:Nat->Bool)(s:LS)(m G g o c:Nat) (h:FA w f d j lb L lv p q F nq s.m K s.Q s.b s.p) (hb:s.b<1000) (hp:s.p<=s.m.d) (hS:FI w m G s.S) (hni:G+40*s.left.length<=900000) (ha:Aside f d lb p q m g) (ht:JC w g o s.left) (S:∀x∈s.left,x.length<=64) (hlc:s.left.length<=c) (hc:c<=20000):Calls prog 128 #[.c lb,.slice (some (O g o)) s.left.length c,.e m] w λe w'=>Ze w f d j lb L lv p q F nq K m G s (F4 K s) e w':=by
 have au:=h.wf.b;have ax:=h.wf.a;have aM:=h.wf.d;have b3:=J (λ(V:Z) (T:M) (H:CP V f d j L T)=>GH V f d j L T H);have b8:=J (λ(V:Z) (T:M) (H:CP V f d j L T)=>GC V f d j L T H);have bi:=J (λ(V:Z) (T:M) (H:CP V f d j L T)=>Er V f d j L T H);have bm:=J (λ(V:Z) (b:LS) (H:FA V f d j lb L lv p q F nq b.m K b.Q b.b b.p) (hb':b.b<1000000)=>xe V f d j lb L lv p q F nq b.m K b.Q b.b b.p H hb');have aR:=J (λ(V:Z) (b:LS) (a C u:Nat) (H:FA V f d j lb L lv p q F nq b.m K b.Q b.b b.p) (h1:b.b<1000000) (h2:b.p<1000000) (h3:FI V m a b.S) (h4:a+b.left.length<=1000000) (h5:JC V g C b.left) (h6:∀x∈b.left,x.length<=64) (h7:b.left.length<=u) (h8:u<=1000000)=>pD V f d j lb L lv p q F nq b.m K b.Q b.b b.p m a g C u b.S b.left H h1 h2 h3 h4 ha h5 h6 h7 h8);obtain⟨n,hn⟩:=E s.left.length;obtain⟨l,ai⟩:=E s.m.a;obtain⟨np,R⟩:=E s.m.d;have A0:=J (b3 w.drew s.m h.j.drew);unfold Ze;rw[<-hn]at hni hlc |-;rw[<-R]at hp au A0;rw[<-ai]at ax aM;have c0:=h.h.c0;have c5:=h.h.j;have H0:=J h;have aW:=J hS;have aT:=J ht;have aa:=J S;have P:=J hn;change Hid _ at ai R;obtain⟨p0,aJ⟩:=E s.p;rw[<-aJ]at hp c5;have am:=J aJ;clear h hS ht S hn aJ;have bn:=zW (x:=((np:Int)-(p0:Int)));by_cases ar:n+p0<=np;focus
  have b9:(n:Int)<=(np:Int)-(p0:Int):=U;have aH:Hid (F4 K s=F8 K l s.prog):=J (by unfold F4 Gy;rw[AD (by rw[<-P.o,<-am.o,<-R.o];exact ar),<-ai]);obtain⟨j1,j2,j3,j4⟩:=fc s;have af:=J (j1.i ai.o.A);have ag:=J (j2.i R.o.A);have ay:s.prog.left.length<=n:=by rw[P.o];exact j3
  have aC:s.prog.p<=16:=by have:=j4 (by rw[<-am.o,<-R.o];exact hp);rw[<-R.o]at this;omega
  have aA:s.prog.b<1000:=hb;have B4:=J (aR w.drew s G o c H0.o.drew U (by rw[<-am.o];omega) (aW.o.y I) (by rw[<-P.o];omega) (aT.o.y I) aa (by rw[<-P.o];omega) U);rw[<-P.o]at B4
 rotate_left
 focus
  have b9:¬(n:Int)<=(np:Int)-(p0:Int):=U;have aZ:(np:Int)-(p0:Int)<(n:Int):=U;have aH:Hid (F4 K s=F8 K l s):=J (by unfold F4 Gy;rw[AC (by rw[<-P.o,<-am.o,<-R.o];exact ar),<-ai]);have an:Hid (FA w.drew f d j lb L lv p q F nq s.m K s.Q s.b s.p):=J H0.o.drew;have ad:Hid (FI w.drew m G s.S):=J (aW.o.y I);have av:=J (aT.o.y I);have ao:Hid (Fm (λk=>FY f d lb p q k\/k=m) w w.drew):=J (Fm.refl _ w).drew;have af:=J ai.o.A;have ag:=J R.o.A;have be:s.p<=16:=by rw[<-am.o];omega
 rotate_left
 all_goals
  go_enter func128,ntmps128;go_wp2_with fail;have aU:=c0;have aX:=c5;refine BL (S:=λV=>V.g lb 0 (.c j)/\V.g lb 7 (.a p0)) EG ⟨aU,aX⟩ (λhHeld=>?_);refine Ef 0 I hHeld ?_;refine Ef 1 I hHeld ?_;refine Ef 2 I hHeld ?_;refine Ef 3 I hHeld ?_;refine Ef 4 I hHeld ?_;refine Ef 5 I hHeld ?_;refine Ef 7 I hHeld ?_;refine Ef 8 I hHeld ?_;refine Ef 9 I hHeld ?_;refine Ef 10 I hHeld ?_;refine rd 6 I (λK hK=>?_);go_simp;refine Jj A0.o ?_;refine hK _ _ ⟨aU,aX⟩ (λhHeld=>?_);clear hK K;refine Ef 11 I hHeld ?_
 focus
  refine Ef 12 I hHeld ?_;refine B8 EG ?_ _;go_wp2_with fail;refine B4.o.l ?_;rintro e W3 ⟨o3,c3,rfl,ac,aL,aB,az,aI,aK⟩;have aG:Hid ((EY s.b s.left s.m s.p s.S).1.length=s.prog.left.length):=J I;rw[aG.o]at ac |-;change Hid _ at aB az;have ad:Hid (FI W3 m (G+n) s.prog.S):=J (by rw[P.o];exact aI);have ao:=J ((Fm.refl _ w).drew.i aK);have a2:Hid (∀x∈s.prog.left,x.length<=64):=J (λx hx=>aa x (ZT _ _ _ _ _ x hx));obtain⟨n3,W⟩:=E s.prog.left.length;rw[<-W]at ay ac |-;change Hid _ at W;go_wp2_with fail;go_loopw [1,7] (λv i wr=>∃(k:Nat) (t:LS) (a C u B:Nat),k<=l/\i=.a k/\v=.slice (some (O g C)) a u/\a<=u/\u<=20000/\a<=n/\B+0<=G+(k+1)*n/\t.b<1000/\t.p<=16/\Hid (a=t.left.length)/\Hid (t.m.a=l)/\Hid (t.m.d=np)/\Hid (∀x∈t.left,x.length<=64)/\Hid (F4 K s=F8 K (l-k) t)/\Hid (FA wr f d j lb L lv p q F nq t.m K t.Q t.b t.p)/\Hid (FI wr m B t.S)/\Hid (JC wr g C t.left)/\Hid (Fm (λk=>FY f d lb p q k\/k=m) w wr)) (λ_ i _=>l-(intOf i).toNat)
  .exact⟨0,s.prog,n3,o3,c3,G+n,AW _,I,I,ac,by omega,ay,by omega,aA,aC,W,af,ag,a2,J (by rw[DC];exact aH),az,ad,aB,ao⟩
 rotate_left
 focus
  refine Ef 12 I hHeld ?_;refine B8 EG ?_ _;go_wp2_with fail;go_loopw [1,7] (λv i wr=>∃(k:Nat) (t:LS) (a C u B:Nat),k<=l/\i=.a k/\v=.slice (some (O g C)) a u/\a<=u/\u<=20000/\a<=n/\B+0<=G+(k+1)*n/\t.b<1000/\t.p<=16/\Hid (a=t.left.length)/\Hid (t.m.a=l)/\Hid (t.m.d=np)/\Hid (∀x∈t.left,x.length<=64)/\Hid (F4 K s=F8 K (l-k) t)/\Hid (FA wr f d j lb L lv p q F nq t.m K t.Q t.b t.p)/\Hid (FI wr m B t.S)/\Hid (JC wr g C t.left)/\Hid (Fm (λk=>FY f d lb p q k\/k=m) w wr)) (λ_ i _=>l-(intOf i).toNat)
  .exact⟨0,s,n,o,c,G,AW _,I,I,hlc,hc,AB _,by omega,hb,be,P,af,ag,aa,J (by rw[DC];exact aH),an,ad,av,ao⟩
 rotate_left
 all_goals
  obtain⟨k,t,a,C,u,B,_,rfl,rfl,bf,bj,bh,_,_,_,Q,a6,ae,a5,HE,N,ah,aP,aw⟩:=hrel;have bq:(k+1)*n<=33*n:=Bt _ U;have d0:=N.o.h.c0;have B1:=J (b8 wr t.m N.o.j);rw[a6.o]at B1;have B2:=J (bi wr t.m N.o.j);by_cases bu:k<l
  .have b7:(k:Int)<(l:Int):=U;cases A:t.left with
   |nil=>
    have b5:a=0:=by rw[Q.o,A];rfl
    subst b5;have z:Hid (F4 K s=t):=J (by rw[HE.o];exact Yg K (.w A) _);have aj:Hid ((F4 K s).left.isEmpty=true):=J (by rw[z.o,A];rfl);go_wp2_with (first|(go_at_call 76;refine Jj B1.o ?_)|fail);go_ret;exact⟨by rw[aj.o];rfl,by rw[z.o];exact N,by rw[z.o];exact ah.o.l U,aw⟩
   |cons x0 xs0=>
    have bs:0<a:=by rw[Q.o,A];simp
    have b4:(0:Int)<(a:Int):=U;have aN:Hid (t.left≠[]):=J (by rw[A];simp);have aj:Hid (t.left.isEmpty=false):=J (by rw[A];rfl);by_cases hd:t.m.b=0
    .have Ms:=Cu.2 hd;rw[Ms]at B2;have z:Hid (F4 K s=t):=J (by rw[HE.o];exact Yg K (.s hd) _);go_wp2_with (first|(go_at_call 76;refine Jj B1.o ?_)|(go_at_call 25;refine Jj B2.o ?_)|fail);go_ret;have br:((a:Int)==0)=false:=EL;refine⟨?_,by rw[z.o];exact N,by rw[z.o];exact ah.o.l U,aw⟩;rw[z.o,aj.o];first|rfl|(simp;omega)
    have Ms:=BN.2 hd;rw[Ms]at B2;have aO:Hid (F4 K s=F8 K (l-(k+1)) (FB K t)):=J (by
     rw[HE.o,show l-k=l-(k+1)+1 by omega,F8,AC];rintro(h|h)
     .exact aN h
     exact hd h)
    have B3:=J (bm wr t N U);obtain⟨j1,j2,j3,j4,j5⟩:=ji K t;have af:=J (j1.i a6);have ag:=J (j2.i ae);have ay:(FB K t).left.length<=a:=by rw[Q.o];exact j3
    have aC:(FB K t).p<=16:=Dz ae.o;have aA:(FB K t).b<1000:=by rw[j5,a6.o];exact Dz (BU (t.b+1) (show 0<l by omega))
    go_wp2_with (first|(go_at_call 76;refine Jj B1.o ?_)|(go_at_call 25;refine Jj B2.o ?_)|fail);refine B3.o.l ?_;rintro e W2 ⟨rfl,aF,aD⟩;have Mc:=ha.Mc;have bg:=ha.a;have aQ:=J (ah.o.y (aD.u m ah.o.lt Mc));have bc:g<wr.s\/t.left=[]:=by
     cases ht9:t.left with
     |nil=>exact .s I
     |cons y ys=>exact .w (Am wr _ (aP 0 y (by rw[ht9];rfl)))
    have aS:=J (aP.o.y (aD.u g (bc.resolve_right aN) bg));have aV:=J (aw.o.i (aD.l λk _ h=>.w h));change Hid _ at aF;obtain⟨r,hr⟩:=E ((E5 t.m K t.Q t.b).1);rw[<-hr];change Hid _ at hr;cases r with
    |true=>
     have D:Hid (FB K t=(t.a K).prog):=J (by unfold FB;rw[<-hr.o,AD I]);have bl:(t.a K).b<1000000:=by show(t.b+1)%t.m.a<_;rw[a6.o];exact Dz (BU (t.b+1) (show 0<l by omega))
     have b6:(t.a K).p<1000000:=by have:=(R9 t.m K t.Q t.b).2.2;have h9:=ae.o;show(E5 t.m K t.Q t.b).2.2.2<_;omega
     have B4:=J (aR W2 (t.a K) B C u aF bl b6 aQ (by show B+t.left.length<=_;rw[<-Q.o];omega) aS a5 (by show t.left.length<=_;rw[<-Q.o];omega) U);have aY:(t.a K).left.length=a:=Q.o.A;rw[aY]at B4;go_wp2_with fail;refine B4.o.l ?_;rintro e W3 ⟨o3,c3,rfl,ac,aL,aB,az,aI,aK⟩;have aG:Hid ((EY (t.a K).b (t.a K).left (t.a K).m (t.a K).p (t.a K).S).1.length=(FB K t).left.length):=J (by rw[D.o];rfl);rw[aG.o]at ac |-;have av:Hid (JC W3 g o3 (FB K t).left):=J (by rw[D.o];exact aB);have an:Hid (FA W3 f d j lb L lv p q F nq (FB K t).m K (FB K t).Q (FB K t).b (FB K t).p):=J (by rw[D.o];exact az);have ad:Hid (FI W3 m (B+a) (FB K t).S):=J (by rw[D.o,<-aY];exact aI);have ao:=J (aV.o.i aK);have a2:Hid (∀x∈(FB K t).left,x.length<=64):=J (by rw[D.o];exact λx hx=>a5 x (ZT _ _ _ _ _ x hx));obtain⟨n3,W⟩:=E ((FB K t).left.length);rw[<-W]at ay ac |-;change Hid _ at W;go_wp2_with fail;go_roundw
     .exact⟨k+1,FB K t,n3,o3,c3,B+a,by omega,by go_num,I,ac,by omega,by omega,by rw[Nat.succ_mul (k+1)];omega,aA,aC,W,af,ag,a2,aO,an,ad,av,ao⟩
     .simp[intOf];omega
    |false=>
     have D:Hid (FB K t=t.a K):=J (by unfold FB;rw[<-hr.o];rfl);have av:Hid (JC W2 g C (FB K t).left):=J (by rw[D.o];exact aS);have an:Hid (FA W2 f d j lb L lv p q F nq (FB K t).m K (FB K t).Q (FB K t).b (FB K t).p):=J (by rw[D.o];exact aF);have ad:Hid (FI W2 m B (FB K t).S):=J (by rw[D.o];exact aQ);have b0:Hid (a=(FB K t).left.length):=J (by rw[D.o];exact Q);have a2:Hid (∀x∈(FB K t).left,x.length<=64):=J (by rw[D.o];exact a5);go_wp2_with fail;go_roundw
     .exact⟨k+1,FB K t,a,C,u,B,by omega,by go_num,I,bf,bj,bh,by rw[Nat.succ_mul (k+1)];omega,aA,aC,b0,af,ag,a2,aO,an,ad,av,aV⟩
     .simp[intOf];omega
  have aE:k=l:=U;subst aE;have z:Hid (F4 K s=t):=J (by rw[HE.o,Ds];rfl);have aj:Hid ((F4 K s).left.isEmpty=decide (a=0)):=J (by rw[z.o,Q.o];cases t.left<;>simp)
  by_cases hz:a=0
  .subst hz;go_wp2_with (first|(go_at_call 76;refine Jj B1.o ?_)|fail);go_ret;exact⟨by rw[aj.o];rfl,by rw[z.o];exact N,by rw[z.o];exact ah.o.l U,aw⟩
  have bx:¬(a:Int)=0:=U;go_wp2_with (first|(go_at_call 76;refine Jj B1.o ?_)|fail);go_ret;refine⟨?_,by rw[z.o];exact N,by rw[z.o];exact ah.o.l U,aw⟩;rw[aj.o,BZ hz];first|rfl|(simp;omega)
end Y
namespace Y
open Go.RowKit Pk
open Go.Nt (Fp)
theorem laidOut:laidOutB prog=true:=EG
theorem TK:(189:TypeId)<prog.types.size:=Ca EG
theorem Pr:(90:TypeId)<prog.types.size:=Ca EG
theorem tF:(match prog.underlying 189 with | some (.array _ _) | some (.struct _)=>true | _=>false)=true:=EG
theorem S8:(match prog.underlying 90 with | some (.array _ _) | some (.struct _)=>true | _=>false)=true:=EG
theorem KX:Maps.Keyed prog 189:=Maps.Keyed.of_law (deep_law_laid laidOut (m:=4) U TK EG tF)
theorem Jb:Maps.Keyed prog 90:=Maps.Keyed.of_law (deep_law_laid laidOut (m:=4) U Pr EG S8)
def pk(b n a:Nat):Lit:=.string (keyBytes [.int .i64 b,.int .u32 n,.int .i64 a])
def pv(b n a:Nat):Value:=.agg #[.a b,.d n,.a a]
def lk(b n:Nat):Lit:=.string (keyBytes [.int .i64 b,.int .u32 n])
def lv(b n:Nat):Value:=.agg #[.a b,.d n]
theorem tf:prog.keyType 189=true:=EG
theorem zN:prog.keyType 90=true:=EG
theorem iO:prog.cellsOf 189=3:=EG
theorem YO:prog.cellsOf 90=2:=EG
theorem jR:prog.cellsOf 88=1:=EG
theorem cells3:prog.cellsOf 3=1:=EG
theorem LR{b n:Nat}(f:b<=1000000)(g:n<=4294967295):keyOf prog 90 (lv b n)=some (lk b n):=by
 have a:(Lit.int .i64 b).wf=true:=by simp[Lit.wf,IntKind.min,IntKind.max,IntKind.signed,IntKind.bits];omega
 have c:(Lit.int .u32 n).wf=true:=by simp[Lit.wf,IntKind.min,IntKind.max,IntKind.signed,IntKind.bits];omega
 obtain⟨d,e⟩:∃d,prog.types.size+1=d+3:=⟨prog.types.size-2,by have h:(90:Nat)<prog.types.size:=Pr;omega⟩;unfold keyOf lv lk;rw[underlying90,e];simp only[zN,Value.formed,underlying90,YO,Value.cells];simp[Program.keyLits,underlying90,underlying88,underlying3,YO,jR,cells3,a,c]
theorem LC{b n a:Nat}(k:b<=1000000)(l:n<=4294967295)(j:a<=1000000):keyOf prog 189 (pv b n a)=some (pk b n a):=by
 have c:(Lit.int .i64 b).wf=true:=by simp[Lit.wf,IntKind.min,IntKind.max,IntKind.signed,IntKind.bits];omega
 have e:(Lit.int .u32 n).wf=true:=by simp[Lit.wf,IntKind.min,IntKind.max,IntKind.signed,IntKind.bits];omega
 have f:(Lit.int .i64 a).wf=true:=by simp[Lit.wf,IntKind.min,IntKind.max,IntKind.signed,IntKind.bits];omega
 obtain⟨d,g⟩:∃d,prog.types.size+1=d+3:=⟨prog.types.size-2,by have h:(90:Nat)<prog.types.size:=Pr;omega⟩;unfold keyOf pv pk;rw[underlying189,g];simp only[tf,Value.formed,underlying189,iO,Value.cells];simp[Program.keyLits,underlying189,underlying90,underlying88,underlying3,iO,YO,jR,cells3,c,e,f];rw[AD]
 .rfl
 intro i _;have:i=0\/i=1:=U;rcases this with rfl|rfl<;>simp
theorem iW{b n a b' n' c:Nat}(j:b<=1000000)(k:n<=4294967295)(i:a<=1000000)(f:b'<=1000000)(g:n'<=4294967295)(d:c<=1000000)(h:pk b n a=pk b' n' c):b=b'/\n=n'/\a=c:=by have e:=KX.inj (LC j k i) (by rw[h];exact LC f g d);unfold pv at e;simp at e;omega
theorem Tn{b n b' n':Nat}(d:b<=1000000)(f:n<=4294967295)(a:b'<=1000000)(c:n'<=4294967295)(h:lk b n=lk b' n'):b=b'/\n=n':=by have e:=Jb.inj (LR d f) (by rw[h];exact LR a c);unfold lv at e;simp at e;omega
def fv(f:Fp):Value:=.agg #[.a f.b,.d f.num,.a f.at_,.a f.c,.string (X f.a),.a f.d]
def NS:Value->Option (DataW Fp×List MemPlace)
 | .agg cs=>match cs.toList with
   | [.a b,.d r,.a a,.a o,.string t,.a k]=>if 0<=b/\0<=r/\0<=a/\0<=o/\0<=k then some (.held ⟨b.toNat,r.toNat,a.toNat,o.toNat,t.data.toList,k.toNat⟩,[])else none
   | _=>none
 | _=>none
theorem Z2(f:Fp):NS (fv f)=some (.held f,[]):=by unfold NS fv;simp;rfl
theorem XO{v:Value}{f:Fp}{n:List MemPlace}(h:NS v=some (.held f,n)):v=fv f:=by
 unfold NS at h;split at h
 .rename_i c;split at h
  .rename_i b r a o t k l;split at h
   .rename_i m;simp at h;obtain⟨rfl,_⟩:=h;have:c=#[.a b,.d r,.a a,.a o,.string t,.a k]:=Array.toList_inj.1 l;rw[this];unfold fv;obtain⟨d,e,g,i,j⟩:=m;simp[CH d,CH e,CH g,CH i,CH j];rfl
   cases h
  cases h
 cases h
def SK:Fp:=⟨0,0,0,0,[],0⟩
theorem iK(w:Z):(zeroValue 187).run prog w=.ok (fv SK) w:=EG
def KO(w:Z)(g:Nat)(n:Nat)(P:Nat->Nat->Nat->Option Fp):Prop:=
 ∃D:DataW Fp,w.ownsMap prog 189 NS g n D/\(∀b r a,b<=1000000->r<=4294967295->a<=1000000->Maps.has D (pk b r a)=(P b r a).isSome/\∀f,P b r a=some f->∀z,D.atKey (pk b r a) z=.held f)/\(∀kl,Maps.has D kl=true->∃b r a,b<=1000000/\r<=4294967295/\a<=1000000/\kl=pk b r a)
section
variable {w w':Z} {g n:Nat} {P:Nat->Nat->Nat->Option Fp}
theorem KO.lt(h:KO w g n P):g<w.heap.size:=by obtain⟨_,h,_⟩:=h;exact h.lt
theorem KO.y(h:KO w g n P)(e:w'.heap[g]?=w.heap[g]?):KO w' g n P:=by obtain⟨D,⟨b,a,c,d⟩,f⟩:=h;exact⟨D,⟨b,a,e.i c,d⟩,f⟩
theorem KO.l{n':Nat}(h:KO w g n P)(c:n<=n'):KO w g n' P:=by obtain⟨D,a,b⟩:=h;exact⟨D,a.l c,b⟩
theorem KO.congr{c:Nat->Nat->Nat->Option Fp}(h:KO w g n P)(e:∀b r a,P b r a=c b r a):KO w g n c:=by have:P=c:=funext λb=>funext λr=>funext λa=>e b r a;rw[<-this];exact h
theorem yh(w:Z):KO (w.alloc (.map #[] 0)) w.heap.size 0 (λ_ _ _=>none):=⟨.map [],DJ w _ _ _,λb _ a _ _ _=>⟨I,λf c=>by cases c⟩,λ_ h=>by simp[Maps.has]at h⟩
theorem KO.look(h:KO w g n P){b r a:Nat}(k:b<=1000000)(m:r<=4294967295)(j:a<=1000000):(Instr.lookup 135 (.e g) (pv b r a) true).run prog w=.ok (.tuple #[fv ((P b r a).getD SK),.bool (P b r a).isSome]) w/\(Instr.lookup 135 (.e g) (pv b r a) false).run prog w=.ok (fv ((P b r a).getD SK)) w:=by
 obtain⟨_,o,p,_⟩:=h;obtain⟨_,_,c,d⟩:=o.look_ok KX underlying135 (iK w) (Z2 _) (LC k m j);obtain⟨_,_,e,i⟩:=o.lookup KX underlying135 (iK w) (Z2 _) (LC k m j);obtain⟨k1,k2⟩:=p b r a k m j;cases l:P b r a with
 |none=>rw[l]at k1;rw[Maps.atKey_of_not_has k1]at d i;rw[XO d,k1]at c;rw[XO i]at e;exact⟨c,e⟩
 |some f=>rw[l]at k1;rw[k2 f l]at d i;rw[XO d,k1]at c;rw[XO i]at e;exact⟨c,e⟩
def QK(P:Nat->Nat->Nat->Option Fp)(b r a:Nat)(f:Fp):Nat->Nat->Nat->Option Fp:=λx y z=>if x=b/\y=r/\z=a then some f else P x y z
theorem KO.store(h:KO w g n P){b r a:Nat}(d:b<=1000000)(k:r<=4294967295)(c:a<=1000000)(D:n<=1000000)(f:Fp):∃w',(Instr.mapUpdate 135 (.e g) (pv b r a) (fv f)).run prog w=.ok () w'/\KO w' g (n+1) (QK P b r a f)/\w.mapTurned w' g:=by
 obtain⟨_,j,q,C⟩:=h;obtain⟨w',v,A,B⟩:=j.store KX underlying135 Fs (LC d k c) (Z2 f);refine⟨w',v,⟨_,A,λx y z l m o=>?_,λt s=>?_⟩,B⟩
 .unfold QK;by_cases e:x=b/\y=r/\z=a
  .obtain⟨rfl,rfl,rfl⟩:=e;rw[AD ⟨I,I,I⟩,Cx j.isMap (k:=pk x y z) trivial];exact⟨I,λg i u=>by cases i;exact D5 j.isMap (k:=pk x y z) trivial _ _⟩
  rw[AC e];have p:pk x y z≠pk b r a:=λh=>e (iW l m o d k c h);rw[Bp p];exact⟨(q x y z l m o).1,λg i u=>by rw[DU p];exact(q x y z l m o).2 g i u⟩
 by_cases e:t=pk b r a
 .exact⟨b,r,a,d,k,c,e⟩
 rw[Bp e]at s;exact C t s
end
def GB(w:Z)(g:Nat)(n:Nat)(S:Nat->Nat->Bool):Prop:=
 ∃D:DataW Unit,w.ownsMap prog 90 unitElem g n D/\(∀b r,b<=1000000->r<=4294967295->Maps.has D (lk b r)=S b r)/\(∀kl,Maps.has D kl=true->∃b r,b<=1000000/\r<=4294967295/\kl=lk b r)
section
variable {w w':Z} {g n:Nat} {S:Nat->Nat->Bool}
theorem GB.lt(h:GB w g n S):g<w.heap.size:=by obtain⟨_,h,_⟩:=h;exact h.lt
theorem GB.y(h:GB w g n S)(e:w'.heap[g]?=w.heap[g]?):GB w' g n S:=by obtain⟨D,⟨b,a,c,d⟩,f⟩:=h;exact⟨D,⟨b,a,e.i c,d⟩,f⟩
theorem GB.l{n':Nat}(h:GB w g n S)(c:n<=n'):GB w g n' S:=by obtain⟨D,a,b⟩:=h;exact⟨D,a.l c,b⟩
theorem GB.congr{T:Nat->Nat->Bool}(h:GB w g n S)(e:∀b r,S b r=T b r):GB w g n T:=by have:S=T:=funext λb=>funext λr=>e b r;rw[<-this];exact h
theorem wK(w:Z):GB (w.alloc (.map #[] 0)) w.heap.size 0 (λ_ _=>false):=⟨.map [],DJ w _ _ _,λb _ _ _=>rfl,λ_ h=>by simp[Maps.has]at h⟩
theorem GB.look(h:GB w g n S){b r:Nat}(c:b<=1000000)(d:r<=4294967295):(Instr.lookup 130 (.e g) (lv b r) true).run prog w=.ok (.tuple #[.agg #[],.bool (S b r)]) w:=by obtain⟨_,i,f,_⟩:=h;obtain⟨_,_,a,e⟩:=i.look_ok Jb underlying130 (Zt w) unitElem_mk (LR c d);rw[f b r c d,(unitElem_inv e).1]at a;exact a
theorem GB.store(h:GB w g n S){b r:Nat}(c:b<=1000000)(d:r<=4294967295)(t:n<=1000000):∃w',(Instr.mapUpdate 130 (.e g) (lv b r) (.agg #[])).run prog w=.ok () w'/\GB w' g (n+1) (λx y=>(x==b&&y==r)||S x y)/\w.mapTurned w' g:=by
 obtain⟨_,i,q,s⟩:=h;obtain⟨w',a,o,p⟩:=i.store Jb underlying130 Fs (LR c d) unitElem_mk;refine⟨w',a,⟨_,o,λx y j k=>?_,λl f=>?_⟩,p⟩
 .by_cases e:x=b/\y=r
  .obtain⟨rfl,rfl⟩:=e;rw[Cx i.isMap (k:=lk x y) trivial];simp
  have m:lk x y≠lk b r:=λh=>e (Tn j k c d h);rw[Bp m,q x y j k];have:(x==b&&y==r)=false:=by
   cases a:(x==b&&y==r)with
   |false=>rfl
   |true=>simp at a;exact absurd a e
  show S x y=((x==b&&y==r)||S x y);rw[this];rfl
 by_cases e:l=lk b r
 .exact⟨b,r,c,d,e⟩
 rw[Bp e]at f;exact s l f
end
end Y
section
open Go.RowKit Go.Nt
def Po(t:TypeId):Obj->Bool
 | .cells _ t' _=>t'==t
 | _=>false
structure Jf (t:TypeId) (w w':Z):Prop where
 size:w.heap.size<=w'.heap.size
 u:∀(k:Nat) (o:Obj),w.heap[k]?=some o->Po t o=false->w'.heap[k]?=some o
namespace Jf
variable {t:TypeId} {a b c:Z}
theorem refl(t:TypeId)(w:Z):Jf t w w:=⟨AB _,λ_ _ h _=>h⟩
theorem i(h:Jf t a b)(k:Jf t b c):Jf t a c:=⟨AG h.size k.size,λi o e n=>k.u i o (h.u i o e n) n⟩
theorem alloc(h:Jf t a b)(o:Obj):Jf t a (b.alloc o):=h.i ⟨by simp,λk _ e _=>(AO b o k (lt_of_heap e)).i e⟩
theorem f(h:Jf t a b)(d:Below b.heap.size b c):Jf t a c:=h.i ⟨d.size,λk _ e _=>(d.u k (lt_of_heap e)).i e⟩
theorem C(h:Jf t a b){base n s:Nat}{v:Value}{m:List Value}(d:b.ownsRow base t s v n m)(i:b.grownBy c v.ownBlock):Jf t a c:=by
 refine h.i ⟨i.size,λk o e l=>(i.u k (lt_of_heap e) (λf=>?_)).i e⟩;rcases d.2 with⟨rfl,_⟩|⟨g,_,_,rfl,_,j,_⟩
 .simp[Value.ownBlock]at f
 simp[Value.ownBlock]at f;subst f;rw[j]at e;cases e;simp[Po]at l
theorem cells(h:Jf t a b){k:Nat}{x:Array Value}{d:TypeId}{f:Nat×Nat}(e:a.heap[k]?=some (.cells x d f))(c:d≠t):b.heap[k]?=some (.cells x d f):=
 h.u k _ e (by simp[Po,c])
end Jf
end
section
open Go.RowKit Go.Nt
def bv(l:Bs):List Value:=l.map λb=>Value.int .u8 b.toNat
theorem Rx(l:Bs):(bv l).length=l.length:=by simp[bv]
theorem Qs(a b:Bs):bv (a++b)=bv a++bv b:=by simp[bv]
theorem Uk(l:Bs):Lib.strCells (X l)=bv l:=rfl
theorem IM:(prog.info? 5).map (λi=>(i.zero,i.size,i.bytes))=some (some (.f 0),1,1):=EG
theorem XW(n:Int)(a:0<=n)(b:n<2^62):IntKind.i64.wrap n=n:=by rw[DX];omega
theorem YJ(n:Int)(a:0<=n)(b:n<=4095):bits .or .i64 n 32768=n+32768:=by
 obtain⟨k,rfl⟩:=As a;rw[show(32768:Int)=((32768:Nat):Int)from I,(bits_nat .i64 62 EB XW k 32768 U U).2];have:k ||| 32768=k+32768:=by rw[Nat.or_comm,show(32768:Nat)=2^15*1 from I,<-Nat.two_pow_add_eq_or_of_lt (by omega:k<2^15) 1];omega
 rw[this];rfl
theorem um(n:Nat)(b:Nat)(c:n<1099511627776)(a:b<256):bits .or .i64 ((n:Int)*256) (b:Int)=((n*256+b:Nat):Int):=by rw[bits_join .i64 62 EB XW 8 _ _ U U U U U U];simp
def Bytes(w:Z)(B:Nat)(v:Value)(l:Bs):Prop:=w.ownsRow B 5 1 v l.length (bv l)
theorem Bytes.slice{w:Z}{B:Nat}{v:Value}{l:Bs}(h:Bytes w B v l):∃a c,v=.slice a l.length c:=by
 rcases h.2 with⟨rfl,b⟩|⟨g,_,_,rfl,_⟩
 .exact⟨none,0,by rw[b]⟩
 exact⟨_,_,I⟩
theorem eB(k j n:Nat)(h:j<k):enc (j+1) (n/256^(k-(j+1)))=enc j (n/256^(k-j))++[UInt8.ofNat (n/256^(k-(j+1)))]:=by rw[enc,DD,<-CF,show(k-(j+1)).succ=k-j by omega]
theorem Tj(B:Nat)(v:Value)(l:Bs)(k n:Nat)(w:Z)(d:B<=w.heap.size)(A:Bytes w B v l)(d:k<=4)(d:l.length<=1000000)(d:n<1099511627776):Calls prog 130 #[v,.a k,.a n] w λe w'=>∃v',e=.a v'/\Bytes w' B v' (l++enc k n)/\Below B w w'/\Jf 5 w w':=by
 obtain⟨x,s,R,Q,N⟩:=An IM;have G:=J A;clear A;go_enter func130,ntmps130;go_wp2;go_loopw [0,7] (λb i wr=>∃j:Nat,j<=k/\i=.a ((k:Int)-j-1)/\Hid (Bytes wr B b (l++enc j (n/256^(k-j))))/\Hid (Below B w wr)/\Hid (Jf 5 w wr)) (λ_ i _=>((intOf i)+1).toNat)
 case atStart=>exact⟨0,AW _,by go_num,J (by simpa[enc]using G.o),J (AP _ _),J (Jf.refl _ _)⟩
 case round=>
  obtain⟨j,_,rfl,f,h,y⟩:=hrel;rcases CS j k with p|_
  .obtain⟨m,r⟩:=E (k-(j+1));have o:(k:Int)-j-1=(m:Nat):=U;have d:m<=3:=U;have t:=J (eB k j n p);rw[<-r]at t;have D:=J o;have F:=J r;rw[o];clear o r;obtain⟨a,c,rfl⟩:=f.o.slice;obtain⟨L,d⟩:=E ((l++enc j (n/256^(k-j))).length);have A:L<=1000004:=by rw[d,AM,KC];omega
   rw[<-d]at f |-;have C:=J d;have g:Hid (wr.r B 5 1 (.slice a L c) L (bv (l++enc j (n/256^(k-j))))):=J (by have:=f.o;unfold Bytes at this;rwa[<-d]at this);have o:=h.o.size;clear d;go_wp2_with (at_builtin;refine Av _ I (.tmp 14) (.tmp 20) 111 I B 5 x _ 1 1 underlying111 s R Q N I EB _ _ _ I (g.o.alloc _) ⟨wr.s,0,none⟩ 1 1 [.f ((n:Int)/2^(8*m)%256)] I I ?c1 ?c2 ?c3 ?c4 ?c5 ?_)
   case c1=>exact B9 _ _ _
   case c2=>intro u z;simp at z;subst z;rfl
   case c3=>unfold maxLen;omega
   case c4=>omega
   case c5=>simp;omega
   intro r s K x _;have H:Below B w s:=(h.o.a).C x EL (λq o=>(g.o.lt q o).1);have M:Jf 5 w s:=(y.o.alloc _).C (g.o.alloc _) x;have P:Hid (Bytes s B r (l++enc (j+1) (n/256^(k-(j+1))))):=by
    have T:=C.o;have V:=t.o;have W:=F.o;refine J ?_;unfold Bytes;rw[<-W,V,<-Aw,Qs,AM,<-T];have d:bv [UInt8.ofNat (n/256^m)]=[.f ((n:Int)/2^(8*m)%256)]:=by simp only[bv,BS,DF,Bx];rw[show(256:Nat)=2^8 from I,<-Nat.pow_mul];congr 2
    rw[d];exact K
   go_wp2;go_roundw
   case rel=>exact⟨j+1,by omega,by have:=D.o;go_num,P,J H,J M⟩
   case measure=>simp[intOf]
  have S:j=k:=U;subst S;have e1:(j:Int)-j-1 = -1:=U;rw[e1];go_wp2;go_ret;refine⟨_,I,?_,h.o,y.o⟩;have:=f.o;simpa using this
end
section
open Go.RowKit Go.Nt
theorem Xn(n:Nat)(b:Nat)(c:n<16777216)(a:b<256):bits .or .u32 ((n:Int)*256) (b:Int)=((n*256+b:Nat):Int):=by rw[bits_join .u32 32 EB (λn _ _=>by rw[IntKind.wrap_u32];omega) 8 _ _ U U U U U U];simp
theorem rj(n:Nat)(h:n<4294967296):n &&& (4294967295-128)=MI n:=by
 apply Nat.eq_of_testBit_eq;intro i;rw[Nat.testBit_and];unfold MI;have e:n/256*256+n%128=2^8*(n/256)+n%128:=U;rw[e,Nat.testBit_two_pow_mul_add _ (by omega:n%128<2^8)];have a:∀j,j<32->Nat.testBit (4294967295-128) j=decide (j≠7):=EB;by_cases c:i<8
 .rw[AD c,a i U,show(128:Nat)=2^7 from I,Nat.testBit_mod_two_pow];by_cases b:i=7
  .subst b;simp
  have:i<7:=U;simp[b,this]
 rw[AC c,show(256:Nat)=2^8 from I,Nat.testBit_div_two_pow,show i-8+8=i by omega];by_cases d:i<32
 .rw[a i d];have:i≠7:=U;simp[this]
 have:n.testBit i=false:=Nat.testBit_lt_two_pow (AQ h (AG (by decide:4294967296<=2^32) (BK EB U)));rw[this];simp
theorem uZ{s:Bs}{i:Nat}(h:i<s.length):num (s.take (i+1))=num (s.take i)*256+(s.getD i 0).toNat:=fD (λn (x:UInt8)=>n*256+x.toNat) 0 h
theorem gK(w:Z)(s:ByteArray):Below w.heap.size w (Lib.bytesWorld w 5 s):=
 ⟨I,I,I,by rw[Lib.bytesWorld_size];omega,λk a=>Lib.bytesWorld_at_old w 5 s k a⟩
theorem WW(s:Bs)(w:Z)(M:s.length<=4):Calls prog 197 #[.string (X s)] w λe w'=>e=.a (.d (num s:Nat))/\Below w.heap.size w w':=by
 obtain⟨b,f⟩:=E (X s);have o:b.size=s.length:=by rw[f,EF]
 rw[<-f];have H:Hid (∀j,j<s.length->b.data.toList.getD j 0=s.getD j 0):=J (λj _=>by rw[f];rfl);have n:=J o;have K:b.size<=4:=U;clear f o;have r:=Lib.run_convert_string_bytes (P:=prog) w 9 111 5 b underlying9 underlying111 underlying5;have h:=gK w b;have g:=Lib.bytesWorld_cell w 5 b;obtain⟨_,q⟩:∃c,c=grownCap w b.size 0 5:=⟨_,I⟩;obtain⟨B,t⟩:=E (Lib.bytesWorld w 5 b);rw[<-t]at r h g;rw[<-q]at r;have A:=J h;have y:=J g;clear q t h g;go_enter func197,ntmps197;go_wp2;go_loopw [3,9] (λa i wr=>∃k:Nat,k<=b.size/\i=.a k/\a=.d (num (s.take k):Nat)/\wr=B) (λ_ i _=>b.size-(intOf i).toNat)
 case atStart=>exact⟨0,AW _,I,I,I⟩
 case round=>
  obtain⟨k,_,rfl,rfl,rfl⟩:=hrel;by_cases F:k<b.size
  .have l:k<s.length:=Dz n.o;have v:=y.o k F;rw[H.o k l]at v;have d:=uZ l;have p:=Tu (s.take k);have G:num (s.take k)<16777216:=by
    refine AQ p ?_;have:(s.take k).length<=3:=by rw[Ac];omega
    exact AG (BK EB this) EB
   have C:=(s.getD k 0).toNat_lt;obtain⟨c,u⟩:=E ((s.getD k 0).toNat);rw[<-u]at v d C;obtain⟨m,x⟩:=E (num (s.take k));rw[<-x]at d G |-;have L:=Xn m c U U;have D:=J d;clear u x d p;go_wp2;refine⟨⟨k+1,by omega,by go_num,?_,trivial⟩,by simp[intOf];omega⟩;rw[D.o];simp
  have l:b.size=k:=U;have z:Hid (s.take k=s):=J (AT (Dz n.o));go_wp2;go_ret;rw[z.o];exact⟨I,A.o⟩
theorem jT(s:Bs)(w:Z)(S:s.length<=1000):Calls prog 198 #[.string (X s)] w λe w'=>e=.a (.d (LK s:Nat))/\Below w.heap.size w w':=by
 obtain⟨b,d⟩:=E (X s);have t:b.size=s.length:=by rw[d,EF]
 rw[<-d];have P:Hid (∀j,j<s.length->b.data.toList.getD j 0=s.getD j 0):=J (λj _=>by rw[d];rfl);have r:=J t;have R:b.size<=1000:=U;clear d t;have x:=Lib.run_convert_string_bytes (P:=prog) w 9 111 5 b underlying9 underlying111 underlying5;have l:=gK w b;have g:=Lib.bytesWorld_cell w 5 b;obtain⟨_,u⟩:∃c,c=grownCap w b.size 0 5:=⟨_,I⟩;obtain⟨H,z⟩:=E (Lib.bytesWorld w 5 b);rw[<-z]at x l g;rw[<-u]at x;have G:=J l;have C:=J g;clear u z l g;go_enter func198,ntmps198;go_wp2;go_loopw [3,9] (λa i wr=>∃k m:Nat,k<=b.size/\i=.a k/\a=.d m/\wr=H/\Hid (m=Ts (s.take k))) (λ_ i _=>b.size-(intOf i).toNat)
 case atStart=>exact⟨0,2166136261,AW _,I,I,I,J I⟩
 case round=>
  obtain⟨k,m,_,rfl,rfl,rfl,f⟩:=hrel;have v:m<4294967296:=by rw[f.o];exact ja _
  by_cases N:k<b.size
  .have o:k<s.length:=Dz r.o;have B:=C.o k N;rw[P.o k o]at B;have K:=(s.getD k 0).toNat_lt;have n:Hid (Ts (s.take (k+1))=(m ^^^ (s.getD k 0).toNat)*16777619%4294967296):=J (by rw[pz o,<-f.o];rfl);obtain⟨c,A⟩:=E ((s.getD k 0).toNat);rw[<-A]at B K n;have M:=u32_xor_nat m c U U;obtain⟨y,p⟩:=E (m ^^^ c);rw[<-p]at M n;have Q:y<4294967296:=by rw[p];exact Nat.xor_lt_two_pow (n:=32) U U
   clear A p;go_wp2;refine⟨⟨k+1,y*16777619%4294967296,by omega,by go_num,by go_num,trivial,J (by rw[n.o])⟩,by simp[intOf];omega⟩
  have o:b.size=k:=U;have D:Hid (s.take k=s):=J (AT (Dz r.o));have h:=u32_andNot_nat m 128 v U;rw[rj m v]at h;have L:bits .andNot .u32 (m:Int) 128=((MI m:Nat):Int):=h;obtain⟨_,q⟩:=E (MI m);rw[<-q]at L;have F:=J q;clear h q;go_wp2;go_ret;refine⟨?_,G.o⟩;unfold LK;rw[F.o,f.o,D.o];rfl
theorem xE(B:Nat)(v:Value)(l:Bs)(k n:Nat)(w:Z)(d:B<=w.heap.size)(A:Bytes w B v l)(d:k<=4)(d:l.length<=1000000)(d:n<4294967296):Calls prog 244 #[v,.a k,.d n] w λe w'=>∃v',e=.a v'/\Bytes w' B v' (l++enc k n)/\Below B w w'/\Jf 5 w w':=by
 obtain⟨x,s,R,Q,N⟩:=An IM;have G:=J A;clear A;go_enter func244,ntmps244;go_wp2;go_loopw [0,7] (λb i wr=>∃j:Nat,j<=k/\i=.a ((k:Int)-j-1)/\Hid (Bytes wr B b (l++enc j (n/256^(k-j))))/\Hid (Below B w wr)/\Hid (Jf 5 w wr)) (λ_ i _=>((intOf i)+1).toNat)
 case atStart=>exact⟨0,AW _,by go_num,J (by simpa[enc]using G.o),J (AP _ _),J (Jf.refl _ _)⟩
 case round=>
  obtain⟨j,_,rfl,f,h,y⟩:=hrel;rcases CS j k with p|_
  .obtain⟨m,r⟩:=E (k-(j+1));have o:(k:Int)-j-1=(m:Nat):=U;have d:m<=3:=U;have t:=J (eB k j n p);rw[<-r]at t;have D:=J o;have F:=J r;rw[o];clear o r;obtain⟨a,c,rfl⟩:=f.o.slice;obtain⟨L,d⟩:=E ((l++enc j (n/256^(k-j))).length);have A:L<=1000004:=by rw[d,AM,KC];omega
   rw[<-d]at f |-;have C:=J d;have g:Hid (wr.r B 5 1 (.slice a L c) L (bv (l++enc j (n/256^(k-j))))):=J (by have:=f.o;unfold Bytes at this;rwa[<-d]at this);have o:=h.o.size;clear d;go_wp2_with (at_builtin;refine Av _ I (.tmp 14) (.tmp 20) 111 I B 5 x _ 1 1 underlying111 s R Q N I EB _ _ _ I (g.o.alloc _) ⟨wr.s,0,none⟩ 1 1 [.f ((n:Int)/2^(8*m)%256)] I I ?c1 ?c2 ?c3 ?c4 ?c5 ?_)
   case c1=>exact B9 _ _ _
   case c2=>intro u z;simp at z;subst z;rfl
   case c3=>unfold maxLen;omega
   case c4=>omega
   case c5=>simp;omega
   intro r s K x _;have H:Below B w s:=(h.o.a).C x EL (λq o=>(g.o.lt q o).1);have M:Jf 5 w s:=(y.o.alloc _).C (g.o.alloc _) x;have P:Hid (Bytes s B r (l++enc (j+1) (n/256^(k-(j+1))))):=by
    have T:=C.o;have V:=t.o;have W:=F.o;refine J ?_;unfold Bytes;rw[<-W,V,<-Aw,Qs,AM,<-T];have d:bv [UInt8.ofNat (n/256^m)]=[.f ((n:Int)/2^(8*m)%256)]:=by simp only[bv,BS,DF,Bx];rw[show(256:Nat)=2^8 from I,<-Nat.pow_mul];congr 2
    rw[d];exact K
   go_wp2;go_roundw
   case rel=>exact⟨j+1,by omega,by have:=D.o;go_num,P,J H,J M⟩
   case measure=>simp[intOf]
  have S:j=k:=U;subst S;have e1:(j:Int)-j-1 = -1:=U;rw[e1];go_wp2;go_ret;refine⟨_,I,?_,h.o,y.o⟩;have:=f.o;simpa using this
theorem gJ(k:Nat):Builtin.zeroCells (Value.int .u8 0).cells k=(bv (List.replicate k 0)).toArray:=by
 apply Array.ext';simp only[Builtin.zeroCells,Value.cells,bv];apply DM;intro i;by_cases h:i<k
 .simp[h,Nat.mod_one]
 simp[h]
theorem xZ(w:Z)(B:Nat)(v:Value)(l:Bs)(k:Nat)(x:TypeId)(C:Bytes w B v l)(a:0<l.length)(a:l.length<=1000000)(a:k<=1000)(S:B<=w.heap.size):∃v' w',(Builtin.append_ #[111,3] x #[v,.a k]).run prog w=.ok v' w'/\Bytes w' B v' (l++List.replicate k 0)/\w.grownBy w' v.ownBlock:=by
 obtain⟨H,s,n,i,f⟩:=An IM;have y:(bv (l++List.replicate k 0)).length=(l.length+k)*1:=by rw[Rx];simp
 rcases C.2 with⟨_,_⟩|⟨g,a,b,rfl,o,r,d,p,q,c⟩
 .omega
 have W:=zW (x:=(k:Int));have G:¬((k:Int)<0):=U;have P:¬(281474976710656<(k:Int)):=U;by_cases m:l.length+k<=a
 .have z:l.length+(bv (List.replicate k 0)).length<=b.size:=by rw[Rx,q];simp;omega
  have A:=run_storeCells_at prog g l.length 5 (bv (List.replicate k 0)) 0 b w r (EU z) (by intro _ D;simp[bv]at D;obtain⟨_,rfl⟩:=D;rfl);simp only[Bq]at A;have K:(Builtin.append_ #[111,3] x #[.b g l.length a,.a k]).run prog w=.ok (.b g (l.length+k) a) (w.setRow g (b.toList.take l.length++bv (List.replicate k 0)++b.toList.drop (l.length+(bv (List.replicate k 0)).length)).toArray):=by
   have h:(Value.int IntKind.u8 0).cells=#[Value.int .u8 0]:=I;by_cases h:k=0
   .subst h;have Q:IntKind.i64.wrap 0=0:=EB;have M:(storeCells ⟨g,l.length,none⟩ []).run prog w=.ok () w:=I;have L:=d;simp[Q,M,L,Builtin.append_,C7 underlying111,C7 underlying3,sizeOf,typeInfo,s,i,f,asInt,asIntOf,m,d,n,Addr.add_lit,bv];rw[setRow_self w g b 5 (0,0) r]
   simp[Builtin.append_,C7 underlying111,C7 underlying3,sizeOf,typeInfo,zeroValue,s,n,i,f,asInt,asIntOf,W,G,P,m,h,Addr.add_lit,gJ,A]
  refine⟨_,_,K,⟨y ▸ by simp,.s ⟨g,a,_,by simp,o,setRow_heap w g b _ 5 _ r,by simpa using m,p,?_,?_⟩⟩,⟨I,I,I,by simp,λj _ t=>setRow_other w g j _ (λe=>t (by simp[Value.ownBlock,e]))⟩⟩
  .simp only[BV,AM,Ac,BX,Cz,Rx]at z |-;omega
  have R:b.toList.take l.length=bv l:=EU c;rw[R,Qs];have:(l++List.replicate k (0:UInt8)).length*1=(bv l++bv (List.replicate k 0)).length:=by simp[Rx]
  rw[this];exact List.take_left
 have h:0<k:=U;have F:∀j u,(bv l)[j]?=some u->w.drew.cell? ((⟨g,0,none⟩:Addr).add j)=some u:=by have:=World.ownsRow.cells (h:=C) (g:=g) I;exact this
 have T:=run_firstCells_some (P:=prog) w.drew 1 l.length ⟨g,0,none⟩ l.length a (bv l) (by rw[Rx];omega) F;have V:=Lib.run_append_grow_zeros (P:=prog) w 111 3 x 5 H (.f 0) .i64 .i64 underlying111 underlying3 s n (FH g) l.length a (bv l) (by rw[i];exact T) k h (by rw[i];decide) U U (by rw[f];omega) (by rw[f];exact growslice_fits U U);have N:=grownCap_ge w (l.length+k) a 5;have H:=grownCap_le_maxLen w (l.length+k) a 5 Fs;refine⟨_,_,V,⟨y ▸ by simp,.s ⟨w.s,_,_,by simp,S,AR w.drew _,by simpa using N,H,?_,?_⟩⟩,⟨I,I,I,by simp,λj t _=>AO w.drew _ j t⟩⟩
 .simp only[De,BV,size_zeroCells,Rx];have:(Value.int IntKind.u8 0).cells.size=1:=I;rw[this];omega
 rw[gJ,Array.toList_append,Array.toList_append];rw[show(bv l).toArray.toList=bv l from I,show(bv (List.replicate k 0)).toArray.toList=bv (List.replicate k 0)from I,<-Qs];have:(l++List.replicate k (0:UInt8)).length*1=(bv (l++List.replicate k 0)).length:=by simp[Rx]
 rw[this];exact List.take_left
theorem Bytes.Vg{w:Z}{B:Nat}{v:Value}{l:Bs}(h:Bytes w B v l):(convert 111 9 v).run prog w=.ok (.string (X l)) w:=Y.JR h
theorem Bytes.Tc{w w':Z}{B M:Nat}{v:Value}{l:Bs}(h:Bytes w B v l)(j:Below M w w')(i:w.heap.size<=M):Bytes w' B v l:=by
 refine⟨h.1,?_⟩;rcases h.2 with⟨rfl,d⟩|⟨g,a,b,rfl,e,c,f⟩
 .exact .w ⟨I,d⟩
 exact .s ⟨g,a,b,I,e,(j.u g (AQ (lt_of_heap c) i)).i c,f⟩
def Qw(p:Pg):Value:=.agg #[.a p.b,.d p.num,.a p.at_,.a p.c,.string (X p.a)]
theorem xL(p:Pg)(w:Z)(d:p.b<256)(hn:p.num<4294967296)(c:p.at_<65536)(f:p.c<65536)(ht:p.a.length<=51):Calls prog 194 #[Qw p] w λe w'=>e=.a (.string (X (Fo p)))/\Below w.heap.size w w':=by
 obtain⟨b,n,a,o,t⟩:=p;simp only at d hn c f ht;obtain⟨i0,hi,Q,aR,aP⟩:=An IM;obtain⟨c,L⟩:=E (X t);have A:c.size=t.length:=by rw[L,EF]
 unfold Qw;simp only;rw[<-L];change Hid _ at L;have N:=J A;have d:c.size<=51:=U;obtain⟨f,r⟩:=E (w.alloc (.cells #[.a b,.d n,.a a,.a o,.string c] 182));have K:=Gi r;have z:=JK r;have C:=Ia r;obtain⟨P,d,V,S⟩:=run_make_own (P:=prog) f f.heap.size 111 5 i0 _ 1 underlying111 hi Q aR .i64 .i64 64 (by rw[aP];omega) Fs (AB _);have j:=V;have s:=(AP _ f).C S (AB _) (λq y=>by cases y);obtain⟨v0,T⟩:=E (Value.slice (FH f.heap.size) 0 64);rw[<-T]at j d;rw[show((64:Nat):Int)=64 from I]at d;obtain⟨B,D⟩:=E f.heap.size;obtain⟨g,F⟩:=E w.heap.size;rw[<-D]at j s C;rw[<-F]at K z C |-;have d:g<B:=U;have R:B<=P.heap.size:=Dz s.size;have h:=J (λ(W:Z) (v:Value) (l:Bs) (k m:Nat) (u:B<=W.heap.size) (x:Bytes W B v l) (i:k<=4) (M:l.length<=1000000) (h5:m<4294967296)=>xE B v l k m W u x i M h5);have i:=J (λ(W M:Z) (u:W.heap[g]?=some (.cells #[.a b,.d n,.a a,.a o,.string c] 182 (0,0))) (x:Below B W M)=>(x.u g d).i u);have M:=i f P K s;change Hid _ at r;have aW:=J (z.i (s.b));have f:=J j;have R2:=J M;change Hid _ at d F;have f:=EV 0 M;have f:=J D;have f:=J (h P v0 [] 1 b R j EB EJ U);change Hid _ at C;clear K M z s V S j T A D;go_enter func194,ntmps194;go_wp2_with (first|(rw[<-r.o])|(rw[<-F.o])|fail);refine f.o.l ?_;rintro e z ⟨D,rfl,j,V,_⟩;have f:=J (i _ _ R2 V);have C:=J (aW.o.i (V.l (Dz d.o)));have r:=J j;have r:=AG R V.size;have s:=EV 1 f;have s:=J (h z D _ 4 n r j EB (by simp[KC]) hn);go_wp2_with fail;refine s.o.l ?_;rintro e z ⟨K,rfl,F,T,_⟩;have j:=J (i _ _ f T);have D:=J (C.o.i (T.l (Dz d.o)));have s:=AG r T.size;have f:=EV 2 j;have f:=J (h z K _ 2 a s F EB (by simp[KC]) U);go_wp2_with fail;refine f.o.l ?_;rintro e z ⟨K,rfl,F,f,_⟩;have r:=J (i _ _ j f);have C:=J (D.o.i (f.l (Dz d.o)));have j:=AG s f.size;have f:=EV 3 r;have f:=J (h z K _ 2 o j F EB (by simp[KC]) U);go_wp2_with fail;refine f.o.l ?_;rintro e F ⟨f,rfl,D,s,_⟩;have P:=J (i _ _ r s);have V:=J (C.o.i (s.l (Dz d.o)));have i:=AG j s.size;have b0:=EV 4 P;obtain⟨H,K⟩:=E (([]++enc 1 b++enc 4 n++enc 2 a++enc 2 o));have j:H.length=9:=by rw[K];simp[KC]
 rw[<-K]at D;change Hid _ at K;have r:=J j;have z:Hid (F.ownsRow B 5 1 f 9 (bv H)):=J (by have:=D;unfold Bytes at this;rwa[j]at this);obtain⟨_,_,rfl⟩:=D.slice;rw[j]at z |-;go_wp2_with (at_builtin;refine Ch _ I (.tmp 26) (.tmp 28) 111 9 I B 5 i0 underlying111 underlying9 hi Q aR aP _ _ _ I z c I ?c3 ?c4 ?c5 ?_)
 case c3=>unfold maxLen;omega
 case c4=>omega
 case c5=>omega
 intro f Q T s _;have C:Bytes Q B f (H++t):=by unfold Bytes;have u:=L;have x:=r;have A:=N;rw[Qs,AM,x,<-A,<-Uk t,<-u];exact T
 have f:=(AP _ F).C s i (λq y=>(z.o.lt q y).1);have j:=AG i f.size;have u:(H++t).length=9+c.size:=by rw[AM,r.o,N.o]
 obtain⟨_,_,rfl⟩:=C.slice;have D:=J (V.o.i (f.l (Dz d.o)));obtain⟨k,L⟩:=E (51-c.size);have b7:(60:Int)-(9+(c.size:Int))=(k:Nat):=U;obtain⟨v6,A,r,F,x⟩:=xZ Q B _ (H++t) k 111 C U U U j;have c:=(AP _ Q).C x j (λq y=>(Dn C q y).1);have bc:=AG j c.size;have bb:=J (D.o.i (c.l (Dz d.o)));rw[u]at r |-;have R:Hid (H++t++List.replicate k 0=JF ⟨b,n,a,o,t⟩):=J (by rw[K.o,L,N.o];simp[JF]);obtain⟨G,K⟩:=E (H++t++List.replicate k 0);rw[<-K]at R F;have y:G.length=60:=by rw[R.o];exact Ux _ ht
 have Q:=J y;have S:=Bytes.Vg F;obtain⟨_,D⟩:=E (X G);rw[<-D]at S;have j:=J D;have M:=J (jT G A U);rw[<-D]at M;have A:=iv G;obtain⟨N,j⟩:=E (LK G);rw[<-j]at M A;change Hid _ at j F;clear T s C f z P V i b0 u L c x D K y;go_wp2_with (at_builtin;refine Lib.wpList_append_run _ I _ _ _ _ I _ _ I I _ _ (by first|exact r|(rw[b7];exact r)) ?_);go_wp2_with fail;refine M.o.l ?_;rintro e f ⟨rfl,z⟩;have i:=Bytes.Tc F z (AB _);have r:=AG bc z.size;have s:=J (bb.o.i (z.l (Dz d.o)));have c:=J (h f v6 G 4 N r i EB (by rw[Q.o];decide) A);go_wp2_with fail;refine c.o.l ?_;rintro e _ ⟨_,rfl,c,f,_⟩;have S:=Bytes.Vg c;obtain⟨_,c⟩:=E (X (G++enc 4 N));rw[<-c]at S;change Hid _ at c;have h:=J (s.o.i (f.l (Dz d.o)));go_wp2;go_ret;refine⟨?_,h⟩;rw[c.o,j.o,R.o];rfl
def QO(s:Bs)(w:Z)(e:Ending)(w':Z):Prop:=
 ∃p:Pg,e=.a (.tuple #[Qw p,.bool (FJ s).isSome])/\(∀q,FJ s=some q->p=q)/\Below w.heap.size w w'
theorem Pb{B:Nat}{a b:Z}(h:Below B a b):Below B a b.drew:=⟨h.os,h.tape,h.output,h.size,h.u⟩
theorem mO(s:Bs)(w:Z)(hs:s.length=64):Calls prog 133 #[.string (X s)] w λe w'=>QO s w e w':=by
 have aS:=J (λW=>WW (s.drop 60) W EL);have aN:=J (λW=>jT (s.take 60) W EL);have o:=J (λW=>WW ((s.drop 1).take 4) W EL);have aM:=J (λW=>WW ((s.drop 5).take 2) W EL);have G:=J (λW=>WW ((s.drop 7).take 2) W EL);obtain⟨j,C⟩:=E (X s);have Sx:j.size=64:=by rw[C,EF,hs]
 have e1:j.extract 60 64=X (s.drop 60):=by rw[C,Ka];congr 1;exact AT EL
 have e2:j.extract 0 60=X (s.take 60):=by rw[C,Ka];simp
 have e3:j.extract 1 5=X ((s.drop 1).take 4):=by rw[C,Ka]
 have e4:j.extract 5 7=X ((s.drop 5).take 2):=by rw[C,Ka]
 have e5:j.extract 7 9=X ((s.drop 7).take 2):=by rw[C,Ka]
 have e6:j.extract 9 60=X ((s.take 60).drop 9):=by rw[C,Ka,List.drop_take]
 have e0:∀h:0<j.size,j[0]'h=s.getD 0 0:=λh=>by subst C;exact O0 s 0 h
 rw[<-C];obtain⟨_,H⟩:=E (X (s.drop 60));obtain⟨_,T⟩:=E (X (s.take 60));obtain⟨_,Q⟩:∃l,l=X ((s.drop 1).take 4):=⟨_,I⟩;obtain⟨_,L⟩:∃l,l=X ((s.drop 5).take 2):=⟨_,I⟩;obtain⟨_,P⟩:∃l,l=X ((s.drop 7).take 2):=⟨_,I⟩;obtain⟨D,aK⟩:∃l,l=X ((s.take 60).drop 9):=⟨_,I⟩;rw[<-H]at aS e1;rw[<-T]at aN e2;rw[<-Q]at o e3;rw[<-L]at aM e4;rw[<-P]at G e5;rw[<-aK]at e6;change Hid _ at aK;obtain⟨n1,aF⟩:=E (num (s.drop 60));obtain⟨n2,aG⟩:=E (LK (s.take 60));obtain⟨p,aO⟩:∃n,n=num ((s.drop 1).take 4):=⟨_,I⟩;obtain⟨r,R⟩:∃n,n=num ((s.drop 5).take 2):=⟨_,I⟩;obtain⟨t,j⟩:∃n,n=num ((s.drop 7).take 2):=⟨_,I⟩;have a:r<65536:=by rw[R];exact Vk (k:=2) EL
 have a:t<65536:=by rw[j];exact Vk (k:=2) EL
 obtain⟨c0,aT⟩:∃c,c=s.getD 0 0:=⟨_,I⟩;have a:=c0.toNat_lt;have a:=zW (x:=(c0.toNat:Int));rw[<-aF]at aS;rw[<-aG]at aN;rw[<-aO]at o;rw[<-R]at aM;rw[<-j]at G;rw[<-aT]at e0;have b7:=e0 U;have a:=zW (x:=(r:Int));have a:=zW (x:=(t:Int));change Hid _ at aF aG aO R j aT;obtain⟨l,ay⟩:=E (w.alloc (.cells #[.a 0,.d 0,.a 0,.a 0,.string ⟨#[]⟩] 182));obtain⟨g,a⟩:=E w.heap.size;have aR:=Gi ay a.A;have aI:=JK ay;have aH:=lt_of_heap aR;rw[<-a]at aI;change Hid _ at ay;have Hg:=J a;change Hid _ at aR aI;unfold QO;rw[<-a];clear H T Q L P C a;by_cases az:n1=n2
 .go_enter func133,ntmps133;go_wp2_with (first|(rw[<-ay.o])|(rw[<-Hg.o])|fail);refine BL (S:=λ_=>True) EG trivial (λhHeld=>?_);refine Ef 0 I hHeld ?_;refine Ef 1 I hHeld ?_;refine Ef (v:=.bool false) 2 I hHeld ?_;refine Ef (v:=.bool false) 3 I hHeld ?_;refine Ef 4 I hHeld ?_;refine Ef 5 I hHeld ?_;refine Ef 6 I hHeld ?_;refine Ef 8 I hHeld ?_;refine Ef 9 I hHeld ?_;refine Ef 10 I hHeld ?_;refine rd 7 I (λK a=>?_);go_simp;refine(aS _).l ?_;rintro e V1 ⟨rfl,aE⟩;refine a _ _ trivial (λhHeld=>?_);refine rd 11 I (λK a=>?_);go_simp;refine(aN _).l ?_;rintro e B ⟨rfl,aV⟩;refine a _ _ trivial (λhHeld=>?_);refine Ef (v:=.bool false) 12 I hHeld ?_;refine Ef (v:=.bool false) 13 I hHeld ?_;refine B8 EG ?_ _;have aA:Below l.heap.size l B:=(Pb (AP _ l)).i (aE.i (aV.l aE.size));have aB:=(aA.u g aH).i aR;have v:=J aB;have aU:=J (aI.o.i (aA.b));have ah:=lt_of_heap aB;go_wp2_with fail;refine BL (S:=λ_=>True) EG trivial (λhHeld=>?_);refine Ef 0 I hHeld ?_;refine Ef 1 I hHeld ?_;refine Ef 2 I hHeld ?_;refine Ef 3 I hHeld ?_;refine Ef 4 I hHeld ?_;refine wpAnyH_ready (rs:=[5,7]) EG EJ ?_;refine CX I (λK a=>?_) (CX I (λK a=>?_) Dp);focus
   go_simp;refine(o _).l ?_;rintro e d ⟨rfl,u⟩;refine a _ _ trivial (λhHeld=>?_);refine Ef 6 I hHeld ?_;refine rd 7 I (λK a=>?_);go_simp;refine a _ _ trivial (λhHeld=>?_);refine rd 8 I (λK a=>?_);go_simp;refine a _ _ trivial (λhHeld=>?_);refine B8 EG ?_ _;obtain⟨f,F⟩:=E (d.alloc (.cells #[.a c0.toNat,.d p] 90));obtain⟨k,A⟩:=E d.heap.size;rw[<-F];simp only[<-A];have i:=J (Gi F A.A);have z:Below B.heap.size B f:=by rw[F];exact((Pb (AP _ B)).i u).alloc u.size _
   have P:g<k:=by rw[A];have:=u.size;exact AQ ah this
   clear A F u
  rotate_left
  focus
   go_simp;obtain⟨d,m⟩:=E ((B.alloc (.cells #[.a 0,.d 0] 90)).drew);obtain⟨k,A⟩:=E B.heap.size;refine a _ _ trivial (λhHeld=>?_);clear a K;rw[<-m];simp only[<-A];change Hid _ at m A;refine rd 5 I (λK a=>?_);go_simp;refine(o _).l ?_;rintro e L ⟨rfl,H⟩;have C:d.heap[k]?=some (.cells #[.a 0,.d 0] 90 (0,0)):=by rw[m.o,A.o];exact AR _ _
   have d:=(H.u k (lt_of_heap C)).i C;refine a _ _ trivial (λhHeld=>?_);clear a K;refine Ef 6 I hHeld ?_;have s0:=EV 0 d;have z0:=Fg 0 d;have s1:=EV 1 d;have z1:=Fg 1 d;refine rd 8 I (λK a=>?_);go_simp;refine a _ _ trivial (λhHeld=>?_);clear a K;refine B8 EG ?_ _;clear hHeld s0 z0 s1 z1;obtain⟨f,F⟩:=E ((L.setCell (O k 0) (.a c0.toNat)).setCell (O k 1) (.d p));rw[<-F];have i:Hid (f.heap[k]?=some (.cells #[.a c0.toNat,.d p] 90 (0,0))):=J (by rw[F];exact AJ _ k 1 _ 90 _ (AJ _ k 0 _ 90 _ d));have z:Below B.heap.size B f:=by rw[F];exact(((Pb (Iy)).i (by rw[<-m.o];exact H.l (by rw[m.o];simp))).setCell (by simp[A.o]) _).setCell (by simp[A.o]) _
   have P:g<k:=by rw[A.o];exact ah
   clear F H d C
  rotate_left
  all_goals
   have af:=J ((z.u g ah).i v);have aw:=J (aU.o.i (z.b));have am:=lt_of_heap af;clear z v aU;have M:=NO 0 i;have r1:=NO 1 i;have m:Hid (∀V:Z,Below f.heap.size f V->V.cell? (O k 0)=some (.a c0.toNat)/\V.cell? (O k 1)=some (.d p)):=J (λV C=>⟨by rw[AK (C.u k (lt_of_heap i.o))];exact M,by rw[AK (C.u k (lt_of_heap i.o))];exact r1⟩);go_wp2_with fail;refine BL (S:=(λV=>V.cell? (O k 0)=some (.a c0.toNat)/\V.cell? (O k 1)=some (.d p))) EG ⟨M,r1⟩ (λhHeld=>?_);refine Ef 0 I hHeld ?_;refine Ef 1 I hHeld ?_;refine Ef 2 I hHeld ?_;refine Ef 5 I hHeld ?_;refine Ef 6 I hHeld ?_;refine Ef 9 I hHeld ?_;refine Ef 10 I hHeld ?_;refine Ef 11 I hHeld ?_;refine wpAnyH_ready (rs:=[3,13]) EG EJ ?_;refine CX I (λK a=>?_) (CX I (λK a=>?_) Dp);focus
    skip;go_simp;refine(aM _).l ?_;rintro e k ⟨rfl,A⟩;have u:=(Pb (AP _ f)).i A;refine a _ _ (m _ u) (λhHeld=>?_);clear a K;refine Ef 4 I hHeld ?_;refine wpAnyH_ready (rs:=[7,13]) EG EJ ?_;refine CX I (λK a=>?_) (CX I (λK a=>?_) Dp);focus
     skip;go_simp;refine(G _).l ?_;rintro e F ⟨rfl,Q⟩;have i:=u.i (Q.l u.size);refine a _ _ (m _ i) (λhHeld=>?_);clear a K;refine Ef 8 I hHeld ?_;refine Ef 12 I hHeld ?_;refine rd 13 I (λK a=>?_);go_simp;refine a _ _ (m _ (i.alloc i.size _)) (λhHeld=>?_);clear a K;refine rd 14 I (λK a=>?_);go_simp;refine a _ _ (m _ (i.alloc i.size _)) (λhHeld=>?_);clear a K;refine B8 EG ?_ _;clear hHeld;obtain⟨N,o⟩:=E (F.alloc (.cells #[.a c0.toNat,.d p,.a r,.a t,.string D] 182));obtain⟨b,x⟩:=E F.heap.size;rw[<-o];simp only[<-x];have H:g≠b:=Dz i.size;have S:=J (Gi o x.A);have z:Below f.heap.size f N:=by rw[o];exact i.alloc i.size _
     have y:=J ((z.u g am).i af);have aL:=J (aw.o.i (z.b));have b4:=H;clear z H M r1 m u i A Q o x
    rotate_left
    focus
     go_simp;obtain⟨F,C⟩:=E (k.alloc (.cells #[.a 0,.d 0,.a 0,.a 0,.string ⟨#[]⟩] 182));obtain⟨b,x⟩:=E k.heap.size;have i:Below f.heap.size f F:=by rw[C];exact u.alloc u.size _
     have L:F.heap[b]?=some (.cells #[.a 0,.d 0,.a 0,.a 0,.string ⟨#[]⟩] 182 (0,0)):=by rw[C,x];exact AR _ _
     have bg:f.heap.size<=b:=by rw[x];exact u.size
     rw[<-C];simp only[<-x];refine a _ _ (m _ i) (λhHeld=>?_);clear a K C x;refine rd 7 I (λK a=>?_);go_simp;refine(G _).l ?_;rintro e V7 ⟨rfl,T⟩;have P:=i.i (T.l i.size);refine a _ _ (m _ P) (λhHeld=>?_);have d:=(T.u b (lt_of_heap L)).i L;refine Ef 8 I hHeld ?_;refine Ef 12 I hHeld ?_;have s0:=EV 0 d;have z0:=Fg 0 d;have s1:=EV 1 d;have z1:=Fg 1 d;have s2:=EV 2 d;have z2:=Fg 2 d;have s3:=EV 3 d;have z3:=Fg 3 d;have s4:=EV 4 d;have z4:=Fg 4 d;refine rd 14 I (λK a=>?_);go_simp;obtain⟨N,o⟩:=E ((((((V7.setCell (O b 0) (.a c0.toNat)).setCell (O b 1) (.d p)).setCell (O b 2) (.a r)).setCell (O b 3) (.a t)).setCell (O b 4) (.string D)));have C:Below f.heap.size f N:=by rw[o];exact(((((P.c).c).c).c).c)
     rw[<-o];refine a _ _ (m _ C) (λhHeld=>?_);refine B8 EG ?_ _;clear hHeld s0 s1 s2 s3 s4 z0 z1 z2 z3 z4;have H:g≠b:=U;have S:Hid (N.heap[b]?=some (.cells #[.a c0.toNat,.d p,.a r,.a t,.string D] 182 (0,0))):=J (by rw[o];exact(AJ _ b 4 _ 182 _ (AJ _ b 3 _ 182 _ (AJ _ b 2 _ 182 _ (AJ _ b 1 _ 182 _ (AJ _ b 0 _ 182 _ d))))));have z:=C;have y:=J ((z.u g am).i af);have aL:=J (aw.o.i (z.b));have b4:=H;clear z H M r1 m u i P A T L o C d
    rotate_left
   rotate_left 2
   focus
    go_simp;obtain⟨k,A⟩:=E ((f.alloc (.cells #[.a 0,.d 0,.a 0,.a 0,.string ⟨#[]⟩] 182)).drew);obtain⟨b,x⟩:=E f.heap.size;have u:Below f.heap.size f k:=by rw[A];exact Pb (Iy)
    have L:k.heap[b]?=some (.cells #[.a 0,.d 0,.a 0,.a 0,.string ⟨#[]⟩] 182 (0,0)):=by rw[A,x];exact AR _ _
    have bg:=Ci x.A;refine a _ _ (m _ (by rw[<-A];exact u)) (λhHeld=>?_);rw[<-A];simp only[<-x];clear a K A;change Hid _ at x;refine rd 3 I (λK a=>?_);go_simp;refine(aM _).l ?_;rintro e F ⟨rfl,Q⟩;have i:=u.i (Q.l u.size);refine a _ _ (m _ i) (λhHeld=>?_);refine Ef 4 I hHeld ?_;refine rd 7 I (λK a=>?_);go_simp;refine(G _).l ?_;rintro e V7 ⟨rfl,T⟩;have P:=i.i (T.l i.size);refine a _ _ (m _ P) (λhHeld=>?_);have d:=(T.u b (AQ (lt_of_heap L) Q.size)).i ((Q.u b (lt_of_heap L)).i L);refine Ef 8 I hHeld ?_;refine Ef 12 I hHeld ?_;have s0:=EV 0 d;have z0:=Fg 0 d;have s1:=EV 1 d;have z1:=Fg 1 d;have s2:=EV 2 d;have z2:=Fg 2 d;have s3:=EV 3 d;have z3:=Fg 3 d;have s4:=EV 4 d;have z4:=Fg 4 d;refine rd 14 I (λK a=>?_);go_simp;obtain⟨N,o⟩:=E ((((((V7.setCell (O b 0) (.a c0.toNat)).setCell (O b 1) (.d p)).setCell (O b 2) (.a r)).setCell (O b 3) (.a t)).setCell (O b 4) (.string D)));have C:Below f.heap.size f N:=by rw[o];exact(((((P.c).c).c).c).c)
    rw[<-o];refine a _ _ (m _ C) (λhHeld=>?_);refine B8 EG ?_ _;clear hHeld s0 s1 s2 s3 s4 z0 z1 z2 z3 z4;have H:g≠b:=U;have S:Hid (N.heap[b]?=some (.cells #[.a c0.toNat,.d p,.a r,.a t,.string D] 182 (0,0))):=J (by rw[o];exact(AJ _ b 4 _ 182 _ (AJ _ b 3 _ 182 _ (AJ _ b 2 _ 182 _ (AJ _ b 1 _ 182 _ (AJ _ b 0 _ 182 _ d))))));have z:=C;have y:=J ((z.u g am).i af);have aL:=J (aw.o.i (z.b));have b4:=H;clear z H M r1 m u i P Q T L o C d
   rotate_left
   all_goals
    have T:=EV 0 S;have b:=EV 1 S;have b:=EV 2 S;have b:=EV 3 S;have b:=EV 4 S;have q0:=EV 0 y;have f0:=Fg 0 y;have q1:=EV 1 y;have f1:=Fg 1 y;have q2:=EV 2 y;have f2:=Fg 2 y;have q3:=EV 3 y;have f3:=Fg 3 y;have q4:=EV 4 y;have f4:=Fg 4 y;by_cases z:r<t
    .have H:(r:Int)<(t:Int):=U;have G:Hid (FJ s=some (JB s)):=J (by unfold FJ SB;rw[hs,<-aF.o,<-aG.o];simp[az,JB,<-R.o,<-j.o,z]);clear e1 e2 e3 e4 e5 e6 e0 b7 Sx az;go_wp2_with fail;go_region;go_wp2_with fail;have u:Qw (JB s)=.agg #[.a c0.toNat,.d p,.a r,.a t,.string D]:=by unfold Qw JB;rw[aO.o,R.o,j.o,aT.o,aK.o]
     refine BE (v:=.tuple #[.agg #[.a c0.toNat,.d p,.a r,.a t,.string D],.bool true]) ?_ I ⟨JB s,?_,?_,?_⟩
     .simp[results,go_sem,q0,q1,q2,q3,q4]
     .rw[u,G.o];rfl
     .intro q M;rw[G.o]at M;cases M;rfl
     exact Pb (((((aL.o.c).c).c).c).c)
    have H:¬(r:Int)<(t:Int):=U;have G:Hid (FJ s=none):=J (by unfold FJ SB;rw[hs,<-aF.o,<-aG.o];simp[az,JB,<-R.o,<-j.o,z]);clear e1 e2 e3 e4 e5 e6 e0 b7 Sx az;go_wp2_with fail;go_region;go_wp2_with fail;have u:Qw (JB s)=.agg #[.a c0.toNat,.d p,.a r,.a t,.string D]:=by unfold Qw JB;rw[aO.o,R.o,j.o,aT.o,aK.o]
    refine BE (v:=.tuple #[.agg #[.a c0.toNat,.d p,.a r,.a t,.string D],.bool false]) ?_ I ⟨JB s,?_,?_,?_⟩
    .simp[results,go_sem,q0,q1,q2,q3,q4]
    .rw[u,G.o];rfl
    .intro q M;rw[G.o]at M;cases M
    exact Pb (((((aL.o.c).c).c).c).c)
 have G:Hid (FJ s=none):=J (by unfold FJ SB;rw[<-aF.o,<-aG.o];simp[az]);have Q:¬(n1:Int)=(n2:Int):=U;go_enter func133,ntmps133;go_wp2_with (first|(rw[<-ay.o])|(rw[<-Hg.o])|fail);refine BL (S:=λ_=>True) EG trivial (λhHeld=>?_);refine Ef 0 I hHeld ?_;refine Ef 1 I hHeld ?_;refine Ef (v:=.bool false) 2 I hHeld ?_;refine Ef (v:=.bool false) 3 I hHeld ?_;refine Ef 4 I hHeld ?_;refine Ef 5 I hHeld ?_;refine Ef 6 I hHeld ?_;refine Ef 8 I hHeld ?_;refine Ef 9 I hHeld ?_;refine Ef 10 I hHeld ?_;refine rd 7 I (λK a=>?_);go_simp;refine(aS _).l ?_;rintro e V1 ⟨rfl,aE⟩;refine a _ _ trivial (λhHeld=>?_);clear a K;refine rd 11 I (λK a=>?_);go_simp;refine(aN _).l ?_;rintro e B ⟨rfl,aV⟩;refine a _ _ trivial (λhHeld=>?_);clear a K;refine Ef (v:=.bool true) 12 I hHeld ?_;refine Ef (v:=.bool true) 13 I hHeld ?_;refine B8 EG ?_ _;have aA:Below l.heap.size l B:=(Pb (AP _ l)).i (aE.i (aV.l aE.size));have aB:=(aA.u g aH).i aR;have v:=J aB;have aU:=J (aI.o.i (aA.b));have ah:=lt_of_heap aB;have q0:=EV 0 v;have q1:=EV 1 v;have q2:=EV 2 v;have q3:=EV 3 v;have q4:=EV 4 v;have f0:=Fg 0 v;have f1:=Fg 1 v;have f2:=Fg 2 v;have f3:=Fg 3 v;have f4:=Fg 4 v;go_wp2_with fail;refine BE (v:=.tuple #[.agg #[.a 0,.d 0,.a 0,.a 0,.string ⟨#[]⟩],.bool false]) ?_ I ⟨⟨0,0,0,0,[]⟩,?_,?_,?_⟩
 .simp[results,go_sem,q0,q1,q2,q3,q4]
 .rw[G.o];rfl
 .intro q M;rw[G.o]at M;cases M
 exact((((aU.o.c).c).c).c).c
end
namespace Y
open Go.RowKit Pk
open Go.Nt (Fp Pg FJ Ea fy MK JN FD J0 N2 Le IK)
theorem xb(l:List Fp)(f:Fp)(b n a:Nat):Ea (l++[f]) b n a=if(Ea l f.b f.num f.at_).isSome then Ea l b n a else QK (Ea l) f.b f.num f.at_ f b n a:=by
 rw[fy];unfold QK;by_cases e:b=f.b/\n=f.num/\a=f.at_
 .obtain⟨rfl,rfl,rfl⟩:=e;have c:MK f.b f.num f.at_ f=true:=JN.2 ⟨I,I,I⟩;rw[c];simp
 have c:MK b n a f=false:=by
  cases h:MK b n a f with
  |false=>rfl
  |true=>have:=JN.1 h;exact absurd ⟨this.1.A,this.2.1.A,this.2.2.A⟩ e
 rw[c,AC e];have:(if(Ea l b n a).isSome=true then Ea l b n a else if false=true then some f else none)=Ea l b n a:=by cases Ea l b n a<;>simp
 rw[this];simp
theorem ve(w:Z)(g n:Nat)(l:List Fp)(f:Fp)(T:KO w g n (Ea l))(W:n<=100000)(Q:f.b<=1000000)(R:f.num<=4294967295)(S:f.at_<=1000000):Calls prog 134 #[.e g,fv f] w λe w'=>e=.a (.tuple #[])/\KO w' g (n+1) (Ea (l++[f]))/\Fm (λk=>k=g) w w':=by
 have i:=T.lt;have A:=J (xb l f);obtain⟨b,F⟩:∃x,x=f.b:=⟨_,I⟩;obtain⟨r,G⟩:∃x,x=f.num:=⟨_,I⟩;obtain⟨a,D⟩:∃x,x=f.at_:=⟨_,I⟩;have M:Hid (fv f=.agg #[.a b,.d r,.a a,.a f.c,.string (X f.a),.a f.d]):=J (by rw[F,G,D];rfl);rw[M.o];rw[<-F,<-G,<-D]at A;rw[<-F]at Q;rw[<-G]at R;rw[<-D]at S;obtain⟨o,c⟩:∃x,x=f.c:=⟨_,I⟩;obtain⟨j,V⟩:∃x,x=X f.a:=⟨_,I⟩;obtain⟨P,W⟩:∃x,x=f.d:=⟨_,I⟩;rw[<-c,<-V,<-W]at M |-;clear F G D c V W;obtain⟨K,d⟩:=E (w.alloc (.cells #[.a b,.d r,.a a,.a o,.string j,.a P] 187));obtain⟨c,h⟩:=E (K.alloc (.cells #[.a b,.d r,.a a] 189));have t:=Ia d;obtain⟨v,p⟩:∃g,g=w.heap.size:=⟨_,I⟩;have u:K.heap[v]?=some (.cells #[.a b,.d r,.a a,.a o,.string j,.a P] 187 (0,0)):=by rw[d,p];exact AR w _
 have L:c.heap[v]?=some (.cells #[.a b,.d r,.a a,.a o,.string j,.a P] 187 (0,0)):=by rw[h,Jm];exact u
 have m:c.heap[v+1]?=some (.cells #[.a b,.d r,.a a] 189 (0,0)):=by rw[h,p,<-t];exact AR K _
 have N:KO c g n (Ea l):=T.y (by rw[h,Jm,d,AO w _ _ i]);have B:Fm (λk=>k=g) w c:=by rw[h,d];exact((Fm.refl _ w).alloc _).alloc _
 have d0:=EV 0 u;have d1:=EV 1 u;have d2:=EV 2 u;have k0:=EV 0 m;have k1:=EV 1 m;have k2:=EV 2 m;have C:=(N.look Q R S).1;obtain⟨q,G⟩:=E ((Ea l b r a).getD SK);obtain⟨z,V⟩:=E ((Ea l b r a).isSome);rw[<-G,<-V]at C;rw[<-V]at A;unfold fv pv at C;change Hid _ at d h;have F:=J N;change Hid _ at B L m t;rw[<-p]at t;change Hid _ at p i;clear u N G V T;obtain⟨i,s⟩:=E (c.alloc (.cells #[.a q.b,.d q.num,.a q.at_,.a q.c,.string (X q.a),.a q.d] 187));have C:∀k,k<c.heap.size->i.heap[k]?=c.heap[k]? := λk G=>by rw[s];exact AO c _ k G
 have D:Hid (Fm (λk=>k=g) w i):=J (by rw[s];exact B.o.alloc _);have N:=J (F.o.y (C g F.o.lt));have i:=(C v (lt_of_heap L)).i L;have B:=(C (v+1) (lt_of_heap m)).i m;change Hid _ at s;obtain⟨_,u,F,G⟩:=N.o.store Q R S U f;rw[M.o]at u;unfold pv at u;have T:=J F;have V:=J (D.o.map (λ_=>rfl) G);have c0:=EV 0 B;have c1:=EV 1 B;have c2:=EV 2 B;have e0:=EV 0 i;have e1:=EV 1 i;have e2:=EV 2 i;have e3:=EV 3 i;have e4:=EV 4 i;have e5:=EV 5 i;clear C F G i B;cases z with
 |true=>have H:Hid (∀x y z,Ea l x y z=Ea (l++[f]) x y z):=J (λx y z=>by rw[A.o];rfl);go_enter func134,ntmps134;go_wp2_with (first|(rw[<-d.o,<-p.o])|(rw[<-h.o,t.o])|(rw[<-s.o])|fail);go_end0;exact⟨I,(N.o.congr H).l U,D⟩
 |false=>have H:Hid (∀x y z,QK (Ea l) b r a f x y z=Ea (l++[f]) x y z):=J (λx y z=>by rw[A.o];rfl);go_enter func134,ntmps134;go_wp2_with (first|(rw[<-d.o,<-p.o])|(rw[<-h.o,t.o])|(rw[<-s.o])|fail);go_end0;exact⟨I,T.o.congr H,V⟩
theorem xg(w:Z):(Instr.makeMap 135 none).run prog w=.ok (.e w.heap.size) (w.alloc (.map #[] 0)):=by simp[Instr.makeMap,Result.andThen]
def Gn(m:M)(i p:Nat):Du:=pad (m.c i p)
theorem qO{m:M}(c:WF m){i p:Nat}(a:i<m.a)(b:p<m.d):(Gn m i p).length=64:=by have:=c.c i p a b;unfold Gn pad;simp;omega
def Ro(m:M)(w:Z)(e:Ending)(w':Z):Prop:=
 e=.a (.e w.heap.size)/\KO w' w.heap.size (m.a*m.d) (Ea (FD (Gn m) m.d m.a))/\Below w.heap.size w w'
theorem QY(w:Z)(A u s:Nat)(L:Loc)(m:M)(d:WF m)(h:CP w A u s L m)(z:u<=w.heap.size)(R:m.b≠0):Calls prog 80 #[.c s] w λe w'=>Ro m w e w':=by
 have f:=d.a;have T:=d.b;obtain⟨c,C⟩:=E (w.alloc (.map #[] 0));have y:=JK C;have x:KO c w.heap.size 0 (λ_ _ _=>none):=by rw[C];exact yh w
 have v:=J (λ(V:Z) (t:Below w.heap.size w V)=>(EM.f h z t:CP V A u s L m));have D:=xg w;rw[<-C]at D;obtain⟨g,Q⟩:=E w.heap.size;unfold Ro;rw[<-Q]at x z D y v |-;have K:=J (λV t=>GC V A u s L m (v V t));have B:=J (λV t=>GH V A u s L m (v V t));have N:Hid (∀(V:Z),Below g w V->∀(i p:Nat),i<m.a->p<m.d->Calls prog 132 #[.c s,.a i,.a p] V λe w'=>e=.a (.tuple #[.string (X (Gn m i p)),.bool true])/\Below V.heap.size V w'):=J (λV t i p o H=>by
  have:=x7 V A u s L m (i:Nat) (p:Nat) d (v V t);have e:JP m (i:Nat) (p:Nat)=some (Gn m i p):=by unfold JP;rw[AD ⟨R,by simp[hasB,o],by omega,by omega⟩];rfl
  rw[e]at this;exact this)
 have F:Hid (∀(V:Z) (i p:Nat),i<m.a->p<m.d->Calls prog 133 #[.string (X (Gn m i p))] V λe w'=>QO (Gn m i p) V e w'):=J (λV i p o H=>mO (Gn m i p) V (qO d o H));obtain⟨S,H⟩:=E m.a;obtain⟨c,D⟩:=E m.d;rw[<-H]at K N F f |-;rw[<-D]at B N F T |-;have f:=J x;have P:=J y;change Hid _ at Q;obtain⟨G,Q⟩:=E (Gn m);rw[<-Q]at N F |-;clear h d y x C H D R Q v;go_enter func80,ntmps80;go_wp2_with fail;refine(K _ P).l ?_;rintro e w' ⟨rfl,d⟩;have v:=d.A;subst v;go_wp2_with fail;go_loopw [13] (λi wr=>∃k n:Nat,k<=S/\n<=k*c/\i=.a k/\Hid (KO wr g n (Ea (FD G c k)))/\Hid (Below g w wr)) (λi _=>S-(intOf i).toNat)
 case atStart=>exact⟨0,0,AW _,AW _,I,J (f.o.congr λb r a=>rfl),P⟩
 case round=>
  obtain⟨k,n,hk,hn,rfl,l,j⟩:=hrel;by_cases C:k<S
  .go_wp2_with fail;refine(B _ j).l ?_;rintro e w' ⟨rfl,d⟩;have v:=d.A;subst v;go_wp2_with fail;go_loopw [18] (λi wr=>∃p f:Nat,p<=c/\f<=n+p/\i=.a p/\Hid (KO wr g f (Ea (FD G c k++J0 G k p)))/\Hid (Below g w wr)) (λi _=>c-(intOf i).toNat)
   case atStart=>exact⟨0,n,AW _,AB _,I,J (l.o.congr λb r a=>by rw[J0,Br]),j⟩
   obtain⟨p,f,_,_,rfl,l,j⟩:=hrel;by_cases x:p<c
   .have d:=l.o.lt;have y:=J (N wr j k p C x);go_wp2_with fail;refine y.o.l ?_;rintro e R ⟨rfl,v⟩;have B:=J (F R k p C x);have C:=J (j.o.i (v.b));have H:=J (l.o.y (v.u g d));have o:=H.o.lt;obtain⟨_,x⟩:=E (X (G k p));rw[<-x]at B;rw[<-x];clear y v l j x;go_wp2_with fail;refine B.o.l ?_;rintro e y ⟨q,rfl,s,D⟩;have d:=J (C.o.i (D.b));have Q:=J (H.o.y (D.u g o));have t:=Q.o.lt;unfold Qw;rw[show Go.Proofs.YtodmdkhdbfbfgaaGreatDoor.X q.a=X q.a from I];obtain⟨N,x⟩:=E (y.alloc (.cells #[.a q.b,.d q.num,.a q.at_,.a q.c,.string (X q.a)] 182));have A:=J x;obtain⟨_,R⟩:=E y.heap.size;have z:=J R;have o:=Gi x R.A;have K:=JK x;have v:=J (d.o.i (K.b));have P:=J (Q.o.y (K.u g t));have t:=P.o.lt;have c0:=EV 0 o;have c1:=EV 1 o;have c2:=EV 2 o;have c3:=EV 3 o;have c4:=EV 4 o;have F:f<=600:=by have:k*c<=32*16:=Co U T;omega
    cases y:FJ (G k p)with
    |none=>
     have W:Hid (J0 G k (p+1)=J0 G k p):=J (by rw[J0,N2,y];simp);clear x R o K s H C B Q d D;simp only[Option.isSome_none];go_wp2_with rw[<-A.o,<-z.o];go_roundw
     case rel=>exact⟨p+1,f,by omega,by omega,by go_num,J (by rw[W.o];exact P),v⟩
     case measure=>simp[intOf];omega
    |some u=>
     have t:=s u y;subst t;have t:=Go.Nt.Nl (G k p);have u:=(Go.Nt.MP y).2.1;have W:Hid (FD G c k++J0 G k (p+1)=(FD G c k++J0 G k p)++[Fp.mk' q k]):=J (by rw[J0,N2,y];simp);rw[<-u]at t;have T:=J (ve N g f (FD G c k++J0 G k p) (Fp.mk' q k) P U (by show q.b<=_;omega) (by show q.num<=_;omega) (by show q.at_<=_;omega));unfold fv Fp.mk' at T;clear x R o K s H C B Q d D y u t;simp only[Option.isSome_some];go_wp2_with rw[<-A.o,<-z.o];refine T.o.l ?_;rintro e d ⟨rfl,C,x⟩;have o:Hid (KO d g (f+1) (Ea (FD G c k++J0 G k (p+1)))):=J (by rw[W.o];exact C);have d:=J (v.o.i (x.f (B:=g) (λk hk=>Ci hk.A) U));clear C x T P v;go_wp2_with fail;go_roundw
     case rel=>exact⟨p+1,f+1,by omega,by omega,by go_num,o,d⟩
     case measure=>simp[intOf];omega
   have F:p=c:=U;subst F;go_wp2_with fail;go_roundw
   case rel=>exact⟨k+1,f,by omega,by rw[Nat.succ_mul];omega,by go_num,l,j⟩
   case measure=>simp[intOf];omega
  have c:k=S:=U;subst c;go_wp2;go_ret;exact⟨I,l.o.l hn,j⟩
end Y
namespace Y
open Go.RowKit Pk
open Go.Nt (Fp Ea Fc FE Le Oa)
theorem yL(g n b r:Nat)(S:Nat->Nat->Bool)(w:Z)(h:GB w g n S)(o:b<=1000000)(s:r<=4294967295)(q:n<=1000000):Calls prog 135 #[.e g,lv b r] w λe w'=>e=.a (.tuple #[])/\GB w' g (n+1) (λx y=>(x==b&&y==r)||S x y)/\Fm (λk=>k=g) w w':=by
 obtain⟨d,a⟩:=E (w.alloc (.cells #[.a b,.d r] 90));obtain⟨_,c⟩:=E w.heap.size;have f:=Gi a c.A;have m:GB d g n S:=h.y (by rw[a];exact AO w _ _ h.lt);have l:Fm (λk=>k=g) w d:=by rw[a];exact(Fm.refl _ w).alloc _
 have c0:=EV 0 f;have c1:=EV 1 f;obtain⟨_,t,i,p⟩:=m.store o s q;unfold lv at t |-;change Hid _ at i;have j:=J (l.map (λ_=>rfl) p);change Hid _ at a c;go_enter func135,ntmps135;go_wp2_with rw[<-a.o,<-c.o];go_end0;exact⟨I,i,j⟩
theorem nh(g n b r:Nat)(S:Nat->Nat->Bool)(w:Z)(h:GB w g n S)(m:b<=1000000)(o:r<=4294967295):Calls prog 191 #[.e g,lv b r] w λe w'=>e=.a (.bool (S b r))/\Below w.heap.size w w':=by obtain⟨l,a⟩:=E (w.alloc (.cells #[.a b,.d r] 90));obtain⟨_,c⟩:=E w.heap.size;have f:=Gi a c.A;have i:GB l g n S:=h.y (by rw[a];exact AO w _ _ h.lt);have c0:=EV 0 f;have c1:=EV 1 f;have d:=JK a;have j:=i.look m o;obtain⟨_,k⟩:=E (S b r);rw[<-k]at j |-;unfold lv at j |-;change Hid _ at d a c;clear h i f k;go_enter func191,ntmps191;go_wp2_with rw[<-a.o,<-c.o];go_ret;exact⟨I,d.o.alloc d.o.size _⟩
theorem my(w:Z):(Instr.makeMap 130 none).run prog w=.ok (.e w.heap.size) (w.alloc (.map #[] 0)):=by simp[Instr.makeMap,Result.andThen]
def kI(l:List Fp)(w:Z)(e:Ending)(w':Z):Prop:=
 e=.a (.e w.heap.size)/\GB w' w.heap.size 100000 (Fc l)/\Below w.heap.size w w'
theorem kN(w:Z)(g n:Nat)(l:List Fp)(hF:KO w g n (Ea l))(c:n<=100000)(F:∀f∈l,Le f):Calls prog 81 #[.e g] w λe w'=>kI l w e w':=by
 obtain⟨D,V,T,C⟩:=hF;have t:=V.lt;have d:=AG V.size_le c;obtain⟨p,L⟩:=E (w.alloc (.map #[] 0));have u:=JK L;have K:GB p w.heap.size 0 (λ_ _=>false):=by rw[L];exact wK w
 have d:=my w;rw[<-L]at d;have M:p.ownsMap prog 189 NS g n D:=by obtain⟨i,c,m,o⟩:=V;exact⟨i,c,(u.u g t).i m,o⟩
 obtain⟨c,s⟩:=E w.heap.size;unfold kI;rw[<-s]at K d u t |-;change Hid _ at M;have i:=J K;change Hid _ at u;have Hh:=J T;have Hk:=J C;change Hid _ at F;have B:=K.lt;clear V T C L K s;go_enter func81,ntmps81;go_wp2_with (first|(at_range;refine DV _ I _ 135 I 189 187 KX underlying135 _ g _ D I M ?_;intro _ H t G)|go_in);go_frame;have K:=J (u.o.C t U (λq s=>by cases s));have V:=J (i.o.y (t.u c B (λe=>by cases e)));change Hid _ at H;have N:=G;obtain⟨r,L⟩:=E p.heap.size;rw[<-L]at H B N |-;clear t M i u d G L;go_loopw [4] (λ_ G=>∃(left:Lit->Bool) (cnt k:Nat) (S:Nat->Nat->Bool),G.ranges prog 189 NS g r n D left cnt/\k+cnt<=Maps.size D/\Hid (∀b n,S b n=true->Fc l b n=true)/\Hid (∀b n a,b<=1000000->n<=4294967295->a<=1000000->(Ea l b n a).isSome=true->left (pk b n a)=false->S b n=true)/\Hid (GB G c k S)/\Hid (Below c w G))
  (λ_ G=>G.rangeLeft g r)
 case atStart=>exact⟨_,_,0,_,H,by omega,J (λb n h=>by cases h),J (λb n a m o P G B=>by rw[(Hh.o b n a m o P).1,G]at B;cases B),V,K⟩
 case round=>
  clear H K V;obtain⟨left,cnt,k,S,t,_,u,H,p,K⟩:=hrel;go_wp2_with (first|(at_next;refine DH _ rfl _ rfl 189 KX NS id id (λkey V C=>⟨key,I⟩) (λv _ _=>⟨v,I⟩) g r _ _ _ _ I t ?_ ?_)|go_in)
  .intro _ L;have i:Hid (∀b n,S b n=Fc l b n):=J (λb n=>by
    cases W:S b n with
    |true=>exact(u b n W).A
    |false=>
     cases T:Fc l b n with
     |false=>rfl
     |true=>
      obtain⟨f,R,rfl,rfl⟩:=FE.1 T;have d:=F f R;have M:(Ea l f.b f.num f.at_).isSome=true:=by
       cases F:Ea l f.b f.num f.at_ with
       |some _=>rfl
       |none=>exact absurd ⟨I,I,I⟩ (Go.Nt.MM.1 F f R)
      have:=H f.b f.num f.at_ (Dz d.b) (Dz d.n) (by have:=d.a;exact Dz d.o) M (L _);rw[W]at this;cases this)
   clear t u H;go_wp2;go_ret;exact⟨I,(p.o.congr i).l U,K⟩
  intro x _ V _ _ T a9 af aP hv aC aa am d aL aG;have L:=CG aC;obtain⟨b,i,a,Q,N,F,rfl⟩:=Hk V L;have M:=KX.inj (af.i I) (LC Q N F);subst M;have aH:(Ea l b i a).isSome=true:=by rw[<-(Hh.o b i a Q N F).1];exact L
  have a7:Fc l b i=true:=by obtain⟨f,R⟩:=Bi.1 aH;have:=Oa R;exact FE.2 ⟨f,this.1,this.2.1,this.2.2.1⟩
  have V:=J (K.o.C d (C5 p.o.lt) (λq s=>by cases s;omega));have M:=J (p.o.y (d.u c p.o.lt (λe=>by cases e;omega)));have R:=J aa;have aS:=J t;change Hid _ at a7;have s:r<T.heap.size:=by rw[aL];exact t.lt
  clear aC hv af aP d aL aa t L aH K p;try simp only[id]at aG
  unfold pv at aG;try simp only[id]
  unfold pv;obtain⟨p,s⟩:=E (T.alloc (.cells #[.a b,.d i,.a a] 189));obtain⟨_,K⟩:=E T.heap.size;have d:=Gi s K.A;have L:=JK s;have c0:=EV 0 d;have c1:=EV 1 d;have t:=J (M.o.y (L.u c M.o.lt));have T:=J (V.o.i (L.l (by have:=V.o.size;have h9:=M.o.lt;omega)));have ad:Hid (p.ranges prog 189 NS g r n D (λz=>left z && !z.sameKey (pk b i a)) a9):=J (by rw[s];exact R.o.alloc _);have A:=J (yL c k b i S p t Q N U);unfold lv at A;change Hid _ at s K;clear d L M V R;go_wp2_with rw[<-s.o,<-K.o];refine A.o.l ?_;rintro e _ ⟨rfl,p,d⟩;have V:=ad.o.kept (row:=some c) ⟨d.os,d.tape,d.output,d.size,λj K s=>d.u j K (λe=>s (by rw[e]))⟩ (by intro e;cases e;omega) (by intro e;cases e;omega);have s:=J (T.o.i (d.f (B:=c) (λk C=>Ci C.A) (C5 t.o.lt)));have c:=J p;have L:=J V;clear p d V A t T ad;go_wp2_with fail;go_roundw
  case rel=>
   refine⟨_,a9,k+1,_,L,by omega,J (λx y h=>?_),J (λx y z m o P G B=>?_),c,s⟩
   .simp only[Ce,AV,Cu]at h;rcases h with⟨rfl,rfl⟩|h
    .exact a7
    exact u x y h
   by_cases e:x=b/\y=i
   .obtain⟨rfl,rfl⟩:=e;simp
   have W:=DL (λh=>e (by have:=iW m o P Q N F h;exact⟨this.1,this.2.1⟩));rw[W]at B;have:=H x y z m o P G (EU B);simp[this]
  rw[L.o.left_eq,aS.o.left_eq];exact am
end Y
end Go.Proofs.YtodmdkhdbfbfgaaGreatDoor
namespace Go.Nt
variable {S:Nat->Bool} {k:Nat}
def IP(S:Nat->Bool):Nat->Nat->Nat
 | 0,_=>0
 | f+1,k=>if S k then IP S f ((k+1)%4294967296)+1 else 0
def M2(S:Nat->Bool)(k:Nat):Nat:=(k+IP S 700 k)%4294967296
theorem YH(S:Nat->Bool):∀(f k j:Nat),k<4294967296->j<f->S ((k+j)%4294967296)=false->S ((k+IP S f k)%4294967296)=false/\IP S f k<=j/\IP S (f+1) k=IP S f k
 |0,k,j,a,g,_=>by omega
 | f+1,k,j,a,g,h=>by
   rw[IP,IP];cases c:S k with
   |false=>
     simp only[BH,CR,Bq];rw[Bd a];refine⟨c,AW _,?_⟩
     first|rfl|trivial
   |true=>
     simp only[Dr];cases j with
     |zero=>rw[Bq,Bd a,c]at h;cases h
     |succ j=>
       have e:((k+1)%4294967296+j)%4294967296=(k+(j+1))%4294967296:=by rw[Nat.mod_add_mod,show k+1+j=k+(j+1) by omega]
       obtain⟨b,_,d⟩:=YH S f ((k+1)%4294967296) j (BU _ EB) U (by rw[e];exact h);refine⟨?_,by omega,by rw[d]⟩;rw[Nat.mod_add_mod]at b;rw[show k+(IP S f ((k+1)%4294967296)+1)=k+1+IP S f ((k+1)%4294967296) by omega];exact b
def KF(S:Nat->Bool):Prop:=∀k,k<4294967296->∃j,j<=600/\S ((k+j)%4294967296)=false
theorem Jk(h:KF S)(a:k<4294967296):S (M2 S k)=false/\M2 S k<4294967296:=by obtain⟨j,_,b⟩:=h k a;exact⟨(YH S 700 k j a U b).1,BU _ EB⟩
theorem Va(a:k<4294967296)(h:S k=false):M2 S k=k:=by unfold M2;rw[show IP S 700 k=0 by rw[IP,h];rfl,Bq,Bd a]
theorem ZM(h:KF S)(f:k<4294967296)(e:S k=true):M2 S k=M2 S ((k+1)%4294967296)/\IP S 700 ((k+1)%4294967296)<IP S 700 k:=by
 obtain⟨j,_,d⟩:=h ((k+1)%4294967296) (BU _ EB);have a:=(YH S 699 ((k+1)%4294967296) j (BU _ EB) U d).2.2;have b:IP S 700 k=IP S 699 ((k+1)%4294967296)+1:=by show(if S k then IP S 699 ((k+1)%4294967296)+1 else 0)=_;rw[e,AD I]
 have c:IP S 700 ((k+1)%4294967296)=IP S 699 ((k+1)%4294967296):=a;refine⟨?_,by omega⟩;unfold M2;rw[b,c,Nat.mod_add_mod];congr 1;omega
theorem filter_one{f:Nat->Nat}(x:Nat):∀(c:List Nat),c.Nodup->(∀a∈c,∀b∈c,f a=f b->a=b)->c.length<=(c.filter λj=>f j != x).length+1
 | [],_,_=>by simp
 | j::c,hn,hi=>by
   rw[Ct]at hn;have i:=filter_one x c hn.2 (λa g b h=>hi a (by simp[g]) b (by simp[h]));by_cases e:f j=x
   .have d:c.filter (λj=>f j != x)=c:=by
     rw[Cg];intro a g;simp only[Di,ne_eq];intro e2
     have:=hi a (by simp[g]) j EJ (by rw[e,e2])
     subst this;exact hn.1 g
    rw[Db (by simp[e]),d];simp
   rw[Da (by simp[e])];simp only[Ae];omega
theorem Pe{f:Nat->Nat}:∀(l c:List Nat),c.Nodup->(∀a∈c,∀b∈c,f a=f b->a=b)->l.length<c.length->∃j∈c,f j∉l
 | [],c,_,_,h=>by
   cases c with
   |nil=>simp at h
   |cons j c=>exact⟨j,by simp,by simp⟩
 | x::l,c,hn,hi,h=>by
   have n:=filter_one x c hn hi;obtain⟨j,m,k⟩:=Pe l (c.filter λj=>f j != x) (hn.filter _) (λa g b i=>hi a (Ad.1 g).1 b (Ad.1 i).1) (by simp only[Ae]at h;omega);obtain⟨d,e⟩:=Ad.1 m;refine⟨j,d,?_⟩;simp only[Ax,not_or];exact⟨by simpa using e,k⟩
theorem YU{l:List Fp}(q:l.length<=512)(b:Nat):KF (Fc l b):=by
 intro k _;obtain⟨j,n,i⟩:=Pe (f:=λj=>(k+j)%4294967296) (l.map Fp.num) (List.range 601) List.nodup_range (λa e c g h=>by simp only[Bv]at e g;have p:(k+a)%4294967296=(k+c)%4294967296:=h;omega) EL
 refine⟨j,by simp at n;omega,?_⟩;cases m:Fc l b ((k+j)%4294967296)with
 |false=>rfl
 |true=>obtain⟨f,d,_,o⟩:=FE.1 m;exact absurd (AZ.2 ⟨f,d,o⟩) i
end Go.Nt
namespace Go.Proofs.YtodmdkhdbfbfgaaGreatDoor
namespace Y
open Go.RowKit Pk
variable {m m0:M} {Q K:Nat->Bool} {b p b0:Nat} {x:Du} {xs:List Du} {s:LS}
structure JX (m:M) (Q:Nat->Bool) (b p:Nat):Prop where
 open_:p<m.d->b<m.a/\m.e b=false/\m.g b=p/\Q b=false
 c:∀i,Q i=true->i<m.a/\m.e i=false/\m.g i=0
theorem JX.shut(m:M)(Q:Nat->Bool)(b:Nat)(h:∀i,Q i=true->i<m.a/\m.e i=false/\m.g i=0):JX m Q b m.d:=⟨λh=>absurd h (Nat.lt_irrefl _),h⟩
theorem Zm(t:WF m)(h:JX m Q b p)(r:p<m.d):JX (El m (b:Nat) (p:Nat) x).2 Q b (if(El m (b:Nat) (p:Nat) x).1 then p+1 else m.d):=by
 obtain⟨o,q,_,n⟩:=h.open_ r;have k:∀i,Q i=true->i≠b:=λi a e=>by rw[e,n]at a;cases a
 rcases Qv m b p x t with⟨s,_,_,_,_,_,_,e⟩|⟨j,e|⟨e,_⟩|⟨_,_,_,_,_,c,_,⟨e,_⟩|⟨e,_⟩⟩⟩
 .rw[s,AD I,e];refine⟨λ_=>⟨o,q,AD I,n⟩,λi a=>?_⟩;obtain⟨d,f,g⟩:=h.c i a;exact⟨d,f,(AC (k i a)).i g⟩
 .rw[j];simp only[BH,CR];rw[e];exact JX.shut m Q b h.c
 .rw[j];simp only[BH,CR];rw[e];exact JX.shut (tick m) Q b h.c
 .rw[j];simp only[BH,CR];rw[e];refine⟨λl=>absurd l (Nat.lt_irrefl _),λi a=>?_⟩;obtain⟨d,f,g⟩:=h.c i a;exact⟨d,f,(AC (k i a)).i g⟩
 rw[j];simp only[BH,CR];rw[e];refine⟨λl=>absurd l (Nat.lt_irrefl _),λi a=>?_⟩;obtain⟨d,f,g⟩:=h.c i a;exact⟨d,(AC (k i a)).i f,(AC (k i a)).i g⟩
theorem VF{Q:Nat->Bool}(b:Nat):∀(l:List Du) (m:M) (p:Nat) (S:Nat->Bool),WF m->JX m Q b p->JX (EY b l m p S).2.1 Q b (EY b l m p S).2.2.1
 | [],m,p,S,_,h=>h
 | x::xs,m,p,S,hw,h=>by
   rw[EY]
   split
   .rename_i d;have a:=Zm (x:=x) hw h d
    split
    .rename_i c;rw[c,AD I]at a;exact VF b xs _ _ _ (QC hw _ _ _) a
    rename_i c;rw[AC c]at a;exact a
   exact h
theorem Zo(s:WF m)(K:Nat->Bool)(h:JX m Q b p):JX (E5 m K Q b).2.1 (E5 m K Q b).2.2.1 ((b+1)%m.a) (E5 m K Q b).2.2.2:=by
 have t:=s.d;have n:(b+1)%m.a<m.a:=BU _ U;unfold E5;split
 .exact JX.shut m Q _ h.c
 split
 .rename_i g;obtain⟨c,d,f⟩:=h.c _ g;refine⟨λ_=>⟨c,d,f,by simp⟩,λi a=>h.c i ?_⟩;simp only[AV]at a;exact a.2
 rename_i g;have l:∀i,Q i=true->i≠(b+1)%m.a:=λi a e=>g (by rw[<-e];exact a);rcases UC m ((b+1)%m.a)with⟨r,_,o,_,e⟩|⟨q,⟨e,_⟩|⟨e,_⟩|⟨_,_,⟨e,_⟩|⟨⟨k,e⟩,_⟩⟩⟩
 .rw[r,AD I];simp only[];rw[e];refine⟨λ_=>⟨n,o,AD I,by simp⟩,λi a=>?_⟩;simp only[AV]at a;obtain⟨c,d,f⟩:=h.c i a.2;exact⟨c,d,(AC (l i a.2)).i f⟩
 all_goals
  rw[q];simp only[BH,CR];rw[e]
 .exact JX.shut m Q _ h.c
 .exact JX.shut (tick m) Q _ h.c
 .refine⟨λj=>absurd j (Nat.lt_irrefl _),λi a=>?_⟩;obtain⟨c,d,f⟩:=h.c i a;exact⟨c,(AC (l i a)).i d,f⟩
 refine⟨λj=>absurd j (Nat.lt_irrefl _),λi a=>?_⟩;obtain⟨c,d,f⟩:=h.c i a;exact⟨c,d,(AC (l i a)).i f⟩
theorem XM(h:m.fail<0):(tick m).fail=m.fail/\(m.b=0->(tick m).b=0):=by
 unfold tick E7;refine⟨?_,λa => ?_⟩
 .repeat' split
  all_goals first|rfl|omega
 rw[AD a];exact a
theorem pS(q:WF m)(f:m.fail<0)(l:b<m.a)(j:m.e b=false)(o:p=m.g b)(s:p<m.d)(r:x.length=64) :
 (El m (b:Nat) (p:Nat) x).2.fail<0/\(El m (b:Nat) (p:Nat) x).2.e=m.e/\((El m (b:Nat) (p:Nat) x).1=true\/(El m (b:Nat) (p:Nat) x).2.b=0):=by
 have i:=XM f;rcases Qv m b p x q with⟨d,_,_,_,_,_,_,e⟩|⟨d,e|⟨e,g⟩|⟨_,_,_,_,_,c,_,⟨e,g⟩|⟨e,g⟩⟩⟩
 .refine⟨by rw[e];show(tick m).fail<0;rw[i.1];exact f,by rw[e];rfl,.w d⟩
 .have n:LL m (b:Nat) (p:Nat) x:=⟨by unfold IE hasB;simp[l,j],by rw[o];simp,by omega,r⟩;refine⟨by rw[e];exact f,by rw[e],.s ?_⟩;rw[e];unfold El at d e;rw[AD n]at d e;have h:=AX M.g e;unfold Gk at d h;simp only[Int.toNat_natCast]at d h;rcases UA m.b m.fail with a|a|a|a
  .rw[AD a]at d;cases d
  .unfold E7 at a
   repeat' split at a
   all_goals simp at a
   all_goals omega
  .rw[AC (by rw[a];decide),AC (by rw[a];decide),AD a]at h
   have:=congrFun h b
   have k:(if b=b then p+1 else m.g b)=m.g b:=this;rw[AD I]at k;omega
  unfold E7 at a
  repeat' split at a
  all_goals simp at a
  all_goals assumption
 .refine⟨by rw[e,i.1];exact f,by rw[e];rfl,.s (by rw[e];exact i.2 g)⟩
 .refine⟨by rw[e];show(tick m).fail<0;rw[i.1];exact f,by rw[e];rfl,.s (by rw[e];exact g)⟩
 omega
theorem Yy(c:m.fail<0)(h:b<m.a)(f:m.e b=false):(FC m (b:Nat)).2.fail<0/\(FC m (b:Nat)).2.e=m.e/\((FC m (b:Nat)).1=true\/(FC m (b:Nat)).2.b=0):=by
 have d:=XM c;rcases UC m b with⟨g,_,_,_,e⟩|⟨g,⟨e,a⟩|⟨e,a⟩|⟨_,_,⟨e,a⟩|⟨⟨_,e⟩,a⟩⟩⟩
 .exact⟨by rw[e];show(tick m).fail<0;rw[d.1];exact c,by rw[e];rfl,.w g⟩
 .rcases a with a|a
  .omega
  rw[f]at a;cases a
 .exact⟨by rw[e,d.1];exact c,by rw[e];rfl,.s (by rw[e];exact d.2 a)⟩
 .omega
 exact⟨by rw[e];show(tick m).fail<0;rw[d.1];exact c,by rw[e];rfl,.s (by rw[e];exact a)⟩
theorem gl(a:m.e b=true):FC m (b:Nat)=(false,m):=by unfold FC;rw[AC];unfold IE;simp[a]
theorem XG{Q:Nat->Bool}(b:Nat):∀(l:List Du) (m:M) (p:Nat) (S:Nat->Bool),WF m->m.fail<0->JX m Q b p->(∀x∈l,x.length=64) ->
 (EY b l m p S).2.1.fail<0/\(EY b l m p S).2.1.e=m.e/\((EY b l m p S).2.1.b=0\/(EY b l m p S).1.length<=l.length-(m.d-p))
 | [],m,p,S,_,c,_,_=>⟨c,I,.s (by simp[EY])⟩
 | x::xs,m,p,S,hw,c,h,hx=>by
   rw[EY]
   split
   .rename_i d;obtain⟨k,n,o,r⟩:=h.open_ d;obtain⟨k1,k2,k3⟩:=pS hw c k n o.A d (hx x EJ);have f:=Zm (x:=x) hw h d
    split
    .rename_i e;rw[e,AD I]at f;obtain⟨g,i,a⟩:=XG b xs _ (p+1) (λj=>j==b||S j) (QC hw _ _ _) k1 f (λy q=>hx y (by simp[q]));refine⟨g,i.i k2,?_⟩;rcases a with a|a
     .exact .w a
     right
     rw[Wz]at a;refine AG a ?_;simp only[Ae];omega
    rename_i e;refine⟨k1,k2,.w ?_⟩;rcases k3 with k3|k3
    .exact absurd k3 e
    exact k3
   exact⟨c,I,.s (by simp only[];omega)⟩
def cntF(f:Nat->Bool)(n c:Nat):Nat->Nat
 | 0=>0
 | k+1=>cntF f n c k+if f ((c+k)%n)then 1 else 0
theorem fh(f:Nat->Bool)(n c:Nat):∀k,cntF f n (c+1) k+(if f (c%n)then 1 else 0)=cntF f n c (k+1)
 |0=>by simp[cntF]
 | k+1=>by
   have a:=fh f n c k;rw[cntF,cntF,<-a,show c+1+k=c+(k+1) by omega];omega
theorem fH(f:Nat->Bool)(n:Nat):∀c,cntF f n c n=cntF f n 0 n
 |0=>rfl
 | c+1=>by
   have a:=fh f n c n;rw[cntF,Nat.add_mod_right]at a
   exact Dz (fH f n c)
theorem gZ(f:Nat->Bool)(n:Nat):∀k,k<=n->cntF f n 0 k=(List.range k).countP f
 |0,_=>rfl
 | k+1,a=>by
   rw[cntF,gZ f n k U,Be,List.countP_append,Ak,Bd U];simp[Cm]
theorem oK(f:Nat->Bool)(n c:Nat):cntF f n c n=(List.range n).countP f:=(fH f n c).i (gZ f n n (AB _))
structure Lh (m0:M) (K:Nat->Bool) (xs:List Du) (b0 v:Nat) (s:LS):Prop where
 wf:WF s.m
 a:s.m.a=m0.a
 d:s.m.d=m0.d
 b:s.b=(b0+v)%m0.a
 fail:s.m.fail<0
 e:s.m.e=m0.e
 c:JX s.m s.Q s.b s.p
 lens:∀x∈s.left,x.length=64
 g:s.m.b=0\/s.left.length<=xs.length-m0.d*cntF (λi=>!K i && !m0.e i) m0.a (b0+1) v
theorem gF(b:Nat):∀(l:List Du) (m:M) (p:Nat) (S:Nat->Bool),∀x∈(EY b l m p S).1,x∈l
 | [],m,p,S,x,h=>h
 | y::ys,m,p,S,x,h=>by
   rw[EY]at h
   split at h
   .split at h
    .exact By _ (gF b ys _ _ _ x h)
    exact h
   exact h
theorem Lh.round{v:Nat}(h:Lh m0 K xs b0 v s)(w:s.m.b≠0):Lh m0 K xs b0 (v+1) (FB K s):=by
 have A:=h.wf.d;have g:(s.b+1)%s.m.a=(b0+(v+1))%m0.a:=by rw[h.a,h.b,Nat.add_mod,Nat.mod_mod,<-Nat.add_mod,DK]
 have l:(s.b+1)%s.m.a<s.m.a:=BU _ U;have j:=h.g.resolve_left w;have k:cntF (λi=>!K i && !m0.e i) m0.a (b0+1) (v+1)=cntF (λi=>!K i && !m0.e i) m0.a (b0+1) v+if(!K ((s.b+1)%s.m.a) && !m0.e ((s.b+1)%s.m.a))then 1 else 0:=by rw[cntF,g,show b0+1+v=b0+(v+1) by omega]
 obtain⟨k1,k2,k3⟩:=R9 s.m K s.Q s.b;have f:=Zo h.wf K h.c;have d:=Si h.wf K s.Q s.b;have e:(E5 s.m K s.Q s.b).2.1.fail<0/\(E5 s.m K s.Q s.b).2.1.e=s.m.e:=by
  unfold E5;split
  .exact⟨h.fail,I⟩
  split
  .exact⟨h.fail,I⟩
  cases a:s.m.e ((s.b+1)%s.m.a)with
  |true=>rw[gl a];exact⟨h.fail,I⟩
  |false=>have:=Yy h.fail l a;split<;>exact⟨this.1,this.2.1⟩
 unfold FB;split
 .rename_i b;have r:(E5 s.m K s.Q s.b).2.2.2=0:=by
   unfold E5 at b |-;repeat' split at b;all_goals first|cases b|skip
   all_goals simp_all
  obtain⟨q1,q2,q3,q4⟩:=Ow ((s.b+1)%s.m.a) s.left (E5 s.m K s.Q s.b).2.1 (E5 s.m K s.Q s.b).2.2.2 s.S;obtain⟨o,p,c⟩:=XG (Q:=(E5 s.m K s.Q s.b).2.2.1) ((s.b+1)%s.m.a) s.left (E5 s.m K s.Q s.b).2.1 (E5 s.m K s.Q s.b).2.2.2 s.S d e.1 f h.lens;refine⟨Pa _ _ _ _ _ d,(q1.i k1).i h.a,(q2.i k2).i h.d,g,o,p.i (e.2.i h.e),VF _ _ _ _ _ d f,λx z=>h.lens x (gF _ _ _ _ _ x z),?_⟩;rcases c with c|c
  .exact .w c
  right;have t:(E5 s.m K s.Q s.b).2.1.d-(E5 s.m K s.Q s.b).2.2.2=m0.d:=by rw[r,k2,h.d];omega
  rw[t]at c;refine AG (show(LS.a K s).prog.left.length<=s.left.length-m0.d from c) ?_;rw[k];split<;>simp only[Nat.mul_add,Dk,Nat.mul_zero]<;>omega
 rename_i b;refine⟨d,k1.i h.a,k2.i h.d,g,e.1,e.2.i h.e,f,h.lens,?_⟩;rw[k];by_cases m:K ((s.b+1)%s.m.a)=true
 .right;simp only[m,Bool.not_true,Bool.false_and,BH,CR,Bq];exact j
 cases a:s.m.e ((s.b+1)%s.m.a)with
 |true=>
  right;have q:m0.e ((s.b+1)%s.m.a)=true:=by rw[<-h.e];exact a
  simp only[q,Bool.not_true,Bool.and_false,BH,CR,Bq];exact j
 |false=>
  left;have y:=Yy h.fail l a;show(E5 s.m K s.Q s.b).2.1.b=0;unfold E5 at b |-;rw[AC m]at b |-;split at b
  .exact absurd I b
  rename_i u;rw[AC u];split at b
  .exact absurd I b
  rename_i n;rw[AC n];exact y.2.2.resolve_left n
theorem Lh.rounds{c:M}{K:Nat->Bool}{d:List Du}{b:Nat}:∀(k v:Nat) (s:LS),Lh c K d b v s->(F8 K k s).m.b=0\/(F8 K k s).left=[]\/Lh c K d b (v+k) (F8 K k s)
 |0,v,s,h=>.s (.s h)
 | k+1,v,s,h=>by
   rw[F8]
   split
   .rename_i a;rcases a with a|a
    .exact .s (.w a)
    exact .w a
   rename_i a
   have:=Lh.rounds k (v+1) (FB K s) (h.round (λe=>a (.s e)))
   rw[show v+(k+1)=v+1+k by omega];exact this
theorem mU(h:Lh m0 K xs b0 0 s)(c:xs.length<=m0.d*(List.range m0.a).countP (λi=>!K i && !m0.e i)):(F8 K m0.a s).m.b=0\/(F8 K m0.a s).left=[]:=by
 rcases Lh.rounds m0.a 0 s h with a|a|a
 .exact .w a
 .exact .s a
 rcases a.g with b|b
 .exact .w b
 right;rw[Ak,oK]at b;exact Bu U
end Y
namespace Y
open Go.RowKit Pk
open Go.Nt (Fp Ea Fc FD M2 IP KF Jk Va ZM)
def NY(w:Z)(g:Nat):Nat:=match w.cell? (O g 1)with
 | some (.int _ z)=>z.toNat
 | _=>0
def JM(w:Z)(lo hi cb lb:Nat)(L:Loc)(v0:Lv)(kv qv:Option Nat)(nk nq:Nat)(m:M)(K Q:Nat->Bool)(b p:Nat)(S:Nat->Nat->Bool)(e:Ending)(w':Z):Prop:=
 ∃tb nt,e=.a (.agg #[.a (ER m:Nat),.d (M2 (S (ER m)) ((v0.b+1)%4294967296):Nat)])/\FA w' lo hi cb lb L ⟨v0.a,v0.b,some tb⟩ kv qv nk nq m K Q b p/\GB w' tb nt S/\nt<=100000/\¬FY lo hi lb kv qv tb/\(v0.tk=some tb\/w.heap.size<=tb)/\Fm (λk=>k=lb) w w'
theorem Iz{w:Z}{i e l lb:Nat}{L:Loc}{v0:Lv}{f j:Option Nat}{q nq:Nat}{m:M}{K Q:Nat->Bool}{b p:Nat}(h:FA w i e l lb L v0 f j q nq m K Q b p){k:Nat}(o:FY i e lb f j k):k<w.heap.size:=by
 rcases o with⟨_,n⟩|rfl|a|a
 .exact AQ n h.sz
 .exact h.h.lt
 .rcases h.kept with⟨c,_⟩|⟨g,c,d⟩
  .rw[c]at a;cases a
  rw[c]at a;cases a;exact d.lt
 rcases h.c with⟨c,_⟩|⟨g,c,d⟩
 .rw[c]at a;cases a
 rw[c]at a;cases a;exact d.lt
end Y
section
open Go.RowKit Go.Nt
theorem SR:(prog.info? 9).map (λi=>(i.zero,i.size,i.bytes))=some (some (.string ⟨#[]⟩),1,16):=EG
theorem mK(n:Nat)(a:n<=100000):∃cells:Array Value,(∀W:Z,(Instr.makeSlice 40 (.a n) (.a n)).run prog W=.ok (.b W.heap.size n n) (W.alloc (.cells cells 9)))/\(∀W:Z,Y.Rw (W.alloc (.cells cells 9)) W.heap.size 9 n (λ_=>.string ⟨#[]⟩)):=
 ⟨madeCells #[Value.string ⟨#[]⟩] n,λW=>Cn (P:=prog) 40 9 (.string ⟨#[]⟩) 16 underlying40 SR I .i64 .i64 n U U W,λW=>Y.N3 (DA W (.string ⟨#[]⟩) n 9)⟩
def ZA(b n:Nat):Value:=.agg #[.a b,.d n]
def Mx(b n:Nat)(t:Bs)(w:Z)(e:Ending)(w':Z):Prop:=
 ∃g,e=.a (.b g (EK t.length) (EK t.length))/\w.heap.size<=g/\Y.Rw w' g 9 (EK t.length) (λk=>.string (X (Fo (IJ b n t k))))/\Below w.heap.size w w'
theorem yP(b n:Nat)(t:Bs)(w:Z)(hb:b<256)(hn:n<4294967296)(ht:t.length<=1000000):Calls prog 129 #[ZA b n,.string (X t)] w λe w'=>Mx b n t w e w':=by
 have T:=J (λW=>Y.LV t W U);have hK:EK t.length<=19608:=by unfold EK;omega
 obtain⟨K,l⟩:=E (EK t.length);have G:∀k,k<K->k*51<t.length:=λk m=>by rw[l]at m;unfold EK at m;omega
 obtain⟨a,q⟩:=E (X t);have x:a.size=t.length:=by rw[q,EF]
 rw[<-q];have ac:Hid (∀W,Calls prog 123 #[.string a] W λe w'=>e=.a (.a K)/\w'=W):=J (by rw[q,l];exact T);have a5:Hid (∀k,k<K->a.extract (k*51) (min ((k+1)*51) a.size)=X ((t.drop (k*51)).take 51)):=J (λk m=>by
  have:=G k m;rw[x,q,Ka];congr 1;by_cases e:(k+1)*51<=t.length
  .rw[Bz e,show(k+1)*51-k*51=51 by omega]
  rw[Nat.min_eq_right U,AT EJ,AT EL])
 have ar:Hid (∀k W,k<K->Calls prog 194 #[.agg #[.a b,.d n,.a (k:Nat),.a K,.string (X ((t.drop (k*51)).take 51))]] W λe w'=>e=.a (.string (X (Fo (IJ b n t k))))/\Below W.heap.size W w'):=J (λk W m=>by have:=xL (IJ b n t k) W hb hn (by show k<65536;omega) (by show EK t.length<65536;omega) (by simp[IJ];omega);unfold Qw at this;rw[l];exact this)
 unfold Mx;rw[<-l];obtain⟨cells,ao,R⟩:=mK K U;obtain⟨c,p⟩:=E (w.alloc (.cells #[.a b,.d n] 90));have Q:=Gi p;have L:=JK p;have B:=Ia p;obtain⟨_,D⟩:=E (c.alloc (.cells cells 9));have S:=ao c;have r:=R c;rw[<-D]at S r;have u:=JK D;obtain⟨g,hg⟩:=E c.heap.size;obtain⟨h,H⟩:=E w.heap.size;rw[<-hg]at S r u B;rw[<-H]at Q L B |-;have V:h<g:=U;have r2:=(u.u h V).i Q;have ay:=J (L.i (u.b));change Hid _ at r2;have ai:=J (r.congr (g:=λk=>if k<0 then .string (X (Fo (IJ b n t k)))else .string ⟨#[]⟩) (λi _=>by simp));change Hid _ at p H hg;have aA:a.size<=1000000:=U;have au:Hid (∀k,k<K->k*51<a.size):=J (by rw[x];exact G);have aC:K<=19608:=by rw[l];exact hK
 clear hK T l q x D Q L u R ao B r G;unfold ZA;go_enter func129,ntmps129;go_wp2_with (first|(rw[<-p.o])|(rw[<-H.o])|(go_at_call 123;refine(ac _).l ?_;rintro e w' ⟨rfl,hw⟩;have ax:=hw.A;subst ax;clear hw)|fail);go_loopw [13] (λi wr=>∃k:Nat,k<=K/\i=.a k/\Hid (Y.Rw wr g 9 K (λj=>if j<k then .string (X (Fo (IJ b n t j)))else .string ⟨#[]⟩))/\Hid (wr.heap[h]?=some (.cells #[.a b,.d n] 90 (0,0)))/\Hid (Below h w wr)) (λi _=>K-(intOf i).toNat)
 case atStart=>exact⟨0,AW _,I,ai,r2,ay⟩
 case round=>
  obtain⟨k,m,rfl,C,o,v⟩:=hrel;by_cases s:k<K
  .have c0:=EV 0 o;have c1:=EV 1 o;have aB:=au k s;have A:=J (ar k wr s);have z:=a5 k s;obtain⟨_,hY⟩:=E (X ((t.drop (k*51)).take 51));rw[<-hY]at A z;obtain⟨f,N⟩:=E (X (Fo (IJ b n t k)));rw[<-N]at A;change Hid _ at N;have aw:=C.o.lt;have d:∀c:Z,Below wr.heap.size wr c->c.cell? (O g k)=some (.string ⟨#[]⟩)/\c.frozen? (O g k)=false/\Hid (Y.Rw (c.setCell (O g k) (.string f)) g 9 K (λj=>if j<k+1 then .string (X (Fo (IJ b n t j)))else .string ⟨#[]⟩))/\Hid ((c.setCell (O g k) (.string f)).heap[h]?=some (.cells #[.a b,.d n] 90 (0,0)))/\Hid (Below h w (c.setCell (O g k) (.string f))):=by
    intro c M;have P:=C.o.y (M.u g aw);refine⟨by have:=P.cell s;simpa using this,P.frozen k,J ((P.set k (.string f)).congr λj _=>?_),J ?_,J ?_⟩
    .by_cases e:j=k
     .subst e;rw[AD I,AD U,N.o]
     by_cases e2:j<k
     .rw[AC e,AD e2,AD U]
     rw[AC e,AC e2,AC U]
    .exact(AH c ⟨g,k,none⟩ _ h EL).i ((M.u h (lt_of_heap o)).i o)
    exact(v.o.i (M.l (by have:=v.o.size;have h9:=lt_of_heap o;omega))).c
   change Hid _ at d;clear hY;by_cases e:(k+1)*51<=a.size
   .rw[Bz e]at z;have ei:((k:Int)+1)*51<=(a.size:Int):=U;have em:min (((k:Int)+1)*51) (a.size:Int)=((k:Int)+1)*51:=Int.min_eq_left ei;go_wp2_with fail;refine A.o.l ?_;rintro e y ⟨rfl,F⟩;obtain⟨q1,q2,q3,q4,q5⟩:=d y F;clear d;go_wp2;go_roundw
    case rel=>exact⟨k+1,by omega,by go_num,q3,q4,q5⟩
    case measure=>simp[intOf];omega
   rw[Nat.min_eq_right U]at z;have ei:¬((k:Int)+1)*51<=(a.size:Int):=U;have az:(a.size:Int)<((k:Int)+1)*51:=U;have em:min (((k:Int)+1)*51) (a.size:Int)=(a.size:Int):=Int.min_eq_right U;go_wp2_with fail;refine A.o.l ?_;rintro e y ⟨rfl,F⟩;obtain⟨q1,q2,q3,q4,q5⟩:=d y F;clear d;go_wp2;go_roundw
   case rel=>exact⟨k+1,by omega,by go_num,q3,q4,q5⟩
   case measure=>simp[intOf];omega
  have av:k=K:=U;subst av;go_wp2;go_ret;exact⟨g,I,C5 V,C.o.congr λi hi=>by rw[AD hi],v⟩
end
namespace Y
open Go.RowKit Pk
open Go.Nt (M2 EK Ej Fo IJ)
variable {w:Z} {b n lo hi cb lb nk nq p:Nat} {m:M} {L:Loc} {v:Lv} {kv qv:Option Nat} {K Q:Nat->Bool}
def Gr(m:M)(v0:Lv)(S:Nat->Nat->Bool):Nat:=M2 (S (ER m)) ((v0.b+1)%4294967296)
def IF(m:M)(v0:Lv)(S:Nat->Nat->Bool)(K Q:Nat->Bool)(b p:Nat)(t:Du):LS:=F4 K ⟨Ej (ER m) (Gr m v0 S) t,m,Q,b,p,λ_=>false⟩
def TH(w:Z)(lo hi cb lb:Nat)(L:Loc)(v0:Lv)(kv qv:Option Nat)(nq:Nat)(m:M)(S:Nat->Nat->Bool)(s:LS)(e:Ending)(w':Z):Prop:=
 ∃ib nk tb nt,e=.a (.a 0)/\FA w' lo hi cb lb L ⟨ER m,Gr m v0 S,some tb⟩ (some ib) qv nk nq s.m s.S s.Q s.b s.p/\GB w' tb nt S/\nt<=100000/\¬FY lo hi lb (some ib) qv tb/\Fm (FY lo hi lb kv qv) w w'/\w.heap.size<=ib/\(v0.tk=some tb\/w.heap.size<=tb)
def VE(w:Z)(lo hi cb lb:Nat)(L:Loc)(v0:Lv)(kv qv:Option Nat)(nk nq:Nat)(m:M)(K:Nat->Bool)(b:Nat)(s:LS)(e:Ending)(w':Z):Prop:=
 e=.a (.a (if s.m.b=0 then 10 else 9))/\FA w' lo hi cb lb L ⟨v0.a,v0.b,none⟩ kv qv nk nq s.m K s.Q b m.d/\Fm (FY lo hi lb kv qv) w w'
def ND(w:Z)(lo hi cb lb:Nat)(L:Loc)(v0:Lv)(kv qv:Option Nat)(nk nq:Nat)(m:M)(K Q:Nat->Bool)(b p:Nat)(S:Nat->Nat->Bool)(t:Du)(e:Ending)(w':Z):Prop:=
 (F3 m t.length≠0->e=.a (.a (F3 m t.length))/\w'=w) /\
 (F3 m t.length=0->(IF m v0 S K Q b p t).left=[]->TH w lo hi cb lb L v0 kv qv nq m S (IF m v0 S K Q b p t) e w') /\
 (F3 m t.length=0->(IF m v0 S K Q b p t).left≠[]->VE w lo hi cb lb L v0 kv qv nk nq m K b (IF m v0 S K Q b p t) e w')
theorem zF{g:Nat}{t:Du}(h:Rw w g 9 (EK t.length) (λk=>.string (Go.Proofs.YtodmdkhdbfbfgaaGreatDoor.X (Fo (IJ b n t k))))):JC w g 0 (Ej b n t):=by
 intro k _ a;unfold Ej at a;rw[BI]at a;cases c:(List.range (EK t.length))[k]? with
 |none=>rw[c]at a;cases a
 |some j=>
  rw[c]at a;have d:k<EK t.length:=by have:=(AN.1 c).1;simpa using this
  have e:j=k:=by rw[Cf d]at c;cases c;rfl
  subst e;cases a;rw[Ak];exact h.cell d
theorem Gg(b n:Nat)(t:Du):∀x∈Ej b n t,x.length=64:=by intro x a;unfold Ej at a;obtain⟨_,_,rfl⟩:=AZ.1 a;exact Go.Nt.GW _ (by simp[IJ];omega)
theorem lC(K:Nat->Bool):∀(k:Nat) (s:LS),(F8 K k s).m.d=s.m.d/\(F8 K k s).m.a=s.m.a
 |0,s=>⟨I,I⟩
 | k+1,s=>by
   rw[F8]
   split
   .exact⟨I,I⟩
   obtain⟨a,b,_⟩:=ji K s;obtain⟨c,d⟩:=lC K k (FB K s);exact⟨c.i b,d.i a⟩
theorem vG(K:Nat->Bool)(s:LS):(F4 K s).m.d=s.m.d:=by
 unfold F4 Gy;rw[(lC K _ _).1];split
 .exact(fc s).2.1
 rfl
theorem Kg(h:WF m):F5 m<=256:=by have b:=su m;have c:=h.a;have a:=h.b;unfold F5;exact Co (show FT m/2<=16 by omega) a
theorem FA.d(h:FA w lo hi cb lb L v kv qv nk nq m K Q b p){a:Nat}{S:Nat->Bool}(o:FI w a n S)(d:¬FY lo hi lb kv qv a):FA (w.setCell (O lb 3) (.e a)) lo hi cb lb L v (some a) qv n nq m S Q b p:=by have e:∀k,k≠lb->(w.c lb 3 (.e a)).e w k:=λk q=>AH w ⟨lb,3,none⟩ _ k q;have f:a≠lb:=λe=>d (.s (.w e));exact⟨h.h.set2 (some a),EM.a h.j λk j l=>e k (λi=>h.e (by subst i;exact⟨j,l⟩)),h.wf,.s ⟨a,I,o.y (e a f)⟩,h.c.a λg c _=>e g (h.aq g c).1,λg c=>by cases c;exact⟨f,λs=>d (.w s)⟩,h.aq,λg c r=>by cases c;exact d (.s (.s (.s r))),h.e,by have:=h.sz;simpa using this⟩
theorem FA.label(h:FA w lo hi cb lb L v kv qv nk nq m K Q b p)(x y:Nat):FA ((w.setCell (O lb 1) (.a x)).setCell (O lb 2) (.d y)) lo hi cb lb L ⟨x,y,v.tk⟩ kv qv nk nq m K Q b p:=by have a:FA (w.c lb 1 (.a x)) lo hi cb lb L ⟨x,v.b,v.tk⟩ kv qv nk nq m K Q b p:=h.field (AJ w lb 1 _ 132 _ h.h);exact a.field (AJ _ lb 2 _ 132 _ a.h)
theorem FA.TY(h:FA w lo hi cb lb L v kv qv nk nq m K Q b p):FA (w.setCell (O lb 4) (.map none)) lo hi cb lb L ⟨v.a,v.b,none⟩ kv qv nk nq m K Q b p:=h.field (h.h.VN none)
theorem IZ(w:Z)(d c D lb:Nat)(L:Loc)(v0:Lv)(o q:Option Nat)(R nq:Nat)(m:M)(K Q:Nat->Bool)(b p:Nat)(S:Nat->Nat->Bool)(t:Du)(h:FA w d c D lb L v0 o q R nq m K Q b p)(hb:b<1000)(hp:p<=m.d)(ht:t.length<=1000000) (F:Gr m v0 S<4294967296) (H:F3 m t.length=0->Calls prog 127 #[.c lb] w λe w'=>JM w d c D lb L v0 o q R nq m K Q b p S e w'):Calls prog 78 #[.c lb,.string (X t)] w λe w'=>ND w d c D lb L v0 o q R nq m K Q b p S t e w':=by
 have N:=J (eU w d c D L m t h.wf h.j U);have c0:=h.h.c0;have c4:=h.h.c4;obtain⟨z0X,B⟩:=E (X t);rw[<-B]at N |-;change Hid _ at B;by_cases n:F3 m t.length=0
 .rw[n]at N;have a:EK t.length<=F5 m:=by
   unfold F3 at n;split at n
   .omega
   split at n
   .omega
   omega
  have f:=Kg h.wf;have f:=FV m;have i:=h.wf.a;have i:=J h;have HN:=J (H n);obtain⟨i,P⟩:=E (ER m);obtain⟨l,H⟩:=E (Gr m v0 S);rw[<-P]at f;rw[<-H]at F;change Hid _ at P H;obtain⟨np,V⟩:=E (EK t.length);rw[<-V]at a;change Hid _ at V;obtain⟨s,a⟩:=E (IF m v0 S K Q b p t);have G:=J a;have aN:Hid (s.m.d=m.d):=J (by rw[a];exact vG K _);change Hid _ at n;go_enter func78,ntmps78;go_wp2_with (first|(go_at_call 74;refine Jj N.o ?_)|fail);refine HN.o.l ?_;rintro e u ⟨r,nt,rfl,aH,C,b6,ai,aT,aS⟩;rw[<-P.o];rw[show M2 (S i) ((v0.b+1)%4294967296)=l by rw[H.o,P.o];rfl];obtain⟨y,v⟩:=E (u.alloc (.map #[] 0));have b4:=ON u;rw[<-v]at b4;have aF:FI y u.heap.size 0 (λ_=>false):=by rw[v];exact YS u
  have W:=JK v;obtain⟨T,aB⟩:=E (y.alloc (.cells #[.a i,.d l] 90));have f:=JK aB;obtain⟨a,Mc⟩:=E u.heap.size;obtain⟨A,ad⟩:=E y.heap.size;rw[<-Mc]at b4 aF;have bp:=Ia v;have az:=Gi aB ad.A;have aU:=(aH.new W).new f;have aD:=aF.y (f.d a);have b7:=(C.y (W.u r C.lt)).y (f.u r (Dz C.lt));have ar:Below u.heap.size u T:=W.i (f.b);have r0:=EV 0 az;have r1:=EV 1 az;have aE:=J (yP i l t T U F ht);rw[show Go.Proofs.YtodmdkhdbfbfgaaGreatDoor.X t=z0X from B.o.A]at aE;unfold ZA at aE;change Hid _ at aB;have aP:=J ad;have B:Hid (u.heap.size<=a/\a<T.heap.size/\a≠A):=J ⟨by omega,aD.lt,by omega⟩;change Hid _ at aU;have bb:=J aD;have b5:=J b7;have b3:=J az;have F:Hid (∀k,FY d c lb o q k->k<u.heap.size):=J (λk y=>Iz aH y);have aV:Hid (r<u.heap.size):=J C.lt;have aG:=J aS.size;have av:Hid (u.heap.size<=A):=J U;have aX:Hid (Fm (FY d c lb o q) w T):=J ((aS.l λk _ y=>.s (.w y)).i (Fm.d ar));change Hid _ at ai aT b6;clear aH C aS v aF W f Mc ad bp az aD b7 ar N HN;go_wp2_with rw[<-aB.o,<-aP.o];refine aE.o.l ?_;rintro e v ⟨g,rfl,W,C,f⟩;rw[<-V.o];have bD:=W;have be:=zF C;have bx:=aU.o.new f;have bl:=bb.o.y (f.u a B.o.2.1);have W:=(f.u A (lt_of_heap b3)).i b3;have aI:=b5.o.y (f.u r b5.o.lt);have C:¬FY d c lb o q a:=λy=>by have:=F a y;exact Dz B.o.1
  have bA:u.heap.size<=T.heap.size:=Dz B.o;have ao:¬FY d c lb o q g:=λy=>by exact Dz (F g y)
  have YR:g≠a:=Dz B.o.2.1;have u:(Ej i l t).length=np:=by rw[Go.Nt.Ec];exact V.o.A
  have T:=Ub v d c D lb L ⟨v0.a,v0.b,some r⟩ o q R nq K ⟨Ej i l t,m,Q,b,p,λ_=>false⟩ a 0 g 0 np bx hb hp bl (by show 0+40*(Ej i l t).length<=_;rw[u];omega) ⟨C,ao,YR⟩ be (λx V=>Ci (Gg i l t x V)) (by show(Ej i l t).length<=_;rw[u];exact AB _) U;have V:F4 K ⟨Ej i l t,m,Q,b,p,λ_=>false⟩=s:=by rw[G.o,P.o,H.o];rfl
  rw[V]at T;have V:Calls prog 128 #[.c lb,.b g np np,.e a] v λe w'=>Ze v d c D lb L ⟨v0.a,v0.b,some r⟩ o q R nq K a 0 ⟨Ej i l t,m,Q,b,p,λ_=>false⟩ s e w':=by have:=T;simp only[u]at this;exact this
  have v:=J V;have bq:=J W;have R:=J aI;have bj:=J (aX.o.i (Fm.d f));have T:=J C;have am:Hid (w.heap.size<=a):=J (by have f:=B.o.1;have:=aX.o.size;have u:=F lb (.s (.w I));exact AG (aG) f);have ah:Hid (r≠a/\r≠A):=J ⟨by have:=aV.o;have:=B.o;omega,by have f:=aV.o;have u:=av.o;omega⟩;have aR:A≠a:=λe=>B.o.2.2 e.A;have aQ:¬FY d c lb o q A:=λy=>by have f:=F.o A y;have u:=av.o;omega
  have C:=lt_of_heap W;go_wp2_with fail;refine v.o.l ?_;rintro e V ⟨rfl,f,v,u⟩;have F:=B;have B:=J f;have bs:=J v;have F:=J (((bj.o.l (T:=λk=>FY d c lb o q k\/k=a) λk _ h=>.w h).i u).l λk y h=>by
   rcases h with h|h
   .exact h
   exfalso;exact Dz am.o)
  have v:=(u.u A C (λh=>by
   rcases h with h|h
   .exact aQ h
   exact aR h)).i bq
  have br:=J (R.o.y (u.u r R.o.lt (λh=>by
   rcases h with h|h
   .exact ai h
   exact ah.o.1 h)))
  have r0:=EV 0 v;have r1:=EV 1 v;have n0:=f.h.n0;have n1:=f.h.n1;have k2:=f.h.c2;have t4:=f.h.t4;have d0:=f.h.c0;have d4:=f.h.c4;have d5:=f.h.j;have f1:=f.h.d 1;have f2:=f.h.d 2;have f3:=f.h.d 3;have f4:=f.h.d 4;have f6:=f.h.d 6;have u:=f.h.d 7;obtain⟨z,u⟩:=E s.left.isEmpty;rw[<-u];change Hid _ at u;cases z with
  |true=>
   have R:=List.isEmpty_iff.1 u.o.A;obtain⟨W,v⟩:=E (((V.setCell (O lb 1) (.a i)).setCell (O lb 2) (.d l)).setCell (O lb 3) (.e a));have f:∀j,j≠lb->((V.setCell (O lb 1) (.a i)).setCell (O lb 2) (.d l)).heap[j]?=V.heap[j]? := λj y=>(AH _ ⟨lb,2,none⟩ _ j y).i (AH _ ⟨lb,1,none⟩ _ j y);have A:a≠lb:=λe=>T (.s (.w e));have y:r≠lb:=λe=>ai (.s (.w e));have C:=J ((B.o.label i l).d (bs.o.y (f a A)) T);have A:=J (br.o.y (w':=W) (by rw[v];exact(AH _ ⟨lb,3,none⟩ _ r y).i (f r y)));have f:Hid (Fm (FY d c lb o q) w W):=J (by rw[v];exact((F.o.set (g:=lb) (λ_=>.s (.w I)) 1 _).set (g:=lb) (λ_=>.s (.w I)) 2 _).set (g:=lb) (λ_=>.s (.w I)) 3 _);rw[<-v]at C;change Hid _ at v R;go_wp2_with fail;go_ret;rw[<-v.o];refine⟨λh=>absurd n h,λ_ _=>?_,λ_ h=>absurd (by rw[<-G.o];exact R) h⟩;rw[<-G.o];refine⟨a,0+40*(Ej i l t).length,r,nt,I,?_,A,b6,?_,f,am,aT⟩
   .rw[<-P.o,<-H.o];exact C
   intro h;rcases h with h|h|h|h
   .exact ai (.w h)
   .exact y h
   .cases h;exact ah.o.1 I
   exact ai (.s (.s (.s h)))
  |false=>
   have R:s.left≠[]:=λh=>by have:=u;rw[h]at this;cases this
   have i:=J (GH V d c D L s.m B.o.j);rw[show s.m.d=m.d from aN.o]at i;obtain⟨W,v⟩:=E (((V.setCell (O lb 4) (.map none)).setCell (O lb 6) (.a b)).setCell (O lb 7) (.a m.d));have C:=J ((B.o.TY.Ox b).LJ m.d);rw[<-v]at C;have f:Hid (Fm (FY d c lb o q) w W):=J (by rw[v];exact((F.o.set (g:=lb) (λ_=>.s (.w I)) 4 _).set (g:=lb) (λ_=>.s (.w I)) 6 _).set (g:=lb) (λ_=>.s (.w I)) 7 _);have a:=J (Er W d c D L s.m C.o.j);have c:=C.o.h.c0;change Hid _ at v R;by_cases c:s.m.b=0
   .have d:=Cu.2 c;rw[d]at a;go_wp2_with (first|(go_at_call 77;refine Jj i.o ?_)|(rw[<-v.o])|(go_at_call 25;refine Jj a.o ?_)|fail);go_ret;refine⟨λh=>absurd n h,λ_ h=>absurd h (by rw[<-G.o];exact R),λ_ _=>?_⟩;rw[<-G.o];exact⟨by rw[AD c];rfl,C,f⟩
   have d:=BN.2 c;rw[d]at a;go_wp2_with (first|(go_at_call 77;refine Jj i.o ?_)|(rw[<-v.o])|(go_at_call 25;refine Jj a.o ?_)|fail);go_ret;refine⟨λh=>absurd n h,λ_ h=>absurd h (by rw[<-G.o];exact R),λ_ _=>?_⟩;rw[<-G.o];exact⟨by rw[AC c];rfl,C,f⟩
 obtain⟨c,a⟩:=E (F3 m t.length);rw[<-a]at N n;have d:(c != 0)=true:=EU n;change Hid _ at a;go_enter func78,ntmps78;go_wp2_with (first|(go_at_call 74;refine Jj N.o ?_)|fail);go_ret;have c:=a;exact⟨λ_=>⟨by rw[<-c];rfl,I⟩,λh=>absurd (c.i h) n,λh=>absurd (c.i h) n⟩
end Y
namespace Y
open Go.RowKit Pk
open Go.Nt (Fp Ea Fc FD M2 IP KF Jk Va ZM)
theorem Kz:(∀(w:Z) (lo hi cb lb:Nat) (L:Loc) (i:Lv) (kv qv:Option Nat) (nk nq:Nat) (m:M) (K Q:Nat->Bool) (b p:Nat) (S:Nat->Nat->Bool) (tb nt:Nat) (h:FA w lo hi cb lb L i kv qv nk nq m K Q b p) (s:i.tk=some tb) (l:GB w tb nt S) (q:nt<=100000) (B:¬FY lo hi lb kv qv tb) (a:KF (S (ER m))),Calls prog 127 #[.c lb] w λe w'=>JM w lo hi cb lb L i kv qv nk nq m K Q b p S e w')/\(∀(w:Z) (lo hi cb lb:Nat) (L:Loc) (i:Lv) (kv qv:Option Nat) (nk nq:Nat) (m:M) (K Q:Nat->Bool) (b p:Nat) (S:Nat->Nat->Bool) (t:S=Fc (FD (Gn m) m.d m.a)) (h:FA w lo hi cb lb L i kv qv nk nq m K Q b p) (s:i.tk=none) (D:m.b≠0) (a:KF (S (ER m))),Calls prog 127 #[.c lb] w λe w'=>JM w lo hi cb lb L i kv qv nk nq m K Q b p S e w'):=by
 constructor;focus
  intro w lo hi cb lb L i kv qv nk nq m K Q b p S tb nt h s l q B a;have aE:=J (λ(V:Z) (W:CP V lo hi cb L m)=>X7 V lo hi cb L m h.wf W);have bJ:=h.wf.a;have F:=FV m;obtain⟨o,R⟩:=E (ER m);rw[<-R]at aE F;unfold JM;rw[<-R];rw[<-R]at a;obtain⟨Sb,v⟩:=E (S o);have aU:=J v;rw[<-v]at a;have am:=J a;obtain⟨k0,T⟩:=E ((i.b+1)%4294967296);have bP:k0<4294967296:=by rw[T];exact BU _ EB
  have x:((i.b:Int)+1)%4294967296=(k0:Nat):=by rw[T];omega
  have bc:IntKind.u32.wrap ((i.b:Int)+1)=(k0:Nat):=by rw[IntKind.wrap_u32];exact x
  rw[<-T];have bl:∀(w:Z) (r:Option Nat),(binOp .eql 130 (.map r) (.map none)).run prog w=.ok (.bool r.isNone) w:=λw r=>run_eql_map_nil w _ _ _ r underlying130;obtain⟨G,N⟩:=E (w.alloc (.cells #[.a 0,.d 0] 90));obtain⟨d,u⟩:=E w.heap.size;have H:G.heap[d]?=some (.cells #[.a 0,.d 0] 90 (0,0)):=by rw[N,u];exact AR _ _
  have n:Below w.heap.size w G:=by rw[N];exact(AP _ w).alloc (AB _) _
  have P:=h.new n;have ah:=J (Ci u.A);have H0:=J h;have c:=J N;have bB:=J u;have ay:=h.h.lt;have bS:lb≠d:=by rw[u];omega
  have bb:=l.y (n.u tb l.lt);have ev:i=⟨i.a,i.b,some tb⟩:=by rw[<-s]
  obtain⟨g,C⟩:=E G;rw[<-C]at H P bb;have aP:=J H;have y:Hid (FA g lo hi cb lb L ⟨i.a,i.b,some tb⟩ kv qv nk nq m K Q b p):=J (by rw[<-ev];exact P);have aR:=J bb;have aQ:Hid (Fm (λk=>k=lb) w g):=J (by rw[C];exact Fm.d n);have bQ:=J B;have bI:Hid (i.tk=some tb\/w.heap.size<=tb):=J (.w s);have bK:d≠tb:=by rw[u];exact λe=>by exact Dz l.lt
  have z:=y.o.h.t4;rw[C]at z;have aW:G.cell? (O lb 4)=some (.e tb):=z;have b9:=J C;clear h l s B R v a T N u H n P bb z C ev;go_enter func127,ntmps127;go_wp2_with (first|(rw[<-c.o,<-bB.o])|(rw[<-c.o])|fail);rw[<-b9.o];clear aW
 rotate_left
 focus
  intro w lo hi cb lb L i kv qv nk nq m K Q b p S t h s D a;have l:=h.wf;have aE:=J (λ(V:Z) (W:CP V lo hi cb L m)=>X7 V lo hi cb L m h.wf W);have bJ:=h.wf.a;have F:=FV m;obtain⟨o,R⟩:=E (ER m);rw[<-R]at aE F;unfold JM;rw[<-R];rw[<-R]at a;obtain⟨Sb,v⟩:=E (S o);have aU:=J v;rw[<-v]at a;have am:=J a;obtain⟨k0,T⟩:=E ((i.b+1)%4294967296);have bP:k0<4294967296:=by rw[T];exact BU _ EB
  have x:((i.b:Int)+1)%4294967296=(k0:Nat):=by rw[T];omega
  have bc:IntKind.u32.wrap ((i.b:Int)+1)=(k0:Nat):=by rw[IntKind.wrap_u32];exact x
  rw[<-T];have bl:∀(w:Z) (r:Option Nat),(binOp .eql 130 (.map r) (.map none)).run prog w=.ok (.bool r.isNone) w:=λw r=>run_eql_map_nil w _ _ _ r underlying130;obtain⟨G,N⟩:=E (w.alloc (.cells #[.a 0,.d 0] 90));obtain⟨d,u⟩:=E w.heap.size;have H:G.heap[d]?=some (.cells #[.a 0,.d 0] 90 (0,0)):=by rw[N,u];exact AR _ _
  have n:Below w.heap.size w G:=by rw[N];exact(AP _ w).alloc (AB _) _
  have P:=h.new n;have ah:=J (Ci u.A);have H0:=J h;have c:=J N;have bB:=J u;have ay:=h.h.lt;have bS:lb≠d:=by rw[u];omega
  have x:=J (QY G lo hi cb L m l P.j P.sz D);have z:=l.b;have B:m.a*m.d<=512:=Co bJ z;have bj:Hid (∀f∈FD (Gn m) m.d m.a,Go.Nt.Le f):=J (λf z=>(Go.Nt.IK z).1);obtain⟨lF,B⟩:=E (FD (Gn m) m.d m.a);rw[<-B]at bj t;have cf:=J B;have HS:=J t;have cm:=P.h.c0;have z:=P.h.t4;rw[s]at z;have bG:=J P;have bA:=J H;have F:=J n;have D:=J s;have D:Hid (G.heap.size=d+1):=J (by rw[N,u];simp);clear h s R v a T N u H n P t B l;go_enter func127,ntmps127;go_wp2_with (first|(rw[<-c.o,<-bB.o])|(rw[<-c.o])|fail);refine x.o.l ?_;rintro e v ⟨rfl,s,n⟩;rw[<-cf.o]at s;have D:=J (kN v G.heap.size (m.a*m.d) lF s U bj.o);have a:=J (bG.o.new n);have N:=J ((n.u d (lt_of_heap bA.o)).i bA.o);have P:=J (F.o.i (n.l F.o.size));clear s n x cm z;go_wp2_with fail;refine D.o.l ?_;rintro e l ⟨rfl,s,B⟩;have c:=P.o.size;obtain⟨tb,n⟩:=E v.heap.size;rw[<-n]at s;simp only[<-n];have z:=J (a.o.new B);have H:=lt_of_heap N.o;have u:=J ((B.u d H).i N.o);have G:Hid (Below w.heap.size w l):=J (P.o.i (B.l c));have b6:=z.o.h.t4;have t:=z.o.h.d 4;have bK:d≠tb:=by rw[n];exact λe=>by omega
  have R:lb≠tb:=Dz a.o.h.lt;have bQ:Hid (¬FY lo hi lb kv qv tb):=J (λt=>by exact Dz (Iz a.o t));have bI:Hid (i.tk=some tb\/w.heap.size<=tb):=J (.s U);obtain⟨g,C⟩:=E (l.setCell (O lb 4) (.e tb));have v:∀j,j≠lb->g.heap[j]?=l.heap[j]? := λj x=>by rw[C];exact AH l ⟨lb,4,none⟩ _ j x
  have aP:Hid (g.heap[d]?=some (.cells #[.a 0,.d 0] 90 (0,0))):=J ((v d (λe=>bS e.A)).i u.o);have y:Hid (FA g lo hi cb lb L ⟨i.a,i.b,some tb⟩ kv qv nk nq m K Q b p):=J (by rw[C];exact z.o.field (z.o.h.VN (some tb)));have H:GB l tb 100000 S:=by rw[HS.o];exact s
  obtain⟨nt,aG⟩:=E 100000;rw[<-aG]at H;have aR:Hid (GB g tb nt S):=J (H.y (v tb (λe=>R e.A)));have q:nt<=100000:=Ci aG;have aQ:Hid (Fm (λk=>k=lb) w g):=J (by rw[C];exact Fm.set (S:=λk=>k=lb) (Fm.d G.o) (g:=lb) (λ_=>rfl) 4 _);have b9:=J C;clear s B D a N P z u G bG bA F v H aG C c n R HS cf bj;go_wp2_with rw[<-b9.o]
 rotate_left
 all_goals
  have a0:=y.o.h.c0;have a2:=y.o.h.n1;have aV:g.drew.cell? (O lb 0)=some (.c cb):=a0;have bu:g.drew.cell? (O lb 2)=some (.d i.b):=a2;have P:Hid (∀V:Z,(∀k,k<g.heap.size->V.heap[k]?=g.heap[k]?)->V.cell? (O lb 0)=some (.c cb)/\V.cell? (O lb 2)=some (.d i.b)):=J (λV W=>⟨by rw[AK (W lb y.o.h.lt)];exact a0,by rw[AK (W lb y.o.h.lt)];exact a2⟩);have bs:=lt_of_heap aP.o;have br:=aR.o.lt;go_wp2_with fail;refine BL (S:=λV=>V.cell? (O lb 0)=some (.c cb)/\V.cell? (O lb 2)=some (.d i.b)) EG ⟨aV,bu⟩ (λhHeld=>?_);refine Ef 0 I hHeld ?_;refine Ef 1 I hHeld ?_;refine Ef 2 I hHeld ?_;refine Ef 3 I hHeld ?_;refine Ef 5 I hHeld ?_;refine Ef 6 I hHeld ?_;refine Ef 7 I hHeld ?_;refine Ef 8 I hHeld ?_;refine Ef 9 I hHeld ?_;refine Ef 10 I hHeld ?_;refine wpAnyH_ready (rs:=[4,12]) EG EJ ?_;refine CX I (λK n=>?_) (CX I (λK n=>?_) Dp);focus
   go_simp;refine(aE.o g.drew y.o.drew.j).l ?_;rintro e w' ⟨rfl,W⟩;have bq:=W.A;subst bq;clear W;refine n.o _ _ ⟨aV,bu⟩ (λhHeld=>?_);clear n K;refine Ef 11 I hHeld ?_;refine rd 12 I (λK n=>?_);go_simp;refine n.o _ _ (P.o _ λk t=>AO g _ k t) (λhHeld=>?_);clear n K;refine rd 13 I (λK n=>?_);go_simp;refine n.o _ _ (P.o _ λk t=>AO g _ k t) (λhHeld=>?_);clear n K;refine B8 EG ?_ _;clear hHeld;obtain⟨R,s⟩:=E ((g.alloc (.cells #[.a o,.d k0] 90)).drew);obtain⟨c,H⟩:=E g.heap.size;rw[<-s];simp only[<-H];have bD:Hid (R.heap[c]?=some (.cells #[.a o,.d k0] 90 (0,0))):=J (by rw[s,H];exact AR _ _);have C:Below g.heap.size g R:=by rw[s];exact Pb ((AP _ g).alloc (AB _) _)
   have aH:g.heap.size<=c:=Ci H.A;clear s H
  rotate_left
  focus
   go_simp;obtain⟨F,G⟩:=E ((g.alloc (.cells #[.a 0,.d 0] 90)).drew);obtain⟨c,H⟩:=E g.heap.size;refine n.o _ _ (P.o _ λk t=>AO g _ k t) (λhHeld=>?_);clear n K;rw[<-G];simp only[<-H];have T:F.heap[c]?=some (.cells #[.a 0,.d 0] 90 (0,0)):=by rw[G,H];exact AR _ _
   have aM:Below g.heap.size g F:=by rw[G];exact Pb ((AP _ g).alloc (AB _) _)
   have aH:g.heap.size<=c:=Ci H.A;have cv:=J G;have cx:=J H;clear G H;refine rd 4 I (λK n=>?_);go_simp;refine(aE.o F (y.o.new aM).j).l ?_;rintro e w' ⟨rfl,W⟩;have bq:=W.A;subst bq;clear W;refine n.o _ _ (P.o _ λk t=>aM.u k t) (λhHeld=>?_);clear n K;refine Ef 11 I hHeld ?_;have G:F.cell? (O c 0)=some (.a 0):=by rw[AU F c 0 _ 90 (0,0) T];rfl
   have H:F.cell? (O c 1)=some (.d 0):=by rw[AU F c 1 _ 90 (0,0) T];rfl
   have W:=CE F c 0 _ 90 T;have z1:=CE F c 1 _ 90 T;refine rd 13 I (λK n=>?_);go_simp;obtain⟨R,s⟩:=E ((F.setCell (O c 0) (.a o)).setCell (O c 1) (.d k0));rw[<-s];have bD:Hid (R.heap[c]?=some (.cells #[.a o,.d k0] 90 (0,0))):=J (by rw[s];exact AJ _ c 1 _ 90 _ (AJ _ c 0 _ 90 _ T));have C:Below g.heap.size g R:=by rw[s];exact(aM.setCell EL _).setCell EL _
   refine n.o _ _ (P.o _ λk t=>C.u k t) (λhHeld=>?_);clear n K;refine B8 EG ?_ _;clear hHeld G H W z1 T aM s
  rotate_left
  all_goals
   have D:=J (y.o.new C);have H:=J (aR.o.y (C.u tb br));have s:=J ((C.u d bs).i aP.o);have g:Hid (Fm (λk=>k=lb) w R):=J (aQ.o.i (Fm.d C));have F:w.heap.size<=c:=AG aQ.o.size aH;have cl:c≠d:=U;have aG:c≠tb:=U;have F:∀k,FY lo hi lb kv qv k->k≠c:=λk t e=>by exact Dz (Iz y.o t)
   have ct:=J F;clear C P a0 a2 aV bu F;go_wp2_with fail;go_loopw [] (λwr=>∃k:Nat,k<4294967296/\Hid (wr.heap[c]?=some (.cells #[.a o,.d k] 90 (0,0)))/\Hid (M2 Sb k=M2 Sb k0)/\Hid (FA wr lo hi cb lb L ⟨i.a,i.b,some tb⟩ kv qv nk nq m K Q b p)/\Hid (GB wr tb nt S)/\Hid (wr.heap[d]?=some (.cells #[.a 0,.d 0] 90 (0,0)))/\Hid (Fm (λk=>k=lb) w wr)) (λwr=>IP Sb 700 (NY wr c))
   case atStart=>exact⟨k0,bP,bD,J I,D,H,s,g⟩
   clear D H s g bD aP aR y aQ;obtain⟨k,t,s,g,a,y,N,F⟩:=hrel;have t4:=a.o.h.t4;have n0:wr.cell? (O c 0)=some (.a o):=by rw[AU wr c 0 _ 90 (0,0) s.o];rfl
   have n1:wr.cell? (O c 1)=some (.d k):=by rw[AU wr c 1 _ 90 (0,0) s.o];rfl
   have R:wr.drew.cell? (O lb 4)=some (.e tb):=t4;have G:wr.drew.cell? (O c 0)=some (.a o):=n0;have D:wr.drew.cell? (O c 1)=some (.d k):=n1;have A:=J (nh tb nt o k S wr.drew (y.o.y I) U U);unfold lv at A;rw[show S o k=Sb k by rw[aU.o]]at A;have ay:=a.o.h.lt;have C:=lt_of_heap s.o;have T:=lt_of_heap N.o;have be:=y.o.lt;have aZ:Hid (NY wr c=k):=J (by unfold NY;rw[n1];simp);obtain⟨r,H⟩:=E (Sb k);rw[<-H]at A;have i:=J H;clear H;go_wp2_with fail;refine BL (S:=λV=>V.cell? (O lb 4)=some (.e tb)/\V.cell? (O c 0)=some (.a o)/\V.cell? (O c 1)=some (.d k)) EG ⟨R,G,D⟩ (λhHeld=>?_);refine Ef 0 I hHeld ?_;refine Ef 1 I hHeld ?_;refine Ef 2 I hHeld ?_;refine Ef 3 I hHeld ?_;refine Ef 4 I hHeld ?_;refine rd 5 I (λK n=>?_);go_simp;refine A.o.l ?_;rintro e l ⟨rfl,B⟩;have W:Below wr.heap.size wr l:=⟨B.os,B.tape,B.output,B.size,B.u⟩;have b6:l.cell? (O lb 4)=some (.e tb):=by rw[W.cell (p:=⟨lb,4,none⟩) ay];exact t4
   have H:l.cell? (O c 0)=some (.a o):=by rw[W.cell (p:=⟨c,0,none⟩) C];exact n0
   have P:l.cell? (O c 1)=some (.d k):=by rw[W.cell (p:=⟨c,1,none⟩) C];exact n1
   refine n.o _ _ ⟨b6,H,P⟩ (λhHeld=>?_);refine B8 EG ?_ _;clear hHeld n K;have z:=J (a.o.new W);have P:=J (y.o.y (W.u tb be));have u:=J ((W.u d T).i N.o);have H:=J ((W.u c C).i s.o);have T:Hid (Fm (λk=>k=lb) w l):=J (F.o.i (Fm.d W));have n:=CE l c 1 _ 90 H.o;clear A B W a y N s F t4 n0 n1 R G D b6;cases r with
   |true=>
    obtain⟨R,bU⟩:=ZM am.o t i.o.A;have D:=J R;have G:=J bU;obtain⟨k1,s⟩:=E ((k+1)%4294967296);have bg:((k:Int)+1)%4294967296=(k1:Nat):=by rw[s];omega
    have b4:k1<4294967296:=by rw[s];exact BU _ EB
    rw[<-s]at D G;obtain⟨a,n⟩:=E (l.setCell (O c 1) (.d k1));have F:=J n;have C:a.heap.size=l.heap.size:=by rw[n];simp
    have v:∀j,j≠c->a.heap[j]?=l.heap[j]? := λj x=>by rw[n];exact AH l ⟨c,1,none⟩ _ j x
    have W:Hid (a.heap[c]?=some (.cells #[.a o,.d k1] 90 (0,0))):=J (by rw[n];exact AJ _ c 1 _ 90 _ H.o);have y:=J (z.o.a (w':=a) (by rw[C];exact z.o.sz) λj x _=>v j (ct.o j x));have N:=J (P.o.y (v tb (λe=>aG e.A)));have co:=J ((v d (λe=>cl e.A)).i u.o);have B:Hid (Fm (λk=>k=lb) w a):=J (by rw[n];exact T.o.set (g:=c) (λh=>absurd h U) 1 _);have aJ:Hid (NY a c=k1):=J (by unfold NY;rw[AU a c 1 _ 90 (0,0) W.o];simp);clear R bU s n v C z P u H T;go_wp2_with (first|(rw[bg,<-F.o])|(rw[<-F.o])|fail);go_roundw
    case rel=>exact⟨k1,b4,W,J (by rw[<-D.o];exact g.o),y,N,co,B⟩
    case measure=>rw[aJ.o,aZ.o];exact G.o
   |false=>
    have n:Hid (M2 Sb k0=k):=J (by rw[<-g.o];exact Va t i.o.A);have q0:l.cell? (O d 0)=some (.a 0):=by rw[AU l d 0 _ 90 (0,0) u.o];rfl
    have q1:l.cell? (O d 1)=some (.d 0):=by rw[AU l d 1 _ 90 (0,0) u.o];rfl
    have f0:=CE l d 0 _ 90 u.o;have f1:=CE l d 1 _ 90 u.o;have s:∀j,FY lo hi lb kv qv j->j≠d:=λj x e=>by have a:=Iz H0.o x;exact Dz ah.o
    have v:∀j,j≠d->((l.setCell (O d 0) (.a o)).setCell (O d 1) (.d k)).heap[j]?=l.heap[j]? := λj x=>(AH _ ⟨d,1,none⟩ _ j x).i (AH _ ⟨d,0,none⟩ _ j x);have y:=J (z.o.a (w':=(l.setCell (O d 0) (.a o)).setCell (O d 1) (.d k)) (by have:=z.o.sz;simpa using this) λj x _=>v j (s j x));have N:=J (P.o.y (v tb (λe=>bK e.A)));have B:Hid (Fm (λk=>k=lb) w ((l.setCell (O d 0) (.a o)).setCell (O d 1) (.d (k:Nat)))):=J ((T.o.set (g:=d) (λh=>absurd h (Dz ah.o)) 0 _).set (g:=d) (λh=>absurd h (Dz ah.o)) 1 _);clear v s;go_wp2_with fail;refine BE (v:=.agg #[.a o,.d (k:Nat)]) ?_ I ⟨tb,nt,?_,y.o,N.o,q,bQ.o,bI.o,B.o⟩
    .simp[results,go_sem,q0,q1]
    rw[aU.o]at n;rw[n.o]
end Y
end Go.Proofs.YtodmdkhdbfbfgaaGreatDoor
