/- Lemmas. -/
import Derived.Test.YtodmdkhdbfbfgaaGreatDoorM09
set_option linter.unusedVariables false
set_option linter.unusedSimpArgs false
set_option maxRecDepth 100000
set_option maxHeartbeats 8000000
open Go.Proofs.Tryz
namespace Go.Proofs.YtodmdkhdbfbfgaaGreatDoor
section
open Go.RowKit Go.Nt
variable {S R:Nat->Prop} {w w':Z} {u:Bs->Option Bs} {sb n:Nat} {s:Sv} {d:Sd}
structure Ir where
 kind:Int
 j:Sl
 c:Bs
 dst:Bs
 data:Bs
 a:Int
 b:Int
 other:Bool
def Ir.arr(o:Ir):Array Value:=#[.a o.kind,.slice o.j.1 o.j.2.1 o.j.2.2,.string (X o.c),.string (X o.dst),.string (X o.data),.a o.a,.a o.b,.bool o.other]
def NI(o:Ir):Value:=.agg o.arr
theorem Ls(h:Below w.heap.size w w'):Y.Fm S w w':=⟨h.os,h.tape,h.output,h.size,λk a _=>h.u k a⟩
theorem LQ{b a:Nat}(h:Y.Ed b a w w')(c:∀k,b<=k->k<a->S k):Y.Fm S w w':=⟨h.os,h.tape,h.output,h.size,λk d f=>h.u k d (λe=>f (c k e.1 e.2))⟩
theorem Jh{a b c:Z}(d:Y.Fm S a b)(e:Y.Fm S b c):Y.Fm S a c:=⟨e.os.i d.os,e.tape.i d.tape,e.output.i d.output,AG d.size e.size,λk f g=>(e.u k (AQ f d.size) g).i (d.u k f g)⟩
theorem E9.of_below{a b:Z}{n1:Nat}(h:E0 u w sb R s d n1)(e:Below w.heap.size w a)(c:E9 u a sb R s d n b):E9 u w sb R s d n b:=
 E9.i h (λ_ h=>h) (λ_ h=>.w h) (λ_ h=>.w h) (Ls e) c
theorem E0.put{s':Sv}{i:Y.M}(h:E0 u w sb R s d n)(T:ES w' sb s')(K:Y.CP w' d.h d.g s'.c d.L i)(hF:Y.Fm (λk=>k=sb\/(d.h<=k/\k<d.g)) w w')(wf:Y.WF i)(ef:s'.f=none\/(s'.f=s.f/\(s'.c,s'.g,s'.e,s'.m)=(s.c,s.g,s.e,s.m)/\Uf d.m i))(x:s'.a=s.a)(m:s'.d=s.d)(p:s'.b=s.b)(P:s'.m<=Y.ER i)(D:s'.e=false->Y.KN u i s'.m (701*n+1))(F:s'.e=true->s'.free=true/\s'.h=true)(C:s'.h=false->∃y∈d.ms,Finds u i y.2):E9 u w sb R s d n w':=by
 have r:=hF.size;have c:∀k,k<w.s->k≠sb->¬(d.h<=k/\k<d.g)->w'.e w k:=λk z A B=>hF.u k z (λe=>e.elim A B);have o:∀k,R k->w'.e w k:=λk a=>c k (h.q k a) (λe=>(h.b k (.w e)).1 a) (λe=>(h.b k (.s (.w e))).1 a);have v:∀k,Mu sb s' {d with m:=i,M:={d.M with m:=i} } k->Mu sb s d k:=λk a=>by
  rcases a with a|a|a|a|⟨j,f,a⟩|a
  .exact .w a
  .exact .s (.w a)
  .rw[m]at a;exact .s (.s (.w a))
  .rw[p]at a;exact .s (.s (.s (.w a)))
  .rcases ef with e|⟨e,_⟩
   .rw[e]at f;cases f
   rw[e]at f;exact .s (.s (.s (.s (.w ⟨j,f,a⟩))))
  rw[x]at a;exact .s (.s (.s (.s (.s a))))
 refine⟨s',{d with m:=i,M:={d.M with m:=i} },R,?_,λ_ h=>h,λ_ h=>.w h,λk a=>.w (v k a),⟨hF.os,hF.tape,hF.output,hF.size,λk a S=>hF.u k a (λe=>S (e.elim .w (λe=>.s (.w e))))⟩⟩;refine⟨T,K,wf,AG h.g r,h.h,λj f=>?_,?_,?_,?_,?_,h.v,h.tk,h.z,λk a=>⟨(h.b k (v k a)).1,AQ (h.b k (v k a)).2 r⟩,?_,P,D,F,C,λk a=>AQ (h.q k a) r,λk a=>?_⟩
 .rcases ef with e|⟨e1,e2⟩
  .rw[e]at f;cases f
  rw[e1]at f;have b:=h.o j f;simp only[Dj]at e2;obtain⟨⟨e2,e3,e4,e5⟩,N⟩:=e2;have G:Uf d.M.m i:=by rw[b.m];exact N
  have V:∀k,J8 j d.M k->k<w.s:=λk a=>(h.b k (.s (.s (.s (.s (.w ⟨j,f,a⟩)))))).2;have H:∀k,J8 j d.M k->k<w.s->¬(d.M.h<=k/\k<d.M.g)->w'.e w k:=λk z A B=>c k A (b.ap k z).1 (by rw[<-b.h,<-b.g];exact B);have L:Y.CP w' d.M.h d.M.g d.M.f d.M.L i:=by rw[b.h,b.g,b.f,b.L,<-e2];exact K
  refine⟨b.j,Ll.set b.o wf r L H,b.r.f G,b.f.i e2.A,b.h,b.g,b.L,I,by rw[e3];exact b.nl,by rw[e3];exact MF b.own (λg q=>o g (b.nR g q)),λk a=>b.nR k (by rw[<-e3];exact a),b.here,λe=>?_,λk a=>by rw[m,p];exact b.ap k a⟩;rw[e5];rw[e4]at e;refine((b.c e).step (w':=w') (M':=d.M) I I I I (λg q Q=>?_) (AB _)).f G;obtain⟨M,_⟩:=II.tk b.o g q;exact H g (.s q) Q (λe=>M (.w e))
 .rw[x];exact h.a.d (λk a=>c k (h.b k (.s (.s (.s (.s (.s a)))))).2 (λe=>by obtain⟨c1,l⟩:=Kn h.a.1 a;subst e;exact KY l h.c EB I) (h.r k a).1) h.t o
 .exact h.t
 .rw[m];refine h.li.d (λk a=>?_);rcases a with a|a
  .have t:=(h.b k (.s (.s (.w a)))).2;obtain⟨c1,l⟩:=Kn h.li.1 a;exact c k t (λe=>by subst e;exact KY l h.c EB I) (h.ap.2.1 k a)
  exact o k a
 .rw[p];refine h.x.d (λk a=>?_);rcases a with a|a
  .have t:=(h.b k (.s (.s (.s (.w a))))).2;obtain⟨c1,l⟩:=Kn h.x.1 a;exact c k t (λe=>by subst e;exact KY l h.c EB I) (h.ap.2.2 k a)
  exact o k a
 .rw[m,p];exact h.ap
 rw[x]at a;rw[m];refine⟨(h.r k a).1,(h.r k a).2.1,λj f=>?_⟩;rcases ef with e|⟨e,_⟩
 .rw[e]at f;cases f
 rw[e]at f;exact(h.r k a).2.2 j f
theorem oA(m:Y.M)(b p:Int)(s:Du):Y.ER (Y.OV m b p s)=Y.ER m:=by unfold Y.OV;split<;>rfl
theorem SC(w:Z)(o:Ir)(k:Nat):(w.alloc (.cells o.arr 65)).cell? (O w.heap.size k)=o.arr[k]? := AU _ _ _ _ 65 (0,0) (AR _ _)
theorem qI(h:E0 u w sb R s d n)(o:Ir)(hk:14<=o.kind/\o.kind<=17)(F:-9223372036854775808<=o.b)(G:o.b<=9223372036854775807)(hd:o.data.length<=1048576):Calls prog 58 #[.c sb,NI o] w λe w'=>e=.a (.tuple #[])/\E9 u w sb R s d n w':=by
 obtain⟨z,⟨t1,t2,t3⟩,pa,tp,D,p,m,ot⟩:=o;dsimp only at hk F G hd;obtain⟨W,hW⟩:=E (w.alloc (.cells (Ir.arr ⟨z,(t1,t2,t3),pa,tp,D,p,m,ot⟩) 65));have C:Below w.heap.size w W:=by rw[hW];exact(AP _ w).alloc (AB _) _
 obtain⟨g,t⟩:=E w.heap.size;have a7:∀k,W.cell? (O g k)=(Ir.arr ⟨z,(t1,t2,t3),pa,tp,D,p,m,ot⟩)[k]? := λk=>by rw[hW,t];exact SC w _ k
 have y0:W.cell? (O g 0)=some (.a z):=a7 0;have N:W.drew.cell? (O g 5)=some (.a p):=a7 5;have z6:W.drew.cell? (O g 6)=some (.a m):=a7 6;have M:W.drew.cell? (O g 4)=some (.string (X D)):=a7 4;have H:=J (h.f C);have Q:=J h;change Hid _ at C;have c0:W.cell? (O sb 0)=some (.c s.c):=H.o.c.cell 0;have x0:W.drew.cell? (O sb 0)=some (.c s.c):=c0;have aE:g≠sb:=by rw[t];exact Dz ((h.b sb (.w I)).2)
 have av:¬(d.h<=g/\g<d.g):=by rw[t];exact Dz h.g
 have aA:g<W.drew.heap.size:=Am _ _ N;have ae:Hid (Y.CP W.drew d.h d.g s.c d.L d.m):=J H.o.j.drew;have v:=J (Y.Er W d.h d.g s.c d.L d.m H.o.j);have K:Hid (W=w.alloc (.cells #[.a z,.slice t1 t2 t3,.string (X pa),.string (X tp),.string (X D),.a p,.a m,.bool ot] 65)):=J hW;change Hid _ at t;have S:Hid (∀c,Y.Ed d.h d.g W.drew c->Y.Fm (λk=>k=sb\/(d.h<=k/\k<d.g)) W c):=J (λc r=>Jh (Ls (AP _ W).drew) (LQ r (λk a b=>.s ⟨a,b⟩)));have T:Hid (∀c,Y.Ed d.h d.g W.drew c->ES c sb s):=J (λc r=>H.o.c.y (r.u sb (by have:=(H.o.b sb (.w I)).2;exact this) H.o.ap.1));have x:Hid (∀c k,Y.Ed d.h d.g W.drew c->c.cell? (O g k)=W.drew.cell? (O g k)):=J (λc k r=>AK (r.u g aA av));clear h hW a7 av aA;unfold NI Ir.arr;dsimp only;obtain⟨l,j⟩:=E s.c;rw[<-j]at c0 x0 ae v;change Hid _ at j;have HX:Hid (∀c,Y.Ed d.h d.g W.drew c->c.cell? (O sb 0)=some (.c l)):=J (λc r=>by rw[j.o];exact(T.o c r).cell 0);have a8:z=14\/z=15\/z=16\/z=17:=U;rcases a8 with rfl|rfl|rfl|rfl
 .have A:=J (Y.Qu W.drew d.h d.g l d.L d.m p m F G ae.o);clear M v;go_enter func58,ntmps58;go_wp2_with rw[<-K.o,<-t.o];go_region_held3 (λV=>V.cell? (O sb 0)=some (.c l)/\V.cell? (O g 5)=some (.a p)/\V.cell? (O g 6)=some (.a m)) (go_keep) (first
   | (go_at_call 27;refine A.o.l ?_;rintro e i ⟨rfl,y,f⟩;have f0:=HX.o i f;have f1:=(x.o i 5 f).i N;have f2:=(x.o i 6 f).i z6;have HV:=J y;have q:=J f;clear y f))
  rename_i hHeld;clear hHeld f0 f1 f2;go_wp2_with fail;go_end0;refine⟨I,E9.of_below Q.o C.o (H.o.put (T.o _ q.o) (by rw[<-j.o];exact HV.o) (S.o _ q.o) (Y.SQ H.o.wf _ _) (.s ⟨I,I,_,_,_,_,I⟩) I I I H.o.m (λe=>?_) H.o.e H.o.find)⟩;exact(H.o.p e).f ⟨_,_,_,_,I⟩
 .have HE:Hid (∀c,Y.Ed d.h d.g W c->Y.Fm (λk=>k=sb\/(d.h<=k/\k<d.g)) W c):=J (λc r=>LQ r (λk a b=>.s ⟨a,b⟩));have aC:Hid (sb<W.heap.size):=J (H.o.b sb (.w I)).2;clear M N z6 x0 T S x HX;by_cases hl:d.m.b=0
  .rw[show(d.m.b==0)=true by rw[hl];rfl]at v;obtain⟨W2,ag⟩:=E (W.setCell (O sb 1) (.pointer none));have an:ES W2 sb {s with f:=none}:=by rw[ag];exact H.o.c.b none
   have am:Y.Ed sb (sb+1) W W2:=by rw[ag];exact MR _ _ _ _
   have ay:Y.CP W2 d.h d.g l d.L d.m:=by rw[j.o];exact Y.EM.c H.o.j H.o.g H.o.ap.1 am
   have P:=J (Y.Mh W2 d.h d.g l d.L d.m ay H.o.wf);have k1:W.cell? (O sb 1)=some (.pointer (s.f.map λb=>⟨b,0,none⟩)):=H.o.c.cell 1;have z1:W.frozen? (O sb 1)=false:=H.o.c.frozen 1;have k0:W2.cell? (O sb 0)=some (.c l):=by rw[j.o];exact an.cell 0
   change Hid _ at ag;have aD:=J an;have aB:=J am;clear an am ay;go_enter func58,ntmps58;go_wp2_with rw[<-K.o,<-t.o];refine Jj v.o ?_;go_wp2_with rw[<-ag.o];refine P.o.l ?_;rintro e W3 ⟨rfl,B,L⟩;change Hid _ at B;have aw:=J L;clear L;go_wp2_with fail;go_end0;have au:ES W3 sb {s with f:=none}:=aD.o.y (aw.o.u sb (AQ aC.o aB.o.size) H.o.ap.1);refine⟨I,E9.of_below Q.o C.o (H.o.put au (by rw[j.o]at B;exact B.o) (Jh (LQ aB.o (λk a b=>.w U)) (LQ aw.o (λk a b=>.s ⟨a,b⟩))) (Y.Nj H.o.wf) (.w I) I I I H.o.m (λe=>?_) H.o.e H.o.find)⟩;exact(H.o.p e).f ⟨_,_,_,_,I⟩
  rw[show(d.m.b==0)=false by simpa using hl]at v;have P:=J (Y.Mh W d.h d.g l d.L d.m (by rw[j.o];exact H.o.j) H.o.wf);go_enter func58,ntmps58;go_wp2_with rw[<-K.o,<-t.o];refine Jj v.o ?_;go_wp2_with fail;refine P.o.l ?_;rintro e W3 ⟨rfl,B,L⟩;change Hid _ at B L;go_wp2_with fail;go_end0;have au:ES W3 sb s:=H.o.c.y (L.o.u sb aC.o H.o.ap.1);refine⟨I,E9.of_below Q.o C.o (H.o.put au (by rw[j.o]at B;exact B.o) (HE.o _ L.o) (Y.Nj H.o.wf) (.s ⟨I,I,_,_,_,_,I⟩) I I I H.o.m (λe=>?_) H.o.e H.o.find)⟩;exact(H.o.p e).f ⟨_,_,_,_,I⟩
 .have A:=J (Y.Ps W.drew d.h d.g l d.L d.m p m F G ae.o);clear M v;go_enter func58,ntmps58;go_wp2_with rw[<-K.o,<-t.o];go_region_held3 (λV=>V.cell? (O sb 0)=some (.c l)/\V.cell? (O g 5)=some (.a p)/\V.cell? (O g 6)=some (.a m)) (go_keep) (first
   | (go_at_call 101;refine A.o.l ?_;rintro e i ⟨rfl,y,f⟩;have f0:=HX.o i f;have f1:=(x.o i 5 f).i N;have f2:=(x.o i 6 f).i z6;have HV:=J y;have q:=J f;clear y f))
  rename_i hHeld;clear hHeld f0 f1 f2;go_wp2_with fail;go_end0;refine⟨I,E9.of_below Q.o C.o (H.o.put (T.o _ q.o) (by rw[<-j.o];exact HV.o) (S.o _ q.o) (Y.RH H.o.wf _ _) (.s ⟨I,I,_,_,_,_,I⟩) I I I H.o.m (λe=>?_) H.o.e H.o.find)⟩;exact(H.o.p e).f ⟨_,_,_,_,I⟩
 have A:=J (Y.RQ W.drew d.h d.g l d.L d.m p m D H.o.wf U ae.o);obtain⟨z0X,hX⟩:=E (Y.X D);have ax:X D=z0X:=by rw[hX];rfl
 rw[<-hX]at A;rw[ax]at M K |-;clear v hX ax;go_enter func58,ntmps58;go_wp2_with rw[<-K.o,<-t.o];go_region_held3 (λV=>V.cell? (O sb 0)=some (.c l)/\V.cell? (O g 5)=some (.a p)/\V.cell? (O g 6)=some (.a m)/\V.cell? (O g 4)=some (.string z0X)) (go_keep) (first
  | (go_at_call 17;refine A.o.l ?_;rintro e i ⟨rfl,y,f⟩;have f0:=HX.o i f;have f1:=(x.o i 5 f).i N;have f2:=(x.o i 6 f).i z6;have f3:=(x.o i 4 f).i M;have HV:=J y;have q:=J f;clear y f))
 rename_i hHeld;clear hHeld f0 f1 f2 f3 M N z6 c0 x0 y0 A;have af:=T.o i q.o;obtain⟨U1,ah⟩:=E (i.setCell (O sb 1) (.pointer none));have ac:ES U1 sb {s with f:=none}:=by rw[ah];exact af.b none
 obtain⟨U2,ai⟩:=E (U1.setCell (O sb 4) (.bool true));have aj:ES U2 sb {s with f:=none,h:=true}:=by rw[ai];exact ac.Lk true
 obtain⟨U3,aa⟩:=E (U2.setCell (O sb 5) (.bool true));have ad:ES U3 sb {s with f:=none,h:=true,e:=true}:=by rw[aa];exact aj.Sj true
 obtain⟨U4,a9⟩:=E (U3.setCell (O sb 6) (.bool true));have az:ES U4 sb {s with f:=none,h:=true,e:=true,free:=true}:=by rw[a9];exact ad.NC true
 have ao:Y.Ed sb (sb+1) i U4:=by rw[a9,aa,ai,ah];exact(((MR _ _ _ _).i (MR _ _ _ _)).i (MR _ _ _ _)).i (MR _ _ _ _)
 have k1:i.cell? (O sb 1)=some (.pointer (s.f.map λb=>⟨b,0,none⟩)):=af.cell 1;have k4:U1.cell? (O sb 4)=some (.bool s.h):=ac.cell 4;have k5:U2.cell? (O sb 5)=some (.bool s.e):=aj.cell 5;have k6:U3.cell? (O sb 6)=some (.bool s.free):=ad.cell 6;have q1:i.frozen? (O sb 1)=false:=af.frozen 1;have q4:U1.frozen? (O sb 4)=false:=ac.frozen 4;have q5:U2.frozen? (O sb 5)=false:=aj.frozen 5;have q6:U3.frozen? (O sb 6)=false:=ad.frozen 6;change Hid _ at ah ai aa a9 az ao;clear af ac aj ad;go_wp2_with (first|(rw[<-ah.o])|(rw[<-ai.o])|(rw[<-aa.o])|(rw[<-a9.o])|fail);go_end0;refine⟨I,E9.of_below Q.o C.o (H.o.put az.o (Y.EM.c (by rw[<-j.o];exact HV.o) (AG H.o.g (S.o _ q.o).size) H.o.ap.1 ao.o) (Jh (S.o _ q.o) (LQ ao.o (λk a b=>.w U))) (Y.Qr H.o.wf _ _ _) (.w I) I I I (by rw[oA];exact H.o.m) (λe=>?_) (λ_=>⟨I,I⟩) (λe=>?_))⟩
 .cases e
 cases e
variable {u:Bs->Option Bs} {w:Z} {sb n fb:Nat} {R:Nat->Prop} {s:Sv} {d:Sd}
structure P5 (w:Z) (sb:Nat) (s:Sv) (d:Sd) (fb:Nat):Prop where
 c:w.cell? (O sb 0)=some (.c s.c)
 f:w.cell? (O sb 1)=some (.c fb)
 g:w.cell? (O sb 2)=some (.slice s.g.1 d.a.length s.g.2.2)
 j:Y.CP w d.h d.g s.c d.L d.m
 o:∃cb lb tb,IV w fb cb lb tb/\EH w tb d.a
 FF:Eh w s.g.1 (Eg d.a)
theorem E0.Py(h:E0 u w sb R s d n)(a:s.f=some fb):P5 w sb s d fb:=by refine⟨h.c.cell 0,?_,h.O7 a,h.j,⟨_,_,_,II.o (h.o fb a).o,II.j (h.o fb a).o⟩,(h.o fb a).FF⟩;have:=h.c.cell 1;rw[this];unfold Sv.arr;rw[a];rfl
theorem rN(h:E0 u w sb R s d n)(b:ML w)(L:s.f=some fb)(o:Ir)(hk:o.kind=8)(Q:o.c.length<=1048576):Calls prog 60 #[.c sb,NI o] w λe w'=>e=.a (.bool true)/\Below w.heap.size w w':=by
 obtain⟨kd,⟨t1,t2,t3⟩,c,tp,H,T,C,ot⟩:=o;dsimp only at hk Q;subst hk;obtain⟨W,v⟩:=E (w.alloc (.cells (Ir.arr ⟨8,(t1,t2,t3),c,tp,H,T,C,ot⟩) 65));have j:Below w.heap.size w W:=by rw[v];exact(AP _ w).alloc (AB _) _
 obtain⟨g,M⟩:=E w.heap.size;have z:∀k,W.cell? (O g k)=(Ir.arr ⟨8,(t1,t2,t3),c,tp,H,T,C,ot⟩)[k]? := λk=>by rw[v,M];exact SC w _ k
 have y0:W.cell? (O g 0)=some (.a 8):=z 0;obtain⟨P,p⟩:=E (X c);have y2:W.cell? (O g 2)=some (.string P):=by rw[p];exact z 2
 have ah:g<W.heap.size:=Am _ _ y0;have q:Hid (∀V,Below W.heap.size W V->V.cell? (O g 2)=some (.string P)):=J (λV a=>(a.cell ah).i y2);have f:Hid (∀V,Below W.heap.size W V->P5 V sb s d fb):=J (λV a=>(h.f (j.i (a.l (Dz j.size)))).Py L);have HM:Hid (∀V,Below W.heap.size W V->ML V):=J (λV a=>(b.f j b.lt).f a (by have:=j.size;exact Dz b.lt));have S:=(h.o fb L).j;have m:=AP W.heap.size W;have s0:=f.o W m;have c0:=s0.c;have x:=J (Y.Er W d.h d.g s.c d.L d.m s0.j);have sd:=f.o W.drew m.drew;have av:=sd.f;have ar:=q.o W.drew m.drew;obtain⟨aw,lb,tb,hF,hT⟩:=sd.o;have F:=J (fJ W.drew fb aw lb tb d.a c hF hT (HM.o _ m.drew) Q);obtain⟨hE,hD⟩:=VQ S c;rw[<-hE,<-hD]at F;have l:=J (λV (a:Below W.heap.size W V)=>yN s.g.1 s.g.2.2 (Eg d.a) c V (f.o V a).FF (by rw[KW];exact Dz S.len) Q);rw[KW]at l;obtain⟨z0E,ai⟩:=E (JG (Eg d.a) c);obtain⟨D,ag⟩:=E (X (Kx (Eg d.a) c));rw[<-ai,<-ag,<-p]at F l;have HW:Hid (W=w.alloc (.cells #[.a 8,.slice t1 t2 t3,.string P,.string (X tp),.string (X H),.a T,.a C,.bool ot] 65)):=J (by rw[p];exact v);have Hg:=J M;have aj:=J j;unfold NI Ir.arr;dsimp only;rw[<-p];obtain⟨dd,y⟩:=E ((d.m.b==0));rw[<-y]at x;have ao:Hid (∀V,Below W.heap.size W V->Calls prog 25 #[.c s.c] V λe w'=>e=.a (.bool dd)/\w'=V):=J (λV a=>by rw[y];exact Y.Er V d.h d.g s.c d.L d.m (f.o V a).j);obtain⟨p1,B⟩:=E s.g.1;obtain⟨p3,A⟩:=E s.g.2.2;obtain⟨N,K⟩:=E d.a.length;rw[<-B,<-A,<-K]at l;have an:Hid (∀V,Below W.heap.size W V->V.cell? (O sb 2)=some (.slice p1 N p3)):=J (λV a=>by rw[B,A,K];exact(f.o V a).g);clear h b v j z M ah S s0 sd hF hT hE hD ai ag p y B A K y2 L;go_enter func60,ntmps60;go_wp2_with rw[<-HW.o,<-Hg.o];refine Jj x.o ?_;go_wp2_with fail;go_region_held3 (λV=>V.cell? (O sb 1)=some (.c fb)/\V.cell? (O g 2)=some (.string P)) (go_keep) (first
  | (go_at_call 14;refine F.o.l ?_;rintro e V1 ⟨am,rfl⟩;have r:=m.drew.i am;have f0:=(f.o V1 r).f;have f1:=q.o V1 r;have au:=J r;clear am r))
 rename_i hHeld;clear hHeld f0 f1 av ar c0 y0 F x;have i:=au.o.drew;have e2:=an.o _ i;have e3:=q.o _ i;have af:=J (l.o _ i);clear l;go_wp2_with fail;go_region_held3 (λV=>V.cell? (O sb 2)=some (.slice p1 N p3)/\V.cell? (O g 2)=some (.string P)) (go_keep) (first
  | (go_at_call 104;refine af.o.l ?_;rintro e V2 ⟨rfl,ae⟩;have t:=i.i (ae.l i.size);have f0:=an.o V2 t;have f1:=q.o V2 t;have G:=J t;clear ae t))
 rename_i hHeld;clear hHeld f0 f1 e2 e3 af i;have c2:=(f.o _ G.o).c;have D2:=J (ao.o _ G.o);go_wp2_with fail;refine Jj D2.o ?_;cases dd;all_goals
  go_wp2_with fail;go_ret;exact⟨I,aj.o.i (G.o.l aj.o.size)⟩
variable {w w':Z} {B n sb fb:Nat} {e:Ending} {l:List It} {p:Bs} {u:Bs->Option Bs} {R:Nat->Prop} {s:Sv} {d:Sd}
theorem oM{x:It}(h:Es x=true):EO x.c=true:=by unfold Es at h;simp only[AV]at h;exact h.1.1.1.1.1.1
def Q0(l:List It)(p:Bs):List Bs:=if Ie l p=0 then Iv l p else[]
def Yu(l:List It)(p:Bs)(w:Z)(e:Ending)(w':Z):Prop:=
 Below w.heap.size w w'/\∃a c,e=.a (.tuple #[.slice a (Q0 l p).length c,.a (Ie l p)])/\w'.ownsRow w.heap.size 9 1 (.slice a (Q0 l p).length c) (Q0 l p).length (Lf (Q0 l p))
theorem yk{e:TypeId}{b:Nat}{v:Value}{d:List Value}(h:w.ownsRow B e b v n d):∃a c,v=.slice a n c:=by
 rcases h.2 with⟨rfl,rfl⟩|⟨g,_,_,rfl,_⟩
 .exact⟨_,_,I⟩
 exact⟨_,_,I⟩
theorem Ko.ls(h:Ko l p w e w'):Yu l p w e w':=by
 obtain⟨d,⟨b,rfl⟩|⟨b,_,rfl,f⟩⟩:=h
 .refine⟨d,none,0,?_,?_⟩
  .rw[show Q0 l p=[]from AC b];rfl
  rw[show Q0 l p=[]from AC b];exact⟨I,.w ⟨I,I⟩⟩
 have e1:Q0 l p=Iv l p:=AD b;obtain⟨a,c,rfl⟩:=yk f;refine⟨d,a,c,?_,?_⟩
 .rw[e1,b]
 rw[e1];exact f
theorem UF.ls(a:EX l)(h:UF (Eg l) p w e w'):Yu l p w e w':=by obtain⟨q1,q2⟩:=eY a p;unfold UF at h;rw[q1,q2]at h;exact Ko.ls (h:Ko l p w e w')
theorem qF(a:EX l)(p:Bs):(Q0 l p).length<=60:=by
 unfold Q0;split
 .rw[<-(eY a p).2];unfold F7;rw[B0];refine AG (C0 _ _) ?_;rw[KW];exact a.len
 exact AW _
theorem fT{a:Option Addr}{c:Nat}{l:List Bs}(h:w.ownsRow B 9 1 (.slice a n c) n (Lf l)):Y.My w a n (λk=>X (l[k]?.getD [])):=by
 intro _;obtain⟨j,⟨e,rfl⟩|⟨g,_,d,e,_,i,_,_,_,f⟩⟩:=h
 .omega
 cases e;refine⟨g,0,I,λk _=>?_⟩;rw[AU w g _ d 9 (0,0) i,Ak];have m:l.length=n:=by have:=j;rw[Lf,B0]at this;omega
 have b:(Lf l)[k]?=some (.string (X (l[k]?.getD []))):=by rw[Lf,BI,AE U];rfl
 rw[<-f,Aq U]at b;simpa using b
theorem wG(h:E0 u w sb R s d n)(b:ML w)(hn:n<=100000000)(hf:s.f=some fb)(o:Ir)(H:o.kind=9)(hp:o.c.length<=1048576):Calls prog 60 #[.c sb,NI o] w λe w'=>e=.a (.bool true)/\E9 u w sb R s d (n+1) w':=by
 obtain⟨kd,⟨t1,t2,t3⟩,f,tp,da,oa,an,ot⟩:=o;dsimp only at H hp;subst H;obtain⟨W,G⟩:=E (w.alloc (.cells (Ir.arr ⟨9,(t1,t2,t3),f,tp,da,oa,an,ot⟩) 65));have p:Below w.heap.size w W:=by rw[G];exact(AP _ w).alloc (AB _) _
 obtain⟨g,hg⟩:=E w.heap.size;have ah:∀k,W.cell? (O g k)=(Ir.arr ⟨9,(t1,t2,t3),f,tp,da,oa,an,ot⟩)[k]? := λk=>by rw[G,hg];exact SC w _ k
 have y0:W.cell? (O g 0)=some (.a 9):=ah 0;obtain⟨P,z⟩:=E (X f);have y2:W.cell? (O g 2)=some (.string P):=by rw[z];exact ah 2
 have av:g<W.heap.size:=Am _ _ y0;have A:Hid (∀V,Below W.heap.size W V->V.cell? (O g 2)=some (.string P)):=J (λV a=>(a.cell av).i y2);have M:Hid (∀V,Below W.heap.size W V->E0 u V sb R s d n):=J (λV a=>h.f (p.i (a.l (Dz p.size))));have i:Hid (∀V,Below W.heap.size W V->P5 V sb s d fb):=J (λV a=>(M.o V a).Py hf);have HM:Hid (∀V,Below W.heap.size W V->ML V):=J (λV a=>(b.f p b.lt).f a (by have:=p.size;exact Dz b.lt));have c:=(h.o fb hf).j;have Ht:=J c;have t:=J h;have y:=AP W.heap.size W;have s0:=i.o W y;have c0:=s0.c;have L:=J (Y.Er W d.h d.g s.c d.L d.m s0.j);have sd:=i.o W.drew y.drew;have aE:=sd.f;have aC:=A.o W.drew y.drew;obtain⟨aF,lb,tb,hF,hT⟩:=sd.o;have F:=J ((we W.drew fb aF lb tb d.a f hF hT c (HM.o _ y.drew) hp).l (λe w' hh=>hh.ls));have j:=J (λV (a:Below W.heap.size W V)=>(pA s.g.1 s.g.2.2 (Eg d.a) f V (i.o V a).FF (by rw[KW];exact Dz c.len) hp (λx hx=>⟨oM (c.ok x (Eo.1 hx)),by exact Dz ((NR (c.ok x (Eo.1 hx))).p)⟩)).l (λe w' hh=>UF.ls c hh));rw[KW]at j;have az:=qF c f;unfold Yu at F j;obtain⟨z0E,aw⟩:=E (Ie d.a f);obtain⟨ls,ag⟩:=E (Q0 d.a f);rw[<-aw,<-ag,<-z]at F j;rw[<-ag]at az;obtain⟨K,hK⟩:=E ls.length;rw[<-hK]at F j az;have HW:Hid (W=w.alloc (.cells #[.a 9,.slice t1 t2 t3,.string P,.string (X tp),.string (X da),.a oa,.a an,.bool ot] 65)):=J (by rw[z];exact G);have Hg:=J hg;have D:=J p;unfold NI Ir.arr;dsimp only;rw[<-z];obtain⟨dd,T⟩:=E ((d.m.b==0));rw[<-T]at L;have aB:Hid (∀V,Below W.heap.size W V->Calls prog 25 #[.c s.c] V λe w'=>e=.a (.bool dd)/\w'=V):=J (λV a=>by rw[T];exact Y.Er V d.h d.g s.c d.L d.m (i.o V a).j);obtain⟨p1,ai⟩:=E s.g.1;obtain⟨p3,l⟩:=E s.g.2.2;obtain⟨N,hN⟩:=E d.a.length;rw[<-ai,<-l,<-hN]at j;have aA:Hid (∀V,Below W.heap.size W V->V.cell? (O sb 2)=some (.slice p1 N p3)):=J (λV a=>by rw[ai,l,hN];exact(i.o V a).g);clear h b G p ah hg av c s0 sd hF hT aw ag z T ai l hN y2 hf hK;go_enter func60,ntmps60;go_wp2_with rw[<-HW.o,<-Hg.o];refine Jj L.o ?_;go_wp2_with fail;go_region_held3 (λV=>V.cell? (O sb 1)=some (.c fb)/\V.cell? (O g 2)=some (.string P)) (go_keep) (first
  | (go_at_call 15;refine F.o.l ?_;rintro e V1 ⟨ay,Q,k1,rfl,a5⟩;have B:=y.drew.i ay;have f0:=(i.o V1 B).f;have f1:=A.o V1 B;have aD:=J B;have aj:=J a5;clear ay B a5))
 rename_i hHeld;clear hHeld f0 f1 aE aC c0 y0 F L;have m:=aD.o.drew;have e2:=aA.o _ m;have e3:=A.o _ m;have ar:=J (j.o _ m);clear j;go_wp2_with fail;go_region_held3 (λV=>V.cell? (O sb 2)=some (.slice p1 N p3)/\V.cell? (O g 2)=some (.string P)) (go_keep) (first
  | (go_at_call 105;refine ar.o.l ?_;rintro e v ⟨af,a2,k2,rfl,a6⟩;have C:=m.i (af.l m.size);have f0:=aA.o v C;have f1:=A.o v C;have r:=J C;have ax:=J a6;have au:=J af;clear af C a6))
 rename_i hHeld;clear hHeld f0 f1 e2 e3 ar m;have c2:=(i.o _ r.o).c;have D2:=J (aB.o _ r.o);have ao:Hid (v.ownsRow w.heap.size 9 1 (.slice Q K k1) K (Lf ls)):=J (MF (NV aj.o (by have:=D.o.size;exact this)) (λq hq=>au.o.u q (aj.o.lt q hq).2));have S:=J (Y.Io Q a2 K k1 k2 _ v U (fT ao.o) (fT ax.o));have KT:=J (λq=>pV (v.drewN q) sb s d.b d.k Q K k1 w.heap.size (Lf ls) (M.o _ (TW r.o q)).c (M.o _ (TW r.o q)).x.1 t.o.tk.1 (Dz t.o.tk.2) (MF ao.o (λ_ _=>rfl)) U (AG D.o.size r.o.size) (t.o.b sb (.w I)).2 (λk H=>(t.o.b k (.s (.s (.s (.w H))))).2));clear aj ax au;go_wp2_with fail;refine Jj D2.o ?_;clear D2;go_wp2_with fail;refine S.o.l ?_;rintro e w2 ⟨rfl,q,rfl⟩;clear S;go_wp2_with fail;refine(KT.o q).l ?_;rintro e w3 l;have he:=l.1;subst he;have HP:=J (t.o.Oy (D.o.i ((TW r.o q).l D.o.size)) l);clear l KT c2;cases dd;all_goals
  go_wp2_with fail;go_ret;exact⟨I,HP.o⟩
theorem zL(h:E0 u w sb R s d n)(a:ML w)(N:n<=100000000)(F:s.f=some fb)(o:Ir)(p:o.kind≠8)(q:o.kind≠9):Calls prog 60 #[.c sb,NI o] w λe w'=>e=.a (.bool true)/\E9 u w sb R s d (n+1) w':=by
 obtain⟨i,⟨x,y,z⟩,v,A,l,r,j,t⟩:=o;dsimp only at p q;obtain⟨W,f⟩:=E (w.alloc (.cells (Ir.arr ⟨i,(x,y,z),v,A,l,r,j,t⟩) 65));have b:Below w.heap.size w W:=by rw[f];exact(AP _ w).alloc (AB _) _
 obtain⟨g,m⟩:=E w.heap.size;have C:∀k,W.cell? (O g k)=(Ir.arr ⟨i,(x,y,z),v,A,l,r,j,t⟩)[k]? := λk=>by rw[f,m];exact SC w _ k
 have P:W.cell? (O g 0)=some (.a i):=C 0;have c:=h.f b;have c0:=(c.Py F).c;have B:=J (Y.Er W d.h d.g s.c d.L d.m c.j);have T:=J (Ur c (a.f b a.lt) N F);have K:Hid (W=w.alloc (.cells #[.a i,.slice x y z,.string (X v),.string (X A),.string (X l),.a r,.a j,.bool t] 65)):=J f;have L:=J m;have M:=J b;have G:=J h;unfold NI Ir.arr;dsimp only;clear h c a f b C m;go_enter func60,ntmps60;go_wp2_with rw[<-K.o,<-L.o];refine Jj B.o ?_;clear B;go_wp2_with fail;refine T.o.l ?_;rintro e _ ⟨rfl,D⟩;have H:=J D;clear D T;go_wp2_with fail;go_ret;exact⟨I,E9.of_below G.o M.o H.o.step⟩
theorem mX(h:E0 u w sb R s d n)(a:ML w)(i:n<=100000000)(b:s.f=some fb)(o:Ir)(j:o.c.length<=1048576):Calls prog 60 #[.c sb,NI o] w λe w'=>e=.a (.bool true)/\E9 u w sb R s d (n+1) w':=by
 by_cases f:o.kind=8
 .exact(rN h a b o f j).l (λe w' c=>⟨c.1,E9.of_below h c.2 (E9.refl ((h.f c.2).later (DB n)))⟩)
 by_cases g:o.kind=9
 .exact wG h a i b o g j
 exact zL h a i b o f g
def Rn(R:Nat->Prop)(w w':Z)(d:Sd)(Ex:Nat->Prop)(k:Nat):Prop:=R k\/(w.heap.size<=k/\k<w'.heap.size/\¬(d.h<=k/\k<d.g)/\¬Ex k)
def Fx(sb:Nat)(s:Sv)(d:Sd)(k:Nat):Prop:=k=sb\/(d.h<=k/\k<d.g)\/(∃fb,s.f=some fb/\J8 fb d.M k)\/ob s.a=some k
theorem fx{a:Nat}{s:Sv}{d:Sd}{w w':Z}(h:Y.Fm (λk=>k=a\/(d.h<=k/\k<d.g)) w w'):Y.Fm (Fx a s d) w w':=⟨h.os,h.tape,h.output,h.size,λk b c=>h.u k b (λe=>c (e.imp id .w))⟩
theorem E0.make{u:Bs->Option Bs}{w w':Z}{b:Nat}{R:Nat->Prop}{s s':Sv}{d d':Sd}{n n':Nat}(i:Nat->Prop)(h:E0 u w b R s d n)(p:s'.d=s.d)(D:s'.b=s.b)(m:d'.es=d.es)(o:d'.b=d.b)(L:d'.j=d.j)(W:d'.k=d.k) (hs:ES w' b s') (l:Y.CP w' d'.h d'.g s'.c d'.L d'.m) (wf:Y.WF d'.m) (H:d'.g<=w'.heap.size) (K:0<d'.h) (r:(d'.h=d.h/\d'.g=d.g)\/w.heap.size<=d'.h) (hF:Y.Fm (Fx b s d) w w') (j:∀fb,s'.f=some fb->R0 u w' b (Rn R w w' d' i) s' d' n' fb/\∀k,J8 fb d'.M k->(∃g,s.f=some g/\J8 g d.M k)\/(w.heap.size<=k/\(i k\/(d'.h<=k/\k<d'.g)))) (v:IX w' s'.a d'.ms) (x:∀k,ob s'.a=some k->ob s.a=some k\/(w.heap.size<=k/\k<w'.heap.size/\i k/\¬(d'.h<=k/\k<d'.g)/\∀fb,s'.f=some fb->¬J8 fb d'.M k)) (M:∀y∈d'.ms,Nz (Rn R w w' d' i) y.1.1 y.2.length) (N:d'.ms.length<=n'+1) (C:n<=n') (z:s'.m<=Y.ER d'.m) (P:s'.e=false->Y.KN u d'.m s'.m (701*n'+1)) (Q:s'.e=true->s'.free=true/\s'.h=true) (G:s'.h=false->∃y∈d'.ms,Finds u d'.m y.2):E0 u w' b (Rn R w w' d' i) s' d' n'/\(∀k,R k->Rn R w w' d' i k)/\(∀k,Rn R w w' d' i k->R k\/(w.heap.size<=k/\k<w'.heap.size))/\(∀k,Mu b s' d' k->Mu b s d k\/w.heap.size<=k)/\Y.Fm (Mu b s d) w w':=by
 have a:=hF.size;have f:∀k,k<w.heap.size->k≠b->¬(d.h<=k/\k<d.g)->(∀fb,s.f=some fb->¬J8 fb d.M k)->ob s.a≠some k->w'.e w k:=λk V F B a c=>hF.u k V (λe=>e.elim F (λe=>e.elim B (λe=>e.elim (λ⟨fb,e1,e2⟩=>a fb e1 e2) c)));have T:∀k,R k->w'.e w k:=λk a=>f k (h.q k a) (λe=>(h.b k (.w e)).1 a) (λe=>(h.b k (.s (.w e))).1 a) (λfb e1 e2=>(h.b k (.s (.s (.s (.s (.w ⟨fb,e1,e2⟩)))))).1 a) (λe=>(h.b k (.s (.s (.s (.s (.s e)))))).1 a);have a9:b<w.heap.size:=(h.b b (.w I)).2;have c:=h.g;have A:∀k,k<w.heap.size->¬(d.h<=k/\k<d.g)->¬(d'.h<=k/\k<d'.g):=λk V F B=>by
  rcases r with⟨e1,e2⟩|e
  .rw[e1,e2]at B;exact F B
  omega
 have S:∀k,Mu b s' d' k->Mu b s d k\/(w.heap.size<=k/\(i k\/(d'.h<=k/\k<d'.g))/\k<w'.heap.size):=λk a=>by
  rcases a with a|a|a|a|⟨fb,t,a⟩|a
  .exact .w (.w a)
  .rcases r with⟨e1,e2⟩|e
   .rw[e1,e2]at a;exact .w (.s (.w a))
   exact .s ⟨by omega,.s a,by omega⟩
  .rw[p]at a;exact .w (.s (.s (.w a)))
  .rw[D]at a;exact .w (.s (.s (.s (.w a))))
  .obtain⟨i,c⟩:=j fb t;rcases c k a with e|e
   .exact .w (.s (.s (.s (.s (.w e)))))
   exact .s ⟨e.1,e.2,II.lt i.o k a⟩
  rcases x k a with e|e
  .exact .w (.s (.s (.s (.s (.s e)))))
  exact .s ⟨e.1,.w e.2.2.1,e.2.1⟩
 refine⟨⟨hs,l,wf,H,K,λfb t=>(j fb t).1,v,M,?_,?_,?_,?_,N,?_,?_,z,P,Q,G,?_,λk a=>?_⟩,λk a=>.w a,λk a=>a.imp id (λe=>⟨e.1,e.2.1⟩),λk a=>(S k a).imp id (λe=>e.1),?_⟩
 .rw[p,m];refine(h.li.d (λk a=>?_)).grow (λk a=>.w a);rcases a with a|a
  .have l:=(h.b k (.s (.s (.w a)))).2;obtain⟨c1,z⟩:=Kn h.li.1 a;exact f k l (λe=>by subst e;exact KY z h.c EB I) (h.ap.2.1 k a) (λfb e1 e2=>((h.o fb e1).ap k e2).2.1 a) (λe=>(h.r k e).2.1 a)
  exact T k a
 .rw[D,o];refine(h.x.d (λk a=>?_)).grow (λk a=>.w a);rcases a with a|a
  .have l:=(h.b k (.s (.s (.s (.w a))))).2;obtain⟨c1,z⟩:=Kn h.x.1 a;exact f k l (λe=>by
    subst e;exact KY z h.c EB I) (h.ap.2.2 k a) (λfb e1 e2=>((h.o fb e1).ap k e2).2.2 a) (λe=>by
    obtain⟨c2,c⟩:=Kn h.a.1 e;exact KY c z EB I)
  exact T k a
 .rw[m,L];exact⟨h.v.1,AG h.v.2 C⟩
 .rw[o,W];exact⟨h.tk.1,AG h.tk.2 C⟩
 .intro k a;rcases S k a with L|⟨e1,e2,e3⟩
  .obtain⟨W,_⟩:=h.b k L;refine⟨λc=>?_,by omega⟩;rcases c with c|c
   .exact W c
   omega
  refine⟨λc=>?_,by omega⟩;rcases c with c|c
  .exact Dz (h.q k c)
  exact e2.elim c.2.2.2 c.2.2.1
 .refine⟨A b a9 h.ap.1,λk a=>?_,λk a=>?_⟩
  .rw[p]at a;exact A k (h.b k (.s (.s (.w a)))).2 (h.ap.2.1 k a)
  rw[D]at a;exact A k (h.b k (.s (.s (.s (.w a))))).2 (h.ap.2.2 k a)
 .intro k a;rcases a with a|a
  .exact Dz (h.q k a)
  exact a.2.1
 .rcases x k a with e|⟨e1,e2,e3,e4,e5⟩
  .have l:=(h.b k (.s (.s (.s (.s (.s e)))))).2;obtain⟨b,c,f⟩:=h.r k e;refine⟨A k l b,by rw[p];exact c,λfb t L=>?_⟩;rcases(j fb t).2 k L with⟨g,q1,q2⟩|q
   .exact f g q1 q2
   omega
  refine⟨e4,λe=>?_,e5⟩;rw[p]at e;have:=(h.b k (.s (.s (.w e)))).2;omega
 exact⟨hF.os,hF.tape,hF.output,hF.size,λk a C=>hF.u k a (λe=>C (e.elim .w (λe=>.s (e.elim .w (λe=>.s (.s (.s e)))))))⟩
theorem ZI{w:Z}{g:Nat}{x:Sl}{l:List It}(h:w.heap[g]?=some (.cells #[.slice x.1 x.2.1 x.2.2] 26 (0,0)))(b:x.2.1=l.length)(c:l.length<=1000)(d:Eh w x.1 l):IX w (some (O g 0),1,1) [(x,l)]:=by refine⟨⟨I,.s ⟨g,1,_,I,AW _,h,AB _,by decide,I,I⟩⟩,λy a=>?_⟩;simp at a;subst a;exact⟨b,c,d⟩
variable {u:Bs->Option Bs} {w:Z} {sb n:Nat} {R:Nat->Prop} {s:Sv} {d:Sd}
theorem E9.later{w':Z}{n':Nat}(h:E9 u w sb R s d n w')(j:n<=n'):E9 u w sb R s d n' w':=by obtain⟨k,i,a,b,c,e,f,g⟩:=h;exact⟨k,i,a,b.later j,c,e,f,g⟩
theorem sW(hP:Ge u)(h:E0 u w sb R s d n)(hml:ML w)(hn2:n<=3000000)(o:Ir)(l:List It)(hol:o.j.2.1=l.length)(K:o.j.1=none->o.j=(none,0,0))(hin:Eh w o.j.1 l)(v:Nz R o.j.1 l.length)(hn:l.length<=1048576)(hp:∀x∈l,x.c.length<=1048576)(hd:∀x∈l,x.data.length<=1048576):Calls prog 56 #[.c sb,NI o] w λe w'=>e=.a (.bool true)/\E9 u w sb R s d (n+1) w':=by
 obtain⟨kd,⟨S,_,t3⟩,pa,tp,da,oa,aR,ot⟩:=o;dsimp only at hol K hin v;subst hol;obtain⟨W,hW⟩:=E (w.alloc (.cells (Ir.arr ⟨kd,(S,l.length,t3),pa,tp,da,oa,aR,ot⟩) 65));have ad:Below w.heap.size w W:=by rw[hW];exact(AP _ w).alloc (AB _) _
 obtain⟨g,hg⟩:=E w.heap.size;have b9:∀k,W.cell? (O g k)=(Ir.arr ⟨kd,(S,l.length,t3),pa,tp,da,oa,aR,ot⟩)[k]? := λk=>by rw[hW,hg];exact SC w _ k
 obtain⟨N,hN⟩:=E l.length;have y1:W.cell? (O g 1)=some (.slice S N t3):=by rw[hN];exact b9 1
 have bf:g<W.heap.size:=Am _ _ y1;have aj:Eh W S l:=hin.f ad;have hI:=h.f ad;have az:=hml.f ad hml.lt;have HW:Hid (W=w.alloc (.cells #[.a kd,.slice S N t3,.string (X pa),.string (X tp),.string (X da),.a oa,.a aR,.bool ot] 65)):=J (by rw[hN];exact hW);change Hid _ at hg ad h;have P:=J hI;have HN:=J hN;have a8:=J aj;have aW:=J v;have a7:=J az;have Hp:=J hp;have Hd:=J hd;have LE:=J (pQ S t3 l W aj hn);unfold NI Ir.arr;dsimp only;rw[<-hN]at LE hn v |-;obtain⟨G,hG⟩:=E W.heap.size;rw[<-hG]at LE;have HG:=J hG;have be:g<G:=by rw[hG];exact bf
 have bD:(N:Int)<=((N+2:Nat):Int):=U;have br:(0:Int)<=(N:Int):=U;have bu:(S=none/\N=0/\t3=0)\/∃ta,S=some ta:=by
  cases S with
  |none=>left;have:=K I;rw[hN];simp at this;exact⟨I,by rw[this.1];rfl,this.2⟩
  |some ta=>exact .s ⟨ta,I⟩
 clear hI hml az hW b9 bf aj hN hG hin v K hp hd;rcases bu with⟨rfl,rfl,rfl⟩|⟨ta,rfl⟩
 case' inl=>go_enter func56,ntmps56;go_wp2_with rw[<-HW.o,<-hg.o];refine LE.o.l ?_;rintro e w1 ⟨rfl,ae,aK⟩;obtain⟨T,hT⟩:∃T:Option Addr,T=none:=⟨_,rfl⟩;obtain⟨C,_⟩:∃C:Nat,C=0:=⟨_,rfl⟩;have q1:w1.cell? (O g 1)=some (.g):=(ae.cell be).i y1;have RC:=J (ZP none 0 l w1 (a8.o.f (by rw[<-HG.o];exact ae)) (by rw[<-HN.o];omega) Hp.o);have BA:=J (λV (m:Below W.heap.size W V) (_:FP V G (l++H9 2 (-77)))=>Zh hP none 0 l V d.h d.g s.c d.L d.m P.o.wf (P.o.f m).j (P.o.f m).g (a7.o.f m a7.o.lt) P.o.h (a8.o.f m) (by rw[<-HN.o];omega) Hp.o Hd.o);have AL:=J (λV hB (hI:Eh V none l)=>fE G none 0 l V hB hI (by rw[<-HN.o];omega))
 case' inr=>go_enter func56,ntmps56;go_wp2_with rw[<-HW.o,<-hg.o];refine LE.o.l ?_;rintro e w1 ⟨rfl,ae,aK⟩;have q1:w1.cell? (O g 1)=some (.slice (some ta) N t3):=(ae.cell be).i y1;have RC:=J (ZP (some ta) t3 l w1 (a8.o.f (by rw[<-HG.o];exact ae)) (by rw[<-HN.o];omega) Hp.o);have BA:=J (λV (m:Below W.heap.size W V) (hB:FP V G (l++H9 2 (-77)))=>Zh hP (FH G) (N+2) l V d.h d.g s.c d.L d.m P.o.wf (P.o.f m).j (P.o.f m).g (a7.o.f m a7.o.lt) P.o.h hB.front (by rw[<-HN.o];omega) Hp.o Hd.o);have AL:=J (λV hB (hI:Eh V (some ta) l)=>fE G (some ta) t3 l V hB hI (by rw[<-HN.o];omega))
 all_goals
  rw[<-HN.o]at RC BA AL;have bz:=J aK;have aS:Hid (Below W.heap.size W w1):=J (by rw[<-HG.o];exact ae);have bq:G<w1.heap.size:=lt_of_heap aK;clear y1 LE aK ae;go_wp2_with rw[Go.Lib.run_eql_slice_nil (P:=prog) _ 26 39 _ _ _ _ _ underlying26];refine RC.o.l ?_;rintro e z ⟨au,am⟩;have aB:Hid (Below W.heap.size W z):=J (aS.o.i (au.l aS.o.size));have aH:=J (bz.o.f au bq);have q2:=(au.cell (show g<w1.heap.size by omega)).i q1;have f:=J (P.o.f aB.o);have c0:z.cell? (O sb 0)=some (.c s.c):=f.o.c.cell 0;have D:=J (Y.Er z d.h d.g s.c d.L d.m f.o.j);have B:=J (BA.o z aB.o aH.o);have bi:G<z.heap.size:=Dz au.size;have aY:=J (a8.o.f aB.o);have bx:Hid (w.heap.size<=W.heap.size):=J ad.o.size;obtain⟨dd,aV⟩:=E ((d.m.b==0));rw[<-aV]at D;change Hid _ at aV;have aG:Hid (Below w.heap.size w z):=J (ad.o.i (aB.o.l ad.o.size));have H3:Hid (∀V,Y.Ed d.h d.g z V->FP V G (l++H9 2 (-77))/\Eh V _ l/\ES V sb s/\V.cell? (O g 1)=z.cell? (O g 1)):=J (λV m=>⟨(m.u G bi (λe=>by have:=P.o.g;exact Dz HG.o)).i aH.o,aY.o.b aW.o (λk hk=>m.u k (f.o.q k hk) (λe=>(f.o.b k (.s (.w e))).1 hk)),f.o.c.y (m.u sb (f.o.b sb (.w I)).2 f.o.ap.1),AK (m.u g U (λe=>by have:=h.o.g;exact Dz hg.o))⟩);clear au RC BA q1;rcases am with⟨aL,rfl⟩|⟨hyes,_,rfl,i⟩
  .clear aH;go_wp2_with fail;refine Jj D.o ?_;clear D;go_wp2_with fail;refine B.o.l ?_;rintro e w3 (⟨_,rfl,ai,a9⟩|⟨hy,_⟩)
   .obtain⟨x1,x2,x3,x4⟩:=H3.o w3 a9;have q3:=x4.i q2;have A:=J (AL.o w3 x1 x2);change Hid _ at x3 ai a9;clear x1 x2 x4 B AL q2 c0;go_wp2_with fail;refine A.o.l ?_;rintro e L ⟨rfl,q,rfl⟩;clear A q3;go_wp2_with fail;go_ret;refine⟨I,E9.later (E9.of_below h.o aG.o (f.o.put (w':=w3.drewN q) x3.o (Y.EM.drewN ai.o q) (Jh (LQ a9.o (λk a b=>.s ⟨a,b⟩)) (Ls (S3 (AP _ _) q))) f.o.wf (.s ⟨I,I,_,_,_,_,I⟩) I I I f.o.m f.o.p f.o.e f.o.find)) (DB n)⟩
   rw[aL]at hy;cases hy
  have ht:EX l:=(Pu l).1 hyes;have bb:=(KW l).i HN.o.A;rw[<-bb]at i;obtain⟨av,cv,rfl,bg⟩:=Oq i;obtain⟨M,aJ⟩:=E ((Eg l).length);rw[<-aJ]at i |-;have aP:Hid (∀b p,av=some (O b p)->w.heap.size<=b/\b<z.heap.size):=J (λb p e=>by have:=i.lt b (by rw[e];rfl);have h1:=aS.o.size;have h2:=bx.o;exact⟨by omega,this.2⟩)
  have bm:=J bg;change Hid _ at aJ ht;clear aH i bg bb;go_wp2_with fail;refine Jj D.o ?_;clear D;go_wp2_with fail;refine B.o.l ?_;rintro e w3 (⟨aL,_⟩|⟨_,t,hT,rfl,ai,a9⟩)
  .rw[hyes]at aL;cases aL
  obtain⟨x1,x2,x3,x4⟩:=H3.o w3 a9;have q3:=x4.i q2;have A:=J (AL.o w3 x1 x2);change Hid _ at x3;have HR:=J (jZ f.o.wf t);have aO:Hid ((Y.Fe d.m t).1≠0->∀s':Sv,s'.m=s.m->s'.e=s.e->s'.free=s.free->Kh s' (Y.Fe d.m t).2 (Eg l) (Y.Fe d.m t).1=true):=J (λh0 s' e1 e2 e3=>rf hT f.o.wf (by rw[e1];exact f.o.m) (by rw[e2];exact λe=>(f.o.p e).p) (by rw[e2,e3];exact λe=>(f.o.e e).1) h0);have aI:Hid (s.e=false->Y.KN u (Y.Fe d.m t).2 s.m (701*n+1)/\((Y.Fe d.m t).1=0->Finds u (Y.Fe d.m t).2 (Eg l))):=J (λe=>by
   obtain⟨b1,_,_,_,_,b6⟩:=(f.o.p e).p.renew f.o.wf (VO hT);refine⟨(f.o.p e).renew f.o.wf f.o.m U U hT ht.o (VO hT),λh0=>?_⟩;rcases b6 with⟨_,_,c,k,_,hcog⟩|⟨e9,_⟩|⟨e10,_⟩
   .exact Finds.laid hcog b1 hT ht.o
   .rw[h0]at e9;cases e9
   rw[h0]at e10;cases e10)
  obtain⟨m',aQ⟩:=E ((Y.Fe d.m t).2);obtain⟨r,hr⟩:=E ((Y.Fe d.m t).1);rw[<-aQ,<-hr]at HR aO aI;rw[<-aQ]at ai;rw[<-hr];change Hid _ at ai a9;clear x1 x2 x4 B AL q2 c0 hT aQ hr;go_wp2_with fail;refine A.o.l ?_;rintro e L ⟨rfl,q,aC⟩;have ax:ES L sb s:=by rw[aC];exact x3.o
  have b7:Hid (Y.CP L d.h d.g s.c d.L m'):=J (by rw[aC];exact Y.EM.drewN ai.o q);have an:Hid (Y.Fm (λk=>k=sb\/(d.h<=k/\k<d.g)) z L):=J (by rw[aC];exact Jh (LQ a9.o (λk a b=>.s ⟨a,b⟩)) (Ls (S3 (AP _ _) q)));clear aC A q3 x3 ai a9;obtain⟨Q,ao⟩:=E (L.setCell (O sb 1) (.pointer none));have ah:ES Q sb {s with f:=none}:=by rw[ao];exact ax.b none
  have ac:Y.Ed sb (sb+1) L Q:=by rw[ao];exact MR _ _ _ _
  have k1:L.cell? (O sb 1)=some (.pointer (s.f.map λb=>⟨b,0,none⟩)):=ax.cell 1;have z1:L.frozen? (O sb 1)=false:=ax.frozen 1;change Hid _ at ao;obtain⟨a1,a2,a3,a4,a5⟩:=HR.o;have bB:=(f.o.b sb (.w I)).2;have HL:Hid (∀V,Y.Fm (λk=>k=sb\/(d.h<=k/\k<d.g)) z V->Eh V av (Eg l)):=J (λV m=>bm.o.only (λb p e _=>m.u b (aP.o b p e).2 (λe2=>by have h1:=(aP.o b p e).1;have h2:=h.o.g;have h3:=(h.o.b sb (.w I)).2;rcases e2 with e2|e2<;>omega)))
  by_cases h0:r=0
  .subst h0;have bl:dd=false:=by rw[aV.o];have:=a5 I;simpa using this
   subst bl;obtain⟨F,aE⟩:=E Q.heap.size;obtain⟨j,H⟩:=E (Q.alloc (.cells #[.slice av M cv] 26));have ay:Below Q.heap.size Q j:=by rw[H];exact(AP _ _).alloc (AB _) _
   have bc:j.heap[F]?=some (.cells #[.slice av M cv] 26 (0,0)):=by rw[H,aE];exact AR _ _
   have bG:j.heap.size=F+1:=by rw[H,aE];simp
   have aZ:sb<Q.heap.size:=lt_of_heap ah;have af:ES j sb {s with f:=none}:=ah.y (ay.u sb aZ);obtain⟨W7,aA⟩:=E (j.setCell (O sb 3) (.b F 1 1));have aa:ES W7 sb {s with f:=none,a:=(some (O F 0),1,1)}:=by rw[aA];exact af.NK (some (O F 0),1,1)
   obtain⟨W8,aD⟩:=E (W7.setCell (O sb 4) (.bool s.e));have b8:ES W8 sb {s with f:=none,a:=(some (O F 0),1,1),h:=s.e}:=by rw[aD];exact aa.Lk s.e
   have aw:Y.Ed sb (sb+1) j W8:=by rw[aD,aA];exact(MR _ _ _ _).i (MR _ _ _ _)
   have k3:j.cell? (O sb 3)=some (.slice s.a.1 s.a.2.1 s.a.2.2):=af.cell 3;have z3:j.frozen? (O sb 3)=false:=af.frozen 3;have k5:W7.cell? (O sb 5)=some (.bool s.e):=aa.cell 5;have k4:W7.cell? (O sb 4)=some (.bool s.h):=aa.cell 4;have z4:W7.frozen? (O sb 4)=false:=aa.frozen 4;change Hid _ at H aA aD;have aF:=J aE;have bh:=J b8;have bF:F≠sb:=U;have aU:Hid (Y.Fm (λk=>k=sb\/(d.h<=k/\k<d.g)) z W8):=J (Jh an.o (Jh (LQ ac (λk a b=>.w U)) (Jh (Ls ay) (LQ aw (λk a b=>.w U)))));have bj:Hid (W8.heap[F]?=some (.cells #[.slice av M cv] 26 (0,0))):=J ((aw.u F U U).i bc);have bn:Hid (Y.CP W8 d.h d.g s.c d.L m'):=J (Y.EM.a b7.o (λk e1 e2=>by
    have bA:k<L.heap.size:=by have h1:=an.o.size;have h2:=f.o.g;have e3:k<d.g:=e2;omega
    have bM:k≠sb:=λe=>f.o.ap.1 (by rw[<-e];exact⟨e1,e2⟩);have h5:=ac.size;rw[aw.u k (Dz ay.size) U,ay.u k U,ac.u k bA U]))
   have bI:=aw.size;have bE:=ac.size;clear ah ac ax ay bc af aa b8 aw aE;go_wp2_with (first|(rw[<-ao.o])|(rw[<-H.o,<-aF.o])|(rw[<-H.o])|(rw[<-aA.o])|(rw[<-aD.o])|fail);go_ret;have bC:Y.Fm (λk=>k=sb\/(d.h<=k/\k<d.g)) w W8:=Jh (Ls aG.o) aU.o;have bK:=aU.o.size;have bN:=aG.o.size;have bJ:=an.o.size;have bH:=h.o.g;refine⟨I,{s with f:=none,a:=(some (O F 0),1,1),h:=s.e},{d with m:=m',ms:=[((av,M,cv),Eg l)]},_,E0.make (w':=W8) (n':=n+1) (λk=>k=F) h.o I I I I I I bh.o bn.o a1 (by show d.g<=_;omega) h.o.h (.w ⟨I,I⟩) (fx bC) (λfb hf=>by cases hf) (ZI (x:=(av,M,cv)) bj.o aJ.o (by rw[KW];exact Dz ht.o.len) (HL.o W8 aU.o)) (λk hk=>?_) (λy hy=>?_) (by show 1<=_;omega) (DB n) (AG h.o.m (Y.Gz a2 a3)) (λe=>(aI.o e).1.l U) (λe=>⟨(h.o.e e).1,e⟩) (λe=>⟨_,CN.2 I,(aI.o e).2 (by trivial)⟩)⟩
   .have bs:F=k:=by simpa[ob,Value.ownBlock]using hk
    subst bs;refine .s ⟨?_,?_,I,?_,λfb hf=>by cases hf⟩
    .exact Dz aF.o
    .omega
    show ¬(d.h<=_/\_<d.g);exact Dz aF.o
   simp at hy;subst hy;intro b p e _;have:=aP.o b p e;refine .s ⟨this.1,by omega,?_,by exact Dz aF.o⟩;show ¬(d.h<=_/\_<d.g);omega
  have bp:r=0\/r=9\/r=10:=a4;obtain⟨j,H⟩:=E (Q.setCell (O sb 4) (.bool true));have af:ES j sb {s with f:=none,h:=true}:=by rw[H];exact ah.Lk true
  have aM:Y.Ed sb (sb+1) L j:=by rw[H];exact ac.i (MR _ _ _ _)
  have k4:Q.cell? (O sb 4)=some (.bool s.h):=ah.cell 4;have z4:Q.frozen? (O sb 4)=false:=ah.frozen 4;have aN:Hid (Y.Fm (λk=>k=sb\/(d.h<=k/\k<d.g)) z j):=J (Jh an.o (LQ aM (λk a b=>.w U)));have ar:d.g<=L.heap.size:=AG f.o.g an.o.size;have aX:Y.CP j d.h d.g s.c d.L m':=Y.EM.c b7.o ar f.o.ap.1 aM;have ag:∀x∈Eg l,Fit x:=λx hx=>NR (ht.o.ok x (Eo.1 hx));have RF:=J (lB j sb {s with f:=none,h:=true} d.h d.g d.L m' av cv (Eg l) r bp af a1 aX (AG ar aM.size) f.o.ap.1 (HL.o j aN.o) (by rw[KW];exact Dz ht.o.len) (λx hx=>by exact Dz ((ag x hx).p)) (λx hx=>by exact Dz ((ag x hx).d)));rw[aO.o h0 {s with f:=none,h:=true} rfl I I,<-aJ.o]at RF;change Hid _ at H aX;clear ah ac ax af aM ag aO;go_wp2_with (first|(rw[<-ao.o])|(rw[<-H.o])|fail);refine RF.o.l ?_;rintro e w7 ⟨rfl,aa,b0⟩;change Hid _ at aa b0;clear RF;go_wp2_with fail;go_ret;refine⟨I,E9.later (E9.of_below h.o aG.o (f.o.put (w':=w7) aa.o (Y.EM.c aX.o (AG f.o.g aN.o.size) f.o.ap.1 b0.o) (Jh aN.o (LQ b0.o (λk a b=>.w U))) a1 (.w I) I I I (AG f.o.m (Y.Gz a2 a3)) (λe=>(aI.o e).1) (λe=>⟨?_,I⟩) (λe=>by cases e))) (DB n)⟩;show Ks _ _=true;unfold Ks;dsimp only;rw[(f.o.e e).1];rfl
end
section
open Go.RowKit Go.Nt
theorem E0.OC{u:Bs->Option Bs}{w w':Z}{j B:Nat}{R:Nat->Prop}{s:Sv}{d:Sd}{n:Nat}{a:Option Addr}{e:Ending}(h:E0 u w j R s d n)(c:B<=w.heap.size)(C:∀k,Mu j s d k->ob s.a≠some k->k<B)(D:∀k,ob s.a=some k->a≠FH k)(f:We w B j s d.es d.j a e w')(p:∀k,a=FH k->B<=k/\¬R k):∃c S,E0 u w' j (Ra R B w' j c S) c S (n+1)/\(∀k,Mu j c S k->Mu j s d k\/w.heap.size<=k)/\Y.Fm (λk=>Mu j s d k\/a=FH k) w w':=by
 obtain⟨-,x,A,r,S,t,G,l,z⟩:=f;have N:w.heap.size<=w'.heap.size:=z.size;have f:∀k,k<w.heap.size->k≠j->ob s.d≠some k->a≠FH k->w'.e w k:=λk o q m c=>z.u k o (λe=>by
  rcases e with e|e|e
  .exact q e
  .exact m e
  exact c e)
 have M:∀k,ob x=some k->ob s.d=some k\/w.heap.size<=k:=λk c=>l k c;have aj:∀k,ob x=some k->k<w'.heap.size:=λk c=>(S.lt k c).2;have H:∀k,Mu j s d k->a≠FH k:=λk c e=>by
  by_cases l:ob s.a=some k
  .exact D k l e
  have o:=C k c l;have q:=(p k e).1;omega
 have K:∀k,R k->w'.e w k:=λk c=>f k (h.q k c) (λe=>(h.b k (.w e)).1 c) (λe=>(h.b k (.s (.s (.w e)))).1 c) (λe=>(p k e).2 c);have V:∀k,Mu j {s with d:=x} {d with es:=d.es++A,j:=d.j+1} k->Mu j s d k\/w.heap.size<=k:=λk c=>by
  rcases c with c|c|c|c|c|c
  .exact .w (.w c)
  .exact .w (.s (.w c))
  .exact(M k c).imp (λe=>.s (.s (.w e))) id
  .exact .w (.s (.s (.s (.w c))))
  .exact .w (.s (.s (.s (.s (.w c)))))
  exact .w (.s (.s (.s (.s (.s c)))))
 have p:j<w.heap.size:=(h.b j (.w I)).2;refine⟨{s with d:=x},{d with es:=d.es++A,j:=d.j+1},?_,V,?_⟩
 .refine⟨r,Y.EM.a h.j (λk o q=>f k (by have m:k<d.g:=q;exact Dz h.g) (λe=>h.ap.1 (by rw[<-e];exact⟨o,q⟩)) (λe=>h.ap.2.1 k e ⟨o,q⟩) (H k (.s (.w ⟨o,q⟩)))),h.wf,AG h.g N,h.h,λT m=>?_,h.a.d (λk c=>f k (h.b k (.s (.s (.s (.s (.s c)))))).2 (λe=>by obtain⟨c1,L⟩:=Kn h.a.1 c;subst e;exact KY L h.c EB I) (h.r k c).2.1 (H k (.s (.s (.s (.s (.s c))))))) h.t K,λy r b W e p=>.w (h.t y r b W e p),⟨S,λi y r=>?_⟩,(h.x.d (λk c=>?_)).grow (λk c=>.w c),⟨by rw[AM,h.v.1,t];show _=4*(d.j+1);omega,by have:=h.v.2;show d.j+1<=_;omega⟩,⟨h.tk.1,Cb h.tk.2⟩,Cb h.z,λk c=>⟨λv=>?_,?_⟩,⟨h.ap.1,λk c=>?_,h.ap.2.2⟩,h.m,λe=>(h.p e).l U,h.e,h.find,λk c=>?_,λk c=>⟨(h.r k c).1,λe=>(M k e).elim (h.r k c).2.1 (λe=>by have:=(h.b k (.s (.s (.s (.s (.s c)))))).2;omega),(h.r k c).2.2⟩⟩
  .have t:=h.o T m;have Q:∀k,J8 T d.M k->Mu j s d k:=λk c=>.s (.s (.s (.s (.w ⟨T,m,c⟩))));exact t.move N (λk c=>c.elim (λe=>f k (h.b k (Q k e)).2 (t.ap k e).1 (t.ap k e).2.1 (H k (Q k e))) (K k)) I I (λk c=>.w c) (DB n) (λk c=>⟨(t.ap k c).1,λe=>(M k e).elim (λe=>(t.ap k c).2.1 e) (λe=>by exact Dz ((h.b k (Q k c)).2)),(t.ap k c).2.2⟩)
  .by_cases j:i<d.es.length
   .rw[BG j]at r;obtain⟨P,F,j⟩:=h.li.2 i y r;exact⟨P,F.y (λk c p=>K k (j k c p)),λk c p=>.w (j k c p)⟩
   rw[Ao U]at r;have j:i-d.es.length<4:=Dz ((AN.1 r).1);have j:i/4=d.j:=Dz h.v.1;obtain⟨P,F⟩:=G y (AY r);rw[j];refine⟨P,λp=>?_,λk c p=>?_⟩
   .obtain⟨g,j,e1,e2,e3⟩:=F p;exact⟨g,j,e1,AW _,e3⟩
   obtain⟨g,j,e1,e2,e3,e4⟩:=F p;rw[c]at e1;cases e1;refine .s ⟨e2,lt_of_heap e3,λm=>?_⟩;have l:ob s.a≠some k:=λl=>by
    obtain⟨j,G⟩:=Kn h.a.1 l;exact KY e3 ((z.u k (h.b k (.s (.s (.s (.s (.s l)))))).2 (λe=>by
     rcases e with e|e|e
     .subst e;exact KY G h.c EB I
     .exact(h.r k l).2.1 e
     exact D k l e)).i G) EB I
   rcases m with m|m|m|m|m|m
   .exact Dz (C k (.w m) l)
   .exact Dz (C k (.s (.w m)) l)
   .obtain⟨j,G⟩:=Kn S m;exact KY e3 G EB I
   .have:=C k (.s (.s (.s (.w m)))) l;omega
   .have:=C k (.s (.s (.s (.s (.w m))))) l;omega
   exact l m
  .rcases c with c|c
   .have j:=(h.b k (.s (.s (.s (.w c))))).2;obtain⟨c1,L⟩:=Kn h.x.1 c;exact f k j (λe=>by
     subst e;exact KY L h.c EB I) (λe=>by
     obtain⟨c2,j⟩:=Kn h.li.1 e;exact KY L j EB I) (H k (.s (.s (.s (.w c)))))
   exact K k c
  .rcases v with v|⟨_,_,v⟩
   .rcases V k c with o|o
    .exact(h.b k o).1 v
    exact Dz (h.q k v)
   exact v c
  .rcases c with c|c|c|c|c|c
   .rw[c];omega
   .have:=h.g;have:=c.2;dsimp only at this;omega
   .exact aj k c
   .have:=(h.b k (.s (.s (.s (.w c))))).2;omega
   .have:=(h.b k (.s (.s (.s (.s (.w c)))))).2;omega
   have:=(h.b k (.s (.s (.s (.s (.s c)))))).2;omega
  .rcases M k c with o|o
   .exact h.ap.2.1 k o
   intro q;have:=h.g;have:=q.2;dsimp only at this;omega
  rcases c with c|c
  .exact AQ (h.q k c) N
  exact c.2.1
 exact⟨z.os,z.tape,z.output,N,λk c V=>f k c (λe=>V (.w (.w e))) (λe=>V (.w (.s (.s (.w e))))) (λe=>V (.s e))⟩
theorem wP(w:Z)(d c a:Nat)(L:Y.Loc)(m:Y.M)(h:Y.CP w d c a L m)(b:m.b=0):Calls prog 20 #[.c a] w λe w'=>e=.a (.tuple #[.pointer none,.a 10])/\w'=w:=by have A:=J (Y.Er w d c a L m h);rw[show(m.b==0)=true by rw[b];rfl]at A;clear h;go_enter func20,ntmps20;go_wp2_with fail;refine Jj A.o ?_;clear A;go_wp2_with fail;go_ret2;exact⟨I,I⟩
theorem oZ(w:Z):Calls prog 20 #[.pointer none] w λe w'=>e=.a (.tuple #[.pointer none,.a 1])/\w'=w:=by go_enter func20,ntmps20;go_wp2_with fail;go_ret2;exact⟨I,I⟩
theorem pB(w:Z):Calls prog 16 #[.pointer none,.g] w λe w'=>e=.a (.a 1)/\w'=w:=by go_enter func16,ntmps16;go_wp2_with fail;go_ret;exact⟨I,I⟩
variable {w w':Z} {sb n:Nat} {s:Sv} {u:Bs->Option Bs} {R:Nat->Prop} {d:Sd}
theorem ML.y(h:ML w)(e:w'.heap[0]?=w.heap[0]?):ML w':=by obtain⟨m,a⟩:=h;exact⟨m,by rw[AK (w:=w) (w':=w') e];exact a⟩
theorem ES.vQ(h:ES w sb s)(a:ML w):sb≠0:=by intro e;subst e;obtain⟨_,b⟩:=a;have:=h.cell 0;rw[b]at this;cases this
theorem E0.SO(h:E0 u w sb R s d n)(hF:Y.Fm (λk=>k=sb\/(d.h<=k/\k<d.g)) w w'):IX w' s.a d.ms:=
 h.a.d (λk a=>hF.u k (h.b k (.s (.s (.s (.s (.s a)))))).2 (λe=>e.elim (λe=>by obtain⟨c1,b⟩:=Kn h.a.1 a;subst e;exact KY b h.c EB I) (h.r k a).1)) h.t (λk a=>hF.u k (h.q k a) (λe=>e.elim (λe=>(h.b k (.w e)).1 a) (λe=>(h.b k (.s (.w e))).1 a)))
theorem xI(N:Ge u)(h:E0 u w sb R s d n)(L:ML w)(hn:n<=3000000) :
 Calls prog 57 #[.c sb] w λe w'=>e=.a (.bool true)/\E9 u w sb R s d (n+1) w':=by
 have bn:=h.c.vQ L;have i:=(h.b sb (.w I)).2;have c0:w.cell? (O sb 0)=some (.c s.c):=h.c.cell 0;have B:=J (Y.Lz w d.h d.g s.c d.L d.m h.wf h.j h.g);obtain⟨c,f⟩:=E w.heap.size;rw[<-f]at B;have HX:=J f;have j:=J h;have bH:=J L;have cc:0<c:=by rw[f];exact L.lt
 rw[<-f]at i;clear h L f;go_enter func57,ntmps57
 go_wp2_with fail;refine B.o.l ?_;rintro e f ⟨P,rfl,H,C⟩;have l:Below w.heap.size w f:=by rw[<-HX.o];exact C
 have m:=(j.o.f l).c;obtain⟨z,o⟩:=E (f.setCell (O sb 0) (.c c));have D:ES z sb { s with c:=c }:=by rw[o];exact m.YC c
 have p:Y.Ed sb (sb+1) f z:=by rw[o];exact MR _ _ _ _
 obtain⟨i,v⟩:=E f.heap.size;rw[<-v]at H;have r:c<=i:=by have:=C.size;rw[v];have:=l.size;exact Dz HX.o
 have T:Y.CP z c i c P d.m:=Y.EM.c H U U p;have A:i<=z.heap.size:=by rw[v];exact p.size
 have k0:f.cell? (O sb 0)=some (.c s.c):=m.cell 0;have Q:f.frozen? (O sb 0)=false:=m.frozen 0;have c2:z.cell? (O sb 0)=some (.c c):=D.cell 0;have F:Y.Fm (λk=>k=sb\/(d.h<=k/\k<d.g)) w z:=Jh (Ls l) (LQ p (λk a b=>.w U));have L:ML z:=bH.o.y (F.u 0 bH.o.lt (λe=>e.elim (λe=>bn e.A) (λe=>by exact Dz j.o.h)));have r:=J (Y.Er z c i c P d.m T);change Hid _ at o;have K:=J D;change Hid _ at T F L;clear B p m D H C l c0 v;go_wp2_with rw[<-o.o];refine Jj r.o ?_;clear k0 Q;by_cases hl:d.m.b=0
 .have MD:=J (wP z c i c P d.m T.o hl);rw[show(d.m.b==0)=true by rw[hl];rfl]at r |-;obtain⟨l,D⟩:=E (z.setCell (O sb 1) (.pointer none));have W:ES l sb { s with c:=c,f:=none }:=by rw[D];exact K.o.b none
  have p:Y.Ed sb (sb+1) z l:=by rw[D];exact MR _ _ _ _
  have k1:z.cell? (O sb 1)=some (.pointer (s.f.map λb=>⟨b,0,none⟩)):=K.o.cell 1;have z1:z.frozen? (O sb 1)=false:=K.o.frozen 1;change Hid _ at D;have bx:=J W;change Hid _ at p;clear W;go_wp2_with fail;refine Jj MD.o ?_;clear MD;go_wp2_with fail;refine Jj r.o ?_;clear r;go_wp2_with rw[<-D.o];go_ret
  have S:=Jh F.o (LQ (S:=λk=>k=sb\/(d.h<=k/\k<d.g)) p.o (λk a b=>.w U));have cA:=p.o.size;have b0:Y.CP l c i c P d.m:=Y.EM.c T.o A U p.o;refine⟨I,{ s with c:=c,f:=none },{ d with h:=c,g:=i,L:=P },_,E0.make (w':=l) (n':=n+1) (λ_=>False) j.o I I I I I I bx.o b0 j.o.wf (by show i<=_;omega) cc (.s (by show _<=c;exact Dz HX.o)) (fx S) (λo hf=>by cases hf) (j.o.SO S) (λk f=>.w f) (λy hy b m e h0=>.w (j.o.t y hy b m e h0)) (Cb j.o.z) (DB n) j.o.m (λe=>(j.o.p e).l U) j.o.e j.o.find⟩
 have MA:=J (OZ z c i c P d.m j.o.wf T.o A hl _ I L.o N);rw[show(d.m.b==0)=false by simpa using hl]at r |-;go_wp2_with fail;refine MA.o.l ?_;rintro e C ⟨cf,hT,⟨bq,rfl,L⟩|⟨cC,x,post,H,aQ,aP,aT,bV,br,N⟩⟩
 .have v:s.h=true:=by
   cases e:s.h with
   |true=>rfl
   |false=>
     obtain⟨y,hy,hf⟩:=j.o.find e;exact absurd (λx hx=>bq x (DR.1 hx)) (hf cf hT).not
  have Q:=K.o.y (L.u sb U);have B:=Y.EM.f T.o A L;have r:=J (Y.Er C c i c P d.m B);rw[show(d.m.b==0)=false by simpa using hl]at r;obtain⟨l,D⟩:=E (C.setCell (O sb 1) (.pointer none));have W:ES l sb { s with c:=c,f:=none }:=by rw[D];exact Q.b none
  have p:Y.Ed sb (sb+1) C l:=by rw[D];exact MR _ _ _ _
  have c3:C.cell? (O sb 0)=some (.c c):=Q.cell 0;have k1:C.cell? (O sb 1)=some (.pointer (s.f.map λb=>⟨b,0,none⟩)):=Q.cell 1;have z1:C.frozen? (O sb 1)=false:=Q.frozen 1;have k4:l.cell? (O sb 4)=some (.bool true):=by rw[<-v];exact W.cell 4
  have b0:=Y.EM.c B (AG A L.size) U p;have S:=Jh (Jh F.o (Ls L)) (LQ (S:=λk=>k=sb\/(d.h<=k/\k<d.g)) p (λk a b=>.w U));have cA:z.heap.size<=l.heap.size:=AG L.size p.size;change Hid _ at D;have bx:=J W;change Hid _ at b0 S;clear W p Q B L bq MA;go_wp2_with fail;refine Jj r.o ?_;clear r;go_wp2_with rw[<-D.o];go_ret
  refine⟨I,{ s with c:=c,f:=none },{ d with h:=c,g:=i,L:=P },_,E0.make (w':=l) (n':=n+1) (λ_=>False) j.o I I I I I I bx.o b0.o j.o.wf (by show i<=_;omega) cc (.s (by show _<=c;exact Dz HX.o)) (fx S.o) (λo hf=>by cases hf) (j.o.SO S.o) (λk f=>.w f) (λy hy b m e h0=>.w (j.o.t y hy b m e h0)) (Cb j.o.z) (DB n) j.o.m (λe=>(j.o.p e).l U) j.o.e j.o.find⟩
 obtain⟨o,v,rfl,bM,cl,aL,bf,bj,cu,bB,c9,aD,bX,_,L⟩:=N.o T.o A j.o.wf br;have aU:IV C o c v.d v.a:=by have:=II.o bM;rw[aL]at this;exact this
 have aV:=II.j bM;have N:Hid (∀k,J8 o v k->c<=k/\k<C.heap.size):=J (λk f=>⟨(bX k f).1.elim (λe=>e.1) (λe=>by omega),(bX k f).2⟩);have cJ:Hid (s.e=false->∀V,PC u V v H s.m (701*n+1)):=J (λe V=>by
  obtain⟨t,q1,q2,q3,q4⟩:=KN.first (j.o.p e) j.o.wf U hT aQ aP aT;exact⟨⟨t,by rw[bB,aD,c9];exact q1,q2⟩,λg hg=>(by rw[aD]at hg;cases hg),by rw[bB,c9];exact q3,by rw[aD];exact q4,by rw[bB];exact j.o.p e⟩)
 change Hid _ at cl aL bf bj cu bB;have cU:c<=v.a:=(N.o v.a (.w (.s (.s I)))).1;have cD:c<=o:=(N.o o (.w (.s (.w I)))).1;have ht:EX H:=(Pu H).1 bV;have a7:JD u (Y.Fq d.m) cf.reverse (Eg H):=⟨cC,x,post,H,aQ,aP,aT,bV,I⟩;have aH:Hid (s.h=true\/(d.ms.any λy=>decide (y.2=Eg H))=true):=J (by
  cases e:s.h with
  |true=>exact .w I
  |false=>
    obtain⟨y,hy,hf⟩:=j.o.find e
    right
    rw[Ap];exact⟨y,hy,by simpa using JD.unique (hf cf hT) a7⟩)
 have ct:Hid (Finds u d.m (Eg H)):=J (Finds.of hT a7);have Q:=K.o.y (L.u sb U);have B:=Y.EM.f T.o A L;have r:=J (Y.Er C c i c P d.m B);rw[show(d.m.b==0)=false by simpa using hl]at r;obtain⟨l,D⟩:=E (C.setCell (O sb 1) (.pointer none));have W:ES l sb { s with c:=c,f:=none }:=by rw[D];exact Q.b none
 have p:Y.Ed sb (sb+1) C l:=by rw[D];exact MR _ _ _ _
 have c3:C.cell? (O sb 0)=some (.c c):=Q.cell 0;have k1:C.cell? (O sb 1)=some (.pointer (s.f.map λb=>⟨b,0,none⟩)):=Q.cell 1;have z1:C.frozen? (O sb 1)=false:=Q.frozen 1;have b0:Y.CP l c i c P d.m:=Y.EM.c B (AG A L.size) U p;have S:=Jh (Jh F.o (Ls L)) (LQ (S:=λk=>k=sb\/(d.h<=k/\k<d.g)) p (λk a b=>.w U));have F:o<C.heap.size:=lt_of_heap aU;have C:=aV.lt;have cI:Hid (Ll l o v H):=J (II.a bM p.size (λk f _=>p.u k (N.o k f).2 (Dz ((N.o k f).1))));have A:IV l o c v.d v.a:=(p.u o F U).i aU;have K:EH l v.a H:=aV.y (p.u v.a C U)
 have C:ML l:=bH.o.y (S.u 0 bH.o.lt (λe=>e.elim (λe=>bn e.A) (λe=>by exact Dz j.o.h)));have F:=J (Y7 l o c v.d v.a H A K ht C);have cA:z.heap.size<=l.heap.size:=AG L.size p.size;have z:=p.size;change Hid _ at D;have bx:=J W;change Hid _ at b0 S ht;clear W p Q B L bM c9 aD bX br MA aU aV A K C a7 aQ aP aT bV hT;go_wp2_with fail;refine Jj r.o ?_;clear r;go_wp2_with rw[<-D.o];refine F.o.l ?_;rintro e w5 ⟨W,_,rfl,p⟩;rw[<-KW]at p;obtain⟨r,C⟩:=E (Eg H);rw[<-C]at p aH ct;obtain⟨L,c5,rfl,A⟩:=Oq p;have z:EX r:=by rw[C];exact ht.o.a
 have T:Eg r=r:=by rw[C];exact ZF ht.o
 have Q:∀x∈r,Fit x:=λx hx=>NR (z.ok x hx)
 have bR:r.length<=60:=z.len;have B:=J (ZP L c5 r w5 A U (λx hx=>by exact Dz ((Q x hx).p)));rw[T]at B;obtain⟨M,D⟩:=E r.length;have K:=J D;rw[<-D]at B p bR |-;have bI:=J W;have a8:=J p;have bh:=J A;change Hid _ at C z;clear W p A T Q D F;go_wp2_with fail;refine B.o.l ?_;rintro e W ⟨Q,⟨bq,_⟩|⟨_,_,rfl,p⟩⟩
 .rw[(Pu r).2 z.o]at bq;cases bq
 rw[K.o]at p;obtain⟨A,F,rfl,T⟩:=Oq p;rw[<-K.o]at p |-;have bT:Hid (∀b m,A=some (O b m)->w5.heap.size<=b/\b<W.heap.size):=J (λb m e=>p.lt b (by rw[e];rfl));have D:=J (Io A L F c5 r r W T (bh.o.f Q) (by rw[<-K.o];omega) (by rw[<-K.o];omega));rw[Bj I,<-K.o]at D;have cx:Y.Fm (λk=>k=sb\/(d.h<=k/\k<d.g)) w W:=Jh S.o (Jh (Ls bI.o) (Ls Q));have z:=bI.o.size;have z:=Q.size;have bS:ES W sb { s with c:=c,f:=none }:=(bx.o.y (bI.o.u sb U)).y (Q.u sb U);have z:=J (λq=>uK (W.drewN q) sb { s with c:=c,f:=none } d.ms L c5 r bS (j.o.SO (Jh cx (Ls (S3 (AP _ _) q)))) (Dz j.o.z) ((bh.o.f Q).drewN q) (by rw[<-K.o];omega))
 rw[<-K.o]at z;obtain⟨an,cz⟩:=E ((d.ms.any λy=>decide (y.2=r)));rw[<-cz]at z aH;change Hid _ at Q;have ca:=J T;change Hid _ at bS cx;have a9:=J p;clear T p B cz;go_wp2_with fail;refine D.o.l ?_;rintro e _ ⟨rfl,q,p⟩;have T:=J (z.o q);rw[<-p]at T;have co:=J p;clear D z p;go_wp2_with fail;refine T.o.l ?_;rintro e B ⟨rfl,q2,z⟩;have p:=co.o;have bi:ES B sb { s with c:=c,f:=none }:=by rw[z,p];exact bS.o
 have ai:Below W.heap.size W B:=by rw[z,p];exact S3 (S3 (AP _ _) q) q2
 have k4:B.cell? (O sb 4)=some (.bool s.h):=bi.cell 4;have k1:B.cell? (O sb 1)=some (.pointer none):=bi.cell 1;have z1:B.frozen? (O sb 1)=false:=bi.frozen 1;clear T p z co;obtain⟨W9,bN⟩:=E (B.setCell (O sb 1) (.c o));have bG:ES W9 sb { s with c:=c,f:=some o }:=by rw[bN];exact bi.b (some o)
 obtain⟨z,ay⟩:=E (W9.setCell (O sb 2) (.slice A M F));have aZ:ES z sb { s with c:=c,f:=some o,g:=(A,M,F) }:=by rw[ay];exact bG.OI (A,M,F)
 have au:Y.Ed sb (sb+1) B z:=by rw[ay,bN];exact(MR _ _ _ _).i (MR _ _ _ _)
 obtain⟨G,hG⟩:=E z.heap.size;obtain⟨p,D⟩:=E (z.alloc (.cells #[.slice A M F] 26));have ao:Below z.heap.size z p:=by rw[D];exact(AP _ _).alloc (AB _) _
 have bz:p.heap[G]? = some (.cells #[.slice A M F] 26 (0,0)):=by rw[D,hG];exact AR _ _
 have B:p.heap.size=G+1:=by rw[D,hG];simp
 have B:sb<z.heap.size:=lt_of_heap aZ;have aA:=aZ.y (ao.u sb B);obtain⟨T,aE⟩:=E (p.setCell (O sb 3) (.b G 1 1));have am:ES T sb { s with c:=c,f:=some o,g:=(A,M,F),a:=(some (O G 0),1,1) }:=by rw[aE];exact aA.NK (some (O G 0),1,1)
 obtain⟨B,aG⟩:=E (T.setCell (O sb 4) (.bool s.e));have b9:ES B sb { s with c:=c,f:=some o,g:=(A,M,F),a:=(some (O G 0),1,1),h:=s.e }:=by rw[aG];exact am.Lk s.e
 have z:Y.Ed sb (sb+1) p B:=by rw[aG,aE];exact(MR _ _ _ _).i (MR _ _ _ _)
 have k2:W9.cell? (O sb 2)=some (.slice s.g.1 s.g.2.1 s.g.2.2):=bG.cell 2;have z2:W9.frozen? (O sb 2)=false:=bG.frozen 2;have k3:p.cell? (O sb 3)=some (.slice s.a.1 s.a.2.1 s.a.2.2):=aA.cell 3;have z3:p.frozen? (O sb 3)=false:=aA.frozen 3;have p:T.cell? (O sb 5)=some (.bool s.e):=am.cell 5;have cG:T.cell? (O sb 4)=some (.bool s.h):=am.cell 4;have p:T.frozen? (O sb 4)=false:=am.frozen 4;have p:=ai.size;have p:=au.size;have p:=z.size;have T:Y.Fm (λk=>k=sb) l B:=Jh (Ls bI.o) (Jh (Ls Q.o) (Jh (Ls ai) (Jh (LQ au (λk a b=>by omega)) (Jh (Ls ao) (LQ z (λk a b=>by omega))))))
 have bC:Y.Fm (λk=>k=sb) w5 B:=Jh (Ls Q.o) (Jh (Ls ai) (Jh (LQ au (λk a b=>by omega)) (Jh (Ls ao) (LQ z (λk a b=>by omega)))));have aS:Y.Fm (λk=>k=sb) W B:=Jh (Ls ai) (Jh (LQ au (λk a b=>by omega)) (Jh (Ls ao) (LQ z (λk a b=>by omega))));have bp:Y.Fm (λk=>k=sb\/(d.h<=k/\k<d.g)) w B:=Jh S.o ⟨T.os,T.tape,T.output,T.size,λk f hn=>T.u k f (λe=>hn (.w e))⟩;have bc:B.heap[G]? = some (.cells #[.slice A M F] 26 (0,0)):=(z.u G U U).i bz;have bu:Y.CP B c i c P d.m:=Y.EM.a b0.o (λk e1 e2=>T.u k (by have e3:k<i:=e2;omega) (by have e3:c<=k:=e1;omega))
 have bg:Ll B o v H:=II.a cI.o T.size (λk f hl=>T.u k hl (Dz ((N.o k f).1)));have ah:B.ownsRow 0 39 5 (.slice A M F) M (FF r):=NV (MF a9.o (λg hg=>aS.u g (a9.o.lt g hg).2 (Dz ((a9.o.lt g hg).1)))) (AW _);have W:Eh B A r:=ca.o.only (λb m e _=>aS.u b (bT.o b m e).2 (Dz ((bT.o b m e).1)));have Q:Hid (∀k,L=FH k->l.heap.size<=k/\k<w5.heap.size):=J (λk e=>a8.o.lt k (by rw[e];rfl));have bs:B.ownsRow l.heap.size 39 5 (.slice L M c5) M (FF r):=MF a8.o (λg hg=>bC.u g (a8.o.lt g hg).2 (Dz ((a8.o.lt g hg).1)));have cE:M=d.a.length\/True:=.s trivial;have p:=HX.o;have p:=j.o.g;have S:H.length=M:=by rw[K.o,C.o,KW]
 have hI:=E0.make (w':=B) (n':=n) (s':={ s with c:=c,f:=some o,g:=(A,M,F),a:=(some (O G 0),1,1),h:=s.e }) (d':={ d with h:=c,g:=i,L:=P,a:=H,M:=v,ms:=[((A,M,F),r)] }) (λk=>L=FH k\/J8 o v k\/k=G) j.o I I I I I I b9 bu j.o.wf (by show i<=_;omega) cc (.s (by show _<=c;omega)) (fx bp)
  (λci hf=>by
    cases hf
    refine⟨⟨ht.o,bg,cl.o,aL.o,bf.o,bj.o,cu.o,bB.o,S.A,by rw[S,<-C.o];exact ah,λk f => ?_,⟨_,CN.2 I,C.o⟩,λe=>cJ.o e _,λk f=>⟨by have:=(N.o k f).1;omega,λe => ?_,λe => ?_⟩⟩,λk f=>.s ⟨by have:=(N.o k f).1;omega,.w (.s (.w f))⟩⟩
    .have:=a9.o.lt k f
     exact .s ⟨by omega,by omega,by show ¬(c<=_/\_<i);omega,λe=>e.elim (λe=>by exact Dz ((Q.o _ e).2)) (λe=>e.elim (λe=>by exact Dz ((N.o _ e).2)) (λe=>by omega))⟩
    .have:=(j.o.b k (.s (.s (.w e)))).2;exact Dz ((N.o k f).1)
    have:=(j.o.b k (.s (.s (.s (.w e))))).2;exact Dz ((N.o k f).1))
  (ZI (x:=(A,M,F)) bc K.o (by rw[<-K.o];omega) W)
  (λk f=>by
    have cw:G=k:=by simpa[ob,Value.ownBlock]using f
    subst cw;exact .s ⟨by omega,by omega,.s (.s I),by show ¬(c<=_/\_<i);omega,λci P p=>by cases P;exact Dz ((N.o _ p).2)⟩)
  (λy hy b m e h0=>by
    simp at hy;subst hy
    have:=bT.o b m e
    exact .s ⟨by omega,by omega,by show ¬(c<=_/\_<i);omega,λe=>e.elim (λe=>by exact Dz ((Q.o _ e).2)) (λe=>e.elim (λe=>by exact Dz ((N.o _ e).2)) (λe=>by omega))⟩)
  (by show 1<=_;omega) (AB n) j.o.m j.o.p (λe=>⟨(j.o.e e).1,e⟩) (λe=>⟨_,CN.2 I,ct.o⟩)
 obtain⟨v,cq,cj,C,m⟩:=hI;have H:=J (eQ B sb _ d.es d.j L r c5 l.heap.size v.c v.li.1 v.v.1 (by have:=v.v.2;exact AG this U) (by rw[<-K.o];exact bs) (by rw[<-K.o];omega) U);rw[<-K.o]at H;have r:Hid (∀e w',We B l.heap.size sb { s with c:=c,f:=some o,g:=(A,M,F),a:=(some (O G 0),1,1),h:=s.e } d.es d.j L e w'->E9 u w sb R s d (n+1) w'):=J (λe w' c=>by
  obtain⟨F,d2,A,B,o⟩:=v.OC (B:=l.heap.size) U (λk f l=>by
   rcases C k f with p|p
   .exact Dz ((j.o.b k p).2)
   .rcases f with f|f|f|f|⟨ci,P,f⟩|f
    .omega
    .have p:k<i:=f.2;omega
    .have:=(j.o.b k (.s (.s (.w f)))).2;omega
    .have:=(j.o.b k (.s (.s (.s (.w f))))).2;omega
    .cases P;exact Dz ((N.o k f).2)
    exact absurd f l) (λk f e=>by
   have cw:G=k:=by simpa[ob,Value.ownBlock]using f
   exact Dz ((Q.o k e).2)) c (λk e=>⟨(Q.o k e).1,λi=>by
   rcases i with i|i
   .have:=j.o.q k i;exact Dz ((Q.o k e).1)
   exact i.2.2.2 (.w e)⟩)
  have i:=o.size;refine⟨F,d2,_,A,λk f=>.w (cq k f),λk f => ?_,λk f => ?_,⟨o.os.i m.os,o.tape.i m.tape,o.output.i m.output,AG m.size i,λk f hn=>(o.u k (AQ f m.size) (λe => ?_)).i (m.u k f hn)⟩⟩
  .rcases f with f|f
   .rcases cj k f with p|p
    .exact .w p
    exact .s ⟨p.1,by omega⟩
   exact .s ⟨by omega,f.2.1⟩
  .rcases B k f with p|p
   .exact C k p
   exact .s U
  rcases e with e|e
  .rcases C k e with p|p
   .exact hn p
   omega
  exact Dz ((Q.o k e).1))
 change Hid _ at bN ay D aE aG hG;have f:an=true\/(an=false/\s.h=true):=by
  cases an with
  |true=>exact .w I
  |false=>exact .s ⟨I,aH.o.resolve_right EB⟩
 clear bi bG aZ aA am b9 au z ao ai bz bc T bC aS bp bu bg ah W bs v cq cj C m cE S aH;rcases f with rfl|⟨rfl,f⟩
 case' inr=>rw[f]at k4 cG
 all_goals
  go_wp2_with (first|(rw[<-bN.o])|(rw[<-ay.o])|(rw[<-D.o,<-hG.o])|(rw[<-D.o])|(rw[<-aE.o])|(rw[<-aG.o])|fail);refine H.o.l ?_;rintro e _ c;have f:=c.1;subst f;have f:=J (r.o _ _ c);clear c H r;go_wp2_with fail;go_ret
  exact⟨I,f.o⟩
theorem wV{u:Bs->Option Bs}(hP:Ge u){w:Z}{f d:Nat}{s:Sv}{M:Mt}{l:List It}(hs:ES w f s)(hf:s.f=some d)(hM:Ll w d M l)(ht:EX l)(C:ML w)(h0:¬Lm d M.a M.h M.g M.d M.j M.e 0)(hb:M.b<1000)(hp:M.p<=M.m.d)(R:¬Lm d M.a M.h M.g M.d M.j M.e f)(o:Ir)(h1:1<=o.kind)(h7:o.kind<=7)(lp:o.c.length<=1048576)(lt:o.dst.length<=1048576)(ld:o.data.length<=1048576):Calls prog 109 #[.c f,NI o] w λe w'=>Ga (λe w'=>Mq u w d M l (QG l o.kind o.c o.dst o.data o.a o.b) (QB l o.kind o.c o.dst o.data o.a o.b) e w') e w':=by
 obtain⟨kd,⟨t1,t2,t3⟩,c,m,j,b,i,ot⟩:=o;dsimp only at h1 h7 lp lt ld |-;obtain⟨W,hW⟩:=E (w.alloc (.cells (Ir.arr ⟨kd,(t1,t2,t3),c,m,j,b,i,ot⟩) 65));have a9:Below w.heap.size w W:=by rw[hW];exact(AP _ w).alloc (AB _) _
 obtain⟨g,Q⟩:=E w.heap.size;obtain⟨P,N⟩:=E (X c);obtain⟨T,K⟩:=E (X m);obtain⟨p,L⟩:=E (X j);have B:∀k,W.cell? (O g k)=(Ir.arr ⟨kd,(t1,t2,t3),c,m,j,b,i,ot⟩)[k]? := λk=>by rw[hW,Q];exact SC w _ k
 have y0:W.cell? (O g 0)=some (.a kd):=B 0;have F:W.drew.cell? (O g 2)=some (.string P):=by rw[N];exact B 2
 have z3:W.drew.cell? (O g 3)=some (.string T):=by rw[K];exact B 3
 have z4:W.drew.cell? (O g 4)=some (.string p):=by rw[L];exact B 4
 have z5:W.drew.cell? (O g 5)=some (.a b):=B 5;have z6:W.drew.cell? (O g 6)=some (.a i):=B 6;have H:Below w.heap.size w W.drew:=a9.drew;have ac:Ll W.drew d M l:=II.f hM H;have a7:ML W.drew:=C.f H C.lt;have a8:ES W.drew f s:=hs.y (H.u f (lt_of_heap hs));have z1:W.drew.cell? (O f 1)=some (.c d):=by have:=a8.cell 1;rw[this];unfold Sv.arr;rw[hf];rfl
 have h:=J (λk (h1:1<=k) (h7:k<=7)=>l7 hP h1 h7 c m j b i ac ht a7 h0 hb hp lp lt ld);have y:Hid (∀(l':List It) (D:Int) (e:Ending) (V:Z),Mq u W.drew d M l l' D e V->(∀k,V.cell? (O g k)=W.drew.cell? (O g k))/\V.cell? (O f 1)=some (.c d)/\Mq u w d M l l' D e V):=J (λl' D e V a=>by
  have hF:=a.1;refine⟨λk=>AK (hF.u g (by have:=Am _ _ z5;exact this) (λe=>?_)),?_,Np.new a H λg Q=>?_⟩
  .exact Dz (II.lt hM g (.w e))
  .rw[AK (hF.u f (lt_of_heap a8) R)];exact z1
  obtain⟨_,_,_,n,S,h5,_⟩:=II.tk hM g Q;exact h5.lt)
 have v:Hid (W=w.alloc (.cells #[.a kd,.slice t1 t2 t3,.string P,.string T,.string p,.a b,.a i,.bool ot] 65)):=J (by rw[N,K,L];exact hW);have z:=J Q;have t:=J N;have HT:=J K;have aa:=J L;unfold NI Ir.arr;dsimp only;rw[<-N,<-K,<-L];clear hs hf hM ht C h0 hb hp R hW a9 Q B H ac a7 a8 N K L;rcases kinds h1 h7 with rfl|rfl|rfl|rfl|rfl|rfl|rfl;focus
  have A:=J (h.o 1 EB EB);rw[show mF 1=51 from I,show mA 1 c m j b i=#[.string (X c),.string (X j)]from I]at A;rw[<-t.o,<-aa.o]at A;clear h;go_enter func109,ntmps109;go_wp2_with rw[<-v.o,<-z.o];go_region_held3 (λV=>V.cell? (O f 1)=some (.c d)/\V.cell? (O g 2)=some (.string P)/\V.cell? (O g 4)=some (.string p)) (go_keep) (first
   | (go_at_call 51;refine A.o.l ?_;rintro e G ⟨⟨x,rfl⟩,a⟩;have q:=y.o _ _ _ _ a;have f2:=(q.1 2).i F;have f4:=(q.1 4).i z4;have f1:=q.2.1;have r:=J q.2.2;clear a q))
 rotate_left
 focus
  have A:=J (h.o 2 EB EB);rw[show mF 2=165 from I,show mA 2 c m j b i=#[.string (X c),.a b,.string (X j)]from I]at A;rw[<-t.o,<-aa.o]at A;clear h;go_enter func109,ntmps109;go_wp2_with rw[<-v.o,<-z.o];go_region_held3 (λV=>V.cell? (O f 1)=some (.c d)/\V.cell? (O g 2)=some (.string P)/\V.cell? (O g 5)=some (.a b)/\V.cell? (O g 4)=some (.string p)) (go_keep) (first
   | (go_at_call 165;refine A.o.l ?_;rintro e G ⟨⟨x,rfl⟩,a⟩;have q:=y.o _ _ _ _ a;have f2:=(q.1 2).i F;have f5:=(q.1 5).i z5;have f4:=(q.1 4).i z4;have f1:=q.2.1;have r:=J q.2.2;clear a q))
 rotate_left
 focus
  have A:=J (h.o 3 EB EB);rw[show mF 3=166 from I,show mA 3 c m j b i=#[.string (X c),.a b]from I]at A;rw[<-t.o]at A;clear h;go_enter func109,ntmps109;go_wp2_with rw[<-v.o,<-z.o];go_region_held3 (λV=>V.cell? (O f 1)=some (.c d)/\V.cell? (O g 2)=some (.string P)/\V.cell? (O g 5)=some (.a b)) (go_keep) (first
   | (go_at_call 166;refine A.o.l ?_;rintro e G ⟨⟨x,rfl⟩,a⟩;have q:=y.o _ _ _ _ a;have f2:=(q.1 2).i F;have f5:=(q.1 5).i z5;have f1:=q.2.1;have r:=J q.2.2;clear a q))
 rotate_left
 focus
  have A:=J (h.o 4 EB EB);rw[show mF 4=167 from I,show mA 4 c m j b i=#[.string (X c)]from I]at A;rw[<-t.o]at A;clear h;go_enter func109,ntmps109;go_wp2_with rw[<-v.o,<-z.o];go_region_held3 (λV=>V.cell? (O f 1)=some (.c d)/\V.cell? (O g 2)=some (.string P)) (go_keep) (first
   | (go_at_call 167;refine A.o.l ?_;rintro e G ⟨⟨x,rfl⟩,a⟩;have q:=y.o _ _ _ _ a;have f2:=(q.1 2).i F;have f1:=q.2.1;have r:=J q.2.2;clear a q))
 rotate_left
 focus
  have A:=J (h.o 5 EB EB);rw[show mF 5=168 from I,show mA 5 c m j b i=#[.string (X c),.a b,.a i]from I]at A;rw[<-t.o]at A;clear h;go_enter func109,ntmps109;go_wp2_with rw[<-v.o,<-z.o];go_region_held3 (λV=>V.cell? (O f 1)=some (.c d)/\V.cell? (O g 2)=some (.string P)/\V.cell? (O g 5)=some (.a b)/\V.cell? (O g 6)=some (.a i)) (go_keep) (first
   | (go_at_call 168;refine A.o.l ?_;rintro e G ⟨⟨x,rfl⟩,a⟩;have q:=y.o _ _ _ _ a;have f2:=(q.1 2).i F;have f5:=(q.1 5).i z5;have f6:=(q.1 6).i z6;have f1:=q.2.1;have r:=J q.2.2;clear a q))
 rotate_left
 focus
  have A:=J (h.o 6 EB EB);rw[show mF 6=48 from I,show mA 6 c m j b i=#[.string (X c)]from I]at A;rw[<-t.o]at A;clear h;go_enter func109,ntmps109;go_wp2_with rw[<-v.o,<-z.o];go_region_held3 (λV=>V.cell? (O f 1)=some (.c d)/\V.cell? (O g 2)=some (.string P)) (go_keep) (first
   | (go_at_call 48;refine A.o.l ?_;rintro e G ⟨⟨x,rfl⟩,a⟩;have q:=y.o _ _ _ _ a;have f2:=(q.1 2).i F;have f1:=q.2.1;have r:=J q.2.2;clear a q))
 rotate_left
 focus
  have A:=J (h.o 7 EB EB);rw[show mF 7=169 from I,show mA 7 c m j b i=#[.string (X c),.string (X m)]from I]at A;rw[<-t.o,<-HT.o]at A;clear h;go_enter func109,ntmps109;go_wp2_with rw[<-v.o,<-z.o];go_region_held3 (λV=>V.cell? (O f 1)=some (.c d)/\V.cell? (O g 2)=some (.string P)/\V.cell? (O g 3)=some (.string T)) (go_keep) (first
   | (go_at_call 169;refine A.o.l ?_;rintro e G ⟨⟨x,rfl⟩,a⟩;have q:=y.o _ _ _ _ a;have f2:=(q.1 2).i F;have f3:=(q.1 3).i z3;have f1:=q.2.1;have r:=J q.2.2;clear a q))
 rotate_left
 all_goals
  rename_i hHeld;clear hHeld;go_wp2_with fail;go_ret;exact⟨⟨x,I⟩,r.o⟩
variable {w:Z} {fb sb n:Nat} {u:Bs->Option Bs} {R:Nat->Prop} {s:Sv} {d:Sd}
theorem fK{M:Mt}{l:List It}(h:Ll w fb M l):Calls prog 26 #[.c fb] w λe w'=>e=.a (.a (if M.m.b=0 then 10 else 0))/\w'=w:=by
 have c0:=IV.p0 (II.o h);have A:=J (Y.Er w _ _ _ _ _ (II.h h).j);clear h;by_cases a:M.m.b=0
 .rw[show(M.m.b==0)=true by rw[a];rfl]at A;rw[AD a];go_enter func26,ntmps26;go_wp2_with fail;refine Jj A.o ?_;go_wp2_with fail;go_ret;exact⟨I,I⟩
 rw[show(M.m.b==0)=false by simpa using a]at A;rw[AC a];go_enter func26,ntmps26;go_wp2_with fail;refine Jj A.o ?_;go_wp2_with fail;go_ret;exact⟨I,I⟩
theorem R0.O4(h:R0 u w sb R s d n fb)(e:Y.WF d.m)(c:s.e=false):Finds u d.m (Eg d.a):=by obtain⟨⟨t,a,b⟩,_⟩:=h.c c;rw[h.m]at a;exact Finds.laid a e b h.j
theorem E0.one{w':Z}{G:Nat}(h:E0 u w sb R s d n)(f:s.f=some fb)(C:w.heap.size<=G)(H:ES w' sb { s with a:=(some (O G 0),1,1) })(q:w'.heap[G]? = some (.cells #[.slice s.g.1 d.a.length s.g.2.2] 26 (0,0)))(hF:Y.Fm (λk=>k=sb) w w'):E9 u w sb R s d n w':=by
 have i:=h.o fb f;have t:=hF.size;have A:=lt_of_heap q;have B:∀k,R k->w'.e w k := λk a=>hF.u k (h.q k a) (λe=>(h.b k (.w e)).1 a)
 have o:∀k,J8 fb d.M k->Mu sb s d k:=λk a=>.s (.s (.s (.s (.w ⟨fb,f,a⟩))))
 have K:=h.g;have j:=i.move (w':=w') (s':=s) (d':=d) (R':=Rn R w w' d (λk=>k=G)) (n':=n) t (λk a=>a.elim (λe=>hF.u k (h.b k (o k e)).2 (i.ap k e).1) (B k)) I I (λk a=>.w a) (AB n) i.ap;have x:Eh w' s.g.1 (Eg d.a):=j.FF;have z:Nz (Rn R w w' d (λk=>k=G)) s.g.1 (Eg d.a).length:=λb _ e _=>by
  have m:=j.own;rcases m with⟨_,⟨e1,_⟩|⟨g,_,_,e1,_⟩⟩
  .simp only[Cw]at e1;rw[e1.1]at e;cases e
  simp only[Cw]at e1;rw[e1.1]at e;cases e
  exact j.nR _ (by unfold ob;rw[e1.1];rfl)
 exact⟨{ s with a:=(some (O G 0),1,1) },{ d with ms:=[((s.g.1,d.a.length,s.g.2.2),Eg d.a)] },_,E0.make (w':=w') (n':=n) (λk=>k=G) h I I I I I I H (Y.EM.a h.j (λk m p=>hF.u k (by have L:k<d.g:=p;omega) (λe=>h.ap.1 (by rw[<-e];exact⟨m,p⟩)))) h.wf (AG h.g t) h.h (.w ⟨I,I⟩) ⟨hF.os,hF.tape,hF.output,hF.size,λk a F=>hF.u k a (λe=>F (.w e))⟩
  (λl c=>by
    have:fb=l:=by rw[f]at c;cases c;rfl
    subst this;exact⟨{ j with here:=⟨_,CN.2 I,I⟩ },λk a=>.w ⟨fb,f,a⟩⟩)
  (ZI (x:=(s.g.1,d.a.length,s.g.2.2)) q (by rw[KW]) (by rw[KW];exact Dz i.j.len) x)
  (λk a=>by
    have v:G=k:=by simpa[ob,Value.ownBlock]using a
    subst v;exact .s ⟨C,A,I,by show ¬(d.h<=_/\_<d.g);omega,λl c D=>by
     have:fb=l:=by rw[f]at c;cases c;rfl
     subst this
     exact Dz ((h.b _ (o _ D)).2)⟩) (λy r=>by
    simp at r;subst r;exact z) (by show 1<=_;omega) (AB n) h.m h.p h.e (λe=>⟨_,CN.2 I,i.O4 h.wf (by
     cases e1:s.e with
     |false=>rfl
     |true=>have:=(h.e e1).2;rw[e]at this;cases this)⟩)⟩
theorem ql{u:Bs->Option Bs}{w:Z}{c:Nat}{R:Nat->Prop}{s:Sv}{d:Sd}{n f:Nat}(h:E0 u w c R s d n)(A:ML w)(j:n<=3000000)(y:s.f=some f):Calls prog 59 #[.c c] w λe w'=>e=.a (.bool true)/\E9 u w c R s d (n+1) w':=by
 have m:=h.o f y;have c0:w.cell? (O c 0)=some (.c s.c):=h.c.cell 0;have c1:w.cell? (O c 1)=some (.c f):=by have:=h.c.cell 1;rw[this];unfold Sv.arr;rw[y];rfl
 have j:=J (Y.Er w d.h d.g s.c d.L d.m h.j);have l:=J (fK m.o);rw[m.m]at l;have B:=J (Ur h A U y);have H:=J h;have Hf:=J y;obtain⟨K,M⟩:=E s.c;rw[<-M]at c0 j;have D:=J M;clear h A m y M;by_cases z:d.m.b=0
 .rw[show(d.m.b==0)=true by rw[z];rfl]at j;rw[AD z]at l;go_enter func59,ntmps59;go_wp2_with fail;refine Jj j.o ?_;go_wp2_with fail;refine Jj l.o ?_;go_wp2_with fail;refine B.o.l ?_;rintro e i ⟨rfl,x,v,y,f,p,q,r,t⟩;have k0:i.cell? (O c 0)=some (.c K):=by rw[D.o];exact f.c.cell 0
  have K:=J (Y.Er i d.h d.g s.c d.L d.m f.j);have L:=J (ZC i c _ d.h d.g d.L d.m f.c f.wf f.j);rw[show(d.m.b==0)=true by rw[z];rfl,<-D.o]at K;have F:Hid (∀w',E9 u i c y {s with d:=x} {d with es:=d.es++v,j:=d.j+1} (n+1) w'->E9 u w c R s d (n+1) w'):=J (λw' m=>E9.i H.o p q r t m);have g:=J f;obtain⟨V,Q⟩:=E (Ks {s with d:=x} d.m);rw[<-Q]at L;have T:=J Q;clear f p q r t j l B c0 c1 Q;go_wp2_with fail;refine Jj K.o ?_;go_wp2_with fail;refine L.o.l ?_;rintro e A ⟨rfl,m,S⟩;have P:=J (F.o A (g.o.put (w':=A) m (Y.EM.c g.o.j g.o.g g.o.ap.1 S) (LQ S (λk a b=>.w U)) g.o.wf (.s ⟨I,I,_,_,_,_,I⟩) I I I g.o.m g.o.p (λe=>⟨by rw[T.o];unfold Ks;rw[(g.o.e e).1];rfl,(g.o.e e).2⟩) g.o.find));clear m S L K;cases V;all_goals
   go_wp2_with fail;go_ret;exact⟨I,P.o⟩
 rw[show(d.m.b==0)=false by simpa using z]at j;rw[AC z]at l;go_enter func59,ntmps59;go_wp2_with fail;refine Jj j.o ?_;go_wp2_with fail;refine Jj l.o ?_;go_wp2_with fail;refine B.o.l ?_;rintro e i ⟨rfl,x,v,y,f,p,q,r,t⟩;have k2:i.cell? (O c 2)=some (.slice s.g.1 d.a.length s.g.2.2):=f.O7 Hf.o;obtain⟨M,A⟩:=E s.g.1;obtain⟨Q,y⟩:=E s.g.2.2;obtain⟨N,L⟩:=E d.a.length;rw[<-A,<-y,<-L]at k2;obtain⟨G,K⟩:=E i.heap.size;obtain⟨o,F⟩:=E (i.alloc (.cells #[.slice M N Q] 26));have V:Below i.heap.size i o:=by rw[F];exact(AP _ _).alloc (AB _) _
 have T:o.heap[G]?=some (.cells #[.slice M N Q] 26 (0,0)):=by rw[F,K];exact AR _ _
 have S:=lt_of_heap f.c;have m:=f.c.y (V.u c S);obtain⟨C,D⟩:=E (o.setCell (O c 3) (.b G 1 1));have i:ES C c {s with d:=x,a:=(some (O G 0),1,1)}:=by rw[D];exact m.NK (some (O G 0),1,1)
 have W:Y.Ed c (c+1) o C:=by rw[D];exact MR _ _ _ _
 have k3:o.cell? (O c 3)=some (.slice s.a.1 s.a.2.1 s.a.2.2):=m.cell 3;have g:o.frozen? (O c 3)=false:=m.frozen 3;have g:C.heap[G]?=some (.cells #[.slice M N Q] 26 (0,0)):=(W.u G (lt_of_heap T) U).i T;have P:Hid (E9 u w c R s d (n+1) C):=J (E9.i H.o p q r t (f.one Hf.o U i (by rw[<-A,<-y,<-L];exact g) (Jh (Ls V) (LQ W (λk a b=>by omega)))));have c:=J F;have v:=J D;have o:=J K;clear f p q r t j l B c0 c1 V T m i W g F D K A y L S;go_wp2_with (first|(rw[<-c.o,<-o.o])|(rw[<-c.o])|(rw[<-v.o])|fail);go_ret;exact⟨I,P.o⟩
theorem E0.gH{u:Bs->Option Bs}{w A W:Z}{q:Nat}{R:Nat->Prop}{s s':Sv}{d:Sd}{n c:Nat}{M':Mt}{l:List It}{ms:List (Sl×List It)}(t:Nat->Prop)(h:E0 u w q R s d n)(r:s.f=some c)(j:Tl u w A c d.M M' s l (701*n+1))(o:Y.Fm (Lm c d.M.a d.M.h d.M.g d.M.d d.M.j d.M.e) w A)(m:Y.Fm (λk=>k=q\/ob s.a=some k) A W) (es:(s'.c,s'.f,s'.h,s'.e,s'.free,s'.m,s'.d,s'.b)=(s.c,s.f,s.h,s.e,s.free,s.m,s.d,s.b)) (v:ES W q s') (Q:EX l) (nl:s'.g.2.1=l.length) (own:W.ownsRow 0 39 5 (.slice s'.g.1 s'.g.2.1 s'.g.2.2) l.length (FF (Eg l))) (nR:∀k,ob s'.g=some k->R k\/(w.heap.size<=k/\k<W.heap.size/\¬J8 c M' k/\¬t k)) (here:∃y∈ms,y.2=Eg l) (z:IX W s'.a ms) (L:∀k,ob s'.a=some k->ob s.a=some k\/(w.heap.size<=k/\k<W.heap.size/\t k/\¬J8 c M' k)) (H:∀y∈ms,∀b off,y.1.1=some (O b off)->0<y.2.length->R b\/(w.heap.size<=b/\b<W.heap.size/\¬J8 c M' b/\¬t b)) (K:ms.length<=n+2) (G:s.h=false->∃y∈ms,Finds u M'.m y.2):∃R',E0 u W q R' s' {d with m:=M'.m,a:=l,M:=M',ms:=ms} (n+1)/\(∀k,R k->R' k)/\(∀k,R' k->R k\/(w.heap.size<=k/\k<W.heap.size))/\(∀k,Mu q s' {d with m:=M'.m,a:=l,M:=M',ms:=ms} k->Mu q s d k\/w.heap.size<=k)/\Y.Fm (Mu q s d) w W:=by
 obtain⟨_,_,_,_,_,_,_,_,_,_⟩:=s';simp only[Dj]at es;obtain⟨rfl,rfl,rfl,rfl,rfl,rfl,rfl,rfl⟩:=es;have p:=h.o c r;have a:=o.size;have T:=m.size;have a:=(h.b q (.w I)).2;have a:=h.g;have a:∀k,J8 c d.M k->Mu q s d k:=λk a=>.s (.s (.s (.s (.w ⟨c,r,a⟩))));have q:∀k,ob s.a=some k->k<w.heap.size:=λk a=>(h.b k (.s (.s (.s (.s (.s a)))))).2;have M:∀k,J8 c M' k->k<A.heap.size->W.e A k:=λk a x=>m.u k x (λe=>by
  rcases j.new k a with f|f
  .rcases e with e|e
   .exact(p.ap k f).1 e
   exact(h.r k e).2.2 c r f
  rcases e with e|e
  .omega
  exact Dz (q k e))
 have C:Ll W c M' l:=II.a j.o T (λk a x=>M k a x);have D:M'.h=d.h:=j.h.i p.h;have B:M'.g=d.g:=j.g.i p.g;have q:Y.CP W d.h d.g s.c d.L M'.m:=by have f:=(II.h C).j;rw[D,B,j.f.i p.f,j.L.i p.L]at f;exact f
 have V:Y.WF M'.m:=(II.h C).wf;have P:∀k,(d.h<=k/\k<d.g)->J8 c M' k:=λk a=>.w (.w (.w (by rw[D,B];exact a)));have N:∀k,(R k\/(w.heap.size<=k/\k<W.heap.size/\¬J8 c M' k/\¬t k))->Rn R w W {d with m:=M'.m,a:=l,M:=M',ms:=ms} (λk=>J8 c M' k\/t k) k:=λk a=>a.imp id (λe=>⟨e.1,e.2.1,λe1=>e.2.2.1 (P k e1),λe1=>e1.elim e.2.2.1 e.2.2.2⟩);refine⟨_,E0.make (w':=W) (n':=n+1) (λk=>J8 c M' k\/t k) h I I I I I I v q V (by show d.g<=_;omega) h.h (.w ⟨I,I⟩) ⟨m.os.i o.os,m.tape.i o.tape,m.output.i o.output,by omega,λk a S=>(m.u k U (λe=>S (e.elim .w (λe=>.s (.s (.s e)))))).i (o.u k a (λe=>S (.s (.s (.w ⟨c,r,.w e⟩)))))⟩ (λv F=>?_) z (λk a=>?_) (λy o b off e m=>N b (H y o b off e m)) K (DB n) ?_ (λe=>?_) h.e G⟩
 .have:c=v:=by have f:s.f=some v:=F;rw[r]at f;cases f;rfl
  subst this;refine⟨⟨Q,C,j.r,j.f.i p.f,D,B,j.L.i p.L,I,nl,own,λk a=>N k (nR k a),here,λe=>(j.c e).step I I I I (λg m x=>M g (.s m) x) U,λk a=>?_⟩,λk a=>(j.new k a).imp (λe=>⟨c,r,e⟩) (λe=>⟨e,.w (.w a)⟩)⟩;rcases j.new k a with f|f
  .exact p.ap k f
  refine⟨by omega,λe=>?_,λe=>?_⟩
  .have:=(h.b k (.s (.s (.w e)))).2;omega
  have:=(h.b k (.s (.s (.s (.w e))))).2;omega
 .rcases L k a with e|⟨e1,e2,e3,e4⟩
  .exact .w e
  refine .s ⟨e1,e2,.s e3,λe=>e4 (P k e),λv F=>?_⟩;have:c=v:=by have f:s.f=some v:=F;rw[r]at f;cases f;rfl
  subst this;exact e4
 .refine AG h.m (Y.Gz (by rw[<-p.m];exact j.a) (λi Q=>?_));rw[<-p.m]at Q;exact j.e i Q
 have:=(j.c e).j;exact this.l U
theorem tB{V w':Z}{o:Obj}{r:Option Nat}(b:(V.alloc o).grownBy w' r):Y.Fm (λk=>r=some k) V w':=by have a:V.b (V.alloc o):=(AP _ V).alloc (AB _) _;exact⟨b.os.i a.os,b.tape.i a.tape,b.output.i a.output,AG a.size b.size,λk c d=>(b.u k (AQ c a.size) (λe=>d e.A)).i (a.u k c)⟩
theorem IX.more{V w':Z}{x y:Sl}{ms:List (Sl×List It)}{l:List It}{g cap:Nat}(h:IX V x ms)(u:y.2.1=l.length)(r:l.length<=1000)(q:Eh V y.1 l)(hF:Y.Fm (λk=>ob x=some k) V w')(t:w'.ownsRow 0 26 1 (.b g (ms.length+1) cap) (ms.length+1) ((ms.map λy=>sl y.1)++[sl y])) (a:∀z∈ms++[(y,l)],∀b off,z.1.1=some (O b off)->0<z.2.length->b<V.heap.size/\ob x≠some b):IX w' (some (O g 0),ms.length+1,cap) (ms++[(y,l)]):=by
 refine⟨by rw[AM,Au];exact t,λz f=>?_⟩;have n:=a z f;have d:∀b off,z.1.1=some (O b off)->z.2≠[]->w'.e V b:=λb off e s=>by obtain⟨o,p⟩:=n b off e (Bl.2 s);exact hF.u b o p
 rcases Aj.1 f with c|c
 .obtain⟨i,j,m⟩:=h.2 z c;exact⟨i,j,m.only d⟩
 simp at c;subst c;exact⟨u,r,q.only d⟩
theorem EX.vP{l:List It}(h:EX l):lV (Eg l):=
 ⟨h.a.nodup,h.a.len,λy a=>by have:=(NR (h.a.ok y a)).p;omega,λy a=>by exact Dz ((NR (h.a.ok y a)).d)⟩
variable {u:Bs->Option Bs} {w:Z} {fb sb n:Nat} {M':Mt} {s:Sv} {R:Nat->Prop} {d:Sd}
theorem Tl.O4{w':Z}{M:Mt}{l:List It}{N:Nat}(h:Tl u w w' fb M M' s l N)(d:EX l)(c:s.e=false):Finds u M'.m (Eg l):=by obtain⟨⟨t,a,b⟩,_⟩:=h.c c;exact Finds.laid a (II.h h.o).wf b d
theorem E0.VJ(h:E0 u w sb R s d n)(a:s.h=false):s.e=false:=by
 cases e:s.e with
 |false=>rfl
 |true=>have:=(h.e e).2;rw[a]at this;cases this
theorem E0.US{i:Z}(h:E0 u w sb R s d n)(j:s.f=some fb)(p:Tl u w i fb d.M M' s d.a (701*n+1))(c:Y.Fm (Lm fb d.M.a d.M.h d.M.g d.M.d d.M.j d.M.e) w i):∃R',E0 u i sb R' s {d with m:=M'.m,M:=M'} (n+1)/\(∀k,R k->R' k)/\(∀k,R' k->R k\/(w.heap.size<=k/\k<i.heap.size))/\(∀k,Mu sb s {d with m:=M'.m,M:=M'} k->Mu sb s d k\/w.heap.size<=k)/\Y.Fm (Mu sb s d) w i:=by
 have f:=h.o fb j;have r:∀k,J8 fb d.M k->Mu sb s d k:=λk a=>.s (.s (.s (.s (.w ⟨fb,j,a⟩))));have o:∀k,R k->i.e w k:=λk a=>c.u k (h.q k a) (λe=>(h.b k (r k (.w e))).1 a);have q:=(h.b sb (.w I)).2;exact h.gH (s':=s) (ms:=d.ms) (λ_=>False) j p c (Y.Fm.refl _ _) I (h.c.y (c.u sb q (λe=>(f.ap sb (.w e)).1 I))) f.j f.nl (MF f.own (λg x=>o g (f.nR g x))) (λk a=>.w (f.nR k a)) f.here
  (h.a.d (λk a=>c.u k (h.b k (.s (.s (.s (.s (.s a)))))).2 (λe=>(h.r k a).2.2 fb j (.w e))) h.t o) (λk a=>.w a) (λy l b m e t=>.w (h.t y l b m e t)) (Dz h.z) (λe=>by obtain⟨y,l,v⟩:=f.here;exact⟨y,l,by rw[v];exact p.O4 f.j (h.VJ e)⟩)
end
section
open Go.RowKit Go.Nt
variable {w V w' w4 V':Z} {fb sb n g cap:Nat} {l:List It} {u:Bs->Option Bs} {R:Nat->Prop} {s:Sv} {d:Sd} {y:Sl} {ms:List (Sl×List It)}
theorem Ll.lt{M:Mt}(h:Ll w fb M l){k:Nat}(c:J8 fb M k):k<w.heap.size:=by
 rcases c with(a|a|a)|a
 .exact Y.Iz (II.h h) a
 .rw[a];exact lt_of_heap (II.o h)
 .rw[a];exact(II.j h).lt
 obtain⟨_,_,_,_,_,b,_⟩:=II.tk h k a;exact b.lt
def Rv(R:Nat->Prop)(z:Nat)(V:Z)(k:Nat):Prop:=R k\/(z<=k/\k<V.heap.size)
theorem E0.all(h:E0 u w sb R s d n)(c:Below w.heap.size w V):E0 u V sb (Rv R w.heap.size V) s d n:=
 (h.f c).grow (λ_ h=>.w h) (λk b a=>by
  have:=h.b k b;rcases a with a|a
  .exact this.1 a
  omega) (λk b=>b.elim (λe=>AQ (h.q k e) c.size) (λe=>e.2))
theorem E9.SX{n1:Nat}(h:E0 u w sb R s d n1)(b:Below w.heap.size w V)(a:E9 u V sb (Rv R w.heap.size V) s d n w'):E9 u w sb R s d n w':=
 E9.i h (λ_ h=>.w h) (λ_ h=>h) (λ_ h=>.w h) (Ls b) a
theorem jr(h:w.ownsRow 0 39 5 (.slice y.1 y.2.1 y.2.2) n (FF l))(a:∀k,ob y=some k->R k):Nz R y.1 l.length:=λb _ e _=>by
 rcases h with⟨_,⟨e1,_⟩|⟨g,_,_,e1,_⟩⟩
 .simp only[Cw]at e1;rw[e1.1]at e;cases e
 simp only[Cw]at e1;rw[e1.1]at e;cases e;exact a _ (by unfold ob;rw[e1.1];rfl)
theorem VA{x:Sl}(c:ES w sb s)(b:IX w x ms):ob x≠some sb:=λe=>by obtain⟨c1,a⟩:=Kn b.1 e;exact KY a c EB I
theorem lx(p:ES V sb s)(t:IX V s.a ms)(h:∀z∈ms++[(y,l)],∀b off,z.1.1=some (O b off)->0<z.2.length->b<V.heap.size/\ob s.a≠some b)(G:y.2.1=l.length)(C:l.length<=1000)(B:Eh V y.1 l) (F:w4.ownsRow 0 26 1 (.b g (ms.length+1) cap) (ms.length+1) ((ms.map λy=>sl y.1)++[sl y])) (A:(V.alloc (.cells #[sl y] 26)).grownBy w4 (ob s.a)) (f:V'=w4.setCell (O sb 3) (.b g (ms.length+1) cap)):ES w4 sb s/\ES V' sb {s with a:=(some (O g 0),ms.length+1,cap)}/\IX V' (some (O g 0),ms.length+1,cap) (ms++[(y,l)])/\Y.Fm (λk=>k=sb\/ob s.a=some k) V V':=by
 have c:=tB A;have o:Y.Ed sb (sb+1) w4 V':=by rw[f];exact MR _ _ _ _
 have m:=p.y (c.u sb (lt_of_heap p) (VA p t));have j:=t.more G C B c F h;refine⟨m,by rw[f];exact m.NK (some (O g 0),ms.length+1,cap),j.d (R:=λk=>k≠sb/\k<w4.s) (λk d=>?_) (λz H b off e w=>?_) (λk d=>o.u k d.2 U),Jh ⟨c.os,c.tape,c.output,c.size,λk d D=>c.u k d (λe=>D (.s e))⟩ (LQ o (λk a b=>.w U))⟩
 .obtain⟨c1,v⟩:=Kn j.1 d;exact o.u k (lt_of_heap v) (λe=>VA m j (by rw[d];congr 1;omega))
 have q:=(j.2 z H).2.2;have n:=Bl.1 w;refine⟨m.apart q n e,?_⟩;obtain⟨_,_,r,u⟩:=q n;rw[e]at r;cases r;cases i:z.2 with
 |nil=>exact absurd i n
 |cons x K=>exact(u 0 x (by rw[i];rfl)).lt
theorem E0.more(h:E0 u V sb R s d n)(i:s.f=some fb)(F:d.ms.length<=n)(m:y.2.1=l.length)(W:l.length<=1000)(T:Eh V y.1 l)(w:Nz R y.1 l.length)
 (j:w4.ownsRow 0 26 1 (.b g (d.ms.length+1) cap) (d.ms.length+1) ((d.ms.map λy=>sl y.1)++[sl y])) (S:(V.alloc (.cells #[sl y] 26)).grownBy w4 (ob s.a)) (Q:ob s.a=some g\/g=V.heap.size+1) (x:g<w4.heap.size) (o:V'=w4.setCell (O sb 3) (.b g (d.ms.length+1) cap)):ES w4 sb s/\E9 u V sb R s d n V':=by
 have r:=h.o fb i;have D:∀k,ob s.a=some k->Mu sb s d k:=λk a=>.s (.s (.s (.s (.s a))))
 have C:∀k,J8 fb d.M k->Mu sb s d k:=λk a=>.s (.s (.s (.s (.w ⟨fb,i,a⟩))))
 have t:∀z∈d.ms++[(y,l)],Nz R z.1.1 z.2.length:=λz c=>by
  rcases Aj.1 c with c|c
  .exact h.t z c
  simp at c;subst c;exact w
 obtain⟨L,K,N,hF⟩:=lx h.c h.a (λz c b f e p=>⟨h.q _ (t z c b f e p),λe1=>(h.b b (D b e1)).1 (t z c b f e p)⟩) m W T j S o;have c:=hF.size;have M:g<V'.s:=by rw[o];simpa using x
 have j:=h.g;have P:∀k,R k->V'.e V k := λk a=>hF.u k (h.q k a) (λe=>e.elim (λe=>(h.b k (.w e)).1 a) (λe=>(h.b k (D k e)).1 a))
 have H:=r.move (w':=V') (s':=s) (d':=d) (R':=Rn R V V' d (λk=>k=g)) (n':=n) c (λk a=>a.elim (λe=>hF.u k (h.b k (C k e)).2 (λe1=>e1.elim (r.ap k e).1 (λe1=>(h.r k e1).2.2 fb i e))) (P k)) I I (λk a=>.w a) (AB n) r.ap;obtain⟨z,A,B⟩:=r.here;exact⟨L,{ s with a:=(some (O g 0),d.ms.length+1,cap) },{ d with ms:=d.ms++[(y,l)] },_,E0.make (w':=V') (n':=n) (λk=>k=g) h I I I I I I K (Y.EM.a h.j (λk q m=>hF.u k (by have j:k<d.g:=m;omega) (λe=>e.elim (λe=>h.ap.1 (by rw[<-e];exact⟨q,m⟩)) (λe=>(h.r k e).1 ⟨q,m⟩)))) h.wf (AG h.g c) h.h (.w ⟨I,I⟩) ⟨hF.os,hF.tape,hF.output,hF.size,λk a F=>hF.u k a (λe=>F (e.elim .w (λe=>.s (.s (.s e)))))⟩
  (λv j=>by
    have:fb=v:=by rw[i]at j;cases j;rfl
    subst this;exact⟨{ H with here:=⟨z,List.mem_append_left _ A,B⟩ },λk a=>.w ⟨fb,i,a⟩⟩)
  N
  (λk a=>by
    have G:g=k:=by simpa[ob,Value.ownBlock]using a
    subst G;rcases Q with e|e
    .exact .w e
    .exact .s ⟨by omega,M,I,by show ¬(d.h<=_/\_<d.g);omega,λv j a=>by
      have:fb=v:=by rw[i]at j;cases j;rfl
      subst this
      exact Dz ((h.b _ (C _ a)).2)⟩) (λz c b f e p=>.w (t z c b f e p)) (by show(d.ms++[(y,l)]).length<=_;rw[AM];show d.ms.length+1<=_;omega) (AB n) h.m h.p h.e (λe=>by
    obtain⟨z,q,m⟩:=h.find e;exact⟨z,List.mem_append_left _ q,m⟩)⟩
theorem E0.YG{o x p t:Z}{M':Mt}(h:E0 u o sb R s d n)(D:s.f=some fb)(G:Tl u o x fb d.M M' s l (701*n+1))(i:Y.Fm (Lm fb d.M.a d.M.h d.M.g d.M.d d.M.j d.M.e) o x)(K:EX l)(Q:y.2.1=l.length)(own:o.ownsRow 0 39 5 (.slice y.1 y.2.1 y.2.2) l.length (FF (Eg l)))(r:∀k,ob y=some k->R k) (v:p=x.setCell (O sb 2) (.slice y.1 y.2.1 y.2.2)) (ho:w4.ownsRow 0 26 1 (.b g (d.ms.length+1) cap) (d.ms.length+1) ((d.ms.map λy=>sl y.1)++[sl y])) (q:(p.alloc (.cells #[sl y] 26)).grownBy w4 (ob s.a)) (ha:ob s.a=some g\/g=p.heap.size+1) (H:g<w4.heap.size) (w:t=w4.setCell (O sb 3) (.b g (d.ms.length+1) cap)):ES w4 sb {s with g:=y}/\∃R',E0 u t sb R' {s with g:=y,a:=(some (O g 0),d.ms.length+1,cap)} {d with m:=M'.m,a:=l,M:=M',ms:=d.ms++[(y,Eg l)]} (n+1)/\(∀k,R k->R' k)/\(∀k,R' k->R k\/(o.heap.size<=k/\k<t.heap.size))/\(∀k,Mu sb {s with g:=y,a:=(some (O g 0),d.ms.length+1,cap)} {d with m:=M'.m,a:=l,M:=M',ms:=d.ms++[(y,Eg l)]} k->Mu sb s d k\/o.heap.size<=k)/\Y.Fm (Mu sb s d) o t:=by
 have C:=h.o fb D;have A:∀k,ob s.a=some k->Mu sb s d k:=λk f=>.s (.s (.s (.s (.s f))));have m:∀k,J8 fb d.M k->Mu sb s d k:=λk f=>.s (.s (.s (.s (.w ⟨fb,D,f⟩))));have T:=(h.b sb (.w I)).2;have B:Y.Ed sb (sb+1) x p:=by rw[v];exact MR _ _ _ _
 have j:=i.size;have j:=B.size;have j:=h.c.y (i.u sb T (λe=>(C.ap sb (.w e)).1 I));have x:ES p sb {s with g:=y}:=by rw[v];exact j.OI y
 have M:∀k,R k->p.e o k:=λk f=>(B.u k (Dz (h.q k f)) (λe=>(h.b k (.w U)).1 f)).i (i.u k (h.q k f) (λe=>(h.b k (m k (.w e))).1 f));have v:IX p s.a d.ms:=h.a.d (λk f=>(B.u k (Dz ((h.b k (A k f)).2)) (λe=>VA h.c h.a (by rw[f];congr 1;omega))).i (i.u k (h.b k (A k f)).2 (λe=>(h.r k f).2.2 fb D (.w e)))) h.t M;have m:Nz R y.1 (Eg l).length:=jr own r;have L:=MF own (λg q=>M g (r g q));have S:Eh p y.1 (Eg l):=by have P:=L;rw[<-KW]at P;obtain⟨a,c,e,j⟩:=Oq P;simp only[Cw]at e;rw[e.1];exact j
 have F:∀z∈d.ms++[(y,Eg l)],Nz R z.1.1 z.2.length:=λz j=>by
  rcases Aj.1 j with j|j
  .exact h.t z j
  simp at j;subst j;exact m
 obtain⟨V,o,W,N⟩:=lx (s:={s with g:=y}) x v (λz j b m e C=>⟨by have:=h.q _ (F z j b m e C);omega,λe1=>(h.b b (A b e1)).1 (F z j b m e C)⟩) (by rw[KW];exact Q) (by rw[KW];exact Dz K.len) S ho q w;have p:g<t.s:=by rw[w];simpa using H
 refine⟨V,h.gH (λk=>k=g) D G i (Jh (LQ B (λk a b=>.w U)) N) I o K Q (MF L (λg q=>N.u g (Dz (h.q g (r g q))) (λe=>e.elim (λe=>(h.b g (.w e)).1 (r g q)) (λe=>(h.b g (A g e)).1 (r g q))))) (λk f=>.w (r k f)) ⟨_,List.mem_append_right _ (CN.2 I),I⟩ W (λk f=>?_) (λz j b m e C=>.w (F z j b m e C)) (by rw[AM];have:=h.z;show d.ms.length+1<=_;omega) (λe=>⟨_,List.mem_append_right _ (CN.2 I),G.O4 K (h.VJ e)⟩)⟩;have i:g=k:=by simpa[ob,Value.ownBlock]using f
 subst i;rcases ha with e|e
 .exact .w e
 exact .s ⟨by omega,p,I,λf=>by exact Dz (Ll.lt G.o f)⟩
theorem E0.Uh{f:Bool}(h:E0 u w sb R s d n)(A:ES w' sb {s with free:=f})(m:Y.Ed sb (sb+1) w w')(p:s.e=true->f=true):∃R',E0 u w' sb R' {s with free:=f} d n/\(∀k,R k->R' k)/\(∀k,R' k->R k\/(w.heap.size<=k/\k<w'.heap.size))/\(∀k,Mu sb {s with free:=f} d k->Mu sb s d k\/w.heap.size<=k)/\Y.Fm (Mu sb s d) w w':=by
 have v:=m.size;have g:∀k,k<w.heap.size->k≠sb->w'.e w k:=λk j l=>m.u k j U;have t:∀k,R k->w'.e w k:=λk c=>g k (h.q k c) (λe=>(h.b k (.w e)).1 c);have x:∀k,ob s.a=some k->Mu sb s d k:=λk c=>.s (.s (.s (.s (.s c))));exact⟨_,E0.make (w':=w') (n':=n) (λ_=>False) h I I I I I I A (Y.EM.a h.j (λk j l=>g k (by have C:k<d.g:=l;exact Dz h.g) (λe=>h.ap.1 (by rw[<-e];exact⟨j,l⟩)))) h.wf (AG h.g v) h.h (.w ⟨I,I⟩) (LQ m (λk a b=>.w U))
  (λi o=>by have q:=h.o i o;exact⟨q.move (w':=w') (s':={s with free:=f}) (d':=d) (n':=n) v (λk c=>c.elim (λe=>g k (h.b k (.s (.s (.s (.s (.w ⟨i,o,e⟩)))))).2 (q.ap k e).1) (t k)) I I (λk c=>.w c) (AB n) q.ap,λk c=>.w ⟨i,o,c⟩⟩)
  (h.a.d (λk c=>g k (h.b k (x k c)).2 (λe=>VA h.c h.a (by rw[c,e]))) h.t t) (λk c=>.w c) (λy B b r e z=>.w (h.t y B b r e z)) h.z (AB n) h.m h.p (λe=>⟨p e,(h.e e).2⟩) h.find⟩
variable {w w':Z} {u:Bs->Option Bs} {sb n:Nat} {R:Nat->Prop} {s:Sv} {d:Sd}
theorem Iq.sl{b:Int}{L:List It}{e:Ending}(h:Iq w b L e w'):∃y:Sl,e=.a (.tuple #[.slice y.1 y.2.1 y.2.2,.a b])/\Below w.heap.size w w'/\(b=0->y.2.1=L.length/\w'.ownsRow w.heap.size 39 5 (.slice y.1 y.2.1 y.2.2) L.length (FF L)):=by
 obtain⟨f,i,j⟩:=h;by_cases d:b=0
 .obtain⟨_,rfl,g⟩:=j d;obtain⟨a,c,rfl,_⟩:=Oq g;exact⟨(a,L.length,c),by rw[d],f,λ_=>⟨I,g⟩⟩
 exact⟨(none,0,0),i d,f,λe=>absurd e d⟩
theorem E0.stays(h:E0 u w sb R s d n)(hF:Y.Fm (Mu sb s d) w w')(k:Nat)(a:R k):w'.heap[k]?=w.heap[k]? := hF.u k (h.q k a) (λe=>(h.b k e).1 a)
theorem gd:(prog.info? 26).map (λi=>(i.zero,i.size,i.bytes))=some (some (.g),1,24):=EG
theorem mw(hP:Ge u){C:Nat}(h:E0 u w sb R s d n)(hR0:R 0)(hml:ML w)(hn:n<=3000000)(hf:s.f=some C)(o:Ir)(h1:1<=o.kind)(h7:o.kind<=7)(lp:o.c.length<=1048576)(lt:o.dst.length<=1048576)(ld:o.data.length<=1048576)(ha:o.a<=9223372036854775807):Calls prog 61 #[.c sb,NI o] w λe w'=>e=.a (.bool true)/\E9 u w sb R s d (n+2) w':=by
 have F:=h.o C hf;have bA:∀k,J8 C d.M k->Mu sb s d k:=λk hk=>.s (.s (.s (.s (.w ⟨C,hf,hk⟩))));have ao:¬Lm C d.M.a d.M.h d.M.g d.M.d d.M.j d.M.e 0:=λe=>(h.b 0 (bA 0 (.w e))).1 hR0;obtain⟨W,hW⟩:=E (w.alloc (.cells o.arr 65));have aR:Below w.heap.size w W:=by rw[hW];exact(AP _ w).alloc (AB _) _
 obtain⟨g,hg⟩:=E w.heap.size;have aS:∀k,W.cell? (O g k)=o.arr[k]? := λk=>by rw[hW,hg];exact SC w _ k
 have HB:Hid (∀V,Below W.heap.size W V->Below w.heap.size w V):=J (λV p=>aR.i (p.l (Dz aR.size)));have HI:Hid (∀V,Below W.heap.size W V->E0 u V sb R s d n):=J (λV p=>h.f (HB.o V p));have HA:Hid (∀V,Below W.heap.size W V->E0 u V sb (Rv R w.heap.size V) s d n):=J (λV p=>h.all (HB.o V p));have HE:Hid (∀V w',Below W.heap.size W V->E9 u V sb (Rv R w.heap.size V) s d (n+2) w'->E9 u w sb R s d (n+2) w'):=J (λV w' p z=>E9.SX h (HB.o V p) z);have HM:Hid (∀V,Below W.heap.size W V->ML V):=J (λV p=>hml.f (HB.o V p) hml.lt);have M:=AP W.heap.size W;have hA:=agree F.j h1 h7 o.c o.dst o.data o.a o.b;obtain⟨H,aV⟩:=E (QB d.a o.kind o.c o.dst o.data o.a o.b);obtain⟨B,b5⟩:=E (QG d.a o.kind o.c o.dst o.data o.a o.b);have AF:=J (vK (.slice s.g.1 s.g.2.1 s.g.2.2) (Eg d.a) 0 o.kind o.c o.dst o.data o.a o.b W.drew (by have:=((HI.o _ M.drew).o C hf).own;rw[KW];exact this) F.j.vP h1 h7 lp lt ld ha);obtain⟨L2,b6⟩:=E (MV (Eg d.a) o.kind o.c o.dst o.data o.a o.b);rw[hA.1,<-aV,F.nl,<-b6]at AF;have au:H=0->EX B/\L2=Eg B:=by have:=hA.2;rw[<-aV,<-b5,<-b6]at this;exact this
 have CA:=J (λV (p:Below W.heap.size W V)=>wV hP (HI.o V p).c hf ((HI.o V p).o C hf).o F.j (HM.o V p) ao (by have h1:=F.r.b;have h2:=h.wf.a;rw[F.m]at h1;omega) F.r.p (λe=>(F.ap sb (.w e)).1 I) o h1 h7 lp lt ld);rw[<-aV,<-b5]at CA;have HT:Hid (∀(V D:Z) (e:Ending),Below W.heap.size W V->Mq u V C d.M d.a B H e D->ML D/\∃x l2 q,e=.a (.a x)/\Tl u V D C d.M q s l2 (701*n+1)/\Y.Fm (Lm C d.M.a d.M.h d.M.g d.M.d d.M.j d.M.e) V D/\(H≠0/\x=H/\l2=d.a\/H=0/\(x=0/\d.m.b≠0/\l2=B\/(x=9\/x=10)/\l2=d.a/\Kh s q.m (Eg B) x=true))):=J (λV D e p hc=>by have hI:=HI.o V p;obtain⟨x,l2,q,q1,q2,q3,q4⟩:=tX (s:=s) (N:=701*n+1) hc (hI.o C hf).o F.r F.j (λe=>(au e).1) (by rw[F.m];exact h.m) (hI.o C hf).c U (λe=>(h.e e).1);rw[F.m]at q4;exact⟨(HM.o V p).y (q3.u 0 (HM.o V p).lt ao),x,l2,q,q1,q2,q3,q4⟩)
 have c0:W.cell? (O sb 0)=some (.c s.c):=(HI.o W M).c.cell 0;have D0:=J (Y.Er W d.h d.g s.c d.L d.m (HI.o W M).j);have HN:Hid (∀V,Below W.heap.size W V->V.cell? (O sb 2)=some (.slice s.g.1 d.a.length s.g.2.2)):=J (λV p=>(HI.o V p).O7 hf);have bC:g<W.heap.size:=Am _ _ (aS 0);have i:Hid (∀V k,Below W.heap.size W V->V.cell? (O g k)=o.arr[k]?):=J (λV k p=>(p.cell bC).i (aS k));obtain⟨dd,be⟩:=E ((d.m.b==0));rw[<-be]at D0;change Hid _ at be;obtain⟨p1,az⟩:=E s.g.1;obtain⟨p3,bn⟩:=E s.g.2.2;obtain⟨N,hN⟩:=E d.a.length;rw[<-az,<-bn,<-hN]at HN AF;obtain⟨cb,GU⟩:=E s.c;rw[<-GU]at c0 D0;change Hid _ at GU au;have Hf:=J hf;have bD:Hid (∀V,Rv R w.heap.size V 0):=J (λV=>.w hR0);have aL:=J h.z;have bI:Hid (w.heap.size<=W.heap.size):=J aR.size;clear h hml F hf hA aV az bn hN b5 b6 aR HI HM bC lp lt ld bA ao hR0 HB;obtain⟨kd,⟨t1,t2,t3⟩,pa,tp,da,oa,aT,ot⟩:=o;unfold Nx KU at AF;unfold NI Ir.arr at *;dsimp only at *;obtain⟨P,bu⟩:=E (X pa);obtain⟨T,br⟩:=E (X tp);obtain⟨z0X,bp⟩:=E (X da);rw[<-bu,<-br,<-bp]at AF CA hW i aS |-;change Hid _ at hW hg;have y0:W.drew.cell? (O g 0)=some (.a kd):=i.o _ 0 M.drew;have y2:W.drew.cell? (O g 2)=some (.string P):=i.o _ 2 M.drew;have y3:W.drew.cell? (O g 3)=some (.string T):=i.o _ 3 M.drew;have y4:W.drew.cell? (O g 4)=some (.string z0X):=i.o _ 4 M.drew;have y5:W.drew.cell? (O g 5)=some (.a oa):=i.o _ 5 M.drew;have y6:W.drew.cell? (O g 6)=some (.a aT):=i.o _ 6 M.drew;have yn:=HN.o _ M.drew;clear aS bu br bp;go_enter func61,ntmps61;go_wp2_with rw[<-hW.o,<-hg.o];refine Jj D0.o ?_;go_wp2_with fail;go_region_held3 (λV=>V.cell? (O sb 2)=some (.slice p1 N p3)/\V.cell? (O g 0)=some (.a kd)/\V.cell? (O g 2)=some (.string P)/\V.cell? (O g 3)=some (.string T)/\V.cell? (O g 4)=some (.string z0X)/\V.cell? (O g 5)=some (.a oa)/\V.cell? (O g 6)=some (.a aT)) (go_keep) (first
  | (go_at_call 108;refine AF.o.l ?_;rintro e f az;obtain⟨⟨l,t,A⟩,rfl,bj,bl⟩:=az.sl;have ae:=M.drew.i bj;have f0:=HN.o f ae;have f1:f.cell? (O g 0)=some (.a kd):=i.o f 0 ae;have f2:f.cell? (O g 2)=some (.string P):=i.o f 2 ae;have f3:f.cell? (O g 3)=some (.string T):=i.o f 3 ae;have f4:f.cell? (O g 4)=some (.string z0X):=i.o f 4 ae;have f5:f.cell? (O g 5)=some (.a oa):=i.o f 5 ae;have f6:f.cell? (O g 6)=some (.a aT):=i.o f 6 ae;have b8:=J ae;have bh:=J bl;clear bj az ae bl))
 rename_i hHeld;clear hHeld f0 f1 f2 f3 f4 f5 f6 y0 y2 y3 y4 y5 y6 yn c0 AF D0;have K:=b8.o;have q0:f.cell? (O g 0)=some (.a kd):=i.o _ 0 K;have q1:f.cell? (O g 1)=some (.slice t1 t2 t3):=i.o _ 1 K;have q2:f.cell? (O g 2)=some (.string P):=i.o _ 2 K;have q3:f.cell? (O g 3)=some (.string T):=i.o _ 3 K;have q4:f.cell? (O g 4)=some (.string z0X):=i.o _ 4 K;have q5:f.cell? (O g 5)=some (.a oa):=i.o _ 5 K;have q6:f.cell? (O g 6)=some (.a aT):=i.o _ 6 K;have q7:f.cell? (O g 7)=some (.bool ot):=i.o _ 7 K;have bE:=J (CA.o _ K);have j:=J (HA.o _ K);have av:=J (λw'=>HE.o f w' K);have HO:Hid (H=0->t=B.length/\f.ownsRow 0 39 5 (.slice l t A) B.length (FF (Eg B))/\∀k,ob (l,t,A)=some k->Rv R w.heap.size f k):=J (λe=>by obtain⟨S,G⟩:=bh.o e;rw[(au.o e).2,KW]at S G;exact⟨S,NV G (AW _),λk hk=>.s ⟨AG bI.o (G.lt k hk).1,(G.lt k hk).2⟩⟩)
 clear CA K i HN HA HE bh;go_wp2_with fail;refine bE.o.l ?_;rintro e D ⟨⟨x,rfl⟩,hc⟩;obtain⟨aw,x',l2,q,he,k1,k2,k3⟩:=HT.o _ _ _ b8.o hc;have hx:x'=x:=EU he.A;subst hx;have a7:=J aw;change Hid _ at k1;have K2:=J k2;clear he hc bE HT aw k2 q0 q1 q2 q3 q4 q5 q6 q7;have am:=bD.o f;obtain⟨R1,bq⟩:=E (Rv R w.heap.size f);rw[<-bq]at j av HO am;clear bq bD b8;rcases k3 with⟨hE,hxE,Q⟩|⟨hE,⟨hx0,hlf,Q⟩|⟨hx9,Q,hrf⟩⟩
 .subst hxE Q;obtain⟨R',c1,c2,c3,c4,c5⟩:=j.o.US Hf.o k1.o K2.o;have T2:=J (Ur c1 a7.o U Hf.o);have HS:Hid (∀w',E9 u D sb R' s {d with m:=q.m,M:=q} (n+2) w'->E9 u w sb R s d (n+2) w'):=J (λw' z=>av.o w' (E9.i j.o c2 c3 c4 c5 z));have bK:(x'==0)=false:=by simp[hE]
  clear c1 c2 c3 c4 c5 k1 K2 a7 HO j;go_wp2_with fail;refine T2.o.l ?_;rintro e V3 ⟨rfl,z⟩;have bJ:=J (HS.o _ z.step);clear z T2 HS;go_wp2_with fail;go_ret;exact⟨I,bJ.o⟩
 .subst hx0 Q hE;obtain⟨ht,-⟩:=au.o I;obtain⟨S,G,o3⟩:=HO.o I;have bF:dd=false:=by rw[be.o];simpa using hlf
  subst bF;have aU:ES D sb s:=j.o.c.y (K2.o.u sb (j.o.b sb (.w I)).2 (λe=>((j.o.o C Hf.o).ap sb (.w e)).1 I));have k2:D.cell? (O sb 2)=some (.slice s.g.1 s.g.2.1 s.g.2.2):=aU.cell 2;have z2:D.frozen? (O sb 2)=false:=aU.frozen 2;obtain⟨V3,aG⟩:=E (D.setCell (O sb 2) (.slice l t A));have aA:ES V3 sb {s with g:=(l,t,A)}:=by rw[aG];exact aU.OI (l,t,A)
  have k3:V3.cell? (O sb 3)=some (.slice s.a.1 s.a.2.1 s.a.2.2):=aA.cell 3;have aY:Hid (V3.ownsRow 0 26 1 (.slice s.a.1 s.a.2.1 s.a.2.2) d.ms.length (d.ms.map λy=>sl y.1)):=J (by refine MF j.o.a.1 (λk hk=>?_);have bH:=(j.o.b k (.s (.s (.s (.s (.s hk)))))).2;rw[aG];exact((MR D sb 2 (.slice l t A)).u k (Dz K2.o.size) (λe=>VA j.o.c j.o.a (hk.i (by congr 1;omega)))).i (K2.o.u k bH (λe=>(j.o.r k hk).2.2 C Hf.o (.w e))))
  have ad:Hid (∀v L (r:Z),r.ownsRow 0 26 1 (.b v (d.ms.length+1) L) (d.ms.length+1) ((d.ms.map λy=>sl y.1)++[.slice l t A])->(V3.alloc (.cells #[.slice l t A] 26)).grownBy r (Value.slice s.a.1 s.a.2.1 s.a.2.2).ownBlock->((Value.slice s.a.1 s.a.2.1 s.a.2.2).ownBlock=some v\/v=V3.heap.size+1)->v<r.heap.size->ES r sb {s with g:=(l,t,A)}/\Calls prog 102 #[.c sb] (r.setCell (O sb 3) (.b v (d.ms.length+1) L)) λe w'=>e=.a (.bool true)/\E9 u w sb R s d (n+2) w'):=J (λv L r a1 a2 a3 a4=>by
   obtain⟨aI,R',c1,c2,c3,c4,c5⟩:=j.o.YG (y:=(l,t,A)) Hf.o k1.o K2.o ht S (by rw[S]at G |-;exact G) o3 aG a1 a2 a3 a4 I;have an:ML f:=by obtain⟨m,hm⟩:=a7.o;exact a7.o.y (K2.o.u 0 (j.o.q 0 am) (λe=>(j.o.b 0 (.s (.s (.s (.s (.w ⟨C,Hf.o,.w e⟩)))))).1 am)).A
   refine⟨aI,(Ur c1 (an.y (j.o.stays c5 0 am)) U Hf.o).l ?_⟩;rintro e w' ⟨rfl,z⟩;exact⟨I,av.o w' (E9.i j.o c2 c3 c4 c5 z.step)⟩)
  change Hid _ at aG;obtain⟨i0,bf,b3,b0,bb⟩:=An gd;have ax:Hid (d.ms.length<=n+1):=aL;obtain⟨m1,an⟩:=E s.a.1;obtain⟨m2,aH⟩:=E s.a.2.1;obtain⟨m3,aC⟩:=E s.a.2.2;rw[<-an,<-aH,<-aC]at k3 aY ad;obtain⟨Nm,aE⟩:=E d.ms.length;rw[<-aE]at aY ad ax;have b4:Nm<=3000001:=Dz ax.o;clear aU aA k1 K2 a7 HO j av S G o3 ht an aH aC aE am aL;go_wp2_with (first
   | (rw[<-aG.o])
   | (at_builtin;refine wpList_append_lies _ I (.tmp 63) (.tmp 65) 54 I 0 26 i0 _ 1 24 underlying54 bf b3 b0 bb I EB (.slice m1 m2 m3) Nm _ I (aY.o.alloc _) ⟨V3.heap.size,0,none⟩ 1 1 [.slice l t A] I I (B9 _ _ _) (by intro u hu;simp at hu;subst hu;rfl) U Fs U (AW _) (V3.heap.size+1) EJ ?_)
   |fail)
  intro v L r ag aa aF aB;obtain⟨aI,bg⟩:=ad.o v L r ag aa aF aB;have k4:r.cell? (O sb 3)=some (.slice s.a.1 s.a.2.1 s.a.2.2):=aI.cell 3;have z4:r.frozen? (O sb 3)=false:=aI.frozen 3;have T4:=J bg;clear aI bg ad ag aa aF aB aY k3 k2 z2;go_wp2_with fail;refine T4.o.l ?_;rintro e w6 ⟨rfl,z⟩;change Hid _ at z;clear T4;go_wp2_with fail;go_ret;exact⟨I,z.o⟩
 subst Q hE;obtain⟨ht,-⟩:=au.o I;obtain⟨S,G,o3⟩:=HO.o I;have b7:Nz R1 l (Eg B).length:=jr (y:=(l,t,A)) G o3;have bz:Eh f l (Eg B):=by rw[<-KW]at G;obtain⟨a,c,e,h2⟩:=Oq G;simp only[Cw]at e;rw[e.1];exact h2
 obtain⟨R2,c1,c2,c3,c4,c5⟩:=j.o.US Hf.o k1.o K2.o;have ah:=bz.b b7 (j.o.stays c5);have aZ:=ht.a;have RF:=J (lB D sb s d.h d.g d.L q.m l A (Eg B) x' (.s hx9) c1.c c1.wf c1.j c1.g c1.ap.1 ah (Dz aZ.len) (λy hy=>by exact Dz ((NR (aZ.ok y hy)).p)) (λy hy=>by exact Dz ((NR (aZ.ok y hy)).d)));rw[hrf,KW,<-S]at RF;have ar:=J c1;have bs:Hid (∀w',E9 u D sb R2 s {d with m:=q.m,M:=q} (n+2) w'->E9 u w sb R s d (n+2) w'):=J (λw' z=>av.o w' (E9.i j.o c2 c3 c4 c5 z));have aP:=J ah;have ai:Hid (Nz R2 l (Eg B).length):=J (λb off e h0=>c2 b (b7 b off e h0));have bG:=c2 0 am;have bL:=J S;have aD:(Eg B).length<=1000:=by rw[KW];exact Dz ht.len
 have bB:t=(Eg B).length:=by rw[KW];exact S
 change Hid _ at bB aD;clear c1 c2 c3 c4 c5 ah b7 bz S G o3 HO hrf k1 K2 j av aZ am ht au;obtain⟨i0,bf,b3,b0,bb⟩:=An gd;rcases hx9 with rfl|rfl;all_goals
  go_wp2_with fail;refine RF.o.l ?_;rintro e w3 ⟨rfl,aA,bm⟩;obtain⟨R3,e1,e2,e3,e4,e5⟩:=ar.o.Uh aA bm (λe=>by unfold Ks;rw[(ar.o.e e).1];rfl);have T3:=J (Ur e1 (a7.o.y (ar.o.stays e5 0 bG)) U Hf.o);have bi:Hid (∀w',E9 u w3 sb R3 {s with free:=Ks s q.m} {d with m:=q.m,M:=q} (n+2) w'->E9 u w sb R s d (n+2) w'):=J (λw' z=>bs.o w' (E9.i ar.o e2 e3 e4 e5 z));have aN:=J (aP.o.b ai.o (ar.o.stays e5));have aj:Hid (Nz R3 l (Eg B).length):=J (λb off e h0=>e2 b (ai.o b off e h0));change Hid _ at e1;clear aA bm e2 e3 e4 e5 RF aP ai ar bs a7;go_wp2_with fail;refine T3.o.l ?_;rintro e r ⟨rfl,xl,es',R4,f1,f2,f3,f4,f5⟩;have b9:Hid (∀w',E9 u r sb R4 {s with free:=Ks s q.m,d:=xl} {d with m:=q.m,M:=q,es:=d.es++es',j:=d.j+1} (n+2) w'->E9 u w sb R s d (n+2) w'):=J (λw' z=>bi.o w' (E9.i e1.o f2 f3 f4 f5 z));have aJ:=J (aN.o.b aj.o (e1.o.stays f5));have aQ:Hid (Nz R4 l (Eg B).length):=J (λb off e h0=>f2 b (aj.o b off e h0));have D4:=J (Y.Er r d.h d.g s.c d.L q.m f1.j);have k0:r.cell? (O sb 0)=some (.c cb):=by rw[GU.o];exact f1.c.cell 0
  rw[<-GU.o]at D4;have aX:=J f1;obtain⟨gone,bx⟩:=E ((q.m.b==0));rw[<-bx]at D4;have k3:r.cell? (O sb 3)=some (.slice s.a.1 s.a.2.1 s.a.2.2):=f1.c.cell 3;clear f1 f2 f3 f4 f5 bx T3 aN aj e1 bi;go_wp2_with fail;refine Jj D4.o ?_;clear D4;cases gone<;>cases dd;all_goals first
   | (go_wp2_with fail
      go_ret;exact⟨I,b9.o _ (E9.refl aX.o)⟩)
   |skip
 have aM:=J aX.o.a.1;have ad:Hid (∀v L (w5:Z),w5.ownsRow 0 26 1 (.b v (d.ms.length+1) L) (d.ms.length+1) ((d.ms.map λy=>sl y.1)++[.slice l t A])->(r.alloc (.cells #[.slice l t A] 26)).grownBy w5 (Value.slice s.a.1 s.a.2.1 s.a.2.2).ownBlock->((Value.slice s.a.1 s.a.2.1 s.a.2.2).ownBlock=some v\/v=r.heap.size+1)->v<w5.heap.size->ES w5 sb {s with free:=Ks s q.m,d:=xl}/\E9 u w sb R s d (n+2) (w5.setCell (O sb 3) (.b v (d.ms.length+1) L))):=J (λv L w5 a1 a2 a3 a4=>by obtain⟨aK,aW⟩:=aX.o.more (y:=(l,t,A)) Hf.o (by have:=aL.o;show d.ms.length<=_;omega) bB.o aD.o aJ.o aQ.o a1 a2 a3 a4 I;exact⟨aK,b9.o _ aW⟩)
 have ax:Hid (d.ms.length<=n+1):=aL;obtain⟨m1,an⟩:=E s.a.1;obtain⟨m2,aH⟩:=E s.a.2.1;obtain⟨m3,aC⟩:=E s.a.2.2;dsimp only at aM;rw[<-an,<-aH,<-aC]at k3 aM ad;obtain⟨Nm,aE⟩:=E d.ms.length;rw[<-aE]at aM ad ax;have b4:Nm<=3000001:=Dz ax.o;clear aX b9 aJ aQ an aH aC aE aL k0;go_wp2_with (first
  | (at_builtin;refine wpList_append_lies _ I (.tmp 100) (.tmp 102) 54 I 0 26 i0 _ 1 24 underlying54 bf b3 b0 bb I EB (.slice m1 m2 m3) Nm _ I (aM.o.alloc _) ⟨r.heap.size,0,none⟩ 1 1 [.slice l t A] I I (B9 _ _ _) (by intro u hu;simp at hu;subst hu;rfl) U Fs U (AW _) (r.heap.size+1) EJ ?_)
  |fail)
 intro v L w5 af ac aO ay;obtain⟨aK,aW⟩:=ad.o v L w5 af ac aO ay;have k5:w5.cell? (O sb 3)=some (.slice s.a.1 s.a.2.1 s.a.2.2):=aK.cell 3;have z5:w5.frozen? (O sb 3)=false:=aK.frozen 3;change Hid _ at aW;clear aK ad af ac aO ay aM k3;go_wp2_with fail;go_ret;exact⟨I,aW.o⟩
structure NF (w:Z) (R:Nat->Prop) (o:Ir) (l:List It):Prop where
 len:o.j.2.1=l.length
 nil:o.j.1=none->o.j=(none,0,0)
 FF:Eh w o.j.1 l
 b:Nz R o.j.1 l.length
 small:l.length<=1048576
 p:∀x∈l,x.c.length<=1048576
 d:∀x∈l,x.data.length<=1048576
 c:o.c.length<=1048576
 data:o.data.length<=1048576
 dst:o.dst.length<=1048576
 a:o.a<=9223372036854775807
 b1:-9223372036854775808<=o.b
 b2:o.b<=9223372036854775807
theorem vZ{u:Bs->Option Bs}(Q:Ge u){w:Z}{z:Nat}{R:Nat->Prop}{s:Sv}{d:Sd}{n:Nat}(h:E0 u w z R s d n)(S:R 0)(x:ML w)(H:n<=3000000)(o:Ir)(l:List It)(c:NF w R o l):Calls prog 31 #[.c z,NI o] w λe w'=>e=.a (.bool true)/\E9 u w z R s d (n+2) w':=by
 obtain⟨W,G⟩:=E (w.alloc (.cells o.arr 65));have D:Below w.heap.size w W:=by rw[G];exact(AP _ w).alloc (AB _) _
 obtain⟨g,T⟩:=E w.heap.size;have r:∀k,W.cell? (O g k)=o.arr[k]? := λk=>by rw[G,T];exact SC w _ k
 have v:=h.f D;have y:=x.f D x.lt;have B:=J (sW Q v y H o l c.len c.nil (c.FF.f D) c.b c.small c.p c.d);have M:=J (xI Q v y H);have P:=J (λV=>qI v o V c.b1 c.b2 c.data);have A:=J (λt (j:s.f=some t)=>mX v y U j o c.c);have C:=J (λt (j:s.f=some t) N a=>mw Q v S y H j o N a c.c c.dst c.data c.a);have Q:=J (λt (j:s.f=some t)=>ql v y H j);have c1:W.cell? (O z 1)=some (.pointer (s.f.map λb=>⟨b,0,none⟩)):=v.c.cell 1;have m:Hid (∀w' k,k<=n+2->E9 u W z R s d k w'->E9 u w z R s d (n+2) w'):=J (λw' k V a=>E9.of_below h D (a.later V));have K:=J (E9.refl v);obtain⟨f,⟨H,L,S⟩,F,V,i,q,a,z⟩:=o;have p:W.cell? (O g 0)=some (.a f):=r 0;have p:W.cell? (O g 1)=some (.slice H L S):=r 1;have p:W.cell? (O g 2)=some (.string (X F)):=r 2;have p:W.cell? (O g 3)=some (.string (X V)):=r 3;have p:W.cell? (O g 4)=some (.string (X i)):=r 4;have p:W.cell? (O g 5)=some (.a q):=r 5;have p:W.cell? (O g 6)=some (.a a):=r 6;have p:W.cell? (O g 7)=some (.bool z):=r 7;have p:Hid (W=w.alloc (.cells #[.a f,.slice H L S,.string (X F),.string (X V),.string (X i),.a q,.a a,.bool z] 65)):=J G;have q:=J T;unfold NI Ir.arr at *;dsimp only at *;clear h v x y G D r T c;go_enter func31,ntmps31;by_cases y:f=11
 .subst y;go_wp2_with rw[<-p.o,<-q.o];refine B.o.l ?_;rintro e F ⟨rfl,a⟩;have i:=J (m.o _ _ U a);clear a B;go_wp2_with fail;go_ret;exact⟨I,i.o⟩
 by_cases D:f=12
 .subst D;go_wp2_with rw[<-p.o,<-q.o];refine M.o.l ?_;rintro e F ⟨rfl,a⟩;have i:=J (m.o _ _ U a);clear a M;go_wp2_with fail;go_ret;exact⟨I,i.o⟩
 by_cases L:14<=f/\f<=17
 .have c:=J (P.o L);obtain⟨r,L⟩:=L;go_wp2_with rw[<-p.o,<-q.o];refine c.o.l ?_;rintro e F ⟨rfl,a⟩;have i:=J (m.o _ _ U a);clear a P c;go_wp2_with fail;go_ret;exact⟨I,i.o⟩
 clear B M P;cases j:s.f with
 |none=>
  rw[j]at c1;by_cases r:14<=f
  case' pos=>have c:¬f<=17:=U
  all_goals
   go_wp2_with rw[<-p.o,<-q.o];go_ret;exact⟨I,m.o _ _ U K.o⟩
 |some t=>
  rw[j]at c1;by_cases r:14<=f
  .have c:¬f<=17:=U;have x:(13:Int)<f:=U;have N:¬f<1:=U;go_wp2_with rw[<-p.o,<-q.o];go_ret;exact⟨I,m.o _ _ U K.o⟩
  have x:¬(13:Int)<f:=U;by_cases N:f<1
  .go_wp2_with rw[<-p.o,<-q.o];go_ret;exact⟨I,m.o _ _ U K.o⟩
  by_cases v:f=13
  .subst v;have c:=J (Q.o t j);go_wp2_with rw[<-p.o,<-q.o];refine c.o.l ?_;rintro e F ⟨rfl,a⟩;have i:=J (m.o _ _ U a);clear a c;go_wp2_with fail;go_ret;exact⟨I,i.o⟩
  by_cases G:8<=f
  .have c:=J (A.o t j);clear A;go_wp2_with rw[<-p.o,<-q.o];refine c.o.l ?_;rintro e F ⟨rfl,a⟩;have i:=J (m.o _ _ U a);clear a c;go_wp2_with fail;go_ret;exact⟨I,i.o⟩
  have c:=J (C.o t j U U);clear C;go_wp2_with rw[<-p.o,<-q.o];refine c.o.l ?_;rintro e F ⟨rfl,a⟩;have i:=J (m.o _ _ U a);clear a c;go_wp2_with fail;go_ret;exact⟨I,i.o⟩
variable {u:Bs->Option Bs} {w' w:Z} {z0 sb n sa:Nat} {RA RB:Nat->Prop} {A B:Sv} {dA dB:Sd}
def X0(lo hi:Nat)(L:Y.Loc)(m:Y.M):Sd:=⟨lo,hi,L,m,[],⟨0,lo,hi,lo,0,L,⟨0,0,none⟩,none,none,0,0,m,λ_=>false,λ_=>false,0,0⟩,[],[],[],0,0⟩
theorem lf{b c:Nat}{L:Y.Loc}{d f:Int}{z:Nat->Int}(v:z0<=b)(p:0<z0)(q:c<=sb)(r:sb<w'.heap.size)(m:b<=c)(j:Y.CP w' b c b L (Y.ME d f n z))(o:ES w' sb (Tv b (Y.ER (Y.ME d f n z)))) :
 E0 u w' sb (λk=>k<z0) (Tv b (Y.ER (Y.ME d f n z))) (X0 b c L (Y.ME d f n z)) 0 where
 c:=o
 j:=j
 wf:=Y.OJ _ _ _ _
 g:=by show c<=_;omega
 h:=by show 0<b;omega
 o:=λ_ l=>by cases l
 a:=⟨⟨I,.w ⟨I,I⟩⟩,λy h=>by cases h⟩
 t:=λy h=>by cases h
 li:=⟨⟨I,.w ⟨I,I⟩⟩,λi e g=>by simp[X0]at g⟩
 x:=⟨⟨I,.w ⟨I,I⟩⟩,λi e g=>by simp[X0]at g⟩
 v:=⟨I,AB _⟩
 tk:=⟨I,AB _⟩
 z:=AW _
 b:=λk a=>by
  rcases a with a|a|a|a|⟨_,a,_⟩|a
  .exact⟨by omega,by omega⟩
  .have s:b<=k:=a.1;have t:k<c:=a.2;exact⟨by omega,by omega⟩
  all_goals cases a
 ap:=⟨by show ¬(b<=sb/\sb<c);omega,(λk a=>by cases a),(λk a=>by cases a)⟩
 m:=AB _
 p:=λ_=>Y.KN.new (λ_ _=>rfl)
 e:=λe=>by cases e
 find:=λe=>by cases e
 q:=λk a=>by omega
 r:=λk a=>by cases a
structure RG (u:Bs->Option Bs) (w:Z) (z0 sa sb:Nat) (RA RB:Nat->Prop) (A B:Sv) (dA dB:Sd) (n:Nat):Prop where
 a:E0 u w sa RA A dA n
 b:E0 u w sb RB B dB n
 ra:∀k,k<z0->RA k
 rb:∀k,k<z0->RB k
 ab:∀k,Mu sa A dA k->¬RB k/\¬Mu sb B dB k
 ba:∀k,Mu sb B dB k->¬RA k
theorem RG.swap(h:RG u w z0 sa sb RA RB A B dA dB n):RG u w z0 sb sa RB RA B A dB dA n:=
 ⟨h.b,h.a,h.rb,h.ra,λk a=>⟨h.ba k a,λe=>(h.ab k e).2 a⟩,λk a=>(h.ab k a).1⟩
def KV(u:Bs->Option Bs)(w:Z)(z0 sa sb n:Nat):Prop:=∃RA RB A B dA dB,RG u w z0 sa sb RA RB A B dA dB n
theorem KV.swap(h:KV u w z0 sa sb n):KV u w z0 sb sa n:=by obtain⟨a,b,A,B,c,d,h⟩:=h;exact⟨b,a,B,A,d,c,h.swap⟩
theorem RG.f(h:RG u w z0 sa sb RA RB A B dA dB n)(a:Below w.heap.size w w'):RG u w' z0 sa sb RA RB A B dA dB n:=
 ⟨h.a.f a,h.b.f a,h.ra,h.rb,h.ab,h.ba⟩
theorem KV.f(h:KV u w z0 sa sb n)(e:Below w.heap.size w w'):KV u w' z0 sa sb n:=by obtain⟨a,b,A,B,c,d,h⟩:=h;exact⟨a,b,A,B,c,d,h.f e⟩
theorem RG.step(h:RG u w z0 sa sb RA RB A B dA dB n)(q:z0<=w.heap.size)(o:E9 u w sa RA A dA (n+2) w'):KV u w' z0 sa sb (n+2)/\Below z0 w w':=by
 obtain⟨d,f,g,i,j,l,m,b⟩:=o;refine⟨⟨g,RB,d,B,f,dB,i,(h.b.d b.size (λk a=>b.u k ?_ (λe=>?_))).later U,λk a=>j k (h.ra k a),h.rb,λk a=>?_,λk a c=>?_⟩,⟨b.os,b.tape,b.output,b.size,λk a=>b.u k U (λe=>(h.a.b k e).1 (h.ra k a))⟩⟩
 .exact a.elim (λe=>(h.b.b k e).2) (λe=>h.b.q k e)
 .exact a.elim (λe2=>(h.ab k e).2 e2) (λe2=>(h.ab k e).1 e2)
 .rcases m k a with e|e
  .exact h.ab k e
  exact⟨λc=>by have:=h.b.q k c;omega,λp=>by exact Dz ((h.b.b k p).2)⟩
 rcases l k c with e|e
 .exact h.ba k a e
 exact Dz ((h.b.b k a).2)
theorem xV{b j:Z}{c e:Nat}{q r:Y.Loc}{f h g i:Int}{m n:Nat}{o p:Nat->Int}(G:z0<=w.heap.size)(l:0<z0) (s:c<=sa) (t:sa<b.heap.size) (a3:Y.CP b w.heap.size c w.heap.size q (Y.ME f h m o)) (a4:ES b sa (Tv w.heap.size (Y.ER (Y.ME f h m o)))) (a5:Below w.heap.size w b) (v:w.heap.size<=c) (x:e<=sb) (y:sb<j.heap.size) (z:Y.CP j b.heap.size e b.heap.size r (Y.ME g i n p)) (C:ES j sb (Tv b.heap.size (Y.ER (Y.ME g i n p)))) (D:Below b.heap.size b j) (F:b.heap.size<=e):KV u j z0 sa sb 0:=by
 have K:=a5.size;have A:=(lf (u:=u) G l s t v a3 a4).f D;have B:=lf (u:=u) (z0:=z0) U l x y F z C;refine⟨_,_,_,_,_,_,A,B,λk a=>a,λk a=>a,λk a=>⟨(A.b k a).1,λd=>?_⟩,λk a=>(B.b k a).1⟩;have H:k<b.heap.size:=by
  rcases a with a|a|a|a|⟨_,a,_⟩|a
  .omega
  .have:k<c:=a.2;omega
  all_goals cases a
 rcases d with d|d|d|d|⟨_,d,_⟩|d
 .omega
 .have:b.heap.size<=k:=d.1;omega
 all_goals cases d
theorem NF.of_below{R:Nat->Prop}{o:Ir}{l:List It}(h:NF w (λk=>k<z0) o l)(g:Below z0 w w')(f:∀k,k<z0->R k):NF w' R o l:=
 ⟨h.len,h.nil,h.FF.only (λb a e c=>g.u b (h.b b a e (Bl.2 c))),λb a e d=>f b (h.b b a e d),h.small,h.p,h.d,h.c,h.data,h.dst,h.a,h.b1,h.b2⟩
theorem KV.steps(f:Ge u){c:Z}(h:KV u w z0 sa sb n)(m:z0<=w.heap.size)(d:0<z0)(a:ML w)(i:n<=3000000)(g:Below z0 c w)(o:Ir)(l:List It)(j:NF c (λk=>k<z0) o l):Calls prog 31 #[.c sa,NI o] w λe w'=>e=.a (.bool true)/\KV u w' z0 sa sb (n+2)/\Below z0 w w':=by obtain⟨_,_,_,_,_,_,h⟩:=h;exact(vZ f h.a (h.ra 0 d) a i o l (j.of_below g h.ra)).l (λe w' b=>⟨b.1,h.step m b.2⟩)
theorem KV.looks(h:KV u w z0 sa sb n)(c:n<=100000001):Calls prog 32 #[.c sa] w λe w'=>e=.a (.bool true)/\Below w.heap.size w w':=by obtain⟨b,_,A,_,a,_,h⟩:=h;exact ml w sa A b a.es a.b h.a.c h.a.li h.a.x (Dz h.a.v) (Dz h.a.tk)
end
namespace Y
open Go.RowKit Pk
open Go.Nt
variable {bd:Nat->Bool} {m:M}
def Qt(bd:Nat->Bool)(m:M):Prop:=m.b = -1/\m.fail<0/\m.e=bd
theorem Qt.prog(h:Qt bd m)(b p:Nat)(x:Du)(g:WF m):Qt bd (El m b p x).2:=by obtain⟨a,d,f⟩:=h;have i:=(XM d).1;rcases Qv m b p x g with⟨_,_,_,_,_,_,_,e⟩|⟨_,e|⟨e,_⟩|⟨_,_,_,_,_,c,_,⟨e,_⟩|⟨e,_⟩⟩⟩;all_goals first|omega|(rw[e];first|exact⟨a,d,f⟩|exact⟨ke a,show(tick m).fail<0 by omega,f⟩)
theorem Qt.era(h:Qt bd m)(b:Nat):Qt bd (FC m b).2:=by obtain⟨a,c,d⟩:=h;have f:=(XM c).1;rcases UC m b with⟨_,_,_,_,e⟩|⟨_,⟨e,_⟩|⟨e,_⟩|⟨_,_,⟨e,_⟩|⟨⟨_,e⟩,_⟩⟩⟩;all_goals first|omega|(rw[e];first|exact⟨a,c,d⟩|exact⟨ke a,show(tick m).fail<0 by omega,d⟩)
theorem Qt.lay{K:Nat->Bool}{s:LS}(h:Qt bd s.m)(a:WF s.m):Qt bd (F4 K s).m:=jA (λm b p x a h=>h.prog b p x a) (λm b a h=>h.era b) K s a h
theorem Qt.E4{a:Nat->Bool}{m:M}(h:Qt a m):∀k,Qt a (E4 m k).1
 |0=>h
 |k+1=>by rw[Y.E4];exact(Qt.E4 h k).era k
theorem Qt.renew(h:Qt bd m)(a:WF m)(t:Du):Qt bd (Fe m t).2:=by
 unfold Fe;split
 .exact h
 split
 .exact h.E4 _
 exact Qt.lay (s:=⟨_,_,_,_,_,_⟩) (h.E4 _) (WJ a _)
end Y
section
open Go.RowKit Go.Nt
theorem yX{u:Bs->Option Bs}{w w':Z}{j:Nat}{M:Mt}{l f:List It}{e:Ending}{N:Nat}(h:Mq u w j M l f 0 e w')(R:Ll w j M l)(m:Qg M)(W:EX l)(a:EX f)(D:PC u w M l (Y.ER M.m) N)(T:N+800<2147483648)(v:M.m.b = -1)(V:M.m.fail<0)(b:∀t,Fu u (Eg f) t->EK t.length<=Y.F5 M.m):e=.a (.a 0)/\Y.Fm (Lm j M.a M.h M.g M.d M.j M.e) w w'/\∃M',Ll w' j M' f/\M'.f=M.f/\M'.m.b = -1/\Finds u M'.m (Eg f):=by
 obtain⟨C,k⟩:=h;have n:Y.WF M.m:=(II.h R).wf;have B:M.m.b≠0:=by rw[v];decide
 rcases k with⟨_,c,F,A,_⟩|⟨_,_,i,p,q⟩|⟨_,A,t,S,i,p,q,G,k⟩
 .rcases F with⟨K,_⟩|⟨_,L,_⟩|⟨_,_,t,P,s,_⟩
  .exact absurd I K
  .exact absurd L B
  unfold Y.F3 at s;rw[AC B,AC (Dz (b t P))]at s;exact absurd I s
 .obtain⟨t,q1,q2⟩:=D.Xy;exact⟨p,C,M,q,I,v,Finds.laid q1 n (by rw[jk W a i];exact q2) a⟩
 obtain⟨z,o⟩:=E (Y.IF M.m M.lv S M.K M.Q M.b M.p t);obtain⟨_,_,q3,q4,_⟩:=gY D n m (AB _) T A a i p q G z o;obtain⟨⟨_,Q⟩,_,_⟩:=Ub n m.c m.b m.p (Y.Gg (Y.ER M.m) (Y.Gr M.m M.lv S) t) z o;have x:Y.Qt M.m.e z.m:=by rw[o];exact Y.Qt.lay (s:=⟨Ej (Y.ER M.m) (Y.Gr M.m M.lv S) t,M.m,M.Q,M.b,M.p,λ_=>false⟩) ⟨v,V,I⟩ n
 rw[<-o]at k;rcases k with⟨b,y,g,r,H,_,_,_,d⟩|⟨c,r,_⟩
 .exact⟨H,C,{M with lv:=⟨Y.ER M.m,Y.Gr M.m M.lv S,some g⟩,j:=some b,c:=y,m:=z.m,K:=z.S,Q:=z.Q,b:=z.b,p:=z.p},d,I,x.1,Finds.laid (q3 r).1 (II.h d).wf i a⟩
 exact absurd ((q4 r).2 (Y.MN Q.a x.2.2)).2 (by rw[x.1];decide)
def NA:It:=⟨[102],false,[120],7,8⟩
theorem UB:EX [NA]:=(Pu _).1 (by decide +kernel)
theorem fO:Eg [NA]=[NA]:=List.perm_singleton.1 (MQ [NA])
theorem VP:Y.F5 (Y.ME 8 8 0 (λ_=>0))=32:=EB
def Q6:List It:=QG [NA] 1 [103] [] [121] 0 0
theorem ug:QB [NA] 1 [103] [] [121] 0 0=0/\Ek Q6=true/\GF Q6<=100/\FQ Q6 [103]=0/\(FU Q6 [103]).data=[121]:=by decide +kernel
theorem OQ.found{u:Bs->Option Bs}{m:Y.M}{d z i:Nat}{L:Y.Loc}{w:Z}{e:Ending}{w':Z}{t:List It}(h:OQ u (Y.Fq m) m.d d w e w')(hF:Finds u m t)(H:Y.CP w z i d L m)(j:i<=w.heap.size)(y:Y.WF m):∃fb M a,e=.a (.tuple #[.c fb,.a 0])/\Ll w' fb M a/\Qg M/\M.f=d/\M.m=m/\EX a/\Eg a=t/\(∀k,J8 fb M k->(z<=k/\k<i)\/w.heap.size<=k)/\Below w.heap.size w w'/\∀E8 N,Y.KN u m E8 N->N<2147483648->∀V,PC u V M a E8 N:=by
 obtain⟨r,f,⟨D,_⟩|⟨C,x,b,a,o,p,n,q,B,P⟩⟩:=h
 .exact absurd (λx R=>D x (DR.1 R)) (hF r f).not
 obtain⟨fb,M,rfl,q1,q2,q3,q4,q5,_,c,A,l,G,_,F⟩:=P.o H j y B;refine⟨fb,M,a,I,q1,q2,q3,c,(Pu a).1 q,(JD.unique (hF r f) ⟨C,x,b,a,o,p,n,q,I⟩).A,λk Q=>(G k Q).1,F,λE8 N s K V=>?_⟩;obtain⟨t,c1,c2,c3,c4⟩:=KN.first s y K f o p n;exact⟨⟨t,by rw[c,l,A];exact c1,c2⟩,λg v=>(by rw[l]at v;cases v),by rw[c,A];exact c3,by rw[l];exact c4,by rw[c];exact s⟩
theorem qS{u:Bs->Option Bs}(hP:Ge u)(w:Z)(m:ML w):Calls prog 29 #[.bool true] w λe w'=>e=.a (.bool true)/\Below w.heap.size w w':=by
 have N1:=J (Y.Kk w 8 8 none 0 0 (λ_=>0) U (λh=>absurd h EB));obtain⟨a,be⟩:=E w.heap.size;rw[<-be]at N1 |-;have j:=J be;have cB:=J m;have cq:0<a:=by rw[be];exact m.lt
 clear m be;go_enter func29,ntmps29;go_wp2_with fail;refine N1.o.l ?_;rintro e n ⟨L1,bi,rfl,ax,bQ,bq⟩;have T:Y.WF (Y.ME 8 8 0 (λ_=>0)):=Y.OJ _ _ _ _;have ay:Y.Qt (Y.ME 8 8 0 (λ_=>0)).e (Y.ME 8 8 0 (λ_=>0)):=⟨I,by show(-1:Int)<0;decide,I⟩;have S:=VP;obtain⟨v,bZ⟩:=E (Y.ME 8 8 0 (λ_=>0));have aw:∀i q,(Y.ME 8 8 0 (λ_=>0)).c i q=[]:=λ_ _=>rfl;rw[<-bZ]at bQ T ay S aw;obtain⟨G,L⟩:=E n.heap.size;obtain⟨f,H⟩:=E (n.alloc (.cells #[.string (X [102]),.bool false,.string (X [120]),.a 7,.a 8] 39));have bg:Below n.heap.size n f:=by rw[H];exact(AP _ _).alloc (AB _) _
 have cc:F6 f G 0 NA:=by rw[H,L];exact P1 n NA
 have ad:Eh f (FH G) [NA]:=λ_=>⟨G,0,I,λk x g=>by
  cases k with
  |zero=>simp at g;subst g;exact cc
  |succ k=>simp at g⟩
 have am:Below a w f:=bq.i (bg.l (by have:=bq.size;rw[<-j.o]at this;exact this));have bS:=Y.EM.f bQ (B:=n.heap.size) ax bg;have aW:bi<=f.heap.size:=AG ax bg.size;have r:Hid (∀V,Below a w V->ML V):=J (λV hV=>cB.o.f hV cq);have B2:=J (Zh hP (FH G) 1 [NA] f a bi a L1 v T bS aW (r.o _ am) cq ad EB (λx g=>by simp at g;subst g;decide) (λx g=>by simp at g;subst g;decide));have cu:Hid (f=n.alloc (.cells #[.string {data:=#[102]},.bool false,.string {data:=#[120]},.a 7,.a 8] 39)):=J H;have HG:=J L;have b4:=J ad;have aG:=J am;have aA:=J T;have bx:=J ay;have cv:G<f.heap.size:=by rw[L,H];simp
 have cJ:bi<=G:=by rw[L];exact ax
 clear bQ bq bZ H bg cc ad am bS T ay L N1;go_wp2_with (first|(rw[<-cu.o,<-HG.o])|(rw[<-cu.o])|fail);refine B2.o.l ?_;rintro e y (⟨cf,_⟩|⟨_,t,M,rfl,bL,F⟩)
 .rw[(Pu _).2 UB]at cf;cases cf
 have bb:=UZ M;rw[jH]at bb;have cC:GF [NA]=18:=EB;have bj:=VO M;obtain⟨W,af,ae⟩:=bx.o.renew aA.o t;have bX:∀i q,v.c i q=[]:=aw;have aj:=(Y.KN.new (u:=u) (N:=1) bX);have a7:=aj.renew aA.o (AB _) (AB _) EB M UB bj;obtain⟨A,ac,aU,_,_,b6⟩:=aj.p.renew aA.o bj;have K:(Y.Fe v t).1=0/\Finds u (Y.Fe v t).2 [NA]:=by
  rcases b6 with⟨e,_,c,k,_,N⟩|⟨_,h|⟨i,_,h1,h2⟩⟩|⟨_,h⟩
  .have:=Finds.laid N A M UB;rw[fO]at this;exact⟨e,this⟩
  .rw[S]at h;unfold EK at h;omega
  .rw[ae,h1]at h2;cases h2
  rw[W]at h;cases h
 obtain⟨cl,aB⟩:=K;have ao:=Y.MN ac ae;rw[<-ao]at a7;have ar:Y.F5 (Y.Fe v t).2=32:=by unfold Y.F5 Y.FT;unfold Y.F5 Y.FT at S;rw[ao,ac,aU];exact S
 rw[cl];obtain⟨m3,bW⟩:=E ((Y.Fe v t).2);rw[<-bW]at A W af a7 aB ar bL;have cx:a<=f.heap.size:=by have:=aG.o.size;rw[<-j.o]at this;exact this
 have cy:Hid (Below a w y):=J (aG.o.i (F.f (AB _) cx));have b0:Hid (Eh y (FH G) [NA]):=J (b4.o.only (λb _ e _=>by cases e;exact F.u _ cv U));have C3:=J (Y.Lz y a bi a L1 m3 A bL (AG aW F.size));have cK:=F.size;have cj:a<=y.heap.size:=U;have cF:=J (show G<y.heap.size by omega);have a5:=J A;have aH:=J aB;have aR:=J a7;have aJ:=J ar;have av:=J W;have aN:=J af;clear cl bW bL F M B2 bb cC b4 A aB a7 ar W af ae ac aU ao aj bX aw bj;go_wp2_with fail;refine C3.o.l ?_;rintro e P ⟨L4,rfl,bh,B⟩;have aS:=J (b0.o.f B);obtain⟨x4,bR⟩:=E y.heap.size;rw[<-bR]at bh B cj cF |-;have bF:Hid (Below a w P):=J (cy.o.i (B.l cj));have M4:=J (OZ P x4 P.heap.size x4 L4 m3 a5.o bh (AB _) (by rw[av.o];decide) _ I (r.o _ bF.o) hP);have bA:a<=P.heap.size:=by have:=bF.o.size;rw[<-j.o]at this;exact this
 have cz:x4<=P.heap.size:=Dz B.size;have bT:=J bh;clear bh B bR C3 b0;go_wp2_with fail;refine M4.o.l ?_;rintro e Q ce;obtain⟨s,d,tl,rfl,bc,bY,aO,co,cw,b5,ci,bK,aZ⟩:=ce.found aH.o bT.o (AB _) a5.o;have bb:tl=[NA]:=by have:=MQ tl;rw[b5]at this;exact List.perm_singleton.1 this.A
 subst bb;have br:=J (aS.o.f bK);have bz:Hid (Below a w Q):=J (bF.o.i (bK.l bA));have bl:a<=Q.heap.size:=by have:=bz.o.size;rw[<-j.o]at this;exact this
 have T5:=J (Y7 Q s d.f d.d d.a [NA] (II.o bc) (II.j bc) UB (r.o _ bz.o));rw[fO]at T5;have bU:=J bc;have bP:=J bY;have bO:=J aO;have C:=J co;have aP:=J (aZ _ 1 aR.o EB);have bV:Hid (∀k,J8 s d k->a<=k):=J (λk hk=>(ci k hk).elim (λe=>by omega) (λe=>by omega));clear bc bY aO co aZ ci cw b5 bK ce M4 aS bT;go_wp2_with fail;refine T5.o.l ?_;rintro e w6 ⟨K,_,rfl,a9⟩;obtain⟨a6,c6,rfl,aV⟩:=Oq a9;have S6:=J (Io a6 (FH G) c6 1 [NA] [NA] w6 aV (br.o.f K) EB EB);rw[Bj I]at S6;have b3:=J K;clear K a9 aV T5;go_wp2_with fail;refine S6.o.l ?_;rintro e o ⟨rfl,q,cg⟩;have ag:Below Q.heap.size Q o:=by rw[cg];exact S3 b3.o q
 have l:Hid (Below a w o):=J (bz.o.i (ag.l bl));have bp:Ll o s d [NA]:=II.f bU.o ag;obtain⟨g1,g2,g3,g4,g5⟩:=ug;have cI:d.b<1000:=by have h1:=bP.o.b;have h2:=a5.o.a;rw[C.o]at h1;omega
 have P7:=J (l7 hP (k:=1) EB EB [103] [] [121] 0 0 bp UB (r.o _ l.o) (λe=>by exact Dz (bV.o 0 (.w e))) cI bP.o.p EB EB EB);rw[g1]at P7;have bI:EX Q6:=(Pu _).1 g2;have c8:Hid (∀e w',Mq u o s d [NA] Q6 0 e w'->e=.a (.a 0)/\Y.Fm (Lm s d.a d.h d.g d.d d.j d.e) o w'/\∃R,Ll w' s R Q6/\R.f=d.f/\R.m.b = -1/\Finds u R.m (Eg Q6)):=J (λe w' hc=>yX hc bp bP.o UB bI (by rw[C.o];exact aP.o o) EB (by rw[C.o];exact av.o) (by rw[C.o];exact aN.o) (λt ht=>by rw[C.o,aJ.o];have:=UZ ht;rw[jH]at this;unfold EK;omega))
 have cA:a<=o.heap.size:=by have:=l.o.size;rw[<-j.o]at this;exact this
 have Hr:Hid (FQ Q6 [103]=0/\(FU Q6 [103]).data=[121]):=J ⟨g4,g5⟩;have ca:=J bI;clear cg S6 ag bp g1 g2 g3 g4 g5 bI b3 bU aP aR aH aJ av aN a5;go_wp2_with fail;refine P7.o.l ?_;rintro e w8 ⟨⟨x8,rfl⟩,c9⟩;obtain⟨bD,p,z,bH,b7,az,b9⟩:=c8.o _ _ c9;have bD:x8=0:=EU bD;subst bD;have cs:Hid (Below a w w8):=J ⟨p.os.i l.o.os,p.tape.i l.o.tape,p.output.i l.o.output,AG l.o.size p.size,λk hk=>(p.u k U (λe=>by exact Dz (bV.o k (.w e)))).i (l.o.u k hk)⟩;have Y8:=J (fK bH);rw[AC (by rw[az];decide)]at Y8;have D:=II.h bH;have bs:=D.j;rw[b7,bO.o]at bs;have C8:=J (Y.Lz w8 z.h z.g x4 z.L z.m D.wf bs D.sz);have aY:=J D.wf;have bn:=J az;have bC:=J b9;have aF:a<=w8.heap.size:=by have:=cs.o.size;rw[<-j.o]at this;exact this
 clear c9 p bH b7 az b9 D bs P7 c8;go_wp2_with fail;refine Jj Y8.o ?_;clear Y8;go_wp2_with fail;refine C8.o.l ?_;rintro e w9 ⟨L9,rfl,bf,bJ⟩;obtain⟨x9,ct⟩:=E w8.heap.size;rw[<-ct]at bf bJ aF |-;have bN:Hid (Below a w w9):=J (cs.o.i (bJ.l aF));have M9:=J (OZ w9 x9 w9.heap.size x9 L9 z.m aY.o bf (AB _) (by rw[bn.o];decide) _ I (r.o _ bN.o) hP);have bB:a<=w9.heap.size:=by have:=bN.o.size;rw[<-j.o]at this;exact this
 have cm:=J bf;clear bf bJ ct C8;go_wp2_with fail;refine M9.o.l ?_;rintro e bG aI;obtain⟨cG,bE,cH,rfl,ah,-,-,-,an,aa,-,aX,-⟩:=aI.found bC.o cm.o (AB _) aY.o;have au:Hid (Below a w bG):=J (bN.o.i (aX.l bB));have bm:=J (fJ bG cG bE.f bE.d bE.a cH [103] (II.o ah) (II.j ah) (r.o _ au.o) EB);rw[<-(VQ an [103]).1,<-(VQ an [103]).2,aa,(VQ ca.o [103]).1,(VQ ca.o [103]).2,Hr.o.1,Hr.o.2]at bm;have bu:a<=bG.heap.size:=by have:=au.o.size;rw[<-j.o]at this;exact this
 clear ah an aa aX aI M9 cm;go_wp2_with fail;refine bm.o.l ?_;rintro e cE ⟨aQ,rfl⟩;have bM:Hid (Below a w cE):=J (au.o.i (aQ.l bu));clear aQ bm;go_wp2_with fail;go_ret;exact⟨AX (λb=>Ending.returned (.bool b)) (show((X [121]).toList==[121])=true by decide +kernel),bM.o⟩
end
end Go.Proofs.YtodmdkhdbfbfgaaGreatDoor
