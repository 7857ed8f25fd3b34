/- Lemmas. -/
import Derived.Test.YtodmdkhdbfbfgaaGreatDoorM08
set_option linter.unusedVariables false
set_option linter.unusedSimpArgs false
set_option maxRecDepth 100000
set_option maxHeartbeats 8000000
open Go.Proofs.Tryz
abbrev Go.DS:=@Go.run_string_add
abbrev Go.Ab:=@Bool.and_eq_true_iff
abbrev Go.Cb:=@Nat.le_succ_of_le
abbrev Go.Cw:=@Go.Value.slice.injEq
abbrev Go.DB:=@Nat.le_succ
namespace Go.Proofs.YtodmdkhdbfbfgaaGreatDoor
section
open Go.RowKit Go.Nt
def KU(k:Int)(p t d:Bs)(a c:Int):List Value:=[.a k,.string (X p),.string (X t),.string (X d),.a a,.a c]
def Nx(k:Int)(p t d:Bs)(a c:Int):Value:=.agg (KU k p t d a c).toArray
def IU(k:Int)(p t:Bs)(a c:Int):Bool:=EO p&&(if k=2\/k=3 then decide (0<=a)else if k=5 then Gu a&&Gt c else if k=7 then EO t else true)
theorem kinds{k:Int}(a:1<=k)(b:k<=7):k=1\/k=2\/k=3\/k=4\/k=5\/k=6\/k=7:=U
theorem xK(k:Int)(p t d:Bs)(a c:Int)(w:Z)(A:1<=k)(B:k<=7)(C:p.length<=1048576)(D:t.length<=1048576):Calls prog 160 #[Nx k p t d a c] w λe w'=>Below w.heap.size w w'/\e=.a (.bool (IU k p t a c)):=by
 obtain⟨W,h⟩:=E (w.alloc (.cells (KU k p t d a c).toArray 164));have j:=J (SU p W C);have i:=J (λV=>SU t V D);have s:=J (JK h);have F:=Ia h;have q:=Gi h;have m:=J h;unfold Nx;obtain⟨_,hF⟩:=E (IU k p t a c);rw[<-hF];unfold IU at hF;unfold KU at q m |-;generalize EO p=l at j hF;generalize EO t=z at i hF;obtain⟨g,o⟩:=E (X p);obtain⟨_,r⟩:∃g,g=X t:=⟨_,I⟩;obtain⟨_,x⟩:∃g,g=X d:=⟨_,I⟩;rw[<-o,<-r,<-x]at q m |-;rw[<-o]at j;rw[<-r]at i;have c1:=EV 1 q;have Q:=J q;have f:=J hF;clear h o r x q hF;go_enter func160,ntmps160;go_wp2_with rw[<-m.o];refine j.o.l ?_;rintro e _ ⟨n,v,rfl,_⟩;have q2:=(n.d w.heap.size).i Q.o;have b:=J (s.o.i n.b);have c0:=EV 0 q2;have d2:=EV 2 q2;have d4:=EV 4 q2;have d5:=EV 5 q2;clear n q2 Q s j c1;rcases kinds A B with rfl|rfl|rfl|rfl|rfl|rfl|rfl
 case inr.inr.inr.inr.inr.inr=>
  go_wp2_with fail;refine(i.o _).l ?_;rintro e _ ⟨u,v,rfl,_⟩;have y:=J (b.o.i (u.l b.o.size));clear u i;cases l<;>cases z;all_goals
   go_wp2;go_ret;exact⟨y.o,by rw[f.o];rfl⟩
 case inr.inr.inr.inr.inl=>
  cases l
  .go_wp2;go_ret;exact⟨b.o,by rw[f.o];rfl⟩
  by_cases e1:0<=a
  .by_cases e2:a<=4095
   .by_cases e3:0<=c
    .by_cases e4:c<=2147483647;all_goals
      go_wp2;go_ret;exact⟨b.o,by rw[f.o];simp[Gu,Gt,e1,e2,e3,e4]⟩
    go_wp2;go_ret;exact⟨b.o,by rw[f.o];simp[Gu,Gt]<;>omega⟩
   go_wp2;go_ret;exact⟨b.o,by rw[f.o];simp[Gu,Gt]<;>omega⟩
  go_wp2;go_ret;exact⟨b.o,by rw[f.o];simp[Gu,Gt]<;>omega⟩
 case inr.inl|inr.inr.inl=>
  cases l
  .go_wp2;go_ret;exact⟨b.o,by rw[f.o];rfl⟩
  by_cases e1:0<=a;all_goals
   go_wp2;go_ret;exact⟨b.o,by rw[f.o];simp[e1]⟩
 all_goals
  cases l;all_goals
   go_wp2;go_ret;exact⟨b.o,by rw[f.o];rfl⟩
variable {l:List It} {p q r:Bs} {ps:List Bs} {b g:Nat} {w w':Z}
def Lo(l:List It)(p q:Bs):Bool:=l.any λx=>Ft p x.c&&decide (6<(split (IQ p q x.c)).length)
def Jv(l:List It)(p q:Bs):Int:=if GJ l p q=0 then(if Lo l p q then 8 else 0)else GJ l p q
theorem Vz(h:GJ l p q=0):EO p=true/\EO q=true/\Et l p=0/\at? l q=none:=by
 unfold GJ at h;by_cases c:(EO p&&EO q)=true
 .rw[AD c]at h;rw[AV]at c;by_cases c1:Et l p=0
  .rw[AD c1]at h;by_cases c2:Ei l q=0
   .rw[AD c2]at h;cases a:at? l q with
    |none=>exact⟨c.1,c.2,c1,I⟩
    |some x=>rw[a]at h;simp at h
   rw[AC c2]at h;exact absurd h c2
  rw[AC c1]at h;exact absurd h c1
 rw[AC c]at h;cases h
structure S5 (l:List It) (p:Bs) (ps:List Bs):Prop where
 nd:ps.Nodup
 mem:∀r,r∈ps↔Ft p r=true/\∃x∈l,x.c=r
theorem Xd{c:List Bs}(g:(l.map (·.c)).Nodup){x:It}(f:at? l p=some x)(h:c.Perm ((l.map (·.c)).filter λq=>KJ q p)):S5 l p (p::c):=by
 have i:KJ p p=false:=by
  cases e:KJ p p with
  |false=>rfl
  |true=>exact absurd (GL.1 e).length_le EJ
 have d:∀r,r∈c↔(∃x∈l,x.c=r)/\KJ r p=true:=λr=>by rw[h.mem_iff,Ad,AZ]
 constructor
 .rw[Ct];exact⟨λe=>(by have:=((d p).1 e).2;rw[i]at this;cases this),h.nodup_iff.2 (g.filter _)⟩
 intro r;rw[Ax,d];unfold Ft;rw[Ce,BT];constructor
 .rintro(rfl|⟨a,b⟩)
  .exact⟨.w I,x,(Ji f).1,(Ji f).2⟩
  exact⟨.s b,a⟩
 rintro⟨rfl|b,a⟩
 .exact .w I
 exact .s ⟨a,b⟩
theorem mR(h:S5 l p ps):Lo l p q=ps.any λr=>decide (6<(split (IQ p q r)).length):=by
 unfold Lo;rw[CB,Ap,Ap];constructor
 .rintro⟨x,b,a⟩;rw[AV]at a;exact⟨x.c,(h.mem _).2 ⟨a.1,x,b,I⟩,a.2⟩
 rintro⟨r,d,a⟩;obtain⟨c,x,b,rfl⟩:=(h.mem r).1 d;exact⟨x,b,by rw[AV];exact⟨c,a⟩⟩
theorem F0.PX(h:S5 l p ps)(a:EH w' b (l.map (Kf p q ps)))(c:FL b w w'):F0 b l (Im l p q) 0 w (.a (.a 0)) w':=
 ⟨I,c,by rw[AD I,<-iB (ds:=ps) (λx d=>⟨λe=>((h.mem _).1 e).1,λe=>(h.mem _).2 ⟨e,x,d,I⟩⟩)];exact a⟩
theorem rS(l:List It)(p q:Bs):l.map (Kf p q [])=l:=(BO λ_ _=>by simp[Kf]).i (List.map_id _)
theorem Xf(h:p.length<=r.length):X q++(X r).extract (X p).size (X r).size=X (IQ p q r):=by rw[EF,Ka,EF,AT EJ];apply DZ;simp[X,IQ]
def PE(w:Z)(g b:Nat)(ps:List Bs):Prop:=g≠b/\g<w.heap.size/\∃cur,w.heap[g]?=some (.cells cur 9 (0,0))/\∀(k:Nat) r,ps[k]?=some r->cur[k]?=some (Value.string (X r))
theorem PE.cell(h:PE w g b ps){k:Nat}(d:ps[k]?=some r):w.cell? (O g k)=some (.string (X r)):=by obtain⟨_,_,_,a,c⟩:=h;rw[AU w g k _ 9 (0,0) a,c k r d]
theorem PE.turn(h:PE w g b ps)(c:FL b w w'):PE w' g b ps:=by obtain⟨a,d,e,f,i⟩:=h;exact⟨a,AQ d c.size,e,(c.u g d a).i f,i⟩
theorem ZH{B n cap:Nat}(f:EH w b l)(h:w.ownsRow B 9 1 (.b g n cap) n (sv ps))(p:0<n):PE w g b ps:=by
 obtain⟨_,⟨_,_,i,_⟩,_⟩:=f;rcases h.2 with⟨_,_⟩|⟨_,_,c,e,_,a,_,_,_,m⟩
 .omega
 cases e;refine⟨λe=>(by rw[e,i]at a;cases a),(BC.1 a).1,c,a,λk r d=>?_⟩;have o:=(AN.1 d).1;have j:=h.1;rw[rK]at j;have:(sv ps)[k]?=some (.string (X r)):=by unfold sv;rw[BI,d];rfl
 rw[<-m,Aq U]at this;simpa using this
theorem wR(b:Nat)(l:List It)(p q:Bs)(w:Z)(hT:EH w b l)(ht:EX l)(L:ML w)(hp:p.length<=1048576)(hq:q.length<=1048576):Calls prog 222 #[.e b,.string (X p),.string (X q)] w λe w'=>F0 b l (Im l p q) (Jv l p q) w e w':=by
 have ao:=hT.lt;have aE:=ht.nodup;have aQ:=ht.len;have u:∀x∈l,x.c.length<=255:=λx f=>(NR (ht.ok x f)).p;have B:=J (yZ b l p q w hT L hp hq);have HF:=J (λW (h:EH W b l)=>eR b l p W h aE U hp (λx f=>AG (u x f) U));have N:=J hT;obtain⟨F,hF⟩:=E (Jv l p q);rw[<-hF];unfold Jv at hF;obtain⟨z0E,hE⟩:=E (GJ l p q);obtain⟨d,hX⟩:=E (X p);obtain⟨t,hY⟩:∃d,d=X q:=⟨_,I⟩;have HE:=J hE;have P:=J hX;have Q:=J hY;rw[<-hE]at B hF;rw[<-hX]at B HF |-;rw[<-hY]at B |-;have am:=J hF;clear hX hY hT L hE hF;go_enter func222,ntmps222;go_wp2_with fail;refine B.o.l ?_;rintro e w1 ⟨aB,rfl⟩;have S:=J aB;clear aB B;by_cases h0:z0E=0
 .subst h0;have hF:=am.o;rw[AD I]at hF;obtain⟨k1,k2,k3,k4⟩:=Vz HE.o.A;obtain⟨x0,k5,_⟩:=TR k3;have aP:=VX k2;have aw:q≠[]:=λe=>by rw[e]at k2;cases k2
  have HO:=J (ht.mv (p:=p) aw k4);go_wp2_with fail;refine(HF.o w1 (N.o.f S.o ao)).l ?_;rintro e w2 ⟨v,qs,rfl,D,a4,ay⟩;obtain⟨g,cap,rfl⟩:=Qa D;obtain⟨o,aj⟩:=E (p::qs);obtain⟨n,hn⟩:=E (qs.length+1);have au:o.length=n:=by rw[aj,hn];rfl
  have K:=Xd aE k5 a4;rw[<-aj]at K D;rw[<-hn]at D |-;have T:=J (S.o.i (ay.l S.o.size));have an:=J (N.o.f T.o ao);have HP:=J (ZH an.o D U);have HV:=J K;have aH:n<=61:=by rw[hn,a4.length_eq];have:=C0 (λq=>KJ q p) (l.map (·.c));simp at this;omega
  have HR:Hid (∀k,k<n->∃x,x∈l/\o[k]?=some x.c/\Ft p x.c=true):=J (λk hk=>by have h1:=AE (l:=o) (i:=k) U;obtain⟨h2,x,f,e⟩:=(K.mem _).1 (AY h1);exact⟨x,f,by rw[h1,e],e ▸ h2⟩)
  rw[mR K]at hF;have HG:=J hF;have aD:=J au;clear D ay aj a4 K hn au k1 k2 k3 k4 k5 aw HF am hF;obtain⟨W2,ax⟩:∃W,W=w2:=⟨_,I⟩;rw[<-ax]at an T HP;subst ax;go_wp2;go_loopw [25] (λi wr=>wr=W2/\∃k:Nat,k<=n/\i=.a k/\Hid (∀j r,j<k->o[j]?=some r->(split (IQ p q r)).length<=6)) (λi _=>n-(intOf i).toNat)
  case atStart=>exact⟨I,0,AW _,I,J (λj r h=>absurd h U)⟩
  obtain⟨hw,k,hk,rfl,Hn⟩:=hrel;have aO:=hw.A;subst aO;clear hw;by_cases af:k<n
  .obtain⟨x,f,m,hu⟩:=HR.o k af;have c0:=HP.o.cell m;have H:p.length<=x.c.length:=by have:=AX List.length (RS hu).1;simp at this;omega
   obtain⟨a,s⟩:=E (X x.c);have s1:d.size<=a.size:=by rw[P.o,s,EF,EF];exact H
   have s2:a.size<=255:=by rw[s,EF];exact u x f
   have G:t++a.extract d.size a.size=X (IQ p q x.c):=by rw[P.o,Q.o,s];exact Xf H
   rw[<-s]at c0;have HD:=J (λW=>fL (IQ p q x.c) W (by unfold IQ;have:=u x f;simp;omega));obtain⟨M,A⟩:=E (X (IQ p q x.c));obtain⟨c,hc⟩:=E ((split (IQ p q x.c)).length);rw[<-A]at G HD;have a8:=λW=>DS (P:=prog) W t (a.extract d.size a.size) (by rw[Q.o,EF];omega) (by rw[ByteArray.size_extract];omega);rw[G]at a8;rw[<-hc]at HD;have Hr:=J m;have Hc:=J hc;clear s A m hc;go_wp2_with fail;refine zJ (HD.o _) ?_;by_cases h6:6<c
   .have hF:=HG.o;rw[AD (Ap.2 ⟨x.c,AY Hr.o,by rw[<-Hc.o];simpa using h6⟩)]at hF;subst hF;go_wp2;go_ret;exact F0.no EB N.o T.o
   have aM:Hid (∀j r,j<k+1->o[j]?=some r->(split (IQ p q r)).length<=6):=J (λj r hj m=>by
    by_cases e:j=k
    .subst e;rw[Hr.o]at m;cases m;rw[<-Hc.o];omega
    exact Hn.o j r U m)
   go_wp2;go_roundw
   case rel=>exact⟨trivial,k+1,by omega,by go_num,aM⟩
   case measure=>simp[intOf];omega
  have hF:=HG.o;rw[AC (λe=>by obtain⟨r,m,h6⟩:=Ap.1 e;obtain⟨j,hj,rfl⟩:=BY m;have:=Hn.o j _ (Dz aD.o) (AE hj);simp at h6;omega)]at hF
  subst hF;go_wp2;go_loopw [40] (λi wr=>∃k:Nat,k<=n/\i=.a k/\Hid (FL b W2 wr)/\Hid (EH wr b (l.map (Kf p q (o.take k))))) (λi _=>n-(intOf i).toNat)
  case atStart=>exact⟨0,AW _,I,J (.of_below (AP _ _)),J (by rw[DO,rS];exact an.o)⟩
  obtain⟨k,hk,rfl,Ht,az⟩:=hrel;by_cases af:k<n
  .obtain⟨x,f,m,hu⟩:=HR.o k af;have c0:=(HP.o.turn Ht.o).cell m;have H:p.length<=x.c.length:=by have:=AX List.length (RS hu).1;simp at this;omega
   have aF:∀r∈o.take k,Ft p r=true:=λr h=>((HV.o.mem r).1 (DP h)).1;have aG:x.c∉o.take k:=λe=>by obtain⟨j,hj,e⟩:=BY e;have aL:=hj;rw[Ac]at aL;rw[List.getElem_take]at e;have h1:=(AN.1 m);exact Dz ((List.getElem_inj HV.o.nd).1 (e.i h1.2.A))
   obtain⟨a1,a2,a3⟩:=HO.o.step aF f hu aG;have ai:EH wr.drew b (l.map (Kf p q (o.take k))):=az.o.y I;have z:=J (Tp b _ (IQ p q x.c) (nd x) wr.drew ai (HO.o.nodup _ aF) EL (by unfold IQ;have:=u x f;simp;omega));have y:=J (λW (h:EH W b (En (l.map (Kf p q (o.take k))) (Lq p q x)))=>(h.b (p:=x.c) (by have:=u x f;unfold maxLen;omega) a2).2);have R:=(ai.b (p:=x.c) (by have:=u x f;unfold maxLen;omega) a1).2;have ag:Hid (∀W,EH W b (En (l.map (Kf p q (o.take k))) (Lq p q x))->∀ty,∃C,(Builtin.delete_ #[77,9] ty #[.e b,.string (X x.c)]).run prog W=.ok (.tuple #[]) C/\EH C b (l.map (Kf p q (o.take (k+1))))/\FL b W C):=J (λW h ty=>by obtain⟨C,d1,d2,d3⟩:=h.drop x.c (by have:=u x f;unfold maxLen;omega) ty;exact⟨C,d1,(d2.ext a3).ext λr=>by rw[Al,m];rfl,FL.of_map (.of_below (AP _ _)) d3⟩)
   obtain⟨a,s⟩:=E (X x.c);have s1:d.size<=a.size:=by rw[P.o,s,EF,EF];exact H
   have s2:a.size<=255:=by rw[s,EF];exact u x f
   have G:t++a.extract d.size a.size=X (IQ p q x.c):=by rw[P.o,Q.o,s];exact Xf H
   have a8:=λW=>DS (P:=prog) W t (a.extract d.size a.size) (by rw[Q.o,EF];omega) (by rw[ByteArray.size_extract];omega);obtain⟨M,A⟩:=E (X (IQ p q x.c));rw[G,<-A]at a8;rw[<-A]at z;rw[<-s]at c0 R y ag;unfold Gm nd at z R y;dsimp only at z R y;obtain⟨Dx,aA⟩:∃M,M=X x.data:=⟨_,I⟩;rw[<-aA]at z R y;clear A s aA a1 a2 a3 m ai G;go_wp2;go_region_held3 (λV=>(Instr.lookup 77 (.e b) (.string a) false).run prog V=.ok (.agg #[.bool x.d,.string Dx,.a x.a,.a x.b]) V) (go_keep) (first|(go_at_call 151;refine z.o.l ?_;rintro e w3 ⟨rfl,ah,ar⟩;have aI:=y.o w3 ah));rename_i hHeld;clear hHeld;obtain⟨w4,aJ,av,aC⟩:=ag.o w3 ah 0;have aK:=J (Ht.o.i ((FL.of_below (AP wr.s wr).drew).i (ar.i aC)));have aN:=J av;clear ah ar av aC aI ag y z;go_wp2;go_roundw
   case rel=>exact⟨k+1,by omega,by go_num,aK,aN⟩
   case measure=>simp[intOf];omega
  have HE:=J (F0.PX (p:=p) (q:=q) HV.o (by have:=az.o;rw[AT (Dz aD.o)]at this;exact this) ((FL.of_below T.o).i Ht.o));go_wp2;go_ret;exact HE.o
 have hF:=am.o;rw[AC h0]at hF;subst hF;go_wp2;go_ret;exact F0.no h0 N.o S.o
variable {w w':Z} {L l:List It} {v:Value} {B:Nat}
def Iq(w:Z)(z0E:Int)(L:List It)(e:Ending)(w':Z):Prop:=
 Below w.heap.size w w'/\(z0E≠0->e=.a (.tuple #[.g,.a z0E]))/\(z0E=0->∃v',e=.a (.tuple #[v',.a 0])/\w'.ownsRow w.heap.size 39 5 v' L.length (FF L))
theorem Iq.no{a:Int}(c:Below w.heap.size w w')(h:a≠0):Iq w a L (.a (.tuple #[.g,.a a])) w':=⟨c,λ_=>rfl,λb=>absurd b h⟩
theorem Iq.yes{n:Nat}(i:Below w.heap.size w w')(h:w'.ownsRow B 39 5 v n (FF L))(f:w.heap.size<=B):Iq w 0 L (.a (.tuple #[v,.a 0])) w':=by
 have k:n=L.length:=by have:=h.1;rw[N5]at this;omega
 subst k;refine⟨i,λd=>absurd I d,λ_=>⟨v,I,h.1,?_⟩⟩;rcases h.2 with c|⟨g,a,b,e,j,c⟩
 .exact .w c
 exact .s ⟨g,a,b,e,AG f j,c⟩
def Kw(l:List It)(p:Bs):List It:=l.filter λy=>decide (y.c≠p)
theorem Xc:∀{l:List It},(l.map (·.c)).Nodup->∀{k:Nat} {x:It},l[k]?=some x->l.take k++l.drop (k+1)=Kw l x.c
 | [],_,k,x,h=>by simp at h
 | y::l,hn,0,x,h=>by
   simp at h;subst h;rw[BS,Ct]at hn
   have:l.filter (λz=>decide (z.c≠y.c))=l:=Cg.2 λz d=>Bj λe=>hn.1 (by rw[<-e];exact AZ.2 ⟨z,d,I⟩)
   show l=Kw (y::l) y.c;unfold Kw;rw[List.filter_cons,AC EJ,this]
 | y::l,hn,k+1,x,h=>by
   rw[BS,Ct]at hn;have a:l[k]?=some x:=EU h
   have c:y.c≠x.c:=λe=>hn.1 (by rw[e];exact AZ.2 ⟨x,AY a,I⟩)
   have b:=Xc hn.2 a;unfold Kw at b |-;rw[List.filter_cons,AD (EU c),<-b];rfl
theorem Vr(h:w.ownsRow B 39 5 v l.length (FF l))(A:(l.map (·.c)).Nodup)(D:l.length<=60)(f:∀y∈l,y.c.length<=255){k:Nat}{x:It}(i:l[k]?=some x)(W:Z)(s:Below w.heap.size w W)(y:It)(F:y.c.length<=255):Calls prog 162 #[v,.a k] W λe w'=>Below W.heap.size W w'/\∃v',e=.a v'/\∀V,Below w'.heap.size w' V->Calls prog 155 #[v',Jg y] V λe b=>Below V.heap.size V b/\∃a,e=.a a/\∃n,b.ownsRow V.heap.size 39 5 a n (FF (ins (Kw l x.c) y)):=by
 have u:=(AN.1 i).1;have o:W.r B 39 5 v l.length (FF l):=MF h λg d=>s.u g (h.lt g d).2;refine(eN v l B k W o U u).l ?_;rintro e w' ⟨t,v',rfl,c⟩;refine⟨t,v',I,λV r=>?_⟩;rw[Xc A i]at c;have j:(Kw l x.c).length=l.length-1:=by have:=c.1;rw[N5]at this;omega
 rw[<-j]at c;have m:V.r W.s 39 5 v' (Kw l x.c).length (FF (Kw l x.c)):=MF c λg d=>r.u g (c.lt g d).2;refine(IZ v' (Kw l x.c) y W.s V m U U (λz C=>AG (f z (Ad.1 C).1) U)).l ?_;rintro e b ⟨p,a,rfl,q⟩;exact⟨p,a,I,_,q⟩
theorem ZX(h:w.ownsRow B 39 5 v l.length (FF l)):∃a cap,v=.slice a l.length cap:=by
 rcases PT h with⟨rfl,rfl⟩|⟨g,cap,rfl,_⟩
 .exact⟨_,_,I⟩
 exact⟨_,_,I⟩
def Nw(l:List It)(p d:Bs):Int:=match at? l p with
 | some x=>if x.d then 6 else if 4000<d.length then 8 else 0
 | none=>if 4000<d.length\/60<=l.length then 8 else 0
theorem rm(v:Value)(l:List It)(B:Nat)(p t d:Bs)(a c:Int)(w:Z)(j:w.ownsRow B 39 5 v l.length (FF l))(hn:(l.map (·.c)).Nodup)(hl:l.length<=60)(K:∀y∈l,y.c.length<=255)(hp:p.length<=255)(hd:d.length<=1048576):Calls prog 161 #[v,.a (JY l p),Nx 1 p t d a c] w λe w'=>Iq w (Nw l p d) (ins (Kw l p) (I0 l p d)) e w':=by
 obtain⟨W,m⟩:=E (w.alloc (.cells (KU 1 p t d a c).toArray 164));have o:=JK m;have hs:=Ia m;have q:=Gi m;have r:=J o;have h:=J m;unfold Nx;unfold KU at q h |-;obtain⟨F,hF⟩:=E (Nw l p d);rw[<-hF];unfold Nw at hF;obtain⟨ad,cap,rfl⟩:=ZX j;rcases P6 l p with⟨e1,e2⟩|⟨k,x,e1,C,e2⟩
 .have am:Kw l p=l:=Cg.2 λy hy=>Bj (GN.1 e2 y hy);have s:I0 l p d=⟨p,false,d,0,0⟩:=by unfold I0;rw[e2]
  rw[am,s,e1];rw[e2]at hF;dsimp only at hF;have L:=J (λV (hV:Below w.heap.size w V)=>IZ _ l ⟨p,false,d,0,0⟩ B V (MF j λg hg=>hV.u g (j.lt g hg).2) U (by show p.length<=_;omega) (λz hz=>AG (K z hz) U));unfold Jg at L;dsimp only at L;obtain⟨f,n⟩:=E (X p);obtain⟨b,i⟩:∃f,f=X d:=⟨_,I⟩;have sz:b.size=d.length:=by rw[i,EF]
  rw[<-n,<-i]at q h L |-;rw[<-sz]at hF;have c1:=EV 1 q;have c3:=EV 3 q;clear m n i q o j;by_cases N:4000<b.size
  .rw[AD (.w N)]at hF;subst hF;have S:(4000:Int)<(b.size:Nat):=U;go_enter func161,ntmps161;go_wp2_with rw[<-h.o];go_ret2;exact Iq.no r.o EB
  have S:¬(4000:Int)<(b.size:Nat):=U;by_cases h6:60<=l.length
  .rw[AD (.s h6)]at hF;subst hF;have ai:(60:Int)<=(l.length:Nat):=U;go_enter func161,ntmps161;go_wp2_with rw[<-h.o];go_ret2;exact Iq.no r.o EB
  have ai:¬(60:Int)<=(l.length:Nat):=U;rw[AC U]at hF;subst hF;go_enter func161,ntmps161;go_wp2_with rw[<-h.o];refine(L.o W r.o).l ?_;rintro e w2 ⟨ag,v2,rfl,ac⟩;have H2:=J (Iq.yes (r.o.i ag.b) ac U);clear ag ac;go_wp2;go_ret2;exact H2.o
 have T:=(Ji e2).2;have hk:=(AN.1 C).1;have s:I0 l p d=⟨p,false,d,x.a,x.b⟩:=by unfold I0;rw[e2]
 rw[e2]at hF;dsimp only at hF;have H:=J (λV (hV:Below w.heap.size w V)=>Vr j hn hl K C V hV ⟨p,false,d,x.a,x.b⟩ hp);rw[T]at H;rcases PT j with⟨_,rfl⟩|⟨g,cap',e,_,hg,hlc,hcm,Q⟩
 .simp at hk
 cases e;have ar:(k:Int)<(l.length:Nat):=U;have an:F6 W g (k*5) x:=by have:=(Q k x C).f o hg;rwa[Ak]at this
 rw[s,e1];unfold Jg at H;dsimp only at H;obtain⟨x0,x1,x2,x3,x4⟩:=an;rw[T]at x0;obtain⟨xp,xd,xt,xm,xc⟩:=x;dsimp only at *;subst T;obtain⟨f,n⟩:=E (X xp);obtain⟨b,i⟩:∃f,f=X d:=⟨_,I⟩;obtain⟨z0Y,P⟩:∃f,f=X xt:=⟨_,I⟩;have sz:b.size=d.length:=by rw[i,EF]
 rw[<-n,<-i]at q h H |-;rw[<-n]at x0;rw[<-P]at x2;rw[<-sz]at hF;have c1:=EV 1 q;have c3:=EV 3 q;cases xd
 .rw[AC EB]at hF;by_cases N:4000<b.size
  .rw[AD N]at hF;subst hF;have S:(4000:Int)<(b.size:Nat):=U;clear m n i P q o j Q e2 C s;go_enter func161,ntmps161;go_wp2_with rw[<-h.o];go_ret2;exact Iq.no r.o EB
  rw[AC N]at hF;subst hF;have S:¬(4000:Int)<(b.size:Nat):=U;obtain⟨M,u⟩:=E (W.alloc (.cells #[.string f,.bool false,.string z0Y,.a xm,.a xc] 39));have q2:=Gi u hs;have ae:Below w.heap.size w M:=by rw[u];exact o.a
  have au:M.cell? (O w.heap.size 3)=some (.string b):=EV 3 ((u ▸ Jm (by omega):M.heap[w.heap.size]?=W.heap[w.heap.size]?).i q);obtain⟨D,G⟩:=E (M.setCell (O (w.heap.size+1) 2) (.string b));have q3:=Qe G q2;simp only[Ar,CL,CM]at q3;have aa:Below w.heap.size w D:=by rw[G];exact ae.c EJ
  have y0:=EV 0 q2;have y1:=EV 1 q2;have y2:=EV 2 q2;have y3:=EV 3 q2;have y4:=EV 4 q2;have f2:=Fg 2 q2;have z0:=NO 0 q3;have z1:=NO 1 q3;have z2:=NO 2 q3;have z3:=NO 3 q3;have z4:=NO 4 q3;have ao:=J u;have aj:=J G;have a9:=J aa;have Q3:=J q3;have av:D.heap.size=w.heap.size+2:=by rw[G,u];simp[hs]
  clear m n i P q o j Q e2 C s u G q2 ae q3 aa;go_enter func161,ntmps161;go_wp2_with (first|(rw[<-h.o])|(rw[<-ao.o])|(rw[<-aj.o])|fail);have HD:=J (H.o D.drew a9.o.drew);go_region_held3 (λV=>V.cell? (O (w.heap.size+1) 0)=some (.string f)/\V.cell? (O (w.heap.size+1) 1)=some (.bool false)/\V.cell? (O (w.heap.size+1) 2)=some (.string b)/\V.cell? (O (w.heap.size+1) 3)=some (.a xm)/\V.cell? (O (w.heap.size+1) 4)=some (.a xc)) (go_keep) (first
   | (go_at_call 162;refine HD.o.l ?_;rintro e w4 ⟨A,v4,rfl,ah⟩;have q4:=(A.u (w.heap.size+1) EL).i Q3.o;have u0:=EV 0 q4;have u1:=EV 1 q4;have u2:=EV 2 q4;have u3:=EV 3 q4;have u4:=EV 4 q4)
   | (go_at_call 155;refine(ah _ (AP _ _)).l ?_;rintro e w5 ⟨R,v5,rfl,n5,af⟩;have q5:=(R.u (w.heap.size+1) (by have:=A.size;simp at this;omega)).i q4;have r0:=EV 0 q5;have r1:=EV 1 q5;have r2:=EV 2 q5;have r3:=EV 3 q5;have r4:=EV 4 q5))
  rename_i hHeld;clear hHeld;have H5:=J (Iq.yes (a9.o.i (((AP D.heap.size D).drew.i (A.i (R.l A.size))).l U)) af (by have:=A.size;simp at this;omega));clear A R af ah q4 q5 HD;go_wp2;go_ret2;exact H5.o
 rw[AD I]at hF;subst hF;clear m n i P q o j Q e2 C s;go_enter func161,ntmps161;go_wp2_with rw[<-h.o];go_ret2;exact Iq.no r.o EB
def JL(x:Bs)(n:Nat):Bs:=x++List.replicate (n-x.length) 0
theorem oF(x:Bs)(n:Nat):(JL x n).take n=sizedB x n:=by unfold JL sizedB;rw[List.take_append,List.take_replicate,Bz U]
theorem iC(x:Bs)(n:Nat):X x++X (List.replicate (n-x.length) 0)=X (JL x n):=by apply DZ;simp[X,JL]
theorem Gh{V:Z}{b:Nat}{a c:ByteArray}{e:Bool}{f d:Int}(q:V.heap[b]?=some (.cells #[.string a,.bool e,.string c,.a f,.a d] 39 (0,0))):V.cell? (O b 0)=some (.string a)/\V.cell? (O b 1)=some (.bool e)/\V.cell? (O b 2)=some (.string c)/\V.cell? (O b 3)=some (.a f)/\V.cell? (O b 4)=some (.a d):=⟨EV 0 q,EV 1 q,EV 2 q,EV 3 q,EV 4 q⟩
def Ml(x:It)(n:Nat):Int:=if x.d then 6 else if 4000<n then 8 else 0
theorem nE(v:Value)(l:List It)(B:Nat)(p t d:Bs)(n:Nat)(c:Int)(w:Z)(hv:w.ownsRow B 39 5 v l.length (FF l))(hn:(l.map (·.c)).Nodup)(hl:l.length<=60)(K:∀y∈l,y.c.length<=255)(hld:∀y∈l,y.data.length<=4000){k:Nat}{x:It}(r:l[k]?=some x)(hn2:n<=9223372036854775807):Calls prog 164 #[v,.a k,Nx 3 p t d (n:Nat) c] w λe w'=>Iq w (Ml x n) (ins (Kw l x.c) {x with data:=sizedB x.data n}) e w':=by
 obtain⟨W,D⟩:=E (w.alloc (.cells (KU 3 p t d (n:Nat) c).toArray 164));have R:=JK D;have hs:=Ia D;have q:=Gi D;have HB:=J R;have s:=J D;unfold Nx;unfold KU at q s |-;obtain⟨F,hF⟩:=E (Ml x n);rw[<-hF];unfold Ml at hF;have hk:=(AN.1 r).1;have au:=K x (AY r);have aB:=hld x (AY r);have A:=J (λV (hV:Below w.heap.size w V)=>Vr hv hn hl K r V hV {x with data:=sizedB x.data n} au);rcases PT hv with⟨_,rfl⟩|⟨g,cap,rfl,_,hg,hlc,hcm,hc⟩
 .simp at hk
 have aC:(k:Int)<(l.length:Nat):=U;have av:F6 W g (k*5) x:=by have:=(hc k x r).f R hg;rwa[Ak]at this
 unfold Jg at A;dsimp only at A;obtain⟨x0,x1,x2,x3,x4⟩:=av;obtain⟨xp,xd,a,xm,xc⟩:=x;dsimp only at *;obtain⟨b,hX⟩:=E (X xp);obtain⟨f,G⟩:∃b,b=X a:=⟨_,I⟩;obtain⟨h,hZ⟩:∃b,b=X (sizedB a n):=⟨_,I⟩;have sy:f.size=a.length:=by rw[G,EF]
 obtain⟨P,C⟩:=E (X (JL a n));have az:P.size=max a.length n:=by rw[C,EF];unfold JL;simp;omega
 have ao:P.extract 0 n=h:=by rw[C,hZ,Ka,<-oF];simp
 have ag:∀m:Nat,m=n-a.length->f++X (List.replicate m 0)=P:=λm e=>by rw[G,C,e];exact iC a n
 have ae:n<=a.length->f=P:=λe=>by rw[G,C];unfold JL;rw[show n-a.length=0 by omega];simp
 rw[<-hX,<-hZ]at A;rw[<-hX]at x0;rw[<-G]at x2;have c0:=EV 0 q;have c3:=EV 3 q;have c4:=EV 4 q;obtain⟨u,j⟩:=E (W.alloc (.cells #[.string b,.bool xd,.string f,.a xm,.a xc] 39));have q2:=Gi j hs;have ad:Below w.heap.size w u:=by rw[j];exact R.a
 have M:=(j ▸ Jm (by omega):u.heap[w.heap.size]?=W.heap[w.heap.size]?).i q;have Q:=J ad;have N:=J j;have Q2:=J q2;have R2:=J M;obtain⟨y0,y1,y2,y3,y4⟩:=Gh q2;have d0:=EV 0 M;have d3:=EV 3 M;have d4:=EV 4 M;have ar:u.heap.size=w.heap.size+2:=by rw[j];simp[hs]
 have ay:=J ag;have aj:=J ae;clear D hX hZ G C q R hv hc r ag ae j ad q2 M;cases xd
 .rw[AC EB]at hF;by_cases h4:4000<n
  .rw[AD h4]at hF;subst hF;have aw:(4000:Int)<(n:Nat):=U;go_enter func164,ntmps164;go_wp2_with (first|(rw[<-s.o])|(rw[<-N.o])|fail);go_ret2;exact Iq.no Q.o EB
  rw[AC h4]at hF;subst hF;have aw:¬(4000:Int)<(n:Nat):=U;have aA:n<=P.size:=U;have an:(n:Int)<=(P.size:Nat):=U;go_enter func164,ntmps164;by_cases ax:a.length<n;focus
   obtain⟨m,hm⟩:=E (n-a.length);have aE:(n:Int)-(a.length:Nat)=(m:Nat):=U;have h5:(a.length:Int)<(n:Nat):=U;have a5:=λV=>DS (P:=prog) V f (X (List.replicate m 0)) U (by rw[EF];simp;omega);rw[ay.o m hm]at a5;have T:=J (gD m u U);obtain⟨z0O,hO⟩:=E (X (List.replicate m 0));rw[<-hO]at a5 T;clear hm hO;go_wp2_with (first|(rw[<-s.o])|(rw[<-N.o])|fail);refine T.o.l ?_;rintro e V ⟨rfl,H⟩;have L:=(H.u (w.heap.size+1) U).i Q2.o;have S:=(H.u w.heap.size U).i R2.o;have aa:=J (Q.o.i H.b);have a8:=H.size;rw[ar]at a8;clear H T y0 y1 y2 y3 y4 d0 d3 d4
  rotate_left
  focus
   have am:=aj.o U;subst am;have h5:¬(a.length:Int)<(n:Nat):=U;obtain⟨V,rfl⟩:=E u;have L:=Q2.o;have S:=R2.o;have aa:=Q;have a8:w.heap.size+2<=V.heap.size:=U
  rotate_left
  all_goals
   obtain⟨y0,y1,y2,y3,y4⟩:=Gh L;have d0:=EV 0 S;have d4:=EV 4 S;have f2:=Fg 2 L;obtain⟨i,z⟩:=E (V.setCell (O (w.heap.size+1) 2) (.string h));have q3:=Qe z L;simp only[Ar,CL,CM]at q3;have ac:Hid (Below w.heap.size w i):=J (by rw[z];exact aa.o.c EJ);have aD:w.heap.size+2<=i.heap.size:=by rw[z];simpa using a8
   have HD:=J (A.o i.drew ac.o.drew);have Q3:=J q3;have ai:=J z;obtain⟨z0,z1,z2,z3,z4⟩:=Gh (V:=i.drew) q3;clear z q3 L S A;go_wp2_with (first|(rw[<-s.o])|(rw[<-N.o])|(rw[<-ai.o])|fail);go_region_held3 (λV=>V.cell? (O (w.heap.size+1) 0)=some (.string b)/\V.cell? (O (w.heap.size+1) 1)=some (.bool false)/\V.cell? (O (w.heap.size+1) 2)=some (.string h)/\V.cell? (O (w.heap.size+1) 3)=some (.a xm)/\V.cell? (O (w.heap.size+1) 4)=some (.a xc)) (go_keep) (first
    | (go_at_call 162;refine HD.o.l ?_;rintro e w4 ⟨o,v4,rfl,ah⟩;have q4:=(o.u (w.heap.size+1) EL).i Q3.o;have u0:=Gh q4)
    | (go_at_call 155;refine(ah _ (AP _ _)).l ?_;rintro e w5 ⟨a9,v5,rfl,n5,af⟩;have q5:=(a9.u (w.heap.size+1) (by have:=o.size;simp at this;omega)).i q4;have r0:=Gh q5))
   rename_i hHeld;clear hHeld;have H5:=J (Iq.yes (ac.o.i (((AP i.heap.size i).drew.i (o.i (a9.l o.size))).l U)) af (by have:=o.size;simp at this;omega));clear o a9 af ah q4 q5 HD;go_wp2;go_ret2;exact H5.o
 rw[AD I]at hF;subst hF;go_enter func164,ntmps164;go_wp2_with (first|(rw[<-s.o])|(rw[<-N.o])|fail);go_ret2;exact Iq.no Q.o EB
theorem mJ(x:Bs)(e:Nat):JL x e=sizedB x (max x.length e):=by unfold JL sizedB;rw[AT U,show max x.length e-x.length=e-x.length by omega]
theorem pK(x d:Bs)(n:Nat):X ((JL x (n+d.length)).take n)++X d=X ((JL x (n+d.length)).take n++d)/\X ((JL x (n+d.length)).take n++d)++X ((JL x (n+d.length)).drop (n+d.length))=X (Gd x n d):=by
 constructor
 .apply DZ;simp[X]
 apply DZ;simp[X,Gd,mJ]
def VU(x:It)(n:Nat)(d:Bs):It:=if d=[]then x else{ x with data:=Gd x.data n d}
def UH(x:It)(n:Nat)(d:Bs):Int:=if x.d then 6 else if d≠[]/\4000-(d.length:Int)<(n:Nat)then 8 else 0
theorem nw(v:Value)(l:List It)(B:Nat)(p t d:Bs)(n:Nat)(c:Int)(w:Z)(hv:w.ownsRow B 39 5 v l.length (FF l))(hn:(l.map (·.c)).Nodup)(hl:l.length<=60)(hlp:∀y∈l,y.c.length<=255)(hld:∀y∈l,y.data.length<=4000){k:Nat}{x:It}(N:l[k]?=some x)(hn2:n<=9223372036854775807)(hd:d.length<=1048576):Calls prog 164 #[v,.a k,Nx 2 p t d (n:Nat) c] w λe w'=>Iq w (UH x n d) (ins (Kw l x.c) (VU x n d)) e w':=by
 obtain⟨W,r⟩:=E (w.alloc (.cells (KU 2 p t d (n:Nat) c).toArray 164));have hB:=JK r;have hs:=Ia r;have q:=Gi r;have HB:=J hB;change Hid _ at r;unfold Nx;unfold KU at q r |-;obtain⟨F,hF⟩:=E (UH x n d);rw[<-hF];unfold UH at hF;have hk:=(AN.1 N).1;have ar:=hlp x (AY N);have aL:=hld x (AY N);have ae:=J (λy (hy:y.c.length<=255) V (hV:Below w.heap.size w V)=>Vr hv hn hl hlp N V hV y hy);rcases PT hv with⟨_,rfl⟩|⟨g,cap,rfl,_,hg,hlc,hcm,hc⟩
 .simp at hk
 have aO:(k:Int)<(l.length:Nat):=U;have aC:F6 W g (k*5) x:=by have:=(hc k x N).f hB hg;rwa[Ak]at this
 unfold Jg at ae;obtain⟨x0,x1,x2,x3,x4⟩:=aC;obtain⟨xp,xd,b,xm,xc⟩:=x;dsimp only at *;have a8:=ae ⟨xp,xd,b,xm,xc⟩ ar;have T:=ae ⟨xp,xd,Gd b n d,xm,xc⟩ ar;dsimp only at a8 T;obtain⟨f,hX⟩:=E (X xp);obtain⟨j,hY⟩:∃f,f=X b:=⟨_,I⟩;obtain⟨s,hZ⟩:∃f,f=X (Gd b n d):=⟨_,I⟩;obtain⟨D,M⟩:∃f,f=X d:=⟨_,I⟩;have sy:j.size=b.length:=by rw[hY,EF]
 have sd:D.size=d.length:=by rw[M,EF]
 obtain⟨a,hE⟩:=E (n+d.length);obtain⟨P,C⟩:=E (X (JL b a));have am:P.size=max b.length a:=by rw[C,EF];unfold JL;simp;omega
 obtain⟨A1,ah⟩:∃A,A=X ((JL b a).take n):=⟨_,I⟩;obtain⟨A2,ai⟩:∃A,A=X ((JL b a).take n++d):=⟨_,I⟩;obtain⟨A3,ag⟩:∃A,A=X ((JL b a).drop a):=⟨_,I⟩;have s1:P.extract 0 n=A1:=by rw[C,ah,Ka];simp
 have s3:P.extract a P.size=A3:=by rw[am,C,ag,Ka,AT (by unfold JL;simp;omega)]
 obtain⟨w1,w2⟩:=pK b d n;rw[<-hE,<-ah,<-M,<-ai]at w1;rw[<-hE,<-ai,<-ag,<-hZ]at w2;have au:∀m:Nat,m=a-b.length->j++X (List.replicate m 0)=P:=λm e=>by rw[hY,C,e];exact iC b a
 have ao:a<=b.length->j=P:=λe=>by rw[hY,C];unfold JL;rw[show a-b.length=0 by omega];simp
 have aP:A1.size<=n:=by rw[ah,EF,Ac];omega
 have aD:A2.size<=n+d.length:=by rw[ai,EF];simp;omega
 have aN:A3.size<=P.size:=by rw[ag,C,EF,EF,BX];omega
 rw[<-hX]at a8 T x0;rw[<-hY]at a8 x2;rw[<-hZ]at T;rw[<-M]at q r |-;change Hid _ at a8 T;have c0:=EV 0 q;have c3:=EV 3 q;have c4:=EV 4 q;obtain⟨H,K⟩:=E (W.alloc (.cells #[.string f,.bool xd,.string j,.a xm,.a xc] 39));have q2:=Gi K hs;have u:Below w.heap.size w H:=by rw[K];exact hB.a
 have r2:=(K ▸ Jm (by omega):H.heap[w.heap.size]?=W.heap[w.heap.size]?).i q;change Hid _ at u;have ad:=J K;have Q2:=J q2;have R2:=J r2;obtain⟨y0,y1,y2,y3,y4⟩:=Gh q2;have d0:=EV 0 r2;have d3:=EV 3 r2;have d4:=EV 4 r2;have aB:H.heap.size=w.heap.size+2:=by rw[K];simp[hs]
 change Hid _ at au ao;have av:D.toList.isEmpty=decide (d=[]):=by rw[M,Mn];cases d<;>rfl
 have aA:Hid (d=[]->D=⟨#[]⟩):=J (λe=>by rw[M,e];rfl);rw[<-sd]at hF hE aD hd;change Hid _ at sd;clear hX hZ hY C M ah ai ag q hB hv hc N K q2 r2 ae;cases xd
 .unfold VU;rw[AC EB]at hF;by_cases L:d=[]
  .rw[AC (by simp[L])]at hF;subst hF;rw[AD L];have aG:=aA L;subst aG;obtain⟨o,rfl⟩:∃V,V=H:=⟨_,I⟩;have R:=J (a8 o.drew u.o.drew);have Q3:=Q2;have af:=u;obtain⟨z0,z1,z2,z3,z4⟩:=Gh (V:=o.drew) Q3;clear w1 w2 s1 s3 av;go_enter func164,ntmps164;go_wp2_with (first|(rw[<-r.o])|(rw[<-ad.o])|fail);go_region_held3 (λV=>V.cell? (O (w.heap.size+1) 0)=some (.string f)/\V.cell? (O (w.heap.size+1) 1)=some (.bool false)/\V.cell? (O (w.heap.size+1) 2)=some (.string j)/\V.cell? (O (w.heap.size+1) 3)=some (.a xm)/\V.cell? (O (w.heap.size+1) 4)=some (.a xc)) (go_keep) (first
    | (go_at_call 162;refine R.o.l ?_;rintro e w4 ⟨i,v4,rfl,aa⟩;have q4:=(i.u (w.heap.size+1) EL).i Q3;have u0:=Gh q4)
    | (go_at_call 155;refine(aa _ (AP _ _)).l ?_;rintro e w5 ⟨z,v5,rfl,n5,a9⟩;have q5:=(z.u (w.heap.size+1) (by have:=i.size;simp at this;omega)).i q4;have r0:=Gh q5))
   rename_i hHeld;clear hHeld;have H5:=J (Iq.yes (af.o.i (((AP o.heap.size o).drew.i (i.i (z.l i.size))).l U)) a9 (by have:=i.size;simp at this;omega));clear i z a9 aa q4 q5 R;go_wp2;go_ret2;exact H5
  rw[AC L];rw[BZ L]at av;by_cases h4:(4000:Int)-(D.size:Nat)<(n:Nat)
  .rw[AD ⟨L,h4⟩]at hF;subst hF;go_enter func164,ntmps164;go_wp2_with (first|(rw[<-r.o])|(rw[<-ad.o])|fail);go_ret2;exact Iq.no u EB
  rw[AC (λh=>h4 h.2)]at hF;subst hF;have aM:=zW (x:=(n:Int)+(D.size:Nat));have aE:(n:Int)+(D.size:Nat)=(a:Nat):=U;have aQ:n<=a:=U;have aK:n<=P.size:=U;have az:(n:Int)<=(P.size:Nat):=U;have aI:a<=P.size:=U;have aH:(a:Int)<=(P.size:Nat):=U;have ax:=λV=>DS (P:=prog) V A1 D U U;have aw:=λV=>DS (P:=prog) V A2 A3 U U;rw[w1]at ax;rw[w2]at aw;have aJ:a<=4000:=U;change Hid _ at hE am;clear w1 w2;go_enter func164,ntmps164;by_cases aF:b.length<a;focus
   obtain⟨m,hm⟩:=E (a-b.length);have aT:(a:Int)-(b.length:Nat)=(m:Nat):=U;have h5:(b.length:Int)<(a:Nat):=U;have ac:=λV=>DS (P:=prog) V j (X (List.replicate m 0)) U (by rw[EF];simp;omega);rw[au.o m hm]at ac;have HZ:=J (gD m H U);obtain⟨z0O,hO⟩:=E (X (List.replicate m 0));rw[<-hO]at ac HZ;clear hm hO;go_wp2_with (first|(rw[<-r.o])|(rw[<-ad.o])|fail);refine HZ.o.l ?_;rintro e V ⟨rfl,hb⟩;have Q:=(hb.u (w.heap.size+1) U).i Q2;have G:=(hb.u w.heap.size U).i R2;have an:=J (u.o.i hb.b);have aj:=hb.size;rw[aB]at aj;clear hb HZ y0 y1 y2 y3 y4 d0 d3 d4
  rotate_left
  focus
   have ay:=ao U;subst ay;rw[sy]at s3;have h5:¬(b.length:Int)<(a:Nat):=U;obtain⟨V,rfl⟩:=E H;have Q:=Q2;have G:=R2;have an:=u;have aj:w.heap.size+2<=V.heap.size:=U
  rotate_left
  all_goals
   obtain⟨y0,y1,y2,y3,y4⟩:=Gh Q;have d0:=EV 0 G;have d3:=EV 3 G;have d4:=EV 4 G;have f2:=Fg (w:=V.drew) 2 Q;have e3:=NO 3 G;have e4:=NO 4 G;have aR:=NO 2 Q;obtain⟨o,S⟩:=E ((V.setCell (O (w.heap.size+1) 2) (.string s)).drew);have q3:=(by rw[S];rfl:o.heap[w.heap.size+1]?=(V.setCell (O (w.heap.size+1) 2) (.string s)).heap[w.heap.size+1]?).i (Qe (W:=(V.setCell (O (w.heap.size+1) 2) (.string s))) I Q);simp only[Ar,CL,CM]at q3;have af:Hid (Below w.heap.size w o):=J (by rw[S];exact(an.o.c EJ).drew);have aS:w.heap.size+2<=o.heap.size:=by rw[S];simpa using aj
   have R:=J (T o.drew af.o.drew);have Q3:=J q3;change Hid _ at S;obtain⟨z0,z1,z2,z3,z4⟩:=Gh (V:=o.drew) q3;clear q3 Q G;go_wp2_with (first|(rw[<-r.o])|(rw[<-ad.o])|fail);go_region;go_wp2_with rw[<-S.o];go_region_held3 (λV=>V.cell? (O (w.heap.size+1) 0)=some (.string f)/\V.cell? (O (w.heap.size+1) 1)=some (.bool false)/\V.cell? (O (w.heap.size+1) 2)=some (.string s)/\V.cell? (O (w.heap.size+1) 3)=some (.a xm)/\V.cell? (O (w.heap.size+1) 4)=some (.a xc)) (go_keep) (first
    | (go_at_call 162;refine R.o.l ?_;rintro e w4 ⟨i,v4,rfl,aa⟩;have q4:=(i.u (w.heap.size+1) EL).i Q3;have u0:=Gh q4)
    | (go_at_call 155;refine(aa _ (AP _ _)).l ?_;rintro e w5 ⟨z,v5,rfl,n5,a9⟩;have q5:=(z.u (w.heap.size+1) (by have:=i.size;simp at this;omega)).i q4;have r0:=Gh q5))
   rename_i hHeld;clear hHeld;have H5:=J (Iq.yes (af.o.i (((AP o.heap.size o).drew.i (i.i (z.l i.size))).l U)) a9 (by have:=i.size;simp at this;omega));clear i z a9 aa q4 q5 R;go_wp2;go_ret2;exact H5
 rw[AD I]at hF;subst hF;go_enter func164,ntmps164;go_wp2_with (first|(rw[<-r.o])|(rw[<-ad.o])|fail);go_ret2;exact Iq.no u EB
theorem XN{w:Z}{B:Nat}{a:Option Addr}{cap:Nat}{l:List It}(h:w.ownsRow B 39 5 (.slice a l.length cap) l.length (FF l)):Eh w a l:=λc=>by
 rcases PT h with⟨_,rfl⟩|⟨g,_,e,_,_,_,_,b⟩
 .exact absurd I c
 cases e;exact⟨g,0,I,b⟩
def MX(p q:Bs)(x:It):It:=if Ft p x.c then Lq p q x else x
def Ni(l:List It)(p q:Bs):Bool:=l.any λx=>Ft p x.c && !EO (IQ p q x.c)
def LF(l:List It)(p q:Bs):Int:=if Gq l (q.length+1) q=0 then(if(at? l q).isSome then 5 else if KJ q p then 7 else if Ni l p q then 8 else 0)else Gq l (q.length+1) q
theorem jn{l:List It}{k:Nat}{x:It}(p q:Bs)(a:l[k]?=some x):Ep ((l.map (MX p q)).take (k+1))=ins (Ep ((l.map (MX p q)).take k)) (MX p q x):=by rw[<-Wc,Al,BI,a];rfl
theorem wB(v:Value)(l:List It)(B:Nat)(p q d:Bs)(a c:Int)(w:Z)(hv:w.ownsRow B 39 5 v l.length (FF l))(hl:l.length<=60)(hlp:∀y∈l,y.c.length<=255)(hp:p.length<=255)(hq:q.length<=255):Calls prog 163 #[v,Nx 7 p q d a c] w λe w'=>Iq w (LF l p q) (Ep (l.map (MX p q))) e w':=by
 obtain⟨W,hW⟩:=E (w.alloc (.cells (KU 7 p q d a c).toArray 164));have hB:=JK hW;have hs:=Ia hW;have Q:=Gi hW;have t:=J hB;have HW:=J hW;have HQ:=J Q;unfold Nx;unfold KU at Q HW HQ |-;obtain⟨_,hF⟩:=E (LF l p q);rw[<-hF];unfold LF at hF;obtain⟨ad,cap,rfl⟩:=ZX hv;have HI:=J (Wl ad cap l W ((XN hv).f hB) U q.length q (AB _) U);have Hf:=J (QY ad cap l q W ((XN hv).f hB) U);have HU:=J (λV=>jw q p V U U);obtain⟨z0E,hE⟩:=E (Gq l (q.length+1) q);obtain⟨f,hX⟩:=E (X p);obtain⟨z0Y,hY⟩:∃f,f=X q:=⟨_,I⟩;rw[<-hE]at HI hF;rw[<-hX,<-hY]at Q HW HQ |-;rw[<-hY]at HI Hf;rw[<-hX,<-hY]at HU;have R:=J hX;have HY:=J hY;have c1:=EV 1 Q;have c2:=EV 2 Q;have Hv:=J hv;have HF:=J hF;clear hW hX hY hE Q hF hB hv;go_enter func163,ntmps163;go_wp2_with rw[<-HW.o];refine zJ HI.o ?_;by_cases h0:z0E=0
 .subst h0;have hF:=HF.o;rw[AD I]at hF;go_wp2_with fail;refine zJ Hf.o ?_;go_wp2_with fail;refine zJ (HU.o _) ?_;rcases P6 l q with⟨e1,e2⟩|⟨k,x,e1,H,e2⟩
  .rw[e2]at hF;rw[AC EJ]at hF;rw[e1];cases s:KJ q p
   .rw[s,AC EB]at hF;have HG:=J hF;have HP:Hid (∀k,∀y∈Ep ((l.map (MX p q)).take k),y.c.length<=1048576):=J (λk y n=>by
     obtain⟨z,hz,rfl⟩:=AZ.1 (DP ((Uc _ _).1 n));have:=hlp z hz;unfold MX;split
     .show(IQ p q z.c).length<=_;unfold IQ;simp;omega
     omega)
    clear HF hF HI Hf HU;go_wp2;go_loopw [9,10] (λo i wr=>∃k:Nat,k<=l.length/\i=.a k/\Hid (Below W.heap.size W wr)/\Hid (wr.ownsRow w.heap.size 39 5 o k (FF (Ep ((l.map (MX p q)).take k))))/\Hid (∀(j:Nat) x,j<k->l[j]?=some x->Ft p x.c=true->EO (IQ p q x.c)=true)) (λ_ i _=>l.length-(intOf i).toNat)
    case atStart=>exact⟨0,AW _,I,J (AP _ _),J (Af _ _ _ _),J (λj x h=>absurd h U)⟩
    obtain⟨k,hk,rfl,S,Ho,Hn⟩:=hrel;by_cases ag:k<l.length
    .obtain⟨x,H⟩:∃x,l[k]?=some x:=⟨_,AE ag⟩;obtain⟨g,_,e,_,hg,_,_,hc⟩:=(PT Hv.o).resolve_left (λe=>by rw[e.2]at ag;simp at ag);cases e;have av:=t.o.i (S.o.l t.o.size);have aF:F6 wr g (k*5) x:=by have:=(hc k x H).f av hg;rwa[Ak]at this
     have rz:=(S.o.u w.heap.size U).i HQ.o;have aH:=S.o.size;obtain⟨x0,_,x2,_,_⟩:=aF;have au:=hlp x (AY H);obtain⟨b,hZ⟩:=E (X x.c);obtain⟨D,hD⟩:∃b,b=X x.data:=⟨_,I⟩;rw[<-hZ]at x0;rw[<-hD]at x2;obtain⟨C,P⟩:=E (wr.alloc (.cells #[.string b,.bool x.d,.string D,.a x.a,.a x.b] 39));have q2:=Gi P;have r2:=(P ▸ Jm (by omega):C.heap[w.heap.size]?=wr.heap[w.heap.size]?).i rz;have aw:Below W.heap.size W C:=by rw[P];exact S.o.a
     have aE:=Ia P;obtain⟨_,_,_,_,_⟩:=Gh q2;have d1:=EV 1 r2;have d2:=EV 2 r2;have ae:=J (λV=>jw x.c p V U U);have HA:=J (λy (n:y.c.length<=1048576) V (hV:Below wr.heap.size wr V)=>IZ _ (Ep ((l.map (MX p q)).take k)) y w.heap.size V (by rw[Vi,Ac,B0,Bz hk];exact MF Ho.o λg hg=>hV.u g (Ho.o.lt g hg).2) (by rw[Vi,Ac,B0];omega) n (HP.o k));rw[<-hZ,<-R.o]at ae;have K:=J hZ;have HD:=J hD;have an:=J P;have ao:=J aw;have Q2:=J q2;have R2:=J r2;have T:=J H;clear hZ hD P aw q2 r2 rz H hc av;go_wp2_with rw[<-an.o];refine zJ (ae.o _) ?_;have a3:Ft p x.c=true->z0Y++b.extract f.size b.size=X (IQ p q x.c):=λs=>by rw[R.o,HY.o,K.o];exact Xf (by have:=AX List.length (RS s).1;simp at this;omega)
     have HC:=J a3;have aA:b.size<=255:=by rw[K.o,EF];exact au
     have ai:(IQ p q x.c).length<=1048576:=by unfold IQ;simp;omega
     clear a3;cases A:KJ x.c p;rotate_left
     focus
      have u:Ft p x.c=true:=by unfold Ft;rw[A,Bool.or_true]
     rotate_left
     focus
      by_cases e:x.c=p;rotate_left
      .have aG:(b.toList==f.toList)=false:=by rw[K.o,R.o,Of];simpa using e
       have u:Ft p x.c=false:=by unfold Ft;rw[A];simpa using e
       have ac:MX p q x=x:=by unfold MX;rw[AC (by rw[u];decide)]
       have r:=J (HA.o x U C (by rw[an.o];exact Iy));have key:=jn p q T.o;rw[ac]at key;rw[<-key]at r;have am:Hid (∀(j:Nat) y,j<k+1->l[j]?=some y->Ft p y.c=true->EO (IQ p q y.c)=true):=J (λj y hj n s=>by
        by_cases e:j=k
        .subst e;rw[T.o]at n;cases n;rw[u]at s;cases s
        exact Hn.o j y U n s)
       unfold Jg at r;rw[<-K.o,<-HD.o]at r;clear HA HC u ac e ai au aA A ae key;go_wp2_with fail;refine r.o.l ?_;rintro e w5 ⟨a8,v5,rfl,F⟩;have ah:=J (ao.o.i a8.b);have af:Hid (w5.ownsRow w.heap.size 39 5 v5 (k+1) (FF (Ep ((l.map (MX p q)).take (k+1))))):=J (by rw[Vi,Ac,B0,Bz hk]at F;exact NV F U)
       clear a8 F;go_wp2;go_roundw
       case rel=>exact⟨k+1,by omega,by go_num,ah,af,am⟩
       case measure=>simp[intOf];omega
      have aG:(b.toList==f.toList)=true:=by rw[K.o,R.o,Of];simpa using e
      have u:Ft p x.c=true:=by unfold Ft;rw[Bj e];rfl
      clear e
     all_goals
      have a9:=HC.o u;have aa:=λV=>DS (P:=prog) V z0Y (b.extract f.size b.size) (by rw[HY.o,EF];omega) (by rw[ByteArray.size_extract];omega);rw[a9]at aa;have aN:f.size<=b.size:=by rw[R.o,K.o,EF,EF];have:=AX List.length (RS u).1;simp at this;omega
      have aB:(f.size:Int)<=(b.size:Nat):=U;have aj:=J (λV=>SU (IQ p q x.c) V ai);obtain⟨M,hM⟩:=E (X (IQ p q x.c));rw[<-hM]at aa aj;have ax:=J u;have HM:=J hM;clear hM a9 HC u A ae ai;have g1:=NO 1 R2.o;have g2:=NO 2 R2.o;have g0:=NO 0 Q2.o;have f0:=Fg 0 Q2.o;have f1:=Fg (w:=C.drew) 0 Q2.o;obtain⟨L,N⟩:=E ((C.setCell (O wr.heap.size 0) (.string M)).drew);have q3:L.heap[wr.heap.size]?=_:=(by rw[N];rfl:L.heap[wr.heap.size]?=(C.setCell (O wr.heap.size 0) (.string M)).heap[wr.heap.size]?).i (Qe (W:=(C.setCell (O wr.heap.size 0) (.string M))) I Q2.o);simp only[Ar,CL,CM]at q3;have ar:Hid (Below W.heap.size W L):=J (by rw[N];exact(ao.o.c EL).drew);have az:Hid (Below wr.heap.size wr L):=J (by rw[N,an.o];exact(Iy.c EJ).drew);have aO:L.heap.size=wr.heap.size+1:=by rw[N];simpa using aE
      obtain⟨_,_,_,_,t4⟩:=Gh q3;have Q3:=J q3;have ay:=J N;clear N q3;go_wp2_with fail;go_region;rw[<-ay.o];go_wp2_with fail;refine(aj.o L).l ?_;rintro e w4 ⟨G,_,rfl,_⟩;cases m:EO (IQ p q x.c)
      .have hF:=HG.o;rw[AD (show Ni l p q=true by unfold Ni;exact Ap.2 ⟨x,AY T.o,by rw[AV];exact⟨ax.o,by rw[m];rfl⟩⟩)]at hF;subst hF;have HE:=J (t.o.i ((ar.o.i G.b).l t.o.size));clear G m;go_wp2;go_ret2;exact Iq.no HE.o EB
      have ac:MX p q x=⟨IQ p q x.c,x.d,x.data,x.a,x.b⟩:=by unfold MX;rw[AD ax.o];rfl
      have r:=J (HA.o ⟨IQ p q x.c,x.d,x.data,x.a,x.b⟩ (by show(IQ p q x.c).length<=_;exact Dz (VX m)) w4 (az.o.i G.b));have key:=jn p q T.o;rw[ac]at key;rw[<-key]at r;have am:Hid (∀(j:Nat) y,j<k+1->l[j]?=some y->Ft p y.c=true->EO (IQ p q y.c)=true):=J (λj y hj n s=>by
       by_cases e:j=k
       .subst e;rw[T.o]at n;cases n;exact m
       exact Hn.o j y U n s)
      unfold Jg at r;dsimp only at r;rw[<-HM.o,<-HD.o]at r;have q4:=(G.u wr.heap.size U).i Q3.o;obtain⟨_,_,_,_,_⟩:=Gh q4;have aD:=J (ar.o.i G.b);have aJ:=G.size;clear HA ac m key G q4 aj;go_wp2_with fail;refine r.o.l ?_;rintro e w5 ⟨a8,v5,rfl,F⟩;have ah:=J (aD.o.i a8.b);have af:Hid (w5.ownsRow w.heap.size 39 5 v5 (k+1) (FF (Ep ((l.map (MX p q)).take (k+1))))):=J (by rw[Vi,Ac,B0,Bz hk]at F;exact NV F U)
      clear a8 F;go_wp2;go_roundw
      case rel=>exact⟨k+1,by omega,by go_num,ah,af,am⟩
      case measure=>simp[intOf];omega
    have hF:=HG.o;rw[AC (λe=>by obtain⟨x,H,e2⟩:=Ap.1 e;obtain⟨j,hj,rfl⟩:=BY H;rw[AV]at e2;have:=Hn.o j _ U (AE hj) e2.1;rw[this]at e2;exact absurd e2.2 EB)]at hF
    subst hF;have HE:=J (Iq.yes (L:=Ep (l.map (MX p q))) (t.o.i (S.o.l t.o.size)) (by have:=Ho.o;rw[AT EL]at this;exact this) (AB _));go_wp2;go_ret2;exact HE.o
   rw[s,AD I]at hF;subst hF;go_wp2;go_ret2;exact Iq.no t.o EB
  rw[e2]at hF;rw[AD (show(some x).isSome=true from I)]at hF;subst hF;rw[e1];cases KJ q p;all_goals
   go_wp2;go_ret2;exact Iq.no t.o EB
 have hF:=HF.o;rw[AC h0]at hF;subst hF;go_wp2;go_ret2;exact Iq.no t.o h0
end
section
open Go.RowKit Go.Nt
theorem Iq.ret{w w':Z}{a:Int}{L:List It}{e:Ending}(h:Iq w a L e w'):∃v x,e=.a (.tuple #[v,.a x]):=by
 by_cases b:a=0
 .obtain⟨v,rfl,_⟩:=h.2.2 b;exact⟨_,_,I⟩
 exact⟨_,_,h.2.1 b⟩
theorem Iq.up{w W w':Z}{a:Int}{L:List It}{e:Ending}(h:Iq W a L e w')(b:Below w.heap.size w W):Iq w a L e w':=
 ⟨b.i (h.1.l b.size),h.2.1,λc=>by obtain⟨v,e,d⟩:=h.2.2 c;exact⟨v,e,NV d b.size⟩⟩
def Od(l:List It)(k:Int)(p t d:Bs)(a c:Int):Int:=
 if IU k p t a c then(if Gq l (p.length+1) p=0 then
  (if k=1 then Nw l p d else if k=4 then(if(at? l p).isSome then 5 else if 60<=l.length then 8 else 0)else
    match at? l p with
    | none=>4
    | some x=>if k=5 then 0 else if k=6 then(if l.any (λy=>decide (par y.c=p))then 7 else 0)else if k=7 then LF l p t else if k=2 then UH x a.toNat d else Ml x a.toNat)
  else Gq l (p.length+1) p)else 1
def MV(l:List It)(k:Int)(p t d:Bs)(a c:Int):List It:=
 if k=1 then ins (Kw l p) (I0 l p d)else if k=4 then ins l (Ii p)else
  match at? l p with
  | none=>[]
  | some x=>if k=5 then ins (Kw l p) {x with a:=a,b:=c}else if k=6 then Kw l p else if k=7 then Ep (l.map (MX p t))else if k=2 then ins (Kw l p) (VU x a.toNat d)else ins (Kw l p) {x with data:=sizedB x.data a.toNat}
structure lV (l:List It):Prop where
 nd:(l.map (·.c)).Nodup
 len:l.length<=60
 p:∀y∈l,y.c.length<=255
 d:∀y∈l,y.data.length<=4000
theorem vK(v:Value)(l:List It)(B:Nat)(k:Int)(p t d:Bs)(a c:Int)(w:Z)(hv:w.ownsRow B 39 5 v l.length (FF l))(o:lV l)(h1:1<=k)(h7:k<=7)(hp:p.length<=1048576)(ht:t.length<=1048576)(hd:d.length<=1048576)(ha:a<=9223372036854775807):Calls prog 108 #[v,Nx k p t d a c] w λe w'=>Iq w (Od l k p t d a c) (MV l k p t d a c) e w':=by
 obtain⟨W,hW⟩:=E (w.alloc (.cells (KU k p t d a c).toArray 164));have hB:=JK hW;have hs:=Ia hW;have K:=Gi hW;change Hid _ at hB hW;have HQ:=J K;have HR:=J (xK k p t d a c W h1 h7 hp ht);obtain⟨F,hF⟩:=E (Od l k p t d a c);obtain⟨L,b⟩:∃F,F=MV l k p t d a c:=⟨_,I⟩;rw[<-hF,<-b];unfold Od at hF;unfold MV at b;obtain⟨ad,cap,rfl⟩:=ZX hv;have HI:=J (λV (N:Below w.heap.size w V)=>Wl ad cap l V ((XN hv).f N) (Dz o.len) p.length p (AB _) hp);have Hf:=J (λV (N:Below w.heap.size w V)=>QY ad cap l p V ((XN hv).f N) (Dz o.len));have M:=J (λV (N:Below w.heap.size w V)=>MF hv λg hg=>N.u g (hv.lt g hg).2);unfold Nx at HR |-;unfold KU at K hW HQ HR |-;obtain⟨z0E,hE⟩:=E (Gq l (p.length+1) p);rw[<-hE]at HI hF;obtain⟨u,H⟩:=E (X p);obtain⟨z0Y,hY⟩:∃u,u=X t:=⟨_,I⟩;obtain⟨D,hD⟩:∃u,u=X d:=⟨_,I⟩;rw[<-H,<-hY,<-hD]at K hW HQ HR |-;rw[<-H]at HI Hf;change Hid _ at H hY hD;have c0:=EV 0 K;have c1:=EV 1 K;have c2:=EV 2 K;have c3:=EV 3 K;have c4:=EV 4 K;have c5:=EV 5 K;have aB:Hid (IU k p t a c=true->EO p=true):=J (λh=>by unfold IU at h;rw[AV]at h;exact h.1);have aA:Hid (IU 7 p t a c=true->EO t=true):=J (λh=>by unfold IU at h;rw[AV]at h;simpa using h.2);have aw:Hid (IU k p t a c=true->k=2\/k=3->0<=a):=J (λh h2=>by unfold IU at h;rw[AV,AD h2]at h;simpa using h.2);have HF:=J hF;have Q:=J b;clear K hF b hE hv;go_enter func108,ntmps108;go_wp2_with rw[<-hW.o];refine HR.o.l ?_;rintro e f ⟨ag,rfl⟩;have q2:=(ag.u w.heap.size U).i HQ.o;have m:=J (hB.o.i ag.b);have Q2:=J q2;have d0:=EV 0 q2;have d1:=EV 1 q2;have d2:=EV 2 q2;have d3:=EV 3 q2;have d4:=EV 4 q2;have d5:=EV 5 q2;have ay:=ag.size;rw[hs]at ay;clear c0 c1 c2 c3 c4 c5 ag q2 HR HQ hB;cases P:IU k p t a c
 .have hF:=HF.o;rw[P,AC EB]at hF;subst hF;clear P;go_wp2;go_ret2;exact Iq.no m.o EB
 have hF:=HF.o;rw[P,AD I]at hF;have aE:=VX (aB.o P);go_wp2_with fail;refine zJ (HI.o _ m.o) ?_;by_cases h0:z0E=0;rotate_left
 .rw[AC h0]at hF;subst hF;clear P;go_wp2;go_ret2;exact Iq.no m.o h0
 subst h0;rw[AD I]at hF;go_wp2_with fail;refine zJ (Hf.o _ m.o) ?_;have S:=J hF;change Hid _ at P;clear hF HF HI Hf;rcases kinds h1 h7 with rfl|rfl|rfl|rfl|rfl|rfl|rfl
 .have hF:=S.o;have b:=Q.o;rw[AD I]at hF b;subst hF b;have A:=J (rm _ l B p t d a c f (M.o f m.o) o.nd o.len o.p U hd);unfold Nx KU at A;rw[<-H.o,<-hY.o,<-hD.o]at A;go_wp2_with fail;refine A.o.l ?_;rintro e w3 s;obtain⟨v3,x3,rfl⟩:=s.ret;have G:=J (s.up m.o);clear s A;go_wp2;go_ret2;exact G.o
 .have hF:=S.o;have b:=Q.o;rw[AC EB,AC EB]at hF b;rcases P6 l p with⟨e1,e2⟩|⟨j,x,e1,r,e2⟩
  .rw[e2]at hF;dsimp only at hF;subst hF;rw[e1];go_wp2;go_ret2;exact Iq.no m.o EB
  have C:=(Ji e2).2;rw[e2]at hF b;dsimp only at hF b;rw[AC EB,AC EB,AC EB,AD I]at hF b;obtain⟨n,rfl⟩:=As (aw.o P.o (.w I));subst hF b;have A:=J (nw _ l B p t d n c f (M.o f m.o) o.nd o.len o.p o.d r U hd);rw[C]at A;unfold Nx KU at A;rw[<-H.o,<-hY.o,<-hD.o]at A;rw[e1];dsimp only[Int.toNat_natCast];go_wp2_with fail;refine A.o.l ?_;rintro e w3 s;obtain⟨v3,x3,rfl⟩:=s.ret;have G:=J (s.up m.o);clear s A;go_wp2;go_ret2;exact G.o
 .have hF:=S.o;have b:=Q.o;rw[AC EB,AC EB]at hF b;rcases P6 l p with⟨e1,e2⟩|⟨j,x,e1,r,e2⟩
  .rw[e2]at hF;dsimp only at hF;subst hF;rw[e1];go_wp2;go_ret2;exact Iq.no m.o EB
  have C:=(Ji e2).2;rw[e2]at hF b;dsimp only at hF b;rw[AC EB,AC EB,AC EB,AC EB]at hF b;obtain⟨n,rfl⟩:=As (aw.o P.o (.s I));subst hF b;have A:=J (nE _ l B p t d n c f (M.o f m.o) o.nd o.len o.p o.d r U);rw[C]at A;unfold Nx KU at A;rw[<-H.o,<-hY.o,<-hD.o]at A;rw[e1];dsimp only[Int.toNat_natCast];go_wp2_with fail;refine A.o.l ?_;rintro e w3 s;obtain⟨v3,x3,rfl⟩:=s.ret;have G:=J (s.up m.o);clear s A;go_wp2;go_ret2;rw[C];exact G.o
 .have hF:=S.o;have b:=Q.o;rw[AC EB,AD I]at hF b;rcases P6 l p with⟨e1,e2⟩|⟨j,x,e1,r,e2⟩
  .rw[e2]at hF;rw[AC EJ]at hF;rw[e1];by_cases h6:60<=l.length
   .rw[AD h6]at hF;subst hF;have ax:(60:Int)<=(l.length:Nat):=U;go_wp2;go_ret2;exact Iq.no m.o EB
   rw[AC h6]at hF;subst hF b;have ax:¬(60:Int)<=(l.length:Nat):=U;have A:=J (IZ _ l (Ii p) B f (M.o f m.o) U (by show p.length<=_;omega) (λz hz=>AG (o.p z hz) U));unfold Jg Ii at A;dsimp only at A;rw[<-H.o]at A;go_wp2_with fail;refine A.o.l ?_;rintro e w3 ⟨af,v3,rfl,ac⟩;have G:=J ((Iq.yes af ac (AB _)).up m.o);clear af ac A;go_wp2;go_ret2;exact G.o
  rw[e2]at hF;rw[AD (show(some x).isSome=true from I)]at hF;subst hF;rw[e1];go_wp2;go_ret2;exact Iq.no m.o EB
 .have hF:=S.o;have b:=Q.o;rw[AC EB,AC EB]at hF b;rcases P6 l p with⟨e1,e2⟩|⟨j,x,e1,r,e2⟩
  .rw[e2]at hF;dsimp only at hF;subst hF;rw[e1];go_wp2;go_ret2;exact Iq.no m.o EB
  have C:=(Ji e2).2;rw[e2]at hF b;dsimp only at hF b;rw[AD I]at hF b;subst hF b;have hk:=(AN.1 r).1;have ao:(j:Int)<(l.length:Nat):=U;obtain⟨g,ah,e,_,hg,_,_,hc⟩:=(PT (M.o f m.o)).resolve_left (λe=>by rw[e.2]at hk;simp at hk);cases e;have az:F6 f g (j*5) x:=by have:=hc j x r;rwa[Ak]at this
  have R:=J (λV (N:Below f.heap.size f V)=>Vr (M.o f m.o) o.nd o.len o.p r V N {x with a:=a,b:=c} (o.p x (AY r)));rw[C]at R;unfold Jg at R;dsimp only at R;obtain⟨x0,x1,x2,x3,x4⟩:=az;rw[C]at x0;change Hid _ at C;rw[<-H.o]at R x0;obtain⟨z0Z,hZ⟩:=E (X x.data);rw[<-hZ]at R x2;obtain⟨W3,a7⟩:=E (f.alloc (.cells #[.string u,.bool x.d,.string z0Z,.a x.a,.a x.b] 39));have q3:=Gi a7;have r3:=(a7 ▸ Jm (by omega):W3.heap[w.heap.size]?=f.heap[w.heap.size]?).i Q2.o;obtain⟨W4,a9⟩:∃W,W=W3.setCell (O f.heap.size 3) (.a a):=⟨_,I⟩;have q4:=Qe a9 q3;have r4:=(by rw[a9];exact AH _ _ _ _ (by simp;omega):W4.heap[w.heap.size]?=W3.heap[w.heap.size]?).i r3;obtain⟨W5,ae⟩:∃W,W=W4.setCell (O f.heap.size 4) (.a c):=⟨_,I⟩;have q5:=Qe ae q4;simp only[Ar,CL,CM]at q4 q5;have ar:Hid (Below f.heap.size f W5):=J (by rw[ae,a9,a7];exact(Iy.c EJ).c EJ);have aD:W5.heap.size=f.heap.size+1:=by rw[ae,a9,a7];simp
  obtain⟨y0,y1,y2,y3,y4⟩:=Gh q3;have f3:=Fg 3 q3;have f4:=Fg 4 q4;have aH:=EV 4 q4;have u4:=EV 4 r3;have u5:=EV 5 r4;obtain⟨z0,z1,z2,z3,z4⟩:=Gh (V:=W5.drew) q5;have am:=J (R.o W5.drew ar.o.drew);have Q5:=J q5;change Hid _ at a7 a9 ae;rw[e1];clear hZ q3 q4 q5 r3 r4 hc r R e1 e2;go_wp2_with (first|(rw[<-a7.o])|(rw[<-a9.o])|(rw[<-ae.o])|fail);go_region_held3 (λV=>V.cell? (O f.heap.size 0)=some (.string u)/\V.cell? (O f.heap.size 1)=some (.bool x.d)/\V.cell? (O f.heap.size 2)=some (.string z0Z)/\V.cell? (O f.heap.size 3)=some (.a a)/\V.cell? (O f.heap.size 4)=some (.a c)) (go_keep) (first
   | (go_at_call 162;refine am.o.l ?_;rintro e w4 ⟨a8,v4,rfl,av⟩;have q4:=(a8.u f.heap.size EL).i Q5.o;have u0:=Gh q4)
   | (go_at_call 155;refine(av _ (AP _ _)).l ?_;rintro e w5 ⟨ai,v5,rfl,n5,an⟩;have q5:=(ai.u f.heap.size (by have:=a8.size;simp at this;omega)).i q4;have r0:=Gh q5))
  rename_i hHeld;clear hHeld;have H5:=J ((Iq.yes (ar.o.i (((AP W5.heap.size W5).drew.i (a8.i (ai.l a8.size))).l U)) an (by have:=a8.size;simp at this;omega)).up m.o);clear a8 ai an av q4 q5 am;go_wp2;go_ret2;rw[C.o];exact H5.o
 .have hF:=S.o;have b:=Q.o;rw[AC EB,AC EB]at hF b;rcases P6 l p with⟨e1,e2⟩|⟨j,x,e1,r,e2⟩
  .rw[e2]at hF;dsimp only at hF;subst hF;rw[e1];go_wp2;go_ret2;exact Iq.no m.o EB
  have C:=(Ji e2).2;rw[e2]at hF b;dsimp only at hF b;rw[AC EB,AD I]at hF b;subst b;have hk:=(AN.1 r).1;obtain⟨g,ah,e,_,hg,_,_,hc⟩:=(PT (M.o f m.o)).resolve_left (λe=>by rw[e.2]at hk;simp at hk);cases e;change Hid _ at hc;have HG:=J hF;have au:=J (λV (N:Below w.heap.size w V)=>eN _ l B j V (M.o V N) (Dz o.len) hk);rw[Xc o.nd r,C]at au;rw[e1];have aG:=o.len;clear hF r e1 e2 C;go_wp2;go_loopw [10] (λi wr=>∃k:Nat,k<=l.length/\i=.a k/\Hid (Below f.heap.size f wr)/\Hid (∀(j:Nat) y,j<k->l[j]?=some y->par y.c≠p)) (λi _=>l.length-(intOf i).toNat)
  case atStart=>exact⟨0,AW _,I,J (AP _ _),J (λj x h=>absurd h U)⟩
  obtain⟨k,aF,rfl,Hb,Hn⟩:=hrel;by_cases ao:k<l.length
  .obtain⟨y,hy⟩:∃y,l[k]?=some y:=⟨_,AE ao⟩;have y0:wr.cell? (O g (k*5))=some (.string (X y.c)):=by have:=((hc.o k y hy).f Hb.o hg).1;rwa[Ak]at this
   have b1:=EV 1 ((Hb.o.u w.heap.size U).i Q2.o);have HP:=J (λV=>V9 y.c V (Dz (o.p y (AY hy))));have i1:(0:Int)<=(k:Nat):=U;have i2:(k:Int)<(l.length:Nat):=U;have i3:(k:Int).toNat=k:=U;change Hid _ at hy;have a4:((X (par y.c)).toList==u.toList)=decide (par y.c=p):=by rw[H.o,Of]
   generalize hq:par y.c=q at HP a4;change Hid _ at hq;generalize X y.c=z0Z at HP y0;generalize X q=T at HP a4;by_cases aa:q=p
   .rw[Bj aa]at a4;have hF:=HG.o;rw[AD (Ap.2 ⟨y,AY hy.o,by rw[hq.o];exact Bj aa⟩)]at hF;subst hF;clear aa;go_wp2;go_quiet (first|(go_at_call 153;refine Ai (HP.o _)));have HE:=J (m.o.i ((below_drewN Hb.o nq).l m.o.size));go_wp2;go_ret2;exact Iq.no HE.o EB
   rw[BZ aa]at a4;have aC:Hid (∀(j:Nat) y,j<k+1->l[j]?=some y->par y.c≠p):=J (λj z hj hz=>by
    by_cases e:j=k
    .subst e;rw[hy.o]at hz;cases hz;rw[hq.o];exact aa
    exact Hn.o j z U hz)
   clear aa;go_wp2;go_quiet (first|(go_at_call 153;refine Ai (HP.o _)));have HE:=J (below_drewN Hb.o nq);go_wp2;go_roundw
   case rel=>exact⟨k+1,by omega,by go_num,HE,aC⟩
   case measure=>simp[intOf];omega
  have hF:=HG.o;rw[AC (λe=>by obtain⟨x,r,e2⟩:=Ap.1 e;obtain⟨i,hi,rfl⟩:=BY r;exact Hn.o i _ U (AE hi) (EU e2))]at hF
  subst hF;have aj:=J (m.o.i (Hb.o.l m.o.size));go_wp2_with fail;refine(au.o wr aj.o).l ?_;rintro e w3 ⟨af,v3,rfl,ac⟩;have G:=J ((Iq.yes af ac (AB _)).up aj.o);clear af ac;go_wp2;go_ret2;exact G.o
 have hF:=S.o;have b:=Q.o;rw[AC EB,AC EB]at hF b;rcases P6 l p with⟨e1,e2⟩|⟨j,x,e1,r,e2⟩
 .rw[e2]at hF;dsimp only at hF;subst hF;rw[e1];go_wp2;go_ret2;exact Iq.no m.o EB
 have C:=(Ji e2).2;rw[e2]at hF b;dsimp only at hF b;rw[AC EB,AC EB,AD I]at hF b;subst hF b;have A:=J (wB _ l B p t d a c f (M.o f m.o) o.len o.p U (Dz (VX (aA.o P.o))));unfold Nx KU at A;rw[<-H.o,<-hY.o,<-hD.o]at A;rw[e1];go_wp2_with fail;refine A.o.l ?_;rintro e w3 s;obtain⟨v3,x3,rfl⟩:=s.ret;have G:=J (s.up m.o);clear s A;go_wp2;go_ret2;exact G.o
variable {l:List It} {x:It} {p:Bs}
def QB(l:List It)(k:Int)(p t d:Bs)(a c:Int):Int:=
 if k=1 then Ld l p d else if k=2 then Ja l p a d else if k=3 then Nr l p a else if k=4 then Kv l p else if k=5 then LU l p a c else if k=6 then PH l p else Jv l p t
def QG(l:List It)(k:Int)(p t d:Bs)(a c:Int):List It:=
 if k=1 then En l (I0 l p d)else if k=2 then LM l p a d else if k=3 then En l (P3 l p a)else if k=4 then En l (Ii p)else if k=5 then En l (Mf l p a c)else if k=6 then l.filter (λy=>decide (y.c≠p))else Im l p t
theorem gE(a:(l.map (·.c)).Nodup)(y:It):ins (Kw (Eg l) y.c) y=Eg (En l y):=by have b:QS (Kw (Eg l) y.c):=(Rl l a).filter _;refine UP ?_ (iz b λ_ c=>by simpa using(Ad.1 c).2) (Rl _ (TA a y));refine(Z9 _ y).i (List.Perm.i ?_ (MQ _).A);unfold En Kw;exact((((MQ l).filter _).cons y).i (List.perm_append_singleton y _).A)
theorem qj(a:(l.map (·.c)).Nodup)(p:Bs):Kw (Eg l) p=Eg (l.filter λy=>decide (y.c≠p)):=
 UP (((MQ l).filter _).i (MQ _).A) ((Rl l a).filter _) (Rl _ (XK a _))
theorem set_self(c:(l.map (·.c)).Nodup)(g:x∈l):Eg (En l x)=Eg l:=by
 have k:l.Nodup:=Dm (·.c) (λa b d e=>d (by rw[e])) c;have j:(En l x).Nodup:=Dm (·.c) (λa b d e=>d (by rw[e])) (TA c x);refine UP (((MQ _).i ((Cp j k).2 λy=>?_)).i (MQ _).A) (Rl _ (TA c x)) (Rl _ c);rw[mem_set];constructor
 .rintro(h|rfl)
  .exact h.1
  exact g
 intro i;by_cases e:y.c=x.c
 .right;have f:=at_mem c i;rw[e,at_mem c g]at f;exact(Cs f).A
 exact .w ⟨i,e⟩
theorem XS(a:EX l)(b:EO p=true):Gq (Eg l) (p.length+1) p=Ei l p:=by rw[Zb a.a p.length p (AB _) (Vf b)];exact Vx a.nodup p _ _
theorem ia(b:EX l)(h:FN l p=0):EO p=true/\Ei l p=0/\OX l p=true:=by
 unfold FN at h;split at h
 .rename_i a;exact⟨a,h,by rw[Vl l p b.nodup];simpa using h⟩
 cases h
theorem EX.upd(b:EX l)(h:Et l p=0)(c:at? l p=some x)(y:It)(a:y.c=p)(g:y.d=x.d)(i:Es y=true):EX (En l y):=by obtain⟨_,_,f⟩:=TR h;refine b.set y i (by rw[a];exact(ia b f).2.2) (λ_ d e=>?_) (.w (by rw[a,c];rfl));rw[a,c]at d;cases d;rw[g];exact e
theorem Fl:Es x=true↔EO x.c=true/\x.data.length<=4000/\(x.d=true->x.data=[])/\(0<=x.a/\x.a<=4095)/\0<=x.b/\x.b<=2147483647:=by
 unfold Es;simp only[AV,BJ];constructor
 .rintro⟨⟨⟨⟨⟨⟨b,c⟩,a⟩,d⟩,f⟩,g⟩,h⟩;exact⟨b,c,λe=>by rw[e]at a;simpa using a,⟨d,f⟩,g,h⟩
 rintro⟨b,c,a,⟨d,f⟩,g,h⟩;refine⟨⟨⟨⟨⟨⟨b,c⟩,?_⟩,d⟩,f⟩,g⟩,h⟩;cases e:x.d
 .rfl
 rw[a e];rfl
theorem Zp(h:FQ l p=0):Et l p=0/\∃x,at? l p=some x/\x.d=false/\FU l p=nd x:=by
 unfold FQ at h;by_cases a:Et l p=0
 .rw[AD a]at h;obtain⟨x,b,_⟩:=TR a;refine⟨a,x,b,?_,?_⟩
  .rw[b]at h;cases c:x.d
   .rfl
   dsimp only at h;rw[c]at h;simp at h
  unfold FU FQ;rw[AD a,b];rw[b]at h;dsimp only at h |-;rw[AD h]
 rw[AC a]at h;exact absurd h a
theorem EX.file(f:EX l){b:Bs}(h:FQ l p=0)(i:b.length<=4000):EX (En l (JQ l p b)):=by
 obtain⟨k,x,d,j,a⟩:=Zp h;have c:=Fl.1 (f.ok x (Ji d).1);have g:=(Ji d).2;refine f.upd k d _ I (by unfold JQ;rw[a];rfl) (Fl.2 ⟨by show EO p=true;rw[<-g];exact c.1,i,λe=>?_,?_,?_⟩)
 .unfold JQ at e;rw[a]at e;have:x.d=true:=e;rw[j]at this;cases this
 .unfold JQ;rw[a];exact c.2.2.2.1
 unfold JQ;rw[a];exact c.2.2.2.2
variable {p q r:Bs} {l:List It}
theorem WV:∀(q t:Bs),split (q++47::t)=split q++split t
 | [],t=>by rw[BB,NU];rfl
 | c::q,t=>by
   by_cases h:c=47
   .subst h;rw[Az,NU,NU,WV q t];rfl
   obtain⟨n,a,e⟩:=Oc q;have e2:split (q++47::t)=n::(a++split t):=by rw[WV q t,e];rfl
   rw[Az,NT h e2,NT h e];rfl
theorem Za:∀(q t:Bs),par (q++47::t)=q++(if t.contains 47 then 47::par t else[])
 | [],t=>by rw[BB,BB];rfl
 | c::q,t=>by
   rw[Az,par,AD EJ,Za q t];rfl
theorem JZ:EO p=true↔(split p).length<=6/\∀n∈split p,FZ n=true:=by unfold EO;rw[AV,BT,BD]
theorem lA(j:Ft p r=true)(i:EO r=true)(c:EO q=true):EO (IQ p q r)=decide ((split (IQ p q r)).length<=6):=by
 obtain⟨d,a⟩:=RS j;rcases a with a|⟨t,a⟩
 .unfold IQ;rw[a,Br,c];exact(Bj (JZ.1 c).1).A
 rw[a]at d;have e:=(JZ.1 i).2;rw[d,WV]at e;have g:IQ p q r=q++47::t:=by unfold IQ;rw[a]
 rw[CB,JZ,BT,g,WV];refine⟨λh=>h.1,λh=>⟨h,λn f=>?_⟩⟩;rcases Aj.1 f with b|b
 .exact(JZ.1 c).2 n b
 exact e n (Aj.2 (.s b))
theorem vR(h:GJ l p q=0):Ei l q=0/\KJ q p=false:=by
 obtain⟨a,b,d,f⟩:=Vz h;unfold GJ at h;rw[a,b,AD (show(true&&true)=true from I),AD d,f]at h;by_cases c:Ei l q=0
 .rw[AD c,AC EJ]at h;refine⟨c,?_⟩;cases e:KJ q p
  .rfl
  rw[e]at h;cases h
 rw[AC c]at h;exact absurd h c
theorem wM(d:EX l)(c:EO q=true):Ni (Eg l) p q=Lo l p q:=by
 unfold Ni Lo;rw[CB,Ap,Ap];have key:∀x∈l,(Ft p x.c && !EO (IQ p q x.c))=(Ft p x.c&&decide (6<(split (IQ p q x.c)).length)):=λx a=>by
  cases e:Ft p x.c
  .rfl
  rw[lA e (Fl.1 (d.ok x a)).1 c,Bool.true_and,Bool.true_and,CB];simp
 constructor
 .rintro⟨x,a,h⟩;have b:=Eo.1 a;exact⟨x,b,by rw[<-key x b];exact h⟩
 rintro⟨x,a,h⟩;exact⟨x,Eo.2 a,by rw[key x a];exact h⟩
theorem Lu:Ft p r=true↔r=p\/(p++[47]) <+: r:=by unfold Ft;rw[Ce,BT,GL]
theorem jz{z:Bs}(b:Ft p z=true)(a:(z++[47]) <+: r):(p++[47]) <+: r:=by
 rcases Lu.1 b with rfl|h
 .exact a
 exact h.i ((List.prefix_append z [47]).i a)
theorem iN(h:PL l p q):((Im l p q).map (·.c)).Nodup:=by rw[<-iB (ds:=(l.map (·.c)).filter λr=>Ft p r) (λx b=>by rw[Ad];exact⟨λe=>e.2,λe=>⟨AZ.2 ⟨x,b,I⟩,e⟩⟩)];exact h.nodup _ λr a=>(Ad.1 a).2
theorem jl(h:par r≠[]):(par r++[47]) <+: r:=ZZ r (by
 cases e:r.contains 47
 .exact absurd (UG λi a=>λe2=>by
   have:(47:UInt8)∈r:=by rw[AI,AE a]at e2;exact e2 ▸ Bn a
   rw[Bk.2 this]at e;cases e) h
 rfl)
theorem EX.PX(d:EX l)(h:Jv l p q=0):EX (Im l p q):=by
 unfold Jv at h;have f:GJ l p q=0:=by
  by_cases c:GJ l p q=0
  .exact c
  rw[AC c]at h;exact h
 rw[AD f]at h;obtain⟨u,j,_,H⟩:=Vz f;obtain⟨K,v⟩:=vR f;have L:Lo l p q=false:=by
  cases e:Lo l p q
  .rfl
  rw[e]at h;cases h
 have C:q≠[]:=λe=>by rw[e]at j;cases j
 have A:=d.mv (p:=p) C H;have F:par q=[]\/FW l (par q)=true:=fY (by rw[Vl l q d.nodup];simpa using K)
 -- what is not under p stays
 have s:∀r,FW l r=true->Ft p r=false->FW (Im l p q) r=true:=λr M a=>by
  obtain⟨z,n,e1,e2⟩:=Fv.1 M;refine Fv.2 ⟨z,AZ.2 ⟨z,n,?_⟩,e1,e2⟩;rw[AC (by rw[e1,a];decide)]
 refine⟨by unfold Im;rw[B0];exact d.len,λy m => ?_,iN A,λy m => ?_⟩
 .obtain⟨x,g,rfl⟩:=AZ.1 m;have k:=Fl.1 (d.ok x g);by_cases a:Ft p x.c=true
  .rw[AD a];refine Fl.2 ⟨?_,k.2⟩;show EO (IQ p q x.c)=true;rw[lA a k.1 j,BT];have w:=Dd.1 L x g;rw[a,Bool.true_and]at w;simp at w;omega
  rw[AC a];exact Fl.2 k
 obtain⟨x,g,rfl⟩:=AZ.1 m;by_cases a:Ft p x.c=true
 .rw[AD a];show par (IQ p q x.c)=[]\/FW (Im l p q) (par (IQ p q x.c))=true;obtain⟨o,b⟩:=RS a;rcases b with b|⟨t,b⟩
  .have:IQ p q x.c=q:=by unfold IQ;rw[b,Br]
   rw[this];rcases F with e|e
   .exact .w e
   by_cases e0:par q=[]
   .exact .w e0
   refine .s (s _ e ?_);cases e2:Ft p (par q)
   .rfl
   rw[GL.2 (jz e2 (jl e0))]at v;cases v
  right
  have f:IQ p q x.c=q++47 :: t:=by unfold IQ;rw[b]
  rw[b]at o;have i:par x.c=p++(if t.contains 47 then 47 :: par t else[]):=by rw[o,Za]
  have G:p≠[]:=λe=>by rw[e]at u;cases u
  have B:par x.c≠[]:=by rw[i];simp[G]
  obtain⟨z,n,e1,e2⟩:=Fv.1 ((d.up x g).resolve_left B);have D:Ft p z.c=true:=by
   rw[e1,i,Lu]
   split
   .exact .s ⟨par t,by simp⟩
   exact .w EJ
  refine Fv.2 ⟨Lq p q z,AZ.2 ⟨z,n,by rw[AD D]⟩,?_,e2⟩;show IQ p q z.c=_;rw[f,Za,e1,i];unfold IQ;rw[List.drop_left]
 rw[AC a];rcases d.up x g with e|e
 .exact .w e
 by_cases e0:par x.c=[]
 .exact .w e0
 refine .s (s _ e ?_);cases e2:Ft p (par x.c)
 .rfl
 exact absurd (Lu.2 (.s (jz e2 (jl e0)))) a
variable {l:List It} {p:Bs} {k:Int}
def Agree(l:List It)(z0E E':Int)(L L':List It):Prop:=z0E=E'/\(E'=0->EX L'/\L=Eg L')
theorem Q9(a:EX l)(p:Bs):at? (Eg l) p=at? l p:=UQ a.nodup p
theorem TJ(b:EX l)(p t d:Bs)(a c:Int):Agree l (Od (Eg l) 1 p t d a c) (Ld l p d) (MV (Eg l) 1 p t d a c) (En l (I0 l p d)):=by
 constructor
 .unfold Od IU Ld FN Nw;cases f:EO p
  .simp
  rw[XS b f];rw[Q9 b,KW];by_cases c:Ei l p=0
  .cases at? l p<;>simp[c]
  simp[c]
 intro h;refine⟨b.put h,?_⟩;unfold MV;rw[AD I];have:I0 (Eg l) p d=I0 l p d:=by unfold I0;rw[Q9 b]
 rw[this];have e:p=(I0 l p d).c:=by unfold I0;cases at? l p<;>rfl
 have:=gE b.nodup (I0 l p d);rw[<-e]at this;exact this
theorem MB(j:EX l){b:Bool}(n:b=true->EO p=true){e:Int}{f:It->Int}(k:b=false->e=1)(h:b=true->Et l p≠0->e=Et l p)(m:b=true->Et l p=0->∀x,at? l p=some x->e=f x):(if b then(if Gq (Eg l) (p.length+1) p=0 then(match at? (Eg l) p with | none=>4 | some x=>f x)else Gq (Eg l) (p.length+1) p)else 1)=e:=by
 cases a:b
 .rw[AC EB];exact(k a).A
 have i:=n a;rw[AD I,Q9 j,XS j i];have d:Et l p=if Ei l p=0 then(if(at? l p).isSome then 0 else 4)else Ei l p:=by unfold Et FN;rw[AD i]
 by_cases c:Ei l p=0
 .rw[AD c]at d |-;cases g:at? l p with
  |none=>rw[g]at d;exact d.A.i (h a (by rw[d];decide)).A
  |some x=>rw[g]at d;exact(m a d x g).A
 rw[AC c]at d |-;exact d.A.i (h a (by rw[d];exact c)).A
theorem Nu{t:Bs}{a c:Int}(h:IU k p t a c=true):EO p=true:=by unfold IU at h;rw[AV]at h;exact h.1
theorem Xt(h:EO p=false):Et l p=1:=by unfold Et FN;rw[h];rfl
theorem lg(h:EO p=false):FQ l p=1:=by unfold FQ;rw[Xt h];rfl
theorem fC(h:Et l p≠0):FQ l p=Et l p:=by unfold FQ;rw[AC h]
theorem kB(h:Et l p=0){x:It}(a:at? l p=some x):FQ l p=if x.d then 6 else 0:=by unfold FQ;rw[AD h,a]
theorem Vp(b:EX l){y:It}(a:y.c=p):ins (Kw (Eg l) p) y=Eg (En l y):=by rw[<-a];exact gE b.nodup y
theorem Sy(f:EX l)(p t d:Bs)(a c:Int):Agree l (Od (Eg l) 2 p t d a c) (Ja l p a d) (MV (Eg l) 2 p t d a c) (LM l p a d):=by
 have o:IU 2 p t a c=(EO p&&decide (0<=a)):=by unfold IU;rw[AD (.w I)]
 constructor
 .refine MB f (f:=λx=>UH x a.toNat d) Nu (λh=>?_) (λh b=>?_) (λh b x k=>?_)
  .rw[o,Dh]at h;unfold Ja;by_cases g:a<0
   .rw[AD g]
   rw[AC g,lg (h.resolve_right EL),AC EB]
  .rw[o,AV,BT]at h;unfold Ja;rw[AC U,fC b,AC b]
  rw[o,AV,BT]at h;unfold Ja UH;rw[AC U,kB b k];cases x.d
  .simp only[BH,CR,Dr];by_cases j:d=[]
   .rw[AD j,AC (by simp[j])]
   rw[AC j];by_cases m:4000-(d.length:Int)<a
   .rw[AD m,AD ⟨j,by omega⟩]
   rw[AC m,AC (λe=>m (Dz e.2))]
  rfl
 intro h;unfold Ja at h;have g:¬a<0:=λg=>by rw[AD g]at h;cases h
 rw[AC g]at h;have b:FQ l p=0:=by
  by_cases c:FQ l p=0
  .exact c
  rw[AC c]at h;exact absurd h c
 rw[AD b]at h;obtain⟨_,x,k,j,r⟩:=Zp b;have q:=(Ji k).1;have n:=(Ji k).2;have s:MV (Eg l) 2 p t d a c=ins (Kw (Eg l) p) (VU x a.toNat d):=by unfold MV;rw[AC EB,AC EB,Q9 f,k];rfl
 rw[s];unfold LM VU;by_cases i:d=[]
 .rw[AD i,AD i];exact⟨f,(Vp f n).i (set_self f.nodup q)⟩
 rw[AC i,AC i];rw[AC i]at h;have m:¬4000-(d.length:Int)<a:=λe=>by rw[AD e]at h;cases h
 have u:=(Fl.1 (f.ok x q)).2.1;refine⟨f.file b (by rw[gP,r];show max x.data.length _<=_;omega),?_⟩;have e:JQ l p (Gd (FU l p).data a.toNat d)={x with data:=Gd x.data a.toNat d}:=by unfold JQ Lw;rw[r,<-n];rfl
 rw[e];exact Vp f n
theorem SG(g:EX l)(p t d:Bs)(a c:Int):Agree l (Od (Eg l) 3 p t d a c) (Nr l p a) (MV (Eg l) 3 p t d a c) (En l (P3 l p a)):=by
 have k:IU 3 p t a c=(EO p&&decide (0<=a)):=by unfold IU;rw[AD (.s I)]
 constructor
 .refine MB g (f:=λx=>Ml x a.toNat) Nu (λh=>?_) (λh b=>?_) (λh b x i=>?_)
  .rw[k,Dh]at h;unfold Nr;by_cases f:a<0
   .rw[AD f]
   rw[AC f,lg (h.resolve_right EL),AC EB]
  .rw[k,AV,BT]at h;unfold Nr;rw[AC U,fC b,AC b]
  rw[k,AV,BT]at h;unfold Nr Ml;rw[AC U,kB b i];cases x.d
  .simp only[BH,CR,Dr];by_cases j:4000<a
   .rw[AD j,AD U]
   rw[AC j,AC U]
  rfl
 intro h;unfold Nr at h;have f:¬a<0:=λf=>by rw[AD f]at h;cases h
 rw[AC f]at h;have b:FQ l p=0:=by
  by_cases c:FQ l p=0
  .exact c
  rw[AC c]at h;exact absurd h c
 rw[AD b]at h;obtain⟨_,x,i,_,o⟩:=Zp b;have m:=(Ji i).2;have n:MV (Eg l) 3 p t d a c=ins (Kw (Eg l) p) {x with data:=sizedB x.data a.toNat}:=by unfold MV;rw[AC EB,AC EB,Q9 g,i];rfl
 have j:¬4000<a:=λe=>by rw[AD e]at h;cases h
 rw[n];unfold P3;refine⟨g.file b (by rw[Vy];omega),?_⟩;have e:JQ l p (sizedB (FU l p).data a.toNat)={x with data:=sizedB x.data a.toNat}:=by unfold JQ Lw;rw[o,<-m];rfl
 rw[e];exact Vp g m
theorem Sm(b:EX l)(p t d:Bs)(a c:Int):Agree l (Od (Eg l) 4 p t d a c) (Kv l p) (MV (Eg l) 4 p t d a c) (En l (Ii p)):=by
 constructor
 .unfold Od IU Kv FN;cases j:EO p
  .simp
  rw[XS b j,Q9 b,KW];by_cases c:Ei l p=0
  .simp[c]
  simp[c]
 intro h;unfold Kv at h;have i:FN l p=0:=by
  by_cases c:FN l p=0
  .exact c
  rw[AC c]at h;exact absurd h c
 rw[AD i]at h;have g:at? l p=none:=by
  cases e:at? l p with
  |none=>rfl
  |some x=>rw[e]at h;simp at h
 rw[g,AC EJ]at h;have m:¬60<=l.length:=λe=>by rw[AD e]at h;cases h
 obtain⟨k1,k2,k3⟩:=ia b i;refine⟨b.set _ (Fl.2 ⟨k1,by simp[Ii],λ_=>rfl,by simp[Ii],by simp[Ii]⟩) k3 (λy f _=>by rw[show at? l (Ii p).c=none from g]at f;cases f) (.s U),?_⟩;unfold MV;rw[AC EB,AD I];have k:Kw (Eg l) p=Eg l:=Cg.2 λy f=>Bj (GN.1 g y (Eo.1 f));have:=Vp b (y:=Ii p) (p:=p) I;rw[k]at this;exact this
theorem TV(g:EX l)(p t d:Bs)(a c:Int):Agree l (Od (Eg l) 5 p t d a c) (LU l p a c) (MV (Eg l) 5 p t d a c) (En l (Mf l p a c)):=by
 have k:IU 5 p t a c=(EO p&&(Gu a&&Gt c)):=by unfold IU;rw[AC EB,AD I]
 constructor
 .refine MB g (f:=λx=>0) Nu (λh=>?_) (λh m=>?_) (λh m x f=>?_)
  .rw[k,Dh]at h;unfold LU;cases b:Gu a&&Gt c
   .rfl
   rw[b]at h;exact Xt (h.resolve_right EB)
  .rw[k,AV]at h;unfold LU;rw[AD h.2]
  rw[k,AV]at h;unfold LU;rw[AD h.2,m]
 intro h;unfold LU at h;have b:(Gu a&&Gt c)=true:=by
  cases e:Gu a&&Gt c
  .rw[e]at h;cases h
  rfl
 rw[AD b]at h;obtain⟨x,f,_⟩:=TR h;have i:=(Ji f).2;have j:=Fl.1 (g.ok x (Ji f).1);have e:Mf l p a c={x with a:=a,b:=c}:=by unfold Mf GZ Lw;rw[AD h,f,<-i];rfl
 have n:MV (Eg l) 5 p t d a c=ins (Kw (Eg l) p) {x with a:=a,b:=c}:=by unfold MV;rw[AC EB,AC EB,Q9 g,f];rfl
 rw[n,e];rw[AV]at b;unfold Gu Gt at b;simp only[AV,BT]at b;exact⟨g.upd h f _ i I (Fl.2 ⟨j.1,j.2.1,j.2.2.1,b.1,b.2⟩),Vp g i⟩
theorem nS(k:EX l)(i:p≠[]):(Eg l).any (λy=>decide (par y.c=p))=(l.map (·.c)).any (λq=>KJ q p):=by
 rw[CB,Ap,Ap];constructor
 .rintro⟨y,a,e⟩;exact⟨y.c,AZ.2 ⟨y,Eo.1 a,I⟩,gQ (EU e) i⟩
 rintro⟨q,j,e⟩;obtain⟨y,a,rfl⟩:=AZ.1 j;have key:∀(n:Nat) (y:It),y∈l->y.c.length<=n->KJ y.c p=true->∃z∈l,par z.c=p:=by
  intro n;induction n with
  |zero=>intro y _ h c;have:=(GL.1 c).length_le;simp at this;omega
  |succ n m=>
   intro y a h c;rcases XZ _ _ (GL.1 c)with b|b
   .exact⟨y,a,b⟩
   have f:par y.c≠[]:=λe=>by rw[e]at b;have:=b.length_le;simp at this
   obtain⟨z,d,e1,_⟩:=Fv.1 ((k.up y a).resolve_left f);refine m z d ?_ (GL.2 (e1 ▸ b));have g:y.c≠[]:=λe0=>by rw[e0]at c;have:=(GL.1 c).length_le;simp at this
   have:=UM y.c g;rw[e1];omega
 obtain⟨z,d,e⟩:=key _ y a (AB _) e;exact⟨z,Eo.2 d,Bj e⟩
theorem TX(f:EX l)(p t d:Bs)(a c:Int):Agree l (Od (Eg l) 6 p t d a c) (PH l p) (MV (Eg l) 6 p t d a c) (l.filter λy=>decide (y.c≠p)):=by
 have g:IU 6 p t a c=EO p:=by unfold IU;simp
 have j:EO p=true->p≠[]:=λh e=>by rw[e]at h;cases h
 constructor
 .refine MB f (f:=λx=>if(Eg l).any (λy=>decide (par y.c=p))then 7 else 0) Nu (λh=>?_) (λh b=>?_) (λh b x i=>?_)
  .rw[g]at h;unfold PH;rw[Xt h];rfl
  .unfold PH;rw[AC b]
  rw[g]at h;unfold PH;rw[AD b,nS f (j h)]
 intro h;refine⟨f.remove h,?_⟩;unfold PH at h;have b:Et l p=0:=by
  by_cases c:Et l p=0
  .exact c
  rw[AC c]at h;exact absurd h c
 obtain⟨x,i,_⟩:=TR b;unfold MV;rw[AC EB,AC EB,Q9 f,i];exact qj f.nodup p
theorem S4(b:EX l)(p t d:Bs)(a c:Int):Agree l (Od (Eg l) 7 p t d a c) (Jv l p t) (MV (Eg l) 7 p t d a c) (Im l p t):=by
 have i:IU 7 p t a c=(EO p&&EO t):=by unfold IU;simp
 constructor
 .refine MB b (f:=λx=>LF (Eg l) p t) Nu (λh=>?_) (λh f=>?_) (λh f x o=>?_)
  .rw[i]at h;have g:GJ l p t=1:=by unfold GJ;rw[h];rfl
   unfold Jv;rw[g];rfl
  .rw[i]at h;unfold Jv GJ;rw[AD h,AC f,AC f]
  rw[i]at h;have k:=(Ab.1 h).2;unfold Jv GJ LF;rw[AD h,AD f,XS b k,Q9 b,wM b k];by_cases c:Ei l t=0
  .rw[AD c,AD c];cases at? l t with
   |some y=>rfl
   |none=>
    simp only[Option.isSome_none,BH,CR];cases KJ t p
    .simp
    simp
  rw[AC c,AC c,AC c]
 intro h;refine⟨b.PX h,?_⟩;have g:GJ l p t=0:=by
  unfold Jv at h;by_cases c:GJ l p t=0
  .exact c
  rw[AC c]at h;exact absurd h c
 obtain⟨_,m,q,r⟩:=Vz g;obtain⟨x,o,_⟩:=TR q;unfold MV;rw[AC EB,AC EB,Q9 b,o];show Ep ((Eg l).map (MX p t))=Eg (l.map (MX p t));have n:((l.map (MX p t)).map (·.c)).Nodup:=iN (b.mv (p:=p) (λe=>by rw[e]at m;cases m) r);have j:((Eg l).map (MX p t)).Perm (l.map (MX p t)):=(MQ l).map _;exact UP (((XX _).i j).i (MQ _).A) (Z0 _ (kS j.A n)) (Rl _ n)
theorem agree(b:EX l)(e:1<=k)(f:k<=7)(p t d:Bs)(a c:Int):Agree l (Od (Eg l) k p t d a c) (QB l k p t d a c) (MV (Eg l) k p t d a c) (QG l k p t d a c):=by
 rcases kinds e f with rfl|rfl|rfl|rfl|rfl|rfl|rfl
 .exact TJ b p t d a c
 .exact Sy b p t d a c
 .exact SG b p t d a c
 .exact Sm b p t d a c
 .exact TV b p t d a c
 .exact TX b p t d a c
 exact S4 b p t d a c
variable {l l':List It} {z0E:Int} {w:Z} {u:Bs->Option Bs} {fb:Nat}
structure Mt where
 a:Nat
 h:Nat
 g:Nat
 f:Nat
 d:Nat
 L:Y.Loc
 lv:Y.Lv
 j:Option Nat
 e:Option Nat
 c:Nat
 nq:Nat
 m:Y.M
 K:Nat->Bool
 Q:Nat->Bool
 b:Nat
 p:Nat
def Ll(w:Z)(fb:Nat)(M:Mt)(l:List It):Prop:=II w fb M.a M.h M.g M.f M.d M.L M.lv M.j M.e M.c M.nq M.m M.K M.Q M.b M.p l
def Mq(u:Bs->Option Bs)(w:Z)(fb:Nat)(M:Mt)(l l':List It)(z0E:Int)(e:Ending)(w':Z):Prop:=Np u w fb M.a M.h M.g M.f M.d M.L M.lv M.j M.e M.c M.nq M.m M.K M.Q M.b M.p l l' z0E e w'
theorem F0.a{b:Nat}{w':Z}{e:Ending}(h:F0 b l l' z0E w e w'):Ga (λe w'=>F0 b l l' z0E w e w') e w':=⟨⟨z0E,h.1⟩,h⟩
theorem TN(q:Ge u){W:Z}(d:Below w.heap.size w W){M:Mt}(h:Ll w fb M l)(t:EX l)(n:z0E=0->EX l')(b:ML w)(o:¬Lm fb M.a M.h M.g M.d M.j M.e 0)(r:M.b<1000)(c:M.p<=M.m.d)(C:Nat)(cap:Array Value) (k:∀a w,(callFunc C a).run prog w=.ok (.enter C a) w) (j:∀V,Below W.heap.size W V->EH V M.a l->ML V->Calls prog C (#[.e M.a]++cap) V λe w'=>Ga (λe w'=>F0 M.a l l' z0E V e w') e w'):Calls prog 89 #[.c fb,.func (.func C) #[] cap] W λe w'=>Ga (λe w'=>Mq u w fb M l l' z0E e w') e w':=by have f:=II.f h d;have m:=b.f d b.lt;refine(rM q C cap W fb _ _ _ _ _ _ _ _ _ _ _ _ _ _ _ _ l l' z0E f t n m o r c k (λV i=>(j V i (f.j.f i f.j.lt) (m.f i m.lt)).l λe w' h=>h.2)).l ?_;intro e w' c;refine⟨qx c,Np.new c d λg s=>?_⟩;obtain⟨_,_,_,_,_,p,_⟩:=h.tk g s;exact p.lt
def mF(k:Int):Nat:=if k=1 then 51 else if k=2 then 165 else if k=3 then 166 else if k=4 then 167 else if k=5 then 168 else if k=6 then 48 else 169
def mA(k:Int)(p t d:Bs)(a c:Int):Array Value:=
 if k=1 then #[.string (X p),.string (X d)]else if k=2 then #[.string (X p),.a a,.string (X d)]else if k=3 then #[.string (X p),.a a]else if k=4 then #[.string (X p)]else if k=5 then #[.string (X p),.a a,.a c]else if k=6 then #[.string (X p)]else #[.string (X p),.string (X t)]
theorem l7(q:Ge u){k:Int}(x:1<=k)(y:k<=7)(p t d:Bs)(a c:Int){M:Mt}(h:Ll w fb M l)(g:EX l)(f:ML w)(n:¬Lm fb M.a M.h M.g M.d M.j M.e 0)(r:M.b<1000)(s:M.p<=M.m.d)(v:p.length<=1048576)(lt:t.length<=1048576)(z:d.length<=1048576):Calls prog (mF k) (#[.c fb]++mA k p t d a c) w λe w'=>Ga (λe w'=>Mq u w fb M l (QG l k p t d a c) (QB l k p t d a c) e w') e w':=by
 have o:=(agree g x y p t d a c).2;rcases kinds x y with rfl|rfl|rfl|rfl|rfl|rfl|rfl
 .refine Y9 fb (X p) (X d) w λW i q1 q2=>TN q i h g (λe=>(o e).1) f n r s 92 _ (enters_of func92 EG I) λV b j m=>Yz _ _ _ _ _ V (EV 0 ((b.u _ (lt_of_heap q1)).i q1)) (EV 0 ((b.u _ (lt_of_heap q2)).i q2)) ((XL _ l p d V j g m v z).l λe w' h=>F0.a h)
 .refine Tm fb (X p) a (X d) w λW i q1 q2 q3=>TN q i h g (λe=>(o e).1) f n r s 213 _ (enters_of func213 EG I) λV b j m=>TL _ _ _ _ _ _ _ V (EV 0 ((b.u _ (lt_of_heap q1)).i q1)) (EV 0 ((b.u _ (lt_of_heap q2)).i q2)) (EV 0 ((b.u _ (lt_of_heap q3)).i q3)) ((yj _ l p a d V j g m v z).l λe w' h=>F0.a h)
 .refine Xx fb (X p) a w λW i q1 q2=>TN q i h g (λe=>(o e).1) f n r s 215 _ (enters_of func215 EG I) λV b j m=>Xq _ _ _ _ _ V (EV 0 ((b.u _ (lt_of_heap q1)).i q1)) (EV 0 ((b.u _ (lt_of_heap q2)).i q2)) ((mI _ l p a V j g m v).l λe w' h=>F0.a h)
 .refine S0 fb (X p) w λW i q1=>TN q i h g (λe=>(o e).1) f n r s 217 _ (enters_of func217 EG I) λV b j m=>SJ _ _ _ V (EV 0 ((b.u _ (lt_of_heap q1)).i q1)) ((oG _ l p V j g m v).l λe w' h=>F0.a h)
 .refine VZ fb (X p) a c w λW i q1 q2 q3=>TN q i h g (λe=>(o e).1) f n r s 219 _ (enters_of func219 EG I) λV b j m=>VG _ _ _ _ _ _ _ V (EV 0 ((b.u _ (lt_of_heap q1)).i q1)) (EV 0 ((b.u _ (lt_of_heap q2)).i q2)) (EV 0 ((b.u _ (lt_of_heap q3)).i q3)) ((tQ _ l p a c V j g m v).l λe w' h=>F0.a h)
 .refine tw fb (X p) w λW i q1=>TN q i h g (λe=>(o e).1) f n r s 90 _ (enters_of func90 EG I) λV b j m=>mL _ _ _ V (EV 0 ((b.u _ (lt_of_heap q1)).i q1)) ((vh _ l p V j g m v).l λe w' h=>F0.a h)
 refine Ui fb (X p) (X t) w λW i q1 q2=>TN q i h g (λe=>(o e).1) f n r s 221 _ (enters_of func221 EG I) λV b j m=>VL _ _ _ _ _ V (EV 0 ((b.u _ (lt_of_heap q1)).i q1)) (EV 0 ((b.u _ (lt_of_heap q2)).i q2)) ((wR _ l p t V j g m v lt).l λe w' h=>F0.a h)
end
namespace Y
open Go.RowKit Pk
open Go.Nt
theorem jA{P:M->Prop}(i:∀(m:M) (b p:Nat) x,WF m->P m->P (El m b p x).2)(d:∀(m:M) (b:Nat),WF m->P m->P (FC m b).2)(K:Nat->Bool)(s:LS)(a:WF s.m)(h:P s.m):P (F4 K s).m:=by
 have e:∀(b:Nat) (l:List Du) (m:M) (p:Nat) (S:Nat->Bool),WF m->P m->P (EY b l m p S).2.1:=by
  intro b l;induction l with
  |nil=>intro m p S _ h;exact h
  |cons x l c=>
   intro m p S a h;rw[EY];split
   .split
    .exact c _ _ _ (QC a _ _ _) (i m b p x a h)
    exact i m b p x a h
   exact h
 have g:∀s:LS,WF s.m->P s.m->P (E5 s.m K s.Q s.b).2.1:=λs a h=>by
  unfold E5;repeat' split
  .exact h
  .exact h
  .exact d _ _ a h
  exact d _ _ a h
 have f:∀(k:Nat) (s:LS),WF s.m->P s.m->P (F8 K k s).m:=by
  intro k;induction k with
  |zero=>intro s _ h;exact h
  |succ k c=>
   intro s a h;rw[F8];split
   .exact h
   refine c _ (XI K s a).2.1 ?_;have j:=Si a K s.Q s.b;unfold FB;split
   .exact e _ _ _ _ _ j (g s a h)
   exact g s a h
 unfold F4 Gy;split
 .exact f _ _ (Pa _ _ _ _ _ a) (e _ _ _ _ _ a h)
 exact f _ _ a h
def M3(m:M):Prop:=∀i q,m.c i q≠[]->q<m.d->q<m.g i
theorem M3.prog{m:M}(h:M3 m)(b p:Nat)(x:Du)(n:WF m):M3 (El m b p x).2:=by
 have key:∀(y:Du) (d:M),p=m.g b->d.c=(G8 (tick m) b p y).c->d.g=(GX (G8 (tick m) b p y) b (p+1)).g->d.d=m.d->M3 d:=λy d a e1 e2 e3 i q k j=>by
  rw[e1]at k;rw[e2];rw[e3]at j;have f:(if i=b/\q=p then y else m.c i q)≠[]:=k;show q<if i=b then p+1 else m.g i;by_cases g:i=b
  .rw[AD g];by_cases l:q=p
   .omega
   rw[AC (λe=>l e.2)]at f;have:=h i q f j;rw[g]at this;omega
  rw[AC g];rw[AC (λe=>g e.1)]at f;exact h i q f j
 rcases Qv m b p x n with⟨_,_,_,a,_,_,_,e⟩|⟨_,e|⟨e,_⟩|⟨_,_,a,_,_,c,_,⟨e,_⟩|⟨e,_⟩⟩⟩
 .exact key x _ a (by rw[e];rfl) (by rw[e]) (by rw[e];rfl)
 .rw[e];exact h
 .rw[e];exact h
 .exact key (x.take c) _ a (by rw[e];rfl) (by rw[e]) (by rw[e];rfl)
 exact key (x.take c) _ a (by rw[e];rfl) (by rw[e];rfl) (by rw[e];rfl)
theorem M3.era{m:M}(h:M3 m)(b:Nat):M3 (FC m b).2:=by
 rcases UC m b with⟨_,_,_,_,e⟩|⟨_,⟨e,_⟩|⟨e,_⟩|⟨_,_,⟨e,_⟩|⟨⟨k,e⟩,_⟩⟩⟩
 .rw[e];intro i q g f;have a:(if i=b/\q<m.d then[]else m.c i q)≠[]:=g;have d:q<m.d:=f;show q<if i=b then 0 else m.g i;by_cases c:i=b
  .rw[AD ⟨c,d⟩]at a;exact absurd I a
  rw[AC c];rw[AC (λe=>c e.1)]at a;exact h i q a d
 .rw[e];exact h
 .rw[e];exact h
 .rw[e];exact h
 rw[e];intro i q g f;have a:(if i=b/\q<k then[]else m.c i q)≠[]:=g;have d:q<m.d:=f;show q<if i=b then m.d else m.g i;by_cases c:i=b
 .rw[AD c];exact d
 rw[AC c];rw[AC (λe=>c e.1)]at a;exact h i q a d
theorem M3.lay{K:Nat->Bool}{s:LS}(h:M3 s.m)(a:WF s.m):M3 (F4 K s).m:=jA (λm b p x a h=>h.prog b p x a) (λm b a h=>h.era b) K s a h
theorem M3.E4{m:M}(h:M3 m):∀k,M3 (E4 m k).1
 |0=>h
 |k+1=>by rw[Y.E4];exact(M3.E4 h k).era k
def Pf(m:M):Prop:=∀i q i' q' a b,i<m.a->q<m.d->i'<m.a->q'<m.d->FJ (Gn m i q)=some a->FJ (Gn m i' q')=some b->a.b=b.b->a.num=b.num->a.at_=b.at_->i=i'/\q=q'
variable {m m':M} {i q:Nat} {t:Du} {K S:Nat->Bool} {ps:List (Nat×Nat)} {left:List Du} {a:Pg}
theorem ij{c n k:Nat}(d:c<256)(g:n<4294967296)(h:EK t.length<65536)(f:k<EK t.length)(e:m.c i q=Fo (IJ c n t k)):∃a,FJ (Gn m i q)=some a/\a.b=c/\a.num=n/\a.at_=k/\a.c=EK t.length:=by have b:=Vm (t:=t) d g f h;refine⟨_,by unfold Gn;rw[e,Xe (Go.Nt.GW _ b.t)];exact Wy b,I,I,I,I⟩
theorem Ff.kind{p:M}{g j:Nat}(h:Ff p K (Ej g j t) m S ps left)(s:g<256)(v:j<4294967296)(w:EK t.length<65536)(u:i<m.a)(x:q<m.d)(d:FJ (Gn m i q)=some a):(∃k:Nat,ps[k]?=some (i,q)/\a.b=g/\a.num=j/\a.at_=k)\/m.c i q=p.c i q:=by
 rcases h.e i q u x with r|⟨_,_,c,_,e⟩|e|e
 .left;obtain⟨k,o⟩:=List.getElem?_of_mem r;obtain⟨_,_,_,f,_⟩:=h.f k i q o;have l:k<EK t.length:=by have:=(AN.1 f).1;rwa[Go.Nt.Ec]at this
  have e:m.c i q=Fo (IJ g j t k):=by unfold Ej at f;rw[BI,Cf l]at f;simpa using f.A
  obtain⟨b,n,e1,e2,e3,_⟩:=ij s v w l e;rw[d]at n;cases n;exact⟨k,o,e1,e2,e3⟩
 .exfalso;unfold Gn at d;rw[e,Qc (by rw[Ac];omega)]at d;cases d
 .exfalso;unfold Gn at d;rw[e,Qc EB]at d;cases d
 exact .s e
theorem rQ(b:i<m.a)(c:q<m.d)(d:FJ (Gn m i q)=some a):Fc (Fq m) a.b a.num=true:=
 FE.2 ⟨Fp.mk' a i,GV.2 ⟨i,q,a,b,c,d,I⟩,I,I⟩
theorem Pf.lay(h:Pf m){p s:Nat}(c:Ff m K (Ej p s t) m' S ps left)(v:p<256)(w:s<4294967296)(y:EK t.length<65536)(G:Fc (Fq m) p s=false):Pf m':=by
 intro i q L M a b d f l j u o e1 e2 e3;have n:∀{i q:Nat} {a:Pg},i<m'.a->q<m'.d->FJ (Gn m' i q)=some a->m'.c i q=m.c i q->FJ (Gn m i q)=some a:=λd f r e=>by unfold Gn at r |-;rw[<-e];exact r
 have B:∀{i q:Nat} {a:Pg},i<m'.a->q<m'.d->FJ (Gn m i q)=some a->a.b=p->a.num=s->False:=λd f r N P=>by have:=rQ (by rw[<-c.a];exact d) (by rw[<-c.d];exact f) r;rw[N,P,G]at this;cases this
 rcases c.kind v w y d f u with⟨k,H,_,_,_⟩|x
 .rcases c.kind v w y l j o with⟨A,g,C,D,F⟩|z
  .have:k=A:=U;subst this;rw[H]at g;cases g;exact⟨I,I⟩
  exact(B l j (n l j o z) U U).elim
 rcases c.kind v w y l j o with⟨A,g,C,D,F⟩|z
 .exact(B d f (n d f u x) U U).elim
 exact h i q L M a b (by rw[<-c.a];exact d) (by rw[<-c.d];exact f) (by rw[<-c.a];exact l) (by rw[<-c.d];exact j) (n d f u x) (n l j o z) e1 e2 e3
structure Qm (m:M) (x y:Nat) (K:Nat->Bool) (t:Du):Prop where
 here:∃pos:Nat->Nat×Nat,∀k,k<EK t.length->(pos k).1<m.a/\(pos k).2<m.d/\(pos k).2<m.g (pos k).1/\K (pos k).1=true/\m.c (pos k).1 (pos k).2=Fo (IJ x y t k)
 pos:0<t.length
 g:EK t.length<=256
theorem jF{l:List Fp}{b n o:Nat}:∀{k:Nat} {ps:List Fp},Fz l b n o k=some ps->∀j,j<k->∃f,Ea l b n j=some f
 |0,ps,h,j,a=>absurd a (Nat.not_lt_zero _)
 | k+1,ps,h,j,a=>by
   rw[Fz]at h
   split at h
   .rename_i g f d c;by_cases e:j=k
    .subst e;exact⟨f,c⟩
    exact jF d j U
   cases h
theorem Qm.d{x y:Nat}(h:Qm m x y K t)(D:x<256)(F:y<4294967296)(P:Pf m)(M:M3 m')(l:m'.a=m.a)(d:m'.d=m.d)(Q:∀i q a,i<m'.a->q<m'.d->FJ (Gn m' i q)=some a->a.b=x->a.num=y->m'.c i q=m.c i q)(u:FK (Fq m') x y=true):Qm m' x y K t:=by
 obtain⟨pos,w⟩:=h.here;have S:=h.g;have A:∀k f,k<EK t.length->Ea (Fq m') x y k=some f->m'.c (pos k).1 (pos k).2=m.c (pos k).1 (pos k).2/\f.c=EK t.length:=λk f c j=>by
  obtain⟨f1,f2,f3,f4⟩:=Oa j;obtain⟨i,q,a,B,C,s,rfl⟩:=GV.1 f1;have e:=Q i q a B C s f2 f3;have z:FJ (Gn m i q)=some a:=by unfold Gn at s |-;rw[<-e];exact s
  obtain⟨v,o,_,_,p⟩:=w k c;obtain⟨b,r,_,_,_,L⟩:=ij D F U c p;have V:a.b=x:=f2;have W:a.num=y:=f3;have T:a.at_=k:=f4;obtain⟨e1,e2⟩:=P i q _ _ a b (by rw[<-l];exact B) (by rw[<-d];exact C) v o z r U U U;subst e1 e2;rw[z]at r;cases r;exact⟨e,L⟩
 have H:0<EK t.length:=by have:=h.pos;unfold EK;omega
 unfold FK at u;rw[AV]at u;obtain⟨_,g⟩:=Bi.1 u.2;unfold GO at g;have n:M5 (Fq m') x y≠0:=λe=>by rw[AD e]at g;cases g
 rw[AC n]at g;have N:M5 (Fq m') x y=EK t.length:=by
  unfold M5 at n |-;cases j:Ea (Fq m') x y 0 with
  |none=>rw[j]at n;exact absurd I n
  |some f=>exact(A 0 f H j).2
 rw[N]at g;refine⟨⟨pos,λk c=>?_⟩,h.pos,h.g⟩;obtain⟨f,j⟩:=jF g k c;obtain⟨v,o,_,R,p⟩:=w k c;have e:=(A k f c j).1;refine⟨by rw[l];exact v,by rw[d];exact o,M _ _ (by rw[e,p];intro e0;have G:=Vm (t:=t) D F c U;have:=Go.Nt.GW _ G.t;rw[e0]at this;simp at this) (by rw[d];exact o),R,e.i p⟩
variable {m m':M} {K Q:Nat->Bool} {u:Bs->Option Bs} {E8 N N':Nat}
theorem O5{b p:Nat}(e:WF m)(c:JX m Q b p)(j:GA m.a K<=FT m/2)(i:b<m.a)(l:p<=m.d){a:List Du}(o:∀x∈a,x.length=64)(f:0<a.length)(g:a.length<=F5 m)(s:LS)(d:s=F4 K ⟨a,m,Q,b,p,λ_=>false⟩)(k:s.left=[]):GA s.m.a s.S<=FT s.m/2\/I8 m s.m:=by
 have n:UL (nf m) K Q b p:=⟨kk e,by show(-1:Int)<0;decide,⟨c.open_,c.c⟩,j,i,l⟩;rcases lu K ⟨a,m,Q,b,p,λ_=>false⟩ e with h|h
 .exact .s (by rw[d];exact h)
 rw[<-d]at h;rcases(n.lay o f g (Lg s) h).1 with⟨_,h3⟩|⟨h3,_⟩
 .exact .w h3.g
 exact absurd k h3
structure KN (u:Bs->Option Bs) (m:M) (E8 N:Nat):Prop where
 p:O2 m
 pu:Pf m
 g:M3 m
 num:∀f∈Fq m,f.num<=N
 whole:∀x y,FK (Fq m) x y=true->∃K t l,Qm m x y K t/\Fu u (Eg l) t/\EX l/\(ER m=E8->GA m.a K<=FT m/2)
theorem Ud{x y:Nat}(h:FK (Fq m) x y=true):∃f∈Fq m,f.b=x/\f.num=y:=by unfold FK at h;rw[AV]at h;exact FE.1 h.1
theorem KN.lay(h:KN u m E8 N)(c:WF m)(V:E8<=ER m)(R:N<=N')(T:N'<4294967296){j:Nat}{t:Du}{S:Nat->Bool}{n:List (Nat×Nat)}{left:List Du}(b:Ff m K (Ej (ER m) j t) m' S n left)(B:∀i,S i=true->m.e i=false)(g:M3 m')(v:j<=N')(C:EK t.length<=256)(H:0<t.length)(A:Fc (Fq m) (ER m) j=false) (r:left=[]->∃l,Fu u (Eg l) t/\EX l/\(ER m'=E8->GA m'.a S<=FT m'/2)):KN u m' E8 N':=by
 have d:ER m<256:=by have:=FV m;exact Dz c.a
 have c:=b.FV;have Q:ER m'=E8->ER m=E8/\FT m'=FT m:=λe=>⟨by omega,by unfold FT;rw[b.a];omega⟩;refine⟨⟨WY b d U U h.p.a A,λf w=>?_⟩,h.pu.lay b d U U A,g,λf w=>?_,λx y p=>?_⟩
 .rcases b.found d U U w with⟨k,i,q,c,_,rfl⟩|c
  .obtain⟨o,_,_,_,s⟩:=b.f k i q c;rw[b.a]at o;exact O2.step b.a b.b (f:=Md (ER m) j t k i) o (AB _) (λe=>by have F:m.e i=true:=e;rw[B i s]at F;cases F)
  exact O2.step b.a b.b (IK c).2 (h.p.b f c).1 (h.p.b f c).2
 .rcases b.found d U U w with⟨k,i,q,c,_,rfl⟩|c
  .exact v
  exact AG (h.num f c) R
 by_cases v:x=ER m/\y=j
 .obtain⟨rfl,rfl⟩:=v;by_cases D:left=[]
  .subst D;obtain⟨l,k1,k2,k3⟩:=r I;have j:n.length=EK t.length:=by have G:=AX List.length b.part;rw[BX,Ec]at G;have c:=b.le;rw[Ec]at c;simp at G;omega
   refine⟨S,t,l,⟨⟨λk=>n.getD k (0,0),λk c=>?_⟩,H,C⟩,k1,k2,k3⟩;obtain⟨z,H⟩:∃z,n[k]?=some z:=⟨_,AE U⟩;obtain⟨i,q⟩:=z;have e:n.getD k (0,0)=(i,q):=by rw[AI,H];rfl
   dsimp only;rw[e];obtain⟨o,M,P,r,s⟩:=b.f k i q H;refine⟨o,M,P,s,?_⟩;unfold Ej at r;rw[BI,Cf c]at r;simpa using r.A
  rw[ky b d U U A D]at p;cases p
 have C:=WK b d U U h.p.a v p;obtain⟨L,w,l,n,o,r,s⟩:=h.whole x y C;obtain⟨f,f1,f2,f3⟩:=Ud C;have c:x<256:=Dz ((h.p.b f f1).1);have j:y<4294967296:=Dz (h.num f f1);refine⟨L,w,l,n.d c j h.pu g b.a b.d (λi q a W c g e1 e2=>?_) p,o,r,λe=>?_⟩
 .rcases b.kind d U U W c g with⟨k,_,_,_,_⟩|e
  .exact absurd ⟨by omega,by omega⟩ v
  exact e
 obtain⟨e1,e2⟩:=Q e;rw[e2,b.a];exact s e1
theorem KN.l(h:KN u m E8 N)(a:N<=N'):KN u m E8 N':={h with num:=λf b=>AG (h.num f b) a}
theorem KN.era(h:KN u m E8 N)(H:WF m)(G:E8<=ER m)(W:N<4294967296){k:Nat}(c:PK m k m' Q)(o:M3 m'):KN u m' E8 N:=by
 have s:∀f,f∈Fq m'->f∈Fq m:=λf n=>c.Fq n;have V:ER m<=ER m':=Gz c.a c.l;have r:∀i q a,i<m'.a->q<m'.d->FJ (Gn m' i q)=some a->m'.c i q=m.c i q:=λi q a g j d=>by
  rcases c.e i q with e|e
  .unfold Gn at d;rw[e,Qc EB]at d;cases d
  exact e
 have p:∀i q a,i<m'.a->q<m'.d->FJ (Gn m' i q)=some a->FJ (Gn m i q)=some a:=λi q a g j d=>by have e:=r i q a g j d;unfold Gn at d |-;rw[<-e];exact d
 refine⟨c.p h.p,λi q A B a b g j w v D F e1 e2 e3=>?_,o,λf n=>h.num f (s f n),λx y z=>?_⟩
 .exact h.pu i q A B a b (by rw[<-c.a];exact g) (by rw[<-c.d];exact j) (by rw[<-c.a];exact w) (by rw[<-c.d];exact v) (p i q a g j D) (p A B b w v F) e1 e2 e3
 have t:FK (Fq m) x y=true:=fu (λf n _ _=>s f n) h.p.a z;obtain⟨C,T,l,M,P,R,S⟩:=h.whole x y t;obtain⟨f,f1,f2,f3⟩:=Ud t;have K:x<256:=by have:=(h.p.b f f1).1;have:=FV m;exact Dz H.a
 have L:y<4294967296:=Dz (h.num f f1);refine⟨C,T,l,M.d K L h.pu o c.a c.d (λi q a g j d _ _=>r i q a g j d) z,P,R,λe=>?_⟩;have e1:ER m=E8:=U;have e2:FT m'=FT m:=by unfold FT;rw[c.a];omega
 rw[e2,c.a];exact S e1
end Y
section
open Go.RowKit Go.Nt
theorem eK{w:Z}{g n:Nat}{S:Nat->Bool}(h:Y.FI w g n S):∃es c,w.heap[g]?=some (.map es c):=by obtain⟨_,⟨es,c,a,_⟩,_⟩:=h;exact⟨es,c,a⟩
theorem jb{w:Z}{g:Nat}{l:List It}(h:EH w g l):∃es c,w.heap[g]?=some (.map es c):=by obtain⟨_,⟨es,c,a,_⟩,_⟩:=h;exact⟨es,c,a⟩
theorem Ws{w:Z}{g k:Nat}(h:∃es c,w.heap[g]?=some (.map es c)){x:Array Value}{t:TypeId}{f:Nat×Nat}(a:w.heap[k]?=some (.cells x t f)):g≠k:=by rintro rfl;obtain⟨es,c,b⟩:=h;rw[b]at a;cases a
theorem oY{w:Z}{e f lb k c a:Nat}{lv:Y.Lv}{i j:Option Nat}{b p:Nat}(h:IV w e f lb k)(g:Y.Fh w a c lv i j b p):e≠a:=by rintro rfl;have d:=h.A.i g;injection d with d;injection d with _ h2;exact absurd h2 EB
end
namespace Y
open Go.RowKit Pk
open Go.Nt
theorem L0.found{m:M}{c n:Nat}{K:Nat->Bool}{t:Du}(h:L0 m c n K t)(l:WF m):∃ps z,GO (Fq m) c n=some ps/\Fi ps=t++z/\FK (Fq m) c n=true/\(Fi ps).length<=EK t.length*51/\(∀i,LG ps i=true->K i=true)/\IW ps<m.a/\L0 m c n (LG ps) t:=by
 obtain⟨pos,d⟩:=h.here;have x:∀k,k<EK t.length->Ea (Fq m) c n k=some (Md c n t k (pos k).1):=λk a=>by obtain⟨b,v,_,_,w⟩:=d k a;have:=h.num;have:=h.g;exact h.a.look (jD (h.Qp l) U U a b v w)
 have b:=kj h.pos x;obtain⟨ps,z,e1,e2,e3,e4⟩:=h.whole l;have e:ps=(List.range (EK t.length)).map λj=>Md c n t j (pos j).1:=by rw[e1]at b;exact Cs b
 have A:0<EK t.length:=by have:=h.pos;unfold EK;omega
 have s:∀k,k<EK t.length->LG ps (pos k).1=true:=λk a=>by rw[e];unfold LG;exact Ap.2 ⟨_,AZ.2 ⟨k,Bv.2 a,I⟩,by unfold Md;simp⟩
 refine⟨ps,z,e1,e2,e3,e4,λi g=>?_,?_,⟨h.a,⟨pos,λk a=>?_⟩,h.Lx,h.b,h.Um,h.pos,h.g,h.num⟩⟩
 .unfold LG at g;rw[e]at g;obtain⟨f,y,u⟩:=Ap.1 g;obtain⟨k,a,rfl⟩:=AZ.1 y;rw[<-Cu.1 u];exact(d k (Bv.1 a)).2.2.2.1
 .have e5:ps.getLast? = some (Md c n t (EK t.length-1) (pos (EK t.length-1)).1):=by rw[e,List.getLast?_map,List.getLast?_range,AC U];rfl
  unfold IW;rw[e5];exact(d _ U).1
 obtain⟨o,p,q,_,r⟩:=d k a;exact⟨o,p,q,s k a,r⟩
end Y
section
open Go.RowKit Go.Nt
end
namespace Y
open Go.RowKit Pk
open Go.Nt
variable {u:Bs->Option Bs} {m:M} {E8 N:Nat}
theorem KN.renew(h:KN u m E8 N)(S:WF m)(d:E8<=ER m)(r:1<=N)(M:N<4294967296){t:Du}{l:List It}(hT:Fu u (Eg l) t)(ht:EX l)(z:0<t.length):KN u (Fe m t).2 E8 N:=by
 unfold Fe;by_cases L:F3 m t.length=0
 .rw[AC (by simp[L])];have b:=K0 S m.a (AB _);have o:=h.g.E4 m.a;obtain⟨a,G⟩:=E ((E4 m m.a).1);obtain⟨Q,hQ⟩:=E ((E4 m m.a).2);rw[<-G,<-hQ]at b |-;rw[<-G]at o;have w:=h.era S d M b o;have W:E8<=ER a:=AG d (Gz b.a b.l);by_cases c:F3 a t.length=0
  .rw[AC (by simp[c])];have H:=JW c;have T:EK t.length<=F5 a:=by
    unfold F3 at c;rw[AC H]at c;split at c
    .cases c
    omega
   have ag:=Kg b.wf;have ah:0<EK t.length:=by unfold EK;omega
   have h4:=b.wf.d;have A:∀y,Fc (Fq a) (ER a) y=false:=λy=>by
    cases e:Fc (Fq a) (ER a) y with
    |false=>rfl
    |true=>
     obtain⟨f,P,e1,_⟩:=FE.1 e;have aj:=(w.p.b f P).2;cases K:a.e f.d with
     |true=>exact Dz (aj K)
     |false=>obtain⟨i,p,q,g,n,j,rfl⟩:=K5.1 P;have:=(b.gone H i (by rw[b.a]at g;exact g) K).2 p (by rw[<-b.d];exact n);rw[this,Qc EB]at j;cases j
   have V:Gr a ⟨0,0,none⟩ (Fc (FD (Gn a) a.d a.a))=1:=by unfold Gr;exact Va EB (A 1)
   obtain⟨s,R⟩:=E (Km a Q t);have F:s=F4 (λ_=>false) ⟨Ej (ER a) 1 t,a,Q,a.a-1,a.d,λ_=>false⟩:=by rw[R];unfold Km IF;rw[V]
   rw[<-R];have B:JX a Q (a.a-1) a.d:=JX.shut a Q _ (λi x=>by obtain⟨g,n,j⟩:=b.c i x;exact⟨by rw[b.a];exact g,n,j⟩)
   obtain⟨_,k⟩:=fR (K:=λ_=>false) b.wf B U (AB _) (Gg (ER a) 1 t);have C:=LH (λ_=>false) ⟨Ej (ER a) 1 t,a,Q,a.a-1,a.d,λ_=>false⟩ b.wf;have D:=M3.lay (K:=λ_=>false) (s:=⟨Ej (ER a) 1 t,a,Q,a.a-1,a.d,λ_=>false⟩) o b.wf;have ai:=O5 b.wf B (by rw[UX];exact AW _) U (AB _) (Gg (ER a) 1 t) (by rw[Ec];exact ah) (by rw[Ec];exact T) s F;rw[<-F]at k C D;refine w.lay b.wf W (AB _) M k (λi x=>(C i x).resolve_left EJ) D r U z (A 1) λhl=>⟨l,hT,ht,λe=>?_⟩;rcases ai hl with v|v
   .exact v
   have:=v.ER k.b k.a;have e':ER s.m=E8:=e;omega
  rw[AD c];exact w
 rw[AD L];exact h
theorem KN.new(h:∀i q,m.c i q=[]):KN u m (ER m) N:=by
 have d:∀f,f∉Fq m:=λf c=>by obtain⟨i,p,q,_,_,g,rfl⟩:=K5.1 c;rw[h i p,Qc EB]at g;cases g
 refine⟨⟨λf c=>absurd c (d f),λf c=>absurd c (d f)⟩,λi q _ _ a b _ _ _ _ e=>?_,λi q k=>absurd (h i q) k,λf c=>absurd c (d f),λ_ y j=>?_⟩
 .unfold Gn at e;rw[h i q,Qc EB]at e;cases e
 obtain⟨f,c,_⟩:=Ud j;exact absurd c (d f)
theorem lM:∀(l:List (Nat×Nat)),l≠[]->∃c n,(c,n)∈l/\∀x∈l,x.1<c\/(x.1=c/\x.2<=n)
 | [a],_=>⟨a.1,a.2,by simp,λx d=>by simp at d;subst d;exact .s ⟨I,AB _⟩⟩
 | a::b::l,_=>by
   obtain⟨c,n,f,e⟩:=lM (b::l) EJ;by_cases h:a.1<c\/(a.1=c/\a.2<=n)
   .exact⟨c,n,By _ f,λx d=>by
     rcases Ax.1 d with rfl|d
     .exact h
     exact e x d⟩
   exact⟨a.1,a.2,List.mem_cons_self,λx d=>by
    rcases Ax.1 d with rfl|d
    .exact .s ⟨I,AB _⟩
    exact Dz (e x d)⟩
theorem KN.Xy(h:KN u m E8 N)(o:WF m)(w:N<2147483648){x y:Nat}(b:FK (Fq m) x y=true):∃c n K t l,L0 m c n K t/\Fu u (Eg l) t/\EX l/\(ER m=E8->GA m.a K<=FT m/2)/\n<=N:=by
 obtain⟨L,k⟩:=E (((Fq m).map λf=>(f.b,f.num)).filter λz=>FK (Fq m) z.1 z.2);have g:∀z:Nat×Nat,FK (Fq m) z.1 z.2=true->z∈L:=λz p=>by obtain⟨f,a,e1,e2⟩:=Ud p;rw[k];exact Ad.2 ⟨AZ.2 ⟨f,a,by rw[e1,e2]⟩,p⟩
 obtain⟨c,n,j,q⟩:=lM L (λe=>by have:=g (x,y) b;rw[e]at this;cases this);rw[k]at j;have i:FK (Fq m) c n=true:=(Ad.1 j).2;obtain⟨K,t,l,d,r,s,v⟩:=h.whole c n i;obtain⟨f,f1,f2,f3⟩:=Ud i;have A:=(h.p.b f f1).1;have B:=h.num f f1;exact⟨c,n,K,t,l,⟨h.p.a,d.here,λx y o=>q (x,y) (g (x,y) o),λf a=>(h.p.b f a).1,by omega,d.pos,d.g,by omega⟩,r,s,v,by omega⟩
end Y
section
open Go.RowKit Go.Nt
theorem vY{b:List Fp}{a:Nat}(h:∀f∈b,f.d<a)(c:0<a):IW b<a:=by
 unfold IW;cases e:b.getLast? with
 |none=>exact c
 |some f=>exact h f (List.mem_of_getLast? e)
def J8(fb:Nat)(M:Mt)(k:Nat):Prop:=Lm fb M.a M.h M.g M.d M.j M.e k\/M.lv.tk=some k
structure Qg (M:Mt):Prop where
 c:Y.JX M.m M.Q M.b M.p
 b:M.b<M.m.a
 p:M.p<=M.m.d
theorem OD.o{b r p o a:Nat}{L:Y.Loc}{m:Y.M}{j:List Fp}{F:List It}{w:Z}{e:Ending}{w':Z}(h:OD j b r m.d p F w e w')(P:Y.CP w o a p L m)(s:a<=w.heap.size)(B:Y.WF m)(q:GO (Y.Fq m) b r=some j):∃fb M,e=.a (.tuple #[.c fb,.a 0])/\Ll w' fb M F/\Qg M/\M.f=p/\M.h=o/\M.g=a/\M.L=L/\M.m=m/\M.K=LG j/\M.lv=⟨b,r,none⟩/\(∀k,J8 fb M k->((o<=k/\k<a)\/w.heap.size<=k)/\k<w'.heap.size)/\w.heap.size<=fb/\Below w.heap.size w w':=by
 obtain⟨fb,d,v,c,C,rfl,hF,u,t,_,y,A,_,H,G,hit,x⟩:=h;have n1:c≠d:=Ws (eK y) t;have S:c≠fb:=Ws (eK y) hF;have T:v≠d:=Ws (jb u) t;have V:v≠fb:=Ws (jb u) hF;have W:fb≠d:=oY hF t;have z:Y.FA w' o a p d L ⟨b,r,none⟩ (some c) none C 0 m (LG j) (λ_=>false) (IW j) m.d:=
  ⟨t,Y.EM.f P s x,B,.s ⟨c,I,y⟩,.w ⟨I,λ_=>rfl⟩,λg l=>(by cases l;exact⟨n1,by omega⟩),λg l=>(by cases l),λg l R=>(by cases R),U,AG s x.size⟩
 have D:∀k,k≠d->k≠c->w.heap.size<=k->¬Y.FY o a d (some c) none k:=λk K N _ h=>by
  rcases h with h|h|h|h
  .omega
  .exact K h
  .cases h;exact N I
  cases h
 refine⟨fb,⟨v,o,a,p,d,L,⟨b,r,none⟩,some c,none,C,0,m,LG j,λ_=>false,IW j,m.d⟩,I,⟨hF,u,z,D fb W (λe=>S e.A) A,D v T (Nat.ne_of_gt hit) H,λe=>V e.A,λg l=>by cases l⟩,⟨Y.JX.shut m _ _ (λi a=>by cases a),vY (λf Q=>(IK ((fS q).2 f Q)).2) (show 0<m.a from AQ EB B.d),AB _⟩,I,I,I,I,I,I,I,λk n=>?_,A,x⟩;rcases n with n|n
 .refine⟨?_,?_⟩
  .rcases n with(h|h|h|h)|h|h
   .exact .w h
   .exact .s (by dsimp only at h;omega)
   .cases h;exact .s G
   .cases h
   .exact .s U
   exact .s (by dsimp only at h;omega)
  rcases n with h|h|h
  .exact Y.Iz z h
  .rw[h];exact lt_of_heap hF
  rw[h];exact u.lt
 cases n
theorem KN.first{u:Bs->Option Bs}{m:Y.M}{p N:Nat}(h:Y.KN u m p N)(o:Y.WF m)(F:N<2147483648){a b j:List (Nat×Nat)}{x:Nat×Nat}{v:List It}(s:Y.Gx (Y.Fq m) a)(d:a.reverse=b++x::j)(g:∀y∈b,Jw u (Y.Fq m) y)(f:parse u (Fi (Y.GY (Y.Fq m) x.1 x.2))=some v):∃t,Y.L0 m x.1 x.2 (LG (Y.GY (Y.Fq m) x.1 x.2)) t/\Fu u (Eg v) t/\(Y.ER m=p->Y.GA m.a (LG (Y.GY (Y.Fq m) x.1 x.2))<=Y.FT m/2)/\x.2<=N:=by
 have i:x∈a:=DR.1 (by rw[d];simp);obtain⟨c,n,_,t,l,q1,q2,q3,q4,q5⟩:=h.Xy o F (s.mem i).2.2;obtain⟨G,z,w,A,_,_,B,_,D⟩:=q1.found o;have k:=q1.last o a s (λe=>by rw[e]at i;cases i);rw[List.getLast?_eq_head?_reverse,d]at k;have q:Y.GY (Y.Fq m) c n=G:=by unfold Y.GY;rw[w];rfl
 have r:parse u (Fi (Y.GY (Y.Fq m) c n))=some (Eg l):=by rw[q,A];exact iw q2 (λx i=>NR (q3.ok x (Eo.1 i))) (by rw[KW];exact Dz q3.len) z
 have C:x=(c,n):=by
  cases b with
  |nil=>simpa using k
  |cons y b=>have e:y=(c,n):=EU k;have:=g y EJ (Eg l) (by rw[e];exact r);rw[(Pu _).2 q3.a]at this;cases this
 subst C;rw[r]at f;cases f;rw[q];exact⟨t,D,by rw[ZF q3];exact q2,λe=>AG (Y.Me B) (q4 e),q5⟩
structure PC (u:Bs->Option Bs) (w:Z) (M:Mt) (l:List It) (E8 N:Nat):Prop where
 Xy:∃t,Y.L0 M.m M.lv.a M.lv.b M.K t/\Fu u (Eg l) t
 tk:tP w M.lv M.m
 g:Y.ER M.m=E8->Y.GA M.m.a M.K<=Y.FT M.m/2
 b:M.lv.b<=N
 j:Y.KN u M.m E8 N
theorem Ub{m:Y.M}{Q:Nat->Bool}{b p:Nat}(e:Y.WF m)(f:Y.JX m Q b p)(j:b<m.a)(k:p<=m.d){K:Nat->Bool}{c:List Du}(n:∀x∈c,x.length=64)(s:Y.LS)(l:s=Y.F4 K ⟨c,m,Q,b,p,λ_=>false⟩):(∃ps,Y.Ff m K c s.m s.S ps s.left)/\(Y.JX s.m s.Q s.b s.p/\s.b<s.m.a/\s.p<=s.m.d)/\Y.JX s.m s.Q b m.d:=by
 obtain⟨_,ps,a⟩:=Y.Sg (K:=K) e f j k n;have d:=Y.N6 (K:=K) (s:=⟨c,m,Q,b,p,λ_=>false⟩) e f;rw[<-l]at a d;have g:=a.b;have o:=a.p;have h:=a.lay.a;have i:=a.lay.d;refine⟨⟨ps,a.lay⟩,⟨d.1,?_,by omega⟩,?_⟩
 .rw[g,h];exact BU _ (Dz e.d)
 rw[<-i];exact Y.JX.shut _ _ _ d.1.c
theorem gY{u:Bs->Option Bs}{w:Z}{M:Mt}{l V:List It}{g N:Nat}{t:Bs}{S:Nat->Nat->Bool}(h:PC u w M l g N)(c:Y.WF M.m)(n:Qg M)(k:g<=Y.ER M.m)(a:N+800<2147483648)(o:M.m.b≠0)(R:EX V)(a3:Fu u (Eg V) t)(a4:Y.F3 M.m t.length=0)(a5:Vd w M.lv M.m S)(j:∀x,KF (S x))(s:Y.LS)(hs:s=Y.IF M.m M.lv S M.K M.Q M.b M.p t):Y.KN u s.m g (N+701)/\Y.Gr M.m M.lv S<=N+701 /\ (s.left=[]->Y.L0 s.m (Y.ER M.m) (Y.Gr M.m M.lv S) s.S t/\(Y.ER s.m=g->Y.GA s.m.a s.S<=Y.FT s.m/2)) /\ (s.left≠[]->(∀W,Y.L0 M.m M.lv.a M.lv.b M.K W->Y.L0 s.m M.lv.a M.lv.b M.K W)/\(Y.ER s.m=g->Y.GA s.m.a M.K<=Y.FT s.m/2/\s.m.b=0)) /\ (∀y,y<=4294967295->Fc (Y.Fq s.m) (Y.ER s.m) y=true->S (Y.ER s.m) y=true\/(Y.ER M.m=Y.ER s.m/\y<=Y.Gr M.m M.lv S)):=by
 obtain⟨m,lv,K,Q,b,p,a⟩:∃m lv K Q b p,M.m=m/\M.lv=lv/\M.K=K/\M.Q=Q/\M.b=b/\M.p=p:=⟨_,_,_,_,_,_,I,I,I,I,I,I⟩;obtain⟨e1,e2,e3,e4,e5,e6⟩:=a;obtain⟨⟨W,H,_⟩,d,z,a,G⟩:=h;obtain⟨B,r,v⟩:=n;rw[e1,e2,e3]at H;rw[e1,e3]at z;rw[e1,e2]at d a5;rw[e1,e4,e5,e6]at B;rw[e1]at c k o a4 G r v;rw[e5]at r;rw[e6]at v;rw[e2]at a;simp only[e1,e2,e3,e4,e5,e6]at hs |-;clear e1 e2 e3 e4 e5 e6;have C:EK t.length<=Y.F5 m:=by
  unfold Y.F3 at a4;rw[AC o]at a4;by_cases L:Y.F5 m<EK t.length
  .rw[AD L]at a4;cases a4
  omega
 have F:=VO a3;have o:0<EK t.length:=by unfold EK;omega
 have a:Y.ER m<=32:=by have:=Y.FV m;exact Dz c.a
 have W:EK t.length<=256:=AG C (Y.Kg c);have am:∀y,y<=4294967295->Fc (Y.Fq m) (Y.ER m) y=true->S (Y.ER m) y=true\/(lv.a=Y.ER m/\y<=lv.b):=λy A n=>by
  cases P:lv.tk with
  |none=>rw[a5.1 P];exact .w n
  |some a=>obtain⟨n1,c1,_⟩:=a5.2 a P;obtain⟨D,_,c2,_,c3⟩:=d a P;rw[m6 c1 c2 U A];exact c3 y A n
 have a:lv.b<Y.Gr m lv S/\Y.Gr m lv S<=lv.b+701/\S (Y.ER m) (Y.Gr m lv S)=false:=by unfold Y.Gr;rw[Bd (show lv.b+1<4294967296 by omega)];have d:=Y.Ph (S:=S (Y.ER m)) (k:=lv.b+1) U;have d:=Jk (j (Y.ER m)) (k:=lv.b+1) U;exact⟨by omega,by omega,d.1⟩
 obtain⟨n1,D,d⟩:=a;have D:Fc (Y.Fq m) (Y.ER m) (Y.Gr m lv S)=false:=by
  cases L:Fc (Y.Fq m) (Y.ER m) (Y.Gr m lv S)with
  |false=>rfl
  |true=>
   rcases am _ U L with h|h
   .rw[d]at h;cases h
   omega
 have T:=Y.Gg (Y.ER m) (Y.Gr m lv S) t;have j:s=Y.F4 K ⟨Ej (Y.ER m) (Y.Gr m lv S) t,m,Q,b,p,λ_=>false⟩:=hs;obtain⟨⟨_,a⟩,_,_⟩:=Ub c B r v T s j;have d:=a.FV;have L:Y.I8 m s.m->Y.ER m<Y.ER s.m:=λh=>h.ER a.b a.a;have ac:Y.ER s.m=Y.ER m->Y.FT s.m=Y.FT m:=λe=>by unfold Y.FT;rw[e,a.a]
 have P:s.left=[]->Y.ER s.m=g->Y.GA s.m.a s.S<=Y.FT s.m/2:=λd e=>by
  rcases Y.O5 c B (z U) r v T (by rw[Ec];exact o) (by rw[Ec];exact C) s j d with h|h
  .exact h
  exact Dz (L h)
 have au:∀i,s.S i=true->m.e i=false:=λi g=>by rw[j]at g;exact(Y.LH K _ c i g).resolve_left λh=>by cases h
 have g:Y.M3 s.m:=by rw[j];exact Y.M3.lay (s:=⟨Ej (Y.ER m) (Y.Gr m lv S) t,m,Q,b,p,λ_=>false⟩) G.g c
 refine⟨G.lay c k (Nat.le_add_right N 701) U a au g U W F D (λd=>⟨V,a3,R,P d⟩),by omega,λd=>?_,λd=>⟨λ_ g=>g.no c a U U D d,λe=>?_⟩,λy A n=>?_⟩
 .refine⟨?_,P d⟩;rw[d]at a;exact H.yes c a U W F D U
 .have F:Y.ER s.m=Y.ER m:=U;refine⟨by rw[ac F,a.a];exact z U,?_⟩;rcases Y.Pq c B (z U) r v T (by rw[Ec];exact o) (by rw[Ec];exact C) s j with h|h|h
  .exact absurd h d
  .exact h
  exact Dz (L h)
 obtain⟨f,c,e1,e2⟩:=FE.1 n;have d:=Y.Mv a U U U H.b f c;have F:Y.ER s.m=Y.ER m:=U;rw[F]at n e1 |-;rcases a.found U U U c with⟨_,i,q,_,_,rfl⟩|a
 .exact .s ⟨I,by rw[<-e2];exact AB _⟩
 rcases am y A (FE.2 ⟨f,a,e1,e2⟩)with h|⟨_,h⟩
 .exact .w h
 exact .s ⟨I,by omega⟩
variable {u:Bs->Option Bs} {w w':Z} {M:Mt} {l l':List It} {N:Nat} {s:Sv}
structure Tl (u:Bs->Option Bs) (w w':Z) (fb:Nat) (M M':Mt) (s:Sv) (l:List It) (N:Nat):Prop where
 o:Ll w' fb M' l
 r:Qg M'
 f:M'.f=M.f
 h:M'.h=M.h
 g:M'.g=M.g
 L:M'.L=M.L
 a:M'.m.a=M.m.a
 e:∀i,M.m.e i=true->M'.m.e i=true
 new:∀k,J8 fb M' k->J8 fb M k\/w.heap.size<=k
 c:s.e=false->PC u w' M' l s.m (N+701)
theorem PC.step{M':Mt}{d e:Nat}(h:PC u w M l d N)(s:Eg l'=Eg l)(a:M'.m=M.m)(c:M'.lv=M.lv)(i:M'.K=M.K)(r:∀g,M.lv.tk=some g->g<w.heap.size->w'.heap[g]?=w.heap[g]?)(q:N<=e):PC u w' M' l' d e:=by obtain⟨m,n,o,_,p⟩:=h;refine⟨by rw[a,c,i,s];exact m,λg b=>?_,by rw[a,i];exact o,by rw[c];omega,by rw[a];exact p.l q⟩;rw[c]at b |-;obtain⟨t,S,f,j,k⟩:=n g b;rw[a];exact⟨t,S,f.y (r g b f.lt),j,k⟩
theorem fa{m:Y.M}(h:m.b=0):Kh s m l 10=true:=by unfold Kh;simp[h]
theorem lS{m:Y.M}(h:JU l (Y.FT m) m.d=true->Ks s m=true):Kh s m l 9=true:=by
 unfold Kh;cases a:JU l (Y.FT m) m.d with
 |false=>simp
 |true=>simp[h a]
theorem tX{y:Nat}{b:Int}{e:Ending}(h:Mq u w y M l l' b e w')(a:Ll w y M l)(d:Qg M)(P:EX l)(F:b=0->EX l')(L:s.m<=Y.ER M.m)(f:s.e=false->PC u w M l s.m N)(G:N+800<2147483648)(hsc:s.e=true->s.free=true):∃x i M',e=.a (.a x)/\Tl u w w' y M M' s i N/\Y.Fm (Lm y M.a M.h M.g M.d M.j M.e) w w' /\ (b≠0/\x=b/\i=l\/b=0/\(x=0/\M.m.b≠0/\i=l'\/(x=9\/x=10)/\i=l/\Kh s M'.m (Eg l') x=true)):=by
 obtain⟨C,K⟩:=h;have b:Y.WF M.m:=a.h.wf;have m:∀g,M.lv.tk=some g->g<w.s->w'.e w g:=λg i A=>by obtain⟨n,o,v,_⟩:=a.tk g i;exact C.u g A (λh=>by rcases h with h|h|h;exact n h;exact o h;exact v h)
 have ac:∀c,w.s<=c->∀k,Lm y c M.h M.g M.d M.j M.e k\/M.lv.tk=some k->J8 y M k\/w.s<=k:=λc f k a=>by
  rcases a with(h|h|h)|h
  .exact .w (.w (.w h))
  .exact .w (.w (.s (.w h)))
  .exact .s U
  exact .w (.s h)
 rcases K with⟨x,c,j,q,r,B⟩|⟨j,q,r,B,Q⟩|⟨j,q,t,S,r,B,Q,y,K⟩
 .refine⟨x,l,{M with a:=c},q,⟨B,⟨d.c,d.b,d.p⟩,I,I,I,I,I,λ_ h=>h,ac c r,λa=>(f a).step I I I I m U⟩,C,?_⟩;rcases j with⟨n,o⟩|⟨n,o,v⟩|⟨n,o,t,v,H,p⟩
  .exact .w ⟨n,o,I⟩
  .exact .s ⟨n,.s ⟨.s v,I,by rw[v];exact fa o⟩⟩
  have i:Y.F5 M.m<EK t.length/\x=9:=by
   rw[p];unfold Y.F3 at H |-;rw[AC o]at H |-;by_cases f:Y.F5 M.m<EK t.length
   .exact⟨f,by rw[AD f]⟩
   rw[AC f]at H;exact absurd I H
  refine .s ⟨n,.s ⟨.w i.2,I,?_⟩⟩;rw[i.2];refine lS λn=>?_;exact Dz (gg v b n)
 .exact⟨0,l',M,B,⟨Q,d,I,I,I,I,I,λ_ h=>h,λk D=>.w D,λa=>(f a).step (jk P (F j) r) I I I m U⟩,C,.s ⟨j,.w ⟨I,q,I⟩⟩⟩
 obtain⟨z,i⟩:=E (Y.IF M.m M.lv S M.K M.Q M.b M.p t);obtain⟨⟨_,p⟩,⟨o,v,H⟩,g4⟩:=Ub b d.c d.b d.p (Y.Gg (Y.ER M.m) (Y.Gr M.m M.lv S) t) z i;have W:=λa=>gY (f a) b d L G q (F j) r B Q y z i;rw[<-i]at K;rcases K with⟨i,b,g,G,R,T,m,P,L⟩|⟨c,G,R,T,m⟩
 .refine⟨0,l',{M with lv:=⟨Y.ER M.m,Y.Gr M.m M.lv S,some g⟩,j:=some i,c:=b,m:=z.m,K:=z.S,Q:=z.Q,b:=z.b,p:=z.p},R,⟨L,⟨o,v,H⟩,I,I,I,I,p.a,p.b,λk D=>?_,λa=>?_⟩,C,.s ⟨j,.w ⟨I,q,I⟩⟩⟩
  .rcases D with((h|h|h|h)|h|h)|h
   .exact .w (.w (.w (.w h)))
   .exact .w (.w (.w (.s (.w h))))
   .cases h;exact .s T
   .exact .w (.w (.w (.s (.s (.s h)))))
   .exact .w (.w (.s (.w h)))
   .exact .w (.w (.s (.s h)))
   cases h;exact m.imp (λh=>.s h) id
  obtain⟨q1,q2,q3,_,q5⟩:=W a;obtain⟨q3,q4⟩:=q3 G;obtain⟨b,c1,c2⟩:=P;exact⟨⟨t,q3,r⟩,λi V=>by cases V;exact⟨b,S,c1,c2,q5⟩,q4,q2,q1⟩
 refine⟨_,l,{M with a:=c,lv:=⟨M.lv.a,M.lv.b,none⟩,m:=z.m,Q:=z.Q,p:=M.m.d},R,⟨m,⟨g4,by show M.b<z.m.a;rw[p.a];exact d.b,by show M.m.d<=z.m.d;rw[p.d];exact AB _⟩,I,I,I,I,p.a,p.b,λk D=>?_,λa=>?_⟩,C,.s ⟨j,.s ⟨?_,I,?_⟩⟩⟩
 .rcases D with h|h
  .exact ac c T k (.w h)
  cases h
 .obtain⟨q1,q2,_,q3,q5⟩:=W a;obtain⟨q3,q4⟩:=q3 G;obtain⟨⟨b,d,j⟩,_,_,_,_⟩:=f a;exact⟨⟨b,q3 b d,j⟩,λi V=>(by cases V),λe=>(q4 e).1,by show M.lv.b<=N+701;omega,q1⟩
 .split
  .exact .s I
  exact .w I
 by_cases A:z.m.b=0
 .rw[AD A];exact fa A
 rw[AC A];refine lS λn=>?_;unfold Ks;cases a:s.e with
 |true=>rw[hsc a];rfl
 |false=>
  have b:=((W a).2.2.2.1 G).2;have a:=p.FV;have:s.m<Y.ER z.m:=by
   rcases CS s.m (Y.ER z.m)with h|h
   .exact h
   exact absurd (b U).2 A
  simp[this]
variable {u:Bs->Option Bs} {w w' W:Z} {sb n n' fb B:Nat} {R R':Nat->Prop} {s:Sv} {a:Option Addr} {x:Sl} {es:List Sl} {e:Ending}
structure Sd where
 h:Nat
 g:Nat
 L:Y.Loc
 m:Y.M
 a:List It
 M:Mt
 ms:List (Sl×List It)
 es:List Sl
 b:List Sl
 j:Nat
 k:Nat
def ob(x:Sl):Option Nat:=(Value.slice x.1 x.2.1 x.2.2).ownBlock
def Mu(sb:Nat)(s:Sv)(d:Sd)(k:Nat):Prop:=k=sb\/(d.h<=k/\k<d.g)\/ob s.d=some k\/ob s.b=some k\/(∃fb,s.f=some fb/\J8 fb d.M k)\/ob s.a=some k
def Nz(R:Nat->Prop)(a:Option Addr)(n:Nat):Prop:=∀b off,a=some (O b off)->0<n->R b
structure R0 (u:Bs->Option Bs) (w:Z) (sb:Nat) (R:Nat->Prop) (s:Sv) (d:Sd) (n fb:Nat):Prop where
 j:EX d.a
 o:Ll w fb d.M d.a
 r:Qg d.M
 f:d.M.f=s.c
 h:d.M.h=d.h
 g:d.M.g=d.g
 L:d.M.L=d.L
 m:d.M.m=d.m
 nl:s.g.2.1=d.a.length
 own:w.ownsRow 0 39 5 (.slice s.g.1 s.g.2.1 s.g.2.2) d.a.length (FF (Eg d.a))
 nR:∀k,ob s.g=some k->R k
 here:∃y∈d.ms,y.2=Eg d.a
 c:s.e=false->PC u w d.M d.a s.m (701*n+1)
 ap:∀k,J8 fb d.M k->k≠sb/\ob s.d≠some k/\ob s.b≠some k
theorem R0.move{s':Sv}{d d':Sd}(h:R0 u w sb R s d n fb)(l:w.heap.size<=w'.heap.size)(a:∀k,J8 fb d.M k\/R k->w'.heap[k]?=w.heap[k]?)(i:(s'.c,s'.g,s'.e,s'.m)=(s.c,s.g,s.e,s.m))(f:(d'.M,d'.a,d'.ms,d'.h,d'.g,d'.L,d'.m)=(d.M,d.a,d.ms,d.h,d.g,d.L,d.m))(j:∀k,R k->R' k)(m:n<=n')(ap:∀k,J8 fb d.M k->k≠sb/\ob s'.d≠some k/\ob s'.b≠some k):R0 u w' sb R' s' d' n' fb:=by obtain⟨_,_,_,_,_,_,_,_,_,_⟩:=s';obtain⟨d1,d2,d3,d4,d5,d6,_,_,_,_,_⟩:=d';simp only[Dj]at i f;obtain⟨rfl,rfl,rfl,rfl⟩:=i;obtain⟨rfl,rfl,rfl,rfl,rfl,rfl,rfl⟩:=f;exact⟨h.j,II.a h.o l (λk c _=>a k (.w c)),h.r,h.f,h.h,h.g,h.L,h.m,h.nl,MF h.own (λg b=>a g (.s (h.nR g b))),λk c=>j k (h.nR k c),h.here,λe=>(h.c e).step I I I I (λg b _=>a g (.w (.s b))) U,ap⟩
theorem R0.FF{d:Sd}(h:R0 u w sb R s d n fb):Eh w s.g.1 (Eg d.a):=by have b:=h.own;rw[<-KW]at b;obtain⟨a,c,e,f⟩:=Oq b;simp only[Cw]at e;rw[e.1];exact f
structure E0 (u:Bs->Option Bs) (w:Z) (sb:Nat) (R:Nat->Prop) (s:Sv) (d:Sd) (n:Nat):Prop where
 c:ES w sb s
 j:Y.CP w d.h d.g s.c d.L d.m
 wf:Y.WF d.m
 g:d.g<=w.heap.size
 h:0<d.h
 o:∀fb,s.f=some fb->R0 u w sb R s d n fb
 a:IX w s.a d.ms
 t:∀y∈d.ms,Nz R y.1.1 y.2.length
 li:Ng w R s.d d.es
 x:Nv w R s.b d.b
 v:d.es.length=4*d.j/\d.j<=n
 tk:d.b.length=4*d.k/\d.k<=n
 z:d.ms.length<=n+1
 b:∀k,Mu sb s d k->¬R k/\k<w.heap.size
 ap:¬(d.h<=sb/\sb<d.g)/\(∀k,ob s.d=some k->¬(d.h<=k/\k<d.g))/\(∀k,ob s.b=some k->¬(d.h<=k/\k<d.g))
 m:s.m<=Y.ER d.m
 p:s.e=false->Y.KN u d.m s.m (701*n+1)
 e:s.e=true->s.free=true/\s.h=true
 find:s.h=false->∃y∈d.ms,Finds u d.m y.2
 q:∀k,R k->k<w.heap.size
 r:∀k,ob s.a=some k->¬(d.h<=k/\k<d.g)/\ob s.d≠some k/\∀fb,s.f=some fb->¬J8 fb d.M k
theorem EZ.y{m:Int}(h:EZ w B m a n)(j:∀k,a=FH k->0<n->w'.heap[k]?=w.heap[k]?):EZ w' B m a n:=λc=>by obtain⟨g,b,e,d,f,i⟩:=h c;exact⟨g,b,e,d,(j g e c).i f,i⟩
theorem Y.EZ.y{m:Value}(h:Y.EZ w B m a n)(j:∀k,a=FH k->0<n->w'.heap[k]?=w.heap[k]?):Y.EZ w' B m a n:=λc=>by obtain⟨g,b,e,d,f,i⟩:=h c;exact⟨g,b,e,d,(j g e c).i f,i⟩
theorem Ng.d(h:Ng w R x es)(b:∀k,(ob x=some k\/R k)->w'.heap[k]?=w.heap[k]?):Ng w' R x es:=
 ⟨MF h.1 (λg l=>b g (.w l)),λi e j=>by obtain⟨d,f,a⟩:=h.2 i e j;exact⟨d,f.y (λk m c=>b k (.s (a k m c))),a⟩⟩
theorem Nv.d(h:Nv w R x es)(b:∀k,(ob x=some k\/R k)->w'.heap[k]?=w.heap[k]?):Nv w' R x es:=
 ⟨MF h.1 (λg l=>b g (.w l)),λi e j=>by obtain⟨d,f,a⟩:=h.2 i e j;exact⟨d,f.y (λk m c=>b k (.s (a k m c))),a⟩⟩
theorem Ng.grow(h:Ng w R x es)(f:∀k,R k->R' k):Ng w R' x es:=⟨h.1,λi e g=>by obtain⟨b,c,d⟩:=h.2 i e g;exact⟨b,c,λk j a=>f k (d k j a)⟩⟩
theorem Nv.grow(h:Nv w R x es)(f:∀k,R k->R' k):Nv w R' x es:=⟨h.1,λi e g=>by obtain⟨b,c,d⟩:=h.2 i e g;exact⟨b,c,λk j a=>f k (d k j a)⟩⟩
theorem Eh.b{l:List It}(h:Eh w a l)(d:Nz R a l.length)(f:∀k,R k->w'.heap[k]?=w.heap[k]?):Eh w' a l:=
 h.only λb c e g=>f b (d b c e (Bl.2 g))
theorem IX.d{ms:List (Sl×List It)}(h:IX w x ms)(e:∀k,ob x=some k->w'.heap[k]?=w.heap[k]?)(f:∀y∈ms,Nz R y.1.1 y.2.length)(g:∀k,R k->w'.heap[k]?=w.heap[k]?):IX w' x ms:=
 ⟨MF h.1 e,λy a=>by obtain⟨b,c,d⟩:=h.2 y a;exact⟨b,c,d.b (f y a) g⟩⟩
theorem E0.d{d:Sd}(h:E0 u w sb R s d n)(c:w.heap.size<=w'.heap.size)(b:∀k,(Mu sb s d k\/R k)->w'.heap[k]?=w.heap[k]?):E0 u w' sb R s d n where
 c:=h.c.y (b sb (.w (.w I)))
 j:=Y.EM.a h.j (λk i j=>b k (.w (.s (.w ⟨i,j⟩))))
 wf:=h.wf
 g:=AG h.g c
 h:=h.h
 o:=λf g=>(h.o f g).move c (λk a=>b k (a.imp (λe=>.s (.s (.s (.s (.w ⟨f,g,e⟩))))) id)) I I (λ_ h=>h) (AB n) (h.o f g).ap
 a:=h.a.d (λk a=>b k (.w (.s (.s (.s (.s (.s a))))))) h.t (λk a=>b k (.s a))
 t:=h.t
 li:=h.li.d (λk a=>b k (a.imp (λe=>.s (.s (.w e))) id))
 x:=h.x.d (λk a=>b k (a.imp (λe=>.s (.s (.s (.w e)))) id))
 v:=h.v
 tk:=h.tk
 z:=h.z
 b:=λk a=>⟨(h.b k a).1,AQ (h.b k a).2 c⟩
 ap:=h.ap
 m:=h.m
 p:=h.p
 e:=h.e
 find:=h.find
 q:=λk a=>AQ (h.q k a) c
 r:=h.r
theorem E0.grow{d:Sd}(h:E0 u w sb R s d n)(a:∀k,R k->R' k)(m:∀k,Mu sb s d k->¬R' k)(l:∀k,R' k->k<w.heap.size):E0 u w sb R' s d n where
 c:=h.c
 j:=h.j
 wf:=h.wf
 g:=h.g
 h:=h.h
 o:=λf g=>(h.o f g).move (AB _) (λ_ _=>rfl) I I a (AB n) (h.o f g).ap
 a:=h.a
 t:=λy o b c e j=>a _ (h.t y o b c e j)
 li:=h.li.grow a
 x:=h.x.grow a
 v:=h.v
 tk:=h.tk
 z:=h.z
 b:=λk i=>⟨m k i,(h.b k i).2⟩
 ap:=h.ap
 m:=h.m
 p:=h.p
 e:=h.e
 find:=h.find
 q:=l
 r:=h.r
theorem E0.later{d:Sd}(h:E0 u w sb R s d n)(a:n<=n'):E0 u w sb R s d n' where
 c:=h.c
 j:=h.j
 wf:=h.wf
 g:=h.g
 h:=h.h
 o:=λb c=>(h.o b c).move (AB _) (λ_ _=>rfl) I I (λ_ h=>h) a (h.o b c).ap
 a:=h.a
 t:=h.t
 li:=h.li
 x:=h.x
 v:=⟨h.v.1,AG h.v.2 a⟩
 tk:=⟨h.tk.1,AG h.tk.2 a⟩
 z:=AG h.z U
 b:=h.b
 ap:=h.ap
 m:=h.m
 p:=λe=>(h.p e).l U
 e:=h.e
 find:=h.find
 q:=h.q
 r:=h.r
def E9(u:Bs->Option Bs)(w:Z)(sb:Nat)(R:Nat->Prop)(s:Sv)(d:Sd)(n:Nat)(w':Z):Prop:=
 ∃s' d' R',E0 u w' sb R' s' d' n/\(∀k,R k->R' k)/\(∀k,R' k->R k\/(w.heap.size<=k/\k<w'.heap.size))/\(∀k,Mu sb s' d' k->Mu sb s d k\/w.heap.size<=k)/\Y.Fm (Mu sb s d) w w'
theorem E9.refl{d:Sd}(h:E0 u w sb R s d n):E9 u w sb R s d n w:=⟨s,d,R,h,λ_ h=>h,λ_ h=>.w h,λ_ h=>.w h,Y.Fm.refl _ _⟩
theorem E0.f{d:Sd}(h:E0 u w sb R s d n)(a:Below w.heap.size w w'):E0 u w' sb R s d n:=
 h.d a.size (λk b=>a.u k (b.elim (λe=>(h.b k e).2) (λe=>h.q k e)))
theorem E9.i{e l:Z}{c:Nat->Prop}{j:Sv}{d d1:Sd}{n1:Nat}(h:E0 u w sb R s d n1)(o:∀k,R k->c k)(p:∀k,c k->R k\/(w.heap.size<=k/\k<e.heap.size))(a3:∀k,Mu sb j d1 k->Mu sb s d k\/w.heap.size<=k)(a4:Y.Fm (Mu sb s d) w e)(f:E9 u e sb c j d1 n l):E9 u w sb R s d n l:=by
 obtain⟨z,d2,m,q,r,t,v,b⟩:=f;refine⟨z,d2,m,q,λk a=>r k (o k a),λk a=>?_,λk a=>?_,?_⟩
 .have x:=a4.size;have f:=b.size;rcases t k a with a|a
  .rcases p k a with a|a
   .exact .w a
   exact .s ⟨a.1,by omega⟩
  exact .s ⟨by omega,a.2⟩
 .have x:=a4.size;rcases v k a with a|a
  .exact a3 k a
  exact .s U
 refine⟨b.os.i a4.os,b.tape.i a4.tape,b.output.i a4.output,AG a4.size b.size,λk a i=>(b.u k (AQ a a4.size) (λy=>?_)).i (a4.u k a i)⟩;rcases a3 k y with g|g
 .exact i g
 omega
def Ra(R:Nat->Prop)(z:Nat)(w':Z)(sb:Nat)(s:Sv)(d:Sd)(k:Nat):Prop:=R k\/(z<=k/\k<w'.heap.size/\¬Mu sb s d k)
def O6(u:Bs->Option Bs)(w:Z)(sb:Nat)(R:Nat->Prop)(s:Sv)(d:Sd)(n:Nat)(w':Z):Prop:=
 ∃x es' R',E0 u w' sb R' {s with d:=x} {d with es:=d.es++es',j:=d.j+1} n/\(∀k,R k->R' k)/\(∀k,R' k->R k\/(w.heap.size<=k/\k<w'.heap.size))/\(∀k,Mu sb {s with d:=x} {d with es:=d.es++es',j:=d.j+1} k->Mu sb s d k\/w.heap.size<=k)/\Y.Fm (Mu sb s d) w w'
theorem O6.step{d:Sd}(h:O6 u w sb R s d n w'):E9 u w sb R s d n w':=by obtain⟨_,_,a,h⟩:=h;exact⟨_,_,a,h⟩
theorem E0.Oh{d:Sd}(h:E0 u w sb R s d n)(q:Below w.heap.size w W)(f:We W w.heap.size sb s d.es d.j a e w')(c:∀k,a=FH k->w.heap.size<=k):O6 u w sb R s d (n+1) w':=by
 obtain⟨-,x,o,l,L,t,Q,m,z⟩:=f;have F:w.heap.size<=w'.heap.size:=AG q.size z.size;have f:∀k,k<w.heap.size->k≠sb->ob s.d≠some k->w'.e w k:=λk j p S=>(z.u k (AQ j q.size) (λe=>by
  rcases e with e|e|e
  .exact p e
  .exact S e
  exact Dz (c k e))).i (q.u k j)
 have D:∀k,ob x=some k->ob s.d=some k\/w.heap.size<=k:=λk c=>(m k c).imp id (λj=>AG q.size j);have V:∀k,ob x=some k->k<w'.heap.size:=λk c=>(L.lt k c).2;have B:∀k,R k->w'.e w k:=λk c=>f k (h.q k c) (λe=>(h.b k (.w e)).1 c) (λe=>(h.b k (.s (.s (.w e)))).1 c);have N:∀k,Mu sb {s with d:=x} {d with es:=d.es++o,j:=d.j+1} k->Mu sb s d k\/w.heap.size<=k:=λk c=>by
  rcases c with c|c|c|c|c|c
  .exact .w (.w c)
  .exact .w (.s (.w c))
  .exact(D k c).imp (λe=>.s (.s (.w e))) id
  .exact .w (.s (.s (.s (.w c))))
  .exact .w (.s (.s (.s (.s (.w c)))))
  exact .w (.s (.s (.s (.s (.s c)))))
 have m:sb<w.heap.size:=(h.b sb (.w I)).2;refine⟨x,o,Ra R w.heap.size w' sb {s with d:=x} {d with es:=d.es++o,j:=d.j+1},?_,λk c=>.w c,λk c=>c.imp id (λe=>⟨e.1,e.2.1⟩),N,?_⟩
 .refine⟨l,Y.EM.a h.j (λk j p=>f k (by have S:k<d.g:=p;exact Dz h.g) (λe=>h.ap.1 (by rw[<-e];exact⟨j,p⟩)) (λe=>h.ap.2.1 k e ⟨j,p⟩)),h.wf,AG h.g F,h.h,λH T=>?_,h.a.d (λk c=>f k (h.b k (.s (.s (.s (.s (.s c)))))).2 (λe=>by obtain⟨c1,C⟩:=Kn h.a.1 c;subst e;exact KY C h.c EB I) (h.r k c).2.1) h.t B,λy r b K e m=>.w (h.t y r b K e m),⟨L,λi y r=>?_⟩,(h.x.d (λk c=>?_)).grow (λk c=>.w c),⟨by rw[AM,h.v.1,t];show _=4*(d.j+1);omega,by have:=h.v.2;show d.j+1<=_;omega⟩,⟨h.tk.1,Cb h.tk.2⟩,Cb h.z,λk c=>⟨λv=>?_,?_⟩,⟨h.ap.1,λk c=>?_,h.ap.2.2⟩,h.m,λe=>(h.p e).l U,h.e,h.find,λk c=>?_,λk c=>⟨(h.r k c).1,λe=>(D k e).elim (h.r k c).2.1 (λe=>by have:=(h.b k (.s (.s (.s (.s (.s c)))))).2;omega),(h.r k c).2.2⟩⟩
  .have t:=h.o H T;have P:∀k,J8 H d.M k->k<w.heap.size:=λk c=>(h.b k (.s (.s (.s (.s (.w ⟨H,T,c⟩)))))).2;exact t.move F (λk c=>c.elim (λe=>f k (P k e) (t.ap k e).1 (t.ap k e).2.1) (B k)) I I (λk c=>.w c) (DB n) (λk c=>⟨(t.ap k c).1,λe=>(D k e).elim (λe=>(t.ap k c).2.1 e) (λe=>by exact Dz (P k c)),(t.ap k c).2.2⟩)
  .by_cases l:i<d.es.length
   .rw[BG l]at r;obtain⟨G,A,M⟩:=h.li.2 i y r;exact⟨G,A.y (λk c m=>B k (M k c m)),λk c m=>.w (M k c m)⟩
   rw[Ao U]at r;have l:i-d.es.length<4:=Dz ((AN.1 r).1);have l:i/4=d.j:=Dz h.v.1;obtain⟨G,A⟩:=Q y (AY r);rw[l];refine⟨G,λm=>?_,λk c m=>?_⟩
   .obtain⟨g,Q,e1,e2,e3⟩:=A m;exact⟨g,Q,e1,AW _,e3⟩
   obtain⟨g,Q,e1,e2,e3,e4⟩:=A m;rw[c]at e1;cases e1;refine .s ⟨e2,lt_of_heap e3,λl=>?_⟩;rcases l with l|l|l|l|l|l
   .omega
   .have:=h.g;have:=l.2;dsimp only at this;omega
   .obtain⟨_,m⟩:=Kn L l;exact KY e3 m EB I
   .have:=(h.b k (.s (.s (.s (.w l))))).2;omega
   .have:=(h.b k (.s (.s (.s (.s (.w l)))))).2;omega
   have:=(h.b k (.s (.s (.s (.s (.s l)))))).2;omega
  .rcases c with c|c
   .have l:=(h.b k (.s (.s (.s (.w c))))).2;obtain⟨c1,C⟩:=Kn h.x.1 c;exact f k l (λe=>by
     subst e;exact KY C h.c EB I) (λe=>by
     obtain⟨c2,l⟩:=Kn h.li.1 e;exact KY C l EB I)
   exact B k c
  .rcases v with v|⟨_,_,v⟩
   .rcases N k c with j|j
    .exact(h.b k j).1 v
    exact Dz (h.q k v)
   exact v c
  .rcases c with c|c|c|c|c|c
   .rw[c];omega
   .have:=h.g;have:=c.2;dsimp only at this;omega
   .exact V k c
   .have:=(h.b k (.s (.s (.s (.w c))))).2;omega
   .have:=(h.b k (.s (.s (.s (.s (.w c)))))).2;omega
   have:=(h.b k (.s (.s (.s (.s (.s c)))))).2;omega
  .rcases D k c with j|j
   .exact h.ap.2.1 k j
   intro p;have:=h.g;have:=p.2;dsimp only at this;omega
  rcases c with c|c
  .exact AQ (h.q k c) F
  exact c.2.1
 refine⟨z.os.i q.os,z.tape.i q.tape,z.output.i q.output,F,λk c V=>f k c (λe=>V (.w e)) (λe=>V (.s (.s (.w e))))⟩
theorem E0.Oy{d:Sd}(h:E0 u w sb R s d n)(r:Below w.heap.size w W)(a:ku W w.heap.size sb s d.b d.k e w'):E9 u w sb R s d (n+1) w':=by
 obtain⟨-,x,m,f,L,t,Q,l,z⟩:=a;have C:w.heap.size<=w'.heap.size:=AG r.size z.size;have c:∀k,k<w.heap.size->k≠sb->ob s.b≠some k->w'.e w k:=λk j o S=>(z.u k (AQ j r.size) (λe=>by
  rcases e with e|e|e
  .exact o e
  .exact S e
  omega)).i (r.u k j)
 have F:∀k,ob x=some k->ob s.b=some k\/w.heap.size<=k:=λk a=>l k a;have V:∀k,ob x=some k->k<w'.heap.size:=λk a=>(L.lt k a).2;have B:∀k,R k->w'.e w k:=λk a=>c k (h.q k a) (λe=>(h.b k (.w e)).1 a) (λe=>(h.b k (.s (.s (.s (.w e))))).1 a);have N:∀k,Mu sb {s with b:=x} {d with b:=d.b++m,k:=d.k+1} k->Mu sb s d k\/w.heap.size<=k:=λk a=>by
  rcases a with a|a|a|a|a|a
  .exact .w (.w a)
  .exact .w (.s (.w a))
  .exact .w (.s (.s (.w a)))
  .exact(F k a).imp (λe=>.s (.s (.s (.w e)))) id
  .exact .w (.s (.s (.s (.s (.w a)))))
  exact .w (.s (.s (.s (.s (.s a)))))
 have l:sb<w.heap.size:=(h.b sb (.w I)).2;refine⟨{s with b:=x},{d with b:=d.b++m,k:=d.k+1},Ra R w.heap.size w' sb {s with b:=x} {d with b:=d.b++m,k:=d.k+1},?_,λk a=>.w a,λk a=>a.imp id (λe=>⟨e.1,e.2.1⟩),N,?_⟩
 .refine⟨f,Y.EM.a h.j (λk j o=>c k (by have S:k<d.g:=o;exact Dz h.g) (λe=>h.ap.1 (by rw[<-e];exact⟨j,o⟩)) (λe=>h.ap.2.2 k e ⟨j,o⟩)),h.wf,AG h.g C,h.h,λH T=>?_,h.a.d (λk a=>c k (h.b k (.s (.s (.s (.s (.s a)))))).2 (λe=>by obtain⟨c1,q⟩:=Kn h.a.1 a;subst e;exact KY q h.c EB I) (λe=>by obtain⟨c1,q⟩:=Kn h.a.1 a;obtain⟨c2,G⟩:=Kn h.x.1 e;exact KY q G EB I)) h.t B,λy p b K e l=>.w (h.t y p b K e l),(h.li.d (λk a=>?_)).grow (λk a=>.w a),⟨L,λi y p=>?_⟩,⟨h.v.1,Cb h.v.2⟩,⟨by rw[AM,h.tk.1,t];show _=4*(d.k+1);omega,by have:=h.tk.2;show d.k+1<=_;omega⟩,Cb h.z,λk a=>⟨λv=>?_,?_⟩,⟨h.ap.1,h.ap.2.1,λk a=>?_⟩,h.m,λe=>(h.p e).l U,h.e,h.find,λk a=>?_,h.r⟩
  .have t:=h.o H T;have P:∀k,J8 H d.M k->k<w.heap.size:=λk a=>(h.b k (.s (.s (.s (.s (.w ⟨H,T,a⟩)))))).2;exact t.move C (λk a=>a.elim (λe=>c k (P k e) (t.ap k e).1 (t.ap k e).2.2) (B k)) I I (λk a=>.w a) (DB n) (λk a=>⟨(t.ap k a).1,(t.ap k a).2.1,λe=>(F k e).elim (λe=>(t.ap k a).2.2 e) (λe=>by exact Dz (P k a))⟩)
  .rcases a with a|a
   .have f:=(h.b k (.s (.s (.w a)))).2;obtain⟨c1,q⟩:=Kn h.li.1 a;exact c k f (λe=>by
     subst e;exact KY q h.c EB I) (λe=>by
     obtain⟨c2,G⟩:=Kn h.x.1 e;exact KY q G EB I)
   exact B k a
  .by_cases f:i<d.b.length
   .rw[BG f]at p;obtain⟨D,A,M⟩:=h.x.2 i y p;exact⟨D,A.y (λk a l=>B k (M k a l)),λk a l=>.w (M k a l)⟩
   rw[Ao U]at p;have f:i-d.b.length<4:=Dz ((AN.1 p).1);have f:i/4=d.k:=Dz h.tk.1;obtain⟨D,A⟩:=Q y (AY p);rw[f];refine⟨D,λl=>?_,λk a l=>?_⟩
   .obtain⟨g,Q,e1,e2,e3⟩:=A l;exact⟨g,Q,e1,AW _,e3⟩
   obtain⟨g,Q,e1,e2,e3,e4⟩:=A l;rw[a]at e1;cases e1;refine .s ⟨e2,lt_of_heap e3,λf=>?_⟩;rcases f with f|f|f|f|f|f
   .omega
   .have:=h.g;have:=f.2;dsimp only at this;omega
   .have:=(h.b k (.s (.s (.w f)))).2;omega
   .obtain⟨_,l⟩:=Kn L f;exact KY e3 l EB I
   .have:=(h.b k (.s (.s (.s (.s (.w f)))))).2;omega
   have:=(h.b k (.s (.s (.s (.s (.s f)))))).2;omega
  .rcases v with v|⟨_,_,v⟩
   .rcases N k a with j|j
    .exact(h.b k j).1 v
    exact Dz (h.q k v)
   exact v a
  .rcases a with a|a|a|a|a|a
   .rw[a];omega
   .have:=h.g;have:=a.2;dsimp only at this;omega
   .have:=(h.b k (.s (.s (.w a)))).2;omega
   .exact V k a
   .have:=(h.b k (.s (.s (.s (.s (.w a)))))).2;omega
   have:=(h.b k (.s (.s (.s (.s (.s a)))))).2;omega
  .rcases F k a with j|j
   .exact h.ap.2.2 k j
   intro o;have:=h.g;have:=o.2;dsimp only at this;omega
  rcases a with a|a
  .exact AQ (h.q k a) C
  exact a.2.1
 refine⟨z.os.i r.os,z.tape.i r.tape,z.output.i r.output,C,λk a V=>c k a (λe=>V (.w e)) (λe=>V (.s (.s (.s (.w e)))))⟩
variable {w:Z} {u:Bs->Option Bs} {sb n fb:Nat} {R:Nat->Prop} {s:Sv} {d:Sd}
theorem TW{w':Z}{B:Nat}(h:Below B w w')(q:Nat):Below B w (w'.drewN q):=S3 h q
theorem E0.O7(h:E0 u w sb R s d n)(c:s.f=some fb):w.cell? (O sb 2)=some (.slice s.g.1 d.a.length s.g.2.2):=by have b:=h.c.cell 2;have a:=(h.o fb c).nl;rw[b];show some (Value.slice s.g.1 s.g.2.1 s.g.2.2)=_;rw[a]
theorem Ur(h:E0 u w sb R s d n)(j:ML w)(f:n<=100000000)(i:s.f=some fb):Calls prog 102 #[.c sb] w λe w'=>e=.a (.bool true)/\O6 u w sb R s d (n+1) w':=by
 have D:=(h.o fb i).j;have A:=(h.o fb i).o;have M:=(h.o fb i).FF;have c0:w.cell? (O sb 0)=some (.c s.c):=h.c.cell 0;have c1:w.cell? (O sb 1)=some (.c fb):=by have:=h.c.cell 1;rw[this];unfold Sv.arr;rw[i];rfl
 have l:=J (Y.Er w d.h d.g s.c d.L d.m h.j);have G:=J (Y7 w fb _ _ _ d.a (II.o A) (II.j A) D j);have H:=J h;have T:=J M;have r:=J D;obtain⟨dd,x⟩:=E ((d.m.b==0));rw[<-x]at l;have C:=J x;obtain⟨N,p⟩:=E s.c;rw[<-p]at c0 l;have P:=J p;have F:=J (λW (B:Below w.heap.size w W)=>(h.f B).O7 i);have V:=J (λW (B:Below w.heap.size w W)=>(h.f B).c.cell 0);obtain⟨i,z⟩:=E s.g.1;obtain⟨B,Q⟩:=E s.g.2.2;rw[<-z,<-Q]at F;rw[<-z]at T;clear h A D M x p j z Q;go_enter func102,ntmps102;go_wp2_with fail;refine Jj l.o ?_;go_wp2_with fail;refine G.o.l ?_;rintro e c ⟨a,_,rfl,b⟩;rw[<-KW]at b;obtain⟨m,y⟩:=E (Eg d.a);have f:m.length=d.a.length:=by rw[y,KW]
 have v:=T.o.f a;rw[<-y]at b v;obtain⟨t,k1,rfl,L⟩:=Oq b;have o:=J (Y.Er c d.h d.g s.c d.L d.m (H.o.f a).j);rw[<-C.o,<-P.o]at o;have e0:c.cell? (O sb 0)=some (.c N):=by rw[P.o];exact V.o c a
 have e2:=F.o c a;have S:=J (Io t i k1 B m m c L v (by rw[f];exact Dz r.o.len) (by rw[f];exact Dz r.o.len));rw[Bj I]at S;have K:=J (λq=>eQ (c.drewN q) sb s d.es d.j t m k1 w.heap.size (H.o.f (TW a q)).c (H.o.f (TW a q)).li.1 H.o.v.1 (Dz H.o.v.2) (MF b (λg _=>rfl)) (by rw[f];exact Dz r.o.len) (by have:=(TW a q).size;exact this));have j:Hid (∀k,t=FH k->w.heap.size<=k):=J λk x=>(b.lt k (by rw[x];rfl)).1;have p:=J a;rw[f]at S K |-;obtain⟨n1,N⟩:=E d.a.length;rw[<-N]at S K e2 |-;clear a b v L y G l f N c0 c1;go_wp2_with fail;refine Jj o.o ?_;go_wp2_with fail;refine S.o.l ?_;rintro e _ ⟨rfl,q,rfl⟩;clear S o e0 e2;go_wp2_with fail;refine(K.o q).l ?_;rintro e _ C;have b:=C.1;subst b;have a:=J (H.o.Oh (TW p.o q) C j.o);clear C K;cases dd;all_goals
  go_wp2_with fail;go_ret;exact⟨I,a.o⟩
variable {u:Bs->Option Bs} {E8 N:Nat} {M:Mt} {w:Z} {l:List It}
def Uf(m m':Y.M):Prop:=∃a b c e,m'={m with b:=a,cut:=b,fail:=c,part:=e}
theorem Y.KN.f{m f:Y.M}(h:Y.KN u m E8 N)(i:Uf m f):Y.KN u f E8 N:=by obtain⟨a,b,c,e,rfl⟩:=i;refine⟨⟨h.p.a,h.p.b⟩,h.pu,h.g,h.num,λx y g=>?_⟩;obtain⟨K,t,l,d,j⟩:=h.whole x y g;exact⟨K,t,l,⟨d.here,d.pos,d.g⟩,j⟩
theorem Qg.f{d:Y.M}(h:Qg M)(f:Uf M.m d):Qg {M with m:=d}:=by obtain⟨a,b,c,e,rfl⟩:=f;exact⟨⟨h.c.open_,h.c.c⟩,h.b,h.p⟩
theorem PC.f{g:Y.M}(h:PC u w M l E8 N)(f:Uf M.m g):PC u w {M with m:=g} l E8 N:=by have n:=h.j.f f;obtain⟨a,b,c,e,rfl⟩:=f;obtain⟨⟨t,d,i⟩,j,k,m,_⟩:=h;exact⟨⟨t,⟨d.a,d.here,d.Lx,d.b,d.Um,d.pos,d.g,d.num⟩,i⟩,j,k,m,n⟩
theorem Ll.set{w':Z}{c:Nat}{f:Y.M}(h:Ll w c M l)(r:Y.WF f)(s:w.heap.size<=w'.heap.size)(q:Y.CP w' M.h M.g M.f M.L f)(b:∀k,J8 c M k->k<w.heap.size->¬(M.h<=k/\k<M.g)->w'.heap[k]?=w.heap[k]?):Ll w' c {M with m:=f} l:=by have g:=II.h h;refine⟨(b c (.w (.s (.w I))) (lt_of_heap h.o) (λe=>h.nf (.w e))).i h.o,h.j.y (b M.a (.w (.s (.s I))) h.j.lt (λe=>h.r (.w e))),⟨g.h.y (b M.d (.w (.w (.s (.w I)))) g.h.lt g.e),q,r,g.kept.a λk a d=>b k (.w (.w (.s (.s (.w a))))) d (g.f k a).2,g.c.a λk a d=>b k (.w (.w (.s (.s (.s a))))) d (g.aq k a).2,g.f,g.aq,g.kq,g.e,AG g.sz s⟩,h.nf,h.r,h.ne,λk a=>?_⟩;obtain⟨i,m,n,t,S,j,o,p⟩:=h.tk k a;exact⟨i,m,n,t,S,j.y (b k (.s a) j.lt (λe=>i (.w e))),o,p⟩
end
end Go.Proofs.YtodmdkhdbfbfgaaGreatDoor
