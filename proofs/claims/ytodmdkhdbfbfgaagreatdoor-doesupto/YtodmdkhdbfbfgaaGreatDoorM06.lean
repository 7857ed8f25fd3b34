/- Lemmas. -/
import Derived.Shelf.Strings.LastIndex
import Derived.Shelf.Strings.Prefix
import Derived.Shelf.SlMaps.Clone
import Derived.Shelf.Sort.Plain
import Derived.Shelf.Slices.In.SortNone
import Derived.Test.YtodmdkhdbfbfgaaGreatDoorM05
set_option linter.unusedVariables false
set_option linter.unusedSimpArgs false
set_option maxRecDepth 100000
set_option maxHeartbeats 8000000
open Go.Proofs.Tryz
abbrev Go.CJ:=@List.getLast?_eq_some_getLast
abbrev Go.Cp:=@List.perm_ext_iff_of_nodup
abbrev Go.DQ:=@List.mem_iff_getElem
abbrev Go.DZ:=@ByteArray.ext
namespace Go.Proofs.YtodmdkhdbfbfgaaGreatDoor
namespace Y
open Go.RowKit Pk
open Go.Nt (Fp Ea Le Oa GO Fz M5 Fi LG IW Xg WN gw ly)
theorem KO.QJ{w w':Z}{g n b:Nat}{P:Nat->Nat->Nat->Option Fp}(h:KO w g n P)(j:Mp b w w')(a:g≠b):KO w' g n P:=by obtain⟨D,⟨d,c,e,f⟩,i⟩:=h;exact⟨D,⟨d,c,j.2.2.2.2 g _ e a I,f⟩,i⟩
theorem FI.QJ{w w':Z}{g n b:Nat}{S:Nat->Bool}(h:FI w g n S)(j:Mp b w w')(a:g≠b):FI w' g n S:=by obtain⟨D,⟨d,c,e,f⟩,i⟩:=h;exact⟨D,⟨d,c,j.2.2.2.2 g _ e a I,f⟩,i⟩
theorem Yw(W:Z)(a b c d e f:Value):(Instr.field 187 (.agg #[a,b,c,d,e,f]) 0).run prog W=.ok (.agg #[a,b,c,d,e]) W:=by simp[Instr.field,C7 underlying187,asAgg,go_sem]
theorem Zi(W:Z)(a b c d e:Value):(Instr.field 182 (.agg #[a,b,c,d,e]) 2).run prog W=.ok d W:=by simp[Instr.field,C7 underlying182,asAgg,go_sem]
def QT(w:Z)(rb ib:Nat)(z0X:ByteArray)(b r e:Nat):Prop:=w.heap[rb]?=some (.cells #[.string z0X,.a b,.d r,.e ib,.a e] 94 (0,0))
def VD(l:List Fp)(b r:Nat)(w:Z)(e:Ending)(w':Z):Prop:=
 Below w.heap.size w w' /\
 ((∃ps ib n,GO l b r=some ps/\e=.a (.tuple #[.agg #[.string (X (Fi ps)),.a b,.d r,.e ib,.a (IW ps:Nat)],.bool true])/\w.heap.size<=ib/\n<=100000/\FI w' ib n (LG ps)) \/
  (GO l b r=none/\∃z0X y z q k,e=.a (.tuple #[.agg #[.string z0X,.a y,.d z,.map q,.a k],.bool false])))
theorem sK(w:Z)(g n:Nat)(l:List Fp)(b r:Nat)(hF:KO w g n (Ea l))(Q:∀f∈l,Le f/\f.d<1000)(hb:b<=1000000)(hr:r<=4294967295) :
 Calls prog 82 #[.e g,lv b r] w λe w'=>VD l b r w e w':=by
 have aT:=hF.lt;obtain⟨a,H⟩:=E w.heap.size
 -- the blocks that are laid ahead of the loop
 obtain⟨W1,an⟩:=E (w.alloc (.cells #[.a b,.d r] 90));obtain⟨B,W⟩:=E (W1.alloc (.cells #[.string ⟨#[]⟩,.a 0,.d 0,.map none,.a 0] 94));obtain⟨W3,a9⟩:=E (B.alloc (.map #[] 0));obtain⟨W4,aa⟩:=E (W3.alloc (.cells #[.string ⟨#[]⟩,.a b,.d r,.map (some (a+2)),.a 0] 94));obtain⟨t,S⟩:=E (W4.alloc (.cells #[.pointer none,.g] 193));have s1:=Ia an H.A;have s2:B.heap.size=a+2:=by rw[W];simp[s1]
 have s3:W3.heap.size=a+3:=by rw[a9];simp[s2]
 have s4:W4.heap.size=a+4:=by rw[aa];simp[s3]
 have s5:t.heap.size=a+5:=by rw[S];simp[s4]
 have b1:=JK an;have b5:Below w.heap.size w t:=by rw[S,aa,a9,W];exact(((b1.a).a).a).a
 have e1:=Gi an H.A;have ay:∀k,k<a+1->B.heap[k]? = W1.heap[k]? := λk hk=>by rw[W];exact Jm
 have aH:∀k,k<a+2->W3.heap[k]? = B.heap[k]? := λk hk=>by rw[a9];exact Jm
 have aw:∀k,k<a+3->W4.heap[k]? = W3.heap[k]? := λk hk=>by rw[aa];exact Jm
 have ad:∀k,k<a+4->t.heap[k]? = W4.heap[k]? := λk hk=>by rw[S];exact Jm
 have f1:t.heap[a]? = some (.cells #[.a b,.d r] 90 (0,0)):=by rw[ad a U,aw a U,aH a U,ay a U];exact e1
 have f2:t.heap[a+1]? = some (.cells #[.string ⟨#[]⟩,.a 0,.d 0,.map none,.a 0] 94 (0,0)):=by rw[ad _ U,aw _ U,aH _ U,W,<-s1];exact AR _ _
 have f3:FI t (a+2) 0 (λ_=>false):=by
  have h3:=YS B;rw[<-a9,s2]at h3;exact(h3.y (aw _ U)).y (ad _ U)
 have f4:QT t (a+3) (a+2) ⟨#[]⟩ b r 0:=by
  unfold QT;rw[ad _ U,aa,<-s3];exact AR _ _
 have f5:Li t (a+4) []:=⟨.pointer none,.g,by rw[S,<-s4];exact AR _ _,.w I,Af _ _ _ _⟩;have f6:=hF.y (b5.u g aT);have b3:B.cell? (O a 0)=some (.a b):=by rw[AK (ay a U),AU W1 a 0 _ 90 (0,0) e1];rfl
 have bg:B.cell? (O a 1)=some (.d r):=by rw[AK (ay a U),AU W1 a 1 _ 90 (0,0) e1];rfl
 have b8:=EV 0 f1;have b4:=EV 1 f1;have aV:=ON B;rw[<-a9,s2]at aV;have a2:=(f6.look (a:=0) hb hr U).2;unfold pv fv at a2;rw[show((0:Nat):Int)=0 from I]at a2;obtain⟨o,ho⟩:=E (M5 l b r);have aK:((Ea l b r 0).getD SK).c=o:=by rw[ho];unfold M5;cases Ea l b r 0<;>rfl
 have bx:o<65536:=by
  rw[ho];unfold M5;cases hx:Ea l b r 0 with
  |none=>show 0<65536;decide
  |some f=>exact(Q f (Oa hx).1).1.o
 obtain⟨q0,aU⟩:=E ((Ea l b r 0).getD SK);rw[<-aU]at a2 aK;rw[aK]at a2;change Hid _ at ho an W a9 aa S s1 s2 s3 s4;have aW:=J H;change Hid _ at f1 f2 f3 f4 f5 f6;rw[H.A]at b5;change Hid _ at b5 Q;unfold VD;rw[<-H];rw[<-H]at aT;clear hF H s5 b1 e1 ay aH aw ad aU aK;unfold lv;have aC:=Yw t (.a q0.b) (.d q0.num) (.a q0.at_) (.a o) (.string (X q0.a)) (.a q0.d);have aJ:=Zi t (.a q0.b) (.d q0.num) (.a q0.at_) (.a o) (.string (X q0.a));go_enter func82,ntmps82
 go_wp2_with (first|(rw[<-an.o,<-aW.o])|(rw[<-W.o,s1.o])|(rw[<-aa.o,s3.o])|(rw[<-S.o,s4.o])|fail);clear b3 bg b8 b4 aV a2 aC aJ
 go_loopw [22] (λi wr=>∃(k n':Nat) (c:List Fp),k<=o/\i=.a k/\n'<=k/\Hid (Fz l b r o k=some c)/\Hid (wr.heap[a]? = some (.cells #[.a b,.d r] 90 (0,0)))/\Hid (wr.heap[a+1]? = some (.cells #[.string ⟨#[]⟩,.a 0,.d 0,.map none,.a 0] 94 (0,0)))/\Hid (FI wr (a+2) n' (LG c))/\Hid (QT wr (a+3) (a+2) ⟨#[]⟩ b r (IW c))/\Hid (Li wr (a+4) (Fi c))/\Hid (KO wr g n (Ea l))/\Hid (Below a w wr)/\Hid ((Fi c).length=k*51)) (λi _=>o - (intOf i).toNat)
 .exact⟨0,0,[],AW _,I,AB _,J I,f1,f2,f3,f4,f5,f6,b5,J I⟩
 .clear f1 f2 f3 f4 f5 f6 b5;obtain⟨k,n',c,hk,rfl,_,HP,f1,f2,f3,f4,f5,f6,HB,aS⟩:=hrel;have bi:a+4<wr.heap.size:=by obtain⟨_,_,be,_⟩:=f5;exact lt_of_heap be
  by_cases bn:k<o
  .have c0:=EV 0 f1;have c1:=EV 1 f1;have aG:=(f6.o.look (a:=k) hb hr U).1;unfold pv fv at aG;obtain⟨q,hq⟩:=E ((Ea l b r k).getD SK);obtain⟨zz,aI⟩:=E ((Ea l b r k).isSome);rw[<-hq,<-aI]at aG;obtain⟨V1,ax⟩:=E (wr.alloc (.cells #[.a q.b,.d q.num,.a q.at_,.a q.c,.string (X q.a),.a q.d] 187));obtain⟨pb,aF⟩:=E wr.heap.size;have ar:=Gi ax aF.A;have aD:=JK ax;have G:∀j,j<wr.heap.size->V1.heap[j]? = wr.heap[j]? := λj D=>aD.u j D
   have p3:=EV 3 ar;have p4:=EV 4 ar;have G1:=J ((G a U).i f1);have m:=J ((G (a+1) U).i f2);have G3:=J (f3.o.y (G (a+2) U));have G4:=J ((G (a+3) U).i f4);have G5:=J (f5.o.a (w':=V1) (.s G));have G6:=J (f6.o.y (G g (by have:=f6.o.lt;exact this)));have G7:=J (HB.o.i (aD.b));have Hq:=J hq;have aP:=J aI;have av:=J ax;have aB:=J aF;have aN:=J ar;have bs:a+4<pb:=U
   clear hq aI ax aF ar aD G f1 f2 f3 f4 f5 f6 HB;by_cases a1:zz=true/\q.c=o
   .obtain⟨b9,aL⟩:=a1;subst b9;obtain⟨f,hf⟩:∃f,Ea l b r k=some f:=Bi.1 aP.o.A;have aM:q=f:=by rw[Hq.o,hf];rfl
    subst aM;have ag:=Q q (Oa hf).1;have bb:=ag.1.t;have aX:=ag.2;have b6:Hid (Fz l b r o (k+1)=some (c++[q])):=J (by rw[Fz,HP.o,hf];simp[aL]);have A:=J (rq (a+4) (Fi c) q.a V1 G5 (by rw[aS.o];omega) U);rw[show Go.Proofs.YtodmdkhdbfbfgaaGreatDoor.X q.a=X q.a from I]at A;rw[aL]at av aN p3 aG;change Hid _ at aL;go_wp2_with rw[<-av.o,<-aB.o];refine A.o.l ?_;rintro e x ⟨⟨rv,rfl⟩,aR,aA,T⟩;have K2:=aA.2.2.2.2;have I1:=J (K2 a _ G1 U I);have I2:=J (K2 (a+1) _ m U I);have I3:=J (G3.o.QJ aA U);have F:=J (K2 (a+3) _ G4 U I);have I6:=J (G6.o.QJ aA U);have Ip:=J (K2 pb _ aN U I);have I7:=J (G7.o.i (T.b));change Hid _ at aR;have r3:=EV 3 F;have p5:=EV 5 Ip
    have A2:=J (Xp (a+2) n' q.d (LG c) x I3 U U);go_wp2_with fail;refine A2.o.l ?_;rintro e s ⟨rfl,b7,af⟩;have C:∀j,j<x.heap.size->j≠a+2->s.heap[j]? = x.heap[j]? := λj D aY=>af.C.u j D (λe=>by cases e;exact aY I)
    have bc:=lt_of_heap Ip;have J1:=J ((C a (lt_of_heap I1) U).i I1);have h:=J ((C (a+1) (lt_of_heap I2) U).i I2);have p:=J ((C (a+3) (lt_of_heap F) U).i F);have J6:=J (I6.o.y (C g I6.o.lt U));have Jp:=J ((C pb bc U).i Ip);have J5:Hid (Li s (a+4) (Fi c++q.a)):=J (by
     obtain⟨p9,v9,au,az,ae⟩:=aR;refine⟨p9,v9,(C (a+4) (lt_of_heap au) U).i au,az,ae.1,?_⟩;rcases ae.2 with M|⟨g9,K,L,e9,P,v,N⟩
     .exact .w M
     exact .s ⟨g9,K,L,e9,P,(C g9 (lt_of_heap v) U).i v,N⟩)
    have J3:=J (b7.congr λi=>(gw c q i).A);have J7:=J (I7.o.i ⟨af.C.os,af.C.tape,af.C.output,af.C.size,λj D=>C j U U⟩);have bp:=EV 5 Jp;have r4:=EV 4 p;have bl:=Fg 4 p;obtain⟨V4,am⟩:=E (s.setCell (O (a+3) 4) (.a q.d));have u:∀j,j≠a+3->V4.heap[j]? = s.heap[j]? := λj D=>by rw[am];exact AH s ⟨a+3,4,none⟩ _ j D
    have L1:=J ((u a U).i J1);have L2:=J ((u (a+1) U).i h);have L3:=J (J3.o.y (u (a+2) U));have L4:Hid (QT V4 (a+3) (a+2) ⟨#[]⟩ b r (IW (c++[q]))):=J (by rw[ly,am];exact AJ s (a+3) 4 _ 94 _ p);have L5:Hid (Li V4 (a+4) (Fi (c++[q]))):=J (by
     rw[WN];obtain⟨p9,v9,au,az,ae⟩:=J5;refine⟨p9,v9,(u (a+4) U).i au,az,ae.1,?_⟩;rcases ae.2 with M|⟨g9,K,L,e9,P,v,N⟩
     .exact .w M
     exact .s ⟨g9,K,L,e9,P,(u g9 U).i v,N⟩)
    have L6:=J (J6.o.y (u g U));have L7:Hid (Below a w V4):=J (by rw[am];exact J7.o.setCell IC _);have bf:Hid ((Fi (c++[q])).length=(k+1)*51):=J (by rw[WN,AM,aS.o,bb];omega);change Hid _ at am;go_wp2_with rw[<-am.o];go_roundw
    .exact⟨k+1,n'+1,c++[q],by omega,by go_num,by omega,b6,L1,L2,L3,L4,L5,L6,L7,bf⟩
    .simp[intOf];omega
   have HR:Hid (GO l b r=none):=J (by
    have h1:Fz l b r o (k+1)=none:=by
     rw[Fz,HP.o];cases hf:Ea l b r k with
     |none=>rfl
     |some f=>
       have aM:q=f:=by rw[Hq.o,hf];rfl
       have aZ:zz=true:=by rw[aP.o,hf];rfl
       have:f.c≠o:=λe=>a1 ⟨aZ,by rw[aM];exact e⟩
       simp[this]
    unfold GO;rw[<-ho.o]
    split
    .rfl
    exact Xg U h1)
   have aj:=EV 0 m;have ai:=EV 1 m;have ah:=EV 2 m;have ao:=EV 3 m;have ac:=EV 4 m;have y0:=Fg 0 m;have y1:=Fg 1 m;have y2:=Fg 2 m;have y3:=Fg 3 m;have y4:=Fg 4 m;have a4:∀(e:Ending) (V:Z),Below a w V->e=.a (.tuple #[.agg #[.string ⟨#[]⟩,.a 0,.d 0,.map none,.a 0],.bool false])->(Below a w V/\((∃c ib n,GO l b r=some c/\e=.a (.tuple #[.agg #[.string (X (Fi c)),.a b,.d r,.e ib,.a (IW c:Nat)],.bool true])/\a<=ib/\n<=100000/\FI V ib n (LG c))\/(GO l b r=none/\∃d y z q k,e=.a (.tuple #[.agg #[.string d,.a y,.d z,.map q,.a k],.bool false])))):=λe V h1 h2=>⟨h1,.s ⟨HR,_,_,_,_,_,h2⟩⟩
   change Hid _ at a4;cases zz with
   |false=>
     go_wp2_with rw[<-av.o,<-aB.o];refine BE (v:=.tuple #[.agg #[.string ⟨#[]⟩,.a 0,.d 0,.map none,.a 0],.bool false]) ?_ I (a4 _ _ ?_ I)
     .simp[results,go_sem,aj,ai,ah,ao,ac]
     exact((((G7.o.setCell IC _).setCell IC _).setCell IC _).setCell IC _).setCell IC _
   |true=>
     have bm:¬q.c=o:=λe=>a1 ⟨I,e⟩
     have bj:¬(q.c:Int)=(o:Int):=U
     clear a1;go_wp2_with rw[<-av.o,<-aB.o];refine BE (v:=.tuple #[.agg #[.string ⟨#[]⟩,.a 0,.d 0,.map none,.a 0],.bool false]) ?_ I (a4 _ _ ?_ I)
     .simp[results,go_sem,aj,ai,ah,ao,ac]
     exact((((G7.o.setCell IC _).setCell IC _).setCell IC _).setCell IC _).setCell IC _
  have bh:k=o:=U
  subst bh;have A:=J (Builder_String_any_k (a+4) (a+4) (Fi c) wr f5.o.wC U);rw[show(⟨(Fi c).toArray⟩:ByteArray)=X (Fi c)from I]at A;obtain⟨d,hX⟩:=E (X (Fi c));rw[<-hX]at A;change Hid _ at hX;go_wp2_with fail;refine A.o.l ?_;rintro e x ⟨rfl,_,T,_⟩;have I2:=(T.d (a+1)).i f2;have I3:=f3.o.y (T.d (a+2));have F:=(T.d (a+3)).i f4;have I7:=HB.o.i (T.b);have r0:=EV 0 F;have bu:=Fg 0 F;obtain⟨s,R⟩:=E (x.setCell (O (a+3) 0) (.string d));have u:∀j,j≠a+3->s.heap[j]? = x.heap[j]? := λj D=>by rw[R];exact AH x ⟨a+3,0,none⟩ _ j D
  have p:QT s (a+3) (a+2) d b r (IW c):=by rw[R];exact AJ x (a+3) 0 _ 94 _ F
  have h:=(u (a+1) U).i I2;have J3:=I3.y (u (a+2) U);have J7:Below a w s:=by rw[R];exact I7.setCell IC _
  obtain⟨ee,aE⟩:=E (IW c);rw[<-aE]at p;change Hid _ at aE;have t0:=EV 0 p;have t1:=EV 1 p;have t2:=EV 2 p;have t3:=EV 3 p;have t4:=EV 4 p;have aj:=EV 0 h;have ai:=EV 1 h;have ah:=EV 2 h;have ao:=EV 3 h;have ac:=EV 4 h;have y0:=Fg 0 h;have y1:=Fg 1 h;have y2:=Fg 2 h;have y3:=Fg 3 h;have y4:=Fg 4 h;have b0:=J J3;change Hid _ at J7 R;have aO:k=0\/GO l b r=some c:=by
   rcases Nat.eq_zero_or_pos k with h0|h0
   .exact .w h0
   right
   unfold GO;rw[<-ho.o,AC U];exact HP
  change Hid _ at aO;have H0:Hid (k=0->GO l b r=none):=J (λh0=>by unfold GO;rw[<-ho.o,AD h0]);by_cases aQ:k=0
  .subst aQ;go_wp2_with rw[<-R.o];refine BE (v:=.tuple #[.agg #[.string d,.a b,.d r,.map (some (a+2)),.a ee],.bool false]) ?_ I ⟨?_,.s ⟨H0 trivial,_,_,_,_,_,I⟩⟩
   .simp[results,go_sem,aj,ai,ah,ao,ac]
   exact((((J7.o.setCell IC _).setCell IC _).setCell IC _).setCell IC _).setCell IC _
  have br:(0:Int)<(k:Int):=U
  go_wp2_with rw[<-R.o];refine BE (v:=.tuple #[.agg #[.string d,.a b,.d r,.map (some (a+2)),.a ee],.bool true]) ?_ I ⟨?_,.w ⟨c,a+2,n',aO.o.resolve_left aQ,?_,by omega,by omega,?_⟩⟩
  .simp[results,go_sem,aj,ai,ah,ao,ac];omega
  .exact((((J7.o.setCell IC _).setCell IC _).setCell IC _).setCell IC _).setCell IC _
  .rw[<-aE.o,<-hX.o]
  exact b0.o.y (by
   refine(AH _ ⟨a+1,4,none⟩ _ _ IC).i ?_;refine(AH _ ⟨a+1,3,none⟩ _ _ IC).i ?_;refine(AH _ ⟨a+1,2,none⟩ _ _ IC).i ?_;refine(AH _ ⟨a+1,1,none⟩ _ _ IC).i ?_;exact AH _ ⟨a+1,0,none⟩ _ _ IC)
end Y
namespace Y
open Go.RowKit Pk Go.Shelf
open Go.Nt (Fp Ea Fc FE Le Oa FD GO Fi LG IW)
attribute [local go_sem] Oper.semAt_some
def rv(ps:List Fp)(b r ib:Nat):Value:=.agg #[.string (X (Fi ps)),.a b,.d r,.e ib,.a (IW ps:Nat)]
def PF(ps:List Fp)(b r ib:Nat):List Value:=[.string (X (Fi ps)),.a b,.d r,.e ib,.a (IW ps:Nat)]
theorem S7:(prog.info? 94).map (λi=>(i.zero,i.size,i.bytes))=some (some (.agg #[.string ⟨#[]⟩,.a 0,.d 0,.map none,.a 0]),5,48):=EG
theorem Qn{F:Fence}{n:Nat}{P:Program}{b:Array Oper}{o:Oper}{a:Act}{w:Z}{K:Act->Z->Prop}{Q:Exit->Act->Z->Prop}{f:Prop}(d:o.guard=none)(s x:Operand)(t:TypeId) (e:o.op=.call {callee:=.builtin .append,args:=#[s,x],argTypes:=#[t,t]}) (i j:Value) (m:a.eval s=i) (q:a.eval x=j) (g:Value) (w':Z) (l:(Builtin.append_ #[t,t] o.type #[i,j]).run P w=.ok g w') (h:K (a.put o.dst g) w'):if Region.wanted o (yielded b a.tmps)=true then Oper.wpIn F n P o a w K Q else f:=by
 have p:Region.wanted o (yielded b a.tmps)=true:=by simp[Region.wanted,d]
 rw[AD p];unfold Oper.wpIn;refine⟨by simp[Oper.about,e,resolve,Target.leads,Sem.run_pure],?_⟩;rw[Oper.semAt_plain F _ _ (by rw[e];intro c k;cases k)];simp[execOp,e,resolve,invoke,builtin,m,q,l,Result.andThen];exact h
end Y
namespace Y
open Go.RowKit Pk Go.Shelf
open Go.Nt (Fp Ea Fc FE Le Oa FD GO Fi LG IW)
variable {w:Z} {gm z n b r:Nat} {l:List Fp} {D:DataW Value} {S:Nat->Nat->Bool} {ib nb:Nat->Nat->Nat}
def GY(l:List Fp)(b r:Nat):List Fp:=(GO l b r).getD []
structure WM (w:Z) (z gm n:Nat) (l:List Fp) (D:DataW Value) (S:Nat->Nat->Bool) (ib nb:Nat->Nat->Nat):Prop where
 own:w.ownsMap prog 90 Kj gm n D
 has:∀b r,b<=1000000->r<=4294967295->Maps.has D (lk b r)=S b r
 keys:∀kl,Maps.has D kl=true->∃b r,b<=1000000/\r<=4294967295/\kl=lk b r
 OU:∀b r,S b r=true->b<=1000000/\r<=4294967295/\GO l b r=some (GY l b r)/\(∀zd,D.atKey (lk b r) zd=.held (rv (GY l b r) b r (ib b r)))/\z<=ib b r/\nb b r<=100000/\FI w (ib b r) (nb b r) (LG (GY l b r))
theorem WM.made(l:List Fp)(h:w.ownsMap prog 90 Kj gm 0 (.map [])):WM w z gm 0 l (.map []) (λ_ _=>false) (λ_ _=>0) (λ_ _=>0):=
 ⟨h,λb r _ _=>rfl,λ_ h=>by simp[Maps.has]at h,λb r h=>by cases h⟩
theorem WM.kept{w':Z}(h:WM w z gm n l D S ib nb)(d:∀k,k=gm\/z<=k->k<w.heap.size->w'.heap[k]?=w.heap[k]?):WM w' z gm n l D S ib nb:=
 ⟨Uq h.own (d gm (.w I) h.own.lt),h.has,h.keys,λb r m=>by obtain⟨e,f,g,i,a,j,c⟩:=h.OU b r m;exact⟨e,f,g,i,a,j,c.y (d _ (.s a) c.lt)⟩⟩
theorem WM.store(h:WM w z gm n l D S ib nb){i k:Nat}(f:b<=1000000)(j:r<=4294967295){a:List Fp}(g:GO l b r=some a)(L:z<=i)(A:k<=100000)(H:FI w i k (LG a))(c:n<=1000000)(c:gm<z):∃w' R s t,(Instr.mapUpdate 137 (.e gm) (lv b r) (rv a b r i)).run prog w=.ok () w'/\WM w' z gm (n+1) l R (λx y=>(x==b&&y==r)||S x y) s t/\w.mapTurned w' gm:=by
 obtain⟨w',c,d,G⟩:=h.own.store Jb underlying137 Fs (LR f j) (show Kj (rv a b r i)=some (.held (rv a b r i),[])from I);have o:GY l b r=a:=by unfold GY;rw[g];rfl
 have K:=h.own.isMap;have a:=G.C;have u:∀q,z<=q->q<w.s->w'.e w q:=λq _ m=>a.u q m (λe=>by cases e;omega);refine⟨w',_,λx y=>if x=b/\y=r then i else ib x y,λx y=>if x=b/\y=r then k else nb x y,c,⟨d,λx y M N=>?_,λP v=>?_,λx y a=>?_⟩,G⟩
 .by_cases e:x=b/\y=r
  .obtain⟨rfl,rfl⟩:=e;rw[Cx K (k:=lk x y) (by unfold lk;trivial)];simp
  have m:lk x y≠lk b r:=λp=>e (Tn M N f j p);rw[Bp m,h.has x y M N];have:(x==b&&y==r)=false:=EU (λc d=>e ⟨c,d⟩);rw[this];simp
 .by_cases e:P=lk b r
  .exact⟨b,r,f,j,e⟩
  rw[Bp e]at v;exact h.keys P v
 by_cases e:x=b/\y=r
 .obtain⟨rfl,rfl⟩:=e;simp only[and_self,Dr];refine⟨f,j,by rw[o];exact g,λQ=>?_,L,A,?_⟩
  .rw[D5 K (k:=lk x y) (by unfold lk;trivial),o]
  rw[o];exact H.y (u i L H.lt)
 have T:S x y=true:=by have:(x==b&&y==r)=false:=EU (λc d=>e ⟨c,d⟩);simpa[this]using a
 obtain⟨A,B,V,W,C,a,F⟩:=h.OU x y T;have m:lk x y≠lk b r:=λp=>e (Tn A B f j p);simp only[AC e];exact⟨A,B,V,λQ=>by rw[DU m];exact W Q,C,a,F.y (u _ C F.lt)⟩
theorem WM.look(h:WM w z gm n l D S ib nb)(g:S b r=true):(Instr.lookup 137 (.e gm) (lv b r) false).run prog w=.ok (rv (GY l b r) b r (ib b r)) w:=by obtain⟨d,e,_,f,_,_,_⟩:=h.OU b r g;obtain⟨_,_,a,c⟩:=h.own.lookup Jb underlying137 (TP w) (show Kj Ss=some (.held Ss,[])from I) (LR d e);rw[f]at c;rw[pP c]at a;exact a
variable {l:List Fp} {w:Z} {gm n:Nat} {D:DataW Value} {S:Nat->Nat->Bool} {ib nb:Nat->Nat->Nat}
attribute [local go_sem] Oper.semAt_some
def FK(l:List Fp)(b r:Nat):Bool:=Fc l b r&&(GO l b r).isSome
def Gx(l:List Fp)(ord:List (Nat×Nat)):Prop:=∃(ls:List (Nat×Nat)) (ks:List Nat) (rs:Nat->List Nat),ls.Nodup/\(∀x,x∈ls↔(x.1<=1000000/\x.2<=4294967295/\FK l x.1 x.2=true))/\Asc ks/\ks.Nodup/\(∀b,b∈ks↔numsOf ls b≠[]) /\
 (∀b∈ks,∃ys,ys.Perm (numsOf ls b)/\Asc ys/\rs b=ys.drop (GI ys)++ys.take (GI ys))/\ord=ks.flatMap (λb=>Gp b (rs b))
theorem Gx.mem{a:List (Nat×Nat)}(h:Gx l a){x:Nat×Nat}(n:x∈a):x.1<=1000000/\x.2<=4294967295/\FK l x.1 x.2=true:=by
 obtain⟨_,_,_,_,i,_,_,_,j,rfl⟩:=h;obtain⟨b,k,g⟩:=List.mem_flatMap.1 n;obtain⟨y,d,rfl⟩:=AZ.1 g;obtain⟨p,m,_,e⟩:=j b k;rw[e]at d;have f:y∈p:=by
  rcases Aj.1 d with h|h
  .exact List.mem_of_mem_drop h
  exact DP h
 have c:=m.mem_iff.1 f;unfold numsOf at c;obtain⟨z,o,rfl⟩:=AZ.1 c;have:=Ad.1 o;have e2:z.1=b:=EU this.2;subst e2;exact(i z).1 this.1
def PU(l:List Fp)(ib:Nat->Nat->Nat)(xs:List (Nat×Nat)):List Value:=xs.flatMap (λx=>PF (GY l x.1 x.2) x.1 x.2 (ib x.1 x.2))
theorem wj(l:List Fp)(a:Nat->Nat->Nat)(b:List (Nat×Nat))(x:Nat×Nat):PU l a (b++[x])=PU l a b++PF (GY l x.1 x.2) x.1 x.2 (a x.1 x.2):=by simp[PU]
theorem WM.Mi{w':Z}{z q:Nat}(h:WM w z gm n l D S ib nb)(o:∀b r,S b r=true->ib b r<q)(d:∀k,k=gm\/(z<=k/\k<q)->k<w.heap.size->w'.heap[k]?=w.heap[k]?):WM w' z gm n l D S ib nb:=
 ⟨Uq h.own (d gm (.w I) h.own.lt),h.has,h.keys,λb r e=>by obtain⟨f,g,i,j,a,m,c⟩:=h.OU b r e;exact⟨f,g,i,j,a,m,c.y (d _ (.s ⟨a,o b r e⟩) c.lt)⟩⟩
structure RL (w:Z) (z0 gm q7 zz zr n:Nat) (l:List Fp) (D:DataW Value) (S:Nat->Nat->Bool) (ib nb:Nat->Nat->Nat) (pre:List (Nat×(Nat×Nat))) (W:Z):Prop where
 box:∃v,W.heap[q7]?=some (.cells #[v] 86 (0,0))/\W.ownsRow zr 94 5 v pre.length (PU l ib (pre.map (·.2)))
 wm:WM W zz gm n l D S ib nb
 h:∀b r,S b r=true->ib b r<q7
 mb:W.heap[gm+1]?=some (.cells #[.e gm] 137 (0,0))
 be:Below z0 w W
theorem RL.C{z0 c A z:Nat}{b:List (Nat×(Nat×Nat))}{W W':Z}{row:Option Nat}{B:Nat}(h:RL w z0 gm c A z n l D S ib nb b W)(P:z0<=B)(H:gm+1<B)(K:c<B)(a:z0<=W.heap.size)(m:W.grownBy W' row)(q:∀r,row=some r->B<=r/\∃o:Obj,W.heap[r]?=some o/\o.isCells=false):RL w z0 gm c A z n l D S ib nb b W':=by
 have d:∀k,k<B->k<W.s->W'.e W k:=λk N p=>m.u k p (λe=>by exact Dz ((q k e.A).1));obtain⟨⟨v,x,s⟩,C,u,t,F⟩:=h;refine⟨⟨v,(d c K (lt_of_heap x)).i x,?_⟩,C.Mi u (λk N p=>d k U p),u,(d _ H (lt_of_heap t)).i t,F.C m a (λk e=>by exact Dz ((q k e).1))⟩;refine⟨s.1,?_⟩;rcases s.2 with a|⟨g,f,i,e,a,j,L⟩
 .exact .w a
 exact .s ⟨g,f,i,e,a,(m.u g (lt_of_heap j) (λG=>by obtain⟨_,o,y,M⟩:=q g G.A;rw[j]at y;cases y;cases M)).i j,L⟩
def ZE(w:Z)(left:Lit->Bool)(zz gm n:Nat)(l:List Fp)(ho:Lit->Bool):Prop:=∃D S ib nb,WM w zz gm n l D S ib nb/\∀b r,b<=1000000->r<=4294967295->S b r=(ho (lk b r) && !left (lk b r)&&(GO l b r).isSome)
theorem Ly{α:Type}(l:List α):∀(l':List α),l.Nodup->(∀x∈l,x∈l')->l.length<=l'.length:=by
 classical
 induction l with
 |nil=>intro _ _ _;exact AW _
 |cons a l h=>
   intro l' g d;have c:=d a EJ;have b:=Ct.1 g
   have:=h (l'.erase a) b.2 (λx f=>(List.mem_erase_of_ne (λe=>b.1 (by rw[<-e];exact f))).2 (d x (by simp[f])))
   rw[List.length_erase_of_mem c]at this;have i:0<l'.length:=List.length_pos_of_mem c;simp only[Ae];omega
theorem yS{α β:Type}(d:List α)(f:α->List β)(c:Nat)(h:∀b∈d,(f b).length<=c):(d.flatMap f).length<=d.length*c:=by
 induction d with
 |nil=>simp
 |cons a l g=>rw[List.flatMap_cons,AM,Ae,Nat.succ_mul];have:=g (λb e=>h b (by simp[e]));exact Dz (h a EJ)
theorem oT(g:w.ownsMap prog 90 Kj gm n D){b:List (Nat×Nat)}(r:b.Nodup)(a:∀x∈b,Oj x)(q:∀x∈b,Maps.has D (lk x.1 x.2)=true):b.length<=n:=by
 obtain⟨j,f,_,_⟩:=g.entries Jb;have k:(b.map (λx=>lk x.1 x.2)).Nodup:=CT.2 (r.imp_of_mem λ{x y} c i d e=>d (by have:=Tn (a x c).1 (a x c).2 (a y i).1 (a y i).2 e;exact Prod.ext this.1 this.2))
 have l:=Ly _ (j.map (·.1)) k (λ_ o=>by
  obtain⟨x,c,rfl⟩:=AZ.1 o;have:=q x c;rw[f,Maps.has_eq,Ap]at this;obtain⟨p,s,h⟩:=this;refine AZ.2 ⟨p,s,?_⟩;by_cases e:p.1=lk x.1 x.2
  .exact e
  rw[DL e]at h;cases h)
 have m:=g.size_le;rw[f,Maps.size_eq]at m;simp only[B0]at l;omega
end Y
section
open Go.RowKit Go.Nt
variable {w:Z} {B:Nat} {v:Value} {l:Bs} {u:Bs->Option Bs}
structure Ge (u:Bs->Option Bs):Prop where
 small:∀(t d:Bs),u t=some d->d.length<=4000
 pack:∀(w:Z) (d:Bs),d.length<=4000->Calls prog 131 #[.string (X d)] w λe w'=>∃t,e=.a (.tuple #[.string (X t),.a 0])/\u t=some d/\t.length<=d.length+1/\Below w.heap.size w w'
 some:∀(w:Z) (t d:Bs),t.length<=1000000->u t=some d->Calls prog 145 #[.string (X t)] w λe w'=>e=.a (.tuple #[.string (X d),.a 0])/\Below w.heap.size w w'
 none:∀(w:Z) (t:Bs),t.length<=1000000->u t=none->Calls prog 145 #[.string (X t)] w λe w'=>e=.a (.tuple #[.string ⟨#[]⟩,.a 2])/\Below w.heap.size w w'
def Gs(k t:Nat)(p:Bs):Bs:=enc 2 k++enc 4 t++enc 1 p.length++p
theorem Bytes.alloc(h:Bytes w B v l)(o:Obj):Bytes (w.alloc o) B v l:=World.ownsRow.alloc h o
theorem Bytes.f{w':Z}{M:Nat}(h:Bytes w B v l)(b:Below M w w')(a:w.heap.size<=M):Bytes w' B v l:=own_below h b (λq c=>AQ (Dn h q c).2 a)
theorem o4(B:Nat)(v:Value)(l:Bs)(x:It)(w:Z)(g:B<=w.heap.size)(S:Bytes w B v l)(b:l.length<=900000)(c:Fit x)(b:x.d=true):Calls prog 79 #[v,Jg x] w λe w'=>∃v' a,e=.a v'/\Ik u x a/\Bytes w' B v' (l++a)/\Below B w w'/\Jf 5 w w':=by
 obtain⟨i0,W,N,H,r⟩:=An IM;obtain⟨V,f,h,_,_,_,R⟩:=c;obtain⟨p,d,_,_,t⟩:=x;simp only at *;subst b;obtain rfl:=R I;obtain⟨M,rfl⟩:=As V;obtain⟨T,rfl⟩:=As h;have b:=YJ M V f;unfold Jg;obtain⟨b,o⟩:=E (X p);have f:b.size=p.length:=by rw[o,EF]
 have HX:=J o;have V:=J f;have c:b.size<=255:=U;clear f;simp only;rw[<-o];obtain⟨j,c⟩:=E (w.alloc (.cells #[.string b,.bool true,.string (X []),.a M,.a T] 39));have P:=Gi c;have k:Below B w j:=by rw[c];exact(AP _ w).alloc g _
 have F:Jf 5 w j:=by rw[c];exact(Jf.refl _ w).alloc _
 have g:Bytes j B v l:=by rw[c];exact S.alloc _
 have D:=J (Tj B v l 2 (M+32768) j (Dz k.size) g EB U U);change Hid _ at c P;have h:=J k;change Hid _ at F;have i:=k.size;clear o k g S R;go_enter func79,ntmps79;go_wp2_with fail;rw[<-c.o];refine D.o.l ?_;rintro e i ⟨c,rfl,g,n,s⟩;have y:=s.cells P EB;have j:=EV 4 y;have k:=J (Tj B c _ 4 T i (Dz n.size) g EB (by rw[AM,KC];omega) U);change Hid _ at y;have c:=J (h.o.i n);have h:=J (F.o.i s);have i:=n.size;clear D n s g;go_wp2_with fail;refine k.o.l ?_;rintro e j ⟨i,rfl,g,A,G⟩;have C:=G.cells y EB;have k:=EV 0 C;have n:=J (Tj B i _ 1 b.size j (Dz A.size) g EB (by rw[AM,AM,KC,KC];omega) U);change Hid _ at C;have j:=J (c.o.i A);have D:=J (h.o.i G);have c:=A.size;go_wp2_with fail;refine n.o.l ?_;rintro e g ⟨_,rfl,m,K,Q⟩;have z:=Q.cells C EB;have c:=EV 0 z;obtain⟨o,c,rfl⟩:=m.slice;obtain⟨L,h⟩:=E ((l++enc 2 (M+32768)++enc 4 T++enc 1 b.size).length);have i:L<=900007:=by rw[h];simp[KC];omega
 have i:Hid (g.r B 5 1 (.slice o L c) L (bv (l++enc 2 (M+32768)++enc 4 T++enc 1 b.size))):=J (by unfold Bytes at m;rw[<-h]at m;exact m);rw[<-h];change Hid _ at h z;have c:=J (j.o.i K);have S:=J (D.o.i Q);have j:=K.size;go_wp2_with (at_builtin;refine Ch _ I (.tmp 26) (.tmp 28) 111 9 I B 5 i0 underlying111 underlying9 W N H r _ _ _ I i b I ?c3 ?c4 ?c5 ?_)
 case c3=>unfold maxLen;omega
 case c4=>omega
 case c5=>omega
 intro W j s r _;have H:=c.o.C r U (λq c=>(i.o.lt q c).1);have N:=S.o.C i r;have c:=(((Jf.refl 5 g).C i r).cells z EB);have g:=EV 1 c;have R:Hid (Bytes j B W (l++Gs (M+32768) T p)):=by
  refine J ?_;unfold Bytes;have c:=HX;have g:=h;have f:=V;have e1:l++Gs (M+32768) T p=l++enc 2 (M+32768)++enc 4 T++enc 1 b.size++p:=by unfold Gs;rw[f];simp
  rw[e1,Qs,AM,<-g,<-Uk p,<-c,<-f];simp only[Aw];exact s
 change Hid _ at H N;go_wp2;go_ret;refine⟨W,Gs (M+32768) T p,I,?_,R,H,N⟩;unfold Ik;rw[AD I];rfl
theorem wL(F:Ge u)(B:Nat)(v:Value)(l:Bs)(x:It)(w:Z)(j:B<=w.heap.size)(G:Bytes w B v l)(b:l.length<=900000)(f:Fit x)(b:x.d=false):Calls prog 79 #[v,Jg x] w λe w'=>∃v' a,e=.a v'/\Ik u x a/\Bytes w' B v' (l++a)/\Below B w w'/\Jf 5 w w':=by
 obtain⟨i0,hi,Q,R,aP⟩:=An IM;obtain⟨g,_,h,_,_,c,m⟩:=f;obtain⟨p,d,z,_,t⟩:=x;simp only at *;subst b;obtain⟨M,rfl⟩:=As g;obtain⟨T,rfl⟩:=As h;unfold Jg;obtain⟨b,N⟩:=E (X p);have h:b.size=p.length:=by rw[N,EF]
 have S:=J N;obtain⟨i,g⟩:=E (X z);have n:=J (λW=>F.pack W z c);rw[<-g]at n;have r:=J h;have c:b.size<=255:=U;clear h;simp only;rw[<-N,<-g];obtain⟨y,f⟩:=E (w.alloc (.cells #[.string b,.bool false,.string i,.a M,.a T] 39));have D:=Gi f;have C:Below B w y:=by rw[f];exact(AP _ w).alloc j _
 have A:Jf 5 w y:=by rw[f];exact(Jf.refl _ w).alloc _
 have k:Bytes y B v l:=by rw[f];exact G.alloc _
 have j:=J (Tj B v l 2 M y (Dz C.size) k EB U U);change Hid _ at f D;have c:=J C;change Hid _ at A;have i:=C.size;clear N C k G m g F;go_enter func79,ntmps79;go_wp2_with fail;rw[<-f.o];refine j.o.l ?_;rintro e m ⟨i,rfl,k,z,g⟩;have G:=g.cells D EB;have f:=EV 4 G;have C:=J (Tj B i _ 4 T m (Dz z.size) k EB (by rw[AM,KC];omega) U);change Hid _ at G;have P:=J (c.o.i z);have D:=J (A.o.i g);have c:=z.size;clear j z g k;go_wp2_with fail;refine C.o.l ?_;rintro e i ⟨c,rfl,H,F,g⟩;have A:=g.cells G EB;have k:=EV 0 A;have j:=J (Tj B c _ 1 b.size i (Dz F.size) H EB (by rw[AM,AM,KC,KC];omega) U);change Hid _ at A;have z:=J (P.o.i F);have N:=J (D.o.i g);have c:=F.size;clear C F g H f G P D;go_wp2_with fail;refine j.o.l ?_;rintro e F ⟨_,rfl,m,g,V⟩;have i:=V.cells A EB;have y:=EV 0 i;obtain⟨c,f,rfl⟩:=m.slice;obtain⟨L,o⟩:=E ((l++enc 2 M++enc 4 T++enc 1 b.size).length);have s:L<=900007:=by rw[o];simp[KC];omega
 have s:Hid (F.r B 5 1 (.slice c L f) L (bv (l++enc 2 M++enc 4 T++enc 1 b.size))):=J (by unfold Bytes at m;rw[<-o]at m;exact m);rw[<-o];have c:=J o;have P:=J i;have f:=J (z.o.i g);have D:=J (N.o.i V);have C:=g.size;clear j i g V m k A z N o;go_wp2_with (at_builtin;refine Ch _ I (.tmp 26) (.tmp 28) 111 9 I B 5 i0 underlying111 underlying9 hi Q R aP _ _ _ I s b I ?c3 ?c4 ?c5 ?_)
 case c3=>unfold maxLen;omega
 case c4=>omega
 case c5=>omega
 intro k H z i _;have C:=f.o.C i U (λq o=>(s.o.lt q o).1);have G:=D.o.C s i;have g:=(((Jf.refl 5 F).C s i).cells P EB);have s:=EV 1 g;have j:Hid (Bytes H B k (l++Gs M T p)):=by
  refine J ?_;unfold Bytes;have k:=S;have m:=c;have h:=r;have e1:l++Gs M T p=l++enc 2 M++enc 4 T++enc 1 b.size++p:=by unfold Gs;rw[h];simp
  rw[e1,Qs,AM,<-m,<-Uk p,<-k,<-h];simp only[Aw];exact z
 have h:=EV 2 g;have D:=J C;have F:=J G;have b:=i.size;clear z i C G g y;go_wp2_with fail;refine(n H).l ?_;rintro e G ⟨t,rfl,V,C,g⟩;obtain⟨b,c,rfl⟩:=j.o.slice;obtain⟨r,H⟩:=E ((l++Gs M T p).length);have N:Hid (Bytes G B (.slice b r c) (l++Gs M T p)):=J (by rw[H];exact j.o.f g (AB _));have b:r<=900270:=by rw[H];simp[Gs,KC];omega
 rw[<-H];clear H;obtain⟨c,P⟩:=E (X t);have A:c.size=t.length:=by rw[P,EF]
 have z:=J (Tj B _ _ 2 c.size G (by have:=g.size;exact Dz D.o.size) N EB (by simp[Gs,KC];omega) U);have b:=trivial;rw[<-P];have b:=J P;have r:=J A;have f:=J V;have y:=J C;have i:=J (D.o.i (g.l (Dz D.o.size)));have G:=J (F.o.f g);have H:=g.size;have H:c.size<=4001:=U;clear P A V C g j D F s h n;go_wp2_with fail;refine z.o.l ?_;rintro e s ⟨_,rfl,j,g,C⟩;obtain⟨V,h,rfl⟩:=j.slice;obtain⟨K,n⟩:=E ((l++Gs M T p++enc 2 c.size).length);have A:K<=900300:=by rw[n];simp[Gs,KC];omega
 have S:Hid (s.r B 5 1 (.slice V K h) K (bv (l++Gs M T p++enc 2 c.size))):=J (by unfold Bytes at j;rw[<-n]at j;exact j);rw[<-n];have P:=J n;have h:=J (i.o.i g);have s:=J (G.o.i C);have A:=g.size;have A:=i.o.size;clear n j g C i G z N;go_wp2_with (at_builtin;refine Ch _ I (.tmp 43) (.tmp 44) 111 9 I B 5 i0 underlying111 underlying9 hi Q R aP _ _ _ I S c I ?c3 ?c4 ?c5 ?_)
 case c3=>unfold maxLen;omega
 case c4=>omega
 case c5=>omega
 intro C i R Q _;have j:=h.o.C Q U (λq o=>(S.o.lt q o).1);have g:=s.o.C S Q;have N:Hid (Bytes i B C (l++(Gs M T p++enc 2 t.length++t))):=by
  refine J ?_;unfold Bytes;have k:=b;have m:=P;have n:=r;have e1:l++(Gs M T p++enc 2 t.length++t)=l++Gs M T p++enc 2 c.size++t:=by rw[n];simp
  rw[e1,Qs,AM,<-m,<-Uk t,<-k,<-n];simp only[Aw]at R |-;exact R
 change Hid _ at j g;clear R Q;go_wp2;go_ret;refine⟨C,Gs M T p++enc 2 t.length++t,I,?_,N,j,g⟩;unfold Ik;exact⟨t,f,y,I⟩
theorem wz(h:Ge u)(B:Nat)(v:Value)(l:Bs)(x:It)(w:Z)(b:B<=w.heap.size)(g:Bytes w B v l)(f:l.length<=900000)(d:Fit x):Calls prog 79 #[v,Jg x] w λe w'=>∃v' a,e=.a v'/\Ik u x a/\Bytes w' B v' (l++a)/\Below B w w'/\Jf 5 w w':=by
 cases c:x.d with
 |true=>exact o4 B v l x w b g f d c
 |false=>exact wL h B v l x w b g f d c
variable {l:List It} {p:Bs} {y:It}
structure EX (l:List It):Prop where
 len:l.length<=60
 ok:∀x∈l,Es x=true
 nodup:(l.map (·.c)).Nodup
 up:∀x∈l,par x.c=[]\/FW l (par x.c)=true
theorem Pu(l:List It):Ek l=true↔EX l:=by unfold Ek;simp only[AV,BJ,BD,Ce];exact⟨λ⟨⟨⟨a,b⟩,c⟩,d⟩=>⟨a,b,c,d⟩,λ⟨a,b,c,d⟩=>⟨⟨⟨a,b⟩,c⟩,d⟩⟩
theorem Fv:FW l p=true↔∃y∈l,y.c=p/\y.d=true:=by unfold FW;rw[Ap];simp
theorem fY(h:OX l p=true):par p=[]\/FW l (par p)=true:=by
 rcases Vs p with c|⟨j,d,a,b⟩
 .exact .w (UG c)
 rw[Sc a b];unfold OX at h;have:=BD.1 h j (Bv.2 d);rw[a]at this;simp at this;exact .s this
theorem XK(a:(l.map (·.c)).Nodup)(f:It->Bool):((l.filter f).map (·.c)).Nodup:=
 a.sublist (List.filter_sublist.map _)
theorem vV(b:(l.map (·.c)).Nodup)(h:at? l p=some y):(l.filter (λz=>decide (z.c≠p))).length+1=l.length:=by
 induction l with
 |nil=>simp[at?]at h
 |cons z l f=>
  rw[BS,Ct]at b;by_cases e:z.c=p
  .rw[Db (by simp[e]),Cg.2,Ae];intro a c;simp;intro d;exact b.1 (AZ.2 ⟨a,c,d.i e.A⟩)
  rw[Da (by simp[e]),Ae,Ae,f b.2];unfold at? at h;rwa[List.find?_cons_of_neg (by simp[e])]at h
theorem TA(e:(l.map (·.c)).Nodup)(x:It):((En l x).map (·.c)).Nodup:=by unfold En;rw[Au,CI];refine⟨XK e _,by simp,λa d b c=>?_⟩;simp at c;subst c;obtain⟨y,f,rfl⟩:=AZ.1 d;simpa using(Ad.1 f).2
theorem lz(a:(l.map (·.c)).Nodup)(x:It):(En l x).length=if(at? l x.c).isSome then l.length else l.length+1:=by
 unfold En;rw[AM,List.length_singleton];cases h:at? l x.c with
 |none=>rw[Cg.2 (λy b=>by simpa using GN.1 h y b)];rfl
 |some y=>rw[vV a h];rfl
theorem mem_set{x:It}:y∈En l x↔(y∈l/\y.c≠x.c)\/y=x:=by unfold En;rw[Aj,Ad];simp
theorem EX.set(h:EX l)(x:It)(j:Es x=true)(g:OX l x.c=true)(f:∀y,at? l x.c=some y->y.d=true->x.d=true)(b:(at? l x.c).isSome=true\/l.length<60):EX (En l x):=by
 have key:∀q,FW l q=true->FW (En l x) q=true:=by
  intro q i;obtain⟨z,d,rfl,c⟩:=Fv.1 i;by_cases e:z.c=x.c
  .exact Fv.2 ⟨x,mem_set.2 (.s I),e.A,f z (by rw[<-e];exact at_mem h.nodup d) c⟩
  exact Fv.2 ⟨z,mem_set.2 (.w ⟨d,e⟩),I,c⟩
 refine⟨?_,λy a=>?_,TA h.nodup x,λy a=>?_⟩
 .rw[lz h.nodup];have:=h.len;rcases b with b|b
  .rw[AD b];exact this
  split<;>omega
 .rcases mem_set.1 a with⟨a,_⟩|rfl
  .exact h.ok y a
  exact j
 rcases mem_set.1 a with⟨a,_⟩|rfl
 .exact(h.up y a).imp id (key _)
 exact(fY g).imp id (key _)
theorem EX.drop(h:EX l)(p:Bs)(f:∀y∈l,par y.c≠p):EX (l.filter (λy=>decide (y.c≠p))):=by refine⟨AG (C0 _ _) h.len,λy a=>h.ok y (Ad.1 a).1,XK h.nodup _,λy a=>?_⟩;have c:=(Ad.1 a).1;refine(h.up y c).imp id λe=>?_;obtain⟨z,g,b,d⟩:=Fv.1 e;exact Fv.2 ⟨z,Ad.2 ⟨g,by simp;rw[b];exact f y c⟩,b,d⟩
def FN(l:List It)(p:Bs):Int:=if EO p then Ei l p else 1
def Et(l:List It)(p:Bs):Int:=if FN l p=0 then(if(at? l p).isSome then 0 else 4)else FN l p
def FQ(l:List It)(p:Bs):Int:=if Et l p=0 then(match at? l p with | some x=>if x.d then 6 else 0 | none=>0)else Et l p
def Ld(l:List It)(p d:Bs):Int:=
 if FN l p=0 then
  (match at? l p with
  | some x=>if x.d then 6 else if 4000<d.length then 8 else 0
  | none=>if 4000<d.length\/60<=l.length then 8 else 0)
 else FN l p
def I0(l:List It)(p d:Bs):It:=match at? l p with | some x=>⟨p,false,d,x.a,x.b⟩ | none=>⟨p,false,d,0,0⟩
theorem EX.put(h:EX l){d:Bs}(a:Ld l p d=0):EX (En l (I0 l p d)):=by
 unfold Ld at a;split at a
 .rename_i c;unfold FN at c;split at c
  .rename_i k;have j:OX l p=true:=by rw[Vl l p h.nodup];simpa using c
   cases b:at? l p with
   |some x=>
    rw[b]at a;simp only at a;have m:x.d=false:=by cases e:x.d with|false=>rfl|true=>rw[e]at a;simp at a
    rw[m]at a;simp at a;have e:=h.ok x (Ji b).1;have g:I0 l p d=⟨p,false,d,x.a,x.b⟩:=by unfold I0;rw[b]
    rw[g];refine h.set _ ?_ j (λy i f=>?_) (.w (by show(at? l p).isSome=true;rw[b];rfl))
    .unfold Es at e |-;simp only[AV,BJ]at e |-;obtain⟨⟨⟨⟨⟨⟨t,u⟩,v⟩,n⟩,o⟩,q⟩,r⟩:=e;exact⟨⟨⟨⟨⟨⟨k,by omega⟩,by simp⟩,n⟩,o⟩,q⟩,r⟩
    have:at? l p=some y:=i;rw[b]at this;cases this;rw[m]at f;cases f
   |none=>
    rw[b]at a;simp only at a;have w:¬(4000<d.length\/60<=l.length):=λs=>by rw[AD s]at a;cases a
    have g:I0 l p d=⟨p,false,d,0,0⟩:=by unfold I0;rw[b]
    rw[g];refine h.set _ ?_ j (λy i f=>?_) (.s U)
    .unfold Es;simp only[AV,BJ];exact⟨⟨⟨⟨⟨⟨k,by omega⟩,by simp⟩,by decide⟩,by decide⟩,by decide⟩,by decide⟩
    have:at? l p=some y:=i;rw[b]at this;cases this
  cases c
 rename_i c;exact absurd a c
theorem Jf.own{t e:TypeId}{a b:Z}(h:Jf t a b)(f:e≠t){base s n:Nat}{v:Value}{j:List Value}(i:a.ownsRow base e s v n j):b.ownsRow base e s v n j:=by
 refine⟨i.1,?_⟩;rcases i.2 with⟨rfl,k⟩|⟨g,c,d,rfl,l,o,m⟩
 .exact .w ⟨I,k⟩
 exact .s ⟨g,c,d,I,l,h.cells o f,m⟩
theorem Bytes.str{w:Z}{B:Nat}{v:Value}{l:Bs}(h:Bytes w B v l):(convert 111 9 v).run prog w=.ok (.string (X l)) w:=Y.JR h
theorem MQ(l:List It):(Eg l).Perm l:=CV _ _
theorem vD(l:List It)(k:Nat):GF (l.take k)<=GF l:=by
 have h:GF l=GF (l.take k)+GF (l.drop k):=by unfold GF;rw[<-List.sum_append,<-Au,CZ]
 omega
theorem Yk{l:List It}(a:∀x∈l,Fit x):GF l<=4271*l.length:=
 Xl _ 4271 l (λx b=>by have h:=a x b;have:=h.p;exact Dz h.d)
theorem ny(w:Z)(n:Nat)(a:n<=255):Bytes (w.alloc (.cells #[.f n] 5)) w.heap.size (.b w.heap.size 1 1) (enc 1 n):=by
 have e:bv (enc 1 n)=[.f n]:=by simp only[enc,bv,BB,BS,DF,Bx];congr 2;omega
 unfold Bytes;rw[KC,e];exact⟨I,.s ⟨w.s,1,#[.f n],I,AB _,AR _ _,AB _,by unfold maxLen;omega,I,I⟩⟩
theorem tZ{L:List It}{k:Nat}{x:It}(h:L[k]?=some x):L.take (k+1)=L.take k++[x]:=by rw[Al,h];rfl
theorem kg{u:Bs->Option Bs}(hP:Ge u)(b:Nat)(l:List It)(w:Z)(N:EH w b l)(f:EX l)(m:ML w):Calls prog 43 #[.e b] w λe w'=>∃t,e=.a (.string (X t))/\Fu u (Eg l) t/\Below w.heap.size w w':=by
 obtain⟨L,y⟩:=E (Eg l);have j:L.length=l.length:=by rw[y];exact(MQ l).length_eq
 have G:∀x∈L,Fit x:=λx a=>NR (f.ok x ((MQ l).mem_iff.1 (y ▸ a)));have aF:=f.len;have a7:=λW (h:EH W b l)=>h.len f.nodup 3;have B:=J (λW (h:EH W b l) (hm:ML W)=>l8 b l W h f.nodup U hm (λx a=>by exact Dz ((NR (f.ok x a)).p)));rw[<-y]at B |-;have c:=J j;have am:=J G;have C:=J N;have K:=J m;have a8:=a7 w N;have Hw:=J (Yk G);clear y G f a7 N m;go_enter func43,ntmps43;go_wp2_with fail;have H:=J (ny w l.length U);obtain⟨T,r⟩:=E (w.alloc (.cells #[.f l.length] 5));rw[<-r]at H |-;have q:=JK r;have aN:=Ia r;have aw:=J q;refine(B.o T (C.o.f q C.o.lt) (K.o.f q K.o.lt)).l ?_;rintro e Q ⟨s,_,rfl,p⟩;have aK:=J (aw.o.i (s.b));have ar:Hid (Bytes Q w.heap.size (.b w.heap.size 1 1) (enc 1 l.length)):=J (H.o.f s (AB _));rw[<-j]at p;obtain⟨a2,c2,rfl,ag⟩:=Oq p;have M:=J p;have ax:=s.size;rw[j]at M;clear s p ag B H aw q r C K a8;obtain⟨n,hn⟩:=E l.length;rw[j];rw[<-hn]at M ar aF c |-;clear hn j;go_wp2;go_loopw [3,13] (λv i wr=>∃(k:Nat) (e:Bs),k<=n/\i=.a k/\Hid (QL u (L.take k) e)/\Hid (Bytes wr w.heap.size v (enc 1 n++e))/\Hid (Below w.heap.size w wr)/\Hid (Jf 5 Q wr)) (λ_ i _=>n-(intOf i).toNat)
 case atStart=>exact⟨0,[],AW _,I,J I,J (EU ar.o),aK,J (Jf.refl _ _)⟩
 case round=>
  obtain⟨k,e,_,rfl,D,S,z,R⟩:=hrel;have aj:=z.o.size;by_cases aM:k<n
  .obtain⟨x,a⟩:∃x,L[k]?=some x:=⟨_,AE (Dz c.o)⟩;have ao:=R.o.own EB M.o;have a9:wr.ownsRow T.heap.size 39 5 (.slice a2 L.length c2) L.length (FF L):=by rw[c.o];exact ao
   rcases PT a9 with⟨_,o⟩|⟨g,_,P,_,_,_,_,hc⟩
   .rw[o]at a;simp at a
   cases P;have hh:=hc k x a;rw[Ak]at hh;obtain⟨x0,x1,x2,x3,x4⟩:=hh;have aG:=YL D.o;have aI:=vD L k;have az:=Hw.o;have aE:e.length<=300000:=Dz c.o;obtain⟨F,d⟩:=E (wr.alloc (.cells #[.string (X x.c),.bool x.d,.string (X x.data),.a x.a,.a x.b] 39));have A:=J (wz hP w.heap.size _ _ x F (by rw[d];simp;omega) (by rw[d];exact S.o.alloc _) (by rw[AM,KC];omega) (am.o x (AY a)));unfold Jg at A;have aJ:Hid (Below w.heap.size w F):=J (by rw[d];exact z.o.alloc aj _);have aC:Hid (Jf 5 Q F):=J (by rw[d];exact R.o.alloc _);have aL:=J d;have Hx:=J a;clear ao a9 hc a aG aI az d;go_wp2_with fail;rw[<-aL.o];refine A.o.l ?_;rintro e3 _ ⟨_,V,rfl,hit,au,an,av⟩;have aD:=J (aJ.o.i an);have aA:=J (aC.o.i av);have aH:=J au;have ay:Hid (QL u (L.take (k+1)) (e++V)):=J (by rw[tZ Hx.o];exact gT D.o hit);clear hit au an av A x0 x1 x2 x3 x4;go_wp2;go_roundw
   case rel=>exact⟨k+1,e++V,by omega,by go_num,ay,J (by have:=aH.o;rwa[Aw]at this),aD,aA⟩
   case measure=>simp[intOf];omega
  have aB:k=n:=U;subst aB;have aO:=S.o.str;have HR:Hid (Fu u L (enc 1 k++e)):=by refine J ⟨e,?_,by rw[c.o]⟩;have:=D.o;rwa[AT (Dz c.o)]at this
  go_wp2;go_ret;exact⟨_,I,HR.o,z.o⟩
def Sw(u:Bs->Option Bs)(l:List It)(lo hi cb:Nat)(L:Y.Loc)(m:Y.M)(w:Z)(e:Ending)(w':Z):Prop:=
 (Ek l=false/\e=.a (.a 3)/\Y.CP w' lo hi cb L m/\Y.Ed lo hi w w') \/
 (Ek l=true/\∃t,Fu u (Eg l) t/\e=.a (.a (Y.Fe m t).1)/\Y.CP w' lo hi cb L (Y.Fe m t).2/\Y.Ed lo hi w w')
theorem Zh{u:Bs->Option Bs}(H:Ge u)(a:Option Addr)(c:Nat)(l:List It)(w:Z)(g f j:Nat)(L:Y.Loc)(m:Y.M)(d:Y.WF m)(h:Y.CP w g f j L m)(k:f<=w.heap.size)(i:ML w)(V:0<g)(T:Eh w a l)(B:l.length<=1048576)(W:∀x∈l,x.c.length<=1048576)(S:∀x∈l,x.data.length<=1048576):Calls prog 16 #[.c j,.slice a l.length c] w λe w'=>Sw u l g f j L m w e w':=by
 have A:=J (Kk a c l w i T B W S);have z:=J h;have N:=J i;have s:=J d;clear h i T W S d;go_enter func16,ntmps16;go_wp2_with fail;refine A.o.l ?_;rintro e n ⟨d,⟨q,rfl⟩|⟨o,b,rfl,_,R⟩⟩
 .have r:=J (Y.EM.f z.o k d);have v:Hid (Y.Ed g f w n):=J (Y.Ed.of_below d);clear d;go_wp2_with fail;go_ret;exact .w ⟨q,I,r.o,v.o⟩
 have P:Y.CP n g f j L m:=Y.EM.f z.o k d;have D:=N.o.f d N.o.lt;have G:EX l:=(Pu l).1 o;have B:=J (kg H b l n R G D);have v:Hid (Y.Ed g f w n):=J (Y.Ed.of_below d);have r:=J P;have Q:=J d.size;have i:=J o;have F:=J (o6 o);clear d R P D G o A;go_wp2_with fail;refine B.o.l ?_;rintro e C ⟨t,rfl,y,p⟩;have H:Y.CP C g f j L m:=Y.EM.f r.o (Dz Q.o) p;have o:t.length<=1000000:=by have R:=UZ y;have G:=Yk (l:=Eg l) (λx P=>F.o.1 x ((MQ l).mem_iff.1 P));have K:(Eg l).length=l.length:=(MQ l).length_eq;have M:=F.o.2;rw[K]at G;have:4271*l.length<=4271*60:=Dq _ M;omega
 have q:=J (Y.Ot C g f j L m t s.o H (by have:=Q.o;exact Dz p.size) o);rw[show Y.X t=X t from I]at q;have D:=J (v.o.i (Y.Ed.of_below p));have d:=J y;clear H p y B;go_wp2_with fail;refine q.o.l ?_;rintro e _ ⟨rfl,K,M⟩;have A:=J K;have p:=J (D.o.i M);obtain⟨_,s⟩:=E ((Y.Fe m t).1);rw[<-s];have y:=J s;clear K M q s;go_wp2_with fail;go_ret;exact .s ⟨i.o,t,d.o,by rw[<-y.o];rfl,A.o,p.o⟩
end
section
open Go.RowKit Go.Nt
theorem YX(b:Nat)(l:List It)(p:Bs)(w:Z)(i:EH w b l)(f:ML w)(k:p.length<=1048576):Calls prog 115 #[.e b,.string (X p)] w λe w'=>Below w.heap.size w w'/\e=.a (.a (FN l p)):=by
 have c:=J (WX p w f k);have g:=J i;have m:=J (λW (h:EH W b l)=>Z8 b l p W h k);unfold FN;cases j:EO p with
 |false=>rw[j]at c;go_enter func115,ntmps115;go_wp2_with (go_at_call 121;refine c.o.l ?_;rintro e w' ⟨a,rfl⟩;have d:=J a;clear a);go_ret;exact⟨d,I⟩
 |true=>rw[j]at c;have q:=i.lt;go_enter func115,ntmps115;go_wp2_with (first|(go_at_call 121;refine c.o.l ?_;rintro e w' ⟨a,rfl⟩;have d:=J a;have o:=J (m w' (g.o.f a g.o.lt));clear a)|(go_at_call 73;refine o.o.l ?_;rintro e _ ⟨a,rfl⟩;have n:=J a;clear a));go_ret;exact⟨d.o.i (n.o.l d.o.size),I⟩
def PV:Nd:=⟨false,[],0,0⟩
def GZ(l:List It)(p:Bs):Nd:=if Et l p=0 then(match at? l p with | some x=>nd x | none=>PV)else PV
def FU(l:List It)(p:Bs):Nd:=if FQ l p=0 then(match at? l p with | some x=>nd x | none=>PV)else PV
def Ox(w:Z)(b:Nat)(v0 v1 v2 v3:Value):Z:=(((w.setCell (O b 0) v0).setCell (O b 1) v1).setCell (O b 2) v2).setCell (O b 3) v3
theorem UI{w W:Z}{b B:Nat}(h:Below B w W)(a:B<=b)(v0 c d v3:Value):Below B w (Ox W b v0 c d v3):=
 (((h.setCell (p:=⟨b,0,none⟩) a v0).setCell (p:=⟨b,1,none⟩) a c).setCell (p:=⟨b,2,none⟩) a d).setCell (p:=⟨b,3,none⟩) a v3
structure UU (W:Z) (b:Nat) (a0 a1 a2 a3:Value):Prop where
 c0:W.cell? (O b 0)=some a0
 c1:W.cell? (O b 1)=some a1
 c2:W.cell? (O b 2)=some a2
 c3:W.cell? (O b 3)=some a3
 f0:W.frozen? (O b 0)=false
 f1:W.frozen? (O b 1)=false
 f2:W.frozen? (O b 2)=false
 f3:W.frozen? (O b 3)=false
theorem four{W:Z}{b:Nat}{a0 a c a3:Value}{T:TypeId}(h:W.heap[b]?=some (.cells #[a0,a,c,a3] T (0,0))):UU W b a0 a c a3:=
 ⟨by rw[AU W b 0 _ T (0,0) h];rfl,by rw[AU W b 1 _ T (0,0) h];rfl,by rw[AU W b 2 _ T (0,0) h];rfl,by rw[AU W b 3 _ T (0,0) h];rfl,
  Fg 0 h,Fg 1 h,Fg 2 h,Fg 3 h⟩
theorem Ua(b:Nat)(l:List It)(p:Bs)(w:Z)(z:EH w b l)(q:ML w)(M:p.length<=1048576):Calls prog 68 #[.e b,.string (X p)] w λe w'=>Below w.heap.size w w'/\e=.a (.tuple #[Gm (GZ l p),.a (Et l p)]):=by
 obtain⟨L,n⟩:=E (w.alloc (.cells #[.bool false,.string ⟨#[]⟩,.a 0,.a 0] 117));have i:=JK n;have N:=Ia n;have q0:=Gi n;have c:=J (YX b l p L (z.f i z.lt) (q.f i q.lt) M);have F:=J z;change Hid _ at n i;have G:=z.lt;change Hid _ at q0;clear z q;obtain⟨_,u⟩:=E (X p);by_cases r:FN l p=0
 .have f:Et l p=if(at? l p).isSome then 0 else 4:=by unfold Et;rw[AD r]
  rw[r]at c;cases o:at? l p with
  |none=>
   rw[o]at f;have m:=f;have j:GZ l p=PV:=by unfold GZ;rw[m];rfl
   rw[m,j];have k:=J (λW (h:EH W b l)=>(h.c (p:=p) Fs o).1);rw[<-u]at k c |-;clear f m j o r u;go_enter func68,ntmps68;go_wp2_with rw[<-n.o];refine c.o.l ?_;rintro e s ⟨a,rfl⟩;have q1:=(a.d w.heap.size).i q0;have v:=k s ((F.o.f i G).f a U);have y:=J (i.o.i (a.b));have H:=a.size;obtain⟨t,d⟩:=E (s.alloc (.cells #[.bool false,.string (X []),.a 0,.a 0] 117));have q2:t.heap[w.heap.size]?=some (.cells #[.bool false,.string ⟨#[]⟩,.a 0,.a 0] 117 (0,0)):=by rw[d];exact(Jm).i q1
   obtain⟨c0,c1,c2,c3,f0,f1,f2,f3⟩:=four q2;have B:Hid (Below w.heap.size w t):=J (by rw[d];exact y.o.a);change Hid _ at d;unfold Gm at v;clear a q1 q2 c k q0;go_wp2_with (rw[<-d.o]);have A:=UI B (AB _) (.bool false) (.string ⟨#[]⟩) (.a 0) (.a 0);refine BE (v:=.tuple #[.agg #[.bool false,.string ⟨#[]⟩,.a 0,.a 0],.a 4]) ?_ I ⟨A,I⟩;simp[results,go_sem,c0,c1,c2,c3]
  |some x=>
   rw[o]at f;have m:=f;have j:GZ l p=nd x:=by unfold GZ;rw[m,o];rfl
   rw[m,j];have k:=J (λW (h:EH W b l)=>(h.b (p:=p) Fs o).1);rw[<-u]at k c |-;clear f m j o r u;go_enter func68,ntmps68;go_wp2_with rw[<-n.o];refine c.o.l ?_;rintro e s ⟨a,rfl⟩;have q1:=(a.d w.heap.size).i q0;have v:=k s ((F.o.f i G).f a U);have y:=J (i.o.i (a.b));have H:=a.size;unfold Gm nd at v;simp only at v;obtain⟨g,C⟩:=E (X x.data);rw[<-C]at v;obtain⟨t,d⟩:=E (s.alloc (.cells #[.bool x.d,.string g,.a x.a,.a x.b] 117));have q2:t.heap[w.heap.size]?=some (.cells #[.bool false,.string ⟨#[]⟩,.a 0,.a 0] 117 (0,0)):=by rw[d];exact(Jm).i q1
   obtain⟨c0,c1,c2,c3,f0,f1,f2,f3⟩:=four q2;obtain⟨_,_,_,_,_,_,_,_⟩:=four (show t.heap[s.heap.size]?=some (.cells #[.bool x.d,.string g,.a x.a,.a x.b] 117 (0,0)) by rw[d];exact AR _ _);have B:Hid (Below w.heap.size w t):=J (by rw[d];exact y.o.a);change Hid _ at d C;clear a q1 q2 c k q0;go_wp2_with (rw[<-d.o]);have A:=UI B (AB _) (.bool x.d) (.string g) (.a x.a) (.a x.b);refine BE (v:=.tuple #[.agg #[.bool x.d,.string g,.a x.a,.a x.b],.a 0]) ?_ I ⟨A,by rw[C.o];rfl⟩;simp[results,go_sem,c0,c1,c2,c3]
 have f:Et l p=FN l p:=by unfold Et;rw[AC r]
 have j:GZ l p=PV:=by unfold GZ;rw[f,AC r]
 rw[f,j];obtain⟨D,K⟩:=E (FN l p);rw[<-K]at c r |-;rw[<-u]at c |-;clear f j u K;go_enter func68,ntmps68;go_wp2_with rw[<-n.o];refine c.o.l ?_;rintro e s ⟨a,rfl⟩;have q1:=(a.d w.heap.size).i q0;obtain⟨c0,c1,c2,c3,f0,f1,f2,f3⟩:=four q1;have y:=J (i.o.i (a.b));have H:=a.size;clear a q1 c q0;go_wp2;have A:=UI y (AB _) (.bool false) (.string ⟨#[]⟩) (.a 0) (.a 0);refine BE (v:=.tuple #[.agg #[.bool false,.string ⟨#[]⟩,.a 0,.a 0],.a D]) ?_ I ⟨A,I⟩;simp[results,go_sem,c0,c1,c2,c3]
theorem TR{l:List It}{p:Bs}(h:Et l p=0):∃x,at? l p=some x/\FN l p=0:=by
 unfold Et at h;split at h
 .rename_i a;cases b:at? l p with
  |none=>rw[b]at h;cases h
  |some x=>exact⟨x,I,a⟩
 rename_i a;exact absurd h a
theorem ZN(b:Nat)(l:List It)(p:Bs)(w:Z)(y:EH w b l)(n:ML w)(H:p.length<=1048576):Calls prog 67 #[.e b,.string (X p)] w λe w'=>Below w.heap.size w w'/\e=.a (.tuple #[Gm (FU l p),.a (FQ l p)]):=by
 obtain⟨G,m⟩:=E (w.alloc (.cells #[.bool false,.string ⟨#[]⟩,.a 0,.a 0] 117));have q:=JK m;have P:=Ia m;have q0:=Gi m;have a:=J (Ua b l p G (y.f q y.lt) (n.f q n.lt) H);change Hid _ at m q q0;obtain⟨_,D⟩:=E (X p);rw[<-D]at a |-;clear y n D;by_cases h:Et l p=0
 .obtain⟨x,r,_⟩:=TR h;have s:GZ l p=nd x:=by unfold GZ;rw[h,r];rfl
  rw[h,s]at a;unfold Gm nd at a;simp only at a;obtain⟨f,z⟩:=E (X x.data);rw[<-z]at a;change Hid _ at z;clear s;cases j:x.d with
  |true=>
   have g:FQ l p=6:=by unfold FQ;rw[AD h,r];simp[j]
   have k:FU l p=PV:=by unfold FU;rw[g];rfl
   rw[g,k];rw[j]at a;clear g k r h j;go_enter func67,ntmps67;go_wp2_with rw[<-m.o];refine a.o.l ?_;rintro e o ⟨d,rfl⟩;have q1:=(d.d w.heap.size).i q0;have u:=J (q.o.i (d.b));have B:=d.size;obtain⟨i,c⟩:=E (o.alloc (.cells #[.bool true,.string f,.a x.a,.a x.b] 117));have q2:i.heap[w.heap.size]?=some (.cells #[.bool false,.string ⟨#[]⟩,.a 0,.a 0] 117 (0,0)):=by rw[c];exact(Jm).i q1
   obtain⟨c0,c1,c2,c3,f0,f1,f2,f3⟩:=four q2;obtain⟨K,L,M,N,_,_,_,_⟩:=four (show i.heap[o.heap.size]?=some (.cells #[.bool true,.string f,.a x.a,.a x.b] 117 (0,0)) by rw[c];exact AR _ _);have t:Hid (Below w.heap.size w i):=J (by rw[c];exact u.o.a);change Hid _ at c;clear d q1 q2 a q0;go_wp2_with (rw[<-c.o]);have v:=UI t (AB _) (.bool false) (.string ⟨#[]⟩) (.a 0) (.a 0);refine BE (v:=.tuple #[.agg #[.bool false,.string ⟨#[]⟩,.a 0,.a 0],.a 6]) ?_ I ⟨v,I⟩;simp[results,go_sem,c0,c1,c2,c3]
  |false=>
   have g:FQ l p=0:=by unfold FQ;rw[AD h,r];simp[j]
   have k:FU l p=nd x:=by unfold FU;rw[g,r];rfl
   rw[g,k];rw[j]at a;have F:=J j;clear g k r h j;go_enter func67,ntmps67;go_wp2_with rw[<-m.o];refine a.o.l ?_;rintro e o ⟨d,rfl⟩;have q1:=(d.d w.heap.size).i q0;have u:=J (q.o.i (d.b));have B:=d.size;obtain⟨i,c⟩:=E (o.alloc (.cells #[.bool false,.string f,.a x.a,.a x.b] 117));have q2:i.heap[w.heap.size]?=some (.cells #[.bool false,.string ⟨#[]⟩,.a 0,.a 0] 117 (0,0)):=by rw[c];exact(Jm).i q1
   obtain⟨c0,c1,c2,c3,f0,f1,f2,f3⟩:=four q2;obtain⟨K,L,M,N,_,_,_,_⟩:=four (show i.heap[o.heap.size]?=some (.cells #[.bool false,.string f,.a x.a,.a x.b] 117 (0,0)) by rw[c];exact AR _ _);have t:Hid (Below w.heap.size w i):=J (by rw[c];exact u.o.a);change Hid _ at c;clear d q1 q2 a q0;go_wp2_with (rw[<-c.o]);have v:=UI t (AB _) (.bool false) (.string f) (.a x.a) (.a x.b);have j:=F;refine BE (v:=.tuple #[.agg #[.bool false,.string f,.a x.a,.a x.b],.a 0]) ?_ I ⟨v,by rw[z.o];unfold Gm nd;rw[j]⟩;simp[results,go_sem,c0,c1,c2,c3]
 have g:FQ l p=Et l p:=by unfold FQ;rw[AC h]
 have k:FU l p=PV:=by unfold FU;rw[g,AC h]
 have s:GZ l p=PV:=by unfold GZ;rw[AC h]
 rw[g,k];rw[s]at a;obtain⟨A,C⟩:=E (Et l p);rw[<-C]at a h |-;unfold Gm PV at a;simp only at a;clear g s k C;go_enter func67,ntmps67;go_wp2_with rw[<-m.o];refine a.o.l ?_;rintro e o ⟨d,rfl⟩;have q1:=(d.d w.heap.size).i q0;have u:=J (q.o.i (d.b));have B:=d.size;obtain⟨i,c⟩:=E (o.alloc (.cells #[.bool false,.string (X []),.a 0,.a 0] 117));have q2:i.heap[w.heap.size]?=some (.cells #[.bool false,.string ⟨#[]⟩,.a 0,.a 0] 117 (0,0)):=by rw[c];exact(Jm).i q1
 obtain⟨c0,c1,c2,c3,f0,f1,f2,f3⟩:=four q2;have t:Hid (Below w.heap.size w i):=J (by rw[c];exact u.o.a);change Hid _ at c;go_wp2_with (rw[<-c.o]);have v:=UI t (AB _) (.bool false) (.string ⟨#[]⟩) (.a 0) (.a 0);refine BE (v:=.tuple #[.agg #[.bool false,.string ⟨#[]⟩,.a 0,.a 0],.a A]) ?_ I ⟨v,I⟩;simp[results,go_sem,c0,c1,c2,c3]
theorem sc(b:Nat)(l:List It)(p:Bs)(w:Z)(g:EH w b l)(a:ML w)(m:p.length<=1048576):Calls prog 39 #[.e b,.string (X p)] w λe w'=>Below w.heap.size w w'/\e=.a (.tuple #[.string (X (FU l p).data),.a (FQ l p)]):=by have c:=J (ZN b l p w g a m);obtain⟨_,i⟩:=E (FU l p);obtain⟨_,f⟩:=E (FQ l p);rw[<-i,<-f]at c |-;unfold Gm at c;obtain⟨_,h⟩:=E (X p);rw[<-h]at c |-;clear i f h g a;go_enter func39,ntmps39;go_wp2_with (go_at_call 67;refine c.o.l ?_;rintro e w' ⟨d,rfl⟩;have j:=J d;have k:=d.size;clear d);go_ret2;exact⟨j.o.alloc k _,I⟩
end
section
open Go.RowKit Go.Nt
def Gl(w:Z)(rb:Nat)(r:Rd):Prop:=w.heap[rb]?=some (.cells #[.string (X r.1),.bool r.2] 151 (0,0))
theorem Gl.c0{w:Z}{a:Nat}{r:Rd}(h:Gl w a r):w.cell? (O a 0)=some (.string (X r.1)):=by rw[AU w a 0 _ 151 (0,0) h];rfl
theorem Gl.c1{w:Z}{a:Nat}{r:Rd}(h:Gl w a r):w.cell? (O a 1)=some (.bool r.2):=by rw[AU w a 1 _ 151 (0,0) h];rfl
theorem Gl.d{w:Z}{a:Nat}{r:Rd}(h:Gl w a r)(k:Nat):w.frozen? (O a k)=false:=Fg k h
theorem Gl.lt{w:Z}{a:Nat}{r:Rd}(h:Gl w a r):a<w.heap.size:=lt_of_heap h
structure FL (rb:Nat) (w w':Z):Prop where
 os:w'.os=w.os
 tape:w'.tape=w.tape
 output:w'.output=w.output
 size:w.heap.size<=w'.heap.size
 u:∀k,k<w.heap.size->k≠rb->w'.heap[k]?=w.heap[k]?
namespace FL
variable {rb:Nat} {a b c:Z}
theorem refl(a:Nat)(w:Z):FL a w w:=⟨I,I,I,AB _,λ_ _ _=>rfl⟩
theorem i(h:FL rb a b)(k:FL rb b c):FL rb a c:=
 ⟨k.os.i h.os,k.tape.i h.tape,k.output.i h.output,AG h.size k.size,λi d e=>(k.u i (AQ d h.size) e).i (h.u i d e)⟩
theorem of_below(h:Below a.heap.size a b):FL rb a b:=⟨h.os,h.tape,h.output,h.size,λk c _=>h.u k c⟩
theorem f(h:FL rb a b){B:Nat}(c:B<=rb)(d:B<=a.heap.size):Below B a b:=⟨h.os,h.tape,h.output,h.size,λk _=>h.u k U U⟩
theorem set(h:FL rb a b)(o:Nat)(v:Value):FL rb a (b.setCell (O rb o) v):=
 h.i ⟨I,I,I,by simp,λk _ c=>AH b ⟨rb,o,none⟩ v k c⟩
theorem alloc(h:FL rb a b)(o:Obj):FL rb a (b.alloc o):=h.i ⟨I,I,I,by simp,λk c _=>AO b o k c⟩
end FL
theorem Gl.f{w w':Z}{a:Nat}{r:Rd}(h:Gl w a r)(b:Below w.heap.size w w'):Gl w' a r:=(b.u a h.lt).i h
theorem Xj(b:Nat)(r:Rd)(n:Nat)(w:Z)(h:Gl w b r)(q:n<=1000000)(s:r.1.length<=1000000):Calls prog 144 #[.c b,.a n] w λe w'=>e=.a (.string (X (Go.Nt.tk n r).1))/\Gl w' b (Go.Nt.tk n r).2/\FL b w w':=by
 have c0:=h.c0;have c1:=h.c1;have f0:=h.d 0;have f1:=h.d 1;obtain⟨a,c⟩:=E (X r.1);have f:a.size=r.1.length:=by rw[c,EF]
 rw[<-c]at c0;have o:=J c;change Hid _ at h;have m:=J f;by_cases g:r.1.length<n
 .have d:Go.Nt.tk n r=([],([],false)):=by unfold Go.Nt.tk;rw[AD g]
  rw[d];have j:a.size<n:=U;go_enter func144,ntmps144;go_wp2;go_ret;refine⟨I,?_,((FL.refl b w).set _ _).set _ _⟩;have l:=AJ w b 0 _ 151 (.string ⟨#[]⟩) h;exact AJ _ b 1 _ 151 (.bool false) l
 have d:Go.Nt.tk n r=(r.1.take n,(r.1.drop n,r.2)):=by unfold Go.Nt.tk;rw[AC g]
 rw[d];have j:n<=a.size:=U;have p:a.size<=1000000:=U;have i:Hid (a.extract 0 n=X (r.1.take n)):=J (by rw[c,Ka];simp);have k:Hid (a.extract n a.size=X (r.1.drop n)):=J (by rw[f,c,Ka];congr 1;exact AT EJ);clear f c g d;go_enter func144,ntmps144;go_wp2;go_ret;refine⟨by rw[<-i.o];rfl,?_,(FL.refl b w).set _ _⟩;rw[k.o];exact AJ w b 0 _ 151 _ h
theorem xR{s:Bs}{i:Nat}(h:i<s.length):num (s.take (i+1))=num (s.take i)*256+(s.getD i 0).toNat:=by rw[Al,AE h];simp only[Option.toList_some];rw[Yj];simp[List.getD,h]
theorem Ol(n:Nat)(r:Rd):(Go.Nt.tk n r).1.length<=n/\(Go.Nt.tk n r).2.1.length<=r.1.length:=by
 unfold Go.Nt.tk;split
 .simp
 simp;omega
theorem xy(w:Z)(s:ByteArray)(b:Nat):Below w.heap.size w (Lib.bytesWorld w 5 s):=
 ⟨I,I,I,by rw[Lib.bytesWorld_size];omega,λk a=>Lib.bytesWorld_at_old w 5 s k a⟩
theorem Up(d:Nat)(r:Rd)(n:Nat)(w:Z)(h:Gl w d r)(t:n<=4)(W:r.1.length<=1000000):Calls prog 87 #[.c d,.a n] w λe w'=>e=.a (.a ((GR n r).1:Nat))/\Gl w' d (GR n r).2/\FL d w w':=by
 have f:=J (Xj d r n w h U W);have T:=(Ol n r).1;unfold GR;obtain⟨s,v⟩:=E ((Go.Nt.tk n r).1);obtain⟨_,t⟩:∃s,s=(Go.Nt.tk n r).2:=⟨_,I⟩;rw[<-v]at f T;rw[<-v,<-t];rw[<-t]at f;have p:s.length<=4:=U;clear v t h;obtain⟨b,p⟩:=E (X s);have y:b.size=s.length:=by rw[p,EF]
 rw[<-p]at f;have V:Hid (∀j,j<s.length->b.data.toList.getD j 0=s.getD j 0):=J (λj _=>by rw[p];rfl);have x:=J y;have o:b.size<=4:=U;clear p y;go_enter func87,ntmps87;go_wp2_with fail;refine f.o.l ?_;rintro e g ⟨rfl,F,K⟩;have B:=Lib.run_convert_string_bytes (P:=prog) g 9 111 5 b underlying9 underlying111 underlying5;have o:=xy g b d;have q:=Lib.bytesWorld_cell g 5 b;obtain⟨_,A⟩:∃c,c=grownCap g b.size 0 5:=⟨_,I⟩;obtain⟨P,C⟩:=E (Lib.bytesWorld g 5 b);rw[<-C]at B o q;rw[<-A]at B;have L:=J (F.f o);have N:=J (K.i (.of_below o));change Hid _ at q;clear A C F K o f;go_wp2;go_loopw [5,13] (λa i wr=>∃k:Nat,k<=b.size/\i=.a k/\a=.a (num (s.take k):Nat)/\wr=P) (λ_ i _=>b.size-(intOf i).toNat)
 .exact⟨0,AW _,I,I,I⟩
 .obtain⟨k,_,rfl,rfl,rfl⟩:=hrel;by_cases R:k<b.size
  .have u:k<s.length:=Dz x.o;have G:=q k R;rw[V.o k u]at G;have l:=xR u;have z:=Tu (s.take k);have S:num (s.take k)<16777216:=by
    refine AQ z ?_;have:(s.take k).length<=3:=by rw[Ac];omega
    exact AG (BK EB this) EB
   have Q:=(s.getD k 0).toNat_lt;obtain⟨c,D⟩:=E ((s.getD k 0).toNat);rw[<-D]at G l Q;obtain⟨m,H⟩:=E (num (s.take k));rw[<-H]at l S |-;have f:=um m c U U;change Hid _ at l;clear D H z;go_wp2;refine⟨⟨k+1,by omega,by go_num,?_,trivial⟩,by simp[intOf];omega⟩;rw[l.o];simp
  have u:b.size=k:=U;have M:Hid (s.take k=s):=J (AT (Dz x.o));go_wp2;go_ret;rw[M.o];exact⟨I,L,N⟩
theorem UO{n i:Nat}(h:n<65536)(a:16<=i):n.testBit i=false:=
 Nat.testBit_lt_two_pow (AQ h (AG (by decide:65536<=2^16) (BK EB a)))
theorem Vb(n:Nat)(h:n<65536):(bits .and .i64 (n:Int) 32768 != 0)=decide (32768<=n):=by
 rw[show(32768:Int)=((32768:Nat):Int)from I,(bits_nat .i64 62 EB XW n 32768 U U).1];have e:n &&& 32768=if 32768<=n then 32768 else 0:=by
  apply Nat.eq_of_testBit_eq;intro i;rw[Nat.testBit_and,show(32768:Nat)=2^15 from I,Nat.testBit_two_pow];have c:n.testBit 15=decide (2^15<=n):=by
   rw[Nat.testBit_eq_decide_div_mod_eq];by_cases a:2^15<=n
   .simp[a];omega
   simp[a];omega
  by_cases b:15=i
  .subst b;rw[c];by_cases a:2^15<=n
   .rw[AD a,Nat.testBit_two_pow];simp[a]
   rw[AC a];simp[a]
  simp only[b,decide_false,Bool.and_false];split
  .rw[Nat.testBit_two_pow];simp[b]
  simp
 rw[e];by_cases a:32768<=n<;>simp[a]
theorem Uj(n:Nat)(h:n<65536):bits .andNot .i64 (n:Int) 32768=((n%32768:Nat):Int):=by
 have key:(BitVec.ofInt 64 (n:Int) &&& ~~~BitVec.ofInt 64 32768).toNat=n%32768:=by
  rw[BitVec.toNat_and,BitVec.ofInt_natCast,BitVec.toNat_ofNat,Bd U];have b:(~~~BitVec.ofInt 64 32768).toNat=18446744073709518847:=EB;rw[b];apply Nat.eq_of_testBit_eq;intro i;rw[Nat.testBit_and,show(32768:Nat)=2^15 from I,Nat.testBit_mod_two_pow];rcases CS i 16 with a|a
  .have:∀j,j<16->(18446744073709518847:Nat).testBit j=decide (j<15):=EB;rw[this i a,Bool.and_comm]
  rw[UO h a];simp
 show IntKind.i64.wrap ((BitVec.ofInt 64 (n:Int) &&& ~~~BitVec.ofInt 64 32768).toNat:Int)=_;rw[key,XW _ U U]
def LJ(w:Z)(b:Nat)(v0 v1 v2 v3 v4:Value):Z:=((((w.setCell (O b 0) v0).setCell (O b 1) v1).setCell (O b 2) v2).setCell (O b 3) v3).setCell (O b 4) v4
theorem Zu{w:Z}{b:Nat}{a0 d e a3 a4:Value}{T:TypeId}(h:w.heap[b]?=some (.cells #[a0,d,e,a3,a4] T (0,0)))(v0 a c v3 v4:Value):(LJ w b v0 a c v3 v4).heap[b]?=some (.cells #[v0,a,c,v3,v4] T (0,0)):=by have f:=AJ w b 0 _ T v0 h;have g:=AJ _ b 1 _ T a f;have i:=AJ _ b 2 _ T c g;have j:=AJ _ b 3 _ T v3 i;exact AJ _ b 4 _ T v4 j
theorem Zj(w:Z)(b:Nat)(v0 c d v3 v4:Value)(k:Nat)(a:k≠b):(LJ w b v0 c d v3 v4).heap[k]?=w.heap[k]? := by unfold LJ;rw[AH _ _ _ k a,AH _ _ _ k a,AH _ _ _ k a,AH _ _ _ k a,AH _ _ _ k a]
theorem FL.c{c:Nat}{a b:Z}(h:FL c a b){g:Nat}(f:a.heap.size<=g)(o:Nat)(v:Value):FL c a (b.setCell (O g o) v):=
 ⟨(FL.set (FL.refl g b) o v).os.i h.os,(FL.set (FL.refl g b) o v).tape.i h.tape,(FL.set (FL.refl g b) o v).output.i h.output,by have:=h.size;simp;omega,λk d e=>(AH b ⟨g,o,none⟩ v k EL).i (h.u k d e)⟩
theorem ZV{c:Nat}{w W:Z}{b:Nat}(h:FL c w W)(a:w.heap.size<=b)(v0 d e v3 v4:Value):FL c w (LJ W b v0 d e v3 v4):=
 ((((h.c a 0 v0).c a 1 d).c a 2 e).c a 3 v3).c a 4 v4
theorem Tt(k:Nat)(r:Rd):(GR k r).1<256^k:=by unfold GR;exact AQ (Tu _) (BK EB (Ol k r).1)
theorem sj{u:Bs->Option Bs}(hP:Ge u)(c:Nat)(r:Rd)(w:Z)(h:Gl w c r)(hr:r.1.length<=1000000):Calls prog 88 #[.c c] w λe w'=>e=.a (Jg (GK u r).1)/\Gl w' c (GK u r).2/\FL c w w':=by
 unfold GK;simp only;have au:=h.lt;obtain⟨kr,hk⟩:=E (GR 2 r);obtain⟨k,N⟩:=kr;have af:k<65536:=by have:=Tt 2 r;rw[<-hk]at this;exact this
 have l1:N.1.length<=1000000:=by have:=(Ol 2 r).2;have e:(GR 2 r).2=(Go.Nt.tk 2 r).2:=I;rw[<-hk]at e;rw[<-e]at this;exact AG this hr
 rw[<-hk];simp only;obtain⟨tr,v⟩:=E (GR 4 N);obtain⟨t,H⟩:=tr;have aC:t<4294967296:=by have:=Tt 4 N;rw[<-v]at this;exact this
 have l2:H.1.length<=1000000:=by have:=(Ol 4 N).2;have e:(GR 4 N).2=(Go.Nt.tk 4 N).2:=I;rw[<-v]at e;rw[<-e]at this;exact AG this l1
 rw[<-v];simp only;obtain⟨nr,hn⟩:=E (GR 1 H);obtain⟨n,r3⟩:=nr;have aA:n<256:=by have:=Tt 1 H;rw[<-hn]at this;exact this
 have l3:r3.1.length<=1000000:=by have:=(Ol 1 H).2;have e:(GR 1 H).2=(Go.Nt.tk 1 H).2:=I;rw[<-hn]at e;rw[<-e]at this;exact AG this l2
 rw[<-hn];simp only;obtain⟨pr,hp⟩:=E (Go.Nt.tk n r3);obtain⟨p,y⟩:=pr;have l4:y.1.length<=1000000:=by have:=(Ol n r3).2;rw[<-hp]at this;exact AG this l3
 rw[<-hp];simp only;obtain⟨W0,S⟩:=E (w.alloc (.cells #[.string ⟨#[]⟩,.bool false,.string ⟨#[]⟩,.a 0,.a 0] 39));have t0:FL c w W0:=by rw[S];exact(FL.refl c w).alloc _
 have h0:Gl W0 c r:=by rw[S];exact(AO _ _ _ au).i h
 have A1:=J (Up c r 2 W0 h0 EB hr);rw[<-hk]at A1;simp only at A1;have ha:=Vb k af;have hb:=Uj k af;change Hid _ at S t0 hk;have Ht:=J v;change Hid _ at hn hp;obtain⟨dr,aa⟩:=E (decide (32768<=k));have aj:=J aa;obtain⟨i,ae⟩:=E (k%32768);rw[<-aa]at ha;rw[<-ae]at hb |-;clear aa ae;go_enter func88,ntmps88;go_wp2_with fail;rw[<-S.o];refine A1.o.l ?_;rintro e w1 ⟨rfl,h1,t1⟩;have A2:=J (Up c N 4 w1 h1 EB l1);have e2:=Ht;rw[<-e2]at A2;simp only at A2;have ax:W0.heap.size=w.heap.size+1:=by rw[S.o];simp
 have q0:W0.heap[w.heap.size]?=some (.cells #[.string ⟨#[]⟩,.bool false,.string ⟨#[]⟩,.a 0,.a 0] 39 (0,0)):=by rw[S.o];exact AR _ _
 have Q1:=J ((t1.u w.heap.size U U).i q0);have T1:=J (t0.o.i t1);have z1:=t1.size;clear A1 h1 t1 e2 q0;go_wp2_with fail;refine A2.o.l ?_;rintro e b ⟨rfl,h2,t2⟩;have Q2:=J ((t2.u w.heap.size U U).i Q1);have T2:=J (T1.o.i t2);have z2:=t2.size;obtain⟨R,K⟩:=E (b.alloc (.cells #[.string ⟨#[]⟩,.bool dr,.string ⟨#[]⟩,.a i,.a t] 39));have h3:Gl R c H:=by rw[K];exact(AO _ _ _ h2.lt).i h2
 have A4:=J (Up c H 1 R h3 EB l2);have e4:=hn;rw[<-e4]at A4;simp only at A4;change Hid _ at K;clear A2 h2 t2 h3 e4;go_wp2_with fail;rw[<-K.o];refine A4.o.l ?_;rintro e w4 ⟨rfl,h4,t4⟩;have aD:R.heap.size=b.heap.size+1:=by rw[K.o];simp
 have q3:R.heap[b.heap.size]?=some (.cells #[.string ⟨#[]⟩,.bool dr,.string ⟨#[]⟩,.a i,.a t] 39 (0,0)):=by rw[K.o];exact AR _ _
 have ag:R.heap[w.heap.size]?=some (.cells #[.string ⟨#[]⟩,.bool false,.string ⟨#[]⟩,.a 0,.a 0] 39 (0,0)):=by rw[K.o];exact(AO _ _ _ U).i Q2
 have T3:FL c w R:=by rw[K.o];exact T2.o.alloc _
 have P4:=J ((t4.u b.heap.size U U).i q3);have Q4:=J ((t4.u w.heap.size U U).i ag);have T4:=J (T3.i t4);have z4:=t4.size;have A5:=J (Xj c r3 n w4 h4 U l3);have e5:=hp;rw[<-e5]at A5;simp only at A5;obtain⟨a,B⟩:=E (X p);rw[<-B]at A5;have HY:=J B;clear A4 h4 t4 q3 ag T3 e5 B Q1 Q2 T1 T2;go_wp2_with fail;refine A5.o.l ?_;rintro e D ⟨rfl,h5,t5⟩;have p5:=(t5.u b.heap.size U U).i P4;have q5:=(t5.u w.heap.size U U).i Q4;have P:=J (T4.o.i t5);have z5:=t5.size;obtain⟨l,F⟩:=E (D.setCell (O b.heap.size 0) (.string a));have M:l.heap[b.heap.size]?=some (.cells #[.string a,.bool dr,.string ⟨#[]⟩,.a i,.a t] 39 (0,0)):=by rw[F];exact AJ D b.heap.size 0 _ 39 _ p5
 have q:l.heap[w.heap.size]?=some (.cells #[.string ⟨#[]⟩,.bool false,.string ⟨#[]⟩,.a 0,.a 0] 39 (0,0)):=by rw[F];exact(AH D ⟨b.heap.size,0,none⟩ _ _ EL).i q5
 have h6:Gl l c y:=by rw[F];exact(AH D ⟨b.heap.size,0,none⟩ _ _ EL).i h5
 have T6:FL c w l:=by rw[F];refine⟨P.o.os,P.o.tape,P.o.output,by have:=P.o.size;simp;omega,λj hj an=>?_⟩;exact(AH D ⟨b.heap.size,0,none⟩ _ _ EL).i (P.o.u j hj an)
 have s6:l.heap.size=D.heap.size:=by rw[F];simp
 have aB:D.cell? (O b.heap.size 0)=some (.string ⟨#[]⟩):=by rw[AU D b.heap.size 0 _ 39 (0,0) p5];rfl
 have ay:=CE D b.heap.size 0 _ 39 p5;have ah:l.cell? (O b.heap.size 0)=some (.string a):=by rw[AU l b.heap.size 0 _ 39 (0,0) M];rfl
 have am:l.cell? (O b.heap.size 1)=some (.bool dr):=by rw[AU l b.heap.size 1 _ 39 (0,0) M];rfl
 have ac:l.cell? (O b.heap.size 2)=some (.string ⟨#[]⟩):=by rw[AU l b.heap.size 2 _ 39 (0,0) M];rfl
 have ai:=EV 3 M;have ad:=EV 4 M;have d0:=EV 0 q;have d1:=EV 1 q;have d2:=EV 2 q;have d3:=EV 3 q;have d4:=EV 4 q;have g0:=Fg 0 q;have g1:=Fg 1 q;have g2:=Fg 2 q;have g3:=Fg 3 q;have g4:=Fg 4 q;change Hid _ at M q h6 T6 F;clear A5 h5 t5 p5 q5 P4 Q4 T4 P;cases dr with
 |true=>
  have aw:32768<=k:=by have:=aj;simpa using this.A
  go_wp2_with (rw[<-F.o]);have a7:=Zu q (.string a) (.bool true) (.string ⟨#[]⟩) (.a i) (.a t);have hh:=(Zj l w.heap.size (.string a) (.bool true) (.string ⟨#[]⟩) (.a i) (.a t) c U).i h6;have v:=ZV T6 (AB _) (.string a) (.bool true) (.string ⟨#[]⟩) (.a i) (.a t);have B:=HY;refine BE (v:=.agg #[.string a,.bool true,.string ⟨#[]⟩,.a i,.a t]) ?_ I ⟨by rw[B];rfl,hh,v⟩;simp[results,go_sem,d0,d1,d2,d3,d4]
 |false=>
  have av:k<32768:=by have:=aj.o;simp at this;omega
  obtain⟨zr,hz⟩:=E (GR 2 y);obtain⟨z,r5⟩:=zr;have az:z<65536:=by have:=Tt 2 y;rw[<-hz]at this;exact this
  have l5:r5.1.length<=1000000:=by have:=(Ol 2 y).2;have e:(GR 2 y).2=(Go.Nt.tk 2 y).2:=I;rw[<-hz]at e;rw[<-e]at this;exact AG this l4
  have A7:=J (Up c y 2 l h6 EB l4);rw[<-hz]at A7;simp only at A7;obtain⟨br,a8⟩:=E (Go.Nt.tk z r5);obtain⟨A,r6⟩:=br;have lb:A.length<=1000000:=by have:=(Ol z r5).1;rw[<-a8]at this;exact AG this U
  have HE:Hid (Go.Nt.tk (GR 2 y).1 (GR 2 y).2=(A,r6)):=J (by rw[<-hz];exact a8.A);change Hid _ at a8;go_wp2_with (rw[<-F.o]);refine A7.o.l ?_;rintro e w7 ⟨rfl,h7,t7⟩;have A8:=J (Xj c r5 z w7 h7 U l5);have e8:=a8;rw[<-e8]at A8;simp only at A8;have P7:=J ((t7.u b.heap.size U U).i M);have Q7:=J ((t7.u w.heap.size U U).i q);have T7:=J (T6.o.i t7);have z7:=t7.size;go_wp2_with fail;refine A8.o.l ?_;rintro e w8 ⟨rfl,h8,t8⟩;have P8:=J ((t8.u b.heap.size U U).i P7);have Q8:=J ((t8.u w.heap.size U U).i Q7);have T8:=J (T7.o.i t8);have z8:=t8.size;have H8:=J h8;obtain⟨V,G⟩:=E ((u A).getD []);have A9:Hid (Calls prog 145 #[.string (X A)] w8 λe w'=>e=.a (.tuple #[.string (X V),.a (if(u A).isSome then 0 else 2)])/\Below w8.heap.size w8 w'):=by
   refine J ?_;cases hu:u A with
   |none=>rw[show V=[] by rw[G,hu];rfl];exact hP.none w8 A lb hu
   |some d=>rw[show V=d by rw[G,hu];rfl];exact hP.some w8 A d lb hu
  obtain⟨so,a9⟩:=E ((u A).isSome);rw[<-a9]at A9;have HV:=J G;change Hid _ at a9;obtain⟨g,L⟩:=E (X V);rw[<-L]at A9;have HZ:=J L;clear G L;go_wp2_with fail;refine A9.o.l ?_;rintro e w9 ⟨rfl,T⟩;have x:=(T.d b.heap.size).i P8;have q9:=(T.d w.heap.size).i Q8;have C:=H8.o.f T;have Q:=J (T8.o.i (.of_below T));have z9:=T.size;clear A9 T P8 Q8 T8;cases so with
  |true=>
   obtain⟨s,m⟩:=E ((w9).setCell (O b.heap.size 2) (.string g));have o:s.heap[b.heap.size]?=some (.cells #[.string a,.bool false,.string g,.a i,.a t] 39 (0,0)):=by rw[m];exact AJ _ b.heap.size 2 _ 39 _ x
   have f:s.heap[w.heap.size]?=some (.cells #[.string ⟨#[]⟩,.bool false,.string ⟨#[]⟩,.a 0,.a 0] 39 (0,0)):=by rw[m];exact(AH _ ⟨b.heap.size,2,none⟩ _ _ EL).i q9
   have ra:Gl s c r6:=by rw[m];exact(AH _ ⟨b.heap.size,2,none⟩ _ _ EL).i C
   have Ta:FL c w s:=by rw[m];exact Q.o.c U _ _
   have ar:=EV 2 x;have ao:=Fg 2 x;have ah:=EV 0 o;have am:=EV 1 o;have ac:=EV 2 o;have ai:=EV 3 o;have ad:=EV 4 o;have d0:=EV 0 f;have d1:=EV 1 f;have d2:=EV 2 f;have d3:=EV 3 f;have d4:=EV 4 f;have g0:=Fg 0 f;have g1:=Fg 1 f;have g2:=Fg 2 f;have g3:=Fg 3 f;have g4:=Fg 4 f;change Hid _ at f ra Ta m;clear o x q9 C Q;go_wp2_with (rw[<-m.o]);have a7:=Zu f (.string a) (.bool false) (.string g) (.a i) (.a t);have hh:=(Zj s w.heap.size (.string a) (.bool false) (.string g) (.a i) (.a t) c U).i ra;have v:=ZV Ta (AB _) (.string a) (.bool false) (.string g) (.a i) (.a t);have B:=HY;have L:=HZ;have hE:=HE;have G:=HV;have hS:=a9;refine BE (v:=.agg #[.string a,.bool false,.string g,.a i,.a t]) ?_ I ?_
   .simp[results,go_sem,d0,d1,d2,d3,d4]
   rw[hE];simp only;rw[<-G,<-hS];refine⟨by rw[B,L];rfl,?_,v⟩;simp only[Bool.and_true];exact hh
  |false=>
   have k0:=C.c0;have k1:=C.c1;have m1:=C.d 1;obtain⟨wf,W⟩:=E (w9.setCell (O c 1) (.bool false));replace x:wf.heap[b.heap.size]?=some (.cells #[.string a,.bool false,.string ⟨#[]⟩,.a i,.a t] 39 (0,0)):=by rw[W];exact(AH w9 ⟨c,1,none⟩ _ _ EL).i x
   replace q9:wf.heap[w.heap.size]?=some (.cells #[.string ⟨#[]⟩,.bool false,.string ⟨#[]⟩,.a 0,.a 0] 39 (0,0)):=by rw[W];exact(AH w9 ⟨c,1,none⟩ _ _ EL).i q9
   replace C:Gl wf c (r6.1,false):=by rw[W];exact AJ w9 c 1 _ 151 (.bool false) C
   replace Q:Hid (FL c w wf):=J (by rw[W];exact Q.o.set _ _);change Hid _ at W;obtain⟨s,m⟩:=E ((wf).setCell (O b.heap.size 2) (.string g));have o:s.heap[b.heap.size]?=some (.cells #[.string a,.bool false,.string g,.a i,.a t] 39 (0,0)):=by rw[m];exact AJ _ b.heap.size 2 _ 39 _ x
   have f:s.heap[w.heap.size]?=some (.cells #[.string ⟨#[]⟩,.bool false,.string ⟨#[]⟩,.a 0,.a 0] 39 (0,0)):=by rw[m];exact(AH _ ⟨b.heap.size,2,none⟩ _ _ EL).i q9
   have ra:Gl s c (r6.1,false):=by rw[m];exact(AH _ ⟨b.heap.size,2,none⟩ _ _ EL).i C
   have Ta:FL c w s:=by rw[m];exact Q.o.c U _ _
   have ar:=EV 2 x;have ao:=Fg 2 x;have ah:=EV 0 o;have am:=EV 1 o;have ac:=EV 2 o;have ai:=EV 3 o;have ad:=EV 4 o;have d0:=EV 0 f;have d1:=EV 1 f;have d2:=EV 2 f;have d3:=EV 3 f;have d4:=EV 4 f;have g0:=Fg 0 f;have g1:=Fg 1 f;have g2:=Fg 2 f;have g3:=Fg 3 f;have g4:=Fg 4 f;change Hid _ at f ra Ta m;clear o x q9 C Q;go_wp2_with (first|rw[<-W.o]|rw[<-m.o]);have a7:=Zu f (.string a) (.bool false) (.string g) (.a i) (.a t);have hh:=(Zj s w.heap.size (.string a) (.bool false) (.string g) (.a i) (.a t) c U).i ra;have v:=ZV Ta (AB _) (.string a) (.bool false) (.string g) (.a i) (.a t);have B:=HY;have L:=HZ;have hE:=HE;have G:=HV;have hS:=a9;refine BE (v:=.agg #[.string a,.bool false,.string g,.a i,.a t]) ?_ I ?_
   .simp[results,go_sem,d0,d1,d2,d3,d4]
   rw[hE];simp only;rw[<-G,<-hS];refine⟨by rw[B,L];rfl,?_,v⟩;simp only[Bool.and_false];exact hh
end
section
open Go.RowKit Go.Nt
variable {b:Nat} {w V V':Z} {l:List It} {x:It}
theorem FL.of_map(h:FL b w V)(d:V.mapTurned V' b):FL b w V':=by have a:=d.C;exact h.i ⟨a.os,a.tape,a.output,a.size,λk c f=>a.u k c (λe=>f (by cases e;rfl))⟩
theorem qC(l:List It)(x:It)(p:Bs):at? (En (En l x) x) p=at? (En l x) p:=by
 by_cases e:p=x.c
 .subst e;rw[WT,WT]
 rw[Z5 e]
def Kp(w V:Z)(b:Nat)(l:List It)(x:It):Prop:=FL b w V/\(EH V b l\/EH V b (En l x))
theorem yI(h:Hid (Kp w V b l x))(a:Below V.heap.size V V'):Hid (Kp w V' b l x):=by
 obtain⟨c,d⟩:=h;refine⟨c.i (.of_below a),?_⟩;rcases d with h|h
 .exact .w (h.f a h.lt)
 exact .s (h.f a h.lt)
theorem qp(h:Hid (Kp w V b l x))(c:(l.map (·.c)).Nodup)(n:l.length<=1000)(g:x.c.length<=maxLen):∃V',(Instr.mapUpdate 77 (.e b) (.string (X x.c)) (Gm (nd x))).run prog V=.ok () V'/\Hid (Kp w V' b l x)/\Hid (EH V' b (En l x)):=by
 obtain⟨f,i⟩:=h;have m:(En l x).length<=1001:=by rw[lz c];split<;>omega
 rcases i with h|h
 .obtain⟨V',d,a,e⟩:=h.store c Fs x g;exact⟨V',d,J ⟨f.of_map e,.s a⟩,J a⟩
 obtain⟨V',d,⟨D,j,k⟩,e⟩:=h.store (TA c x) Fs x g;have a:EH V' b (En l x):=⟨D,j,k.same (qC l x)⟩;exact⟨V',d,J ⟨f.of_map e,.s a⟩,J a⟩
theorem iM{g:Nat}{a0 c d a3:Value}(h:Hid (Kp w V b l x))(e:Hid (w.heap[g]?=some (.cells #[a0,c,d,a3] 117 (0,0))))(a:g≠b):UU V g a0 c d a3:=
 four ((h.o.1.u g (lt_of_heap e.o) a).i e.o)
theorem Tp(b:Nat)(l:List It)(p:Bs)(n:Nd)(w:Z)(i:EH w b l)(z:(l.map (·.c)).Nodup)(L:l.length<=1000)(M:p.length<=1048576):Calls prog 151 #[.e b,.string (X p),Gm n] w λe w'=>e=.a (.tuple #[])/\EH w' b (En l (Lw p n))/\FL b w w':=by
 have D:=i.lt;unfold Gm;obtain⟨a,k⟩:=E (X n.data);obtain⟨W,d⟩:=E (w.alloc (.cells #[.bool n.d,.string a,.a n.a,.a n.b] 117));have m:W.heap[w.heap.size]?=some (.cells #[.bool n.d,.string a,.a n.a,.a n.b] 117 (0,0)):=by rw[d];exact AR _ _
 have v:EH W b l:=by rw[d];exact i.y (AO _ _ _ D)
 have y:FL b w W:=by rw[d];exact(FL.refl b w).alloc _
 have o:=J m;obtain⟨x,g⟩:=E (Lw p n);rw[<-g];have h:x.c=p:=by rw[g];rfl
 have u:Gm (nd x)=.agg #[.bool n.d,.string a,.a n.a,.a n.b]:=by rw[g,vN,k];rfl
 have r:Hid (∀V,Hid (Kp W V b l x)->∃c,(Instr.mapUpdate 77 (.e b) (.string (X p)) (.agg #[.bool n.d,.string a,.a n.a,.a n.b])).run prog V=.ok () c/\Hid (Kp W c b l x)/\Hid (EH c b (En l x))):=
  λV K=>by have:=qp K z L (by rw[h];unfold maxLen;omega);rw[h,u]at this;exact this
 obtain⟨f,j⟩:=E (X p);have A:=J (λV=>Ic f V (by rw[j,EF];exact M));rw[<-j]at r |-;have N:Hid (Kp W W.drew b l x):=⟨⟨I,I,I,AB _,λ_ _ _=>rfl⟩,.w (v.y I)⟩;obtain⟨f0,f1,f2,f3,_,_,_,_⟩:=four m;have B:=J d;have G:=J y;have s:w.heap.size≠b:=U;rw[<-k];clear i z k m v y g h u j d;go_enter func151,ntmps151;go_wp2_with rw[<-B.o];go_region_held3 (λV=>Hid (Kp W V b l x)/\V.cell? (O w.heap.size 0)=some (.bool n.d)/\V.cell? (O w.heap.size 1)=some (.string a)/\V.cell? (O w.heap.size 2)=some (.a n.a)/\V.cell? (O w.heap.size 3)=some (.a n.b)) (go_keep) (first
  | (go_at_call_of 72 f;refine(A.o _).l ?_;rintro e V ⟨rfl,F⟩;have q:=yI (w:=W) (b:=b) (l:=l) (x:=x) (by go_split_ands;assumption) F;obtain⟨c0,c1,c2,c3,_,_,_,_⟩:=iM q o s;obtain⟨c,_,t,H⟩:=r.o V q;obtain⟨d0,d1,d2,d3,_,_,_,_⟩:=iM t o s))
 all_goals
  have C:Hid (FL b w c):=J (G.o.i t.o.1);go_wp2;go_end0;exact⟨I,H.o,C.o⟩
theorem kh(b:Nat)(l:List It)(w:Z)(a:EH w b l)(c:(l.map (·.c)).Nodup):Calls prog 150 #[.e b] w λe w'=>e=.a (.bool (decide (60<=l.length)))/\w'=w:=by have d:=a.len c 3;go_enter func150,ntmps150;go_wp2;go_ret;exact⟨by go_num,I⟩
def F0(b:Nat)(l l':List It)(z0E:Int)(w:Z)(e:Ending)(w':Z):Prop:=
 e=.a (.a z0E)/\FL b w w'/\EH w' b (if z0E=0 then l' else l)
theorem F0.no{b:Nat}{l f:List It}{a:Int}{w w':Z}(e:a≠0)(c:EH w b l)(d:Below w.heap.size w w'):F0 b l f a w (.a (.a a)) w':=
 ⟨I,.of_below d,by rw[AC e];exact c.f d c.lt⟩
theorem XL(b:Nat)(l:List It)(p d:Bs)(w:Z)(o:EH w b l)(u:EX l)(m:ML w)(r:p.length<=1048576)(G:d.length<=1048576) :
 Calls prog 93 #[.e b,.string (X p),.string (X d)] w λe w'=>F0 b l (En l (I0 l p d)) (Ld l p d) w e w':=by
 have g:=J (YX b l p w o m r);have D:=o.lt;have k:=J o;have i:=u.nodup;have z:=u.len;have A:=J (λW (h:EH W b l) (n:Nd)=>Tp b l p n W h i U r);have B:=J (λW (h:EH W b l)=>kh b l W h i);have z:=J (λW=>Ic (X d) W (by rw[EF];exact G));obtain⟨_,G⟩:=E (X p);obtain⟨j,i⟩:=E (X d);have R:j.size=d.length:=by rw[i,EF]
 rw[<-G]at g A;rw[<-i]at z;have HZ:=J i;clear o m;by_cases M:FN l p=0
 .rw[M]at g;cases L:at? l p with
  |some x=>
    have N:=λW (h:EH W b l)=>(h.b (p:=p) Fs L).1
    rw[<-G]at N;have o:=J N;have H:Ld l p d=if x.d then 6 else if 4000<d.length then 8 else 0:=by unfold Ld;rw[AD M,L]
    have V:I0 l p d=Lw p ⟨false,d,x.a,x.b⟩:=by unfold I0;rw[L];rfl
    rw[H,V];rw[<-G,<-i];obtain⟨t,u⟩:=E (X x.data);clear N H V G i M L;cases r:x.d with
    |true=>
      rw[AD I];go_enter func93,ntmps93
      go_wp2_with fail;refine g.o.l ?_;rintro e c ⟨a,rfl⟩;have f:=o c (k.o.f a D);unfold Gm nd at f;simp only at f;rw[r]at f;have y:=J a;have F:=a.size;clear a g o A B z r;go_wp2;go_ret
      exact F0.no EB k (y.o.alloc F _)
    |false=>
      simp only[BH,CR];by_cases h4:4000<j.size
      .have m:(if 4000<d.length then(8:Int)else 0)=8:=AD U;rw[m];clear R m;go_enter func93,ntmps93
       go_wp2_with fail;refine g.o.l ?_;rintro e c ⟨a,rfl⟩;have f:=o c (k.o.f a D);unfold Gm nd at f;simp only at f;rw[r]at f;have y:=J a;have F:=a.size;clear a g o A B z r;go_wp2;go_ret
       exact F0.no EB k (y.o.alloc F _)
      have m:(if 4000<d.length then(8:Int)else 0)=0:=AC U;rw[m];clear R m;go_enter func93,ntmps93
      go_wp2_with fail;refine g.o.l ?_;rintro e c ⟨a,rfl⟩;have f:=o c (k.o.f a D);unfold Gm nd at f;simp only at f;rw[r]at f;rw[<-u]at f;have y:=J a;have F:=a.size;have K:=J (k.o.f a D);clear a g o B r u;obtain⟨s,q⟩:=E (c.alloc (.cells #[.bool false,.string t,.a x.a,.a x.b] 117));have q2:s.heap[c.heap.size]? = some (.cells #[.bool false,.string t,.a x.a,.a x.b] 117 (0,0)):=by rw[q];exact AR _ _
      have S:EH s b l:=by rw[q];exact K.o.y (AO _ _ _ K.o.lt)
      have P:Below w.heap.size w s:=by rw[q];exact y.o.alloc U _
      have ay:s.heap.size=c.heap.size+1:=by rw[q];simp
      obtain⟨c0,c1,c2,c3,f0,f1,f2,f3⟩:=four q2;change Hid _ at q q2;have ar:=J S;change Hid _ at P;clear S;go_wp2_with rw[<-q.o];refine(z s).l ?_;rintro e Q ⟨rfl,u⟩;have q3:=(u.u c.heap.size U).i q2;obtain⟨d0,d1,d2,d3,g0,g1,g2,g3⟩:=four q3;have aA:=u.size;obtain⟨C,v⟩:=E (Q.setCell (O c.heap.size 1) (.string j));have q4:C.heap[c.heap.size]? = some (.cells #[.bool false,.string j,.a x.a,.a x.b] 117 (0,0)):=by rw[v];exact AJ Q c.heap.size 1 _ 117 _ q3
      obtain⟨e0,e1,e2,e3,_,_,_,_⟩:=four q4;have T:EH C b l:=by rw[v];exact(ar.o.f u ar.o.lt).y (AH Q ⟨c.heap.size,1,none⟩ _ _ EL)
      have an:Below w.heap.size w C:=by rw[v];exact(P.o.i (u.l P.o.size)).setCell (p:=⟨c.heap.size,1,none⟩) EL _
      have t:=J (A C T ⟨false,d,x.a,x.b⟩);unfold Gm at t;simp only at t;have i:=HZ;rw[<-i]at t;change Hid _ at an;have r:=J v;clear u q3 q4 T v i z A c0 c1 c2 c3 f0 f1 f2 f3;go_wp2_with rw[<-r.o];refine t.o.l ?_;rintro e w5 ⟨rfl,ao,am⟩;have r:=J ao;have H5:=J ((FL.of_below an).i am);clear ao am t;go_wp2;go_ret
      exact⟨I,H5,r⟩
  |none=>
    have N:=λW (h:EH W b l)=>(h.c (p:=p) Fs L).1
    rw[<-G]at N;have o:=J N;have H:Ld l p d=if 4000<d.length\/60<=l.length then 8 else 0:=by unfold Ld;rw[AD M,L]
    have V:I0 l p d=Lw p ⟨false,d,0,0⟩:=by unfold I0;rw[L];rfl
    rw[H,V];rw[<-G,<-i];clear N H V G i M L;by_cases h4:4000<j.size
    .have m:(if 4000<d.length\/60<=l.length then(8:Int)else 0)=8:=AD (.w U);rw[m];clear R m;go_enter func93,ntmps93
     go_wp2_with fail;refine g.o.l ?_;rintro e c ⟨a,rfl⟩;have f:=o c (k.o.f a D);unfold Gm at f;have y:=J a;have F:=a.size;clear a g o A B z;go_wp2;go_ret
     exact F0.no EB k (y.o.alloc F _)
    obtain⟨N,r⟩:=E (decide (60<=l.length));rw[<-r]at B;cases N with
    |true=>
      have m:(if 4000<d.length\/60<=l.length then(8:Int)else 0)=8:=AD (.s (EU r.A));rw[m];clear R m r;go_enter func93,ntmps93
      go_wp2_with fail;refine g.o.l ?_;rintro e c ⟨a,rfl⟩;have f:=o c (k.o.f a D);unfold Gm at f;have y:=J a;have F:=a.size;have K:=J (k.o.f a D);have L:=J (B (c.alloc (.cells #[.bool false,.string (X []),.a 0,.a 0] 117)) (K.o.y (AO _ _ _ K.o.lt)));clear a g o A z B;go_wp2_with (go_at_call 150;refine Jj L.o ?_);go_ret
      exact F0.no EB k (y.o.alloc F _)
    |false=>
      have m:(if 4000<d.length\/60<=l.length then(8:Int)else 0)=0:=AC (by have:=r.A;simp at this;omega);rw[m];clear R m r;go_enter func93,ntmps93
      go_wp2_with fail;refine g.o.l ?_;rintro e c ⟨a,rfl⟩;have f:=o c (k.o.f a D);unfold Gm at f;have y:=J a;have F:=a.size;have K:=J (k.o.f a D);clear a g o;obtain⟨s,q⟩:=E (c.alloc (.cells #[.bool false,.string (X []),.a 0,.a 0] 117));have q2:s.heap[c.heap.size]? = some (.cells #[.bool false,.string (X []),.a 0,.a 0] 117 (0,0)):=by rw[q];exact AR _ _
      have S:EH s b l:=by rw[q];exact K.o.y (AO _ _ _ K.o.lt)
      have P:Below w.heap.size w s:=by rw[q];exact y.o.alloc U _
      have ay:s.heap.size=c.heap.size+1:=by rw[q];simp
      have L:=J (B s S);obtain⟨c0,c1,c2,c3,f0,f1,f2,f3⟩:=four q2;change Hid _ at q q2;have ar:=J S;change Hid _ at P;clear S;go_wp2_with rw[<-q.o];refine Jj L.o ?_;go_wp2_with fail;refine(z s).l ?_;rintro e Q ⟨rfl,u⟩;have q3:=(u.u c.heap.size U).i q2;obtain⟨d0,d1,d2,d3,g0,g1,g2,g3⟩:=four q3;have aA:=u.size;obtain⟨C,v⟩:=E (Q.setCell (O c.heap.size 1) (.string j));have q4:C.heap[c.heap.size]? = some (.cells #[.bool false,.string j,.a 0,.a 0] 117 (0,0)):=by rw[v];exact AJ Q c.heap.size 1 _ 117 _ q3
      obtain⟨e0,e1,e2,e3,_,_,_,_⟩:=four q4;have T:EH C b l:=by rw[v];exact(ar.o.f u ar.o.lt).y (AH Q ⟨c.heap.size,1,none⟩ _ _ EL)
      have an:Below w.heap.size w C:=by rw[v];exact(P.o.i (u.l P.o.size)).setCell (p:=⟨c.heap.size,1,none⟩) EL _
      have t:=J (A C T ⟨false,d,0,0⟩);unfold Gm at t;simp only at t;have i:=HZ;rw[<-i]at t;change Hid _ at an v;clear u q3 q4 T i z A c0 c1 c2 c3 f0 f1 f2 f3;go_wp2_with rw[<-v.o];refine t.o.l ?_;rintro e w5 ⟨rfl,ao,am⟩;change Hid _ at ao;have H5:=J ((FL.of_below an).i am);clear am t;go_wp2;go_ret
      exact⟨I,H5,ao⟩
 have H:Ld l p d=FN l p:=by unfold Ld;rw[AC M]
 rw[H];obtain⟨_,m⟩:=E (FN l p);rw[<-m]at g M |-;rw[<-G,<-i];clear H m G i R;go_enter func93,ntmps93
 go_wp2_with fail;refine g.o.l ?_;rintro e c ⟨a,rfl⟩;change Hid _ at a;clear g A B z;go_wp2;go_ret
 exact F0.no M k a
end
end Go.Proofs.YtodmdkhdbfbfgaaGreatDoor
namespace Go.Proofs
open Go.Shelf
def Nf:Go.Shelf.Ren:=⟨fun | 149=>116 | 222=>174 | n=>n,fun | 9=>9 | 5=>5 | 3=>3 | 4=>4 | n=>n,fun | n=>n⟩
theorem RX:Go.Proofs.Lays.n149 prog Nf:={
 mixed:=EG
 f149:=func116.i (AX some EG)
 f222:=func174.i (AX some EG)
 t3:=underlying3
 a3:=isAgg3
 z3:=sizeOf3
 v3:=zeroValue3
 t4:=underlying4
 a4:=isAgg4
 z4:=sizeOf4
 v4:=zeroValue4
 t5:=underlying5
 a5:=isAgg5
 z5:=sizeOf5
 v5:=zeroValue5
 t9:=underlying9
 a9:=isAgg9
 z9:=sizeOf9
 v9:=zeroValue9 }
open Go.RowKit Go.Lib in
theorem strings_LastIndexByte(s:ByteArray)(c:Int)(a:s.size<4611686018427387904)(w:Z):Calls prog 116 #[.string s,.f c] w λe w'=>e=.a (.a (Lib.lastIndexByte s c))/\w'=w:=Any.strings_LastIndexByte RX s c a w
def OY:Go.Shelf.Ren:=⟨fun | 99=>263 | 206=>296 | n=>n,fun | 9=>9 | 4=>4 | 3=>3 | n=>n,fun | n=>n⟩
theorem Su:Go.Proofs.Lays.n99 prog OY:={
 mixed:=EG
 f99:=func263.i (AX some EG)
 f206:=func296.i (AX some EG)
 t3:=underlying3
 a3:=isAgg3
 z3:=sizeOf3
 v3:=zeroValue3
 t4:=underlying4
 a4:=isAgg4
 z4:=sizeOf4
 v4:=zeroValue4
 t9:=underlying9
 a9:=isAgg9
 z9:=sizeOf9
 v9:=zeroValue9 }
open Go.RowKit Go.Lib in
theorem strings_HasPrefix(s p:ByteArray)(w:Z):Calls prog 263 #[.string s,.string p] w λe w'=>e=.a (.bool (Lib.hasPrefix s.data.toList p.data.toList))/\w'=w:=Any.strings_HasPrefix Su s p w
def OM:Go.Shelf.Ren:=⟨fun | 5=>146 | 7=>207 | n=>n,fun | 23=>77 | 25=>9 | 3=>117 | 4=>4 | 20=>20 | n=>n,fun | n=>n⟩
theorem Sr:Go.Proofs.SlLaysW.n5 prog OM:={
 mixed:=EG
 f5:=⟨f146.name,by decide,func146.i (AX some EG)⟩
 f7:=func207.i (AX some EG)
 t4:=underlying4
 a4:=isAgg4
 z4:=sizeOf4
 v4:=zeroValue4
 t20:=underlying20
 a20:=isAgg20
 z20:=sizeOf20
 v20:=zeroValue20
 t23:=underlying77
 a23:=isAgg77
 z23:=sizeOf77
 v23:=zeroValue77 }
end Go.Proofs
namespace Go.Proofs.YtodmdkhdbfbfgaaGreatDoor
section
open Go.RowKit Go.Nt
variable {l:List It} {f:Bs->Bool} {left:Lit->Bool} {acc:List Bs}
def KJ(p d:Bs):Bool:=(d++[47]).isPrefixOf p
theorem jW(p d:Bs)(w:Z)(f:p.length<=1048576)(b:d.length<=1048576):Calls prog 208 #[.string (X p),.string (X d)] w λe w'=>e=.a (.bool (KJ p d))/\w'=w:=by
 have c:X d++(⟨#[47]⟩:ByteArray)=X (d++[47]):=by apply DZ;simp[X]
 have a:=J (strings_HasPrefix (X p) (X (d++[47])) w);have e:Lib.hasPrefix (X p).data.toList (X (d++[47])).data.toList=KJ p d:=I;rw[e]at a;clear e;have g:(X d).size<=1048576:=by rw[EF];exact b
 go_enter func208,ntmps208;go_wp2_with (go_at_call 263;refine Jj a.o ?_);go_ret;exact⟨I,I⟩
theorem oP{α:Type}[DecidableEq α]{a b:List α}(c:a.Nodup)(d:b.Nodup)(h:∀x,x∈a↔x∈b):a.Perm b:=
 (Cp c d).2 h
structure N7 (l:List It) (f:Bs->Bool) (left:Lit->Bool) (acc:List Bs):Prop where
 nd:acc.Nodup
 mem:∀q,q∈acc↔((at? l q).isSome=true/\f q=true/\left (.string q)=false)
theorem N7.step(h:N7 l f left acc){p:Bs}(o:(at? l p).isSome=true)(m:left (.string p)=true):N7 l f (λz=>left z && !z.sameKey (.string p)) (if f p then acc++[p]else acc):=by
 have i:∀q,q≠p->Lit.sameKey (.string q) (.string p)=false:=λq e=>DL (λh=>e (by cases h;rfl));have j:Lit.sameKey (.string p) (.string p)=true:=by
  cases h:Lit.sameKey (.string p) (.string p)with
  |true=>rfl
  |false=>simp[Lit.sameKey]at h
 have c:p∉acc:=λn=>by have:=((h.mem p).1 n).2.2;rw[m]at this;cases this
 cases g:f p with
 |true=>
  simp only[Dr];refine⟨?_,λq=>?_⟩
  .rw[CI];exact⟨h.nd,by simp,λa k b d e=>by simp at d;subst d;subst e;exact c k⟩
  by_cases e:q=p
  .subst e;simp[o,g,j]
  simp only[Aj,CN,e,or_false,i q e];rw[h.mem q];simp
 |false=>
  simp only[BH,CR];refine⟨h.nd,λq=>?_⟩;by_cases e:q=p
  .subst e;simp[g,c]
  rw[h.mem q];simp[i q e]
theorem N7.done(h:N7 l f left acc)(c:(l.map (·.c)).Nodup)(d:∀k,left k=false):acc.Perm ((l.map (·.c)).filter f):=by
 refine oP h.nd (c.sublist List.filter_sublist) (λq=>?_);rw[h.mem q,Ad,AZ];constructor
 .rintro⟨e,b,_⟩;obtain⟨x,a⟩:=Bi.1 e;exact⟨⟨x,(Ji a).1,(Ji a).2⟩,b⟩
 rintro⟨⟨x,a,rfl⟩,b⟩;exact⟨by rw[at_mem c a];rfl,b,d _⟩
theorem X3{w w':Z}{b r n:Nat}{D:DataW Nd}{cnt base m s:Nat}{e:TypeId}{v:Value}{o:List Value}(h:w.ranges prog 9 JA b r n D left cnt)(f:w.ownsRow base e s v m o)(k:w.grownBy w' v.ownBlock):w'.ranges prog 9 JA b r n D left cnt:=by
 have i:=h;obtain⟨_,_,_,_,c0,j,_,_,_,l,_⟩:=i;refine h.kept k (λe=>?_) (λe=>?_)
 .rcases f.2 with⟨rfl,_⟩|⟨g,c,d,rfl,_,a,_⟩
  .simp[Value.ownBlock]at e
  simp[Value.ownBlock]at e;subst e;rw[j]at a;cases a
 rcases f.2 with⟨rfl,_⟩|⟨g,c,d,rfl,_,a,_⟩
 .simp[Value.ownBlock]at e
 simp[Value.ownBlock]at e;subst e;rw[l]at a;cases a
def sv(l:List Bs):List Value:=l.map λx=>.string (X x)
theorem rK(a:List Bs):(sv a).length=a.length:=by simp[sv]
theorem wk(w:Z)(x:Bs):(w.alloc (.cells #[.string (X x)] 9)).ownsRow w.heap.size 9 1 (.b w.heap.size 1 1) 1 (sv [x]):=
 ⟨I,.s ⟨w.s,1,#[.string (X x)],I,AB _,AR _ _,AB _,by unfold maxLen;omega,I,I⟩⟩
theorem eR(b:Nat)(l:List It)(p:Bs)(w:Z)(h:EH w b l)(B:(l.map (·.c)).Nodup)(f:l.length<=1000)(hp:p.length<=1048576)(n:∀x∈l,x.c.length<=1048576):Calls prog 149 #[.e b,.string (X p)] w λe w'=>∃v f,e=.a v/\w'.ownsRow w.heap.size 9 1 v (f.length+1) (sv (p::f))/\f.Perm ((l.map (·.c)).filter λq=>KJ q p)/\Below w.heap.size w w':=by
 obtain⟨i0,hi,aP,aU,aS⟩:=An Kq;have M:=h.lt;have N:=J (wk w p);have A:=J B;have S:=J n;obtain⟨i,V⟩:=E (X p);have C:=J V;obtain⟨z,j⟩:=E (w.alloc (.cells #[.string i] 9));have i:EH z b l:=by rw[j];exact h.y (AO _ _ _ M)
 have P:Below w.heap.size w z:=by rw[j];exact(AP _ w).alloc (AB _) _
 have y:z.heap.size=w.heap.size+1:=by rw[j];simp
 rw[<-V,<-j]at N;rw[<-V];obtain⟨D,M,G⟩:=i;have F:=J (To M G B);have t:=J G;have m:=J M;have s:=J j;have i:=J P;clear h B n V j P M G;go_enter func149,ntmps149;go_wp2_with (first|(rw[<-s.o])|(at_range;refine DV _ I _ 77 I 9 117 Jr underlying77 _ b _ D I m.o ?_;intro B j h M)|go_in);go_frame;have W:Hid (Below w.heap.size w B):=J (i.o.C h i.o.size (λq n=>by cases n));have P:Hid (B.ownsRow w.heap.size 9 1 (.b w.heap.size 1 1) 1 (sv [p])):=J (own_below N.o (N:=z.heap.size) ⟨h.os,h.tape,h.output,h.size,λk H=>h.u k H EJ⟩ (λq n=>(N.o.lt q n).2));have B:=J j;clear j h m N i;obtain⟨r,h⟩:=E z.heap.size;rw[<-h]at B M y |-;have i:w.heap.size<r:=U;clear h s M y;go_loopw [5] (λv K=>∃(left:Lit->Bool) (cnt:Nat) (f:List Bs),K.ranges prog 9 JA b r (Maps.size D) D left cnt/\f.length+cnt<=l.length/\Hid (N7 l (λq=>KJ q p) left f)/\Hid (K.ownsRow w.heap.size 9 1 v (f.length+1) (sv (p::f)))/\Hid (Below w.heap.size w K))
  (λ_ K=>K.rangeLeft b r)
 case atStart=>exact⟨_,_,[],B.o,by have:=F.o;simp;omega,J ⟨by simp,λq=>by simp;intro F h2;exact((t.o q).1).i F⟩,P,W⟩
 case round=>
  obtain⟨left,cnt,f,R,h,j,i,M⟩:=hrel;clear W B P;have T:=M.o.size;obtain⟨g,N,rfl⟩:=Qa i.o;obtain⟨L,m⟩:=E f.length;rw[<-m]at i h |-;have y:=J m;clear m;go_wp2_with (first|(at_next;refine DH _ rfl _ rfl 9 Jr JA (λx:Bs=>.string (X x)) id (λkey s H=>by obtain⟨x,W,_⟩:=Maps.keyOf_str underlying9 H;exact⟨x,W⟩) (λv _ _=>⟨v,I⟩) b r _ _ _ _ I R ?_ ?_)|go_in)
  .intro _ n;have h:=J (j.o.done A.o n);go_wp2;go_ret;have m:=y.o;rw[m]at i;exact⟨_,f,by rw[m];rfl,i.o,h.o,M.o⟩
  intro q _ s _ _ s ac ah av hv ay ad z h aR aQ;obtain⟨m,ep,rfl,_⟩:=Maps.keyOf_str underlying9 ah;obtain rfl:q=m:=by cases ep;rfl
  have P:Maps.has D (.string q)=true:=CG ay;rw[(t.o q).1]at P;have A:=J (j.o.step P av);obtain⟨x,W⟩:=Bi.1 P;obtain⟨K,aI⟩:=Ji W;have j:q.length<=1048576:=by rw[<-aI];exact S.o x K
  have t:=J (jW q p s j hp);have aD:=C.o;rw[<-aD]at t;obtain⟨o,B⟩:=E (KJ q p);rw[<-B]at t A;have aK:Hid (Below w.heap.size w s):=J (M.o.C h T (λk e=>by cases e;omega));have n:∃a j c d,wr.heap[r]?=some (.mapIter a j c d):=by obtain⟨_,_,_,_,c0,_,_,_,_,m,_⟩:=R;exact⟨_,_,_,_,m⟩
  have S:Hid (s.ownsRow w.heap.size 9 1 (.b g (L+1) N) (L+1) (sv (p::f))):=J (by
   have B:=i.o;refine⟨B.1,?_⟩;rcases B.2 with⟨F,_⟩|⟨m,C,V,F,h2,T,N⟩
   .cases F
   refine .s ⟨m,C,V,F,h2,(h.u m (lt_of_heap T) (λe=>?_)).i T,N⟩;obtain⟨a,j,c,d,G⟩:=n;cases e;rw[G]at T;cases T)
  have j:=J ad;have C:=J R;obtain⟨Q,m⟩:=E (X q);rw[<-m]at t aQ |-;have F:=J m;have G:wr.heap.size<=s.heap.size:=U;clear B ay hv ah av h aR ad R P W K aI ep n m i M aD;cases o with
  |false=>
   simp only[BH,CR]at A;go_wp2_with (go_at_call 208;refine Jj t.o ?_);go_roundw
   case rel=>exact⟨_,ac,f,j.o,by have:=y.o;omega,A,by have:=y.o;rw[<-this];exact S,aK⟩
   case measure=>rw[j.o.left_eq,C.o.left_eq];exact z
  |true=>
   simp only[Dr]at A;go_wp2_with fail;refine Jj t.o ?_;go_wp2_with (at_builtin;refine Av _ I (.tmp 18) (.tmp 20) 40 I w.heap.size 9 i0 (.string ByteArray.empty) 1 16 underlying40 hi aP aU aS I EB _ _ _ I (S.o.alloc _) ⟨s.heap.size,0,none⟩ 1 1 [.string Q] I I ?c1 ?c2 ?c3 ?c4 ?c5 ?_)
   case c1=>exact B9 _ _ _
   case c2=>intro u h;simp at h;subst h;rfl
   case c3=>unfold maxLen;omega
   case c4=>omega
   case c5=>simp;omega
   intro i P B h _;have M:Below w.heap.size w P:=(aK.o.alloc U _).C h EL (λk H=>(S.o.lt k H).1);have W:Hid (P.ownsRow w.heap.size 9 1 i ((f++[q]).length+1) (sv (p::(f++[q])))):=J (by
    have e1:sv (p::(f++[q]))=sv (p::f)++[.string Q]:=by rw[F.o];simp[sv]
    rw[e1,AM,<-y.o];exact B)
   have P:=X3 (j.o.kept (BF s (.cells #[.string Q] 9) none) EJ EJ) (S.o.alloc _) h;have R:=J P;have i:=J M;clear B h M P;go_wp2;go_roundw
   case rel=>exact⟨_,ac,f++[q],R.o,by rw[AM,<-y.o];simp;omega,A,W,i⟩
   case measure=>rw[R.o.left_eq,C.o.left_eq];exact z
def PH(l:List It)(p:Bs):Int:=if Et l p=0 then(if(l.map (·.c)).any (λq=>KJ q p)then 7 else 0)else Et l p
theorem vh(b:Nat)(l:List It)(p:Bs)(w:Z)(o:EH w b l)(G:EX l)(k:ML w)(c:p.length<=1048576):Calls prog 91 #[.e b,.string (X p)] w λe w'=>F0 b l (l.filter λy=>decide (y.c≠p)) (PH l p) w e w':=by
 have a:=J (Ua b l p w o k c);have v:=o.lt;have s:=J o;have j:=G.nodup;have Q:=G.len;have m:=J (λW (h:EH W b l)=>eR b l p W h j U c (λx f=>by exact Dz ((NR (G.ok x f)).p)));have i:=J (λW (h:EH W b l)=>h.drop p Fs 0);obtain⟨_,c⟩:=E (X p);rw[<-c]at a m i |-;obtain⟨r,P⟩:=E (GZ l p);rw[<-P]at a;unfold Gm at a;clear o k c P;by_cases d:Et l p=0
 .rw[d]at a;have j:PH l p=if(l.map (·.c)).any (λq=>KJ q p)then 7 else 0:=by unfold PH;rw[AD d]
  rw[j];obtain⟨D,A⟩:=E ((l.map (·.c)).any (λq=>KJ q p));rw[<-A];have P:=J A;clear j d A;go_enter func91,ntmps91;go_wp2_with fail;refine a.o.l ?_;rintro e A ⟨c,rfl⟩;have C:=s.o.f c v;obtain⟨t,n⟩:=E (A.alloc (.cells #[.bool r.d,.string (X r.data),.a r.a,.a r.b] 117));have z:EH t b l:=by rw[n];exact C.y (AO _ _ _ C.lt)
  have R:w.b t:=by rw[n];exact c.alloc c.size _
  have T:=J (m.o t z);have u:=J n;have V:=J z;have k:=J R;clear c a C z R n m;go_wp2_with rw[<-u.o];refine T.o.l ?_;rintro e r ⟨_,H,rfl,K,u,B⟩;obtain⟨g,_,rfl⟩:=Qa K;have z:=J (V.o.f B V.o.lt);have N:=J (k.o.i (B.l k.o.size));have v:D=decide (0<H.length):=by
   rw[P.o,CB,Ap,BT,u.length_eq,List.length_pos_iff_exists_mem];constructor
   .rintro⟨x,f,R⟩;exact⟨x,Ad.2 ⟨f,R⟩⟩
   rintro⟨x,f⟩;exact⟨x,(Ad.1 f).1,(Ad.1 f).2⟩
  have C:H.length<=60:=by rw[u.length_eq];exact AG (C0 _ _) (EU Q)
  obtain⟨L,o⟩:=E H.length;rw[<-o]at v C |-;have M:=J v;clear K u B T v o;by_cases n:0<L
  .have F:D=true:=by rw[M.o];simpa using n
   subst F;clear i;go_wp2;go_ret;exact F0.no EB s.o N.o
  have F:D=false:=by rw[M.o];simpa using n
  subst F;obtain⟨_,_,Q,S⟩:=i.o r z.o;have B:=J Q;have o:=J ((FL.of_below N.o).of_map S);clear Q S i;go_wp2;go_ret;exact⟨I,o.o,by rw[AD I];have h:=B.o;simpa only[ne_eq,decide_not]using h⟩
 have j:PH l p=Et l p:=by unfold PH;rw[AC d]
 rw[j];obtain⟨_,o⟩:=E (Et l p);rw[<-o]at a d |-;clear j o m i;go_enter func91,ntmps91;go_wp2_with fail;refine a.o.l ?_;rintro e A ⟨c,rfl⟩;have i:=J c;have m:=c.size;clear c a;go_wp2;go_ret;exact F0.no d s.o (i.o.alloc m _)
def nm:Bs->Bs
 | []=>[]
 | c::cs=>if cs.contains 47 then nm cs else if c=47 then cs else c::cs
theorem Yv{p:Bs}(h:∀i,i<p.length->p.getD i 0≠47):nm p=p:=by
 cases p with
 |nil=>rfl
 |cons c e=>
  unfold nm;rw[AC,AC]
  .have:=h 0 EJ;simpa[List.getD]using this
  intro a;obtain⟨i,d,b⟩:=BY (Bk.1 a);have:=h (i+1) EL;simp[List.getD,d]at this;exact this b
theorem iI:∀{p:Bs} {j:Nat},p.getD j 0=47->(∀i,j<i->i<p.length->p.getD i 0≠47)->nm p=p.drop (j+1)
 | [],j,h,_=>by simp at h
 | c::cs,0,h1,h2=>by
   unfold nm;rw[AC,AD]
   .rfl
   .simpa[List.getD]using h1
   intro b;obtain⟨i,d,f⟩:=BY (Bk.1 b)
   have:=h2 (i+1) U EL
   simp[List.getD,d]at this;exact this f
 | c::cs,j+1,h1,h2=>by
   have a:cs.getD j 0=47:=by simpa[List.getD]using h1
   have e:j<cs.length:=by
    rcases CS j cs.length with h|h
    .exact h
    rw[List.getD,Ay h]at a;cases a
   have b:cs.contains 47=true:=by
    rw[Bk]
    have:cs[j]=47:=by simpa[List.getD,e]using a
    exact this ▸ Bn e
   unfold nm;rw[AD b,iI a (λi d _=>?_)]
   .rfl
   have:=h2 (i+1) U EL
   simpa[List.getD]using this
theorem y8(p:Bs):(Lib.lastIndexByte (X p) 47 = -1/\par p=[]/\nm p=p)\/∃j:Nat,Lib.lastIndexByte (X p) 47=(j:Int)/\j<p.length/\par p=p.take j/\nm p=p.drop (j+1):=by
 have d:∀j,j<p.length->(((X p).data[j]!).toNat:Int)=((p.getD j 0).toNat:Int):=λj q=>by simp[X,List.getD,q]
 have m:∀x:UInt8,((x.toNat:Int)=47)↔x=47:=λx=>by
  constructor
  .intro h;exact BR.1 (by have:(47:UInt8).toNat=47:=I;omega)
  intro h;rw[h];rfl
 rcases Lib.lastIdx_spec (X p) 47 (X p).size with⟨a,c⟩|⟨i,a,c,o,f⟩
 .have b:∀i,i<p.length->p.getD i 0≠47:=λi g e=>c i (by rw[EF];exact g) (by rw[d i g,e];rfl);exact .w ⟨a,UG b,Yv b⟩
 rw[EF]at a f;have e:p.getD i 0=47:=(m _).1 (by rw[<-d i a];exact o);have b:∀k,i<k->k<p.length->p.getD k 0≠47:=λk r l n=>f k r l (by rw[d k l,n];rfl);exact .s ⟨i,c,a,Sc e b,iI e b⟩
theorem eC(p:Bs)(w:Z)(q:p.length<=1048576):Calls prog 69 #[.string (X p)] w λe w'=>e=.a (.tuple #[.string (X (par p)),.string (X (nm p))])/\Below w.heap.size w w':=by
 have c:=J (strings_LastIndexByte (X p) 47 (by rw[EF];omega) w);obtain⟨a,b⟩:=E (X p);have g:a.size=p.length:=by rw[b,EF]
 rcases y8 p with⟨d,h,f⟩|⟨j,d,h,f,l⟩
 .rw[d]at c;rw[h,f,<-b];rw[<-b]at c;have i:Hid (a.extract 0 0=X []):=J (by rw[b,Ka];rfl);have k:Hid (a.extract 0 a.size=a):=J (by rw[g];rw[b,Ka];congr 1;simp);have m:a.size<=1048576:=U;clear d h f b g;go_enter func69,ntmps69;go_wp2_with (go_at_call 116;refine Jj c.o ?_);go_region;go_wp2;go_ret2;refine⟨?_,(AP _ w).drew⟩;have e1:=i.o;show Ending.returned (.tuple #[.string (a.extract 0 (max (-1:Int) 0).toNat),.string a])=_;rw[show(max (-1:Int) 0).toNat=0 from I,e1]
 rw[d]at c;rw[f,l,<-b];rw[<-b]at c;have i:Hid (a.extract 0 j=X (p.take j)):=J (by rw[b,Ka];simp);have k:Hid (a.extract (j+1) a.size=X (p.drop (j+1))):=J (by rw[g,b,Ka];congr 1;exact AT EJ);have m:a.size<=1048576:=U;have n:j<a.size:=U;have o:max (j:Int) 0=(j:Int):=U;clear d h f l b g;go_enter func69,ntmps69;go_wp2_with (go_at_call 116;refine Jj c.o ?_);go_region;go_wp2;go_ret2;refine⟨?_,(AP _ w).drew⟩;have e1:=i.o;have e2:=k.o;show Ending.returned (.tuple #[.string (a.extract 0 j),.string (a.extract (j+1) a.size)])=_;rw[e1,e2]
end
end Go.Proofs.YtodmdkhdbfbfgaaGreatDoor
namespace Go.Proofs
open Go.Shelf
def Nq:Go.Shelf.Ren:=⟨fun | 190=>70 | 125=>118 | 258=>117 | 128=>184 | 129=>185 | 302=>175 | 303=>176 | 304=>177 | 305=>178 | 306=>179 | 307=>180 | 308=>181 | 309=>182 | 310=>183 | 333=>235 | 329=>236 | 330=>237 | 334=>238 | 335=>239 | 336=>231 | 344=>273 | n=>n,fun | 31=>40 | 9=>9 | 3=>3 | 46=>110 | 0=>0 | 51=>88 | 53=>240 | 4=>4 | 183=>231 | 182=>230 | 131=>236 | 5=>5 | 218=>261 | 222=>265 | 228=>308 | 229=>309 | n=>n,fun | n=>n⟩
theorem O3:Go.Proofs.Lays.n190 prog Nq:={
 mixed:=EG
 f125:=func118.i (AX some EG)
 f128:=func184.i (AX some EG)
 f129:=func185.i (AX some EG)
 f190:=func70.i (AX some EG)
 f258:=func117.i (AX some EG)
 f302:=func175.i (AX some EG)
 f303:=func176.i (AX some EG)
 f304:=func177.i (AX some EG)
 f305:=func178.i (AX some EG)
 f306:=func179.i (AX some EG)
 f307:=func180.i (AX some EG)
 f308:=func181.i (AX some EG)
 f309:=func182.i (AX some EG)
 f310:=func183.i (AX some EG)
 f329:=func236.i (AX some EG)
 f330:=func237.i (AX some EG)
 f333:=func235.i (AX some EG)
 f334:=func238.i (AX some EG)
 f335:=func239.i (AX some EG)
 f336:=func231.i (AX some EG)
 f344:=func273.i (AX some EG)
 t0:=underlying0
 a0:=isAgg0
 z0:=sizeOf0
 v0:=zeroValue0
 t3:=underlying3
 a3:=isAgg3
 z3:=sizeOf3
 v3:=zeroValue3
 t4:=underlying4
 a4:=isAgg4
 z4:=sizeOf4
 v4:=zeroValue4
 t5:=underlying5
 a5:=isAgg5
 z5:=sizeOf5
 v5:=zeroValue5
 t9:=underlying9
 a9:=isAgg9
 z9:=sizeOf9
 v9:=zeroValue9
 t31:=underlying40
 a31:=isAgg40
 z31:=sizeOf40
 v31:=zeroValue40
 t46:=underlying110
 a46:=isAgg110
 z46:=sizeOf110
 v46:=zeroValue110
 t51:=underlying88
 a51:=isAgg88
 z51:=sizeOf88
 v51:=zeroValue88
 t53:=underlying240
 a53:=isAgg240
 z53:=sizeOf240
 v53:=zeroValue240
 t131:=underlying236
 a131:=isAgg236
 z131:=sizeOf236
 v131:=zeroValue236
 t182:=underlying230
 a182:=isAgg230
 z182:=sizeOf230
 v182:=zeroValue230
 t183:=underlying231
 a183:=isAgg231
 z183:=sizeOf231
 v183:=zeroValue231
 t218:=underlying261
 a218:=isAgg261
 z218:=sizeOf261
 v218:=zeroValue261
 t222:=underlying265
 a222:=isAgg265
 z222:=sizeOf265
 v222:=zeroValue265
 t228:=underlying308
 a228:=isAgg308
 z228:=sizeOf308
 v228:=zeroValue308
 t229:=underlying309
 a229:=isAgg309
 z229:=sizeOf309
 v229:=zeroValue309 }
end Go.Proofs
namespace Go.Proofs.YtodmdkhdbfbfgaaGreatDoor
section
open Go.RowKit Go.Nt Go.Sort Go.Shelf
def M1(l:List Bs):List Bs:=l.mergeSort λx y=>decide (x<=y)
theorem fe(l:List Bs):sv l=l.map encStr:=rfl
theorem X1{a b:List Bs}(h:a.Perm b):M1 a=M1 b:=by
 have e:∀x y z:Bs,decide (x<=y)=true->decide (y<=z)=true->decide (x<=z)=true:=λx y z c d=>by simp at c d |-;exact List.le_trans c d
 have f:∀x y:Bs,(decide (x<=y)||decide (y<=x))=true:=λx y=>by rcases List.le_total x y with h|h<;>simp[h]
 unfold M1;refine Cv (le:=λx y:Bs=>decide (x<=y)=true) (λx y _ _ c d=>?_) (CQ e f a) (CQ e f b) (((CV _ _).i h).i (CV _ _).A);simp at c d;exact List.le_antisymm c d
theorem kZ(l:List Bs):(M1 l).length=l.length:=(CV _ _).length_eq
theorem fP(B:Nat)(v:Value)(l:List Bs)(w:Z)(d:w.ownsRow B 9 1 v l.length (sv l))(p:l.length<=1000):Calls prog 70 #[v] w λe w'=>e=.a (.tuple #[])/\w'.ownsRow B 9 1 v l.length (sv (M1 l))/\w.grownBy w' v.ownBlock:=by
 rcases d.2 with⟨rfl,i⟩|⟨g,c,_,rfl,a,b,k,m,n,o⟩
 .have h:=BP.1 i;subst h;refine(Any.slices_Sort_string_none O3 none 0 w).l ?_;rintro e w' ⟨rfl,rfl⟩;exact⟨I,by simpa[M1]using d,⟨I,I,I,AB _,λ_ _ _=>rfl⟩⟩
 have j:=holds_of_block b (by simpa[fe]using o);have f:=(BC.1 b).1;refine(Any.slices_Sort_string O3 g 0 c l w j f U).l ?_;rintro e w' ⟨rfl,_,_,rfl⟩;refine⟨I,?_,grownBy_sorted _⟩;rw[fe];exact ownsRow_sorted EJ a b k m n
def Ie(l:List It)(p:Bs):Int:=if p=[]then 0 else if Et l p=0 then(if(GZ l p).d then 0 else 6)else Et l p
def Iv(l:List It)(p:Bs):List Bs:=M1 (((l.map (·.c)).filter λq=>decide (par q=p)).map nm)
def Ko(l:List It)(p:Bs)(w:Z)(e:Ending)(w':Z):Prop:=
 Below w.heap.size w w'/\((Ie l p≠0/\e=.a (.tuple #[.g,.a (Ie l p)])) \/
  (Ie l p=0/\∃v,e=.a (.tuple #[v,.a 0])/\w'.ownsRow w.heap.size 9 1 v (Iv l p).length (sv (Iv l p))))
theorem Xb{w:Z}{B n:Nat}{e:TypeId}{v:Value}{d:List Value}(h:w.ownsRow B e 1 v n d):∃a c,v=.slice a n c:=by
 rcases h.2 with⟨rfl,b⟩|⟨g,_,_,rfl,_⟩
 .exact⟨none,0,by rw[b]⟩
 exact⟨_,_,I⟩
theorem mH(b:Nat)(l:List It)(w:Z)(B:EH w b l)(F:(l.map (·.c)).Nodup)(f:l.length<=1000)(h:∀x∈l,x.c.length<=1048576):Calls prog 40 #[.e b,.string (X [])] w λe w'=>Ko l [] w e w':=by
 obtain⟨i0,hi,aN,aX,aU⟩:=An Kq;have f:=B.lt;have n:=J F;have G:=J h;obtain⟨D,i,N⟩:=B;have j:=J (To i N F);have g:=J N;change Hid _ at i;have f:(X []).toList.isEmpty=true:=by rw[Mn];rfl
 have t:Hid (Ie l []=0):=J (AD I);have W:=J (AP w.heap.size w);go_enter func40,ntmps40;go_wp2_with (first|(at_range;refine DV _ I _ 77 I 9 117 Jr underlying77 _ b _ D I i ?_;intro _ C f B)|go_in);go_frame;have F:=J (W.o.C f W.o.size (λq h=>by cases h));change Hid _ at C;obtain⟨r,P⟩:=E w.heap.size;rw[<-P]at C B |-;have f:w.heap.size<=r:=Dz W.o.size;clear P B;go_loopw [8] (λv A=>∃(left:Lit->Bool) (cnt:Nat) (f:List Bs),A.ranges prog 9 JA b r (Maps.size D) D left cnt/\f.length+cnt<=l.length/\Hid (N7 l (λq=>decide (par q=([]:Bs))) left f)/\Hid (A.r w.heap.size 9 1 v (f.map nm).length (sv (f.map nm)))/\Hid (w.b A))
  (λ_ A=>A.rangeLeft b r)
 .exact⟨_,_,[],C.o,by have:=j.o;simp;omega,J ⟨by simp,λq=>by simp;intro z h2;exact((g.o q).1).i z⟩,J (Af _ _ _ _),F⟩
 .obtain⟨left,cnt,f,s,p,Q,i,B⟩:=hrel;clear F C;have y:=B.o.size;obtain⟨S,m,rfl⟩:=Xb i;obtain⟨L,j⟩:=E ((f.map nm).length);have F:L=f.length:=by rw[j];simp
  rw[<-j]at i |-;change Hid _ at j;have ax:=J F;have A:L+cnt<=l.length:=U;clear F p;go_wp2_with (first|(at_next;refine DH _ rfl _ rfl 9 Jr JA (λx:Bs=>.string (X x)) id (λkey M A=>by obtain⟨x,P,_⟩:=Maps.keyOf_str underlying9 A;exact⟨x,P⟩) (λv _ _=>⟨v,I⟩) b r _ _ _ _ I s ?_ ?_)|go_in)
  .intro _ p;have F:=Q.o.done n p;have p:=J (fP w.heap.size (.slice S L m) (f.map nm) wr (by have:=j.o;rw[<-this];exact i.o) (Dz j.o));have C:Hid (M1 (f.map nm)=Iv l ([]:Bs)):=J (X1 (F.map nm));clear F s;go_wp2_with fail;refine p.o.l ?_;rintro e R ⟨rfl,n,F⟩;have K:=J (B.o.C F y (λq h=>(i.o.lt q h).1));have H:Hid (R.r w.heap.size 9 1 (.slice S L m) (Iv l ([]:Bs)).length (sv (Iv l ([]:Bs)))):=J (by
    have e1:(Iv l ([]:Bs)).length=(f.map nm).length:=by rw[<-C.o,kZ]
    rw[e1,<-C.o];exact n)
   clear n F p Q i;go_wp2;go_ret2;exact⟨K,.s ⟨t,_,I,H⟩⟩
  intro q _ M _ _ R af ai av hv aw T aa C aT aQ;obtain⟨n,ep,rfl,_⟩:=Maps.keyOf_str underlying9 ai;obtain rfl:q=n:=by cases ep;rfl
  have F:=CG aw;rw[(g.o q).1]at F;have t:=J (Q.o.step F av);obtain⟨x,P⟩:=Bi.1 F;obtain⟨H,Q⟩:=Ji P;have g:q.length<=1048576:=by rw[<-Q];exact G x H
  have n:=J (eC q R g);have W:=J (B.o.C C y (λk e=>by cases e;omega));have p:∃a g c d,wr.heap[r]?=some (.mapIter a g c d):=by obtain⟨_,_,_,_,c0,_,_,_,_,y,_⟩:=s;exact⟨_,_,_,_,y⟩
  have G:Hid (R.r w.heap.size 9 1 (.slice S L m) L (sv (f.map nm))):=J (by
   have m:=i;refine⟨m.1,?_⟩;rcases m.2 with z|⟨S,y,M,z,h2,K,h4⟩
   .exact .w z
   refine .s ⟨S,y,M,z,h2,(C.u S (lt_of_heap K) (λe=>?_)).i K,h4⟩;obtain⟨a,g,c,d,N⟩:=p;cases e;rw[N]at K;cases K)
  have z:=J T;have K:=J s;have g:wr.heap.size<=R.heap.size:=U;obtain⟨_,N⟩:=E (X q);obtain⟨g,M⟩:=E (X (par q));obtain⟨V,y⟩:=E (X (nm q));rw[<-N]at n aQ |-;rw[<-M,<-y]at n;have R:=J M;change Hid _ at y;obtain⟨o,m⟩:=E (decide (par q=([]:Bs)));rw[<-m]at t;have R:(g.toList==(X ([]:Bs)).toList)=o:=by rw[m,M,Of]
  clear m aw hv ai av C aT T s F P H Q ep p N i B M;cases o with
  |false=>
   simp only[BH,CR]at t;go_wp2_with fail;refine n.o.l ?_;rintro e s ⟨rfl,g⟩;have T:=J (W.o.i (g.b));have p:=J (own_below G g (λq h=>(G.o.lt q h).2));have H:=J (z.o.kept (below_grown g) EJ EJ);clear g n;go_wp2;go_roundw
   .exact⟨_,af,f,H.o,by have:=ax.o;omega,t,by have:=j.o;rw[<-this];exact p,T⟩
   .rw[H.o.left_eq,K.o.left_eq];exact aa
  |true=>
   simp only[Dr]at t;go_wp2_with fail;refine n.o.l ?_;rintro e s ⟨rfl,g⟩;have T:=J (W.o.i (g.b));have p:=J (own_below G g (λq h=>(G.o.lt q h).2));have H:=J (z.o.kept (below_grown g) EJ EJ);have h:=g.size;go_wp2_with (at_builtin;refine Av _ I (.tmp 44) (.tmp 46) 40 I w.heap.size 9 i0 (.string ByteArray.empty) 1 16 underlying40 hi aN aX aU I EB _ _ _ I (p.o.alloc _) ⟨s.heap.size,0,none⟩ 1 1 [.string V] I I ?c1 ?c2 ?c3 ?c4 ?c5 ?_)
   .exact B9 _ _ _
   .intro u P;simp at P;subst P;rfl
   .unfold maxLen;omega
   .omega
   .simp;omega
   intro g i B R _;have P:=(T.o.a).C R EL (λk A=>(p.o.lt k A).1);have h:Hid (i.r w.heap.size 9 1 g ((f++[q]).map nm).length (sv ((f++[q]).map nm))):=J (by
    have e1:sv ((f++[q]).map nm)=sv (f.map nm)++[.string V]:=by rw[y.o];simp[sv]
    rw[e1,Au,AM,<-j.o];exact B)
   have F:=X3 (H.o.kept (BF s (.cells #[.string V] 9) none) EJ EJ) (p.o.alloc _) R;have g:=J F;have i:=J P;clear B R P F;go_wp2;go_roundw
   .exact⟨_,af,f++[q],g,by rw[AM,<-ax.o];simp;omega,t,h,i⟩
   .rw[g.o.left_eq,K.o.left_eq];exact aa
theorem tJ(b:Nat)(l:List It)(p:Bs)(w:Z)(g:EH w b l)(P:ML w)(Q:p≠[])(f:p.length<=1048576)(G:(l.map (·.c)).Nodup)(h:l.length<=1000)(j:∀x∈l,x.c.length<=1048576):Calls prog 40 #[.e b,.string (X p)] w λe w'=>Ko l p w e w':=by
 obtain⟨i0,hi,aX,b9,b6⟩:=An Kq;have h:=J (Ua b l p w g P f);have y:=g.lt;change Hid _ at G;have Hq:=J j;have t:=J g;have f:(X p).toList.isEmpty=false:=by rw[Mn];simpa using Q
 obtain⟨n,i⟩:=E (GZ l p);obtain⟨m,f⟩:=E (Et l p);have an:Ie l p=if m=0 then(if n.d then 0 else 6)else m:=by unfold Ie;rw[AC Q,<-i,<-f]
 change Hid _ at an;rw[<-i,<-f]at h;unfold Gm at h;clear j g P i f;by_cases ay:m=0
 .subst ay;cases z:n.d with
  |false=>have s:Hid (Ie l p=6):=J (by rw[an.o,AD I,z];rfl);rw[z]at h;go_enter func40,ntmps40;go_wp2_with fail;refine h.o.l ?_;rintro e R ⟨g,rfl⟩;have aC:=J g;have ax:=g.size;clear g h;go_wp2;go_ret2;exact⟨aC.o.alloc ax _,.w ⟨by rw[s.o];decide,by rw[s.o];rfl⟩⟩
  |true=>
   have s:Hid (Ie l p=0):=J (by rw[an.o,AD I,z];rfl);rw[z]at h;go_enter func40,ntmps40;go_wp2_with fail;refine h.o.l ?_;rintro e R ⟨g,rfl⟩;have i:=t.o.f g y;obtain⟨W,H⟩:=E (R.alloc (.cells #[.bool true,.string (X n.data),.a n.a,.a n.b] 117));have f:EH W b l:=by rw[H];exact i.y (AO _ _ _ i.lt)
   have T:Hid (Below w.heap.size w W):=J (by rw[H];exact g.alloc g.size _);have y:W.cell? (O R.heap.size 0)=some (.bool true):=by rw[H,AU _ R.heap.size 0 _ 117 (0,0) (AR _ _)];rfl
   obtain⟨D,A,N⟩:=f;have B:=J (To A N G);have K:=J N;change Hid _ at A H;clear g h i N t;go_wp2_with (first|(rw[<-H.o])|(at_range;refine DV _ I _ 77 I 9 117 Jr underlying77 _ b _ D I A ?_;intro _ i f t)|go_in);go_frame;have y:=J (T.o.C f T.o.size (λq j=>by cases j));change Hid _ at i;clear f A;obtain⟨r,f⟩:=E W.heap.size;rw[<-f]at i t |-;have A:w.heap.size<=r:=Dz T.o.size;clear f t;go_loopw [8] (λv S=>∃(left:Lit->Bool) (cnt:Nat) (f:List Bs),S.ranges prog 9 JA b r (Maps.size D) D left cnt/\f.length+cnt<=l.length/\Hid (N7 l (λq=>decide (par q=p)) left f)/\Hid (S.ownsRow w.heap.size 9 1 v (f.map nm).length (sv (f.map nm)))/\Hid (Below w.heap.size w S))
    (λ_ S=>S.rangeLeft b r)
   .exact⟨_,_,[],i.o,by have:=B.o;simp;omega,J ⟨by simp,λq=>by simp;intro M h2;exact((K.o q).1).i M⟩,J (Af _ _ _ _),y⟩
   .obtain⟨left,cnt,f,F,H,A,t,T⟩:=hrel;clear y i;have aj:=T.o.size;obtain⟨B,C,rfl⟩:=Xb t;obtain⟨L,y⟩:=E ((f.map nm).length);have i:L=f.length:=by rw[y];simp
    rw[<-y]at t |-;change Hid _ at y;have aF:=J i;have P:L+cnt<=l.length:=U;clear i H;go_wp2_with (first|(at_next;refine DH _ rfl _ rfl 9 Jr JA (λx:Bs=>.string (X x)) id (λkey kl S=>by obtain⟨x,H,_⟩:=Maps.keyOf_str underlying9 S;exact⟨x,H⟩) (λv _ _=>⟨v,I⟩) b r _ _ _ _ I F ?_ ?_)|go_in)
    .intro _ i;have z:=A.o.done G i;have P:=J (fP w.heap.size (.slice B L C) (f.map nm) wr (by have:=y.o;rw[<-this];exact t.o) (Dz y.o));have i:Hid (M1 (f.map nm)=Iv l p):=J (X1 (z.map nm));clear z F;go_wp2_with fail;refine P.o.l ?_;rintro e w5 ⟨rfl,G,z⟩;have W:=J (T.o.C z aj (λq j=>(t.o.lt q j).1));have Q:Hid (w5.ownsRow w.heap.size 9 1 (.slice B L C) (Iv l p).length (sv (Iv l p))):=J (by
      have e1:(Iv l p).length=(f.map nm).length:=by rw[<-i.o,kZ]
      rw[e1,<-i.o];exact G)
     clear G z P A t;go_wp2;go_ret2;exact⟨W,.s ⟨s,_,I,Q⟩⟩
    intro q _ kl _ _ W ah am aD hv aE ai ac Q b5 b0;obtain⟨i,ep,rfl,_⟩:=Maps.keyOf_str underlying9 am;obtain rfl:q=i:=by cases ep;rfl
    have i:=CG aE;rw[(K.o q).1]at i;have G:=J (A.o.step i aD);obtain⟨x,H⟩:=Bi.1 i;obtain⟨aN,aQ⟩:=Ji H;have z:q.length<=1048576:=by rw[<-aQ];exact Hq x aN
    have A:=J (eC q W z);have aT:=J (T.o.C Q aj (λk e=>by cases e;omega));have a2:∃a b' c d,wr.heap[r]?=some (.mapIter a b' c d):=by obtain⟨_,_,_,_,c0,_,_,_,_,z,_⟩:=F;exact⟨_,_,_,_,z⟩
    have z:Hid (W.ownsRow w.heap.size 9 1 (.slice B L C) L (sv (f.map nm))):=J (by
     have B:=t;refine⟨B.1,?_⟩;rcases B.2 with M|⟨g',K,C,M,h2,P,h4⟩
     .exact .w M
     refine .s ⟨g',K,C,M,h2,(Q.u g' (lt_of_heap P) (λe=>?_)).i P,h4⟩;obtain⟨a,b',c,d,N⟩:=a2;cases e;rw[N]at P;cases P)
    have P:=J ai;have N:=J F;have C:wr.heap.size<=W.heap.size:=U;obtain⟨_,W⟩:=E (X q);obtain⟨M,C⟩:=E (X (par q));obtain⟨V,K⟩:=E (X (nm q));rw[<-W]at A b0 |-;rw[<-C,<-K]at A;have HU:=J C;change Hid _ at K;obtain⟨o,B⟩:=E (decide (par q=p));rw[<-B]at G;have b7:(M.toList==(X p).toList)=o:=by rw[B,C,Of]
    clear B aE hv am aD Q b5 ai F i H aN aQ ep a2 W t T C;cases o with
    |false=>
     simp only[BH,CR]at G;go_wp2_with fail;refine A.o.l ?_;rintro e B ⟨rfl,i⟩;have F:=J (aT.o.i (i.b));have C:=J (own_below z i (λq j=>(z.o.lt q j).2));have t:=J (P.o.kept (below_grown i) EJ EJ);clear i A;go_wp2;go_roundw
     .exact⟨_,ah,f,t.o,by have:=aF.o;omega,G,by have:=y.o;rw[<-this];exact C,F⟩
     .rw[t.o.left_eq,N.o.left_eq];exact ac
    |true=>
     simp only[Dr]at G;go_wp2_with fail;refine A.o.l ?_;rintro e B ⟨rfl,i⟩;have F:=J (aT.o.i (i.b));have C:=J (own_below z i (λq j=>(z.o.lt q j).2));have t:=J (P.o.kept (below_grown i) EJ EJ);have j:=i.size;clear i A;go_wp2_with (at_builtin;refine Av _ I (.tmp 44) (.tmp 46) 40 I w.heap.size 9 i0 (.string ByteArray.empty) 1 16 underlying40 hi aX b9 b6 I EB _ _ _ I (C.o.alloc _) ⟨B.heap.size,0,none⟩ 1 1 [.string V] I I ?c1 ?c2 ?c3 ?c4 ?c5 ?_)
     .exact B9 _ _ _
     .intro u i;simp at i;subst i;rfl
     .unfold maxLen;omega
     .omega
     .simp;omega
     intro H M j i _;have z:=(F.o.a).C i EL (λk S=>(C.o.lt k S).1);have A:Hid (M.ownsRow w.heap.size 9 1 H ((f++[q]).map nm).length (sv ((f++[q]).map nm))):=J (by
      have e1:sv ((f++[q]).map nm)=sv (f.map nm)++[.string V]:=by rw[K.o];simp[sv]
      rw[e1,Au,AM,<-y.o];exact j)
     have y:=X3 (t.o.kept (BF B (.cells #[.string V] 9) none) EJ EJ) (C.o.alloc _) i;have t:=J y;have B:=J z;clear j i z y;go_wp2;go_roundw
     .exact⟨_,ah,f++[q],t,by rw[AM,<-aF.o];simp;omega,G,A,B⟩
     .rw[t.o.left_eq,N.o.left_eq];exact ac
 have s:Hid (Ie l p=m):=J (by rw[an.o,AC ay]);go_enter func40,ntmps40;go_wp2_with fail;refine h.o.l ?_;rintro e R ⟨g,rfl⟩;have aC:=J g;have ax:=g.size;clear g h;go_wp2;go_ret2;exact⟨aC.o.alloc ax _,.w ⟨by rw[s.o];exact ay,by rw[s.o];rfl⟩⟩
theorem qG(b:Nat)(l:List It)(p:Bs)(w:Z)(d:EH w b l)(a:EX l)(c:ML w)(i:p.length<=1048576):Calls prog 40 #[.e b,.string (X p)] w λe w'=>Ko l p w e w':=by
 have g:∀x∈l,x.c.length<=1048576:=λx j=>by exact Dz ((NR (a.ok x j)).p)
 have f:l.length<=1000:=Dz a.len;by_cases h:p=[]
 .subst h;exact mH b l w d a.nodup f g
 exact tJ b l p w d c h i a.nodup f g
end
section
open Go.RowKit Go.Nt
theorem rZ(w:Z)(F u f:Nat)(L:Y.Loc)(m:Y.M)(o:ByteArray)(b n e:Nat)(q:Option Nat)(h:Y.CP w F u f L m)(v:u<=w.heap.size):Calls prog 47 #[.c f,.agg #[.string o,.a b,.d n,.map q,.a e]] w λc w'=>∃lb,c=.a (.c lb)/\w.heap.size<=lb/\Y.Fh w' lb f ⟨b,n,none⟩ q none e m.d/\Below w.heap.size w w':=by
 obtain⟨g,r⟩:=E (w.alloc (.cells #[.string o,.a b,.d n,.map q,.a e] 94));obtain⟨a,i⟩:=E w.heap.size;have s:=JK r;have c:=Gi r i.A;have D:=Y.EM.f h v s;have A:=J (Y.GH g.drew F u f L m D.drew);have x:=NO 1 c;have y:=NO 2 c;have z:=NO 3 c;have B:=NO 4 c;obtain⟨G,C⟩:=E m.d;rw[<-C]at A |-;change Hid _ at s r;have Q:=J i;have H:=lt_of_heap c;rw[<-i];rw[<-i]at s;clear C i D h c;go_enter func47,ntmps47;go_wp2_with rw[<-r.o,<-Q.o];refine BL (S:=λV=>V.cell? (O a 1)=some (.a b)/\V.cell? (O a 2)=some (.d n)/\V.cell? (O a 3)=some (.map q)/\V.cell? (O a 4)=some (.a e)) EG ⟨x,y,z,B⟩ (λhHeld=>?_);refine Ef 0 I hHeld ?_;refine Ef 1 I hHeld ?_;refine Ef 2 I hHeld ?_;refine Ef 3 I hHeld ?_;refine Ef 4 I hHeld ?_;refine Ef 5 I hHeld ?_;refine Ef 6 I hHeld ?_;refine Ef 7 I hHeld ?_;refine rd 8 I (λK j=>?_);go_simp;refine Jj A.o ?_;refine j _ _ ⟨x,y,z,B⟩ (λhHeld=>?_);clear j K;refine Ef 9 I hHeld ?_;refine rd 10 I (λK j=>?_);go_simp;obtain⟨p,d⟩:=E ((g.alloc (.cells #[.c f,.a b,.d n,.map q,.map none,.map none,.a e,.a G] 132)).drew);obtain⟨lb,t⟩:=E g.heap.size;have l:∀k,p.cell? (O a k)=g.drew.cell? (O a k):=λk=>by rw[d];exact AK (AO g _ a H)
 have S:=(l 1).i x;have W:=(l 2).i y;have P:=(l 3).i z;have R:=(l 4).i B;have N:Hid (Y.Fh p lb f ⟨b,n,none⟩ q none e G):=J (by show p.heap[lb]?=_;rw[d,t];exact AR _ _);have T:Hid (Below a w p):=J (by rw[d];exact Pb (s.o.a));have M:a<=lb:=U;refine j _ _ (by rw[<-d];exact⟨S,W,P,R⟩) (λhHeld=>?_);rw[<-d]at hHeld |-;simp only[<-t];clear j K d t l;refine Ef 11 I hHeld ?_;refine B8 EG ?_ _;clear hHeld;go_wp2_with fail;go_ret;exact⟨lb,I,M,N,T⟩
def IV(w:Z)(fb cb lb tb:Nat):Prop:=w.heap[fb]?=some (.cells #[.c cb,.c lb,.e tb] 79 (0,0))
theorem IV.c2{w:Z}{a c lb b:Nat}(h:IV w a c lb b):w.cell? (O a 2)=some (.e b):=by rw[AU w a 2 _ 79 (0,0) h];rfl
theorem Y7(w:Z)(d j lb c:Nat)(l:List It)(h:IV w d j lb c)(k:EH w c l)(b:EX l)(a:ML w):Calls prog 12 #[.c d] w λe w'=>Below w.heap.size w w'/\∃v,e=.a v/\w'.ownsRow w.heap.size 39 5 v l.length (FF (Eg l)):=by have c2:=h.c2;have A:=J (l8 c l w k b.nodup (Dz b.len) a (λx m=>by exact Dz ((NR (b.ok x m)).p)));go_enter func12,ntmps12;go_wp2_with fail;refine A.o.l ?_;rintro e _ ⟨f,v,rfl,g⟩;have i:=J g;change Hid _ at f;obtain⟨_,_,rfl,_⟩:=Oq (l:=Eg l) (by rw[(MQ l).length_eq];exact g);go_wp2_with fail;go_ret;exact⟨f,_,I,i⟩
theorem fJ(w:Z)(c k lb b:Nat)(l:List It)(p:Bs)(h:IV w c k lb b)(f:EH w b l)(a:ML w)(m:p.length<=1048576):Calls prog 14 #[.c c,.string (X p)] w λe w'=>Below w.heap.size w w'/\e=.a (.tuple #[.string (X (FU l p).data),.a (FQ l p)]):=by have c2:=h.c2;have A:=J (sc b l p w f a m);obtain⟨_,g⟩:=E (X p);obtain⟨_,i⟩:=E (X (FU l p).data);obtain⟨_,d⟩:=E (FQ l p);rw[<-g,<-i,<-d]at A |-;clear h f a g i d;go_enter func14,ntmps14;go_wp2_with fail;refine A.o.l ?_;rintro e _ ⟨j,rfl⟩;change Hid _ at j;go_wp2_with fail;go_ret2;exact⟨j,I⟩
variable {rb base s n:Nat} {v:Value} {xs:List Value} {u:Bs->Option Bs}
theorem FL.own{a b:Z}(h:FL rb a b){x:Array Value}{T:TypeId}{f:Nat×Nat}(k:a.heap[rb]?=some (.cells x T f)){e:Nat}(l:a.ownsRow base e s v n xs)(j:e≠T):b.ownsRow base e s v n xs:=by
 refine⟨l.1,?_⟩;rcases l.2 with⟨rfl,o⟩|⟨g,d,i,rfl,p,c,q⟩
 .exact .w ⟨I,o⟩
 refine .s ⟨g,d,i,I,p,(h.u g (lt_of_heap c) (λm=>?_)).i c,q⟩;subst m;rw[k]at c;cases c;exact j I
theorem Gl.C{w w':Z}{r:Rd}(h:Gl w rb r)(a:w.ownsRow base 39 s v n xs)(b:w.grownBy w' v.ownBlock):Gl w' rb r:=
 ((Jf.refl 39 w).C a b).cells h EB
theorem WB(k:Nat)(r:Rd):(GR k r).2.1.length<=r.1.length:=(Ol k r).2
theorem ow(u:Bs->Option Bs)(r:Rd):(GK u r).2.1.length<=r.1.length:=by
 unfold GK;simp only;have b:=WB 2 r;have c:=WB 4 (GR 2 r).2;have d:=WB 1 (GR 4 (GR 2 r).2).2;have e:=(Ol (GR 1 (GR 4 (GR 2 r).2).2).1 (GR 1 (GR 4 (GR 2 r).2).2).2).2;by_cases a:32768<=(GR 2 r).1
 .rw[AD a];simp only;omega
 rw[AC a];have f:=WB 2 (Go.Nt.tk (GR 1 (GR 4 (GR 2 r).2).2).1 (GR 1 (GR 4 (GR 2 r).2).2).2).2;have g:=(Ol (GR 2 (Go.Nt.tk (GR 1 (GR 4 (GR 2 r).2).2).1 (GR 1 (GR 4 (GR 2 r).2).2).2).2).1 (GR 2 (Go.Nt.tk (GR 1 (GR 4 (GR 2 r).2).2).1 (GR 1 (GR 4 (GR 2 r).2).2).2).2).2).2;simp only;omega
theorem rL(c:∀t d:Bs,u t=some d->d.length<=4000)(r:Rd):(GK u r).1.c.length<=255/\(GK u r).1.data.length<=4000:=by
 unfold GK;simp only;have b:(Go.Nt.tk (GR 1 (GR 4 (GR 2 r).2).2).1 (GR 1 (GR 4 (GR 2 r).2).2).2).1.length<=255:=by have e:=(Ol (GR 1 (GR 4 (GR 2 r).2).2).1 (GR 1 (GR 4 (GR 2 r).2).2).2).1;have f:=Tt 1 (GR 4 (GR 2 r).2).2;omega
 by_cases a:32768<=(GR 2 r).1
 .rw[AD a];exact⟨b,by simp⟩
 rw[AC a];refine⟨b,?_⟩;simp only;cases h:u _ with
 |none=>simp
 |some d=>simpa using c _ d h
def UY(u:Bs->Option Bs)(t:Bs)(w:Z)(e:Ending)(w':Z):Prop:=
 Below w.heap.size w w' /\
  ((e=.a (.tuple #[.map none,.bool false])/\∀l,parse u t=some l->Ek l=false) \/
  ∃l b,parse u t=some l/\Ek l=true/\e=.a (.tuple #[.e b,.bool true])/\w.heap.size<=b/\EH w' b l)
theorem nj(hP:Ge u)(t:Bs)(w:Z)(k:ML w)(ht:t.length<=1000000):Calls prog 46 #[.string (X t)] w λe w'=>UY u t w e w':=by
 obtain⟨i0,hi,aA,aI,aD⟩:=An KS;have aj:=k.lt;have aG:=J k;obtain⟨W0,p⟩:=E (w.alloc (.cells #[.string (X t),.bool true] 151));have h0:=Gi p;have ar:=JK p;have aN:=Ia p;have z:=J (Up w.s (t,true) 1 W0 h0 EB ht);obtain⟨nr,s⟩:=E (GR 1 (t,true));obtain⟨d,f⟩:=nr;have aM:d<256:=by have:=Tt 1 (t,true);rw[<-s]at this;exact this
 have l0:f.1.length<=1000000:=by have:=(Ol 1 (t,true)).2;have e:(GR 1 (t,true)).2=(Go.Nt.tk 1 (t,true)).2:=I;rw[<-s]at e;rw[<-e]at this;exact AG this ht
 rw[<-s]at z;simp only at z;have P:Hid (parse u t=if(On u d f []).2.2 then some (On u d f []).1 else none):=J (by unfold parse;rw[<-s]);have aK:=J p;have ay:=J ar;clear k p h0 ar s;go_enter func46,ntmps46;go_wp2_with rw[<-aK.o];refine z.o.l ?_;rintro e _ ⟨rfl,h1,t1⟩;have aJ:=J (ay.o.i (t1.f (AB _) U));have aL:=t1.size;have H1:=J h1;clear z h1 t1;go_wp2;go_loopw [5,6] (λv i wr=>∃(m:Nat) (r:Rd) (a:List It),i=.a m/\m+a.length=d/\Hid (On u d f []=On u m r a)/\r.1.length<=1000000/\Hid (Gl wr w.s r)/\Hid (wr.r w.s 39 5 v a.length (FF a))/\Hid (w.b wr)/\Hid (∀x∈a,x.c.length<=255/\x.data.length<=4000)) (λ_ i _=>(intOf i).toNat)
 case atStart=>exact⟨d,f,[],I,by simp,J I,l0,H1,J (Af _ _ _ _),aJ,J EJ⟩
 case round=>
  obtain⟨m,r,a,rfl,hm,G,lr,D,M,g,Q⟩:=hrel;have ac:=g.o.size;have k1:=D.o.c1;obtain⟨fn,V⟩:=E r.2;rw[<-V]at k1;have o:=J V;clear V;obtain⟨a2,c2,rfl,ax⟩:=Oq M.o;obtain⟨L,W⟩:=E a.length;rw[<-W]at M |-;have aO:m+L=d:=U;have B:=J W;have aC:=J ax;clear W ax hm;cases m with
  |zero=>
   have F:Hid (On u d f []=(a,r)):=G;cases fn with
   |false=>go_wp2;go_ret2;exact⟨g.o,.w ⟨I,λl c=>by rw[P.o,F.o]at c;simp only at c;rw[<-o.o]at c;cases c⟩⟩
   |true=>
    have C:=J (Kk a2 c2 a wr (aG.o.f g.o aj) aC.o (by rw[<-B.o];omega) (λx n=>by exact Dz ((Q.o x n).1)) (λx n=>by exact Dz ((Q.o x n).2)));rw[<-B.o]at C;have Hp:Hid (parse u t=some a):=J (by rw[P.o,F.o];simp only;rw[<-o.o];rfl);go_wp2_with fail;refine C.o.l ?_;rintro e _ ⟨H,⟨aF,rfl⟩|⟨ai,b,rfl,_,hT⟩⟩
    .have T:=J (g.o.i (H.l ac));clear H C;go_wp2;go_ret2;exact⟨T.o,.w ⟨I,λl c=>by rw[Hp.o]at c;cases c;exact aF⟩⟩
    have T:=J (g.o.i (H.l ac));have HT:=J hT;clear H C hT;go_wp2;go_ret2;exact⟨T.o,.s ⟨a,b,Hp.o,ai,I,by omega,HT.o⟩⟩
  |succ m=>
   cases fn with
   |false=>have F:Hid (On u d f []=(a,r)):=J (by rw[G.o];show(if r.2 then _ else _)=_;rw[<-o.o];rfl);go_wp2;go_ret2;exact⟨g.o,.w ⟨I,λl c=>by rw[P.o,F.o]at c;simp only at c;rw[<-o.o]at c;cases c⟩⟩
   |true=>
    have A:=J (sj hP w.s r wr D.o lr);have a6:Hid (On u d f []=On u m (GK u r).2 (a++[(GK u r).1])):=J (by rw[G.o];show(if r.2 then _ else _)=_;rw[<-o.o];rfl);have aw:=J (rL hP.small r);have ao:(GK u r).2.1.length<=1000000:=AG (ow u r) lr;obtain⟨x,n⟩:=E ((GK u r).1);obtain⟨r',S⟩:=E ((GK u r).2);rw[<-n,<-S]at A a6;rw[<-n]at aw;rw[<-S]at ao;unfold Jg at A;clear n S G;go_wp2_with fail;refine A.o.l ?_;rintro e w3 ⟨rfl,h3,K⟩;have an:=K.own D.o M.o EB;have au:=g.o.i (K.f (AB _) U);have aP:=K.size;have aE:=D.o.lt;have R:=J an;have az:=J au;have H3:=J h3;clear A h3 K an au k1;go_wp2_with (at_builtin;refine Av _ I (.tmp 20) (.tmp 22) 26 I w.s 39 i0 _ 5 56 underlying26 hi aA aI aD I EB _ _ _ I (R.o.alloc _) ⟨w3.s,0,none⟩ 1 1 (KP x) I ?e1 ?e2 ?e3 ?e4 ?e5 ?e6 ?_)
    case e1=>rfl
    case e2=>intro j v hv;rw[addr_add];have h:=(P1 w3 x).cell hv;unfold boxed at h;simpa using h
    case e3=>intro v hv;exact O8 (l:=[x]) v (by rw[QX];exact hv)
    case e4=>unfold maxLen;omega
    case e5=>omega
    case e6=>simp;omega
    intro v4 w4 a5 N _;have av:w.b w4:=(az.o.a).C N EL (λq hq=>(R.o.lt q hq).1);have h4:Gl w4 w.s r':=Gl.C ((Jm).i H3.o) (R.o.alloc _) N;have aB:Hid (w4.r w.s 39 5 v4 (a++[x]).length (FF (a++[x]))):=J (by rw[RU,QX,AM,<-B.o];exact a5);have aH:=J av;have H4:=J h4;clear a5 N av h4;go_wp2;go_roundw
    case rel=>exact⟨m,r',a++[x],by go_num,by rw[AM,<-B.o];simp;omega,a6,ao,H4,aB,aH,J (λy hy=>(Aj.1 hy).elim (Q.o y) (λe=>by simp at e;subst e;exact aw.o))⟩
    case measure=>simp[intOf]
end
section
open Go.RowKit Go.Nt
open Y (PF)
def TS(l:List Fp)(b r:Nat):Prop:=∀ord,Y.Gx l ord->ord≠[]->ord.getLast? = some (b,r)
end
namespace Y
open Go.RowKit Pk
open Go.Nt
theorem MN{m a:M}(b:a.a=m.a)(c:a.e=m.e):ER a=ER m:=by unfold ER;rw[b,c]
theorem Yc{a:List Nat}(c:Asc a){x:Nat}(e:x∈a):x<=a.getLastD 0:=by
 obtain⟨i,d,rfl⟩:=DQ.1 e;have b:a.length-1<a.length:=U;rw[Cq,List.getLast?_eq_getElem?,AE b];show a[i]<=a[a.length-1];by_cases h:i=a.length-1
 .exact Ci (by congr 1)
 exact CY.1 c i (a.length-1) d b U
theorem Yp(c b d:Nat)(g:b<4294967296)(h:b-c<=d):∀(l:List Nat) (i f a:Nat),Asc (a::l)->(∀y∈a::l,c<=y/\y<=b)->Kd l i f d a=f
 | [],_,_,_,_,_=>rfl
 | y::l,i,f,a,ha,hb=>by
   have e:=D7.1 ha;have m:=e.1 y EJ;have n:=hb a EJ;have o:=hb y EJ;have j:K8 y a=y-a:=by unfold K8;omega
   simp only[Kd];rw[AC (by rw[j];omega)];exact Yp c b d g h l (i+1) f y e.2 (λz k=>hb z (by simp[k]))
theorem yz{d:List Nat}(c:Asc d)(i:∀y∈d,y<2147483648):GI d=0:=by
 cases d with
 |nil=>rfl
 |cons y l=>
  unfold GI;have f:(y::l).getLastD 0∈y::l:=by rw[Cq,CJ EJ];exact List.getLast_mem _
  obtain⟨z,k⟩:=E ((y::l).getLastD 0);rw[<-k]at f |-;have e:∀x∈y::l,y<=x:=λx a=>by
   rcases Ax.1 a with h|h
   .omega
   exact(D7.1 c).1 x h
  have g:∀x∈y::l,x<=z:=λx a=>by rw[k];exact Yc c a
  have n:=i y EJ;have o:=i z f;have p:=e z f;have j:K8 y z=if y=z then 0 else 4294967296-(z-y):=by unfold K8;split<;>omega
  simp only[Kd];split
  .rename_i b;rw[j]at b |-;split at b
   .omega
   rename_i m;rw[AC m];exact Yp y z _ U U l _ _ y c (λx a=>⟨e x a,g x a⟩)
  rename_i b;rw[j]at b;split at b
  .rename_i q;exact Yp y z 0 U U l _ _ y c (λx a=>⟨e x a,g x a⟩)
  omega
end Y
end Go.Proofs.YtodmdkhdbfbfgaaGreatDoor
