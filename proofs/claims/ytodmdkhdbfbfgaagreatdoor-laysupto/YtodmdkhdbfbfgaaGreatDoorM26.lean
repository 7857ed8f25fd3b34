/- Lemmas. -/
import Derived.Test.YtodmdkhdbfbfgaaGreatDoorM25
set_option linter.unusedVariables false
set_option linter.unusedSimpArgs false
set_option maxRecDepth 100000
set_option maxHeartbeats 8000000
open Go.Proofs.Tryz
namespace Go.Proofs.YtodmdkhdbfbfgaaGreatDoor
open Go.RowKit Go.Nt
def Jz(l:List It)(q:Bs):Int:=match at? l q with
 | none=>4
 | some x=>if x.dir then 0 else 6
def Gd(l:List It):Nat->Bs->Int
 | 0,_=>0
 | n+1,p=>if par p=[]then 0 else if Gd l n (par p)=6 then 6 else Jz l (par p)
theorem TD:∀p:Bs,p≠[]->(par p).length<p.length
 | [],h=>absurd rfl h
 | c :: cs,_=>by
   unfold par
   split
   ·rename_i h;have hne:cs≠[]:=λe=>by rw[e]at h;cases h
    have:=TD cs hne
    simp only[AY];omega
   simp
theorem Vt(l:List It):∀n p,Gd l n p=0\/Gd l n p=4\/Gd l n p=6
 | 0,_=>.inl rfl
 | n+1,p=>by
   unfold Gd Jz
   repeat' split
   all_goals simp
theorem Tr(l:List It)(q:Bs):(Gm l q = -1/\at? l q=none)\/∃k x,Gm l q=(k:Nat)/\l[k]? = some x/\at? l q=some x:=by
 rcases Tj l q with⟨h1,h2⟩ | ⟨k,x,h1,h2,h3,h4⟩
 ·exact .inl ⟨h1,by unfold at?;rw[List.find?_eq_none];intro y hy;simpa using h2 y hy⟩
 refine .inr ⟨k,x,h1,h2,?_⟩;unfold at?;have hk:k<l.length:=(AP.1 h2).1;rw[List.find?_eq_some_iff_getElem];refine⟨by simpa using h3,k,hk,(AP.1 h2).2,λj hj => ?_⟩
 have:=h4 j l[j] hj (AD (by omega))
 simpa using this
theorem Yh(a:Option Addr)(c:Nat)(l:List It)(w:D7)(hl:Dz w a l)(hn:l.length<=1048576):∀(n:Nat) (p:Bs),p.length<=n->p.length<=1048576 ->
 Calls prog 158 #[.slice a l.length c,.string (D9 p)] w λe w'=>e=.returned (.int .i64 (Gd l (n+1) p))/\w'=w:=by
 intro n
 induction n with
 | zero =>
   intro p hp _;have a9:p=[]:=BN.1 (by omega);subst a9;have A:=Jy (Ti [] w (by simp));obtain⟨L,hL⟩:=Jq l.length;rw[<-hL];have e0:(D9 []).toList=[]:=LC [];have e1:Gd l (0+1) []=0:=rfl;rw[e1];clear hl hn hL;go_enter func158,ntmps158
   go_wp2_with fail;refine Jj A.o ?_;clear A;have e2:(D9 (par []))=⟨#[]⟩:=rfl;rw[e2];go_wp2_with fail;go_ret
   exact⟨rfl,rfl⟩
 | succ n ih =>
   intro p hp a6;have A:=Jy (Ti p w a6);obtain⟨q,hq⟩:=Jq (par p);have a5:q.length<=n:=by
    rw[hq];by_cases e:p=[]
    ·subst e;exact AU _
    have:=TD p e;omega
   have aa:q.length<=p.length:=by
    rw[hq];by_cases e:p=[]
    ·subst e;exact AU _
    have:=TD p e;omega
   have B:=Jy (ih q a5 (by omega));have C:=Jy (O9 a c l q w hl hn);have a3:=Tr l q;have e1:Gd l (n+1+1) p=if q=[]then 0 else if Gd l (n+1) q=6 then 6 else Jz l q:=by rw[Gd,hq]
   have a1:=Vt l (n+1) q;obtain⟨ie,a2⟩:=Jq (Gd l (n+1) q);rw[<-a2]at B e1 a1;rw[<-hq]at A;rw[e1];obtain⟨X,hX⟩:=Jq (D9 q);have a7:X.toList=q:=by rw[hX];exact LC q
   rw[<-hX]at A B C;have Hl:=Jy hl;obtain⟨L,hL⟩:=Jq l.length;have HL:=Jy hL;rw[<-hL]at B C hn ⊢;obtain⟨fi,a4⟩:=Jq (Gm l q);rw[<-a4]at C a3;have Hq:Hid (X.toList=q):=Jy a7;clear hl hL ih hX a7 a2 hq hp a6 a5 aa a4 e1;go_enter func158,ntmps158
   go_wp2_with fail;refine Jj A.o ?_;clear A;by_cases h0:q=[]
   ·have e0:(X.toList==[])=true:=by rw[Hq.o,h0];rfl
    go_wp2_with fail;go_ret
    exact⟨by simp[h0],rfl⟩
   have e0:(X.toList==[])=false:=by rw[Hq.o];simpa using h0
   go_wp2_with fail;refine Jj B.o ?_;clear B;rcases a1 with rfl | rfl | rfl
   case' inr.inr =>
    go_wp2_with fail;go_ret
    exact⟨by simp[h0],rfl⟩
   all_goals
    go_wp2_with fail;refine Jj C.o ?_;rcases a3 with⟨rfl,hat⟩ | ⟨k,x,rfl,hk,hat⟩
    ·go_wp2_with fail;go_ret
     exact⟨by unfold Jz;rw[hat];simp[h0],rfl⟩
    have ae:k<L:=by have:=(AP.1 hk).1;rw[HL.o];exact this
    obtain⟨b,off,rfl,hc⟩:=Hl.o (λh=>by rw[h]at hk;simp at hk);obtain⟨_,x1,_,_,_⟩:=hc k x hk;have ac:(k:Int)<(L:Nat):=by omega
    have ad:(0:Int)<=(k:Int):=by omega
    have a8:=Jy hat;obtain⟨d,hd⟩:=Jq x.dir;rw[<-hd]at x1;have Hd:=Jy hd;clear hc hk hat hd;cases d with
    | true =>
      go_wp2_with fail;go_ret
      exact⟨by unfold Jz;rw[a8.o];simp[h0,<-Hd.o],rfl⟩
    | false =>
      go_wp2_with fail;go_ret
      exact⟨by unfold Jz;rw[a8.o];simp[h0,<-Hd.o],rfl⟩
def GQ(l:List It)(p:Bs):Int:=if Du p then(if Gd l (p.length+1) p=0 then(match at? l p with | none=>4 | some x=>if x.dir then 6 else 0)else Gd l (p.length+1) p)else 1
def JH(l:List It)(p:Bs):Bs:=if GQ l p=0 then(match at? l p with | none=>[] | some x=>x.data)else[]
theorem iG(a:Option Addr)(c:Nat)(l:List It)(p:Bs)(w:D7)(hl:Dz w a l)(hn:l.length<=1048576)(hp:p.length<=1048576) :
 Calls prog 104 #[.slice a l.length c,.string (D9 p)] w λe w'=>e=.returned (.tuple #[.string (D9 (JH l p)),.int .i64 (GQ l p)])/\Below w.heap.size w w':=by
 have A:=Jy (SG p w hp);have HB:=Jy (λW (hW:Below w.heap.size w W)=>Yh a c l W (hl.below hW) hn p.length p (AB _) hp);have HC:=Jy (λW (hW:Below w.heap.size w W)=>O9 a c l p W (hl.below hW) hn);have a8:=Tr l p;have a1:=Vt l (p.length+1) p;obtain⟨ie,a3⟩:=Jq (Gd l (p.length+1) p);rw[<-a3]at HB a1;obtain⟨ok,a5⟩:=Jq (Du p);have HE:Hid (GQ l p=if ok then(if ie=0 then(match at? l p with | none=>4 | some x=>if x.dir then 6 else 0)else ie)else 1):=Jy (by unfold GQ;rw[a3,a5]);have HD:Hid (JH l p=if GQ l p=0 then(match at? l p with | none=>[] | some x=>x.data)else[]):=Jy rfl;obtain⟨rE,aa⟩:=Jq (GQ l p);obtain⟨rD,a7⟩:=Jq (JH l p);rw[<-aa]at HE HD ⊢;rw[<-a7]at HD ⊢;rw[<-a5]at A;obtain⟨X,hX⟩:=Jq (D9 p);rw[<-hX]at A HB HC ⊢
 have Hl:=Jy hl;obtain⟨L,hL⟩:=Jq l.length;have HL:=Jy hL;rw[<-hL]at HB HC hn ⊢;obtain⟨fi,a9⟩:=Jq (Gm l p);rw[<-a9]at HC a8;clear hl hL hX a3 a5 a9 aa a7;go_enter func104,ntmps104
 go_wp2_with fail;refine A.o.mono ?_;rintro e w1 ⟨a2,v1,rfl,-⟩;have a0:=Jy a2;have B:=Jy (HB.o w1 a2);have C:=Jy (HC.o w1 a2);have ad:=Jy (Hl.o.below a2);clear a2 A HB HC;cases ok with
 | false =>
   go_wp2_with fail;go_ret2
   have e1:rE=1:=HE.o;have e2:rD=[]:=by rw[HD.o,e1];rfl
   exact⟨by rw[e1,e2];rfl,a0.o⟩
 | true =>
   go_wp2_with fail;refine Jj B.o ?_;clear B;rcases a1 with rfl | rfl | rfl
   case' inr.inl =>
    go_wp2_with fail;go_ret2
    have e1:rE=4:=HE.o;have e2:rD=[]:=by rw[HD.o,e1];rfl
    exact⟨by rw[e1,e2];rfl,a0.o⟩
   case' inr.inr =>
    go_wp2_with fail;go_ret2
    have e1:rE=6:=HE.o;have e2:rD=[]:=by rw[HD.o,e1];rfl
    exact⟨by rw[e1,e2];rfl,a0.o⟩
   go_wp2_with fail;refine Jj C.o ?_;clear C;rcases a8 with⟨rfl,hat⟩ | ⟨k,x,rfl,hk,hat⟩
   ·have e1:rE=4:=by rw[HE.o,hat];rfl
    have e2:rD=[]:=by rw[HD.o,e1];rfl
    subst e1;subst e2;clear hat HE HD;go_wp2_with fail;go_ret2
    exact⟨rfl,a0.o⟩
   have af:k<L:=by have:=(AP.1 hk).1;rw[HL.o];exact this
   obtain⟨b,off,rfl,hc⟩:=ad.o (λh=>by rw[h]at hk;simp at hk);obtain⟨_,x1,x2,_,_⟩:=hc k x hk;have ac:(k:Int)<(L:Nat):=by omega
   have ae:(0:Int)<=(k:Int):=by omega
   have a4:=Jy hat;obtain⟨d,hd⟩:=Jq x.dir;obtain⟨Y,hY⟩:=Jq (D9 x.data);rw[<-hd]at x1;rw[<-hY]at x2;have Hd:=Jy hd;have HY:=Jy hY;clear hc hk hat hd hY;cases d with
   | true =>
     go_wp2_with fail;go_ret2
     have e1:rE=6:=by rw[HE.o,a4.o];simp[<-Hd.o]
     have e2:rD=[]:=by rw[HD.o,e1];rfl
     exact⟨by rw[e1,e2];rfl,a0.o⟩
   | false =>
     go_wp2_with fail;go_ret2
     have e1:rE=0:=by rw[HE.o,a4.o];simp[<-Hd.o]
     have e2:rD=x.data:=by rw[HD.o,e1,a4.o];rfl
     exact⟨by rw[e1,e2,<-HY.o];rfl,a0.o⟩
theorem eV(l:List It)(p:Bs):∀n k,GV l p n k=0\/GV l p n k=4\/GV l p n k=6
 | 0,k=>.inl rfl
 | n+1,k=>by
   have ih:=eV l p n (k+1);unfold GV
   repeat' split
   all_goals first | exact ih | simp
theorem Sm(l:List It)(p:Bs)(n k:Nat):GV l p (n+1) k=if p.getD k 0=47 then(match at? l (p.take k)with | none=>4 | some x=>if x.dir then GV l p n (k+1)else 6)else GV l p n (k+1):=rfl
theorem oG(l:List It)(p:Bs)(k:Nat):(∀n,GV l p (n+1) k=GV l p n (k+1))\/(∀n,GV l p (n+1) k=4)\/(∀n,GV l p (n+1) k=6):=by
 by_cases h:p.getD k 0=47
 ·cases hat:at? l (p.take k)with
  | none=>exact .inr (.inl λn=>by rw[Sm,AE h,hat])
  | some x =>
    by_cases hd:x.dir=true
    ·exact .inl λn=>by rw[Sm,AE h,hat];exact AE hd
    exact .inr (.inr λn=>by rw[Sm,AE h,hat];exact AC hd)
 exact .inl λn=>by rw[Sm,AC h]
theorem Us(l:List It)(p:Bs)(m:Nat):∀n k,GV l p (n+m) k=if GV l p n k=0 then GV l p m (k+n)else GV l p n k
 | 0,k=>by simp[GV]
 | n+1,k=>by
   have ih:=Us l p m n (k+1);have e1:n+1+m=(n+m)+1:=by omega
   have e2:k+1+n=k+(n+1):=by omega
   rw[e1];rw[e2]at ih;rcases oG l p k with h | h | h
   ·rw[h,h];exact ih
   ·rw[h,h];rfl
   rw[h,h];rfl
theorem Zu(l:List It)(p q:Bs):∀n k,(∀i,k<=i->i<k+n->p.getD i 0=q.getD i 0/\p.take i=q.take i)->GV l p n k=GV l q n k
 | 0,k,_=>rfl
 | n+1,k,h=>by
   have ih:=Zu l p q n (k+1) (λi h1 h2=>h i (by omega) (by omega));obtain⟨a,b⟩:=h k (AB _) (by omega);unfold GV;rw[a,b,ih]
theorem Ui(l:List It)(p:Bs):∀n k,(∀i,k<=i->i<k+n->p.getD i 0≠47)->GV l p n k=0
 | 0,k,_=>rfl
 | n+1,k,h=>by
   unfold GV;rw[AC (h k (AB _) (by omega))];exact Ui l p n (k+1) (λi h1 h2=>h i (by omega) (by omega))
theorem ka{p:Bs}{i j:Nat}(h:i<=j):(p.take j).take i=p.take i:=by
 rw[List.take_take,Ce h]
theorem kx(l:List It)(p:Bs)(h0:p.getD 0 0≠47):(par p=[]->ER l p=0)/\(par p≠[]->(par p).getD 0 0≠47/\ER l p=if ER l (par p)=0 then Jz l (par p)else ER l (par p)):=by
 rcases WQ p with h | ⟨j,hj,h47,hlast⟩
 ·have hp:=TN h;refine⟨λ_=>Ui l p p.length 0 (λi _ h2=>h i (by omega)),λa0=>absurd hp a0⟩
 have hp:=Qe h47 hlast;have a2:j≠0:=λe=>by rw[e]at h47;exact h0 h47
 have a1:(par p).length=j:=by rw[hp,Ae];omega
 have a0:par p≠[]:=λe=>by rw[e]at a1;simp at a1;omega
 refine⟨λe=>absurd e a0,λ_=>⟨?_,?_⟩⟩
 ·rw[hp,getD_take (by omega)];exact h0
 have e1:p.length=j+(1+(p.length - j - 1)):=by omega
 have e2:GV l p j 0=ER l (par p):=by
  unfold ER;rw[a1];exact Zu l p (par p) j 0 (λi _ h2=>by
   rw[hp];exact⟨(getD_take (by omega)).symm,(ka (by omega)).symm⟩)
 have e3:GV l p (1+(p.length - j - 1)) (0+j)=Jz l (par p):=by
  rw[Us,Ao];have e4:GV l p 1 j=Jz l (par p):=by
   unfold GV Jz;rw[AE h47,<-hp];cases at? l (par p)with
   | none=>rfl
   | some x=>simp[GV]
  have e5:GV l p (p.length - j - 1) (j+1)=0:=Ui l p _ _ (λi h1 h2=>hlast i (by omega) (by omega));rw[e4,e5]
  split
  ·rename_i h;exact h.symm
  rfl
 show GV l p p.length 0=_;rw[e1,Us,e2,e3]
theorem XM{l:List It}(ht:Ev l):∀n p,p.length<=n->p.getD 0 0≠47->Gd l (n+1) p=ER l p:=by
 intro n
 induction n with
 | zero =>
   intro p hp _
   have:p=[]:=BN.1 (by omega)
   subst this;rfl
 | succ n ih =>
   intro p hp h0;obtain⟨h1,h2⟩:=kx l p h0;rw[Gd];by_cases hq:par p=[]
   ·rw[AE hq,h1 hq]
   obtain⟨h3,h4⟩:=h2 hq;have a0:(par p).length<=n:=by
    have:=TD p (λe=>by rw[e]at hq;exact hq rfl)
    omega
   rw[AC hq,ih (par p) a0 h3,h4];rcases eV l (par p) (par p).length 0 with h | h | h
   ·have h':ER l (par p)=0:=h;rw[h'];rfl
   ·have h':ER l (par p)=4:=h;rw[h'];have hn:at? l (par p)=none:=by
     cases hat:at? l (par p)with
     | none=>rfl
     | some x =>
       obtain⟨hx,a1⟩:=Ml hat
       have:=Z5 ht.ok ht.nodup hx (by rw[a1,h'];decide)
       rw[(O5 l).2 ht]at this;cases this
    simp[Jz,hn]
   have h':ER l (par p)=6:=h;rw[h'];rfl
theorem TJ{p:Bs}(h:Du p=true):p.getD 0 0≠47:=λe=>by
 cases p with
 | nil=>simp at e
 | cons c cs =>
   have hc:c=47:=by simpa using e
   subst hc;unfold Du split at h;simp[E3]at h
theorem TH{l:List It}(hn:(l.map (·.path)).Nodup)(p:Bs):at? (Eb l) p=at? l p:=by
 cases h:at? l p with
 | none =>
   rw[Ge]at h ⊢;exact λx hx=>h x (ET.1 hx)
 | some x =>
   obtain⟨hx,rfl⟩:=Ml h;exact at_mem ((((MZ l).map _).nodup_iff).2 hn) (ET.2 hx)
theorem V8{l:List It}(hn:(l.map (·.path)).Nodup)(p:Bs):∀n k,GV (Eb l) p n k=GV l p n k
 | 0,k=>rfl
 | n+1,k=>by
   unfold GV;rw[TH hn,V8 hn p n (k+1)]
theorem sS{l:List It}(ht:Ev l)(p:Bs):GQ (Eb l) p=Fu l p/\JH (Eb l) p=(Ga l p).data:=by
 have h1:GQ (Eb l) p=Fu l p:=by
  unfold GQ Fu FN GR;rw[TH ht.nodup];by_cases hk:Du p=true
  ·rw[AE hk,AE hk,XM ht.JC p.length p (AB _) (TJ hk)];have e:ER (Eb l) p=ER l p:=V8 ht.nodup p _ _;rw[e];by_cases h0:ER l p=0
   ·rw[AE h0,AE h0];cases at? l p with
    | none=>rfl
    | some x=>rfl
   rw[AC h0,AC h0,AC h0]
  rw[AC hk,AC hk];simp
 refine⟨h1,?_⟩;unfold JH Ga;rw[h1,TH ht.nodup]
 split
 ·cases at? l p with
  | none=>rfl
  | some x=>rfl
 rfl
def Gy(l:List It)(p:Bs):Int:=if p=[]then 0 else if Du p then(if Gd l (p.length+1) p=0 then(match at? l p with | none=>4 | some x=>if x.dir then 0 else 6)else Gd l (p.length+1) p)else 1
def Ih(q:Bs):Bs:=(split q).getLast?.getD []
def E1(l:List It)(p:Bs):List Bs:=(l.filter λx=>decide (par x.path=p)).map λx=>Ih x.path
def QV(l:List It)(p:Bs)(w:D7)(e:Ending)(w':D7):Prop:=
 Below w.heap.size w w'/\((Gy l p≠0/\e=.returned (.tuple #[.slice none 0 0,.int .i64 (Gy l p)]))\/(Gy l p=0/\∃v,e=.returned (.tuple #[v,.int .i64 0])/\w'.ownsRow w.heap.size 9 1 v (E1 l p).length (J8 (E1 l p))))
theorem XN(l:List It)(x:It)(p:Bs):E1 (l++[x]) p=if par x.path=p then E1 l p++[Ih x.path]else E1 l p:=by
 unfold E1;rw[Cu];by_cases h:par x.path=p
 ·rw[AE h,List.filter_cons_of_pos (by simpa using h)];simp
 rw[AC h,List.filter_cons_of_neg (by simpa using h)];simp
theorem oO(l:List It)(p:Bs):(E1 l p).length<=l.length:=by
 unfold E1;rw[Bn];exact DO _ _
theorem eZ:∀p:Bs,(split p).length<=p.length+1
 | []=>by simp[split]
 | c :: cs=>by
   have ih:=eZ cs;unfold split
   split
   ·simp;omega
   split
   ·simp
   rename_i n ns h;rw[h]at ih;simp at ih ⊢;omega
theorem ri(a:Option Addr)(c:Nat)(l:List It)(p:Bs)(w:D7)(hl:Dz w a l)(hn:l.length<=1000)(hp:p.length<=1048576)(hok:∀x∈l,Du x.path=true/\x.path.length<=1048576) :
 Calls prog 105 #[.slice a l.length c,.string (D9 p)] w λe w'=>QV l p w e w':=by
 obtain⟨i0,hi,aK,aR,aJ⟩:=Ai JK;have A:=Jy (SG p w hp);have HB:=Jy (λW (hW:Below w.heap.size w W)=>Yh a c l W (hl.below hW) (by omega) p.length p (AB _) hp);have HC:=Jy (λW (hW:Below w.heap.size w W)=>O9 a c l p W (hl.below hW) (by omega));have av:=Tr l p;have a4:=Vt l (p.length+1) p;obtain⟨ie,au⟩:=Jq (Gd l (p.length+1) p);rw[<-au]at HB a4;obtain⟨ok,a6⟩:=Jq (Du p);have HE:Hid (Gy l p=if p=[]then 0 else if ok then(if ie=0 then(match at? l p with | none=>4 | some x=>if x.dir then 0 else 6)else ie)else 1):=Jy (by unfold Gy;rw[au,a6]);unfold QV;obtain⟨rE,aC⟩:=Jq (Gy l p);rw[<-aC]at HE ⊢;rw[<-a6]at A;obtain⟨X,hX⟩:=Jq (D9 p);have HX:Hid (X.toList=p):=Jy (by rw[hX];exact LC p);rw[<-hX]at A HB HC ⊢;have Hl:=Jy hl
 have aT:=Jy hok;obtain⟨L,hL⟩:=Jq l.length;have HL:=Jy hL;rw[<-hL]at HB HC hn ⊢;obtain⟨fi,aE⟩:=Jq (Gm l p);rw[<-aE]at HC av;obtain⟨z,hz⟩:=Jq w.heap.size;rw[<-hz]at A HB HC ⊢;have Hz:=Jy hz;clear hl hL hX au a6 aE aC hok hz;go_enter func105,ntmps105
 by_cases h0:p=[]
 case' pos =>
  have e0:(X.toList==[])=true:=by rw[HX.o,h0];rfl
  have aI:X.toList.isEmpty=true:=by rw[HX.o,h0];rfl
  have aA:Hid (rE=0):=Jy (by rw[HE.o,AE h0]);have Hb:Hid (Below z w w):=Jy (AM _ _);clear A HB HC av a4 HE h0;go_wp2_with fail
 case' neg =>
  have e0:(X.toList==[])=false:=by rw[HX.o];simpa using h0
  have aI:X.toList.isEmpty=false:=by rw[HX.o];simpa using h0
  have a0:Hid (rE=if ok then(if ie=0 then(match at? l p with | none=>4 | some x=>if x.dir then 0 else 6)else ie)else 1):=Jy (by rw[HE.o,AC h0]);clear HE h0;go_wp2_with fail;refine A.o.mono ?_;rintro e W ⟨ac,v1,rfl,-⟩;have Hb:=Jy ac;have B:=Jy (HB.o W ac);have C:=Jy (HC.o W ac);have af:Hid (Dz W a l):=Jy (Hl.o.below (by rw[<-Hz.o];exact ac));clear ac A HB HC;cases ok
  case' false =>
   have e1:rE=1:=a0.o;subst e1;clear a0;go_wp2_with fail;go_ret2
   exact⟨Hb.o,.inl ⟨by decide,rfl⟩⟩
  case' true =>
   go_wp2_with fail;refine Jj B.o ?_;clear B;rcases a4 with rfl | rfl | rfl
   case' inr.inl =>
    have e1:rE=4:=a0.o;subst e1;clear a0;go_wp2_with fail;go_ret2
    exact⟨Hb.o,.inl ⟨by decide,rfl⟩⟩
   case' inr.inr =>
    have e1:rE=6:=a0.o;subst e1;clear a0;go_wp2_with fail;go_ret2
    exact⟨Hb.o,.inl ⟨by decide,rfl⟩⟩
   go_wp2_with fail;refine Jj C.o ?_;clear C;rcases av with⟨rfl,hat⟩ | ⟨k,x,rfl,hk,hat⟩
   ·have e1:rE=4:=by rw[a0.o,hat];rfl
    subst e1;clear hat a0;go_wp2_with fail;go_ret2
    exact⟨Hb.o,.inl ⟨by decide,rfl⟩⟩
   have aB:k<L:=by have:=(AP.1 hk).1;rw[HL.o];exact this
   obtain⟨b,off,ae,hc⟩:=af.o (λh=>by rw[h]at hk;simp at hk);subst ae;obtain⟨_,x1,_,_,_⟩:=hc k x hk;have aU:(k:Int)<(L:Nat):=by omega
   have aP:(0:Int)<=(k:Int):=by omega
   have ax:=Jy hat;obtain⟨d,hd⟩:=Jq x.dir;rw[<-hd]at x1;have Hd:=Jy hd;clear hc hk hat hd;cases d
   case' false =>
    have e1:rE=6:=by rw[a0.o,ax.o];simp[<-Hd.o]
    subst e1;clear a0;go_wp2_with fail;go_ret2
    exact⟨Hb.o,.inl ⟨by decide,rfl⟩⟩
   case' true =>
    have aA:Hid (rE=0):=Jy (by rw[a0.o,ax.o];simp[<-Hd.o]);clear a0 ax Hd;go_wp2_with fail
 all_goals
  go_loopw [10,11] (λv0 i wr=>∃k:Nat,k<=L/\i=.int .i64 k/\∃v,v=v0/\Hid (wr.ownsRow z 9 1 v (E1 (l.take k) p).length (J8 (E1 (l.take k) p)))/\Hid (Below z w wr)) (λ_ i _=>L - (intOf i).toNat)
  case atStart=>exact⟨0,by omega,rfl,_,rfl,Jy (by simpa[E1,J8]using AZ _ z 9 1),Hb⟩
  case round =>
   clear Hb;obtain⟨k,hk,rfl,v,rfl,HO,HB⟩:=hrel;have aH:z<=wr.heap.size:=by rw[Hz.o];exact HB.o.size
   by_cases aW:k<L
   ·have ao:(k:Int)<(L:Nat):=by omega
    have aP:(0:Int)<=(k:Int):=by omega
    have aB:k<l.length:=by have:=HL.o;omega
    obtain⟨x,hx⟩:∃x,l[k]? = some x:=⟨_,AD aB⟩;have az:=Ab hx;obtain⟨ho,aD⟩:=aT.o x az;have af:Dz wr _ l:=Hl.o.below (by rw[<-Hz.o];exact HB.o);obtain⟨gb,go,ae,hc⟩:=af (λh=>by rw[h]at hx;simp at hx);obtain⟨y0,_,_,_,_⟩:=hc k x hx;have HT:Hid (l.take (k+1)=l.take k++[x]):=Jy (by rw[Ah,hx];rfl);have aG:=oO (l.take k) p;have am:(E1 (l.take k) p).length<=1000:=by rw[Ae]at aG;omega
    have aN:gb<z:=by
     obtain⟨b0,aZ,a7,aS⟩:=Hl.o (λh=>by rw[h]at hx;simp at hx);rw[ae]at a7;cases a7
     rw[Hz.o];exact Aj w _ (aS k x hx).1
    obtain⟨Y,hY⟩:=Jq (D9 x.path);rw[<-hY]at y0;have P:=Jy (Ti x.path wr aD);have Nn:=Jy (SG x.path wr aD);rw[ho,<-hY]at Nn;rw[<-hY]at P;obtain⟨q,hq⟩:=Jq (par x.path);rw[<-hq]at P;obtain⟨Zq,an⟩:=Jq (D9 q);rw[<-an]at P;have aa:(Zq.toList==X.toList)=decide (q=p):=by rw[an,HX.o,LC];rw[Bool.eq_iff_iff];simp
    have Hq:=Jy hq;cases ae
    clear hc hx az hY hq an af aG ho;by_cases ad:q=p
    ·have hd:decide (q=p)=true:=by simpa using ad
     rw[hd]at aa;go_wp2_with fail;refine Jj P.o ?_;clear P;go_wp2_with fail;refine Nn.o.mono ?_;rintro e w2 ⟨ag,v2,rfl,a2⟩;have a1:=a2 trivial;obtain⟨m,hm⟩:∃m,(split x.path).length=m+1:=⟨(split x.path).length - 1,by have:=Bt.2 (S9 x.path);omega⟩;rw[hm]at a1;obtain⟨g2,aM,rfl⟩:=PZ a1;obtain⟨S,hS⟩:=Jq (D9 (Ih x.path));have aY:w2.cell? ⟨g2,m,none⟩=some (.string S):=by
      rw[a1.cellAt m (by omega),hS];unfold J8 Ih;rw[BQ,List.getLast?_eq_getElem?,hm];have aV:m<(split x.path).length:=by omega
      rw[show m+1 - 1=m by omega,AD aV];rfl
     have ay:w2.ownsRow z 9 1 v (E1 (l.take k) p).length (J8 (E1 (l.take k) p)):=own_below HO.o ag (λq hq=>(HO.o.lt q hq).2);have a9:Below z w w2:=HB.o.trans (ag.mono aH);have ar:z<=w2.heap.size:=by have:=ag.size;omega
     obtain⟨rn,aw⟩:=Jq (E1 (l.take k) p);rw[<-aw]at ay am;have aO:=Jy aw;have aj:=Jy ay;have ah:=Jy a9;have HS:=Jy hS;have i1:(((m+1:Nat):Nat):Int) - 1=(m:Nat):=by omega
     have i2:IntKind.i64.wrap (m:Int)=(m:Nat):=by
      rw[Av]
      have:=ah.o
      have h9:m<=1048576:=by
       have aX:=eZ x.path;omega
      omega
     clear ag a2 a1 ay a9 HO HB Nn aw hS hm;go_wp2_with (at_builtin;refine Ar _ rfl _ _ 40 rfl z 9 i0 (.string ByteArray.empty) 1 16 underlying40 hi aK aR aJ rfl (by decide) _ _ _ rfl (aj.o.alloc _) ⟨w2.heap.size,0,none⟩ 1 1 [.string S] rfl rfl ?c1 ?c2 ?c3 ?c4 ?c5 ?_)
     case c1=>exact Bg _ _ _
     case c2=>intro u hu;simp at hu;subst hu;rfl
     case c3=>unfold maxLen;omega
     case c4=>omega
     case c5=>simp;omega
     intro v3 w3 a3 aF a8;have aL:Hid (w3.ownsRow z 9 1 v3 (E1 (l.take (k+1)) p).length (J8 (E1 (l.take (k+1)) p))):=Jy (by
      rw[HT.o,XN,AE (by rw[<-Hq.o];exact ad),<-aO.o,AN]
      have:J8 (rn++[Ih x.path])=J8 rn++[.string S]:=by rw[HS.o];simp[J8]
      rw[this];exact a3)
     have aQ:Hid (Below z w w3):=Jy ((ah.o.alloc ar _).grown aF (by simp;omega) (λr hr=>(aj.o.lt r hr).1));clear a3 aF a8 aj ah;go_wp2_with fail;go_roundw
     case rel=>exact⟨k+1,by omega,by go_num,v3,rfl,aL,aQ⟩
     case measure=>simp[intOf];omega
    have hd:decide (q=p)=false:=by simpa using ad
    rw[hd]at aa;have ai:Hid (wr.ownsRow z 9 1 v (E1 (l.take (k+1)) p).length (J8 (E1 (l.take (k+1)) p))):=Jy (by
     rw[HT.o,XN,AC (by rw[<-Hq.o];exact ad)];exact HO.o)
    go_wp2_with fail;refine Jj P.o ?_;clear P;go_wp2_with fail;go_roundw
    case rel=>exact⟨k+1,by omega,by go_num,v,rfl,ai,HB⟩
    case measure=>simp[intOf];omega
   have ao:¬(k:Int)<(L:Nat):=by omega
   have ai:Hid (wr.ownsRow z 9 1 v (E1 l p).length (J8 (E1 l p))):=Jy (by
    have h:=HO.o;rw[AT (by have:=HL.o;omega)]at h;exact h)
   clear HO;go_wp2_with fail;go_ret2
   exact⟨HB.o,.inr ⟨aA.o,v,rfl,ai.o⟩⟩
theorem ZS:∀q:Bs,q.contains 47=false->split q=[q]
 | [],_=>rfl
 | c :: cs,h=>by
   have hc:c≠47/\cs.contains 47=false:=by
    simp at h ⊢;exact⟨λe=>h.1 e.symm,h.2⟩
   unfold split;rw[AC hc.1,ZS cs hc.2]
theorem ZE:∀q:Bs,Ih q=nm q
 | []=>rfl
 | c :: cs=>by
   have ih:=ZE cs;by_cases h:cs.contains 47=true
   ·have e:nm (c :: cs)=nm cs:=by rw[nm,AE h]
    rw[e,<-ih];have a2:∃a b t,split cs=a :: b :: t:=by
     have:∀q:Bs,q.contains 47=true->∃a b t,split q=a :: b :: t:=by
      intro q
      induction q with
      | nil=>intro h;simp at h
      | cons d ds ihd =>
        intro hd;unfold split;by_cases a0:d=47
        ·rw[AE a0];cases a1:split ds with
         | nil=>exact absurd a1 (S9 ds)
         | cons a t=>exact⟨[],a,t,rfl⟩
        rw[AC a0];have a1:ds.contains 47=true:=by
         simp at hd ⊢;rcases hd with hd | hd
         ·exact absurd hd.symm a0
         exact hd
        obtain⟨a,b,t,e⟩:=ihd a1;rw[e];exact⟨d :: a,b,t,rfl⟩
     exact this cs h
    obtain⟨a,b,t,e⟩:=a2;unfold Ih;rw[split,e];by_cases hc:c=47
    ·rw[AE hc];simp
    rw[AC hc];simp
   have h':cs.contains 47=false:=by simpa using h
   have e:nm (c :: cs)=if c=47 then cs else c :: cs:=by rw[nm,AC h]
   rw[e];unfold Ih;rw[split,ZS cs h'];by_cases hc:c=47
   ·rw[AE hc,AE hc];rfl
   rw[AC hc,AC hc];rfl
theorem Uy:∀q:Bs,(nm q).contains 47=false
 | []=>rfl
 | c :: cs=>by
   unfold nm
   split
   ·exact Uy cs
   rename_i h
   split
   ·simpa using h
   rename_i hc;simp at h ⊢;exact⟨λe=>hc e.symm,h⟩
theorem S3:∀q:Bs,q.contains 47=true->q=par q++47 :: nm q
 | [],h=>by simp at h
 | c :: cs,h=>by
   by_cases hcs:cs.contains 47=true
   ·unfold par nm;rw[AE hcs,AE hcs,BR,<-S3 cs hcs]
   have hc:c=47:=by
    simp at h hcs;rcases h with h | h
    ·exact h.symm
    exact absurd h hcs
   unfold par nm;rw[AC hcs,AC hcs,AE hc,hc];rfl
theorem Yx(a b:Bs):∀p:Bs,less (p++a) (p++b)=less a b
 | []=>rfl
 | c :: p=>by simp[less,Yx a b p]
theorem U8:∀a b:Bs,a.contains 47=false->b.contains 47=false->less a b=true->a<=b
 | [],b,_,_,_=>List.nil_le b
 | a :: xs,[],_,_,h=>by simp[less]at h
 | a :: xs,b :: ys,ha,hb,h=>by
   have ha':a≠47/\xs.contains 47=false:=by simp at ha ⊢;exact⟨λe=>ha.1 e.symm,ha.2⟩
   have a0:b≠47/\ys.contains 47=false:=by simp at hb ⊢;exact⟨λe=>hb.1 e.symm,hb.2⟩
   unfold less at h;by_cases e:a=b
   ·rw[AE e]at h;subst e;exact List.cons_le_cons_iff.2 (.inr ⟨rfl,U8 xs ys ha'.2 a0.2 h⟩)
   rw[AC e]at h;have hk:key a<key b:=by simpa using h
   have a1:a<b:=by
    unfold key at hk;rw[AC ha'.1,AC a0.1]at hk;exact UInt8.lt_iff_toNat_lt.2 (by omega)
   exact List.le_of_lt (List.Lex.rel a1)
theorem Ys{q:Bs}(h0:q.getD 0 0≠47)(h:par q=[]):q.contains 47=false:=by
 cases hc:q.contains 47 with
 | false=>rfl
 | true =>
   have:=S3 q hc
   rw[h]at this;rw[this]at h0;exact absurd rfl h0
theorem jC{x y p:Bs}(hx:x.getD 0 0≠47)(hy:y.getD 0 0≠47)(h1:par x=p)(h2:par y=p)(h:less x y=true):nm x<=nm y:=by
 by_cases hp:p=[]
 ·have a1:=Ys hx (h1.trans hp);have a0:=Ys hy (h2.trans hp);have ex:nm x=x:=WY (λi hi e=>by
   have:x.contains 47=true:=by
    simp only[Bu];rw[AI,AD hi]at e;simp at e;rw[<-e];exact Bp hi
   rw[a1]at this;cases this)
  have ey:nm y=y:=WY (λi hi e=>by
   have:y.contains 47=true:=by
    simp only[Bu];rw[AI,AD hi]at e;simp at e;rw[<-e];exact Bp hi
   rw[a0]at this;cases this)
  rw[ex,ey];exact U8 x y a1 a0 h
 have hc:∀z:Bs,par z=p->z.contains 47=true:=λz hz=>by
  cases e:z.contains 47 with
  | true=>rfl
  | false =>
    have:par z=[]:=by
     cases z with
     | nil=>rfl
     | cons c cs =>
       unfold par
       have:cs.contains 47=false:=by simp at e ⊢;exact e.2
       rw[this];rfl
    exact absurd (hz.symm.trans this) hp
 have ex:=S3 x (hc x h1);have ey:=S3 y (hc y h2);rw[h1]at ex;rw[h2]at ey;rw[ex,ey,Yx]at h
 have:less (nm x) (nm y)=true:=by simpa[less]using h
 exact U8 _ _ (Uy x) (Uy y) this
theorem YN{x:It}(h:EL x=true):Du x.path=true:=by
 unfold EL at h;simp only[Af]at h;exact h.1.1.1.1.1.1
theorem ZB{l:List It}(ht:Ev l)(p:Bs):Gy (Eb l) p=GB l p/\E1 (Eb l) p=GJ l p:=by
 constructor
 ·unfold Gy GB;by_cases hp:p=[]
  ·rw[AE hp,AE hp]
  rw[AC hp,AC hp];unfold GI FN GR;rw[TH ht.nodup];by_cases hk:Du p=true
  ·rw[AE hk,AE hk,XM ht.JC p.length p (AB _) (TJ hk)];have e:ER (Eb l) p=ER l p:=V8 ht.nodup p _ _;rw[e];by_cases h0:ER l p=0
   ·rw[AE h0,AE h0];cases at? l p with
    | none=>rfl
    | some x=>rfl
   rw[AC h0,AC h0,AC h0]
  rw[AC hk,AC hk];simp
 unfold E1 GJ;have e1:((Eb l).filter λx=>decide (par x.path=p)).map (λx=>Ih x.path)=((Eb l).filter λx=>decide (par x.path=p)).map (λx=>nm x.path):=BU (λx _=>ZE x.path);rw[e1];obtain⟨Y,hY⟩:=Jq (((Eb l).filter λx=>decide (par x.path=p)).map (λx=>nm x.path));have a1:Y.Perm (((l.map (·.path)).filter λq=>decide (par q=p)).map nm):=by
  rw[hY,List.filter_map,Ch];exact((MZ l).filter _).map _
 have a0:Y.Pairwise (λx y=>x<=y):=by
  rw[hY];refine CT.2 ?_;have ho:(Eb l).Pairwise (λx y=>less x.path y.path=true):=il l ht.nodup;refine(ho.filter _).imp_of_mem (λ{x y} hx hy hxy => ?_);have a3:=BC.1 hx;have a2:=BC.1 hy;have a5:=ht.ok x (ET.1 a3.1);have a4:=ht.ok y (ET.1 a2.1);exact jC (TJ (YN a5)) (TJ (YN a4)) (by simpa using a3.2) (by simpa using a2.2) hxy
 rw[<-hY,<-Tk a1];unfold KU;refine(List.mergeSort_of_pairwise (a0.imp (λh=>by simpa using h))).symm
theorem pA(w:D7)(fb cb lb tb:Nat)(l:List It)(p:Bs)(h:Ja w fb cb lb tb)(hT:Dk w tb l)(ht:Ev l)(hml:ML w)(hp:p.length<=1048576) :
 Calls prog 15 #[.pointer (some ⟨fb,0,none⟩),.string (D9 p)] w λe w'=>Ij l p w e w':=by
 have c2:=h.c2;have A:=Jy (iE tb l p w hT ht hml hp);obtain⟨X,hX⟩:=Jq (D9 p);obtain⟨E,hE⟩:=Jq (GB l p);unfold Ij at A ⊢;rw[<-hX,<-hE]at A;rw[<-hX,<-hE];clear h hT hml hX hE;go_enter func15,ntmps15
 go_wp2_with fail;refine A.o.mono ?_;rintro e W1 ⟨hb,⟨a2,rfl⟩ | ⟨h0,v,rfl,a0⟩⟩
 ·have Hb:=Jy hb;have a3:=Jy a2;clear hb a2;go_wp2_with fail;go_ret2
  exact⟨Hb.o,.inl ⟨a3.o,rfl⟩⟩
 have Hb:=Jy hb;have H0:=Jy h0;have a1:=Jy a0;obtain⟨a,c,rfl⟩:=VL a0;clear hb h0 a0;go_wp2_with fail;go_ret2
 exact⟨Hb.o,.inr ⟨H0.o,_,rfl,a1.o⟩⟩
variable {w w' W:D7} {B n sb:Nat} {a:Option Addr} {R R':Nat->Prop} {x:Sl} {u:Bs->Option Bs} {s:Sv} {e:Ending}
structure Sd where
 lo:Nat
 hi:Nat
 L:S1.Loc
 m:S1.M
 tl:List It
 ms:List (Sl × List It)
 es:List Sl
 ts:List Sl
 j:Nat
 k:Nat
def ob(x:Sl):Option Nat:=(Value.slice x.1 x.2.1 x.2.2).ownBlock
def Mu(sb:Nat)(s:Sv)(d:Sd)(k:Nat):Prop:=k=sb\/(d.lo<=k/\k<d.hi)\/ob s.lists=some k\/ob s.texts=some k
def PD(R:Nat->Prop)(a:Option Addr)(n:Nat):Prop:=∀b off,a=some ⟨b,off,none⟩->0<n->R b
structure ED (u:Bs->Option Bs) (w:D7) (sb:Nat) (R:Nat->Prop) (s:Sv) (d:Sd) (n:Nat):Prop where
 side:Dh w sb s
 E2:S1.CP w d.lo d.hi s.c d.L d.m
 wf:S1.WF d.m
 hi:d.hi<=w.heap.size
 lo:0<d.lo
 fs:∀fb,s.f=some fb->Ev d.tl/\(∃cb lb tb,Ja w fb cb lb tb/\Dk w tb d.tl/\R fb/\R tb)/\s.now.2.1=d.tl.length/\Dz w s.now.1 (Eb d.tl)/\PD R s.now.1 d.tl.length
 may:JJ w s.may d.ms
 FV:(∀k,ob s.may=some k->R k)/\∀y∈d.ms,PD R y.1.1 y.2.length
 li:LQ w R s.lists d.es
 tx:LM w R s.texts d.ts
 lj:d.es.length=4*d.j/\d.j<=n
 tk:d.ts.length=4*d.k/\d.k<=n
 mn:d.ms.length<=n+1
 mu:∀k,Mu sb s d k->¬R k/\k<w.heap.size
 ap:¬(d.lo<=sb/\sb<d.hi)/\(∀k,ob s.lists=some k->¬(d.lo<=k/\k<d.hi))/\(∀k,ob s.texts=some k->¬(d.lo<=k/\k<d.hi))
 En:s.En<=S1.Dt d.m
 K3:s.Fi=false->S1.Lj d.m
 Fi:s.Fi=true->s.free=true/\s.FF=true
 find:s.FF=false->∃y∈d.ms,Finds u d.m y.2
 rl:∀k,R k->k<w.heap.size
theorem Dj.of_block{m:Int}(h:Dj w B m a n)(hb:∀k,a=some ⟨k,0,none⟩->0<n->w'.heap[k]? = w.heap[k]?):Dj w' B m a n:=λh0=>by
 obtain⟨g,cur,e,h1,h2,h3⟩:=h h0;exact⟨g,cur,e,h1,(hb g e h0).trans h2,h3⟩
theorem S1.Dj.of_block{m:Value}(h:S1.Dj w B m a n)(hb:∀k,a=some ⟨k,0,none⟩->0<n->w'.heap[k]? = w.heap[k]?):S1.Dj w' B m a n:=λh0=>by
 obtain⟨g,cur,e,h1,h2,h3⟩:=h h0;exact⟨g,cur,e,h1,(hb g e h0).trans h2,h3⟩
theorem LQ.keep{es:List Sl}(h:LQ w R x es)(hb:∀k,(ob x=some k\/R k)->w'.heap[k]? = w.heap[k]?):LQ w' R x es:=
 ⟨NV h.1 (λg hg=>hb g (.inl hg)),λi e he=>by
  obtain⟨h1,h2,h3⟩:=h.2 i e he;exact⟨h1,h2.of_block (λk hk h0=>hb k (.inr (h3 k hk h0))),h3⟩⟩
theorem LM.keep{es:List Sl}(h:LM w R x es)(hb:∀k,(ob x=some k\/R k)->w'.heap[k]? = w.heap[k]?):LM w' R x es:=
 ⟨NV h.1 (λg hg=>hb g (.inl hg)),λi e he=>by
  obtain⟨h1,h2,h3⟩:=h.2 i e he;exact⟨h1,h2.of_block (λk hk h0=>hb k (.inr (h3 k hk h0))),h3⟩⟩
theorem LQ.grow{es:List Sl}(h:LQ w R x es)(hR:∀k,R k->R' k):LQ w R' x es:=⟨h.1,λi e he=>by
 obtain⟨h1,h2,h3⟩:=h.2 i e he;exact⟨h1,h2,λk hk h0=>hR k (h3 k hk h0)⟩⟩
theorem LM.grow{es:List Sl}(h:LM w R x es)(hR:∀k,R k->R' k):LM w R' x es:=⟨h.1,λi e he=>by
 obtain⟨h1,h2,h3⟩:=h.2 i e he;exact⟨h1,h2,λk hk h0=>hR k (h3 k hk h0)⟩⟩
theorem Dz.NH{l:List It}(h:Dz w a l)(hR:PD R a l.length)(hb:∀k,R k->w'.heap[k]? = w.heap[k]?):Dz w' a l:=
 h.only λb off e hn=>hb b (hR b off e (Bt.2 hn))
theorem JJ.keep{ms:List (Sl × List It)}(h:JJ w x ms)(h1:∀k,ob x=some k->R k)(h2:∀y∈ms,PD R y.1.1 y.2.length)(hb:∀k,R k->w'.heap[k]? = w.heap[k]?):JJ w' x ms:=
 ⟨NV h.1 (λg hg=>hb g (h1 g hg)),λy hy=>by
  obtain⟨a1,a2,a3⟩:=h.2 y hy;exact⟨a1,a2,a3.NH (h2 y hy) hb⟩⟩
theorem ED.keep{d:Sd}(h:ED u w sb R s d n)(hz:w.heap.size<=w'.heap.size)(hb:∀k,(Mu sb s d k\/R k)->w'.heap[k]? = w.heap[k]?):ED u w' sb R s d n where
 side:=h.side.of_block (hb sb (.inl (.inl rfl)))
 E2:=S1.Db.Dn h.E2 (λk h1 h2=>hb k (.inl (.inr (.inl ⟨h1,h2⟩))))
 wf:=h.wf
 hi:=AF h.hi hz
 lo:=h.lo
 fs:=λfb hf=>by
  obtain⟨a1,⟨cb,lb,tb,b1,b2,b3,b4⟩,a2,a3,a4⟩:=h.fs fb hf;exact⟨a1,⟨cb,lb,tb,(hb fb (.inr b3)).trans b1,b2.of_block (hb tb (.inr b4)),b3,b4⟩,a2,a3.NH (by rw[KC];exact a4) (λk hk=>hb k (.inr hk)),a4⟩
 may:=h.may.keep h.FV.1 h.FV.2 (λk hk=>hb k (.inr hk))
 FV:=h.FV
 li:=h.li.keep (λk hk=>hb k (hk.imp (λe=>.inr (.inr (.inl e))) id))
 tx:=h.tx.keep (λk hk=>hb k (hk.imp (λe=>.inr (.inr (.inr e))) id))
 lj:=h.lj
 tk:=h.tk
 mn:=h.mn
 mu:=λk hk=>⟨(h.mu k hk).1,AR (h.mu k hk).2 hz⟩
 ap:=h.ap
 En:=h.En
 K3:=h.K3
 Fi:=h.Fi
 find:=h.find
 rl:=λk hk=>AR (h.rl k hk) hz
theorem ED.later{d:Sd}{n':Nat}(h:ED u w sb R s d n)(hn:n<=n'):ED u w sb R s d n' where
 side:=h.side
 E2:=h.E2
 wf:=h.wf
 hi:=h.hi
 lo:=h.lo
 fs:=h.fs
 may:=h.may
 FV:=h.FV
 li:=h.li
 tx:=h.tx
 lj:=⟨h.lj.1,AF h.lj.2 hn⟩
 tk:=⟨h.tk.1,AF h.tk.2 hn⟩
 mn:=AF h.mn (by omega)
 mu:=h.mu
 ap:=h.ap
 En:=h.En
 K3:=h.K3
 Fi:=h.Fi
 find:=h.find
 rl:=h.rl
def EM(u:Bs->Option Bs)(w:D7)(sb:Nat)(R:Nat->Prop)(s:Sv)(d:Sd)(n:Nat)(w':D7):Prop:=
 ∃s' d' R',ED u w' sb R' s' d' n/\(∀k,R k->R' k)/\(∀k,R' k->R k\/(w.heap.size<=k/\k<w'.heap.size))/\(∀k,Mu sb s' d' k->Mu sb s d k\/w.heap.size<=k)/\S1.Fm (Mu sb s d) w w'
theorem EM.refl{d:Sd}(h:ED u w sb R s d n):EM u w sb R s d n w:=⟨s,d,R,h,λ_ h=>h,λ_ h=>.inl h,λ_ h=>.inl h,S1.Fm.refl _ _⟩
theorem ED.below{d:Sd}(h:ED u w sb R s d n)(hb:Below w.heap.size w w'):ED u w' sb R s d n:=
 h.keep hb.size (λk hk=>hb.block k (hk.elim (λe=>(h.mu k e).2) (λe=>h.rl k e)))
theorem EM.trans{w1 w2:D7}{R1:Nat->Prop}{s1:Sv}{d d1:Sd}{n1:Nat}(h:ED u w sb R s d n1)(a1:∀k,R k->R1 k)(a2:∀k,R1 k->R k\/(w.heap.size<=k/\k<w1.heap.size))(a3:∀k,Mu sb s1 d1 k->Mu sb s d k\/w.heap.size<=k)(a4:S1.Fm (Mu sb s d) w w1)(h2:EM u w1 sb R1 s1 d1 n w2):EM u w sb R s d n w2:=by
 obtain⟨s2,d2,R2,b0,b1,b2,b3,b4⟩:=h2;refine⟨s2,d2,R2,b0,λk hk=>b1 k (a1 k hk),λk hk => ?_,λk hk => ?_,?_⟩
 ·have h1:=a4.size;have h2:=b4.size;rcases b2 k hk with hk | hk
  ·rcases a2 k hk with hk | hk
   ·exact .inl hk
   exact .inr ⟨hk.1,by omega⟩
  exact .inr ⟨by omega,hk.2⟩
 ·have h1:=a4.size;rcases b3 k hk with hk | hk
  ·exact a3 k hk
  exact .inr (by omega)
 refine⟨b4.os.trans a4.os,b4.tape.trans a4.tape,b4.output.trans a4.output,AF a4.size b4.size,λk hk hn=>(b4.block k (AR hk a4.size) (λhm => ?_)).trans (a4.block k hk hn)⟩;rcases a3 k hm with h3 | h3
 ·exact hn h3
 omega
def Ra(R:Nat->Prop)(z:Nat)(w':D7)(sb:Nat)(s:Sv)(d:Sd)(k:Nat):Prop:=R k\/(z<=k/\k<w'.heap.size/\¬Mu sb s d k)
theorem ED.M9{d:Sd}(h:ED u w sb R s d n)(hb:Below w.heap.size w W)(hp:SF W w.heap.size sb s d.es d.j a e w')(ha:∀k,a=some ⟨k,0,none⟩->w.heap.size<=k):EM u w sb R s d (n+1) w':=by
 obtain⟨-,x,es',p1,p2,p3,p4,p5,p6⟩:=hp;have hz:w.heap.size<=w'.heap.size:=AF hb.size p6.size;have same:∀k,k<w.heap.size->k≠sb->ob s.lists≠some k->w'.heap[k]? = w.heap[k]? := λk h1 h2 h3=>(p6.block k (AR h1 hb.size) (λe=>by
  rcases e with e | e | e
  ·exact h2 e
  ·exact h3 e
  have:=ha k e;omega)).trans (hb.block k h1)
 have a7:∀k,ob x=some k->ob s.lists=some k\/w.heap.size<=k:=λk hk=>(p5 k hk).imp id (λh1=>AF hb.size h1)
 have ag:∀k,ob x=some k->k<w'.heap.size:=λk hk=>(p2.lt k hk).2
 have a0:∀k,R k->w'.heap[k]? = w.heap[k]? := λk hk=>same k (h.rl k hk) (λe=>(h.mu k (.inl e)).1 hk) (λe=>(h.mu k (.inr (.inr (.inl e)))).1 hk)
 have a5:∀k,Mu sb { s with lists:=x } { d with es:=d.es++es',j:=d.j+1 } k->Mu sb s d k\/w.heap.size<=k:=λk hk=>by
  rcases hk with hk | hk | hk | hk
  ·exact .inl (.inl hk)
  ·exact .inl (.inr (.inl hk))
  ·exact(a7 k hk).imp (λe=>.inr (.inr (.inl e))) id
  exact .inl (.inr (.inr (.inr hk)))
 have ae:sb<w.heap.size:=(h.mu sb (.inl rfl)).2;refine⟨{ s with lists:=x },{ d with es:=d.es++es',j:=d.j+1 },Ra R w.heap.size w' sb { s with lists:=x } { d with es:=d.es++es',j:=d.j+1 },?_,λk hk=>.inl hk,λk hk=>hk.imp id (λe=>⟨e.1,e.2.1⟩),a5,?_⟩
 ·refine⟨p1,S1.Db.Dn h.E2 (λk h1 h2=>same k (by have h3:k<d.hi:=h2;have:=h.hi;omega) (λe=>h.ap.1 (by rw[<-e];exact⟨h1,h2⟩)) (λe=>h.ap.2.1 k e ⟨h1,h2⟩)),h.wf,AF h.hi hz,h.lo,λfb hf => ?_,h.may.keep h.FV.1 h.FV.2 a0,⟨λk hk=>.inl (h.FV.1 k hk),λy hy b off e h0=>.inl (h.FV.2 y hy b off e h0)⟩,⟨p2,λi y hy => ?_⟩,(h.tx.keep (λk hk => ?_)).grow (λk hk=>.inl hk),⟨by rw[AN,h.lj.1,p3];show _=4*(d.j+1);omega,by have:=h.lj.2;show d.j+1<=_;omega⟩,⟨h.tk.1,CS h.tk.2⟩,CS h.mn,λk hk=>⟨λhr => ?_,?_⟩,⟨h.ap.1,λk hk => ?_,h.ap.2.2⟩,h.En,h.K3,h.Fi,h.find,λk hk => ?_⟩
  ·obtain⟨a1,⟨cb,lb,tb,b1,b2,b3,b4⟩,a2,a3,a4⟩:=h.fs fb hf;exact⟨a1,⟨cb,lb,tb,(a0 fb b3).trans b1,b2.of_block (a0 tb b4),.inl b3,.inl b4⟩,a2,a3.NH (by rw[KC];exact a4) a0,λb off e h0=>.inl (a4 b off e h0)⟩
  ·by_cases hi:i<d.es.length
   ·rw[Ax hi]at hy;obtain⟨a1,a2,a3⟩:=h.li.2 i y hy;exact⟨a1,a2.of_block (λk hk h0=>a0 k (a3 k hk h0)),λk hk h0=>.inl (a3 k hk h0)⟩
   rw[Ad (by omega)]at hy;have ah:i - d.es.length<4:=by have:=(AP.1 hy).1;omega
   have a9:i/4=d.j:=by have:=h.lj.1;omega
   obtain⟨a1,a2⟩:=p4 y (Ab hy);rw[a9];refine⟨a1,λh0 => ?_,λk hk h0 => ?_⟩
   ·obtain⟨g,a8,e1,e2,e3⟩:=a2 h0;exact⟨g,a8,e1,AU _,e3⟩
   obtain⟨g,a8,e1,e2,e3,e4⟩:=a2 h0;rw[hk]at e1;cases e1
   refine .inr ⟨e2,lt_of_heap e3,λhm => ?_⟩;rcases hm with hm | hm | hm | hm
   ·omega
   ·have:=h.hi;have:=hm.2;dsimp only at this;omega
   ·obtain⟨aa,ad⟩:=LD p2 hm;exact Kb e3 ad (by decide) rfl
   have:=(h.mu k (.inr (.inr (.inr hm)))).2;omega
  ·rcases hk with hk | hk
   ·have ac:=(h.mu k (.inr (.inr (.inr hk)))).2;obtain⟨c1,a6⟩:=LD h.tx.1 hk;exact same k ac (λe=>by
     subst e;exact Kb a6 h.side (by decide) rfl) (λe=>by
     obtain⟨c2,af⟩:=LD h.li.1 e;exact Kb a6 af (by decide) rfl)
   exact a0 k hk
  ·rcases hr with hr | ⟨_,_,hr⟩
   ·rcases a5 k hk with h1 | h1
    ·exact(h.mu k h1).1 hr
    have:=h.rl k hr;omega
   exact hr hk
  ·rcases hk with hk | hk | hk | hk
   ·rw[hk];omega
   ·have:=h.hi;have:=hk.2;dsimp only at this;omega
   ·exact ag k hk
   have:=(h.mu k (.inr (.inr (.inr hk)))).2;omega
  ·rcases a7 k hk with h1 | h1
   ·exact h.ap.2.1 k h1
   intro h2;have:=h.hi;have:=h2.2;dsimp only at this;omega
  rcases hk with hk | hk
  ·exact AR (h.rl k hk) hz
  exact hk.2.1
 refine⟨p6.os.trans hb.os,p6.tape.trans hb.tape,p6.output.trans hb.output,hz,λk hk hn=>same k hk (λe=>hn (.inl e)) (λe=>hn (.inr (.inr (.inl e))))⟩
theorem ED.M2{d:Sd}(h:ED u w sb R s d n)(hb:Below w.heap.size w W)(hp:YF W w.heap.size sb s d.ts d.k e w'):EM u w sb R s d (n+1) w':=by
 obtain⟨-,x,es',p1,p2,p3,p4,p5,p6⟩:=hp;have hz:w.heap.size<=w'.heap.size:=AF hb.size p6.size;have same:∀k,k<w.heap.size->k≠sb->ob s.texts≠some k->w'.heap[k]? = w.heap[k]? := λk h1 h2 h3=>(p6.block k (AR h1 hb.size) (λe=>by
  rcases e with e | e | e
  ·exact h2 e
  ·exact h3 e
  omega)).trans (hb.block k h1)
 have a7:∀k,ob x=some k->ob s.texts=some k\/w.heap.size<=k:=λk hk=>p5 k hk
 have ag:∀k,ob x=some k->k<w'.heap.size:=λk hk=>(p2.lt k hk).2
 have a0:∀k,R k->w'.heap[k]? = w.heap[k]? := λk hk=>same k (h.rl k hk) (λe=>(h.mu k (.inl e)).1 hk) (λe=>(h.mu k (.inr (.inr (.inr e)))).1 hk)
 have a5:∀k,Mu sb { s with texts:=x } { d with ts:=d.ts++es',k:=d.k+1 } k->Mu sb s d k\/w.heap.size<=k:=λk hk=>by
  rcases hk with hk | hk | hk | hk
  ·exact .inl (.inl hk)
  ·exact .inl (.inr (.inl hk))
  ·exact .inl (.inr (.inr (.inl hk)))
  exact(a7 k hk).imp (λe=>.inr (.inr (.inr e))) id
 have ae:sb<w.heap.size:=(h.mu sb (.inl rfl)).2;refine⟨{ s with texts:=x },{ d with ts:=d.ts++es',k:=d.k+1 },Ra R w.heap.size w' sb { s with texts:=x } { d with ts:=d.ts++es',k:=d.k+1 },?_,λk hk=>.inl hk,λk hk=>hk.imp id (λe=>⟨e.1,e.2.1⟩),a5,?_⟩
 ·refine⟨p1,S1.Db.Dn h.E2 (λk h1 h2=>same k (by have h3:k<d.hi:=h2;have:=h.hi;omega) (λe=>h.ap.1 (by rw[<-e];exact⟨h1,h2⟩)) (λe=>h.ap.2.2 k e ⟨h1,h2⟩)),h.wf,AF h.hi hz,h.lo,λfb hf => ?_,h.may.keep h.FV.1 h.FV.2 a0,⟨λk hk=>.inl (h.FV.1 k hk),λy hy b off e h0=>.inl (h.FV.2 y hy b off e h0)⟩,(h.li.keep (λk hk => ?_)).grow (λk hk=>.inl hk),⟨p2,λi y hy => ?_⟩,⟨h.lj.1,CS h.lj.2⟩,⟨by rw[AN,h.tk.1,p3];show _=4*(d.k+1);omega,by have:=h.tk.2;show d.k+1<=_;omega⟩,CS h.mn,λk hk=>⟨λhr => ?_,?_⟩,⟨h.ap.1,h.ap.2.1,λk hk => ?_⟩,h.En,h.K3,h.Fi,h.find,λk hk => ?_⟩
  ·obtain⟨a1,⟨cb,lb,tb,b1,b2,b3,b4⟩,a2,a3,a4⟩:=h.fs fb hf;exact⟨a1,⟨cb,lb,tb,(a0 fb b3).trans b1,b2.of_block (a0 tb b4),.inl b3,.inl b4⟩,a2,a3.NH (by rw[KC];exact a4) a0,λb off e h0=>.inl (a4 b off e h0)⟩
  ·rcases hk with hk | hk
   ·have ac:=(h.mu k (.inr (.inr (.inl hk)))).2;obtain⟨c1,a6⟩:=LD h.li.1 hk;exact same k ac (λe=>by
     subst e;exact Kb a6 h.side (by decide) rfl) (λe=>by
     obtain⟨c2,af⟩:=LD h.tx.1 e;exact Kb a6 af (by decide) rfl)
   exact a0 k hk
  ·by_cases hi:i<d.ts.length
   ·rw[Ax hi]at hy;obtain⟨a1,a2,a3⟩:=h.tx.2 i y hy;exact⟨a1,a2.of_block (λk hk h0=>a0 k (a3 k hk h0)),λk hk h0=>.inl (a3 k hk h0)⟩
   rw[Ad (by omega)]at hy;have ah:i - d.ts.length<4:=by have:=(AP.1 hy).1;omega
   have a9:i/4=d.k:=by have:=h.tk.1;omega
   obtain⟨a1,a2⟩:=p4 y (Ab hy);rw[a9];refine⟨a1,λh0 => ?_,λk hk h0 => ?_⟩
   ·obtain⟨g,a8,e1,e2,e3⟩:=a2 h0;exact⟨g,a8,e1,AU _,e3⟩
   obtain⟨g,a8,e1,e2,e3,e4⟩:=a2 h0;rw[hk]at e1;cases e1
   refine .inr ⟨e2,lt_of_heap e3,λhm => ?_⟩;rcases hm with hm | hm | hm | hm
   ·omega
   ·have:=h.hi;have:=hm.2;dsimp only at this;omega
   ·have:=(h.mu k (.inr (.inr (.inl hm)))).2;omega
   obtain⟨aa,ad⟩:=LD p2 hm;exact Kb e3 ad (by decide) rfl
  ·rcases hr with hr | ⟨_,_,hr⟩
   ·rcases a5 k hk with h1 | h1
    ·exact(h.mu k h1).1 hr
    have:=h.rl k hr;omega
   exact hr hk
  ·rcases hk with hk | hk | hk | hk
   ·rw[hk];omega
   ·have:=h.hi;have:=hk.2;dsimp only at this;omega
   ·have:=(h.mu k (.inr (.inr (.inl hk)))).2;omega
   exact ag k hk
  ·rcases a7 k hk with h1 | h1
   ·exact h.ap.2.2 k h1
   intro h2;have:=h.hi;have:=h2.2;dsimp only at this;omega
  rcases hk with hk | hk
  ·exact AR (h.rl k hk) hz
  exact hk.2.1
 refine⟨p6.os.trans hb.os,p6.tape.trans hb.tape,p6.output.trans hb.output,hz,λk hk hn=>same k hk (λe=>hn (.inl e)) (λe=>hn (.inr (.inr (.inr e))))⟩
variable {w:D7} {u:Bs->Option Bs} {sb n fb:Nat} {R:Nat->Prop} {s:Sv} {d:Sd}
theorem QA{w':D7}{B:Nat}(h:Below B w w')(q:Nat):Below B w (w'.drewN q):=Ph h q
theorem ED.Oa(h:ED u w sb R s d n)(hf:s.f=some fb):w.cell? ⟨sb,2,none⟩=some (.slice s.now.1 d.tl.length s.now.2.2):=by
 have h1:=h.side.cell 2;obtain⟨_,_,a2,_⟩:=h.fs fb hf;rw[h1];show some (Value.slice s.now.1 s.now.2.1 s.now.2.2)=_;rw[a2]
theorem qH(h:ED u w sb R s d n)(hml:ML w)(hn:n<=100000000)(hf:s.f=some fb) :
 Calls prog 102 #[.pointer (some ⟨sb,0,none⟩)] w λe w'=>e=.returned (.bool true)/\EM u w sb R s d (n+1) w':=by
 obtain⟨ht,⟨ai,lb,tb,hF,hT,_,_⟩,aa,ah,a9⟩:=h.fs fb hf;have c0:w.cell? ⟨sb,0,none⟩=some (.pointer (some ⟨s.c,0,none⟩)):=h.side.cell 0;have c1:w.cell? ⟨sb,1,none⟩=some (.pointer (some ⟨fb,0,none⟩)):=by
  have:=h.side.cell 1
  rw[this];unfold Sv.arr;rw[hf];rfl
 have D0:=Jy (S1.EW w d.lo d.hi s.c d.L d.m h.E2);have T0:=Jy (UN w fb ai lb tb d.tl hF hT ht hml);have H:=Jy h;have af:=Jy ah;have Ht:=Jy ht;obtain⟨dd,a6⟩:=Jq ((d.m.Da==0));rw[<-a6]at D0;have am:=Jy a6;obtain⟨cb,Fg⟩:=Jq s.c;rw[<-Fg]at c0 D0;have ae:=Jy Fg;have HN:=Jy (λW (hb:Below w.heap.size w W)=>(h.below hb).Oa hf);have HC:=Jy (λW (hb:Below w.heap.size w W)=>(h.below hb).side.cell 0);obtain⟨p1,a8⟩:=Jq s.now.1;obtain⟨p3,ag⟩:=Jq s.now.2.2;rw[<-a8,<-ag]at HN;rw[<-a8]at af;clear h hF hT ht aa ah a9 a6 Fg hml a8 ag;go_enter func102,ntmps102
 go_wp2_with fail;refine Jj D0.o ?_;go_wp2_with fail;refine T0.o.mono ?_;rintro e w1 ⟨a2,v1,rfl,a0⟩;rw[<-KC]at a0;obtain⟨t1,ac⟩:=Jq (Eb d.tl);have a5:t1.length=d.tl.length:=by rw[ac,KC]
 have a4:=af.o.below a2;rw[<-ac]at a0 a4;obtain⟨a1,k1,rfl,a3⟩:=OY a0;have D1:=Jy (S1.EW w1 d.lo d.hi s.c d.L d.m (H.o.below a2).E2);rw[<-am.o,<-ae.o]at D1;have e0:w1.cell? ⟨sb,0,none⟩=some (.pointer (some ⟨cb,0,none⟩)):=by rw[ae.o];exact HC.o w1 a2
 have e2:=HN.o w1 a2;have S:=Jy (GD a1 p1 k1 p3 t1 t1 w1 a3 a4 (by rw[a5];have:=Ht.o.len;omega) (by rw[a5];have:=Ht.o.len;omega));rw[Cm rfl]at S;have K:=Jy (λq=>Wk (w1.drewN q) sb s d.es d.j a1 t1 k1 w.heap.size (H.o.below (QA a2 q)).side (H.o.below (QA a2 q)).li.1 H.o.lj.1 (by have:=H.o.lj.2;omega) (NV a0 (λg _=>rfl)) (by rw[a5];have:=Ht.o.len;omega) (by have:=(QA a2 q).size;exact this));have Ha:Hid (∀k,a1=some ⟨k,0,none⟩->w.heap.size<=k):=Jy λk hk=>(a0.lt k (by rw[hk];rfl)).1
 have aj:=Jy a2;rw[a5]at S K ⊢;obtain⟨n1,ad⟩:=Jq d.tl.length;rw[<-ad]at S K e2 ⊢;clear a2 a0 a4 a3 ac T0 D0 a5 ad c0 c1;go_wp2_with fail;refine Jj D1.o ?_;go_wp2_with fail;refine S.o.mono ?_;rintro e w2 ⟨rfl,q,rfl⟩;clear S D1 e0 e2;go_wp2_with fail;refine(K.o q).mono ?_;rintro e w3 hp;have he:=hp.1;subst he;have HP:=Jy (H.o.M9 (QA aj.o q) hp Ha.o);clear hp K;cases dd
 all_goals
  go_wp2_with fail;go_ret
  exact⟨rfl,HP.o⟩
end Go.Proofs.YtodmdkhdbfbfgaaGreatDoor
