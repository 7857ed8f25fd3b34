/- Lemmas. -/
import Derived.Sort.WalkB3
import Derived.Sort.WalkD1
import Derived.Sort.Grow
import Derived.Sort.WalkC4
import Derived.Deep.CutBlock
import Derived.Test.YtodmdkhdbfbfgaaGreatDoorM09
set_option linter.unusedVariables false
set_option linter.unusedSimpArgs false
set_option maxRecDepth 100000
set_option maxHeartbeats 8000000
open Go.Proofs.Tryz
namespace Go.Proofs.YtodmdkhdbfbfgaaGreatDoor.S1
open Go.RowKit Go.Sort
variable {d:Array Int} {i j hi first r:Nat}
theorem pM(h:i<j):reverseLoop i j d=reverseLoop (i+1) (j - 1) (swp d i j):=by rw[reverseLoop,AE h]
theorem kj(h:¬i<j):reverseLoop i j d=d:=by rw[reverseLoop,AC h]
theorem mD(Dg off cap a b:Nat)(d:Array Int)(w:D7)(hH:EN w Dg off d)(hab:a<b)(hb:b<=d.size)(hsz:d.size<=1000000) :
 Calls prog 321 #[.slice (some ⟨Dg,off,none⟩) d.size cap,.int .i64 a,.int .i64 b] w λe w'=>e=.returned (.tuple #[])/\∃n,w'=EH w n Dg off (reverseRange d a b):=by
 go_enter func321,ntmps321
 go_wp2
 go_loopw [6,7] (λvi vj wr=>∃(i j m:Nat) (dj:Array Int),vi=.int .i64 i/\vj=.int .i64 j/\a<=i/\i<=b/\j<b/\dj.size=d.size/\wr=EH w m Dg off dj/\Hid (reverseLoop i j dj=reverseRange d a b)) (λvi vj _=>(intOf vj).toNat - (intOf vi).toNat)
 case atStart=>exact⟨a,b - 1,0,d,rfl,by congr 1;omega,AB _,by omega,by omega,rfl,(putRow_self _ _ _ _ _ hH).symm,Jy rfl⟩
 case round =>
  obtain⟨i,j,m,dj,rfl,rfl,a5,LK,a9,a3,a0,HI⟩:=hrel;by_cases a2:i<j
  ·have a1:(i:Int)<(j:Nat):=by omega
   obtain⟨G,hG⟩:∃G:Nat->Int,∀t,G t=dj[t]! := ⟨λt=>dj[t]!,λ_=>rfl⟩;have a8:∀t,t<d.size->wr.cell? ⟨Dg,off+t,none⟩=some (.int .u32 (G t)):=λt ht=>by rw[a0,hG];exact OX hH a3 t ht
   have a4:∀t,t<d.size->wr.frozen? ⟨Dg,off+t,none⟩=false:=λt ht=>by rw[a0];exact O6 hH t ht
   have HW:=Jy a0;have HG:=Jy hG;have a6:i<d.size:=by omega
   have a7:j<d.size:=by omega
   clear a0 hG;go_wp2;go_region
   all_goals go_wp2
   go_roundw
   case rel =>
    refine⟨i+1,j - 1,m+1,swp dj i j,by go_num,by congr 1;omega,by omega,by omega,by omega,by rw[size_swp];exact a3,?_,Jy ?_⟩
    ·rw[HW.o,HG.o,HG.o];exact swap_worldA _ w m 1 Dg off dj i j (by omega) (by omega)
    rw[<-HI.o,pM a2]
   case measure=>simp[intOf];omega
  have a1:¬(i:Int)<(j:Nat):=by omega
  go_wp2;go_end0
  exact⟨rfl,m,by rw[<-HI.o,kj a2]⟩
def Mo(hi first r:Nat)(d:Array Int):Nat:=if 2*r+1+1<hi/\ltInt d[first+(2*r+1)]! d[first+(2*r+1)+1]! = true then 2*r+2 else 2*r+1
theorem gg(h:hi<=2*r+1):siftDown ltInt hi first r d=d:=by
 rw[siftDown,dif_pos (by omega)]
theorem VA(h:¬hi<=2*r+1)(hl:ltInt d[first+r]! d[first+Mo hi first r d]! = false):siftDown ltInt hi first r d=d:=by
 unfold Mo at hl;rw[siftDown,dif_neg (by omega)];by_cases hc:2*r+1+1<hi/\ltInt d[first+(2*r+1)]! d[first+(2*r+1)+1]! = true
 ·rw[AE hc]at hl;simp[hc.1,hc.2,hl]
 rw[AC hc]at hl
 have:(decide (2*r+1+1<hi)&&ltInt d[first+(2*r+1)]! d[first+(2*r+1)+1]!)=false:=by
  cases h1:(decide (2*r+1+1<hi)&&ltInt d[first+(2*r+1)]! d[first+(2*r+1)+1]!)with
  | false=>rfl
  | true=>rw[Af,BJ]at h1;exact absurd h1 hc
 simp[this,hl]
theorem Tq(h:¬hi<=2*r+1)(hl:ltInt d[first+r]! d[first+Mo hi first r d]! = true):siftDown ltInt hi first r d=siftDown ltInt hi first (Mo hi first r d) (swp d (first+r) (first+Mo hi first r d)):=by
 unfold Mo at hl ⊢
 conv=>lhs;rw[siftDown,dif_neg (by omega)]
 by_cases hc:2*r+1+1<hi/\ltInt d[first+(2*r+1)]! d[first+(2*r+1)+1]! = true
 ·rw[AE hc]at hl ⊢;have h2:2*r+2<hi:=by omega
  simp[hc.1,hc.2,hl,h2]
 rw[AC hc]at hl ⊢
 have:(decide (2*r+1+1<hi)&&ltInt d[first+(2*r+1)]! d[first+(2*r+1)+1]!)=false:=by
  cases h1:(decide (2*r+1+1<hi)&&ltInt d[first+(2*r+1)]! d[first+(2*r+1)+1]!)with
  | false=>rfl
  | true=>rw[Af,BJ]at h1;exact absurd h1 hc
 simp[this,hl]
theorem O7(Dg off cap lo hi first:Nat)(d:Array Int)(w:D7)(hH:EN w Dg off d)(hb:first+hi<=d.size)(hlo:lo<=d.size)(hsz:d.size<=1000000) :
 Calls prog 334 #[.slice (some ⟨Dg,off,none⟩) d.size cap,.int .i64 lo,.int .i64 hi,.int .i64 first] w λe w'=>e=.returned (.tuple #[])/\∃n,w'=EH w n Dg off (siftDown ltInt hi first lo d):=by
 go_enter func334,ntmps334
 go_wp2
 go_loopw [8] (λvr wr=>∃(r m:Nat) (dj:Array Int),vr=.int .i64 r/\r<=1000000/\dj.size=d.size/\wr=EH w m Dg off dj/\Hid (siftDown ltInt hi first r dj=siftDown ltInt hi first lo d)) (λvr _=>hi - (intOf vr).toNat)
 case atStart=>exact⟨lo,0,d,rfl,by omega,rfl,(putRow_self _ _ _ _ _ hH).symm,Jy rfl⟩
 case round =>
  obtain⟨r,m,dj,rfl,hr,a4,a5,HI⟩:=hrel;by_cases a0:hi<=2*r+1
  ·have a6:(hi:Int)<=2*(r:Nat)+1:=by omega
   go_wp2;go_end0
   exact⟨rfl,m,by rw[<-HI.o,gg a0]⟩
  have a6:¬(hi:Int)<=2*(r:Nat)+1:=by omega
  obtain⟨G,hG⟩:∃G:Nat->Int,∀t,G t=dj[t]! := ⟨λt=>dj[t]!,λ_=>rfl⟩;have a7:∀t,t<d.size->wr.cell? ⟨Dg,off+t,none⟩=some (.int .u32 (G t)):=λt ht=>by rw[a5,hG];exact OX hH a4 t ht
  have a8:∀t,t<d.size->wr.frozen? ⟨Dg,off+t,none⟩=false:=λt ht=>by rw[a5];exact O6 hH t ht
  have HW:=Jy a5;have HG:=Jy hG;clear a5 hG;have aw:2*r+1<hi:=by omega
  by_cases hc:2*r+1+1<hi
  ·have am:2*(r:Int)+1+1<(hi:Nat):=by omega
   have au:first+(2*r+1)<d.size:=by omega
   have ar:first+(2*r+1)+1<d.size:=by omega
   go_wp2
   go_quiet (first | (go_at_call 323;refine Ac (Ek _ _ _)))
   cases hl1:ltInt (G (first+(2*r+1))) (G (first+(2*r+1)+1))with
   | true =>
     obtain⟨wq,a2⟩:=Jq (wr.drewN nq);obtain⟨mq,a3⟩:=Jq (m+nq);have a1:Hid (wq=EH w mq Dg off dj):=Jy (by rw[a2,a3,HW.o];exact putRow_drewN _ _ _ _ _ _ _);have ah:∀t,t<d.size->wq.cell? ⟨Dg,off+t,none⟩=some (.int .u32 (G t)):=λt ht=>by rw[a1.o,HG.o];exact OX hH a4 t ht
     have aa:∀t,t<d.size->wq.frozen? ⟨Dg,off+t,none⟩=false:=λt ht=>by rw[a1.o];exact O6 hH t ht
     rw[<-a2];clear a2 a3 a7 a8;have HC:Hid (Mo hi first r dj=2*r+1+1):=Jy (by unfold Mo;rw[AE ⟨hc,by rw[<-HG.o,<-HG.o];exact hl1⟩]);have an:first+(2*r+1+1)<d.size:=by omega
     have aj:first+r<d.size:=by omega
     have ai:IntKind.i64.wrap ((first:Int)+(r:Int))=(first:Int)+(r:Int):=by rw[Av];omega
     have ad:(0:Int)<=(first:Int)+(r:Int):=by omega
     have ac:(first:Int)+(r:Int)<(d.size:Nat):=by omega
     have af:((first:Int)+(r:Int)).toNat=first+r:=by omega
     have ae:IntKind.i64.wrap ((first:Int)+(2*(r:Int)+1+1))=(first:Int)+(2*(r:Int)+1+1):=by rw[Av];omega
     have ao:(0:Int)<=(first:Int)+(2*(r:Int)+1+1):=by omega
     have a9:(first:Int)+(2*(r:Int)+1+1)<(d.size:Nat):=by omega
     have ag:((first:Int)+(2*(r:Int)+1+1)).toNat=first+(2*r+1+1):=by omega
     go_wp2
     go_quiet (first | (go_at_call 323;refine Ac (Ek _ _ _)))
     cases hl:ltInt (G (first+r)) (G (first+(2*r+1+1)))with
     | false =>
       have HE:Hid (siftDown ltInt hi first lo d=dj):=Jy (by rw[<-HI.o];exact VA a0 (by rw[HC.o,<-HG.o,<-HG.o];exact hl));go_wp2
       ((try simp only[Exit.inBlock,Exit.then]);refine Au (CJ rfl _ _ _) rfl ?_)
       exact⟨rfl,_,by rw[HE.o,a1.o];exact putRow_drewN _ _ _ _ _ _ _⟩
     | true =>
       have HE:Hid (siftDown ltInt hi first (2*r+1+1) (swp dj (first+r) (first+(2*r+1+1)))=siftDown ltInt hi first lo d):=Jy (by rw[<-HI.o,Tq a0 (by rw[HC.o,<-HG.o,<-HG.o];exact hl),HC.o]);go_wp2;go_region
       all_goals go_wp2
       go_roundw
       case rel =>
        refine⟨2*r+1+1,mq+(nq+1),swp dj (first+r) (first+(2*r+1+1)),by congr 1,by omega,by rw[size_swp];exact a4,?_,HE⟩;rw[a1.o,HG.o,HG.o];exact swap_worldA _ w mq _ Dg off dj (first+r) (first+(2*r+1+1)) (by omega) (by omega)
       case measure=>simp[intOf];omega
   | false =>
     obtain⟨wq,a2⟩:=Jq (wr.drewN nq);obtain⟨mq,a3⟩:=Jq (m+nq);have a1:Hid (wq=EH w mq Dg off dj):=Jy (by rw[a2,a3,HW.o];exact putRow_drewN _ _ _ _ _ _ _);have ah:∀t,t<d.size->wq.cell? ⟨Dg,off+t,none⟩=some (.int .u32 (G t)):=λt ht=>by rw[a1.o,HG.o];exact OX hH a4 t ht
     have aa:∀t,t<d.size->wq.frozen? ⟨Dg,off+t,none⟩=false:=λt ht=>by rw[a1.o];exact O6 hH t ht
     rw[<-a2];clear a2 a3 a7 a8;have HC:Hid (Mo hi first r dj=2*r+1):=Jy (by unfold Mo;rw[AC (λh=>by have:=h.2;rw[<-HG.o,<-HG.o,hl1]at this;cases this)]);have an:first+(2*r+1)<d.size:=by omega
     have aj:first+r<d.size:=by omega
     have ai:IntKind.i64.wrap ((first:Int)+(r:Int))=(first:Int)+(r:Int):=by rw[Av];omega
     have ad:(0:Int)<=(first:Int)+(r:Int):=by omega
     have ac:(first:Int)+(r:Int)<(d.size:Nat):=by omega
     have af:((first:Int)+(r:Int)).toNat=first+r:=by omega
     have ae:IntKind.i64.wrap ((first:Int)+(2*(r:Int)+1))=(first:Int)+(2*(r:Int)+1):=by rw[Av];omega
     have ao:(0:Int)<=(first:Int)+(2*(r:Int)+1):=by omega
     have a9:(first:Int)+(2*(r:Int)+1)<(d.size:Nat):=by omega
     have ag:((first:Int)+(2*(r:Int)+1)).toNat=first+(2*r+1):=by omega
     go_wp2
     go_quiet (first | (go_at_call 323;refine Ac (Ek _ _ _)))
     cases hl:ltInt (G (first+r)) (G (first+(2*r+1)))with
     | false =>
       have HE:Hid (siftDown ltInt hi first lo d=dj):=Jy (by rw[<-HI.o];exact VA a0 (by rw[HC.o,<-HG.o,<-HG.o];exact hl));go_wp2
       ((try simp only[Exit.inBlock,Exit.then]);refine Au (CJ rfl _ _ _) rfl ?_)
       exact⟨rfl,_,by rw[HE.o,a1.o];exact putRow_drewN _ _ _ _ _ _ _⟩
     | true =>
       have HE:Hid (siftDown ltInt hi first (2*r+1) (swp dj (first+r) (first+(2*r+1)))=siftDown ltInt hi first lo d):=Jy (by rw[<-HI.o,Tq a0 (by rw[HC.o,<-HG.o,<-HG.o];exact hl),HC.o]);go_wp2;go_region
       all_goals go_wp2
       go_roundw
       case rel =>
        refine⟨2*r+1,mq+(nq+1),swp dj (first+r) (first+(2*r+1)),by congr 1,by omega,by rw[size_swp];exact a4,?_,HE⟩;rw[a1.o,HG.o,HG.o];exact swap_worldA _ w mq _ Dg off dj (first+r) (first+(2*r+1)) (by omega) (by omega)
       case measure=>simp[intOf];omega
  have am:¬2*(r:Int)+1+1<(hi:Nat):=by omega
  have a5:IntKind.i64.wrap (2*(r:Int)+1+1)=2*(r:Int)+1+1:=by rw[Av];omega
  have av:decide (2*(r:Int)+1+1<(hi:Nat))=false:=Bc am;go_wp2
  go_quiet (first | (go_at_call 323;refine Ac (Ek _ _ _)))
  obtain⟨wq,a2⟩:=Jq (wr.drewN nq);obtain⟨mq,a3⟩:=Jq (m+nq);have a1:Hid (wq=EH w mq Dg off dj):=Jy (by rw[a2,a3,HW.o];exact putRow_drewN _ _ _ _ _ _ _);have ah:∀t,t<d.size->wq.cell? ⟨Dg,off+t,none⟩=some (.int .u32 (G t)):=λt ht=>by rw[a1.o,HG.o];exact OX hH a4 t ht
  have aa:∀t,t<d.size->wq.frozen? ⟨Dg,off+t,none⟩=false:=λt ht=>by rw[a1.o];exact O6 hH t ht
  rw[<-a2];clear a2 a3 a7 a8;have HC:Hid (Mo hi first r dj=2*r+1):=Jy (by unfold Mo;rw[AC (λh=>hc h.1)]);have an:first+(2*r+1)<d.size:=by omega
  have aj:first+r<d.size:=by omega
  have ai:IntKind.i64.wrap ((first:Int)+(r:Int))=(first:Int)+(r:Int):=by rw[Av];omega
  have ad:(0:Int)<=(first:Int)+(r:Int):=by omega
  have ac:(first:Int)+(r:Int)<(d.size:Nat):=by omega
  have af:((first:Int)+(r:Int)).toNat=first+r:=by omega
  have ae:IntKind.i64.wrap ((first:Int)+(2*(r:Int)+1))=(first:Int)+(2*(r:Int)+1):=by rw[Av];omega
  have ao:(0:Int)<=(first:Int)+(2*(r:Int)+1):=by omega
  have a9:(first:Int)+(2*(r:Int)+1)<(d.size:Nat):=by omega
  have ag:((first:Int)+(2*(r:Int)+1)).toNat=first+(2*r+1):=by omega
  go_wp2
  go_quiet (first | (go_at_call 323;refine Ac (Ek _ _ _)))
  cases hl:ltInt (G (first+r)) (G (first+(2*r+1)))with
  | false =>
    have HE:Hid (siftDown ltInt hi first lo d=dj):=Jy (by rw[<-HI.o];exact VA a0 (by rw[HC.o,<-HG.o,<-HG.o];exact hl));go_wp2
    ((try simp only[Exit.inBlock,Exit.then]);refine Au (CJ rfl _ _ _) rfl ?_)
    exact⟨rfl,_,by rw[HE.o,a1.o];exact putRow_drewN _ _ _ _ _ _ _⟩
  | true =>
    have HE:Hid (siftDown ltInt hi first (2*r+1) (swp dj (first+r) (first+(2*r+1)))=siftDown ltInt hi first lo d):=Jy (by rw[<-HI.o,Tq a0 (by rw[HC.o,<-HG.o,<-HG.o];exact hl),HC.o]);go_wp2;go_region
    all_goals go_wp2
    go_roundw
    case rel =>
     refine⟨2*r+1,mq+(nq+1),swp dj (first+r) (first+(2*r+1)),by congr 1,by omega,by rw[size_swp];exact a4,?_,HE⟩;rw[a1.o,HG.o,HG.o];exact swap_worldA _ w mq _ Dg off dj (first+r) (first+(2*r+1)) (by omega) (by omega)
    case measure=>simp[intOf];omega
theorem rowU_holds{w:D7}{Dg off:Nat}{d dj:Array Int}(hH:EN w Dg off d)(n:Nat)(hs:dj.size=d.size):EN (EH w n Dg off dj) Dg off dj:=holds_putRow _ _ _ _ d dj (holds_ahead _ _ _ _ _ _ hH) hs
theorem UW(w:D7)(n m Dg off:Nat){d d':Array Int}(h:d'.size=d.size):EH (EH w n Dg off d) m Dg off d'=EH w (n+m) Dg off d':=putRow_ahead_putRow _ _ _ _ _ _ _ _ h
theorem Qi(hi first r:Nat)(d:Array Int):(siftDown ltInt hi first r d).size=d.size:=size_siftDown ltInt _ _ _ _ _ (AB _)
theorem Rs(Dg off cap a b:Nat)(d:Array Int)(w:D7)(hH:EN w Dg off d)(hab:a<b)(hb:b<=d.size)(hsz:d.size<=1000000) :
 Calls prog 318 #[.slice (some ⟨Dg,off,none⟩) d.size cap,.int .i64 a,.int .i64 b] w λe w'=>e=.returned (.tuple #[])/\∃n,w'=EH w n Dg off (heapSort ltInt d a b):=by
 obtain⟨hi,ai⟩:=Jq (b - a);have az:1<=hi:=by omega
 have aA:a+hi<=d.size:=by omega
 have h1:(b:Int) - (a:Nat)=(hi:Nat):=by omega
 obtain⟨k0,af⟩:=Jq ((hi - 1)/2);have h2:Int.tdiv ((hi:Int) - 1) 2=(k0:Nat):=by rw[BX (by omega)];omega
 have am:k0<hi:=by omega
 have aa:Hid (heapSort ltInt d a b=heapPop ltInt a hi (heapBuild ltInt hi a (k0+1) d)):=Jy (by unfold heapSort;rw[<-ai,<-af]);clear ai af;go_enter func318,ntmps318
 go_wp2
 go_loopw [9] (λvi wr=>∃(k m:Nat) (dj:Array Int),vi=.int .i64 ((k:Nat) - 1:Int)/\k<=k0+1/\dj.size=d.size/\wr=EH w m Dg off dj/\Hid (heapBuild ltInt hi a k dj=heapBuild ltInt hi a (k0+1) d)) (λvi _=>(intOf vi+1).toNat)
 case atStart=>exact⟨k0+1,0,d,by congr 1;omega,AB _,rfl,(putRow_self _ _ _ _ _ hH).symm,Jy rfl⟩
 case round =>
  obtain⟨k,m,dj,rfl,hk,a8,a0,HI⟩:=hrel;cases k with
  | succ k =>
    have a2:(((k+1:Nat):Int) - 1)=(k:Nat):=by omega
    rw[a2];have aj:(0:Int)<=(k:Nat):=by omega
    have A:=Jy (O7 Dg off cap k hi a dj wr (by rw[a0];exact rowU_holds hH m a8) (by omega) (by omega) (by omega));rw[a8]at A;have HW:=Jy a0;clear a0;go_wp2_with fail;refine A.o.mono ?_;rintro e w3 ⟨rfl,n,ah⟩;have av:Hid (w3=EH w (m+n) Dg off (siftDown ltInt hi a k dj)):=Jy (by rw[ah,HW.o];exact UW w m n Dg off (by rw[Qi]));clear ah A;go_wp2;go_roundw
    case rel=>exact⟨k,m+n,siftDown ltInt hi a k dj,rfl,by omega,by rw[Qi];exact a8,av.o,Jy (by rw[<-HI.o];rfl)⟩
    case measure=>simp[intOf]
  | zero =>
    have a2:(((0:Nat):Int) - 1) = -1:=rfl;rw[a2];obtain⟨w4,ax⟩:=Jq wr;subst ax;have an:=Jy a0;clear a0;go_wp2
    go_loopw [10] (λvi wr=>∃(k n:Nat) (dk:Array Int),vi=.int .i64 ((k:Nat) - 1:Int)/\k<=hi/\dk.size=d.size/\wr=EH w n Dg off dk/\Hid (heapPop ltInt a k dk=heapPop ltInt a hi (heapBuild ltInt hi a (k0+1) d))) (λvi _=>(intOf vi+1).toNat)
    case atStart=>exact⟨hi,m,dj,rfl,AB _,a8,an.o,Jy (by rw[<-HI.o];rfl)⟩
    case round =>
     obtain⟨k,n,dk,rfl,hk,a3,a0,ac⟩:=hrel;cases k with
     | succ k =>
       have a2:(((k+1:Nat):Int) - 1)=(k:Nat):=by omega
       rw[a2];have aj:(0:Int)<=(k:Nat):=by omega
       obtain⟨G,hG⟩:∃G:Nat->Int,∀t,G t=dk[t]! := ⟨λt=>dk[t]!,λ_=>rfl⟩;have a5:∀t,t<d.size->wr.cell? ⟨Dg,off+t,none⟩=some (.int .u32 (G t)):=λt ht=>by rw[a0,hG];exact OX hH a3 t ht
       have a7:∀t,t<d.size->wr.frozen? ⟨Dg,off+t,none⟩=false:=λt ht=>by rw[a0];exact O6 hH t ht
       have HW:=Jy a0;have HG:=Jy hG;have ae:a<d.size:=by omega
       have ag:a+k<d.size:=by omega
       clear a0 hG;have A:=Jy (λW hW=>O7 Dg off cap 0 k a (swp dk a (a+k)) W hW (by rw[size_swp];omega) (by rw[size_swp];omega) (by rw[size_swp];omega));rw[size_swp,a3]at A;by_cases ao:k=0
       case pos =>
        subst ao;have ad:=a5 a ae;go_wp2_with fail;go_region;obtain⟨W5,a1⟩:=Jq (((wr.setCell ⟨Dg,off+a,none⟩ (.int .u32 (G a))).setCell ⟨Dg,off+a,none⟩ (.int .u32 (G a))).drew);rw[<-a1];have a6:Hid (W5=EH w (n+1) Dg off (swp dk a (a+0))):=Jy (by rw[a1,HW.o,HG.o];exact swap_worldA _ w n 1 Dg off dk a a (by omega) (by omega));clear a1 ad;have A5:Hid (Calls prog 334 #[.slice (some ⟨Dg,off,none⟩) d.size cap,.int .i64 0,.int .i64 0,.int .i64 a] W5 λe w'=>e=.returned (.tuple #[])/\∃n',w'=EH W5 n' Dg off (siftDown ltInt 0 a 0 (swp dk a (a+0)))):=Jy (A.o W5 (by rw[a6.o];exact rowU_holds hH (n+1) (by rw[size_swp];exact a3)));clear A a5 a7;go_wp2_with fail;refine A5.o.mono ?_;rintro e w6 ⟨rfl,n6,a4⟩
        have a9:Hid (w6=EH w (n+1+n6) Dg off (siftDown ltInt 0 a 0 (swp dk a (a+0)))):=Jy (by rw[a4,a6.o];exact UW w (n+1) n6 Dg off (by rw[Qi]));clear a4 A5;go_wp2;go_roundw
        case rel=>exact⟨0,n+1+n6,siftDown ltInt 0 a 0 (swp dk a (a+0)),by first | rfl | go_num,by omega,by rw[Qi,size_swp];exact a3,a9.o,Jy (by rw[<-ac.o];rfl)⟩
        case measure=>simp[intOf]
       case neg =>
        have ay:off+(a+k)≠off+a:=by omega
        have ad:=a5 a ae;have Fg:=a5 (a+k) ag;have ar:=a7 a ae;have au:=a7 (a+k) ag;go_wp2_with fail;go_region;obtain⟨W5,a1⟩:=Jq (((wr.setCell ⟨Dg,off+a,none⟩ (.int .u32 (G (a+k)))).setCell ⟨Dg,off+(a+k),none⟩ (.int .u32 (G a))).drew);rw[<-a1];have a6:Hid (W5=EH w (n+1) Dg off (swp dk a (a+k))):=Jy (by rw[a1,HW.o,HG.o,HG.o];exact swap_worldA _ w n 1 Dg off dk a (a+k) (by omega) (by omega));clear a1 ad Fg ar au;have A5:Hid (Calls prog 334 #[.slice (some ⟨Dg,off,none⟩) d.size cap,.int .i64 0,.int .i64 k,.int .i64 a] W5 λe w'=>e=.returned (.tuple #[])/\∃n',w'=EH W5 n' Dg off (siftDown ltInt k a 0 (swp dk a (a+k)))):=Jy (A.o W5 (by rw[a6.o];exact rowU_holds hH (n+1) (by rw[size_swp];exact a3)));clear A a5 a7;go_wp2_with fail;refine A5.o.mono ?_;rintro e w6 ⟨rfl,n6,a4⟩
        have a9:Hid (w6=EH w (n+1+n6) Dg off (siftDown ltInt k a 0 (swp dk a (a+k)))):=Jy (by rw[a4,a6.o];exact UW w (n+1) n6 Dg off (by rw[Qi]));clear a4 A5;go_wp2;go_roundw
        case rel=>exact⟨k,n+1+n6,siftDown ltInt k a 0 (swp dk a (a+k)),by first | rfl | go_num,by omega,by rw[Qi,size_swp];exact a3,a9.o,Jy (by rw[<-ac.o];rfl)⟩
        case measure=>simp[intOf]
     | zero =>
       have a2:(((0:Nat):Int) - 1) = -1:=rfl;rw[a2];have aw:=Jy a0;clear a0;go_wp2;go_end0
       exact⟨rfl,n,by rw[aa.o,<-ac.o,aw.o];rfl⟩
theorem UF(Dg off cap a b sb so s:Nat)(d:Array Int)(w:D7)(hH:EN w Dg off d)(ha:a<d.size)(hb:b<d.size)(hS:Holds (Value.int .i64) w sb so (one s))(hs:s<=1000)(hsz:d.size<=1000000) :
 Calls prog 339 #[.slice (some ⟨Dg,off,none⟩) d.size cap,.int .i64 a,.int .i64 b,.pointer (some ⟨sb,so,none⟩)] w λe w' =>
  e=.returned (.tuple #[.int .i64 ((order2 ltInt d a b s).1:Nat),.int .i64 ((order2 ltInt d a b s).2.1:Nat)])/\∃n,w'=putRow (Value.int .i64) (Sort.ahead w n) sb so (one (order2 ltInt d a b s).2.2):=by
 obtain⟨G,hG⟩:∃G:Nat->Int,∀t,G t=d[t]! := ⟨λt=>d[t]!,λ_=>rfl⟩;have a5:∀t,t<d.size->w.cell? ⟨Dg,off+t,none⟩=some (.int .u32 (G t)):=λt ht=>by rw[hG];exact(hH t ht).1
 have c0:w.cell? ⟨sb,so,none⟩=some (.int .i64 s):=(hS 0 (by simp[one])).1;have f0:w.frozen? ⟨sb,so,none⟩=false:=(hS 0 (by simp[one])).2;have HG:=Jy hG;have HS:=Jy hS;clear hG hS hH;go_enter func339,ntmps339
 go_wp2
 go_quiet (first | (go_at_call 323;refine Ac (Ek _ _ _)))
 obtain⟨wq,a0⟩:=Jq (w.drewN nq);have c1:wq.cell? ⟨sb,so,none⟩=some (.int .i64 s):=by rw[a0];exact c0
 have f1:wq.frozen? ⟨sb,so,none⟩=false:=by rw[a0];exact f0
 have a3:Hid (Holds (Value.int .i64) wq sb so (one s)):=Jy (by rw[a0];exact λj hj=>⟨(HS.o j hj).1,(HS.o j hj).2⟩);have a4:Hid (wq=Sort.ahead w nq):=Jy (by rw[a0];rfl);rw[<-a0];clear a5 c0 f0 a0;cases hl:ltInt (G b) (G a)with
 | true =>
   have e2:order2 ltInt d a b s=(b,a,s+1):=by unfold order2;rw[<-HG.o,<-HG.o,hl];rfl
   have a1:=Jy e2;have a2:=Jy (one_set a3.o (s+1));clear e2;go_wp2;go_ret2
   refine⟨by rw[a1.o];rfl,nq,?_⟩;rw[a1.o,<-a4.o];exact a2.o
 | false =>
   have e2:order2 ltInt d a b s=(a,b,s):=by unfold order2;rw[<-HG.o,<-HG.o,hl];rfl
   have a1:=Jy e2;clear e2;go_wp2;go_ret2
   refine⟨by rw[a1.o];rfl,nq,?_⟩;rw[a1.o,<-a4.o];exact(putRow_self _ _ _ _ _ a3.o).symm
theorem Jo{w:D7}{Dg off sb so n t:Nat}{d:Array Int}(h:EN w Dg off d)(hne:sb≠Dg):EN (putRow (Value.int .i64) (Sort.ahead w n) sb so (one t)) Dg off d:=λj hj =>
 ⟨by rw[cell?_putRow_other _ _ _ _ _ _ (Or.inl (Ne.symm hne))];exact(h j hj).1,by rw[frozen?_putRow];exact(h j hj).2⟩
theorem Lt{w:D7}{sb so s n t:Nat}(h:Holds (Value.int .i64) w sb so (one s)):Holds (Value.int .i64) (putRow (Value.int .i64) (Sort.ahead w n) sb so (one t)) sb so (one t):=holds_putRow _ _ _ _ (one s) (one t) (holds_ahead _ _ _ _ _ _ h) rfl
theorem Rv(d:Array Int)(a b s:Nat):(order2 ltInt d a b s).2.2<=s+1:=by
 unfold order2
 split<;>simp
theorem Ug(Dg off cap a b c sb so s:Nat)(d:Array Int)(w:D7)(hH:EN w Dg off d)(ha:a<d.size)(hb:b<d.size)(hc:c<d.size)(hne:sb≠Dg)(hS:Holds (Value.int .i64) w sb so (one s))(hs:s<=900)(hsz:d.size<=1000000) :
 Calls prog 336 #[.slice (some ⟨Dg,off,none⟩) d.size cap,.int .i64 a,.int .i64 b,.int .i64 c,.pointer (some ⟨sb,so,none⟩)] w λe w' =>
  e=.returned (.int .i64 ((median ltInt d a b c s).1:Nat))/\∃n,w'=putRow (Value.int .i64) (Sort.ahead w n) sb so (one (median ltInt d a b c s).2):=by
 have A:=Jy (UF Dg off cap a b sb so s d w hH ha hb hS (by omega) hsz);obtain⟨r1,a3⟩:=Jq (order2 ltInt d a b s);have l1:=order2_lt d s ha hb;have q1:=Rv d a b s;rw[<-a3]at A l1 q1;obtain⟨r2,a2⟩:=Jq (order2 ltInt d r1.2.1 c r1.2.2);have l2:=order2_lt d r1.2.2 l1.2 hc;have q2:=Rv d r1.2.1 c r1.2.2;rw[<-a2]at l2 q2;obtain⟨r3,a4⟩:=Jq (order2 ltInt d r1.1 r2.1 r2.2.2);have HM:Hid (median ltInt d a b c s=(r3.2.1,r3.2.2)):=Jy (by rw[a4,a2,a3];rfl);have H0:=Jy hH;have HS:=Jy hS;have ad:=Jy a2;have aa:=Jy a4;clear a3 a2 a4 hH hS;go_enter func336,ntmps336
 go_wp2_with fail;refine A.o.mono ?_;rintro e w1 ⟨rfl,n1,a0⟩;have H1:Hid (EN w1 Dg off d):=Jy (by rw[a0];exact Jo H0.o hne);have a5:Hid (Holds (Value.int .i64) w1 sb so (one r1.2.2)):=Jy (by rw[a0];exact Lt HS.o);have B:=Jy (UF Dg off cap r1.2.1 c sb so r1.2.2 d w1 H1.o l1.2 hc a5.o (by omega) hsz);rw[<-ad.o]at B;have a8:=Jy a0;clear a0 A;go_wp2_with fail;refine B.o.mono ?_;rintro e w2 ⟨rfl,n2,a1⟩;have H2:Hid (EN w2 Dg off d):=Jy (by rw[a1];exact Jo H1.o hne);have ac:Hid (Holds (Value.int .i64) w2 sb so (one r2.2.2)):=Jy (by rw[a1];exact Lt a5.o);have C:=Jy (UF Dg off cap r1.1 r2.1 sb so r2.2.2 d w2 H2.o l1.1 l2.1 ac.o (by omega) hsz);rw[<-aa.o]at C;have a7:Hid (w2=putRow (Value.int .i64) (Sort.ahead w (n1+n2)) sb so (one r2.2.2)):=Jy (by rw[a1,a8.o,one_one]);clear a1 B
 go_wp2_with fail;refine C.o.mono ?_;rintro e w3 ⟨rfl,n3,a6⟩;have a9:Hid (w3=putRow (Value.int .i64) (Sort.ahead w (n1+n2+n3)) sb so (one r3.2.2)):=Jy (by rw[a6,a7.o,one_one]);clear a6 C;go_wp2;go_ret
 exact⟨by rw[HM.o];rfl,n1+n2+n3,by rw[HM.o];exact a9.o⟩
theorem Vs(Dg off cap a sb so s:Nat)(d:Array Int)(w:D7)(hH:EN w Dg off d)(ha:1<=a)(hb:a+1<d.size)(hne:sb≠Dg)(hS:Holds (Value.int .i64) w sb so (one s))(hs:s<=900)(hsz:d.size<=1000000) :
 Calls prog 335 #[.slice (some ⟨Dg,off,none⟩) d.size cap,.int .i64 a,.pointer (some ⟨sb,so,none⟩)] w λe w' =>
  e=.returned (.int .i64 ((medianAdjacent ltInt d a s).1:Nat))/\∃n,w'=putRow (Value.int .i64) (Sort.ahead w n) sb so (one (medianAdjacent ltInt d a s).2):=by
 have A:=Jy (Ug Dg off cap (a - 1) a (a+1) sb so s d w hH (by omega) (by omega) hb hne hS hs hsz);have h1:(a:Int) - 1=((a - 1:Nat):Int):=by omega
 have HM:Hid (medianAdjacent ltInt d a s=median ltInt d (a - 1) a (a+1) s):=Jy rfl;obtain⟨r,hr⟩:=Jq (median ltInt d (a - 1) a (a+1) s);rw[<-hr]at A HM;obtain⟨p,hp⟩:=Jq (a - 1);rw[<-hp]at A h1;clear hH hS hr hp;go_enter func335,ntmps335
 go_wp2_with fail;refine A.o.mono ?_;rintro e w1 ⟨rfl,n1,a0⟩;have a1:=Jy a0;clear a0 A;go_wp2;go_ret
 exact⟨by rw[HM.o];rfl,n1,by rw[HM.o];exact a1.o⟩
variable {a b l q:Nat} {d:Array Int}
def Of:Hint->Nat
 | .unknown=>0
 | .increasing=>1
 | .decreasing=>2
theorem Vz(d:Array Int){c n:Nat}(s:Nat)(ha:a<n)(hb:b<n)(hc:c<n):(median ltInt d a b c s).1<n:=by
 have h1:=order2_lt d s ha hb;have h2:=order2_lt d (order2 ltInt d a b s).2.2 h1.2 hc;exact(order2_lt d (order2 ltInt d (order2 ltInt d a b s).2.1 c (order2 ltInt d a b s).2.2).2.2 h1.1 h2.1).2
theorem Qs(d:Array Int)(a b c s:Nat):(median ltInt d a b c s).2<=s+3:=by
 have h1:=Rv d a b s;have h2:=Rv d (order2 ltInt d a b s).2.1 c (order2 ltInt d a b s).2.2;have h3:=Rv d (order2 ltInt d a b s).1 (order2 ltInt d (order2 ltInt d a b s).2.1 c (order2 ltInt d a b s).2.2).1 (order2 ltInt d (order2 ltInt d a b s).2.1 c (order2 ltInt d a b s).2.2).2.2;show(order2 ltInt d _ _ _).2.2<=_;omega
theorem lU(w:D7)(n s:Nat):∃os,putRow (Value.int .i64) (Sort.ahead (w.alloc (.cells #[.int .i64 0] 3)) n) w.heap.size 0 (one s)=grow (Sort.ahead w n) os:=by
 rw[alloc_eq_grow,ahead_grow];obtain⟨os,_,h⟩:=putRow_grow_new (Value.int .i64) (Sort.ahead w n) #[.cells #[.int .i64 0] 3] w.heap.size 0 (one s) (AB _);exact⟨os,h⟩
theorem gN(w:D7):Holds (Value.int .i64) (w.alloc (.cells #[.int .i64 0] 3)) w.heap.size 0 (one 0):=λj hj=>by
 have:j=0:=by simp[one]at hj;omega
 subst this;exact⟨by simp[one],by simp⟩
def hintOf(s:Nat):Hint:=if s=0 then .increasing else if s=12 then .decreasing else .unknown
theorem qX(hl:l=b - a)(hq:q=l/4)(h8:¬8<=l):choosePivot ltInt d a b=(a+q*2,hintOf 0):=by
 subst hq hl;simp[choosePivot,hintOf,h8]
theorem kz(hl:l=b - a)(hq:q=l/4)(h8:8<=l)(h50:¬50<=l):choosePivot ltInt d a b=((median ltInt d (a+q) (a+q*2) (a+q*3) 0).1,hintOf (median ltInt d (a+q) (a+q*2) (a+q*3) 0).2):=by
 subst hq hl;simp[choosePivot,hintOf,h8,h50]
theorem mH{i j k:Nat}{r1 r2 r3 r4:Nat × Nat}(hl:l=b - a)(hq:q=l/4)(h50:50<=l)(hi:i=a+q)(hj:j=a+q*2)(hk:k=a+q*3)(h1:r1=medianAdjacent ltInt d i 0)(h2:r2=medianAdjacent ltInt d j r1.2)(h3:r3=medianAdjacent ltInt d k r2.2)(h4:r4=median ltInt d r1.1 r2.1 r3.1 r3.2):choosePivot ltInt d a b=(r4.1,hintOf r4.2):=by
 subst h4 h3 h2 h1 hk hj hi hq hl;have h8:8<=b - a:=by omega
 simp[choosePivot,hintOf,h8,h50]
theorem Pr(Dg off cap a b:Nat)(d:Array Int)(w:D7)(hH:EN w Dg off d)(hab:a<b)(hb:b<=d.size)(hblk:Dg<w.heap.size)(hsz:d.size<=1000000) :
 Calls prog 320 #[.slice (some ⟨Dg,off,none⟩) d.size cap,.int .i64 a,.int .i64 b] w λe w' =>
  e=.returned (.tuple #[.int .i64 ((choosePivot ltInt d a b).1:Nat),.int .i64 (Of (choosePivot ltInt d a b).2:Nat)])/\∃n os,w'=grow (Sort.ahead w n) os:=by
 obtain⟨l,hl⟩:=Jq (b - a);have h1:(b:Int) - (a:Nat)=(l:Nat):=by omega
 obtain⟨q,hq⟩:=Jq (l/4);have h2:Int.tdiv (l:Nat) 4=(q:Nat):=by rw[BX (by omega)];omega
 have aG:a+l<=d.size:=by omega
 have aH:q*4<=l:=by omega
 obtain⟨z,hz⟩:=Jq w.heap.size;obtain⟨W1,a2⟩:=Jq (w.alloc (.cells #[.int .i64 0] 3));have H1:Hid (EN W1 Dg off d):=Jy (by rw[a2,alloc_eq_grow];exact holds_grow _ _ _ _ _ _ hblk hH);have a6:Hid (Holds (Value.int .i64) W1 z 0 (one 0)):=Jy (by rw[a2,hz];exact gN w);have a1:z≠Dg:=by omega
 have Hg:Hid (∀n s,∃os,putRow (Value.int .i64) (Sort.ahead W1 n) z 0 (one s)=grow (Sort.ahead w n) os):=Jy (λn s=>by rw[a2,hz];exact lU w n s);have aC:Hid (∃os,W1=grow (Sort.ahead w 0) os):=Jy ⟨_,by rw[a2,alloc_eq_grow];rfl⟩;have aj:=Jy a2;have Hz:=Jy hz;have Hl:=Jy hl;have Hq:=Jy hq;clear hH a2 hz hl hq;by_cases ar:8<=l
 ·have af:(8:Int)<=(l:Nat):=by omega
  by_cases a4:50<=l
  ·have a5:(50:Int)<=(l:Nat):=by omega
   obtain⟨i,hi⟩:=Jq (a+q);obtain⟨j,hj⟩:=Jq (a+q*2);obtain⟨k,hk⟩:=Jq (a+q*3);have e1:(a:Int)+(q:Int)=(i:Nat):=by omega
   have e2:(a:Int)+(q:Int)*2=(j:Nat):=by omega
   have e3:(a:Int)+(q:Int)*3=(k:Nat):=by omega
   have aB:12<=q:=by have:=Hq.o;omega
   obtain⟨r1,aa⟩:∃r,r=medianAdjacent ltInt d i 0:=⟨_,rfl⟩;obtain⟨r2,a9⟩:∃r,r=medianAdjacent ltInt d j r1.2:=⟨_,rfl⟩;obtain⟨r3,ac⟩:∃r,r=medianAdjacent ltInt d k r2.2:=⟨_,rfl⟩;obtain⟨r4,ah⟩:∃r,r=median ltInt d r1.1 r2.1 r3.1 r3.2:=⟨_,rfl⟩;have HC:Hid (choosePivot ltInt d a b=(r4.1,hintOf r4.2)):=Jy (mH Hl.o Hq.o a4 hi hj hk aa a9 ac ah);have b1:r1.1<d.size/\r1.2<=3:=by rw[aa];exact⟨Vz d 0 (by omega) (by omega) (by omega),Qs d _ _ _ 0⟩
   have b2:r2.1<d.size/\r2.2<=6:=by rw[a9];exact⟨Vz d _ (by omega) (by omega) (by omega),by have:=Qs d (j - 1) j (j+1) r1.2;exact AF this (by omega)⟩
   have b3:r3.1<d.size/\r3.2<=9:=by rw[ac];exact⟨Vz d _ (by omega) (by omega) (by omega),by have:=Qs d (k - 1) k (k+1) r2.2;exact AF this (by omega)⟩
   have A:=Jy (Vs Dg off cap i z 0 0 d W1 H1.o (by omega) (by omega) a1 a6.o (by omega) hsz);rw[<-aa]at A;have aF:=Jy a9;have ay:=Jy ac;have az:=Jy ah;have Hi:Hid (1<=i/\i+1<d.size/\1<=j/\j+1<d.size/\1<=k/\k+1<d.size):=Jy (by omega);clear aa a9 ac ah hi hj hk aB;go_enter func320,ntmps320
   go_wp2_with (first | (rw[<-aj.o,<-Hz.o]) | fail);refine A.o.mono ?_;rintro e w2 ⟨rfl,n1,a8⟩;have H2:Hid (EN w2 Dg off d):=Jy (by rw[a8];exact Jo H1.o a1);have au:Hid (Holds (Value.int .i64) w2 z 0 (one r1.2)):=Jy (by rw[a8];exact Lt a6.o);have A2:=Jy (Vs Dg off cap j z 0 r1.2 d w2 H2.o Hi.o.2.2.1 Hi.o.2.2.2.1 a1 au.o (by omega) hsz);rw[<-aF.o]at A2;have a7:=Jy a8;clear a8 A e1 e2 e3;go_wp2_with fail;refine A2.o.mono ?_;rintro e w3 ⟨rfl,n2,ae⟩;have H3:Hid (EN w3 Dg off d):=Jy (by rw[ae];exact Jo H2.o a1);have av:Hid (Holds (Value.int .i64) w3 z 0 (one r2.2)):=Jy (by rw[ae];exact Lt au.o);have A3:=Jy (Vs Dg off cap k z 0 r2.2 d w3 H3.o Hi.o.2.2.2.2.1 Hi.o.2.2.2.2.2 a1 av.o (by omega) hsz);rw[<-ay.o]at A3
   have aD:Hid (w3=putRow (Value.int .i64) (Sort.ahead W1 (n1+n2)) z 0 (one r2.2)):=Jy (by rw[ae,a7.o,one_one]);clear ae A2;go_wp2_with fail;refine A3.o.mono ?_;rintro e w4 ⟨rfl,n3,ad⟩;have H4:Hid (EN w4 Dg off d):=Jy (by rw[ad];exact Jo H3.o a1);have ax:Hid (Holds (Value.int .i64) w4 z 0 (one r3.2)):=Jy (by rw[ad];exact Lt av.o);have A4:=Jy (Ug Dg off cap r1.1 r2.1 r3.1 z 0 r3.2 d w4 H4.o b1.1 b2.1 b3.1 a1 ax.o (by omega) hsz);have a0:=Qs d r1.1 r2.1 r3.1 r3.2;rw[<-az.o]at A4 a0;have aA:Hid (w4=putRow (Value.int .i64) (Sort.ahead W1 (n1+n2+n3)) z 0 (one r3.2)):=Jy (by rw[ad,aD.o,one_one]);clear ad A3;go_wp2_with fail;refine A4.o.mono ?_;rintro e w5 ⟨rfl,n4,ag⟩;have c1:w5.cell? ⟨z,0,none⟩=some (.int .i64 r4.2):=by rw[ag];exact(one_cell (Lt ax.o)).1
   have ao:Hid (w5=putRow (Value.int .i64) (Sort.ahead W1 (n1+n2+n3+n4)) z 0 (one r4.2)):=Jy (by rw[ag,aA.o,one_one]);clear ag A4;obtain⟨t,ht⟩:=Jq r4.2;rw[<-ht]at c1 a0;have Ht:=Jy ht;clear ht;by_cases a3:t=0
   ·subst a3;go_wp2;go_ret2
    refine⟨by rw[HC.o,<-Ht.o];rfl,n1+n2+n3+n4,?_⟩;rw[ao.o];exact Hg.o _ _
   have ai:((t:Int)==0)=false:=by simpa using a3
   by_cases aw:t=12
   ·subst aw;go_wp2;go_ret2
    refine⟨by rw[HC.o,<-Ht.o];rfl,n1+n2+n3+n4,?_⟩;rw[ao.o];exact Hg.o _ _
   have aE:((t:Int)==12)=false:=by simp;omega
   go_wp2;go_ret2
   refine⟨by rw[HC.o,<-Ht.o];unfold hintOf;rw[AC a3,AC aw];rfl,n1+n2+n3+n4,?_⟩;rw[ao.o];exact Hg.o _ _
  have a5:¬(50:Int)<=(l:Nat):=by omega
  obtain⟨i,hi⟩:=Jq (a+q);obtain⟨j,hj⟩:=Jq (a+q*2);obtain⟨k,hk⟩:=Jq (a+q*3);have e1:(a:Int)+(q:Int)=(i:Nat):=by omega
  have e2:(a:Int)+(q:Int)*2=(j:Nat):=by omega
  have e3:(a:Int)+(q:Int)*3=(k:Nat):=by omega
  have A:=Jy (Ug Dg off cap i j k z 0 0 d W1 H1.o (by omega) (by omega) (by omega) a1 a6.o (by omega) hsz);obtain⟨r,hr⟩:=Jq (median ltInt d i j k 0);have a0:=Qs d i j k 0;rw[<-hr]at A a0;have HC:Hid (choosePivot ltInt d a b=(r.1,hintOf r.2)):=Jy (by rw[kz Hl.o Hq.o ar a4,<-hi,<-hj,<-hk,<-hr]);clear hr hi hj hk;go_enter func320,ntmps320
  go_wp2_with (first | (rw[<-aj.o,<-Hz.o]) | fail);refine A.o.mono ?_;rintro e w1 ⟨rfl,n1,an⟩;have c1:w1.cell? ⟨z,0,none⟩=some (.int .i64 r.2):=by rw[an];exact(one_cell (Lt a6.o)).1
  have a7:=Jy an;clear an A;obtain⟨t,ht⟩:=Jq r.2;rw[<-ht]at c1 a0;have Ht:=Jy ht;clear ht;by_cases a3:t=0
  ·subst a3;go_wp2;go_ret2
   refine⟨by rw[HC.o,<-Ht.o];rfl,n1,?_⟩;rw[a7.o];exact Hg.o _ _
  have am:(t:Int)≠0:=by omega
  have ai:((t:Int)==0)=false:=by simpa using am
  have aE:((t:Int)==12)=false:=by simp;omega
  go_wp2;go_ret2
  refine⟨by rw[HC.o,<-Ht.o];unfold hintOf;rw[AC a3,AC (by omega)];rfl,n1,?_⟩;rw[a7.o];exact Hg.o _ _
 have af:¬(8:Int)<=(l:Nat):=by omega
 obtain⟨j,hj⟩:=Jq (a+q*2);have e2:(a:Int)+(q:Int)*2=(j:Nat):=by omega
 have HC:Hid (choosePivot ltInt d a b=(j,hintOf 0)):=Jy (by rw[qX Hl.o Hq.o ar,<-hj]);have c1:W1.cell? ⟨z,0,none⟩=some (.int .i64 0):=(one_cell a6.o).1;clear hj;go_enter func320,ntmps320
 go_wp2_with (first | (rw[<-aj.o,<-Hz.o]) | fail);go_ret2
 exact⟨by rw[HC.o];rfl,0,aC.o⟩
variable {w:D7} {Dg off n:Nat} {d dk:Array Int}
theorem ME{wr:D7}(hH:EN w Dg off d)(hs:dk.size=d.size)(hw:wr=EH w n Dg off dk):(∀t,t<d.size->wr.cell? ⟨Dg,off+t,none⟩=some (.int .u32 dk[t]!))/\(∀t,t<d.size->wr.frozen? ⟨Dg,off+t,none⟩=false):=by
 subst hw;exact⟨λt ht=>OX hH hs t ht,λt ht=>O6 hH t ht⟩
theorem JL{wr:D7}(hw:wr=EH w n Dg off dk)(q:Nat):wr.drewN q=EH w (n+q) Dg off dk:=by
 rw[hw];exact putRow_drewN _ _ _ _ _ _ _
theorem GC{wr:D7}{i j:Nat}(hw:wr=EH w n Dg off dk)(hi:i<dk.size)(hj:j<dk.size):((wr.setCell ⟨Dg,off+i,none⟩ (.int .u32 dk[j]!)).setCell ⟨Dg,off+j,none⟩ (.int .u32 dk[i]!)).drew=EH w (n+1) Dg off (swp dk i j):=by
 subst hw;exact swap_worldA (Value.int .u32) w n 1 Dg off dk i j hi hj
theorem PF(hH:EN w Dg off d):w=EH w 0 Dg off d:=(putRow_self _ _ _ _ _ hH).symm
theorem fc(Dg off cap a b pivot:Nat)(d:Array Int)(w:D7)(hH:EN w Dg off d)(hap:a<=pivot)(hpb:pivot<b)(hb:b<=d.size)(hsz:d.size<=1000000) :
 Calls prog 324 #[.slice (some ⟨Dg,off,none⟩) d.size cap,.int .i64 a,.int .i64 b,.int .i64 pivot] w λe w' =>
  e=.returned (.int .i64 ((partitionEqual ltInt d a b pivot).1:Nat))/\∃n,w'=EH w n Dg off (partitionEqual ltInt d a b pivot).2:=by
 obtain⟨G0,aa⟩:∃G:Nat->Int,∀t,G t=d[t]! := ⟨λt=>d[t]!,λ_=>rfl⟩;have a1:∀t,t<d.size->w.cell? ⟨Dg,off+t,none⟩=some (.int .u32 (G0 t)):=λt ht=>by rw[aa];exact(hH t ht).1
 have a6:∀t,t<d.size->w.frozen? ⟨Dg,off+t,none⟩=false:=λt ht=>(hH t ht).2
 have a7:=Jy aa;have HH:=Jy hH;clear aa hH;go_enter func324,ntmps324
 go_upto_region 1 with fail
 go_cut []from 11 (λwx=>∃n,wx=EH w n Dg off (swp d a pivot))
 case first =>
  by_cases ac:pivot=a
  ·subst ac;go_region
   all_goals go_wp2
   all_goals go_meet
   refine⟨1,?_⟩;rw[a7.o];exact(GC (PF HH.o) (by omega) (by omega)).trans (by rw[Ao])
  have am:¬a=pivot:=λh=>ac h.symm
  go_region
  all_goals go_wp2
  all_goals go_meet
  refine⟨1,?_⟩;rw[a7.o,a7.o];exact(GC (PF HH.o) (by omega) (by omega)).trans (by rw[Ao])
 case rest =>
 obtain⟨n0,ad⟩:=hcut;have aj:=Jy ad;clear ad a1 a6;go_wp2_with fail
 go_loopg [9,10] (b - a) (λk vi vj wr=>∃(i j n:Nat) (dk:Array Int),vi=.int .i64 i/\vj=.int .i64 j/\a<i/\i<=j+1/\j<b/\j+1 - i<=k/\dk.size=d.size/\wr=EH w n Dg off dk/\Hid (partEqLoop ltInt a i j dk=partitionEqual ltInt d a b pivot))
 case atStart=>exact⟨a+1,b - 1,n0,swp d a pivot,by go_num,by congr 1;omega,by omega,by omega,by omega,by omega,size_swp _ _ _,aj.o,Jy rfl⟩
 case round =>
  obtain⟨i,j,n,dk,rfl,rfl,az,av,ax,hk,a5,af,HE⟩:=hrel;obtain⟨G,hG⟩:∃G:Nat->Int,∀t,G t=dk[t]! := ⟨λt=>dk[t]!,λ_=>rfl⟩;have HG:=Jy hG;have HW:=Jy af;clear af hG;go_upto_block 2 with fail
  go_cut [9]from 29 to 82 (λs9 wx=>∃(i2 m:Nat),s9=.int .i64 i2/\i<=i2/\i2<=j+1/\wx=EH w m Dg off dk/\Hid (i2=scanUp (λx => !ltInt dk[a]! x) dk j i))
  case first =>
   go_wp2_with fail
   go_loopg [9] (j+1 - i) (λk vi w1=>∃(i' m:Nat),vi=.int .i64 i'/\i<=i'/\i'<=j+1/\j+1 - i'<=k/\w1=EH w m Dg off dk/\Hid (scanUp (λx => !ltInt dk[a]! x) dk j i'=scanUp (λx => !ltInt dk[a]! x) dk j i))
   case atStart=>exact⟨i,n,rfl,by omega,by omega,by omega,HW.o,Jy rfl⟩
   case round =>
    obtain⟨i',m,rfl,h1,h2,h3,a3,HS⟩:=hrel;obtain⟨a1,a6⟩:=ME HH.o a5 a3;simp only[<-HG.o]at a1;have a2:=Jy a3;clear a3;by_cases a4:i'<=j
    ·have a0:(i':Int)<=(j:Nat):=by omega
     go_wp2_with fail
     go_quiet (first | (go_at_call 323;refine Ac (Ek _ _ _)))
     go_wp2_with fail
     ·have hl:(!ltInt (G a) (G i'))=true:=by assumption
      go_roundg (j+1 - (i'+1))
      case measure=>omega
      case rel=>exact⟨i'+1,m+nq,by go_num,by omega,by omega,by omega,JL a2.o nq,Jy (by rw[<-HS.o,scanUp_go _ _ _ _ a4 (by rw[<-HG.o,<-HG.o];exact hl)])⟩
     have hl:(!ltInt (G a) (G i'))=false:=by assumption
     go_meet
     case rel=>exact⟨i',m+nq,rfl,h1,h2,JL a2.o nq,Jy (by rw[<-HS.o,scanUp_end _ _ _ _ (Or.inr (by rw[<-HG.o,<-HG.o];exact hl))])⟩
    have a0:decide ((i':Int)<=(j:Nat))=false:=Bc (by omega);go_wp2_with fail
    go_quiet (first | (go_at_call 323;refine Ac (Ek _ _ _)))
    go_wp2_with fail;go_meet
    case rel=>exact⟨i',m+nq,rfl,h1,h2,JL a2.o nq,Jy (by rw[<-HS.o,scanUp_end _ _ _ _ (Or.inl a4)])⟩
  case rest =>
   obtain⟨i2,m2,rfl,aA,ao,ae,HI⟩:=hcut;have ai:=Jy ae;clear ae;go_upto_block 4 with fail
   go_cut [10]from 29 to 82 (λau wx=>∃(j2 m:Nat),au=.int .i64 j2/\j2<=j/\i2<=j2+1/\wx=EH w m Dg off dk/\Hid (j2=scanDown (λx=>ltInt dk[a]! x) dk i2 j))
   case first =>
    go_wp2_with fail
    go_loopg [10] (j+1 - i2) (λk vj w1=>∃(j' m:Nat),vj=.int .i64 j'/\j'<=j/\i2<=j'+1/\j'+1 - i2<=k/\w1=EH w m Dg off dk/\Hid (scanDown (λx=>ltInt dk[a]! x) dk i2 j'=scanDown (λx=>ltInt dk[a]! x) dk i2 j))
    case atStart=>exact⟨j,m2,rfl,by omega,by omega,by omega,ai.o,Jy rfl⟩
    case round =>
     obtain⟨j',m,rfl,h1,h2,h3,a3,HS⟩:=hrel;obtain⟨a1,a6⟩:=ME HH.o a5 a3;simp only[<-HG.o]at a1;have a2:=Jy a3;clear a3;by_cases a4:i2<=j'
     ·have a0:(i2:Int)<=(j':Nat):=by omega
      go_wp2_with fail
      go_quiet (first | (go_at_call 323;refine Ac (Ek _ _ _)))
      go_wp2_with fail
      ·have hl:ltInt (G a) (G j')=true:=by assumption
       go_roundg (j'+1 - 1 - i2)
       case measure=>omega
       case rel=>exact⟨j' - 1,m+nq,by congr 1;omega,by omega,by omega,by omega,JL a2.o nq,Jy (by rw[<-HS.o,scanDown_go _ _ _ _ a4 (by omega) (by rw[<-HG.o,<-HG.o];exact hl)])⟩
      have hl:ltInt (G a) (G j')=false:=by assumption
      go_meet
      case rel=>exact⟨j',m+nq,rfl,h1,h2,JL a2.o nq,Jy (by rw[<-HS.o,scanDown_end _ _ _ _ (Or.inr (by rw[<-HG.o,<-HG.o];exact hl))])⟩
     have a0:decide ((i2:Int)<=(j':Nat))=false:=Bc (by omega);go_wp2_with fail
     go_quiet (first | (go_at_call 323;refine Ac (Ek _ _ _)))
     go_wp2_with fail;go_meet
     case rel=>exact⟨j',m+nq,rfl,h1,h2,JL a2.o nq,Jy (by rw[<-HS.o,scanDown_end _ _ _ _ (Or.inl a4)])⟩
   case rest =>
    obtain⟨j2,m3,rfl,aw,ar,a9,HJ⟩:=hcut;obtain⟨a1,a6⟩:=ME HH.o a5 a9;simp only[<-HG.o]at a1;have ah:=Jy a9;clear a9;by_cases ag:j2<i2
    ·have a8:(j2:Int)<(i2:Nat):=by omega
     go_wp2_with fail;go_ret
     have e:=partEq_break ltInt a i j dk HI.o HJ.o ag;rw[HE.o]at e;rw[e];exact⟨rfl,m3,ah.o⟩
    have ay:i2<j2:=scans_lt ltInt a i j dk (by omega) HI.o HJ.o (by omega);have a8:¬(j2:Int)<(i2:Nat):=by omega
    have am:¬i2=j2:=by omega
    have an:¬j2=i2:=by omega
    go_wp2_with fail;go_region
    all_goals go_wp2_with fail
    go_roundg (j2 - 1+1 - (i2+1))
    case measure=>omega
    refine⟨i2+1,j2 - 1,m3+1,swp dk i2 j2,by go_num,by congr 1;omega,by omega,by omega,by omega,by omega,by rw[size_swp];exact a5,?_,Jy ?_⟩
    ·rw[HG.o,HG.o];exact GC ah.o (by omega) (by omega)
    rw[<-HE.o,partEq_go ltInt a i j dk HI.o HJ.o ag]
theorem Qn(Dg off cap a b pivot:Nat)(d:Array Int)(w:D7)(hH:EN w Dg off d)(hap:a<=pivot)(hpb:pivot<b)(hb:b<=d.size)(hsz:d.size<=1000000) :
 Calls prog 325 #[.slice (some ⟨Dg,off,none⟩) d.size cap,.int .i64 a,.int .i64 b,.int .i64 pivot] w λe w' =>
  e=.returned (.tuple #[.int .i64 ((partition ltInt d a b pivot).1:Nat),.bool (partition ltInt d a b pivot).2.1])/\∃n,w'=EH w n Dg off (partition ltInt d a b pivot).2.2:=by
 obtain⟨G0,ax⟩:∃G:Nat->Int,∀t,G t=d[t]! := ⟨λt=>d[t]!,λ_=>rfl⟩;have a3:∀t,t<d.size->w.cell? ⟨Dg,off+t,none⟩=some (.int .u32 (G0 t)):=λt ht=>by rw[ax];exact(hH t ht).1
 have a7:∀t,t<d.size->w.frozen? ⟨Dg,off+t,none⟩=false:=λt ht=>(hH t ht).2
 have am:=Jy ax;have HH:=Jy hH;clear ax hH;go_enter func325,ntmps325
 go_upto_region 1 with fail
 go_cut []from 12 (λwx=>∃n,wx=EH w n Dg off (swp d a pivot))
 case first =>
  by_cases az:pivot=a
  ·subst az;go_region
   all_goals go_wp2
   all_goals go_meet
   refine⟨1,?_⟩;rw[am.o];exact(GC (PF HH.o) (by omega) (by omega)).trans (by rw[Ao])
  have an:¬a=pivot:=λh=>az h.symm
  go_region
  all_goals go_wp2
  all_goals go_meet
  refine⟨1,?_⟩;rw[am.o,am.o];exact(GC (PF HH.o) (by omega) (by omega)).trans (by rw[Ao])
 case rest =>
 obtain⟨n0,aB⟩:=hcut;have aj:=Jy aB;clear aB a3 a7;obtain⟨dk,ai⟩:=Jq (swp d a pivot);have a5:dk.size=d.size:=by rw[ai];exact size_swp _ _ _
 rw[<-ai]at aj;have aw:=Jy ai;clear ai;obtain⟨G,hG⟩:∃G:Nat->Int,∀t,G t=dk[t]! := ⟨λt=>dk[t]!,λ_=>rfl⟩;have HG:=Jy hG;clear hG;obtain⟨i,hi⟩:=Jq (a+1);obtain⟨j,hj⟩:=Jq (b - 1);have ei:(a:Int)+1=(i:Nat):=by omega
 have ej:(b:Int) - 1=(j:Nat):=by omega
 have aG:a<i:=by omega
 have ay:i<=j+1:=by omega
 have aD:j<b:=by omega
 have Hi:=Jy hi;have Hj:=Jy hj;clear hi hj;go_upto_block 0 with fail
 go_cut [10]from 30 to 167 (λav wx=>∃(i2 m:Nat),av=.int .i64 i2/\i<=i2/\i2<=j+1/\wx=EH w m Dg off dk/\Hid (i2=scanUp (λx=>ltInt x dk[a]!) dk j i))
 case first =>
  go_wp2_with fail
  go_loopg [10] (j+1 - i) (λk vi w1=>∃(i' m:Nat),vi=.int .i64 i'/\i<=i'/\i'<=j+1/\j+1 - i'<=k/\w1=EH w m Dg off dk/\Hid (scanUp (λx=>ltInt x dk[a]!) dk j i'=scanUp (λx=>ltInt x dk[a]!) dk j i))
  case atStart=>exact⟨i,n0,by rfl,by omega,by omega,by omega,aj.o,Jy rfl⟩
  case round =>
   obtain⟨i',m,rfl,h1,h2,h3,a2,HS⟩:=hrel;obtain⟨a3,a7⟩:=ME HH.o a5 a2;simp only[<-HG.o]at a3;have a1:=Jy a2;clear a2;by_cases a4:i'<=j
   ·have a0:(i':Int)<=(j:Nat):=by omega
    go_wp2_with fail
    go_quiet (first | (go_at_call 323;refine Ac (Ek _ _ _)))
    go_wp2_with fail
    ·have hl:ltInt (G i') (G a)=true:=by assumption
     go_roundg (j+1 - (i'+1))
     case measure=>omega
     case rel=>exact⟨i'+1,m+nq,by go_num,by omega,by omega,by omega,JL a1.o nq,Jy (by rw[<-HS.o,scanUp_go _ _ _ _ a4 (by rw[<-HG.o,<-HG.o];exact hl)])⟩
    have hl:ltInt (G i') (G a)=false:=by assumption
    go_meet
    case rel=>exact⟨i',m+nq,rfl,h1,h2,JL a1.o nq,Jy (by rw[<-HS.o,scanUp_end _ _ _ _ (Or.inr (by rw[<-HG.o,<-HG.o];exact hl))])⟩
   have a0:decide ((i':Int)<=(j:Nat))=false:=Bc (by omega);go_wp2_with fail
   go_quiet (first | (go_at_call 323;refine Ac (Ek _ _ _)))
   go_wp2_with fail;go_meet
   case rel=>exact⟨i',m+nq,rfl,h1,h2,JL a1.o nq,Jy (by rw[<-HS.o,scanUp_end _ _ _ _ (Or.inl a4)])⟩
 case rest =>
 obtain⟨i2,m2,rfl,aC,ae,ac,HI⟩:=hcut;have ah:=Jy ac;clear ac;go_upto_block 2 with fail
 go_cut [11]from 30 to 167 (λao wx=>∃(j2 m:Nat),ao=.int .i64 j2/\j2<=j/\i2<=j2+1/\wx=EH w m Dg off dk/\Hid (j2=scanDown (λx => !ltInt x dk[a]!) dk i2 j))
 case first =>
  go_wp2_with fail
  go_loopg [11] (j+1 - i2) (λk vj w1=>∃(j' m:Nat),vj=.int .i64 j'/\j'<=j/\i2<=j'+1/\j'+1 - i2<=k/\w1=EH w m Dg off dk/\Hid (scanDown (λx => !ltInt x dk[a]!) dk i2 j'=scanDown (λx => !ltInt x dk[a]!) dk i2 j))
  case atStart=>exact⟨j,m2,rfl,by omega,by omega,by omega,ah.o,Jy rfl⟩
  case round =>
   obtain⟨j',m,rfl,h1,h2,h3,a2,HS⟩:=hrel;obtain⟨a3,a7⟩:=ME HH.o a5 a2;simp only[<-HG.o]at a3;have a1:=Jy a2;clear a2;by_cases a4:i2<=j'
   ·have a0:(i2:Int)<=(j':Nat):=by omega
    go_wp2_with fail
    go_quiet (first | (go_at_call 323;refine Ac (Ek _ _ _)))
    go_wp2_with fail
    ·have hl:(!ltInt (G j') (G a))=true:=by assumption
     go_roundg (j'+1 - 1 - i2)
     case measure=>omega
     case rel=>exact⟨j' - 1,m+nq,by congr 1;omega,by omega,by omega,by omega,JL a1.o nq,Jy (by rw[<-HS.o,scanDown_go _ _ _ _ a4 (by omega) (by rw[<-HG.o,<-HG.o];exact hl)])⟩
    have hl:(!ltInt (G j') (G a))=false:=by assumption
    go_meet
    case rel=>exact⟨j',m+nq,rfl,h1,h2,JL a1.o nq,Jy (by rw[<-HS.o,scanDown_end _ _ _ _ (Or.inr (by rw[<-HG.o,<-HG.o];exact hl))])⟩
   have a0:decide ((i2:Int)<=(j':Nat))=false:=Bc (by omega);go_wp2_with fail
   go_quiet (first | (go_at_call 323;refine Ac (Ek _ _ _)))
   go_wp2_with fail;go_meet
   case rel=>exact⟨j',m+nq,rfl,h1,h2,JL a1.o nq,Jy (by rw[<-HS.o,scanDown_end _ _ _ _ (Or.inl a4)])⟩
 case rest =>
 obtain⟨j2,m3,rfl,aA,af,a9,HJ⟩:=hcut;obtain⟨a3,a7⟩:=ME HH.o a5 a9;simp only[<-HG.o]at a3;have a8:=Jy a9;clear a9;by_cases aa:j2<i2
 ·have a6:(j2:Int)<(i2:Nat):=by omega
  have HP:=Jy (part_first_break ltInt d a b pivot Hi.o Hj.o aw.o HI.o HJ.o aa);by_cases ag:j2=a
  ·subst ag;go_wp2_with fail;go_region
   all_goals go_wp2_with fail
   go_ret2
   rw[HP.o];refine⟨rfl,m3+1,?_⟩;rw[HG.o];exact GC a8.o (by omega) (by omega)
  have ar:¬a=j2:=λh=>ag h.symm
  go_wp2_with fail;go_region
  all_goals go_wp2_with fail
  go_ret2
  rw[HP.o];refine⟨rfl,m3+1,?_⟩;rw[HG.o,HG.o];exact GC a8.o (by omega) (by omega)
 have aF:i2<j2:=part_scans_lt ltInt a i j dk (by omega) HI.o HJ.o (by omega);have a6:¬(j2:Int)<(i2:Nat):=by omega
 have an:¬i2=j2:=by omega
 have ad:¬j2=i2:=by omega
 obtain⟨r,hr⟩:=Jq (partLoop ltInt a (i2+1) (j2 - 1) (swp dk i2 j2));have HP:Hid (partition ltInt d a b pivot=(r.1,false,swp r.2 r.1 a)):=Jy (by rw[hr];exact part_first_go ltInt d a b pivot Hi.o Hj.o aw.o HI.o HJ.o aa);have Hr:=Jy hr;clear hr;go_wp2_with fail;go_region
 all_goals go_wp2_with fail
 have aE:=Jy (GC (i:=i2) (j:=j2) a8.o (by omega) (by omega));have au:=aE.o;rw[<-HG.o,<-HG.o]at au;rw[au];clear au a3 a7
 go_loopg [10,11] (b - a) (λk vi vj wr=>∃(i j n:Nat) (dk1:Array Int),vi=.int .i64 i/\vj=.int .i64 j/\a<i/\i<=j+1/\j<b/\j+1 - i<=k/\dk1.size=d.size/\wr=EH w n Dg off dk1/\Hid (partLoop ltInt a i j dk1=r))
 case atStart=>exact⟨i2+1,j2 - 1,m3+1,swp dk i2 j2,by go_num,by congr 1;omega,by omega,by omega,by omega,by omega,by rw[size_swp];exact a5,rfl,Jy Hr.o.symm⟩
 clear aE a8 HI HJ HG aw ah aj Hi Hj ei ej Hr aF a6 aa an ad af aA ae aC a5 aG ay aD;obtain⟨i,j,n,dk,rfl,rfl,aG,ay,aD,hk,a5,aI,HE⟩:=hrel;obtain⟨G,hG⟩:∃G:Nat->Int,∀t,G t=dk[t]! := ⟨λt=>dk[t]!,λ_=>rfl⟩;have HG:=Jy hG;have HW:=Jy aI;clear aI hG;go_upto_block 6 with fail
 go_cut [10]from 99 to 152 (λav wx=>∃(i2 m:Nat),av=.int .i64 i2/\i<=i2/\i2<=j+1/\wx=EH w m Dg off dk/\Hid (i2=scanUp (λx=>ltInt x dk[a]!) dk j i))
 case first =>
  go_wp2_with fail
  go_loopg [10] (j+1 - i) (λk vi w1=>∃(i' m:Nat),vi=.int .i64 i'/\i<=i'/\i'<=j+1/\j+1 - i'<=k/\w1=EH w m Dg off dk/\Hid (scanUp (λx=>ltInt x dk[a]!) dk j i'=scanUp (λx=>ltInt x dk[a]!) dk j i))
  case atStart=>exact⟨i,n,rfl,by omega,by omega,by omega,HW.o,Jy rfl⟩
  case round =>
   obtain⟨i',m,rfl,h1,h2,h3,a2,HS⟩:=hrel;obtain⟨a3,a7⟩:=ME HH.o a5 a2;simp only[<-HG.o]at a3;have a1:=Jy a2;clear a2;by_cases a4:i'<=j
   ·have a0:(i':Int)<=(j:Nat):=by omega
    go_wp2_with fail
    go_quiet (first | (go_at_call 323;refine Ac (Ek _ _ _)))
    go_wp2_with fail
    ·have hl:ltInt (G i') (G a)=true:=by assumption
     go_roundg (j+1 - (i'+1))
     case measure=>omega
     case rel=>exact⟨i'+1,m+nq,by go_num,by omega,by omega,by omega,JL a1.o nq,Jy (by rw[<-HS.o,scanUp_go _ _ _ _ a4 (by rw[<-HG.o,<-HG.o];exact hl)])⟩
    have hl:ltInt (G i') (G a)=false:=by assumption
    go_meet
    case rel=>exact⟨i',m+nq,rfl,h1,h2,JL a1.o nq,Jy (by rw[<-HS.o,scanUp_end _ _ _ _ (Or.inr (by rw[<-HG.o,<-HG.o];exact hl))])⟩
   have a0:decide ((i':Int)<=(j:Nat))=false:=Bc (by omega);go_wp2_with fail
   go_quiet (first | (go_at_call 323;refine Ac (Ek _ _ _)))
   go_wp2_with fail;go_meet
   case rel=>exact⟨i',m+nq,rfl,h1,h2,JL a1.o nq,Jy (by rw[<-HS.o,scanUp_end _ _ _ _ (Or.inl a4)])⟩
 case rest =>
 obtain⟨i2,m2,rfl,aC,ae,ac,HI⟩:=hcut;have ah:=Jy ac;clear ac;go_upto_block 8 with fail
 go_cut [11]from 99 to 152 (λao wx=>∃(j2 m:Nat),ao=.int .i64 j2/\j2<=j/\i2<=j2+1/\wx=EH w m Dg off dk/\Hid (j2=scanDown (λx => !ltInt x dk[a]!) dk i2 j))
 case first =>
  go_wp2_with fail
  go_loopg [11] (j+1 - i2) (λk vj w1=>∃(j' m:Nat),vj=.int .i64 j'/\j'<=j/\i2<=j'+1/\j'+1 - i2<=k/\w1=EH w m Dg off dk/\Hid (scanDown (λx => !ltInt x dk[a]!) dk i2 j'=scanDown (λx => !ltInt x dk[a]!) dk i2 j))
  case atStart=>exact⟨j,m2,rfl,by omega,by omega,by omega,ah.o,Jy rfl⟩
  case round =>
   obtain⟨j',m,rfl,h1,h2,h3,a2,HS⟩:=hrel;obtain⟨a3,a7⟩:=ME HH.o a5 a2;simp only[<-HG.o]at a3;have a1:=Jy a2;clear a2;by_cases a4:i2<=j'
   ·have a0:(i2:Int)<=(j':Nat):=by omega
    go_wp2_with fail
    go_quiet (first | (go_at_call 323;refine Ac (Ek _ _ _)))
    go_wp2_with fail
    ·have hl:(!ltInt (G j') (G a))=true:=by assumption
     go_roundg (j'+1 - 1 - i2)
     case measure=>omega
     case rel=>exact⟨j' - 1,m+nq,by congr 1;omega,by omega,by omega,by omega,JL a1.o nq,Jy (by rw[<-HS.o,scanDown_go _ _ _ _ a4 (by omega) (by rw[<-HG.o,<-HG.o];exact hl)])⟩
    have hl:(!ltInt (G j') (G a))=false:=by assumption
    go_meet
    case rel=>exact⟨j',m+nq,rfl,h1,h2,JL a1.o nq,Jy (by rw[<-HS.o,scanDown_end _ _ _ _ (Or.inr (by rw[<-HG.o,<-HG.o];exact hl))])⟩
   have a0:decide ((i2:Int)<=(j':Nat))=false:=Bc (by omega);go_wp2_with fail
   go_quiet (first | (go_at_call 323;refine Ac (Ek _ _ _)))
   go_wp2_with fail;go_meet
   case rel=>exact⟨j',m+nq,rfl,h1,h2,JL a1.o nq,Jy (by rw[<-HS.o,scanDown_end _ _ _ _ (Or.inl a4)])⟩
 case rest =>
 obtain⟨j2,m3,rfl,aA,af,a9,HJ⟩:=hcut;obtain⟨a3,a7⟩:=ME HH.o a5 a9;simp only[<-HG.o]at a3;have a8:=Jy a9;clear a9;by_cases aa:j2<i2
 ·have a6:(j2:Int)<(i2:Nat):=by omega
  have e:=part_break ltInt a i j dk HI.o HJ.o aa;rw[HE.o]at e;have aH:Hid (partition ltInt d a b pivot=(j2,false,swp dk j2 a)):=Jy (by rw[HP.o,e]);clear e;by_cases ag:j2=a
  ·subst ag;go_wp2_with fail;go_region
   all_goals go_wp2_with fail
   go_ret2
   rw[aH.o];refine⟨rfl,m3+1,?_⟩;rw[HG.o];exact GC a8.o (by omega) (by omega)
  have ar:¬a=j2:=λh=>ag h.symm
  go_wp2_with fail;go_region
  all_goals go_wp2_with fail
  go_ret2
  rw[aH.o];refine⟨rfl,m3+1,?_⟩;rw[HG.o,HG.o];exact GC a8.o (by omega) (by omega)
 have aF:i2<j2:=part_scans_lt ltInt a i j dk (by omega) HI.o HJ.o (by omega);have a6:¬(j2:Int)<(i2:Nat):=by omega
 have an:¬i2=j2:=by omega
 have ad:¬j2=i2:=by omega
 go_wp2_with fail;go_region
 all_goals go_wp2_with fail
 go_roundg (j2 - 1+1 - (i2+1))
 case measure=>omega
 refine⟨i2+1,j2 - 1,m3+1,swp dk i2 j2,by go_num,by congr 1;omega,by omega,by omega,by omega,by omega,by rw[size_swp];exact a5,?_,Jy ?_⟩
 ·rw[HG.o,HG.o];exact GC a8.o (by omega) (by omega)
 rw[<-HE.o,part_go ltInt a i j dk HI.o HJ.o aa]
end Go.Proofs.YtodmdkhdbfbfgaaGreatDoor.S1
