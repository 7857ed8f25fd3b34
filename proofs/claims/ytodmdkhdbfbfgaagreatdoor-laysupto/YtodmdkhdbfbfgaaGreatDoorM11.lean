/- Lemmas. -/
import Derived.Sort.WalkA6
import Derived.Shelf.SlSortCmp.Xorshift
import Derived.Shelf.Small.Bits
import Derived.Ground.SlsfProg
import Derived.Ground.NamesProg
import Derived.Sort.Walk7
import Derived.Sort.Walk13a
import Derived.Sort.AssemblyPlain
import Derived.Test.YtodmdkhdbfbfgaaGreatDoorM10
set_option linter.unusedVariables false
set_option linter.unusedSimpArgs false
set_option maxRecDepth 100000
set_option maxHeartbeats 8000000
open Go.Proofs.Tryz
abbrev Go.BP:=@Go.callsIn_wide
namespace Go.Proofs.YtodmdkhdbfbfgaaGreatDoor.S1
open Go.RowKit Go.Sort
theorem nI(Dg off cap a b:Nat)(d:Array Int)(w:D7)(hH:EN w Dg off d)(hab:a<b)(hb:b<=d.size)(hsz:d.size<=1000000) :
 Calls prog 322 #[.slice (some ⟨Dg,off,none⟩) d.size cap,.int .i64 a,.int .i64 b] w λe w' =>
  e=.returned (.bool (partialInsertionSort ltInt d a b).2)/\∃n,w'=EH w n Dg off (partialInsertionSort ltInt d a b).1:=by
 have HH:=Jy hH;clear hH;go_enter func322,ntmps322
 go_wp2_with fail
 go_loopg [7,8] 6 (λk vi vs wr=>∃(i s n:Nat) (dk:Array Int),vi=.int .i64 i/\vs=.int .i64 s/\a<i/\i<=b/\s<=5/\6 - s<=k/\dk.size=d.size/\wr=EH w n Dg off dk/\Hid (partialIns ltInt a b (5 - s) i dk=partialInsertionSort ltInt d a b))
 case atStart=>exact⟨a+1,0,0,d,by go_num,rfl,by omega,by omega,by omega,by omega,rfl,PF HH.o,Jy rfl⟩
 case round =>
  obtain⟨i,s,n,dk,rfl,rfl,aJ,LK,aH,hk,ax,aC,HE⟩:=hrel;obtain⟨G,hG⟩:∃G:Nat->Int,∀t,G t=dk[t]! := ⟨λt=>dk[t]!,λ_=>rfl⟩;have HG:=Jy hG;have HW:=Jy aC;clear aC hG;by_cases hs:s<5
  ·have aD:(s:Int)<5:=by omega
   go_upto_block 2 with fail
   go_cut [7]from 13 to 132 (λs7 wx=>∃(k2 m:Nat),s7=.int .i64 k2/\i<=k2/\k2<=b/\wx=EH w m Dg off dk/\Hid (scanSorted ltInt dk b i=k2))
   case first =>
    go_wp2_with fail
    go_loopg [7] (b - i) (λk vi w1=>∃(i' m:Nat),vi=.int .i64 i'/\i<=i'/\i'<=b/\b - i'<=k/\w1=EH w m Dg off dk/\Hid (scanSorted ltInt dk b i'=scanSorted ltInt dk b i))
    case atStart=>exact⟨i,n,rfl,by omega,by omega,by omega,HW.o,Jy rfl⟩
    case round =>
     obtain⟨i',m,rfl,h1,h2,h3,a4,HS⟩:=hrel;obtain⟨a5,ac⟩:=ME HH.o ax a4;simp only[<-HG.o]at a5;have a3:=Jy a4;clear a4;by_cases az:i'<b
     ·have ai:(i':Int)<(b:Nat):=by omega
      go_wp2_with fail
      go_quiet (first | (go_at_call 323;refine Ac (Ek _ _ _)))
      go_wp2_with fail
      ·have hl:(!ltInt (G i') (G (i' - 1)))=true:=by assumption
       go_roundg (b - (i'+1))
       case measure=>omega
       case rel=>exact⟨i'+1,m+nq,by go_num,by omega,by omega,by omega,JL a3.o nq,Jy (by rw[<-HS.o,scanSorted_go _ _ _ _ az (by rw[<-HG.o,<-HG.o];simpa using hl)])⟩
      have hl:(!ltInt (G i') (G (i' - 1)))=false:=by assumption
      go_meet
      case rel=>exact⟨i',m+nq,rfl,h1,h2,JL a3.o nq,Jy (by rw[<-HS.o,scanSorted_stop _ _ _ _ (Or.inr (by rw[<-HG.o,<-HG.o];simpa using hl))])⟩
     have ai:decide ((i':Int)<(b:Nat))=false:=Bc (by omega);go_wp2_with fail
     go_quiet (first | (go_at_call 323;refine Ac (Ek _ _ _)))
     go_wp2_with fail;go_meet
     case rel=>exact⟨i',m+nq,rfl,h1,h2,JL a3.o nq,Jy (by rw[<-HS.o,scanSorted_stop _ _ _ _ (Or.inl az)])⟩
   obtain⟨k2,m2,rfl,aG,aF,aj,HI⟩:=hcut;obtain⟨a5,ac⟩:=ME HH.o ax aj;simp only[<-HG.o]at a5;have ah:=Jy aj;clear aj;by_cases ae:k2=b
   ·have HP:Hid (partialInsertionSort ltInt d a b=(dk,true)):=Jy (by rw[<-HE.o];exact pi_true ltInt a b s i dk hs (by rw[HI.o];exact ae));subst ae;go_wp2_with fail;go_ret
    rw[HP.o];exact⟨rfl,m2,ah.o⟩
   have aE:((k2:Int)==(b:Nat))=false:=by simp;omega
   by_cases aB:b - a<50
   ·have au:(b:Int) - (a:Nat)<50:=by omega
    have HP:Hid (partialInsertionSort ltInt d a b=(dk,false)):=Jy (by rw[<-HE.o];exact pi_short ltInt a b s i dk hs (by rw[HI.o];exact ae) aB);go_wp2_with fail;go_ret
    rw[HP.o];exact⟨rfl,m2,ah.o⟩
   have au:¬(b:Int) - (a:Nat)<50:=by omega
   have HN:=Jy (pi_go ltInt a b s i k2 dk hs HI.o ae aB);have aK:0<k2:=by omega
   go_wp2_with fail;go_region
   all_goals go_upto_if 61 with fail
   obtain⟨d1,af⟩:=Jq (swp dk k2 (k2 - 1));have aw:=GC (i:=k2) (j:=k2 - 1) ah.o (by omega) (by omega);rw[<-HG.o,<-HG.o,<-af]at aw;rw[aw];have ad:d1.size=d.size:=by rw[af,size_swp];exact ax
   rw[<-af]at HN;clear aw a5 ac af
   go_cut []from 13 to 132 (λwx=>∃m,(fixDown ltInt a k2 d1).size=d.size/\wx=EH w m Dg off (fixDown ltInt a k2 d1))
   case first =>
    by_cases h2:2<=k2 - a
    ·have am:(2:Int)<=(k2:Nat) - (a:Nat):=by omega
     have HF:Hid (fixDown ltInt a k2 d1=shiftDown ltInt (k2 - 1) d1):=Jy (by unfold fixDown;rw[AE h2]);go_wp2_with fail
     go_loopg [9] k2 (λk vj w1=>∃(j m:Nat) (dj:Array Int),vj=.int .i64 j/\j<k2/\j<=k/\dj.size=d.size/\w1=EH w m Dg off dj/\Hid (shiftDown ltInt j dj=shiftDown ltInt (k2 - 1) d1))
     case atStart=>exact⟨k2 - 1,m2+1,d1,by congr 1;omega,by omega,by omega,ad,rfl,Jy rfl⟩
     obtain⟨j,m,dj,rfl,h1,h3,a2,a4,HS⟩:=hrel;obtain⟨Gj,aa⟩:∃G:Nat->Int,∀t,G t=dj[t]! := ⟨λt=>dj[t]!,λ_=>rfl⟩;obtain⟨a5,ac⟩:=ME HH.o a2 a4;simp only[<-aa]at a5;have a1:=Jy aa;have a3:=Jy a4;clear a4 aa;by_cases ag:1<=j
     ·have a6:(1:Int)<=(j:Nat):=by omega
      go_wp2_with fail
      go_quiet (first | (go_at_call 323;refine Ac (Ek _ _ _)))
      go_wp2_with fail
      ·have hl:(!ltInt (Gj j) (Gj (j - 1)))=true:=by assumption
       go_meet
       case rel=>exact⟨m+nq,by rw[HF.o,<-HS.o,shiftDown_stop _ _ _ (Or.inr (by rw[<-a1.o,<-a1.o];simpa using hl))];exact⟨a2,JL a3.o nq⟩⟩
      have hl:(!ltInt (Gj j) (Gj (j - 1)))=false:=by assumption
      obtain⟨wq,a7⟩:=Jq (wr.drewN nq);have a0:wq=EH w (m+nq) Dg off dj:=by rw[a7];exact JL a3.o nq
      rw[<-a7];obtain⟨a9,ar⟩:=ME HH.o a2 a0;simp only[<-a1.o]at a9;have an:=Jy a0;clear a7 a0 a5 ac;go_region
      all_goals go_wp2_with fail
      go_roundg (j - 1)
      case measure=>omega
      refine⟨j - 1,m+nq+1,swp dj j (j - 1),by congr 1;omega,by omega,by omega,by rw[size_swp];exact a2,?_,Jy ?_⟩
      ·rw[a1.o,a1.o];exact GC an.o (by omega) (by omega)
      rw[<-HS.o,shiftDown_go ltInt j dj ag (by rw[<-a1.o,<-a1.o];simpa using hl)]
     have a6:¬(1:Int)<=(j:Nat):=by omega
     go_wp2_with fail;go_meet
     case rel=>exact⟨m,by rw[HF.o,<-HS.o,shiftDown_stop _ _ _ (Or.inl (by omega))];exact⟨a2,a3.o⟩⟩
    have am:¬(2:Int)<=(k2:Nat) - (a:Nat):=by omega
    have HF:Hid (fixDown ltInt a k2 d1=d1):=Jy (by unfold fixDown;rw[AC h2]);go_wp2_with fail;go_meet
    case rel=>exact⟨m2+1,by rw[HF.o];exact⟨ad,rfl⟩⟩
   obtain⟨m4,a8,av⟩:=hcut;obtain⟨d2,ay⟩:=Jq (fixDown ltInt a k2 d1);rw[<-ay]at av HN a8;have aA:=Jy av;clear av ay;have ao:Hid (∀m wx,(fixUp ltInt b k2 d2).size=d.size->wx=EH w m Dg off (fixUp ltInt b k2 d2)->∃(i s' n:Nat) (dk:Array Int),Value.int .i64 (k2:Int)=.int .i64 i/\Value.int .i64 ((s:Int)+1)=.int .i64 s'/\a<i/\i<=b/\s'<=5/\6 - s'<=5 - s/\dk.size=d.size/\wx=EH w n Dg off dk/\Hid (partialIns ltInt a b (5 - s') i dk=partialInsertionSort ltInt d a b)):=
    Jy (λm wx h h'=>⟨k2,s+1,m,_,rfl,by go_num,by omega,by omega,by omega,by omega,h,h',Jy (by rw[<-HE.o,HN.o])⟩)
   by_cases h2:2<=b - k2
   ·have am:(2:Int)<=(b:Nat) - (k2:Nat):=by omega
    have HF:Hid (fixUp ltInt b k2 d2=shiftUp ltInt b (k2+1) d2):=Jy (by unfold fixUp;rw[AE h2]);go_wp2_with fail
    go_loopg [10] (b - k2) (λk vj w1=>∃(j m:Nat) (dj:Array Int),vj=.int .i64 j/\k2<j/\j<=b/\b - j<=k/\dj.size=d.size/\w1=EH w m Dg off dj/\Hid (shiftUp ltInt b j dj=shiftUp ltInt b (k2+1) d2))
    case atStart=>exact⟨k2+1,m4,d2,by go_num,by omega,by omega,by omega,a8,aA.o,Jy rfl⟩
    obtain⟨j,m,dj,rfl,h1,aI,h3,a2,a4,HS⟩:=hrel;obtain⟨Gj,aa⟩:∃G:Nat->Int,∀t,G t=dj[t]! := ⟨λt=>dj[t]!,λ_=>rfl⟩;obtain⟨a5,ac⟩:=ME HH.o a2 a4;simp only[<-aa]at a5;have a1:=Jy aa;have a3:=Jy a4;clear a4 aa;by_cases ag:j<b
    ·have a6:(j:Int)<(b:Nat):=by omega
     go_wp2_with fail
     go_quiet (first | (go_at_call 323;refine Ac (Ek _ _ _)))
     go_wp2_with fail
     ·have hl:(!ltInt (Gj j) (Gj (j - 1)))=true:=by assumption
      go_roundg (5 - s)
      case measure=>omega
      have e:=shiftUp_stop ltInt b j dj (Or.inr (by rw[<-a1.o,<-a1.o];simpa using hl));rw[HS.o,<-HF.o]at e;exact ao.o (m+nq) _ (by rw[e];exact a2) (by rw[e];exact JL a3.o nq)
     have hl:(!ltInt (Gj j) (Gj (j - 1)))=false:=by assumption
     obtain⟨wq,a7⟩:=Jq (wr.drewN nq);have a0:wq=EH w (m+nq) Dg off dj:=by rw[a7];exact JL a3.o nq
     rw[<-a7];obtain⟨a9,ar⟩:=ME HH.o a2 a0;simp only[<-a1.o]at a9;have an:=Jy a0;clear a7 a0 a5 ac;go_region
     all_goals go_wp2_with fail
     go_roundg (b - (j+1))
     case measure=>omega
     refine⟨j+1,m+nq+1,swp dj j (j - 1),by go_num,by omega,by omega,by omega,by rw[size_swp];exact a2,?_,Jy ?_⟩
     ·rw[a1.o,a1.o];exact GC an.o (by omega) (by omega)
     rw[<-HS.o,shiftUp_go ltInt b j dj ag (by rw[<-a1.o,<-a1.o];simpa using hl)]
    have a6:¬(j:Int)<(b:Nat):=by omega
    go_wp2_with fail;go_roundg (5 - s)
    case measure=>omega
    have e:=shiftUp_stop ltInt b j dj (Or.inl ag);rw[HS.o,<-HF.o]at e;exact ao.o m _ (by rw[e];exact a2) (by rw[e];exact a3.o)
   have am:¬(2:Int)<=(b:Nat) - (k2:Nat):=by omega
   have HF:Hid (fixUp ltInt b k2 d2=d2):=Jy (by unfold fixUp;rw[AC h2]);go_wp2_with fail;go_roundg (5 - s)
   case measure=>omega
   case rel=>exact ao.o m4 _ (by rw[HF.o];exact a8) (by rw[HF.o];exact aA.o)
  have aD:¬(s:Int)<5:=by omega
  have HP:Hid (partialInsertionSort ltInt d a b=(dk,false)):=Jy (by rw[<-HE.o,show s=5 by omega];exact pi_end ltInt a b i dk);go_wp2_with fail;go_ret
  rw[HP.o];exact⟨rfl,n,HW.o⟩
end Go.Proofs.YtodmdkhdbfbfgaaGreatDoor.S1
namespace Go.Proofs
open Go.RowKit Go.Sort Go.Shelf
shelf_lay_g SlLaysF0.n47 Slsf 47 at Tryz 236 as npowA
shelf_lay_g SlLaysF0.n48 Slsf 48 at Tryz 237 as xorA
namespace YtodmdkhdbfbfgaaGreatDoor.S1
theorem SA(n:Nat)(hn:n<4611686018427387904)(w:D7):Calls prog 236 #[.int .i64 n] w λe w'=>e=.returned (.int .u64 ((1 <<< bitsLen n:Nat):Int))/\w'=w:=AnyF.nextPowerOfTwo npowA n hn w
theorem VI(rb ro X:Nat)(hX:X<18446744073709551616)(w:D7)(hc:w.cell? ⟨rb,ro,none⟩=some (.int .u64 X))(hf:w.frozen? ⟨rb,ro,none⟩=false) :
 Calls prog 237 #[.pointer (some ⟨rb,ro,none⟩)] w λe w'=>e=.returned (.int .u64 (xorNextN X:Nat))/\w'=(w.setCell ⟨rb,ro,none⟩ (.int .u64 (xorNextN X:Nat))).drewN 3:=AnyF.xorshift_Next xorA rb ro X hX w hc hf
end YtodmdkhdbfbfgaaGreatDoor.S1
end Go.Proofs
namespace Go.Proofs.YtodmdkhdbfbfgaaGreatDoor.S1
open Go.RowKit Go.Sort
abbrev KJ (w:D7) (n Dg off:Nat) (dk:Array Int) (r:UInt64):D7:=grow (EH w n Dg off dk) #[Obj.cells #[.int .u64 r.toNat] 261]
theorem XI{w:D7}{Dg off n:Nat}{d dk:Array Int}{r:UInt64}(hH:EN w Dg off d)(hblk:Dg<w.heap.size)(hs:dk.size=d.size) :
 (∀t,t<d.size->(KJ w n Dg off dk r).cell? ⟨Dg,off+t,none⟩=some (.int .u32 dk[t]!))/\(∀t,t<d.size->(KJ w n Dg off dk r).frozen? ⟨Dg,off+t,none⟩=false) /\
 (KJ w n Dg off dk r).cell? ⟨w.heap.size,0,none⟩=some (.int .u64 r.toNat)/\(KJ w n Dg off dk r).frozen? ⟨w.heap.size,0,none⟩=false:=by
 have hz:(EH w n Dg off dk).heap.size=w.heap.size:=by simp
 refine⟨λt ht => ?_,λt ht => ?_,?_,?_⟩
 ·rw[KJ,cell?_grow _ _ _ (by rw[hz];exact hblk)];exact OX hH hs t ht
 ·rw[KJ,frozen?_grow _ _ _ (by rw[hz];exact hblk)];exact O6 hH t ht
 ·rw[KJ,<-hz];exact grow_one_cell _ _ _
 rw[KJ,<-hz];exact grow_one_frozen _ _ _
theorem sZ(w:D7)(n Dg off q:Nat)(dk:Array Int)(r r':UInt64):((KJ w n Dg off dk r).setCell ⟨w.heap.size,0,none⟩ (.int .u64 r'.toNat)).drewN q=KJ w (n+q) Dg off dk r':=by
 have hz:(EH w n Dg off dk).heap.size=w.heap.size:=by simp
 rw[KJ,<-hz,setCell_grow_one];show grow ((EH w n Dg off dk).drewN q) _=_;rw[JL rfl]
theorem kB{w:D7}{n Dg off:Nat}{dk:Array Int}{i j:Nat}(r:UInt64)(hblk:Dg<w.heap.size)(hi:i<dk.size)(hj:j<dk.size):(((KJ w n Dg off dk r).setCell ⟨Dg,off+i,none⟩ (.int .u32 dk[j]!)).setCell ⟨Dg,off+j,none⟩ (.int .u32 dk[i]!)).drew=KJ w (n+1) Dg off (swp dk i j) r:=by
 rw[KJ,setCell_grow _ _ _ _ _ (by simpa using hblk),setCell_grow _ _ _ _ _ (by simpa using hblk),KJ,<-GC rfl hi hj];rfl
theorem Pu(Dg off cap a b:Nat)(d:Array Int)(w:D7)(hH:EN w Dg off d)(hblk:Dg<w.heap.size)(hab:a<=b)(hb:b<=d.size)(hsz:d.size<=1000000) :
 Calls prog 319 #[.slice (some ⟨Dg,off,none⟩) d.size cap,.int .i64 a,.int .i64 b] w λe w' =>
  e=.returned (.tuple #[])/\∃n os,w'=grow (EH w n Dg off (breakPatterns d a b)) os:=by
 obtain⟨L,hL⟩:=Jq (b - a);have a4:b=a+L:=by omega
 have eL:(b:Int) - (a:Nat)=(L:Nat):=by omega
 have HH:=Jy hH;by_cases h8:8<=L
 ·have am:(8:Int)<=(L:Nat):=by omega
  obtain⟨M,hM⟩:∃M:Nat,M=1 <<< bitsLen L:=⟨_,rfl⟩;have ay:1<=M:=by rw[hM,Nat.one_shiftLeft];exact Nat.two_pow_pos _
  have aA:M<=2*L:=by rw[hM,Nat.one_shiftLeft];exact two_pow_bitsLen_le (by omega)
  obtain⟨q,hq⟩:=Jq (L/4);have eq:Int.tdiv (L:Nat) 4=(q:Nat):=by rw[BX (by omega)];omega
  obtain⟨i0,ac⟩:=Jq (a+q*2 - 1);have e0:(a:Int)+(q:Nat)*2 - 1=(i0:Nat):=by omega
  have e2:(a:Int)+(q:Nat)*2+1=(i0:Nat)+2:=by omega
  have az:i0+2<a+L:=by omega
  have ax:a<=i0:=by omega
  have HB:Hid (breakPatterns d a b=bpRest a L M i0 3 0 (UInt64.ofNat L,d)):=Jy (by rw[a4,breakPatterns_eq d a L h8,hM,ac,hq]);have HP:Hid (∀w,Calls prog 236 #[.int .i64 L] w λe w'=>e=.returned (.int .u64 M)/\w'=w):=Jy (λw=>by rw[hM];exact SA L (by omega) w);have au:Hid (w.alloc (Obj.cells #[.int .u64 L] 261)=KJ w 0 Dg off d (UInt64.ofNat L)):=Jy (by
   rw[KJ,<-PF hH,alloc_eq_grow,show(UInt64.ofNat L).toNat=L by simp;omega])
  have aD:a+L<=d.size:=by omega
  clear hM hq ac hL hH a4 hab hb;go_enter func319,ntmps319
  go_wp2_with fail;refine(HP.o _).mono ?_;rintro e w1 ⟨rfl,a9⟩;rw[au.o]at a9;have ao:=Jy a9;clear a9;go_wp2_with fail
  go_loopg [9] 4 (λk vi wr=>∃(p t n:Nat) (r:UInt64) (dk:Array Int),vi=.int .i64 p/\Hid (p=i0+t)/\t<=3/\4 - t<=k/\dk.size=d.size/\wr=KJ w n Dg off dk r/\Hid (bpRest a L M i0 (3 - t) t (r,dk)=bpRest a L M i0 3 0 (UInt64.ofNat L,d)))
  case atStart=>exact⟨i0,0,0,UInt64.ofNat L,d,rfl,Jy rfl,by omega,by omega,rfl,ao.o,Jy rfl⟩
  obtain⟨p,t,n,r,dk,rfl,Hp,ht,hk,aa,hw,HR⟩:=hrel;obtain⟨G,hG⟩:∃G:Nat->Int,∀t,G t=dk[t]! := ⟨λt=>dk[t]!,λ_=>rfl⟩;obtain⟨a3,ad,a6,a2⟩:=XI (n:=n) (r:=r) HH.o hblk aa;simp only[<-hw]at a3 ad a6 a2;simp only[<-hG]at a3;obtain⟨R,hR⟩:∃R:Nat,R=(xorNext r).toNat:=⟨_,rfl⟩;have lR:R<18446744073709551616:=by rw[hR];exact(xorNext r).toNat_lt
  obtain⟨O,hO⟩:∃O:Nat,O=R &&& (M - 1):=⟨_,rfl⟩;have lO:O<=M - 1:=by rw[hO];exact Nat.and_le_right
  have eM:(M:Int) - 1=((M - 1:Nat):Int):=by omega
  have av:bits .and .u64 R ((M:Nat) - 1)=(O:Nat):=by rw[eM,bits_and_u64_nat _ _ lR (by omega),hO]
  have HX:Hid (Calls prog 237 #[.pointer (some ⟨w.heap.size,0,none⟩)] wr λe w'=>e=.returned (.int .u64 R)/\w'=(wr.setCell ⟨w.heap.size,0,none⟩ (.int .u64 R)).drewN 3):=Jy (by
   have h:=VI w.heap.size 0 r.toNat r.toNat_lt wr a6 a2;rw[<-xorNext_toNat,<-hR]at h;exact h)
  have HG:=Jy hG;have HW:=Jy hw;have af:=Jy hR;have HO:=Jy hO;clear hw hG hR hO eM;have hp:=Hp.o;by_cases ar:t<3
  ·have a5:(p:Int)<=(i0:Nat)+2:=by omega
   have aE:p<a+L:=by omega
   obtain⟨o,ho⟩:=Jq (if L<=O then O - L else O);have aC:o<L:=by rw[ho];split<;>omega
   obtain⟨z,hz⟩:=Jq (a+o);have ez:(a:Int)+(o:Nat)=(z:Nat):=by omega
   have aB:z<a+L:=by omega
   have aw:Hid (bpRest a L M i0 (3 - t) t (r,dk)=bpRest a L M i0 (3 - (t+1)) (t+1) (xorNext r,swp dk p z)):=Jy (by rw[hp,hz];exact bp_step a L M i0 t r dk o ar (by rw[<-af.o,<-HO.o,ho]));have ag:Hid (∃(p' t' n':Nat) (r':UInt64) (dk':Array Int),Value.int .i64 ((p:Int)+1)=.int .i64 p'/\Hid (p'=i0+t')/\t'<=3/\4 - t'<=3 - t/\dk'.size=d.size/\KJ w (n+3+1) Dg off (swp dk p z) (xorNext r)=KJ w n' Dg off dk' r'/\Hid (bpRest a L M i0 (3 - t') t' (r',dk')=bpRest a L M i0 3 0 (UInt64.ofNat L,d))):=
    Jy ⟨p+1,t+1,n+3+1,xorNext r,swp dk p z,by go_num,Jy (by omega),by omega,by omega,by rw[size_swp];exact aa,rfl,Jy (by rw[<-HR.o,aw.o])⟩
   have ah:Hid (3 - t<gk):=Jy (by omega);clear hp hz;go_wp2_with fail;refine HX.o.mono ?_;rintro e w2 ⟨rfl,a1⟩;rw[HW.o,af.o,sZ w n Dg off 3 dk r (xorNext r)]at a1;obtain⟨a0,a7,-,-⟩:=XI (n:=n+3) (r:=xorNext r) HH.o hblk aa;simp only[<-a1]at a0 a7;simp only[<-HG.o]at a0;have aj:=Jy a1;clear a1 a3 ad a6 a2;have SW:Hid (((w2.setCell ⟨Dg,off+p,none⟩ (.int .u32 (G z))).setCell ⟨Dg,off+z,none⟩ (.int .u32 (G p))).drew=KJ w (n+3+1) Dg off (swp dk p z) (xorNext r)):=Jy (by
    rw[aj.o,HG.o,HG.o];exact kB _ hblk (by omega) (by omega))
   by_cases ae:L<=O
   focus
    have a8:(L:Int)<=(O:Nat):=by omega
    have eo:(O:Int) - (L:Nat)=(o:Nat):=by rw[ho,AE ae];omega
    clear ho
   rotate_left
   focus
    have a8:¬(L:Int)<=(O:Nat):=by omega
    have eo:O=o:=by rw[ho,AC ae]
    clear ho;subst eo
   rotate_left
   all_goals
    by_cases ai:p=z
    ·subst ai;go_wp2_with fail;go_region
     all_goals go_wp2_with fail
     rw[SW.o];go_roundg (3 - t)
     case measure=>exact ah.o
     case rel=>exact ag.o
    have an:¬z=p:=λh=>ai h.symm
    go_wp2_with fail;go_region
    all_goals go_wp2_with fail
    rw[SW.o];go_roundg (3 - t)
    case measure=>exact ah.o
    case rel=>exact ag.o
  have a5:¬(p:Int)<=(i0:Nat)+2:=by omega
  have h3:t=3:=by omega
  rw[h3]at HR;clear hp;go_wp2_with fail;go_end0
  refine⟨rfl,n,#[Obj.cells #[.int .u64 r.toNat] 261],?_⟩;rw[HW.o,HB.o,<-HR.o];rfl
 have am:¬(8:Int)<=(L:Nat):=by omega
 have HB:Hid (breakPatterns d a b=d):=Jy (by unfold breakPatterns;simp only[];rw[AC (by omega)]);clear hH a4 hL;go_enter func319,ntmps319
 go_wp2;go_end0
 refine⟨rfl,0,#[],?_⟩;rw[HB.o,grow_empty];exact PF HH.o
abbrev Ny (w:D7) (Dg off:Nat) (d:Array Int) (w':D7):Prop:=At (Value.int .u32) w Dg off d w'
def P0(w:D7)(Dg off a b:Nat)(d:Array Int)(w':D7):Prop:=∃d',PermIn a b d d'/\SortedIn ltInt a b d'/\Ny w Dg off d' w'
def Goes(a b:Nat)(d:Array Int)(a' b':Nat)(dk:Array Int):Prop:=∀R,PermIn a' b' dk R->SortedIn ltInt a' b' R->PermIn a b d R/\SortedIn ltInt a b R
theorem Goes.end{a b a' b':Nat}{d dk R:Array Int}{w w':D7}{Dg off:Nat}(h:Goes a b d a' b' dk)(hp:PermIn a' b' dk R)(hs:SortedIn ltInt a' b' R)(hA:Ny w Dg off R w'):P0 w Dg off a b d w':=
 ⟨R,(h R hp hs).1,(h R hp hs).2,hA⟩
theorem Vy:∀(N Dg off cap a b limit:Nat) (d:Array Int) (w:D7),b - a<N->EN w Dg off d->Dg<w.heap.size->a<=b->b<=d.size->d.size<=1000000->limit<=100->Below ltInt a b d ->
 Calls prog 292 #[.slice (some ⟨Dg,off,none⟩) d.size cap,.int .i64 a,.int .i64 b,.int .i64 limit] w λe w'=>e=.returned (.tuple #[])/\P0 w Dg off a b d w':=by
 intro N
 induction N with
 | zero=>intro _ _ _ _ _ _ _ _ h;exact absurd h (Nat.not_lt_zero _)
 | succ N ih =>
   intro Dg off cap a b limit d w hN hH a0 aZ hb b9 aD ac;have HH:=Jy hH;have IH:=Jy ih;have aQ:=Jy ac;clear hH ih ac;go_enter func292,ntmps292
   go_wp2_with fail
   go_loopg [1,2,3,8,9] (b - a) (λk s1 s2 s3 s8 s9 wr=>∃(a' b' ae:Nat) (wb wp:Bool) (dk:Array Int),s1=.int .i64 a'/\s2=.int .i64 b'/\s3=.int .i64 ae/\s8=.bool wb/\s9=.bool wp /\
    a'<=b'/\b'<=d.size/\b' - a'<=k/\k<=b - a/\ae<=limit/\dk.size=d.size/\Hid (Below ltInt a' b' dk)/\Hid (Ny w Dg off dk wr)/\Hid (Goes a b d a' b' dk))
   case atStart=>exact⟨a,b,limit,true,true,d,rfl,rfl,rfl,rfl,rfl,aZ,hb,AB _,AB _,AB _,rfl,aQ,Jy (At.refl HH.o),Jy (λR h1 h2=>⟨h1,h2⟩)⟩
   case round =>
    obtain⟨a',b',ae,wb,wp,dk,rfl,rfl,rfl,rfl,rfl,a4,b6,hk,b7,aA,a8,am,aa,ah⟩:=hrel;obtain⟨L,hL⟩:=Jq (b' - a');have eL:(b':Int) - (a':Nat)=(L:Nat):=by omega
    by_cases b8:L<=12
    ·have aI:(L:Int)<=12:=by omega
     have hc:=Jy (sE Dg off cap a' b' dk wr (aa.o.holds HH.o a8 a0).1 a4 (by omega) (by omega));rw[a8]at hc;clear hL;go_wp2_with (go_at_call 317;refine hc.o.mono ?_;rintro e w1 ⟨rfl,ar⟩)
     (try simp only[Exit.inBlock,Exit.then]);refine Au (CJ rfl _ _ _) rfl ?_
     have hi:=insertionSort_holds swo_ltInt dk a' b' a4 (by omega);exact⟨rfl,ah.o.end hi.1 hi.2 (aa.o.step a0 hi.1.1 ar)⟩
    have aI:¬(L:Int)<=12:=by omega
    by_cases aS:ae=0
    ·subst aS;have hc:=Jy (Rs Dg off cap a' b' dk wr (aa.o.holds HH.o a8 a0).1 (by omega) (by omega) (by omega));rw[a8]at hc;clear hL;go_wp2_with (go_at_call 318;refine hc.o.mono ?_;rintro e w1 ⟨rfl,ar⟩)
     (try simp only[Exit.inBlock,Exit.then]);refine Au (CJ rfl _ _ _) rfl ?_
     have hi:=heapSort_holds swo_ltInt dk a' b' a4 (by omega);exact⟨rfl,ah.o.end hi.1 hi.2 (aa.o.step a0 hi.1.1 ar)⟩
    have aY:((ae:Int)==0)=false:=by simp;omega
    have a6:a'<b':=by omega
    clear hL;go_upto_if 35 with fail
    go_cut [3]from 19 to 133 (λs3 wc=>∃(a3:Nat) (d1:Array Int),s3=.int .i64 a3/\a3<=limit/\Hid (PermIn a' b' dk d1)/\Hid (Ny w Dg off d1 wc))
    case first =>
     cases wb
     ·have hc:=Jy (Pu Dg off cap a' b' dk wr (aa.o.holds HH.o a8 a0).1 (aa.o.holds HH.o a8 a0).2 a4 (by omega) (by omega));rw[a8]at hc;go_wp2_with (go_at_call 319;refine hc.o.mono ?_;rintro e w1 ⟨rfl,ar⟩);go_meet
      have hp:=breakPatterns_holds dk a' b' a4 (by omega);exact⟨ae - 1,breakPatterns dk a' b',by congr 1;omega,by omega,Jy hp,Jy (aa.o.stepG a0 hp.1 ar)⟩
     go_wp2_with fail;go_meet
     case rel=>exact⟨ae,dk,rfl,aA,Jy (permIn_refl _ _ _),aa⟩
    obtain⟨a3,d1,rfl,a7,az,aK⟩:=hcut;have ag:d1.size=d.size:=by rw[az.o.1];exact a8
    obtain⟨c,hc⟩:=Jq (choosePivot ltInt d1 a' b');have ao:=choosePivot_holds ltInt d1 a' b' a6;have ay:=Jy (Pr Dg off cap a' b' d1 wc (aK.o.holds HH.o ag a0).1 a6 (by omega) (aK.o.holds HH.o ag a0).2 (by omega));rw[ag,<-hc]at ay;rw[<-hc]at ao;obtain⟨hn,aN⟩:=Jq (Of c.2);obtain⟨pv,a2⟩:=Jq c.1;rw[<-aN,<-a2]at ay;rw[<-a2]at ao;clear hc aN a2;go_upto_if 50 with(go_at_call 320;refine ay.o.mono ?_;rintro e w2 ⟨rfl,aM⟩)
    have aE:Hid (Ny w Dg off d1 w2):=Jy (aK.o.same HH.o ag a0 aM);clear aM
    go_cut [11,12]from 19 to 133 (λaV aH wc=>∃(pv hn:Nat) (d2:Array Int),aV=.int .i64 pv/\aH=.int .i64 hn/\a'<=pv/\pv<b'/\Hid (PermIn a' b' dk d2)/\Hid (Ny w Dg off d2 wc))
    case first =>
     by_cases hh:hn=2
     ·subst hh;have hc:=Jy (mD Dg off cap a' b' d1 w2 (aE.o.holds HH.o ag a0).1 a6 (by omega) (by omega));rw[ag]at hc;go_wp2_with (go_at_call 321;refine hc.o.mono ?_;rintro e w3 ⟨rfl,b0⟩);go_meet
      have hp:=reverseRange_holds d1 a' b' a4 (by omega);exact⟨b' - 1 - (pv - a'),1,_,by congr 1;omega,rfl,by omega,by omega,Jy (permIn_trans _ _ _ _ _ az.o hp),Jy (aE.o.step a0 hp.1 b0)⟩
     have b4:((hn:Int)==2)=false:=by simp;omega
     go_wp2_with fail;go_meet
     case rel=>exact⟨pv,hn,d1,rfl,rfl,ao.1,ao.2,az,aE⟩
    clear ay ao hn pv;obtain⟨pv,hn,d2,rfl,rfl,a2,a9,aj,an⟩:=hcut;have aL:d2.size=d.size:=by rw[aj.o.1];exact a8
    go_upto_region 15 with fail
    go_cut [12,68]from 19 to 133 (λaH aT wx=>aH=.int .i64 hn/\(∃c:Bool,aT=.bool c)/\wx=wc)
    case first =>
     by_cases h1:hn=1
     ·subst h1;cases wb<;>cases wp <;>
       (go_wp2_with fail
        go_meet
        exact⟨rfl,⟨_,rfl⟩,rfl⟩)
     have b5:((hn:Int)==1)=false:=by simp;omega
     cases wb<;>cases wp <;>
      (go_wp2_with fail
       go_meet
       exact⟨rfl,⟨_,rfl⟩,rfl⟩)
    obtain⟨rfl,⟨c,rfl⟩,aO⟩:=hcut;rw[<-aO]at an;clear aO;go_upto_if 68 with fail
    go_cut []from 19 to 133 (λwx=>∃d3,Hid (PermIn a' b' dk d3)/\Hid (Ny w Dg off d3 wx))
    case first =>
     cases c
     ·go_wp2_with fail;go_meet
      case rel=>exact⟨d2,aj,an⟩
     have aU:Hid (Below ltInt a' b' d2):=Jy (am.o.perm (by omega) aj.o);have hc:=Jy (nI Dg off cap a' b' d2 wc (an.o.holds HH.o aL a0).1 a6 (by omega) (by omega));rw[aL]at hc;have hp:=partialInsertionSort_holds swo_ltInt d2 a' b' a6 (by omega) aU.o;obtain⟨r,hr⟩:=Jq (partialInsertionSort ltInt d2 a' b');rw[<-hr]at hc hp;obtain⟨rd,rb⟩:=r;have Hp:=Jy hp;clear hp hr;dsimp only at hc Hp;cases rb
     ·go_wp2_with (go_at_call 322;refine hc.o.mono ?_;rintro e w4 ⟨rfl,aJ⟩);go_meet
      case rel=>exact⟨rd,Jy (permIn_trans _ _ _ _ _ aj.o Hp.o.1),Jy (an.o.step a0 Hp.o.1.1 aJ)⟩
     go_wp2_with (go_at_call 322;refine hc.o.mono ?_;rintro e w4 ⟨rfl,aJ⟩)
     (try simp only[Exit.inBlock,Exit.then]);refine Au (CJ rfl _ _ _) rfl ?_
     exact⟨rfl,ah.o.end (permIn_trans _ _ _ _ _ aj.o Hp.o.1) (Hp.o.2 (by first | rfl | trivial)) (an.o.step a0 Hp.o.1.1 aJ)⟩
    obtain⟨d3,av,aB⟩:=hcut;have af:d3.size=d.size:=by rw[av.o.1];exact a8
    have aP:Hid (Below ltInt a' b' d3):=Jy (am.o.perm (by omega) av.o);obtain⟨G,hG⟩:∃G:Nat->Int,∀t,G t=d3[t]! := ⟨λt=>d3[t]!,λ_=>rfl⟩;have aR:∀t,t<d.size->wc.cell? ⟨Dg,off+t,none⟩=some (.int .u32 (G t)):=λt ht=>by rw[hG];exact((aB.o.holds HH.o af a0).1 t (by omega)).1
    have HG:=Jy hG;clear hG;go_upto_region 17 with fail
    go_cut [87]from 19 to 133 (λaW wx=>∃c:Bool,aW=.bool c/\Hid (c=true->0<a'/\ltInt d3[a' - 1]! d3[pv]! = false)/\Hid (Ny w Dg off d3 wx))
    case first =>
     by_cases b3:0<a'
     ·have aC:(0:Int)<(a':Nat):=by omega
      go_quiet (first | (go_at_call 323;refine Ac (Ek _ _ _)))
      go_wp2_with fail;go_meet
      case rel=>exact⟨_,rfl,Jy (λh=>⟨b3,by rw[<-HG.o,<-HG.o];simpa using h⟩),Jy (aB.o.ahead nq)⟩
     have aC:decide ((0:Int)<(a':Nat))=false:=Bc (by omega)
     go_quiet (first | (go_at_call 323;refine Ac (Ek _ _ _)))
     go_wp2_with fail;go_meet
     case rel=>exact⟨_,rfl,Jy (λh=>absurd h (by simp)),Jy (aB.o.ahead nq)⟩
    obtain⟨c,rfl,HC,aw⟩:=hcut;clear aR;cases c
    ·have hc:=Jy (Qn Dg off cap a' b' pv d3 wc (aw.o.holds HH.o af a0).1 a2 a9 (by omega) (by omega));rw[af]at hc;obtain⟨r,hr⟩:=Jq (partition ltInt d3 a' b' pv);obtain⟨a1,ap,d4⟩:=r;have Hr:=Jy (round_part swo_ltInt (partition_holds ltInt) a2 a9 (by omega) aP.o hr.symm);rw[<-hr]at hc;dsimp only at hc;clear hr;have q1:=Hr.o.1;have q2:=Hr.o.2.1;go_upto_if 113 with(go_at_call 325;refine hc.o.mono ?_;rintro e w7 ⟨rfl,ax⟩)
     obtain⟨r1,r2,r3,r4,r5,r6,r7⟩:=Hr.o;have ai:Hid (Ny w Dg off d4 w7):=Jy (aw.o.step a0 r3 ax);have ad:d4.size=d.size:=r3.trans af;have R4:=Jy r4;have R5:=Jy r5;have R6:=Jy r6;have R7:=Jy r7;clear ax Hr r3 r4 r5 r6 r7;by_cases h4:a1 - a'<b' - a1
     ·have aX:(a1:Int) - (a':Nat)<(b':Nat) - (a1:Nat):=by omega
      have au:=Jy (IH.o Dg off cap a' a1 a3 d4 w7 (by omega) (ai.o.holds HH.o ad a0).1 (ai.o.holds HH.o ad a0).2 r1 (by omega) (by omega) (by omega) R4.o);rw[ad]at au;go_wp2_with (go_at_call 292;refine au.o.mono ?_;rintro e w8 ⟨rfl,aF⟩);obtain⟨d5,p5,s5,n5,aG,a5⟩:=aF;go_roundg (b' - (a1+1))
      case measure=>omega
      exact⟨a1+1,b',a3,_,ap,d5,by go_num,rfl,rfl,rfl,rfl,by omega,by omega,AB _,by omega,a7,by rw[p5.1];exact ad,Jy (R6.o d5 p5 s5).1,Jy (ai.o.stepG a0 p5.1 ⟨n5,aG,a5⟩),Jy (λR hp hs=>by
       obtain⟨x1,x2⟩:=(R6.o d5 p5 s5).2 R hp hs;exact ah.o R (permIn_trans _ _ _ _ _ av.o x1) x2)⟩
     have aX:¬(a1:Int) - (a':Nat)<(b':Nat) - (a1:Nat):=by omega
     have em:(a1:Int)+1=((a1+1:Nat):Int):=by omega
     have au:=Jy (IH.o Dg off cap (a1+1) b' a3 d4 w7 (by omega) (ai.o.holds HH.o ad a0).1 (ai.o.holds HH.o ad a0).2 (by omega) (by omega) (by omega) (by omega) R5.o);rw[ad,<-em]at au;clear em;go_wp2_with (go_at_call 292;refine au.o.mono ?_;rintro e w8 ⟨rfl,aF⟩);obtain⟨d5,p5,s5,n5,aG,a5⟩:=aF;go_roundg (a1 - a')
     case measure=>omega
     exact⟨a',a1,a3,_,ap,d5,rfl,rfl,rfl,rfl,rfl,r1,by omega,AB _,by omega,a7,by rw[p5.1];exact ad,Jy (R7.o d5 p5 s5).1,Jy (ai.o.stepG a0 p5.1 ⟨n5,aG,a5⟩),Jy (λR hp hs=>by
      obtain⟨x1,x2⟩:=(R7.o d5 p5 s5).2 R hp hs;exact ah.o R (permIn_trans _ _ _ _ _ av.o x1) x2)⟩
    have hc:=Jy (fc Dg off cap a' b' pv d3 wc (aw.o.holds HH.o af a0).1 a2 a9 (by omega) (by omega));rw[af]at hc;obtain⟨r,hr⟩:=Jq (partitionEqual ltInt d3 a' b' pv);obtain⟨a1,d4⟩:=r;have hC:=HC.o rfl;have Hr:=Jy (round_eq swo_ltInt (partitionEqual_holds ltInt) hC.1 a2 a9 (by omega) aP.o hC.2 hr.symm);rw[<-hr]at hc;dsimp only at hc;clear hr hC;go_wp2_with (go_at_call 324;refine hc.o.mono ?_;rintro e w7 ⟨rfl,ax⟩);obtain⟨r1,r2,r3,r4,r5⟩:=Hr.o;go_roundg (b' - a1)
    case measure=>omega
    exact⟨a1,b',a3,wb,wp,d4,rfl,rfl,rfl,rfl,rfl,r2,by omega,AB _,by omega,a7,r3.trans af,Jy r4,Jy (aw.o.step a0 r3 ax),Jy (λR hp hs=>by
     obtain⟨x1,x2⟩:=r5 R hp hs;exact ah.o R (permIn_trans _ _ _ _ _ av.o x1) x2)⟩
end Go.Proofs.YtodmdkhdbfbfgaaGreatDoor.S1
namespace Go.Proofs
open Go.RowKit Go.Sort Go.Shelf
shelf_lay_g Lays.n125 Nm 125 at Tryz 118 as bitLenA
namespace YtodmdkhdbfbfgaaGreatDoor.S1
theorem Vh(n:Nat)(hn:n<=1000000)(w:D7):Calls prog 118 #[.int .u64 n] w λe w'=>e=.returned (.int .i64 (bitsLen n:Nat))/\w'=w:=by
 have h:=Any.bits_Len bitLenA (n:Int) w (by omega) (by omega)
 rwa[Bd,bitLen_eq _ (by omega)]at h
theorem gM{n:Nat}(h:n<=1000000):bitsLen n<=100:=by
 have:=(bitsLen_le_iff n 20).2 (by omega)
 omega
theorem Ru(Dg off cap:Nat)(d:Array Int)(w:D7)(hH:EN w Dg off d)(hblk:Dg<w.heap.size)(hsz:d.size<=1000000) :
 Calls prog 255 #[.slice (some ⟨Dg,off,none⟩) d.size cap] w λe w'=>e=.returned (.tuple #[])/\P0 w Dg off 0 d.size d w':=by
 obtain⟨n,hn⟩:=Jq d.size;obtain⟨L,hL⟩:=Jq (bitsLen n);have C1:=Jy (Vh n (by omega) w);rw[<-hL]at C1;have C2:=Jy (Vy (d.size - 0+1) Dg off cap 0 d.size L d w (by omega) hH hblk (by omega) (AB _) hsz (by rw[hL];exact gM (by omega)) (Or.inl rfl));rw[<-hn]at C2 ⊢;rw[<-hn]at hsz;clear hn hL hH;go_enter func255,ntmps255
 go_wp2_with (first
  | (go_at_call 118;refine C1.o.mono ?_;rintro e w' ⟨rfl,rfl⟩)
  | (go_at_call 292;refine C2.o.mono ?_;rintro e w' ⟨rfl,hw⟩))
 go_end0
 exact⟨rfl,hw⟩
end YtodmdkhdbfbfgaaGreatDoor.S1
end Go.Proofs
namespace Go.Proofs.YtodmdkhdbfbfgaaGreatDoor
namespace S1
open Go.RowKit Pk Go.Shelf
attribute [local go_sem] Oper.semAt_some
def E5(x:Nat):Value:=.int .u32 x
theorem Kt:(prog.info? 88).map (λi=>(i.zero,i.size,i.bytes))=some (some (.int .u32 0),1,4):=by kernel_rfl
theorem lH(n:Nat)(hn:1<=n)(w:D7)(B g cap:Nat)(xs:List Nat)(n₀:Nat)(S:Nat->Prop)(hB:B<n₀)(hg:g<n₀)(hSg:S g)(hlen:xs.length<=100000)(hb:w.cell? ⟨B,0,none⟩=some (.slice (some ⟨g,0,none⟩) xs.length cap))(cur:Array Value)(hrow:w.heap[g]? = some (.cells cur 88 (0,0)))(hc:cur.toList.take xs.length=xs.map E5) :
 Fy Fence.wide n prog 256 #[.pointer (some ⟨B,0,none⟩)] (λx=>#[E5 x]) xs n₀ S w:=by
 intro l J W hW hY h0;have ac:W.cell? ⟨B,0,none⟩=some (.slice (some ⟨g,0,none⟩) xs.length cap):=by rw[hW.cell (p:=⟨B,0,none⟩) hB];exact hb
 have a2:∀k (h:k<xs.length),cur[k]? = some (E5 xs[k]):=by
  intro k h;have h2:(cur.toList.take xs.length)[k]? = some (E5 xs[k]):=by rw[hc];simp[h]
  rw[Ak h]at h2;simpa using h2
 have a1:W.heap[g]? = some (.cells cur 88 (0,0)):=(hW.block g hg).trans hrow;clear hb hrow hc;refine Ck func256 rfl trivial ?_ rfl;simp only[ntmps256,BK,AY,B7,Nat.reduceAdd,Nat.reduceSub,BZ,BY,Bj,B9,BH,BR];gi_wp2
 gi_loopw [7] (λi wr=>∃k:Nat,k<=xs.length/\i=.int .i64 k/\J (xs.take k) wr/\Hid (IW S W wr)) (λi _=>xs.length - (intOf i).toNat)
 case atStart=>exact⟨0,AU _,rfl,by simpa using h0,Jy (λ_ _=>rfl)⟩
 case round =>
  obtain⟨k,hk,rfl,hJ,HB⟩:=hrel;by_cases a4:k<xs.length
  ·have a0:wr.cell? ⟨g,k,none⟩=some (.int .u32 (xs[k]:Nat)):=by
    rw[AG wr g k _ 88 (0,0) ((HB.o g hSg).trans a1)];exact a2 k a4
   obtain⟨fn,tmps,assign,aa,a3,hR⟩:=hY (xs.take k) xs[k] wr hJ (by rw[DF a4];exact List.take_prefix _ _);unfold E5 at a3;have HR:=Jy hR;have i1:(k:Int)<(xs.length:Nat):=by omega
   have i2:(0:Int)<=(k:Nat):=by omega
   obtain⟨x,hx⟩:=Jq (xs[k]);have Hx:=Jy hx;rw[<-hx]at a0 a3;clear hR hx hJ;gi_wp2_with gi_in;refine HR.o.mono ?_;rintro e W4 ⟨rfl,a5,a6⟩;have a7:=Jy (HB.o.trans a6);have a9:=Jy a5;clear a5 a6 HR a3 a0;gi_wp2;go_roundw
   case rel=>exact⟨k+1,by omega,rfl,by rw[<-DF a4];exact a9.o,a7⟩
   case measure=>simp[intOf];omega
  have a8:k=xs.length:=by omega
  subst a8;have i1:¬(xs.length:Int)<(xs.length:Nat):=by omega
  gi_wp2;go_end0
  exact⟨⟨_,rfl⟩,by simpa using hJ⟩
theorem je(n:Nat)(p:Option Addr)(k c:Nat)(w:D7) :
 CallsIn Fence.wide n prog 204 #[.slice p k c] w λe w'=>e=.returned (.func (.func 256) #[] #[.pointer (some ⟨w.heap.size,0,none⟩)])/\w'=w.alloc (.cells #[.slice p k c] 201):=by
 refine Ck func204 rfl trivial ?_ rfl;simp only[ntmps204,BK,AY,B7,Nat.reduceAdd,Nat.reduceSub,BZ,BY,Bj,B9,BH,BR];gi_wp2;go_ret
 exact⟨rfl,rfl⟩
def SY(w:D7)(bx:Nat)(pre:List Nat)(W:D7):Prop:=∃v,W.heap[bx]? = some (.cells #[v] 201 (0,0))/\W.ownsRow (bx+1) 88 1 v pre.length (pre.map E5)/\Below bx w W/\(v=.slice none 0 0↔pre=[])
theorem SY.grown{w:D7}{bx:Nat}{pre:List Nat}{W W':D7}{row:Option Nat}(h:SY w bx pre W)(hg:W.grownBy W' row)(hr:∀r,row=some r->bx+1<=r/\∃o:Obj,W.heap[r]? = some o/\o.isCells=false)(hw:w.heap.size=bx):SY w bx pre W':=by
 obtain⟨v,h1,h2,h3,h4⟩:=h;refine⟨v,(hg.block bx (lt_of_heap h1) (λe=>by have:=(hr bx e.symm).1;omega)).trans h1,?_,h3.grown hg (by have:=h3.size;omega) (λk e=>by have:=(hr k e).1;omega),h4⟩;refine⟨h2.1,?_⟩;rcases h2.2 with h5 | ⟨g,cap,cur,e,h5,h6,h7⟩
 ·exact .inl h5
 exact .inr ⟨g,cap,cur,e,h5,(hg.block g (lt_of_heap h6) (λe'=>by
  obtain⟨_,o,ho,hc⟩:=hr g e'.symm;rw[h6]at ho;cases ho
  cases hc)).trans h6,h7⟩
theorem pS(n:Nat)(hn:2<=n)(g:Nat)(lb:Array Value)(eg:∀args w,(callFunc g args).run prog w=.ok (.enter g args) w)(xs:List Nat)(hN:xs.length<=100000)(w:D7)(n₀:Nat)(S:Nat->Prop)(hn₀:n₀<=w.heap.size)(hS:∀k,S k->k<w.heap.size)(hseq:Fy Fence.wide (n - 1) prog g lb (λx=>#[E5 x]) xs n₀ S w) :
 CallsIn Fence.wide n prog 291 #[.slice none 0 0,.func (.func g) #[] lb] w λe w'=>∃v:Value,e=.returned v/\w'.ownsRow w.heap.size 88 1 v xs.length (xs.map E5)/\(v=.slice none 0 0↔xs=[])/\Below w.heap.size w w':=by
 obtain⟨i0,hi,aw,aB,av⟩:=Ai Kt;refine callsIn_of_wp_marks func291 rfl trivial ?_ rfl;simp only[ntmps291,BK,AY,B7,Nat.reduceAdd,Nat.reduceSub,BZ,BY,Bj,B9,BH,BR];gi_wp2;obtain⟨W0,ac⟩:=Jq (w.alloc (.cells #[.slice none 0 0] 201));have aH:W0.heap.size=w.heap.size+1:=by rw[ac];simp
 have ax:W0.heap[w.heap.size]? = some (.cells #[.slice none 0 0] 201 (0,0)):=by rw[ac];exact AQ _ _
 have ao:Below w.heap.size w W0:=by rw[ac];exact(AM _ w).alloc (AB _) _
 rw[<-ac];refine UQ rfl (by omega) (gf:=g) (lb:=lb) rfl trivial eg (hseq.later (ao.mono hn₀)) (by omega) (λk hk=>by have:=hS k hk;omega) (λ_=>rfl) (SY w w.heap.size)
  (λs A C row hs hg hr=>hs.grown hg (λr e=>⟨by have:=(hr r e).1;omega,(hr r e).2⟩) rfl)
  ⟨_,ax,AZ _ _ _ _,ao,by simp⟩
  (λx W=>{ tmps:=#[.slice none 0 0,.func (.func g) #[] lb,.pointer (some ⟨w.heap.size,0,none⟩),undef,.slice none 0 0,E5 x,.func (.func g) #[] lb,E5 x,undef,undef,undef,undef,undef],defers:=[] })
  (λx W=>W) (λx W=>AM _ W) (λa5 x W h=>h) ?assign ?body ?done
 case assign =>
  intro l x W K hK;unfold E5 at hK ⊢;gi_wp2;exact hK
 case body =>
  intro l a5 x W V hV hI ae aJ aL;have aD:a5.length<xs.length:=by have:=ae.length_le;simp at this;omega
  obtain⟨v,hv,a0,ad,a6⟩:=hI;have au:w.heap.size<V.heap.size:=lt_of_heap hv;obtain⟨aE,aK⟩:=cell_of_box_a hv;have a9:∀{j:Nat} {o:Obj},V.heap[j]? = some o->(∀aa,o≠.cells aa 88 (0,0))->some j≠v.ownBlock:=λhj aC=>by
   rcases ownsRow_ne_a a0 hj aC with e | e
   ·rw[e];simp
   exact λe'=>e e'.symm
  unfold E5;gi_wp2_with (first
   | (gi_at_builtin;refine wpListIn_append_own _ rfl _ _ 201 rfl (w.heap.size+1) 88 i0 _ 1 4 underlying201 hi aw aB av rfl (by decide) _ _ _ rfl (a0.alloc _) ⟨V.heap.size,0,none⟩ 1 1 [.int .u32 x] rfl rfl (Bg _ _ _) (by simp[Value.oneCell']) (by simp[maxLen];omega) (by omega) (by simp;omega) ?_
      intro v' w3 a2 an am;have af:w3.heap[w.heap.size]? = some (.cells #[v] 201 (0,0)):=(an.block w.heap.size (by simp;omega) (a9 hv (λaa e=>by cases e))).trans ((AO _ _ w.heap.size au).trans hv);obtain⟨ay,aA⟩:=cell_of_box_a af;obtain⟨g',a1,a3,rfl,ah,az,aI,aF,aM,aG⟩:∃g' a1 a3,v'=.slice (some ⟨g',0,none⟩) (a5.length+1) a1/\w.heap.size+1<=g'/\w3.heap[g']? = some (.cells a3 88 (0,0))/\a5.length+1<=a1/\a1<=maxLen/\a3.size=a1*1/\a3.toList.take ((a5.length+1)*1)=a5.map E5++[.int .u32 x]:=by
       rcases a2.2 with⟨_,h0⟩ | h'
       ·exact absurd h0 (by omega)
       exact h'
      go_frame)
   | gi_round_op_a)
  have a4:(V.alloc (.cells #[.int .u32 x] 88)).grownBy w3 v.ownBlock:=an;obtain⟨w4,ai⟩:∃w4,w3.setCell ⟨w.heap.size,0,none⟩ (.slice (some ⟨g',0,none⟩) (a5.length+1) a1)=w4:=⟨_,rfl⟩;rw[ai];have aj:w3.grownBy w4 (some w.heap.size):=by rw[<-ai];exact grownBy_setCell0_a _ _ _
  have ar:w4.heap[w.heap.size]? = some (.cells #[.slice (some ⟨g',0,none⟩) (a5.length+1) a1] 201 (0,0)):=by rw[<-ai];exact heap_setCell_box_a _ af
  have a8:=a2.kept aj (ownsRow_ne_a a2 af (λaa e=>by cases e));have ag:Below w.heap.size V w3:=((AM _ V).alloc (by omega) _).grown a4 (by simp;omega) (λk e=>by have:=(a0.lt k e).1;omega);have a7:Below w.heap.size V w4:=ag.grown aj (by have:=a4.size;simp at this;omega) (λk e=>by cases e;omega);refine⟨?_,IW.of_below a7 hS,⟨_,ar,by simpa[E5]using a8,ad.trans a7,by simp⟩⟩;refine((KeepsOthers.alloc _ (.cells #[.int .u32 x] 88)).from _).trans (KeepsFrom.trans (?_:KeepsFrom _ _ w3) (KeepsFrom.of_grownBy aj (λj e=>by cases e;omega)));exact⟨a4.size,λk o hB hk ho=>(a4.block k (lt_of_heap hk) (λe=>by
   rcases a0.2 with⟨e',_⟩ | ⟨q,cap,aa,e',_,hq,_⟩
   ·rw[e']at e;cases e
   rw[e']at e;simp[Value.ownBlock]at e;subst e;rw[AO _ _ _ (lt_of_heap hq),hq]at hk;cases hk
   cases ho)).trans hk⟩
 case done =>
  intro D W hD hI hK;obtain⟨v,hv,a0,ad,a6⟩:=hI;obtain⟨ay,aA⟩:=cell_of_box_a hv;gi_wp2;refine⟨by simp,.inl ⟨_,_,rfl,run_takeDeferred hK,?_⟩⟩;exact⟨_,results_tmp rfl _ _ _,v,rfl,(ownsRow_base_a a0 (by omega)).kept (grownBy_putObj_a _ _ _) (ownsRow_ne_a a0 hK (λaa e=>by cases e)),a6,ad.grown (grownBy_putObj_a _ _ _) ad.size (λk e=>by cases e;omega)⟩
theorem jS(n:Nat)(hn:3<=n)(g:Nat)(lb:Array Value)(eg:∀args w,(callFunc g args).run prog w=.ok (.enter g args) w)(xs:List Nat)(hN:xs.length<=100000)(w:D7)(n₀:Nat)(S:Nat->Prop)(hn₀:n₀<=w.heap.size)(hS:∀k,S k->k<w.heap.size)(hseq:Fy Fence.wide (n - 1 - 1) prog g lb (λx=>#[E5 x]) xs n₀ S w) :
 CallsIn Fence.wide n prog 254 #[.func (.func g) #[] lb] w λe w'=>∃v:Value,e=.returned v/\w'.ownsRow w.heap.size 88 1 v xs.length (xs.map E5)/\(v=.slice none 0 0↔xs=[])/\Below w.heap.size w w':=by
 refine Ck func254 rfl trivial ?_ rfl;simp only[ntmps254,BK,AY,B7,Nat.reduceAdd,Nat.reduceSub,BZ,BY,Bj,B9,BH,BR];gi_wp2_with fail;refine⟨trivial,λ_=>by omega,(pS (n - 1) (by omega) g lb eg xs hN _ n₀ S hn₀ hS hseq).mono ?_⟩;rintro e w' ⟨v,rfl,a1,a0,hb⟩;gi_wp2;go_ret
 exact⟨v,rfl,a1,a0,hb⟩
end S1
namespace S1
open Go.RowKit Go.Sort
variable {w:D7} {g:Nat} {cur:Array Value} {e:TypeId} {xs:List Nat}
def ints(xs:List Nat):Array Int:=(xs.map (λx:Nat=>(x:Int))).toArray
theorem QS(xs:List Nat):(ints xs).size=xs.length:=by simp[ints]
theorem iM(xs:List Nat){j:Nat}(h:j<xs.length):(ints xs)[j]! = (xs[j]:Int):=by simp[ints,h]
theorem rI(hb:w.heap[g]? = some (.cells cur e (0,0)))(ht:cur.toList.take xs.length=xs.map E5):EN w g 0 (ints xs):=by
 intro j hj;rw[QS]at hj;refine⟨?_,by simp[World.frozen?,hb]⟩;have h1:(cur.toList.take xs.length)[j]? = (xs.map E5)[j]? := by rw[ht]
 rw[Ak hj,Bv]at h1;rw[iM xs hj];simp only[World.cell?,hb,Ao];rw[h1];simp[hj,E5]
theorem q8{w':D7}{d:Array Int}{fr:Nat × Nat}(hb:w.heap[g]? = some (.cells cur e fr))(h:Ny w g 0 d w'):w'.heap[g]? = some (.cells (putCells (Value.int .u32) 0 d cur) e fr)/\Below g w w'/\w.grownBy w' (some g):=by
 obtain⟨n,os,rfl⟩:=h;have hg:g<w.heap.size:=(Az.1 hb).1;have a0:∀k,k<w.heap.size->some k≠some g->(grow (putRow (Value.int .u32) (Sort.ahead w n) g 0 d) os).heap[k]? = w.heap[k]? := λk hk a1=>by
  rw[heap_grow_old _ _ (by simpa using hk)]
  have:g≠k:=λe=>a1 (by rw[e])
  simp[putRow,mapBlock,Sort.ahead,Array.getElem?_modify,this]
 refine⟨?_,⟨rfl,rfl,rfl,by simp,λk hk=>a0 k (by omega) (by simp;omega)⟩,⟨rfl,rfl,rfl,by simp,a0⟩⟩;rw[heap_grow_old _ _ (by simpa using hg)];simp[putRow,mapBlock,Sort.ahead,Array.getElem?_modify,hb,onCells]
theorem rR(cur:Array Value)(ys:List Nat)(h:ys.length<=cur.size):(putCells (Value.int .u32) 0 (ints ys) cur).toList.take ys.length=ys.map E5:=by
 apply Cy
 intro j;by_cases hj:j<ys.length
 ·rw[Ak hj,Bv];simp[putCells,hj,ints,E5,show j<cur.size by omega]
 rw[List.getElem?_take_eq_none (by omega),Aw (by simp;omega)]
abbrev Asc (ys:List Nat):Prop:=ys.Pairwise (·<=·)
theorem sH{d':Array Int}(hp:PermIn 0 (ints xs).size (ints xs) d')(hs:SortedIn ltInt 0 (ints xs).size d'):∃ys:List Nat,d'=ints ys/\ys.Perm xs/\Asc ys:=by
 have a3:d'.size=xs.length:=by rw[hp.1,QS]
 have a1:d'.toList.Perm (xs.map (λx:Nat=>(x:Int))):=by
  have:=hp.2.2
  have e1:(d'.extract 0 (ints xs).size).toList=d'.toList:=by rw[<-hp.1];simp
  have e2:((ints xs).extract 0 (ints xs).size).toList=xs.map (λx:Nat=>(x:Int)):=by
   have:((ints xs).extract 0 (ints xs).size)=ints xs:=by simp
   rw[this,ints]
  rwa[e1,e2]at this
 have a0:∀z∈d'.toList,(z.toNat:Int)=z:=λz hz=>by
  obtain⟨x,_,rfl⟩:=Am.1 (a1.mem_iff.1 hz);simp
 refine⟨d'.toList.map Int.toNat,?_,?_,?_⟩
 ·apply Array.ext'
  simp only[ints,Ch]
  conv=>lhs;rw[<-List.map_id d'.toList]
  exact BU (λz hz=>(a0 z hz).symm)
 ·have:=a1.map Int.toNat
  simpa[Ch,Function.comp_def]using this
 rw[Asc,CL];intro i j hi hj a2;simp only[Bn,Cl]at hi hj;have h:=hs i j (AU _) a2 (by rw[QS];omega);rw[Bx d' j hj,Bx d' i hi]at h;simp only[ltInt,decide_eq_false_iff_not,Int.not_lt]at h;simp only[List.getElem_map,Array.getElem_toList];omega
def Xt(w:D7)(xs:List Nat)(e:Ending)(w':D7):Prop:=∃(v:Value) (ys:List Nat),e=.returned v/\ys.Perm xs/\Asc ys/\w'.ownsRow w.heap.size 88 1 v ys.length (ys.map E5)/\Below w.heap.size w w'
theorem pq(n:Nat)(hn:4<=n)(g:Nat)(lb:Array Value)(eg:∀args w,(callFunc g args).run prog w=.ok (.enter g args) w)(xs:List Nat)(hx:xs≠[])(hN:xs.length<=100000)(w:D7)(n₀:Nat)(S:Nat->Prop)(hn₀:n₀<=w.heap.size)(hS:∀k,S k->k<w.heap.size)(hseq:Fy Fence.wide (n - 1 - 1 - 1) prog g lb (λx=>#[E5 x]) xs n₀ S w) :
 CallsIn Fence.wide n prog 203 #[.func (.func g) #[] lb] w λe w'=>Xt w xs e w':=by
 refine Ck func203 rfl trivial ?_ rfl;simp only[ntmps203,BK,AY,B7,Nat.reduceAdd,Nat.reduceSub,BZ,BY,Bj,B9,BH,BR];gi_wp2_with fail;refine⟨trivial,λ_=>by omega,(jS (n - 1) (by omega) g lb eg xs hN _ n₀ S hn₀ hS hseq).mono ?_⟩;rintro e w1 ⟨v,rfl,a6,a1,hb⟩;rcases a6.2 with⟨h0,_⟩ | ⟨g',cap',cur',rfl,hbase',hgb',hr1,hr2,hr3,hr4⟩
 ·exact absurd (a1.1 h0) hx
 rw[DT]at hr4 hr3;have hc:=Ru g' 0 cap' (ints xs) w1 (rI hgb' hr4) (Az.1 hgb').1 (by rw[QS];omega);rw[QS]at hc;gi_wp2_with fail;refine⟨trivial,λ_=>by omega,(BP.2 hc).mono ?_⟩;rintro e w2 ⟨rfl,d',hp,hs,hA⟩;rw[<-QS]at hp hs;obtain⟨ys,rfl,a0,a3⟩:=sH hp hs;obtain⟨a5,a4,-⟩:=q8 hgb' hA;have a2:=a0.length_eq;gi_wp2;go_ret
 show Xt w xs _ _;refine⟨.slice (some ⟨g',0,none⟩) xs.length cap',ys,rfl,a0,a3,⟨by simp,.inr ⟨g',cap',_,by rw[a2],hbase',a5,by omega,hr2,by simp[putCells,hr3],by rw[DT];exact rR cur' ys (by omega)⟩⟩,hb.trans (a4.mono hbase')⟩
end S1
namespace S1.Pk
structure Wr (b:D8) (pos:Nat):Prop where
 lo:pos<=8*b.length
 hi:8*b.length<pos+8
 zero:∀i,pos<=i->bt b i=0
structure Ag (b f:D8) (pos:Nat):Prop where
 len:b.length<=f.length
 bit:∀i,i<pos->bt f i=bt b i
theorem Ag.refl(b:D8)(pos:Nat):Ag b b pos:=⟨AB _,λ_ _=>rfl⟩
theorem Ag.trans{a b c:D8}{p q:Nat}(h:Ag a b p)(k:Ag b c q)(hpq:p<=q):Ag a c p:=⟨AF h.len k.len,λi hi=>(k.bit i (by omega)).trans (h.bit i hi)⟩
theorem Ag.mono{a b:D8}{p q:Nat}(h:Ag a b q)(hpq:p<=q):Ag a b p:=⟨h.len,λi hi=>h.bit i (by omega)⟩
theorem Ag.val{b f:D8}{pos:Nat}(h:Ag b f pos)(p d:Nat)(hp:p+d<=pos):val f p d=val b p d:=by
 induction d with
 | zero=>rfl
 | succ d ih=>rw[Me,Me,ih (by omega),h.bit _ (by omega)]
theorem gj(c x r:Nat)(hc:c<256)(hx:x<2)(hr:r<8)(hz:∀j,r<=j->j<8->c/2^(7 - j)%2=0) :
 c%2^(8 - r)=0/\c+x*2^(7 - r)<256/\∀j,j<8->(c+x*2^(7 - r))/2^(7 - j)%2=if j<r then c/2^(7 - j)%2 else if j=r then x else 0:=by
 have hm:c%2^(8 - r)=0:=by
  have key:∀k,k<=8 - r->c%2^k=0:=by
   intro k
   induction k with
   | zero=>intro _;simp[Nat.mod_one]
   | succ k ih =>
     intro hk;have h1:=ih (by omega);have h2:=hz (7 - k) (by omega) (by omega);rw[show 7 - (7 - k)=k by omega]at h2;rw[By,Nat.mod_mul,h1,h2];simp
  exact key _ (AB _)
 obtain⟨q,hq⟩:∃q,c=2^(8 - r)*q:=⟨c/2^(8 - r),by have:=Nat.div_add_mod c (2^(8 - r));omega⟩;have hp:(2:Nat)^(8 - r)=2^(7 - r)*2:=by rw[<-By];congr 1;omega
 have a1:c+x*2^(7 - r)=2^(7 - r)*(2*q+x):=by rw[hq,hp,Nat.mul_add,CY,BG x]
 have a0:(256:Nat)=2^(7 - r)*2^(r+1):=by rw[<-Nat.pow_add,show 7 - r+(r+1)=8 by omega]
 have a2:2*q<2^(r+1):=by
  have:2^(7 - r)*(2*q)<2^(7 - r)*2^(r+1):=by rw[<-a0,<-CY,<-hp,<-hq];exact hc
  exact Nat.lt_of_mul_lt_mul_left this
 have he:2^(r+1)%2=0:=by rw[By];omega
 refine⟨hm,?_,λj hj => ?_⟩
 ·rw[a1,a0];exact(Nat.mul_lt_mul_left (DA (by omega))).2 (by omega)
 rw[a1];by_cases h1:j<=r
 ·have e:(2:Nat)^(7 - j)=2^(7 - r)*2^(r - j):=by rw[<-Nat.pow_add];congr 1;omega
  rw[e,Nat.mul_div_mul_left _ _ (DA (by omega))];by_cases h2:j=r
  ·subst h2;simp;omega
  rw[AE (by omega),hq,hp,CY,Nat.mul_div_mul_left _ _ (DA (by omega))];rw[show r - j=(r - j - 1)+1 by omega,By,BG (2^(r - j - 1)) 2,<-Cr,<-Cr];rw[show(2*q+x)/2=q by omega,show 2*q/2=q by omega]
 rw[AC (by omega),AC (by omega)];have e:(2:Nat)^(7 - r)=2^(7 - j)*2^(j - r):=by rw[<-Nat.pow_add];congr 1;omega
 rw[e,CY,Nat.mul_div_cancel_left _ (DA (by omega)),show j - r=(j - r - 1)+1 by omega,By,BG (2^(j - r - 1)) 2,CY,Nat.mul_mod_right]
theorem Te(b e:D8)(i:Nat)(h:i<8*b.length):bt (b++e) i=bt b i:=by
 unfold bt;rw[AI,Ax (by omega),AI]
theorem XP(b:D8)(i:Nat)(h:8*b.length<=i):bt b i=0:=by
 unfold bt;rw[AI,Aw (by omega)];simp
theorem fG(b:D8)(i:Nat)(h:8*b.length<=i):bt (b++[0]) i=0:=by
 by_cases e:i<8*b.length+8
 ·unfold bt;rw[AI,Ad (by omega),show i/8 - b.length=0 by omega];simp
 exact XP _ _ (by simp;omega)
theorem Ty(b:D8)(pos x:Nat)(h1:pos<8*b.length)(h2:8*b.length<=pos+8)(hz:∀i,pos<=i->bt b i=0)(hx:x<2) :
 (b.getD (b.length - 1) 0).toNat%2^(8*b.length - pos)=0/\(b.getD (b.length - 1) 0).toNat+x*2^(8*b.length - pos - 1)<256 /\
 ∀c':UInt8,c'.toNat=(b.getD (b.length - 1) 0).toNat+x*2^(8*b.length - pos - 1)->Wr (b.set (b.length - 1) c') (pos+1)/\Ag b (b.set (b.length - 1) c') pos/\bt (b.set (b.length - 1) c') pos=x:=by
 have hl:pos/8=b.length - 1:=by omega
 have hb:=gj (b.getD (b.length - 1) 0).toNat x (pos%8) (UInt8.toNat_lt _) hx (by omega) (λj hj a4=>by
  have:=hz (8*(b.length - 1)+j) (by omega)
  unfold bt at this;rw[show(8*(b.length - 1)+j)/8=b.length - 1 by omega,show(8*(b.length - 1)+j)%8=j by omega]at this;exact this)
 rw[show 8 - pos%8=8*b.length - pos by omega,show 7 - pos%8=8*b.length - pos - 1 by omega]at hb;obtain⟨a3,a2,a0⟩:=hb;refine⟨a3,a2,λc' a1 => ?_⟩;have key:∀i,bt (b.set (b.length - 1) c') i=if i<pos then bt b i else if i=pos then x else 0:=by
  intro i;by_cases hi:i/8=b.length - 1
  ·have e:(b.set (b.length - 1) c').getD (i/8) 0=c':=by
    rw[hi,AI,List.getElem?_set_self (by omega)];rfl
   have:=a0 (i%8) (by omega)
   unfold bt;rw[e,a1,this,hi];by_cases g1:i<pos
   ·rw[AE (by omega),AE g1]
   rw[AC (by omega),AC g1];by_cases g2:i=pos
   ·rw[AE (by omega),AE g2]
   rw[AC (by omega),AC g2]
  have e:(b.set (b.length - 1) c').getD (i/8) 0=b.getD (i/8) 0:=by
   rw[AI,DU (λh=>hi h.symm),AI]
  have e2:bt (b.set (b.length - 1) c') i=bt b i:=by unfold bt;rw[e]
  rw[e2];by_cases g1:i<pos
  ·rw[AE g1]
  rw[AC g1,AC (by omega)];exact hz i (by omega)
 refine⟨⟨by rw[List.length_set];omega,by rw[List.length_set];omega,λi hi=>by rw[key,AC (by omega),AC (by omega)]⟩,⟨by rw[List.length_set];exact AB _,λi hi=>by rw[key,AE hi]⟩,by rw[key,AC (by omega),AE rfl]⟩
theorem SR(n k j:Nat)(hj:j<k):2*(n/2^(k - j))+n/2^(k - 1 - j)%2=n/2^(k - (j+1)):=by
 rw[show k - j=(k - 1 - j)+1 by omega,show k - (j+1)=k - 1 - j by omega,By,<-Cr];omega
end S1.Pk
end Go.Proofs.YtodmdkhdbfbfgaaGreatDoor
