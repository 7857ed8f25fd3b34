/- Lemmas. -/
import Derived.Sort.WalkA6
import Derived.Shelf.SlSortCmp.Xorshift
import Derived.Shelf.Small.Bits
import Derived.Ground.NamesProg
import Derived.Sort.Walk7
import Derived.Test.YtodmdkhdbfbfgabGreatDoorM33
set_option linter.unusedVariables false
set_option linter.unusedSimpArgs false
set_option maxRecDepth 100000
set_option maxHeartbeats 8000000
namespace Go.Proofs.YtodmdkhdbfbfgabGreatDoor.S1
open Go.RowKit Go.Sort
theorem partU (blk off cap a b pivot:Nat) (d:Array Int) (w:World) (hH:HoldsU w blk off d) (hap:a≤pivot) (hpb:pivot<b) (hb:b≤d.size) (hsz:d.size≤1000000) :
 Calls Tryz.prog 225 #[.slice (some ⟨blk,off,none⟩) d.size cap,.int .i64 (a:Nat),.int .i64 (b:Nat),.int .i64 (pivot:Nat)] w fun e w' =>
  e=.returned (.tuple #[.int .i64 ((partition ltInt d a b pivot).1:Nat),.bool (partition ltInt d a b pivot).2.1])∧∃ n,w'=rowU w n blk off (partition ltInt d a b pivot).2.2:=by
 obtain ⟨G0,hG0⟩:∃ G:Nat→Int,∀ t,G t=d[t]! := ⟨fun t=>d[t]!,fun _=>rfl⟩;have hcw:∀ t,t<d.size→w.cell? ⟨blk,off+t,none⟩=some (.int .u32 (G0 t)):=fun t ht=>by rw [hG0];exact (hH t ht).1
 have hfw:∀ t,t<d.size→w.frozen? ⟨blk,off+t,none⟩=false:=fun t ht=>(hH t ht).2
 have HG0:=hidI hG0;have HH:=hidI hH;clear hG0 hH;go_enter Tryz.func225,Tryz.ntmps225
 go_upto_region 1 with fail
 go_cut [] from 12 (fun wx=>∃ n,wx=rowU w n blk off (swp d a pivot))
 case first =>
  by_cases hpa:pivot=a
  ·subst hpa;go_region
   all_goals go_wp2
   all_goals go_meet
   case rel =>
    refine ⟨1,?_⟩;rw [HG0.out];exact (swapU (qa5 HH.out) (by omega) (by omega)).trans (by rw [Nat.zero_add])
  ·have hne:¬a=pivot:=fun h=>hpa h.symm
   go_region
   all_goals go_wp2
   all_goals go_meet
   case rel =>
    refine ⟨1,?_⟩;rw [HG0.out,HG0.out];exact (swapU (qa5 HH.out) (by omega) (by omega)).trans (by rw [Nat.zero_add])
 case rest =>
 obtain ⟨n0,hwc⟩:=hcut;have HWc:=hidI hwc;clear hwc hcw hfw;obtain ⟨dk,hdk⟩:∃ dk,dk=swp d a pivot:=⟨_,rfl⟩;have hds:dk.size=d.size:=by rw [hdk];exact size_swp _ _ _
 rw [←hdk] at HWc;have Hdk:=hidI hdk;clear hdk;obtain ⟨G,hG⟩:∃ G:Nat→Int,∀ t,G t=dk[t]! := ⟨fun t=>dk[t]!,fun _=>rfl⟩;have HG:=hidI hG;clear hG;obtain ⟨i,hi⟩:∃ i,i=a+1:=⟨_,rfl⟩;obtain ⟨j,hj⟩:∃ j,j=b - 1:=⟨_,rfl⟩;have ei:(a:Int)+1=(i:Nat):=by omega
 have ej:(b:Int) - 1=(j:Nat):=by omega
 have hai:a<i:=by omega
 have hij:i≤j+1:=by omega
 have hjb:j<b:=by omega
 have Hi:=hidI hi;have Hj:=hidI hj;clear hi hj;go_upto_block 0 with fail
 go_cut [10] from 30 to 167 (fun s10 wx=>∃ (i2 m:Nat),s10=.int .i64 (i2:Nat)∧i≤i2∧i2≤j+1∧wx=rowU w m blk off dk∧Hid (i2=scanUp (fun x=>ltInt x dk[a]!) dk j i))
 case first =>
  go_wp2_with fail
  go_loopg [10] (j+1 - i) (fun k vi w1=>∃ (i' m:Nat),vi=.int .i64 (i':Nat)∧i≤i'∧i'≤j+1∧j+1 - i'≤k∧w1=rowU w m blk off dk∧Hid (scanUp (fun x=>ltInt x dk[a]!) dk j i'=scanUp (fun x=>ltInt x dk[a]!) dk j i))
  case atStart=>exact ⟨i,n0,by rfl,by omega,by omega,by omega,HWc.out,hidI rfl⟩
  case round =>
   obtain ⟨i',m,rfl,h1,h2,h3,hw1,HS⟩:=hrel;obtain ⟨hcw,hfw⟩:=qaF HH.out hds hw1;simp only [←HG.out] at hcw;have HW1:=hidI hw1;clear hw1;by_cases hle:i'≤j
   ·have hle':((i':Nat):Int)≤(j:Nat):=by omega
    go_wp2_with fail
    go_quiet (first | (go_at_call 223;refine Calls.quiet_of_same (lessU _ _ _)))
    go_wp2_with fail
    ·have hl:ltInt (G i') (G a)=true:=by assumption
     go_roundg (j+1 - (i'+1))
     case measure=>omega
     case rel=>exact ⟨i'+1,m+nq,by go_num,by omega,by omega,by omega,qag HW1.out nq,hidI (by rw [←HS.out,scanUp_go _ _ _ _ hle (by rw [←HG.out,←HG.out];exact hl)])⟩
    ·have hl:ltInt (G i') (G a)=false:=by assumption
     go_meet
     case rel=>exact ⟨i',m+nq,rfl,h1,h2,qag HW1.out nq,hidI (by rw [←HS.out,scanUp_end _ _ _ _ (Or.inr (by rw [←HG.out,←HG.out];exact hl))])⟩
   ·have hle':decide (((i':Nat):Int)≤(j:Nat))=false:=decide_eq_false (by omega);go_wp2_with fail
    go_quiet (first | (go_at_call 223;refine Calls.quiet_of_same (lessU _ _ _)))
    go_wp2_with fail;go_meet
    case rel=>exact ⟨i',m+nq,rfl,h1,h2,qag HW1.out nq,hidI (by rw [←HS.out,scanUp_end _ _ _ _ (Or.inl hle)])⟩
 case rest =>
 obtain ⟨i2,m2,rfl,hi2,hi2j,hw2,HI⟩:=hcut;have HW2:=hidI hw2;clear hw2;go_upto_block 2 with fail
 go_cut [11] from 30 to 167 (fun s11 wx=>∃ (j2 m:Nat),s11=.int .i64 (j2:Nat)∧j2≤j∧i2≤j2+1∧wx=rowU w m blk off dk∧Hid (j2=scanDown (fun x => !ltInt x dk[a]!) dk i2 j))
 case first =>
  go_wp2_with fail
  go_loopg [11] (j+1 - i2) (fun k vj w1=>∃ (j' m:Nat),vj=.int .i64 (j':Nat)∧j'≤j∧i2≤j'+1∧j'+1 - i2≤k∧w1=rowU w m blk off dk∧Hid (scanDown (fun x => !ltInt x dk[a]!) dk i2 j'=scanDown (fun x => !ltInt x dk[a]!) dk i2 j))
  case atStart=>exact ⟨j,m2,rfl,by omega,by omega,by omega,HW2.out,hidI rfl⟩
  case round =>
   obtain ⟨j',m,rfl,h1,h2,h3,hw1,HS⟩:=hrel;obtain ⟨hcw,hfw⟩:=qaF HH.out hds hw1;simp only [←HG.out] at hcw;have HW1:=hidI hw1;clear hw1;by_cases hle:i2≤j'
   ·have hle':((i2:Nat):Int)≤(j':Nat):=by omega
    go_wp2_with fail
    go_quiet (first | (go_at_call 223;refine Calls.quiet_of_same (lessU _ _ _)))
    go_wp2_with fail
    ·have hl:(!ltInt (G j') (G a))=true:=by assumption
     go_roundg (j'+1 - 1 - i2)
     case measure=>omega
     case rel=>exact ⟨j' - 1,m+nq,by congr 1;omega,by omega,by omega,by omega,qag HW1.out nq,hidI (by rw [←HS.out,scanDown_go _ _ _ _ hle (by omega) (by rw [←HG.out,←HG.out];exact hl)])⟩
    ·have hl:(!ltInt (G j') (G a))=false:=by assumption
     go_meet
     case rel=>exact ⟨j',m+nq,rfl,h1,h2,qag HW1.out nq,hidI (by rw [←HS.out,scanDown_end _ _ _ _ (Or.inr (by rw [←HG.out,←HG.out];exact hl))])⟩
   ·have hle':decide (((i2:Nat):Int)≤(j':Nat))=false:=decide_eq_false (by omega);go_wp2_with fail
    go_quiet (first | (go_at_call 223;refine Calls.quiet_of_same (lessU _ _ _)))
    go_wp2_with fail;go_meet
    case rel=>exact ⟨j',m+nq,rfl,h1,h2,qag HW1.out nq,hidI (by rw [←HS.out,scanDown_end _ _ _ _ (Or.inl hle)])⟩
 case rest =>
 obtain ⟨j2,m3,rfl,hj2,hij2,hw3,HJ⟩:=hcut;obtain ⟨hcw,hfw⟩:=qaF HH.out hds hw3;simp only [←HG.out] at hcw;have HW3:=hidI hw3;clear hw3;by_cases hgt:j2<i2
 ·have hgt':((j2:Nat):Int)<(i2:Nat):=by omega
  have HP:=hidI (part_first_break ltInt d a b pivot Hi.out Hj.out Hdk.out HI.out HJ.out hgt);by_cases hja:j2=a
  ·subst hja;go_wp2_with fail;go_region
   all_goals go_wp2_with fail
   go_ret2
   rw [HP.out];refine ⟨rfl,m3+1,?_⟩;rw [HG.out];exact swapU HW3.out (by omega) (by omega)
  ·have hja':¬a=j2:=fun h=>hja h.symm
   go_wp2_with fail;go_region
   all_goals go_wp2_with fail
   go_ret2
   rw [HP.out];refine ⟨rfl,m3+1,?_⟩;rw [HG.out,HG.out];exact swapU HW3.out (by omega) (by omega)
 ·have hlt:i2<j2:=part_scans_lt ltInt a i j dk (by omega) HI.out HJ.out (by omega);have hgt':¬((j2:Nat):Int)<(i2:Nat):=by omega
  have hne:¬i2=j2:=by omega
  have hne':¬j2=i2:=by omega
  obtain ⟨r,hr⟩:∃ r,r=partLoop ltInt a (i2+1) (j2 - 1) (swp dk i2 j2):=⟨_,rfl⟩;have HP:Hid (partition ltInt d a b pivot=(r.1,false,swp r.2 r.1 a)):=hidI (by rw [hr];exact part_first_go ltInt d a b pivot Hi.out Hj.out Hdk.out HI.out HJ.out hgt);have Hr:=hidI hr;clear hr;go_wp2_with fail;go_region
  all_goals go_wp2_with fail
  have HW4:=hidI (swapU (i:=i2) (j:=j2) HW3.out (by omega) (by omega));have hw4:=HW4.out;rw [←HG.out,←HG.out] at hw4;rw [hw4];clear hw4 hcw hfw
  go_loopg [10,11] (b - a) (fun k vi vj wr=>∃ (i j n:Nat) (dk1:Array Int),vi=.int .i64 (i:Nat)∧vj=.int .i64 (j:Nat)∧a<i∧i≤j+1∧j<b∧j+1 - i≤k∧dk1.size=d.size∧wr=rowU w n blk off dk1∧Hid (partLoop ltInt a i j dk1=r))
  case atStart=>exact ⟨i2+1,j2 - 1,m3+1,swp dk i2 j2,by go_num,by congr 1;omega,by omega,by omega,by omega,by omega,by rw [size_swp];exact hds,rfl,hidI Hr.out.symm⟩
  case round =>
   clear HW4 HW3 HI HJ HG Hdk HW2 HWc Hi Hj ei ej Hr hlt hgt' hgt hne hne' hij2 hj2 hi2j hi2 hds hai hij hjb;obtain ⟨i,j,n,dk,rfl,rfl,hai,hij,hjb,hk,hds,hwr,HE⟩:=hrel;obtain ⟨G,hG⟩:∃ G:Nat→Int,∀ t,G t=dk[t]! := ⟨fun t=>dk[t]!,fun _=>rfl⟩;have HG:=hidI hG;have HW:=hidI hwr;clear hwr hG;go_upto_block 6 with fail
   go_cut [10] from 99 to 152 (fun s10 wx=>∃ (i2 m:Nat),s10=.int .i64 (i2:Nat)∧i≤i2∧i2≤j+1∧wx=rowU w m blk off dk∧Hid (i2=scanUp (fun x=>ltInt x dk[a]!) dk j i))
   case first =>
    go_wp2_with fail
    go_loopg [10] (j+1 - i) (fun k vi w1=>∃ (i' m:Nat),vi=.int .i64 (i':Nat)∧i≤i'∧i'≤j+1∧j+1 - i'≤k∧w1=rowU w m blk off dk∧Hid (scanUp (fun x=>ltInt x dk[a]!) dk j i'=scanUp (fun x=>ltInt x dk[a]!) dk j i))
    case atStart=>exact ⟨i,n,rfl,by omega,by omega,by omega,HW.out,hidI rfl⟩
    case round =>
     obtain ⟨i',m,rfl,h1,h2,h3,hw1,HS⟩:=hrel;obtain ⟨hcw,hfw⟩:=qaF HH.out hds hw1;simp only [←HG.out] at hcw;have HW1:=hidI hw1;clear hw1;by_cases hle:i'≤j
     ·have hle':((i':Nat):Int)≤(j:Nat):=by omega
      go_wp2_with fail
      go_quiet (first | (go_at_call 223;refine Calls.quiet_of_same (lessU _ _ _)))
      go_wp2_with fail
      ·have hl:ltInt (G i') (G a)=true:=by assumption
       go_roundg (j+1 - (i'+1))
       case measure=>omega
       case rel=>exact ⟨i'+1,m+nq,by go_num,by omega,by omega,by omega,qag HW1.out nq,hidI (by rw [←HS.out,scanUp_go _ _ _ _ hle (by rw [←HG.out,←HG.out];exact hl)])⟩
      ·have hl:ltInt (G i') (G a)=false:=by assumption
       go_meet
       case rel=>exact ⟨i',m+nq,rfl,h1,h2,qag HW1.out nq,hidI (by rw [←HS.out,scanUp_end _ _ _ _ (Or.inr (by rw [←HG.out,←HG.out];exact hl))])⟩
     ·have hle':decide (((i':Nat):Int)≤(j:Nat))=false:=decide_eq_false (by omega);go_wp2_with fail
      go_quiet (first | (go_at_call 223;refine Calls.quiet_of_same (lessU _ _ _)))
      go_wp2_with fail;go_meet
      case rel=>exact ⟨i',m+nq,rfl,h1,h2,qag HW1.out nq,hidI (by rw [←HS.out,scanUp_end _ _ _ _ (Or.inl hle)])⟩
   case rest =>
   obtain ⟨i2,m2,rfl,hi2,hi2j,hw2,HI⟩:=hcut;have HW2:=hidI hw2;clear hw2;go_upto_block 8 with fail
   go_cut [11] from 99 to 152 (fun s11 wx=>∃ (j2 m:Nat),s11=.int .i64 (j2:Nat)∧j2≤j∧i2≤j2+1∧wx=rowU w m blk off dk∧Hid (j2=scanDown (fun x => !ltInt x dk[a]!) dk i2 j))
   case first =>
    go_wp2_with fail
    go_loopg [11] (j+1 - i2) (fun k vj w1=>∃ (j' m:Nat),vj=.int .i64 (j':Nat)∧j'≤j∧i2≤j'+1∧j'+1 - i2≤k∧w1=rowU w m blk off dk∧Hid (scanDown (fun x => !ltInt x dk[a]!) dk i2 j'=scanDown (fun x => !ltInt x dk[a]!) dk i2 j))
    case atStart=>exact ⟨j,m2,rfl,by omega,by omega,by omega,HW2.out,hidI rfl⟩
    case round =>
     obtain ⟨j',m,rfl,h1,h2,h3,hw1,HS⟩:=hrel;obtain ⟨hcw,hfw⟩:=qaF HH.out hds hw1;simp only [←HG.out] at hcw;have HW1:=hidI hw1;clear hw1;by_cases hle:i2≤j'
     ·have hle':((i2:Nat):Int)≤(j':Nat):=by omega
      go_wp2_with fail
      go_quiet (first | (go_at_call 223;refine Calls.quiet_of_same (lessU _ _ _)))
      go_wp2_with fail
      ·have hl:(!ltInt (G j') (G a))=true:=by assumption
       go_roundg (j'+1 - 1 - i2)
       case measure=>omega
       case rel=>exact ⟨j' - 1,m+nq,by congr 1;omega,by omega,by omega,by omega,qag HW1.out nq,hidI (by rw [←HS.out,scanDown_go _ _ _ _ hle (by omega) (by rw [←HG.out,←HG.out];exact hl)])⟩
      ·have hl:(!ltInt (G j') (G a))=false:=by assumption
       go_meet
       case rel=>exact ⟨j',m+nq,rfl,h1,h2,qag HW1.out nq,hidI (by rw [←HS.out,scanDown_end _ _ _ _ (Or.inr (by rw [←HG.out,←HG.out];exact hl))])⟩
     ·have hle':decide (((i2:Nat):Int)≤(j':Nat))=false:=decide_eq_false (by omega);go_wp2_with fail
      go_quiet (first | (go_at_call 223;refine Calls.quiet_of_same (lessU _ _ _)))
      go_wp2_with fail;go_meet
      case rel=>exact ⟨j',m+nq,rfl,h1,h2,qag HW1.out nq,hidI (by rw [←HS.out,scanDown_end _ _ _ _ (Or.inl hle)])⟩
   case rest =>
   obtain ⟨j2,m3,rfl,hj2,hij2,hw3,HJ⟩:=hcut;obtain ⟨hcw,hfw⟩:=qaF HH.out hds hw3;simp only [←HG.out] at hcw;have HW3:=hidI hw3;clear hw3;by_cases hgt:j2<i2
   ·have hgt':((j2:Nat):Int)<(i2:Nat):=by omega
    have e:=part_break ltInt a i j dk HI.out HJ.out hgt;rw [HE.out] at e;have HP':Hid (partition ltInt d a b pivot=(j2,false,swp dk j2 a)):=hidI (by rw [HP.out,e]);clear e;by_cases hja:j2=a
    ·subst hja;go_wp2_with fail;go_region
     all_goals go_wp2_with fail
     go_ret2
     rw [HP'.out];refine ⟨rfl,m3+1,?_⟩;rw [HG.out];exact swapU HW3.out (by omega) (by omega)
    ·have hja':¬a=j2:=fun h=>hja h.symm
     go_wp2_with fail;go_region
     all_goals go_wp2_with fail
     go_ret2
     rw [HP'.out];refine ⟨rfl,m3+1,?_⟩;rw [HG.out,HG.out];exact swapU HW3.out (by omega) (by omega)
   ·have hlt:i2<j2:=part_scans_lt ltInt a i j dk (by omega) HI.out HJ.out (by omega);have hgt':¬((j2:Nat):Int)<(i2:Nat):=by omega
    have hne:¬i2=j2:=by omega
    have hne':¬j2=i2:=by omega
    go_wp2_with fail;go_region
    all_goals go_wp2_with fail
    go_roundg (j2 - 1+1 - (i2+1))
    case measure=>omega
    case rel =>
     refine ⟨i2+1,j2 - 1,m3+1,swp dk i2 j2,by go_num,by congr 1;omega,by omega,by omega,by omega,by omega,by rw [size_swp];exact hds,?_,hidI ?_⟩
     ·rw [HG.out,HG.out];exact swapU HW3.out (by omega) (by omega)
     ·rw [←HE.out,part_go ltInt a i j dk HI.out HJ.out hgt]
theorem qlX (blk off cap a b:Nat) (d:Array Int) (w:World) (hH:HoldsU w blk off d) (hab:a<b) (hb:b≤d.size) (hsz:d.size≤1000000) :
 Calls Tryz.prog 222 #[.slice (some ⟨blk,off,none⟩) d.size cap,.int .i64 (a:Nat),.int .i64 (b:Nat)] w fun e w' =>
  e=.returned (.bool (partialInsertionSort ltInt d a b).2)∧∃ n,w'=rowU w n blk off (partialInsertionSort ltInt d a b).1:=by
 have HH:=hidI hH;clear hH;go_enter Tryz.func222,Tryz.ntmps222
 go_wp2_with fail
 go_loopg [7,8] 6 (fun k vi vs wr=>∃ (i s n:Nat) (dk:Array Int),vi=.int .i64 (i:Nat)∧vs=.int .i64 (s:Nat)∧a<i∧i≤b∧s≤5∧6 - s≤k∧dk.size=d.size∧wr=rowU w n blk off dk∧Hid (partialIns ltInt a b (5 - s) i dk=partialInsertionSort ltInt d a b))
 case atStart=>exact ⟨a+1,0,0,d,by go_num,rfl,by omega,by omega,by omega,by omega,rfl,qa5 HH.out,hidI rfl⟩
 case round =>
  obtain ⟨i,s,n,dk,rfl,rfl,hai,hib,hs5,hk,hds,hwr,HE⟩:=hrel;obtain ⟨G,hG⟩:∃ G:Nat→Int,∀ t,G t=dk[t]! := ⟨fun t=>dk[t]!,fun _=>rfl⟩;have HG:=hidI hG;have HW:=hidI hwr;clear hwr hG;by_cases hs:s<5
  ·have hs':((s:Nat):Int)<5:=by omega
   go_upto_block 2 with fail
   go_cut [7] from 13 to 132 (fun s7 wx=>∃ (k2 m:Nat),s7=.int .i64 (k2:Nat)∧i≤k2∧k2≤b∧wx=rowU w m blk off dk∧Hid (scanSorted ltInt dk b i=k2))
   case first =>
    go_wp2_with fail
    go_loopg [7] (b - i) (fun k vi w1=>∃ (i' m:Nat),vi=.int .i64 (i':Nat)∧i≤i'∧i'≤b∧b - i'≤k∧w1=rowU w m blk off dk∧Hid (scanSorted ltInt dk b i'=scanSorted ltInt dk b i))
    case atStart=>exact ⟨i,n,rfl,by omega,by omega,by omega,HW.out,hidI rfl⟩
    case round =>
     obtain ⟨i',m,rfl,h1,h2,h3,hw1,HS⟩:=hrel;obtain ⟨hcw,hfw⟩:=qaF HH.out hds hw1;simp only [←HG.out] at hcw;have HW1:=hidI hw1;clear hw1;by_cases hle:i'<b
     ·have hle':((i':Nat):Int)<(b:Nat):=by omega
      go_wp2_with fail
      go_quiet (first | (go_at_call 223;refine Calls.quiet_of_same (lessU _ _ _)))
      go_wp2_with fail
      ·have hl:(!ltInt (G i') (G (i' - 1)))=true:=by assumption
       go_roundg (b - (i'+1))
       case measure=>omega
       case rel=>exact ⟨i'+1,m+nq,by go_num,by omega,by omega,by omega,qag HW1.out nq,hidI (by rw [←HS.out,scanSorted_go _ _ _ _ hle (by rw [←HG.out,←HG.out];simpa using hl)])⟩
      ·have hl:(!ltInt (G i') (G (i' - 1)))=false:=by assumption
       go_meet
       case rel=>exact ⟨i',m+nq,rfl,h1,h2,qag HW1.out nq,hidI (by rw [←HS.out,scanSorted_stop _ _ _ _ (Or.inr (by rw [←HG.out,←HG.out];simpa using hl))])⟩
     ·have hle':decide (((i':Nat):Int)<(b:Nat))=false:=decide_eq_false (by omega);go_wp2_with fail
      go_quiet (first | (go_at_call 223;refine Calls.quiet_of_same (lessU _ _ _)))
      go_wp2_with fail;go_meet
      case rel=>exact ⟨i',m+nq,rfl,h1,h2,qag HW1.out nq,hidI (by rw [←HS.out,scanSorted_stop _ _ _ _ (Or.inl hle)])⟩
   case rest =>
    obtain ⟨k2,m2,rfl,hk2,hk2b,hw2,HI⟩:=hcut;obtain ⟨hcw,hfw⟩:=qaF HH.out hds hw2;simp only [←HG.out] at hcw;have HW2:=hidI hw2;clear hw2;by_cases hkb:k2=b
    ·have HP:Hid (partialInsertionSort ltInt d a b=(dk,true)):=hidI (by rw [←HE.out];exact pi_true ltInt a b s i dk hs (by rw [HI.out];exact hkb));subst hkb;go_wp2_with fail;go_ret
     rw [HP.out];exact ⟨rfl,m2,HW2.out⟩
    ·have hkb':(((k2:Nat):Int)==(b:Nat))=false:=by simp;omega
     by_cases h50:b - a<50
     ·have h50':((b:Nat):Int) - (a:Nat)<50:=by omega
      have HP:Hid (partialInsertionSort ltInt d a b=(dk,false)):=hidI (by rw [←HE.out];exact pi_short ltInt a b s i dk hs (by rw [HI.out];exact hkb) h50);go_wp2_with fail;go_ret
      rw [HP.out];exact ⟨rfl,m2,HW2.out⟩
     ·have h50':¬((b:Nat):Int) - (a:Nat)<50:=by omega
      have HN:=hidI (pi_go ltInt a b s i k2 dk hs HI.out hkb h50);have hk1:0<k2:=by omega
      go_wp2_with fail;go_region
      all_goals go_upto_if 61 with fail
      obtain ⟨d1,hd1⟩:∃ d1,d1=swp dk k2 (k2 - 1):=⟨_,rfl⟩;have hw3:=swapU (i:=k2) (j:=k2 - 1) HW2.out (by omega) (by omega);rw [←HG.out,←HG.out,←hd1] at hw3;rw [hw3];have hds1:d1.size=d.size:=by rw [hd1,size_swp];exact hds
      rw [←hd1] at HN;clear hw3 hcw hfw hd1
      go_cut [] from 13 to 132 (fun wx=>∃ m,(fixDown ltInt a k2 d1).size=d.size∧wx=rowU w m blk off (fixDown ltInt a k2 d1))
      case first =>
       by_cases h2:2≤k2 - a
       ·have h2':(2:Int)≤(k2:Nat) - (a:Nat):=by omega
        have HF:Hid (fixDown ltInt a k2 d1=shiftDown ltInt (k2 - 1) d1):=hidI (by unfold fixDown;rw [if_pos h2]);go_wp2_with fail
        go_loopg [9] k2 (fun k vj w1=>∃ (j m:Nat) (dj:Array Int),vj=.int .i64 (j:Nat)∧j<k2∧j≤k∧dj.size=d.size∧w1=rowU w m blk off dj∧Hid (shiftDown ltInt j dj=shiftDown ltInt (k2 - 1) d1))
        case atStart=>exact ⟨k2 - 1,m2+1,d1,by congr 1;omega,by omega,by omega,hds1,rfl,hidI rfl⟩
        case round =>
         obtain ⟨j,m,dj,rfl,h1,h3,hdj,hw1,HS⟩:=hrel;obtain ⟨Gj,hGj⟩:∃ G:Nat→Int,∀ t,G t=dj[t]! := ⟨fun t=>dj[t]!,fun _=>rfl⟩;obtain ⟨hcw,hfw⟩:=qaF HH.out hdj hw1;simp only [←hGj] at hcw;have HGj:=hidI hGj;have HW1:=hidI hw1;clear hw1 hGj;by_cases hj1:1≤j
         ·have hj1':(1:Int)≤(j:Nat):=by omega
          go_wp2_with fail
          go_quiet (first | (go_at_call 223;refine Calls.quiet_of_same (lessU _ _ _)))
          go_wp2_with fail
          ·have hl:(!ltInt (Gj j) (Gj (j - 1)))=true:=by assumption
           go_meet
           case rel=>exact ⟨m+nq,by rw [HF.out,←HS.out,shiftDown_stop _ _ _ (Or.inr (by rw [←HGj.out,←HGj.out];simpa using hl))];exact ⟨hdj,qag HW1.out nq⟩⟩
          ·have hl:(!ltInt (Gj j) (Gj (j - 1)))=false:=by assumption
           obtain ⟨wq,hwq⟩:∃ wq,wq=wr.drewN nq:=⟨_,rfl⟩;have hwq':wq=rowU w (m+nq) blk off dj:=by rw [hwq];exact qag HW1.out nq
           rw [←hwq];obtain ⟨hcw2,hfw2⟩:=qaF HH.out hdj hwq';simp only [←HGj.out] at hcw2;have HWq:=hidI hwq';clear hwq hwq' hcw hfw;go_region
           all_goals go_wp2_with fail
           go_roundg (j - 1)
           case measure=>omega
           case rel =>
            refine ⟨j - 1,m+nq+1,swp dj j (j - 1),by congr 1;omega,by omega,by omega,by rw [size_swp];exact hdj,?_,hidI ?_⟩
            ·rw [HGj.out,HGj.out];exact swapU HWq.out (by omega) (by omega)
            ·rw [←HS.out,shiftDown_go ltInt j dj hj1 (by rw [←HGj.out,←HGj.out];simpa using hl)]
         ·have hj1':¬(1:Int)≤(j:Nat):=by omega
          go_wp2_with fail;go_meet
          case rel=>exact ⟨m,by rw [HF.out,←HS.out,shiftDown_stop _ _ _ (Or.inl (by omega))];exact ⟨hdj,HW1.out⟩⟩
       ·have h2':¬(2:Int)≤(k2:Nat) - (a:Nat):=by omega
        have HF:Hid (fixDown ltInt a k2 d1=d1):=hidI (by unfold fixDown;rw [if_neg h2]);go_wp2_with fail;go_meet
        case rel=>exact ⟨m2+1,by rw [HF.out];exact ⟨hds1,rfl⟩⟩
      case rest =>
       obtain ⟨m4,hds2,hw4⟩:=hcut;obtain ⟨d2,hd2⟩:∃ d2,d2=fixDown ltInt a k2 d1:=⟨_,rfl⟩;rw [←hd2] at hw4 HN hds2;have HW4:=hidI hw4;clear hw4 hd2;have OUT:Hid (∀ m wx,(fixUp ltInt b k2 d2).size=d.size→wx=rowU w m blk off (fixUp ltInt b k2 d2)→∃ (i s' n:Nat) (dk:Array Int),Value.int .i64 ((k2:Nat):Int)=.int .i64 (i:Nat)∧Value.int .i64 (((s:Nat):Int)+1)=.int .i64 (s':Nat)∧a<i∧i≤b∧s'≤5∧6 - s'≤5 - s∧dk.size=d.size∧wx=rowU w n blk off dk∧Hid (partialIns ltInt a b (5 - s') i dk=partialInsertionSort ltInt d a b)):=
        hidI (fun m wx h h'=>⟨k2,s+1,m,_,rfl,by go_num,by omega,by omega,by omega,by omega,h,h',hidI (by rw [←HE.out,HN.out])⟩)
       by_cases h2:2≤b - k2
       ·have h2':(2:Int)≤(b:Nat) - (k2:Nat):=by omega
        have HF:Hid (fixUp ltInt b k2 d2=shiftUp ltInt b (k2+1) d2):=hidI (by unfold fixUp;rw [if_pos h2]);go_wp2_with fail
        go_loopg [10] (b - k2) (fun k vj w1=>∃ (j m:Nat) (dj:Array Int),vj=.int .i64 (j:Nat)∧k2<j∧j≤b∧b - j≤k∧dj.size=d.size∧w1=rowU w m blk off dj∧Hid (shiftUp ltInt b j dj=shiftUp ltInt b (k2+1) d2))
        case atStart=>exact ⟨k2+1,m4,d2,by go_num,by omega,by omega,by omega,hds2,HW4.out,hidI rfl⟩
        case round =>
         obtain ⟨j,m,dj,rfl,h1,hjb,h3,hdj,hw1,HS⟩:=hrel;obtain ⟨Gj,hGj⟩:∃ G:Nat→Int,∀ t,G t=dj[t]! := ⟨fun t=>dj[t]!,fun _=>rfl⟩;obtain ⟨hcw,hfw⟩:=qaF HH.out hdj hw1;simp only [←hGj] at hcw;have HGj:=hidI hGj;have HW1:=hidI hw1;clear hw1 hGj;by_cases hj1:j<b
         ·have hj1':((j:Nat):Int)<(b:Nat):=by omega
          go_wp2_with fail
          go_quiet (first | (go_at_call 223;refine Calls.quiet_of_same (lessU _ _ _)))
          go_wp2_with fail
          ·have hl:(!ltInt (Gj j) (Gj (j - 1)))=true:=by assumption
           go_roundg (5 - s)
           case measure=>omega
           case rel =>
            have e:=shiftUp_stop ltInt b j dj (Or.inr (by rw [←HGj.out,←HGj.out];simpa using hl));rw [HS.out,←HF.out] at e;exact OUT.out (m+nq) _ (by rw [e];exact hdj) (by rw [e];exact qag HW1.out nq)
          ·have hl:(!ltInt (Gj j) (Gj (j - 1)))=false:=by assumption
           obtain ⟨wq,hwq⟩:∃ wq,wq=wr.drewN nq:=⟨_,rfl⟩;have hwq':wq=rowU w (m+nq) blk off dj:=by rw [hwq];exact qag HW1.out nq
           rw [←hwq];obtain ⟨hcw2,hfw2⟩:=qaF HH.out hdj hwq';simp only [←HGj.out] at hcw2;have HWq:=hidI hwq';clear hwq hwq' hcw hfw;go_region
           all_goals go_wp2_with fail
           go_roundg (b - (j+1))
           case measure=>omega
           case rel =>
            refine ⟨j+1,m+nq+1,swp dj j (j - 1),by go_num,by omega,by omega,by omega,by rw [size_swp];exact hdj,?_,hidI ?_⟩
            ·rw [HGj.out,HGj.out];exact swapU HWq.out (by omega) (by omega)
            ·rw [←HS.out,shiftUp_go ltInt b j dj hj1 (by rw [←HGj.out,←HGj.out];simpa using hl)]
         ·have hj1':¬((j:Nat):Int)<(b:Nat):=by omega
          go_wp2_with fail;go_roundg (5 - s)
          case measure=>omega
          case rel =>
           have e:=shiftUp_stop ltInt b j dj (Or.inl hj1);rw [HS.out,←HF.out] at e;exact OUT.out m _ (by rw [e];exact hdj) (by rw [e];exact HW1.out)
       ·have h2':¬(2:Int)≤(b:Nat) - (k2:Nat):=by omega
        have HF:Hid (fixUp ltInt b k2 d2=d2):=hidI (by unfold fixUp;rw [if_neg h2]);go_wp2_with fail;go_roundg (5 - s)
        case measure=>omega
        case rel=>exact OUT.out m4 _ (by rw [HF.out];exact hds2) (by rw [HF.out];exact HW4.out)
  ·have hs':¬((s:Nat):Int)<5:=by omega
   have HP:Hid (partialInsertionSort ltInt d a b=(dk,false)):=hidI (by rw [←HE.out,show s=5 by omega];exact pi_end ltInt a b i dk);go_wp2_with fail;go_ret
   rw [HP.out];exact ⟨rfl,n,HW.out⟩
end Go.Proofs.YtodmdkhdbfbfgabGreatDoor.S1
namespace Go.Proofs
open Go.RowKit Go.Sort Go.Shelf
shelf_lay_g SlLaysF0.n47 Slsf 47 at Tryz 197 as Tryz.npowA
shelf_lay_g SlLaysF0.n48 Slsf 48 at Tryz 198 as Tryz.xorA
namespace YtodmdkhdbfbfgabGreatDoor.S1
theorem npowU (n:Nat) (hn:n<4611686018427387904) (w:World):Calls Tryz.prog 197 #[.int .i64 n] w fun e w'=>e=.returned (.int .u64 ((1 <<< bitsLen n:Nat):Int))∧w'=w:=AnyF.nextPowerOfTwo Tryz.npowA n hn w
theorem xorU (rb ro X:Nat) (hX:X<18446744073709551616) (w:World) (hc:w.cell? ⟨rb,ro,none⟩=some (.int .u64 X)) (hf:w.frozen? ⟨rb,ro,none⟩=false) :
 Calls Tryz.prog 198 #[.pointer (some ⟨rb,ro,none⟩)] w fun e w'=>e=.returned (.int .u64 (xorNextN X:Nat))∧w'=(w.setCell ⟨rb,ro,none⟩ (.int .u64 (xorNextN X:Nat))).drewN 3:=AnyF.xorshift_Next Tryz.xorA rb ro X hX w hc hf
end YtodmdkhdbfbfgabGreatDoor.S1
end Go.Proofs
namespace Go.Proofs.YtodmdkhdbfbfgabGreatDoor.S1
open Go.RowKit Go.Sort
abbrev bpW (w:World) (n blk off:Nat) (dk:Array Int) (r:UInt64):World:=grow (rowU w n blk off dk) #[Obj.cells #[.int .u64 (r.toNat:Nat)] 258]
theorem qga {w:World} {blk off n:Nat} {d dk:Array Int} {r:UInt64} (hH:HoldsU w blk off d) (hblk:blk<w.heap.size) (hs:dk.size=d.size) :
 (∀ t,t<d.size→(bpW w n blk off dk r).cell? ⟨blk,off+t,none⟩=some (.int .u32 dk[t]!))∧(∀ t,t<d.size→(bpW w n blk off dk r).frozen? ⟨blk,off+t,none⟩=false) ∧
 (bpW w n blk off dk r).cell? ⟨w.heap.size,0,none⟩=some (.int .u64 (r.toNat:Nat))∧(bpW w n blk off dk r).frozen? ⟨w.heap.size,0,none⟩=false:=by
 have hz:(rowU w n blk off dk).heap.size=w.heap.size:=by simp
 refine ⟨fun t ht => ?_,fun t ht => ?_,?_,?_⟩
 ·rw [bpW,cell?_grow _ _ _ (by rw [hz];exact hblk)];exact qaK hH hs t ht
 ·rw [bpW,frozen?_grow _ _ _ (by rw [hz];exact hblk)];exact qat hH t ht
 ·rw [bpW,←hz];exact grow_one_cell _ _ _
 ·rw [bpW,←hz];exact grow_one_frozen _ _ _
theorem qms (w:World) (n blk off q:Nat) (dk:Array Int) (r r':UInt64):((bpW w n blk off dk r).setCell ⟨w.heap.size,0,none⟩ (.int .u64 (r'.toNat:Nat))).drewN q=bpW w (n+q) blk off dk r':=by
 have hz:(rowU w n blk off dk).heap.size=w.heap.size:=by simp
 rw [bpW,←hz,setCell_grow_one];show grow ((rowU w n blk off dk).drewN q) _=_;rw [qag rfl]
theorem qmk {w:World} {n blk off:Nat} {dk:Array Int} {i j:Nat} (r:UInt64) (hblk:blk<w.heap.size) (hi:i<dk.size) (hj:j<dk.size):(((bpW w n blk off dk r).setCell ⟨blk,off+i,none⟩ (.int .u32 dk[j]!)).setCell ⟨blk,off+j,none⟩ (.int .u32 dk[i]!)).drew=bpW w (n+1) blk off (swp dk i j) r:=by
 rw [bpW,setCell_grow _ _ _ _ _ (by simpa using hblk),setCell_grow _ _ _ _ _ (by simpa using hblk),bpW,←swapU rfl hi hj];rfl
theorem breakU (blk off cap a b:Nat) (d:Array Int) (w:World) (hH:HoldsU w blk off d) (hblk:blk<w.heap.size) (hab:a≤b) (hb:b≤d.size) (hsz:d.size≤1000000) :
 Calls Tryz.prog 219 #[.slice (some ⟨blk,off,none⟩) d.size cap,.int .i64 (a:Nat),.int .i64 (b:Nat)] w fun e w' =>
  e=.returned (.tuple #[])∧∃ n os,w'=grow (rowU w n blk off (breakPatterns d a b)) os:=by
 obtain ⟨L,hL⟩:∃ L,L=b - a:=⟨_,rfl⟩;have hbL:b=a+L:=by omega
 have eL:((b:Nat):Int) - (a:Nat)=(L:Nat):=by omega
 have HH:=hidI hH;by_cases h8:8≤L
 ·have h8':(8:Int)≤(L:Nat):=by omega
  obtain ⟨M,hM⟩:∃ M:Nat,M=1 <<< bitsLen L:=⟨_,rfl⟩;have hM1:1≤M:=by rw [hM,Nat.one_shiftLeft];exact Nat.two_pow_pos _
  have hM2:M≤2*L:=by rw [hM,Nat.one_shiftLeft];exact two_pow_bitsLen_le (by omega)
  obtain ⟨q,hq⟩:∃ q,q=L/4:=⟨_,rfl⟩;have eq:Int.tdiv (L:Nat) 4=(q:Nat):=by rw [Int.tdiv_eq_ediv_of_nonneg (by omega)];omega
  obtain ⟨i0,hi0⟩:∃ i0,i0=a+q*2 - 1:=⟨_,rfl⟩;have e0:(a:Int)+(q:Nat)*2 - 1=(i0:Nat):=by omega
  have e2:(a:Int)+(q:Nat)*2+1=(i0:Nat)+2:=by omega
  have hi1:i0+2<a+L:=by omega
  have hi2:a≤i0:=by omega
  have HB:Hid (breakPatterns d a b=bpRest a L M i0 3 0 (UInt64.ofNat L,d)):=hidI (by rw [hbL,breakPatterns_eq d a L h8,hM,hi0,hq]);have HP:Hid (∀ w,Calls Tryz.prog 197 #[.int .i64 (L:Nat)] w fun e w'=>e=.returned (.int .u64 (M:Nat))∧w'=w):=hidI (fun w=>by rw [hM];exact npowU L (by omega) w);have HST:Hid (w.alloc (Obj.cells #[.int .u64 (L:Nat)] 258)=bpW w 0 blk off d (UInt64.ofNat L)):=hidI (by
   rw [bpW,←qa5 hH,alloc_eq_grow,show (UInt64.ofNat L).toNat=L by simp;omega])
  have hb2:a+L≤d.size:=by omega
  clear hM hq hi0 hL hH hbL hab hb;go_enter Tryz.func219,Tryz.ntmps219
  go_wp2_with fail;refine (HP.out _).mono ?_;rintro e w1 ⟨rfl,hw1⟩;rw [HST.out] at hw1;have HW1:=hidI hw1;clear hw1;go_wp2_with fail
  go_loopg [9] 4 (fun k vi wr=>∃ (p t n:Nat) (r:UInt64) (dk:Array Int),vi=.int .i64 (p:Nat)∧Hid (p=i0+t)∧t≤3∧4 - t≤k∧dk.size=d.size∧wr=bpW w n blk off dk r∧Hid (bpRest a L M i0 (3 - t) t (r,dk)=bpRest a L M i0 3 0 (UInt64.ofNat L,d)))
  case atStart=>exact ⟨i0,0,0,UInt64.ofNat L,d,rfl,hidI rfl,by omega,by omega,rfl,HW1.out,hidI rfl⟩
  case round =>
   obtain ⟨p,t,n,r,dk,rfl,Hp,ht,hk,hds,hw,HR⟩:=hrel;obtain ⟨G,hG⟩:∃ G:Nat→Int,∀ t,G t=dk[t]! := ⟨fun t=>dk[t]!,fun _=>rfl⟩;obtain ⟨hcw,hfw,hcB,hfB⟩:=qga (n:=n) (r:=r) HH.out hblk hds;simp only [←hw] at hcw hfw hcB hfB;simp only [←hG] at hcw;obtain ⟨R,hR⟩:∃ R:Nat,R=(xorNext r).toNat:=⟨_,rfl⟩;have lR:R<18446744073709551616:=by rw [hR];exact (xorNext r).toNat_lt
   obtain ⟨O,hO⟩:∃ O:Nat,O=R &&& (M - 1):=⟨_,rfl⟩;have lO:O≤M - 1:=by rw [hO];exact Nat.and_le_right
   have eM:((M:Nat):Int) - 1=((M - 1:Nat):Int):=by omega
   have eAnd:bits .and .u64 (R:Nat) ((M:Nat) - 1)=(O:Nat):=by rw [eM,bits_and_u64_nat _ _ lR (by omega),hO]
   have HX:Hid (Calls Tryz.prog 198 #[.pointer (some ⟨w.heap.size,0,none⟩)] wr fun e w'=>e=.returned (.int .u64 (R:Nat))∧w'=(wr.setCell ⟨w.heap.size,0,none⟩ (.int .u64 (R:Nat))).drewN 3):=hidI (by
    have h:=xorU w.heap.size 0 r.toNat r.toNat_lt wr hcB hfB;rw [←xorNext_toNat,←hR] at h;exact h)
   have HG:=hidI hG;have HW:=hidI hw;have HRR:=hidI hR;have HO:=hidI hO;clear hw hG hR hO eM;have hp:=Hp.out;by_cases ht3:t<3
   ·have ht3':((p:Nat):Int)≤(i0:Nat)+2:=by omega
    have hpL:p<a+L:=by omega
    obtain ⟨o,ho⟩:∃ o,o=if L≤O then O - L else O:=⟨_,rfl⟩;have hoL:o<L:=by rw [ho];split<;>omega
    obtain ⟨z,hz⟩:∃ z,z=a+o:=⟨_,rfl⟩;have ez:((a:Nat):Int)+(o:Nat)=(z:Nat):=by omega
    have hzL:z<a+L:=by omega
    have HSt:Hid (bpRest a L M i0 (3 - t) t (r,dk)=bpRest a L M i0 (3 - (t+1)) (t+1) (xorNext r,swp dk p z)):=hidI (by rw [hp,hz];exact bp_step a L M i0 t r dk o ht3 (by rw [←HRR.out,←HO.out,ho]));have OUT:Hid (∃ (p' t' n':Nat) (r':UInt64) (dk':Array Int),Value.int .i64 (((p:Nat):Int)+1)=.int .i64 (p':Nat)∧Hid (p'=i0+t')∧t'≤3∧4 - t'≤3 - t∧dk'.size=d.size∧bpW w (n+3+1) blk off (swp dk p z) (xorNext r)=bpW w n' blk off dk' r'∧Hid (bpRest a L M i0 (3 - t') t' (r',dk')=bpRest a L M i0 3 0 (UInt64.ofNat L,d))):=
     hidI ⟨p+1,t+1,n+3+1,xorNext r,swp dk p z,by go_num,hidI (by omega),by omega,by omega,by rw [size_swp];exact hds,rfl,hidI (by rw [←HR.out,HSt.out])⟩
    have Hp3:Hid (3 - t<gk):=hidI (by omega);clear hp hz;go_wp2_with fail;refine HX.out.mono ?_;rintro e w2 ⟨rfl,hw2⟩;rw [HW.out,HRR.out,qms w n blk off 3 dk r (xorNext r)] at hw2;obtain ⟨hcw2,hfw2,-,-⟩:=qga (n:=n+3) (r:=xorNext r) HH.out hblk hds;simp only [←hw2] at hcw2 hfw2;simp only [←HG.out] at hcw2;have HW2:=hidI hw2;clear hw2 hcw hfw hcB hfB;have SW:Hid (((w2.setCell ⟨blk,off+p,none⟩ (.int .u32 (G z))).setCell ⟨blk,off+z,none⟩ (.int .u32 (G p))).drew=bpW w (n+3+1) blk off (swp dk p z) (xorNext r)):=hidI (by
     rw [HW2.out,HG.out,HG.out];exact qmk _ hblk (by omega) (by omega))
    by_cases hLO:L≤O
    ·have hLO':((L:Nat):Int)≤(O:Nat):=by omega
     have eo:((O:Nat):Int) - (L:Nat)=(o:Nat):=by rw [ho,if_pos hLO];omega
     clear ho;by_cases hEq:p=z
     ·subst hEq;go_wp2_with fail;go_region
      all_goals go_wp2_with fail
      rw [SW.out];go_roundg (3 - t)
      case measure=>exact Hp3.out
      case rel=>exact OUT.out
     ·have hEq':¬z=p:=fun h=>hEq h.symm
      go_wp2_with fail;go_region
      all_goals go_wp2_with fail
      rw [SW.out];go_roundg (3 - t)
      case measure=>exact Hp3.out
      case rel=>exact OUT.out
    ·have hLO':¬((L:Nat):Int)≤(O:Nat):=by omega
     have eo:O=o:=by rw [ho,if_neg hLO]
     clear ho;subst eo;by_cases hEq:p=z
     ·subst hEq;go_wp2_with fail;go_region
      all_goals go_wp2_with fail
      rw [SW.out];go_roundg (3 - t)
      case measure=>exact Hp3.out
      case rel=>exact OUT.out
     ·have hEq':¬z=p:=fun h=>hEq h.symm
      go_wp2_with fail;go_region
      all_goals go_wp2_with fail
      rw [SW.out];go_roundg (3 - t)
      case measure=>exact Hp3.out
      case rel=>exact OUT.out
   ·have ht3':¬((p:Nat):Int)≤(i0:Nat)+2:=by omega
    have h3:t=3:=by omega
    rw [h3] at HR;clear hp;go_wp2_with fail;go_end0
    refine ⟨rfl,n,#[Obj.cells #[.int .u64 (r.toNat:Nat)] 258],?_⟩;rw [HW.out,HB.out,←HR.out];rfl
 ·have h8':¬(8:Int)≤(L:Nat):=by omega
  have HB:Hid (breakPatterns d a b=d):=hidI (by unfold breakPatterns;simp only [];rw [if_neg (by omega)]);clear hH hbL hL;go_enter Tryz.func219,Tryz.ntmps219
  go_wp2;go_end0
  refine ⟨rfl,0,#[],?_⟩;rw [HB.out,grow_empty];exact qa5 HH.out
end Go.Proofs.YtodmdkhdbfbfgabGreatDoor.S1
