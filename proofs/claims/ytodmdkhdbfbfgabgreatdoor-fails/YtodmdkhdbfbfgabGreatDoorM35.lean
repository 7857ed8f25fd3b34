/- Lemmas. -/
import Derived.Sort.WalkC4
import Derived.Deep.CutBlock
import Derived.Sort.WalkA6
import Derived.Shelf.SlSortCmp.Xorshift
import Derived.Shelf.Small.Bits
import Derived.Ground.NamesProg
import Derived.Test.YtodmdkhdbfbfgabGreatDoorM34
set_option linter.unusedVariables false
set_option linter.unusedSimpArgs false
set_option maxRecDepth 100000
set_option maxHeartbeats 8000000
namespace Go.Proofs.YtodmdkhdbfbfgabGreatDoor.S1
open Go.RowKit Go.Sort
theorem qaJ {w wr:World} {blk off n:Nat} {d dk:Array Int} (hH:HoldsU w blk off d) (hs:dk.size=d.size) (hw:wr=rowU w n blk off dk):(∀ t,t<d.size→wr.cell? ⟨blk,off+t,none⟩=some (.int .u32 dk[t]!))∧(∀ t,t<d.size→wr.frozen? ⟨blk,off+t,none⟩=false):=by
 subst hw;exact ⟨fun t ht=>qaN hH hs t ht,fun t ht=>qay hH t ht⟩
theorem qae {w wr:World} {blk off n:Nat} {dk:Array Int} (hw:wr=rowU w n blk off dk) (q:Nat):wr.drewN q=rowU w (n+q) blk off dk:=by
 rw [hw];exact putRow_drewN _ _ _ _ _ _ _
theorem swapU {w wr:World} {blk off n i j:Nat} {dk:Array Int} (hw:wr=rowU w n blk off dk) (hi:i<dk.size) (hj:j<dk.size):((wr.setCell ⟨blk,off+i,none⟩ (.int .u32 dk[j]!)).setCell ⟨blk,off+j,none⟩ (.int .u32 dk[i]!)).drew=rowU w (n+1) blk off (swp dk i j):=by
 subst hw;exact swap_worldA (Value.int .u32) w n 1 blk off dk i j hi hj
theorem qa5 {w:World} {blk off:Nat} {d:Array Int} (hH:HoldsU w blk off d):w=rowU w 0 blk off d:=(putRow_self _ _ _ _ _ hH).symm
theorem qnT (blk off cap a b pivot:Nat) (d:Array Int) (w:World) (hH:HoldsU w blk off d) (hap:a≤pivot) (hpb:pivot<b) (hb:b≤d.size) (hsz:d.size≤1000000) :
 Calls Tryz.prog 224 #[.slice (some ⟨blk,off,none⟩) d.size cap,.int .i64 (a:Nat),.int .i64 (b:Nat),.int .i64 (pivot:Nat)] w fun e w' =>
  e=.returned (.int .i64 ((partitionEqual ltInt d a b pivot).1:Nat))∧∃ n,w'=rowU w n blk off (partitionEqual ltInt d a b pivot).2:=by
 obtain ⟨G0,hG0⟩:∃ G:Nat→Int,∀ t,G t=d[t]! := ⟨fun t=>d[t]!,fun _=>rfl⟩;have hcw:∀ t,t<d.size→w.cell? ⟨blk,off+t,none⟩=some (.int .u32 (G0 t)):=fun t ht=>by rw [hG0];exact (hH t ht).1
 have hfw:∀ t,t<d.size→w.frozen? ⟨blk,off+t,none⟩=false:=fun t ht=>(hH t ht).2
 have HG0:=hidI hG0;have HH:=hidI hH;clear hG0 hH;go_enter Tryz.func224,Tryz.ntmps224
 go_upto_region 1 with fail
 go_cut [] from 11 (fun wx=>∃ n,wx=rowU w n blk off (swp d a pivot))
 case first =>
  by_cases hpa:pivot=a
  ·subst hpa;go_region
   all_goals go_wp2
   all_goals go_meet
   refine ⟨1,?_⟩;rw [HG0.out];exact (swapU (qa5 HH.out) (by omega) (by omega)).trans (by rw [Nat.zero_add])
  have hne:¬a=pivot:=fun h=>hpa h.symm
  go_region
  all_goals go_wp2
  all_goals go_meet
  refine ⟨1,?_⟩;rw [HG0.out,HG0.out];exact (swapU (qa5 HH.out) (by omega) (by omega)).trans (by rw [Nat.zero_add])
 case rest =>
 obtain ⟨n0,hwc⟩:=hcut;have HWc:=hidI hwc;clear hwc hcw hfw;go_wp2_with fail
 go_loopg [9,10] (b - a) (fun k vi vj wr=>∃ (i j n:Nat) (dk:Array Int),vi=.int .i64 (i:Nat)∧vj=.int .i64 (j:Nat)∧a<i∧i≤j+1∧j<b∧j+1 - i≤k∧dk.size=d.size∧wr=rowU w n blk off dk∧Hid (partEqLoop ltInt a i j dk=partitionEqual ltInt d a b pivot))
 case atStart=>exact ⟨a+1,b - 1,n0,swp d a pivot,by go_num,by congr 1;omega,by omega,by omega,by omega,by omega,size_swp _ _ _,HWc.out,hidI rfl⟩
 case round =>
  obtain ⟨i,j,n,dk,rfl,rfl,hai,hij,hjb,hk,hds,hwr,HE⟩:=hrel;obtain ⟨G,hG⟩:∃ G:Nat→Int,∀ t,G t=dk[t]! := ⟨fun t=>dk[t]!,fun _=>rfl⟩;have HG:=hidI hG;have HW:=hidI hwr;clear hwr hG;go_upto_block 2 with fail
  go_cut [9] from 29 to 82 (fun s9 wx=>∃ (i2 m:Nat),s9=.int .i64 (i2:Nat)∧i≤i2∧i2≤j+1∧wx=rowU w m blk off dk∧Hid (i2=scanUp (fun x => !ltInt dk[a]! x) dk j i))
  case first =>
   go_wp2_with fail
   go_loopg [9] (j+1 - i) (fun k vi w1=>∃ (i' m:Nat),vi=.int .i64 (i':Nat)∧i≤i'∧i'≤j+1∧j+1 - i'≤k∧w1=rowU w m blk off dk∧Hid (scanUp (fun x => !ltInt dk[a]! x) dk j i'=scanUp (fun x => !ltInt dk[a]! x) dk j i))
   case atStart=>exact ⟨i,n,rfl,by omega,by omega,by omega,HW.out,hidI rfl⟩
   case round =>
    obtain ⟨i',m,rfl,h1,h2,h3,hw1,HS⟩:=hrel;obtain ⟨hcw,hfw⟩:=qaJ HH.out hds hw1;simp only [←HG.out] at hcw;have HW1:=hidI hw1;clear hw1;by_cases hle:i'≤j
    ·have hle':((i':Nat):Int)≤(j:Nat):=by omega
     go_wp2_with fail
     go_quiet (first | (go_at_call 223;refine Calls.quiet_of_same (lessU _ _ _)))
     go_wp2_with fail
     ·have hl:(!ltInt (G a) (G i'))=true:=by assumption
      go_roundg (j+1 - (i'+1))
      case measure=>omega
      case rel=>exact ⟨i'+1,m+nq,by go_num,by omega,by omega,by omega,qae HW1.out nq,hidI (by rw [←HS.out,scanUp_go _ _ _ _ hle (by rw [←HG.out,←HG.out];exact hl)])⟩
     have hl:(!ltInt (G a) (G i'))=false:=by assumption
     go_meet
     case rel=>exact ⟨i',m+nq,rfl,h1,h2,qae HW1.out nq,hidI (by rw [←HS.out,scanUp_end _ _ _ _ (Or.inr (by rw [←HG.out,←HG.out];exact hl))])⟩
    have hle':decide (((i':Nat):Int)≤(j:Nat))=false:=decide_eq_false (by omega);go_wp2_with fail
    go_quiet (first | (go_at_call 223;refine Calls.quiet_of_same (lessU _ _ _)))
    go_wp2_with fail;go_meet
    case rel=>exact ⟨i',m+nq,rfl,h1,h2,qae HW1.out nq,hidI (by rw [←HS.out,scanUp_end _ _ _ _ (Or.inl hle)])⟩
  case rest =>
   obtain ⟨i2,m2,rfl,hi2,hi2j,hw2,HI⟩:=hcut;have HW2:=hidI hw2;clear hw2;go_upto_block 4 with fail
   go_cut [10] from 29 to 82 (fun s10 wx=>∃ (j2 m:Nat),s10=.int .i64 (j2:Nat)∧j2≤j∧i2≤j2+1∧wx=rowU w m blk off dk∧Hid (j2=scanDown (fun x=>ltInt dk[a]! x) dk i2 j))
   case first =>
    go_wp2_with fail
    go_loopg [10] (j+1 - i2) (fun k vj w1=>∃ (j' m:Nat),vj=.int .i64 (j':Nat)∧j'≤j∧i2≤j'+1∧j'+1 - i2≤k∧w1=rowU w m blk off dk∧Hid (scanDown (fun x=>ltInt dk[a]! x) dk i2 j'=scanDown (fun x=>ltInt dk[a]! x) dk i2 j))
    case atStart=>exact ⟨j,m2,rfl,by omega,by omega,by omega,HW2.out,hidI rfl⟩
    case round =>
     obtain ⟨j',m,rfl,h1,h2,h3,hw1,HS⟩:=hrel;obtain ⟨hcw,hfw⟩:=qaJ HH.out hds hw1;simp only [←HG.out] at hcw;have HW1:=hidI hw1;clear hw1;by_cases hle:i2≤j'
     ·have hle':((i2:Nat):Int)≤(j':Nat):=by omega
      go_wp2_with fail
      go_quiet (first | (go_at_call 223;refine Calls.quiet_of_same (lessU _ _ _)))
      go_wp2_with fail
      ·have hl:ltInt (G a) (G j')=true:=by assumption
       go_roundg (j'+1 - 1 - i2)
       case measure=>omega
       case rel=>exact ⟨j' - 1,m+nq,by congr 1;omega,by omega,by omega,by omega,qae HW1.out nq,hidI (by rw [←HS.out,scanDown_go _ _ _ _ hle (by omega) (by rw [←HG.out,←HG.out];exact hl)])⟩
      have hl:ltInt (G a) (G j')=false:=by assumption
      go_meet
      case rel=>exact ⟨j',m+nq,rfl,h1,h2,qae HW1.out nq,hidI (by rw [←HS.out,scanDown_end _ _ _ _ (Or.inr (by rw [←HG.out,←HG.out];exact hl))])⟩
     have hle':decide (((i2:Nat):Int)≤(j':Nat))=false:=decide_eq_false (by omega);go_wp2_with fail
     go_quiet (first | (go_at_call 223;refine Calls.quiet_of_same (lessU _ _ _)))
     go_wp2_with fail;go_meet
     case rel=>exact ⟨j',m+nq,rfl,h1,h2,qae HW1.out nq,hidI (by rw [←HS.out,scanDown_end _ _ _ _ (Or.inl hle)])⟩
   case rest =>
    obtain ⟨j2,m3,rfl,hj2,hij2,hw3,HJ⟩:=hcut;obtain ⟨hcw,hfw⟩:=qaJ HH.out hds hw3;simp only [←HG.out] at hcw;have HW3:=hidI hw3;clear hw3;by_cases hgt:j2<i2
    ·have hgt':((j2:Nat):Int)<(i2:Nat):=by omega
     go_wp2_with fail;go_ret
     have e:=partEq_break ltInt a i j dk HI.out HJ.out hgt;rw [HE.out] at e;rw [e];exact ⟨rfl,m3,HW3.out⟩
    have hlt:i2<j2:=scans_lt ltInt a i j dk (by omega) HI.out HJ.out (by omega);have hgt':¬((j2:Nat):Int)<(i2:Nat):=by omega
    have hne:¬i2=j2:=by omega
    have hne':¬j2=i2:=by omega
    go_wp2_with fail;go_region
    all_goals go_wp2_with fail
    go_roundg (j2 - 1+1 - (i2+1))
    case measure=>omega
    refine ⟨i2+1,j2 - 1,m3+1,swp dk i2 j2,by go_num,by congr 1;omega,by omega,by omega,by omega,by omega,by rw [size_swp];exact hds,?_,hidI ?_⟩
    ·rw [HG.out,HG.out];exact swapU HW3.out (by omega) (by omega)
    rw [←HE.out,partEq_go ltInt a i j dk HI.out HJ.out hgt]
theorem partU (blk off cap a b pivot:Nat) (d:Array Int) (w:World) (hH:HoldsU w blk off d) (hap:a≤pivot) (hpb:pivot<b) (hb:b≤d.size) (hsz:d.size≤1000000) :
 Calls Tryz.prog 225 #[.slice (some ⟨blk,off,none⟩) d.size cap,.int .i64 (a:Nat),.int .i64 (b:Nat),.int .i64 (pivot:Nat)] w fun e w' =>
  e=.returned (.tuple #[.int .i64 ((partition ltInt d a b pivot).1:Nat),.bool (partition ltInt d a b pivot).2.1])∧∃ n,w'=rowU w n blk off (partition ltInt d a b pivot).2.2:=by
 obtain ⟨G0,hG0⟩:∃ G:Nat→Int,∀ t,G t=d[t]! := ⟨fun t=>d[t]!,fun _=>rfl⟩;have hcw:∀ t,t<d.size→w.cell? ⟨blk,off+t,none⟩=some (.int .u32 (G0 t)):=fun t ht=>by rw [hG0];exact (hH t ht).1
 have hfw:∀ t,t<d.size→w.frozen? ⟨blk,off+t,none⟩=false:=fun t ht=>(hH t ht).2
 have HG0:=hidI hG0;have HH:=hidI hH;clear hG0 hH;go_enter Tryz.func225,Tryz.ntmps225
 go_upto_region 1 with fail
 go_cut [] from 12 (fun wx=>∃ n,wx=rowU w n blk off (swp d a pivot))
 case first =>
  by_cases hpa:pivot=a
  ·subst hpa;go_region
   all_goals go_wp2
   all_goals go_meet
   refine ⟨1,?_⟩;rw [HG0.out];exact (swapU (qa5 HH.out) (by omega) (by omega)).trans (by rw [Nat.zero_add])
  have hne:¬a=pivot:=fun h=>hpa h.symm
  go_region
  all_goals go_wp2
  all_goals go_meet
  refine ⟨1,?_⟩;rw [HG0.out,HG0.out];exact (swapU (qa5 HH.out) (by omega) (by omega)).trans (by rw [Nat.zero_add])
 case rest =>
 obtain ⟨n0,hwc⟩:=hcut;have HWc:=hidI hwc;clear hwc hcw hfw;obtain ⟨dk,hdk⟩:∃ dk,dk=swp d a pivot:=⟨_,rfl⟩;have hds:dk.size=d.size:=by rw [hdk];exact size_swp _ _ _
 rw [←hdk] at HWc;have Hdk:=hidI hdk;clear hdk;obtain ⟨G,hG⟩:∃ G:Nat→Int,∀ t,G t=dk[t]! := ⟨fun t=>dk[t]!,fun _=>rfl⟩;have HG:=hidI hG;clear hG;obtain ⟨i,hi⟩:∃ i,i=a+1:=⟨_,rfl⟩;obtain ⟨j,hj⟩:∃ j,j=b - 1:=⟨_,rfl⟩;have ei:(a:Int)+1=(i:Nat):=by omega
 have ej:(b:Int) - 1=(j:Nat):=by omega
 have hai:a<i:=by omega
 have hij:i≤j+1:=by omega
 have hjb:j<b:=by omega
 have Hi:=hidI hi;have Hj:=hidI hj;clear hi hj;go_upto_block 0 with fail
 go_cut [10] from 30 to 167 (fun s10 wx=>∃ (i2 m:Nat),s10=.int .i64 (i2:Nat)∧i≤i2∧i2≤j+1∧wx=rowU w m blk off dk∧Hid (i2=scanUp (fun x=>ltInt x dk[a]!) dk j i))
 case first =>
  go_wp2_with fail
  go_loopg [10] (j+1 - i) (fun k vi w1=>∃ (i' m:Nat),vi=.int .i64 (i':Nat)∧i≤i'∧i'≤j+1∧j+1 - i'≤k∧w1=rowU w m blk off dk∧Hid (scanUp (fun x=>ltInt x dk[a]!) dk j i'=scanUp (fun x=>ltInt x dk[a]!) dk j i))
  case atStart=>exact ⟨i,n0,by rfl,by omega,by omega,by omega,HWc.out,hidI rfl⟩
  case round =>
   obtain ⟨i',m,rfl,h1,h2,h3,hw1,HS⟩:=hrel;obtain ⟨hcw,hfw⟩:=qaJ HH.out hds hw1;simp only [←HG.out] at hcw;have HW1:=hidI hw1;clear hw1;by_cases hle:i'≤j
   ·have hle':((i':Nat):Int)≤(j:Nat):=by omega
    go_wp2_with fail
    go_quiet (first | (go_at_call 223;refine Calls.quiet_of_same (lessU _ _ _)))
    go_wp2_with fail
    ·have hl:ltInt (G i') (G a)=true:=by assumption
     go_roundg (j+1 - (i'+1))
     case measure=>omega
     case rel=>exact ⟨i'+1,m+nq,by go_num,by omega,by omega,by omega,qae HW1.out nq,hidI (by rw [←HS.out,scanUp_go _ _ _ _ hle (by rw [←HG.out,←HG.out];exact hl)])⟩
    have hl:ltInt (G i') (G a)=false:=by assumption
    go_meet
    case rel=>exact ⟨i',m+nq,rfl,h1,h2,qae HW1.out nq,hidI (by rw [←HS.out,scanUp_end _ _ _ _ (Or.inr (by rw [←HG.out,←HG.out];exact hl))])⟩
   have hle':decide (((i':Nat):Int)≤(j:Nat))=false:=decide_eq_false (by omega);go_wp2_with fail
   go_quiet (first | (go_at_call 223;refine Calls.quiet_of_same (lessU _ _ _)))
   go_wp2_with fail;go_meet
   case rel=>exact ⟨i',m+nq,rfl,h1,h2,qae HW1.out nq,hidI (by rw [←HS.out,scanUp_end _ _ _ _ (Or.inl hle)])⟩
 case rest =>
 obtain ⟨i2,m2,rfl,hi2,hi2j,hw2,HI⟩:=hcut;have HW2:=hidI hw2;clear hw2;go_upto_block 2 with fail
 go_cut [11] from 30 to 167 (fun s11 wx=>∃ (j2 m:Nat),s11=.int .i64 (j2:Nat)∧j2≤j∧i2≤j2+1∧wx=rowU w m blk off dk∧Hid (j2=scanDown (fun x => !ltInt x dk[a]!) dk i2 j))
 case first =>
  go_wp2_with fail
  go_loopg [11] (j+1 - i2) (fun k vj w1=>∃ (j' m:Nat),vj=.int .i64 (j':Nat)∧j'≤j∧i2≤j'+1∧j'+1 - i2≤k∧w1=rowU w m blk off dk∧Hid (scanDown (fun x => !ltInt x dk[a]!) dk i2 j'=scanDown (fun x => !ltInt x dk[a]!) dk i2 j))
  case atStart=>exact ⟨j,m2,rfl,by omega,by omega,by omega,HW2.out,hidI rfl⟩
  case round =>
   obtain ⟨j',m,rfl,h1,h2,h3,hw1,HS⟩:=hrel;obtain ⟨hcw,hfw⟩:=qaJ HH.out hds hw1;simp only [←HG.out] at hcw;have HW1:=hidI hw1;clear hw1;by_cases hle:i2≤j'
   ·have hle':((i2:Nat):Int)≤(j':Nat):=by omega
    go_wp2_with fail
    go_quiet (first | (go_at_call 223;refine Calls.quiet_of_same (lessU _ _ _)))
    go_wp2_with fail
    ·have hl:(!ltInt (G j') (G a))=true:=by assumption
     go_roundg (j'+1 - 1 - i2)
     case measure=>omega
     case rel=>exact ⟨j' - 1,m+nq,by congr 1;omega,by omega,by omega,by omega,qae HW1.out nq,hidI (by rw [←HS.out,scanDown_go _ _ _ _ hle (by omega) (by rw [←HG.out,←HG.out];exact hl)])⟩
    have hl:(!ltInt (G j') (G a))=false:=by assumption
    go_meet
    case rel=>exact ⟨j',m+nq,rfl,h1,h2,qae HW1.out nq,hidI (by rw [←HS.out,scanDown_end _ _ _ _ (Or.inr (by rw [←HG.out,←HG.out];exact hl))])⟩
   have hle':decide (((i2:Nat):Int)≤(j':Nat))=false:=decide_eq_false (by omega);go_wp2_with fail
   go_quiet (first | (go_at_call 223;refine Calls.quiet_of_same (lessU _ _ _)))
   go_wp2_with fail;go_meet
   case rel=>exact ⟨j',m+nq,rfl,h1,h2,qae HW1.out nq,hidI (by rw [←HS.out,scanDown_end _ _ _ _ (Or.inl hle)])⟩
 case rest =>
 obtain ⟨j2,m3,rfl,hj2,hij2,hw3,HJ⟩:=hcut;obtain ⟨hcw,hfw⟩:=qaJ HH.out hds hw3;simp only [←HG.out] at hcw;have HW3:=hidI hw3;clear hw3;by_cases hgt:j2<i2
 ·have hgt':((j2:Nat):Int)<(i2:Nat):=by omega
  have HP:=hidI (part_first_break ltInt d a b pivot Hi.out Hj.out Hdk.out HI.out HJ.out hgt);by_cases hja:j2=a
  ·subst hja;go_wp2_with fail;go_region
   all_goals go_wp2_with fail
   go_ret2
   rw [HP.out];refine ⟨rfl,m3+1,?_⟩;rw [HG.out];exact swapU HW3.out (by omega) (by omega)
  have hja':¬a=j2:=fun h=>hja h.symm
  go_wp2_with fail;go_region
  all_goals go_wp2_with fail
  go_ret2
  rw [HP.out];refine ⟨rfl,m3+1,?_⟩;rw [HG.out,HG.out];exact swapU HW3.out (by omega) (by omega)
 have hlt:i2<j2:=part_scans_lt ltInt a i j dk (by omega) HI.out HJ.out (by omega);have hgt':¬((j2:Nat):Int)<(i2:Nat):=by omega
 have hne:¬i2=j2:=by omega
 have hne':¬j2=i2:=by omega
 obtain ⟨r,hr⟩:∃ r,r=partLoop ltInt a (i2+1) (j2 - 1) (swp dk i2 j2):=⟨_,rfl⟩;have HP:Hid (partition ltInt d a b pivot=(r.1,false,swp r.2 r.1 a)):=hidI (by rw [hr];exact part_first_go ltInt d a b pivot Hi.out Hj.out Hdk.out HI.out HJ.out hgt);have Hr:=hidI hr;clear hr;go_wp2_with fail;go_region
 all_goals go_wp2_with fail
 have HW4:=hidI (swapU (i:=i2) (j:=j2) HW3.out (by omega) (by omega));have hw4:=HW4.out;rw [←HG.out,←HG.out] at hw4;rw [hw4];clear hw4 hcw hfw
 go_loopg [10,11] (b - a) (fun k vi vj wr=>∃ (i j n:Nat) (dk1:Array Int),vi=.int .i64 (i:Nat)∧vj=.int .i64 (j:Nat)∧a<i∧i≤j+1∧j<b∧j+1 - i≤k∧dk1.size=d.size∧wr=rowU w n blk off dk1∧Hid (partLoop ltInt a i j dk1=r))
 case atStart=>exact ⟨i2+1,j2 - 1,m3+1,swp dk i2 j2,by go_num,by congr 1;omega,by omega,by omega,by omega,by omega,by rw [size_swp];exact hds,rfl,hidI Hr.out.symm⟩
 clear HW4 HW3 HI HJ HG Hdk HW2 HWc Hi Hj ei ej Hr hlt hgt' hgt hne hne' hij2 hj2 hi2j hi2 hds hai hij hjb;obtain ⟨i,j,n,dk,rfl,rfl,hai,hij,hjb,hk,hds,hwr,HE⟩:=hrel;obtain ⟨G,hG⟩:∃ G:Nat→Int,∀ t,G t=dk[t]! := ⟨fun t=>dk[t]!,fun _=>rfl⟩;have HG:=hidI hG;have HW:=hidI hwr;clear hwr hG;go_upto_block 6 with fail
 go_cut [10] from 99 to 152 (fun s10 wx=>∃ (i2 m:Nat),s10=.int .i64 (i2:Nat)∧i≤i2∧i2≤j+1∧wx=rowU w m blk off dk∧Hid (i2=scanUp (fun x=>ltInt x dk[a]!) dk j i))
 case first =>
  go_wp2_with fail
  go_loopg [10] (j+1 - i) (fun k vi w1=>∃ (i' m:Nat),vi=.int .i64 (i':Nat)∧i≤i'∧i'≤j+1∧j+1 - i'≤k∧w1=rowU w m blk off dk∧Hid (scanUp (fun x=>ltInt x dk[a]!) dk j i'=scanUp (fun x=>ltInt x dk[a]!) dk j i))
  case atStart=>exact ⟨i,n,rfl,by omega,by omega,by omega,HW.out,hidI rfl⟩
  case round =>
   obtain ⟨i',m,rfl,h1,h2,h3,hw1,HS⟩:=hrel;obtain ⟨hcw,hfw⟩:=qaJ HH.out hds hw1;simp only [←HG.out] at hcw;have HW1:=hidI hw1;clear hw1;by_cases hle:i'≤j
   ·have hle':((i':Nat):Int)≤(j:Nat):=by omega
    go_wp2_with fail
    go_quiet (first | (go_at_call 223;refine Calls.quiet_of_same (lessU _ _ _)))
    go_wp2_with fail
    ·have hl:ltInt (G i') (G a)=true:=by assumption
     go_roundg (j+1 - (i'+1))
     case measure=>omega
     case rel=>exact ⟨i'+1,m+nq,by go_num,by omega,by omega,by omega,qae HW1.out nq,hidI (by rw [←HS.out,scanUp_go _ _ _ _ hle (by rw [←HG.out,←HG.out];exact hl)])⟩
    have hl:ltInt (G i') (G a)=false:=by assumption
    go_meet
    case rel=>exact ⟨i',m+nq,rfl,h1,h2,qae HW1.out nq,hidI (by rw [←HS.out,scanUp_end _ _ _ _ (Or.inr (by rw [←HG.out,←HG.out];exact hl))])⟩
   have hle':decide (((i':Nat):Int)≤(j:Nat))=false:=decide_eq_false (by omega);go_wp2_with fail
   go_quiet (first | (go_at_call 223;refine Calls.quiet_of_same (lessU _ _ _)))
   go_wp2_with fail;go_meet
   case rel=>exact ⟨i',m+nq,rfl,h1,h2,qae HW1.out nq,hidI (by rw [←HS.out,scanUp_end _ _ _ _ (Or.inl hle)])⟩
 case rest =>
 obtain ⟨i2,m2,rfl,hi2,hi2j,hw2,HI⟩:=hcut;have HW2:=hidI hw2;clear hw2;go_upto_block 8 with fail
 go_cut [11] from 99 to 152 (fun s11 wx=>∃ (j2 m:Nat),s11=.int .i64 (j2:Nat)∧j2≤j∧i2≤j2+1∧wx=rowU w m blk off dk∧Hid (j2=scanDown (fun x => !ltInt x dk[a]!) dk i2 j))
 case first =>
  go_wp2_with fail
  go_loopg [11] (j+1 - i2) (fun k vj w1=>∃ (j' m:Nat),vj=.int .i64 (j':Nat)∧j'≤j∧i2≤j'+1∧j'+1 - i2≤k∧w1=rowU w m blk off dk∧Hid (scanDown (fun x => !ltInt x dk[a]!) dk i2 j'=scanDown (fun x => !ltInt x dk[a]!) dk i2 j))
  case atStart=>exact ⟨j,m2,rfl,by omega,by omega,by omega,HW2.out,hidI rfl⟩
  case round =>
   obtain ⟨j',m,rfl,h1,h2,h3,hw1,HS⟩:=hrel;obtain ⟨hcw,hfw⟩:=qaJ HH.out hds hw1;simp only [←HG.out] at hcw;have HW1:=hidI hw1;clear hw1;by_cases hle:i2≤j'
   ·have hle':((i2:Nat):Int)≤(j':Nat):=by omega
    go_wp2_with fail
    go_quiet (first | (go_at_call 223;refine Calls.quiet_of_same (lessU _ _ _)))
    go_wp2_with fail
    ·have hl:(!ltInt (G j') (G a))=true:=by assumption
     go_roundg (j'+1 - 1 - i2)
     case measure=>omega
     case rel=>exact ⟨j' - 1,m+nq,by congr 1;omega,by omega,by omega,by omega,qae HW1.out nq,hidI (by rw [←HS.out,scanDown_go _ _ _ _ hle (by omega) (by rw [←HG.out,←HG.out];exact hl)])⟩
    have hl:(!ltInt (G j') (G a))=false:=by assumption
    go_meet
    case rel=>exact ⟨j',m+nq,rfl,h1,h2,qae HW1.out nq,hidI (by rw [←HS.out,scanDown_end _ _ _ _ (Or.inr (by rw [←HG.out,←HG.out];exact hl))])⟩
   have hle':decide (((i2:Nat):Int)≤(j':Nat))=false:=decide_eq_false (by omega);go_wp2_with fail
   go_quiet (first | (go_at_call 223;refine Calls.quiet_of_same (lessU _ _ _)))
   go_wp2_with fail;go_meet
   case rel=>exact ⟨j',m+nq,rfl,h1,h2,qae HW1.out nq,hidI (by rw [←HS.out,scanDown_end _ _ _ _ (Or.inl hle)])⟩
 case rest =>
 obtain ⟨j2,m3,rfl,hj2,hij2,hw3,HJ⟩:=hcut;obtain ⟨hcw,hfw⟩:=qaJ HH.out hds hw3;simp only [←HG.out] at hcw;have HW3:=hidI hw3;clear hw3;by_cases hgt:j2<i2
 ·have hgt':((j2:Nat):Int)<(i2:Nat):=by omega
  have e:=part_break ltInt a i j dk HI.out HJ.out hgt;rw [HE.out] at e;have HP':Hid (partition ltInt d a b pivot=(j2,false,swp dk j2 a)):=hidI (by rw [HP.out,e]);clear e;by_cases hja:j2=a
  ·subst hja;go_wp2_with fail;go_region
   all_goals go_wp2_with fail
   go_ret2
   rw [HP'.out];refine ⟨rfl,m3+1,?_⟩;rw [HG.out];exact swapU HW3.out (by omega) (by omega)
  have hja':¬a=j2:=fun h=>hja h.symm
  go_wp2_with fail;go_region
  all_goals go_wp2_with fail
  go_ret2
  rw [HP'.out];refine ⟨rfl,m3+1,?_⟩;rw [HG.out,HG.out];exact swapU HW3.out (by omega) (by omega)
 have hlt:i2<j2:=part_scans_lt ltInt a i j dk (by omega) HI.out HJ.out (by omega);have hgt':¬((j2:Nat):Int)<(i2:Nat):=by omega
 have hne:¬i2=j2:=by omega
 have hne':¬j2=i2:=by omega
 go_wp2_with fail;go_region
 all_goals go_wp2_with fail
 go_roundg (j2 - 1+1 - (i2+1))
 case measure=>omega
 refine ⟨i2+1,j2 - 1,m3+1,swp dk i2 j2,by go_num,by congr 1;omega,by omega,by omega,by omega,by omega,by rw [size_swp];exact hds,?_,hidI ?_⟩
 ·rw [HG.out,HG.out];exact swapU HW3.out (by omega) (by omega)
 rw [←HE.out,part_go ltInt a i j dk HI.out HJ.out hgt]
theorem qma (blk off cap a b:Nat) (d:Array Int) (w:World) (hH:HoldsU w blk off d) (hab:a<b) (hb:b≤d.size) (hsz:d.size≤1000000) :
 Calls Tryz.prog 222 #[.slice (some ⟨blk,off,none⟩) d.size cap,.int .i64 (a:Nat),.int .i64 (b:Nat)] w fun e w' =>
  e=.returned (.bool (partialInsertionSort ltInt d a b).2)∧∃ n,w'=rowU w n blk off (partialInsertionSort ltInt d a b).1:=by
 have HH:=hidI hH;clear hH;go_enter Tryz.func222,Tryz.ntmps222
 go_wp2_with fail
 go_loopg [7,8] 6 (fun k vi vs wr=>∃ (i s n:Nat) (dk:Array Int),vi=.int .i64 (i:Nat)∧vs=.int .i64 (s:Nat)∧a<i∧i≤b∧s≤5∧6 - s≤k∧dk.size=d.size∧wr=rowU w n blk off dk∧Hid (partialIns ltInt a b (5 - s) i dk=partialInsertionSort ltInt d a b))
 case atStart=>exact ⟨a+1,0,0,d,by go_num,rfl,by omega,by omega,by omega,by omega,rfl,qa5 HH.out,hidI rfl⟩
 case round =>
  obtain ⟨i,s,n,dk,rfl,rfl,hai,hib,hs5,hk,hds,hwr,HE⟩:=hrel;obtain ⟨G,hG⟩:∃ G:Nat→Int,∀ t,G t=dk[t]! := ⟨fun t=>dk[t]!,fun _=>rfl⟩;have HG:=hidI hG;have HW:=hidI hwr;clear hwr hG;by_cases hs:s<5
  ·have hs':((s:Nat):Int)<5:=by omega
   go_upto_block 2 with fail
   go_cut [7] from 13 to 132 (fun s7 wx=>∃ (k2 m:Nat),s7=.int .i64 (k2:Nat)∧i≤k2∧k2≤b∧wx=rowU w m blk off dk∧Hid (scanSorted ltInt dk b i=k2))
   case first =>
    go_wp2_with fail
    go_loopg [7] (b - i) (fun k vi w1=>∃ (i' m:Nat),vi=.int .i64 (i':Nat)∧i≤i'∧i'≤b∧b - i'≤k∧w1=rowU w m blk off dk∧Hid (scanSorted ltInt dk b i'=scanSorted ltInt dk b i))
    case atStart=>exact ⟨i,n,rfl,by omega,by omega,by omega,HW.out,hidI rfl⟩
    case round =>
     obtain ⟨i',m,rfl,h1,h2,h3,hw1,HS⟩:=hrel;obtain ⟨hcw,hfw⟩:=qaJ HH.out hds hw1;simp only [←HG.out] at hcw;have HW1:=hidI hw1;clear hw1;by_cases hle:i'<b
     ·have hle':((i':Nat):Int)<(b:Nat):=by omega
      go_wp2_with fail
      go_quiet (first | (go_at_call 223;refine Calls.quiet_of_same (lessU _ _ _)))
      go_wp2_with fail
      ·have hl:(!ltInt (G i') (G (i' - 1)))=true:=by assumption
       go_roundg (b - (i'+1))
       case measure=>omega
       case rel=>exact ⟨i'+1,m+nq,by go_num,by omega,by omega,by omega,qae HW1.out nq,hidI (by rw [←HS.out,scanSorted_go _ _ _ _ hle (by rw [←HG.out,←HG.out];simpa using hl)])⟩
      have hl:(!ltInt (G i') (G (i' - 1)))=false:=by assumption
      go_meet
      case rel=>exact ⟨i',m+nq,rfl,h1,h2,qae HW1.out nq,hidI (by rw [←HS.out,scanSorted_stop _ _ _ _ (Or.inr (by rw [←HG.out,←HG.out];simpa using hl))])⟩
     have hle':decide (((i':Nat):Int)<(b:Nat))=false:=decide_eq_false (by omega);go_wp2_with fail
     go_quiet (first | (go_at_call 223;refine Calls.quiet_of_same (lessU _ _ _)))
     go_wp2_with fail;go_meet
     case rel=>exact ⟨i',m+nq,rfl,h1,h2,qae HW1.out nq,hidI (by rw [←HS.out,scanSorted_stop _ _ _ _ (Or.inl hle)])⟩
   obtain ⟨k2,m2,rfl,hk2,hk2b,hw2,HI⟩:=hcut;obtain ⟨hcw,hfw⟩:=qaJ HH.out hds hw2;simp only [←HG.out] at hcw;have HW2:=hidI hw2;clear hw2;by_cases hkb:k2=b
   ·have HP:Hid (partialInsertionSort ltInt d a b=(dk,true)):=hidI (by rw [←HE.out];exact pi_true ltInt a b s i dk hs (by rw [HI.out];exact hkb));subst hkb;go_wp2_with fail;go_ret
    rw [HP.out];exact ⟨rfl,m2,HW2.out⟩
   have hkb':(((k2:Nat):Int)==(b:Nat))=false:=by simp;omega
   by_cases h50:b - a<50
   ·have h50':((b:Nat):Int) - (a:Nat)<50:=by omega
    have HP:Hid (partialInsertionSort ltInt d a b=(dk,false)):=hidI (by rw [←HE.out];exact pi_short ltInt a b s i dk hs (by rw [HI.out];exact hkb) h50);go_wp2_with fail;go_ret
    rw [HP.out];exact ⟨rfl,m2,HW2.out⟩
   have h50':¬((b:Nat):Int) - (a:Nat)<50:=by omega
   have HN:=hidI (pi_go ltInt a b s i k2 dk hs HI.out hkb h50);have hk1:0<k2:=by omega
   go_wp2_with fail;go_region
   all_goals go_upto_if 61 with fail
   obtain ⟨d1,hd1⟩:∃ d1,d1=swp dk k2 (k2 - 1):=⟨_,rfl⟩;have hw3:=swapU (i:=k2) (j:=k2 - 1) HW2.out (by omega) (by omega);rw [←HG.out,←HG.out,←hd1] at hw3;rw [hw3];have hds1:d1.size=d.size:=by rw [hd1,size_swp];exact hds
   rw [←hd1] at HN;clear hw3 hcw hfw hd1
   go_cut [] from 13 to 132 (fun wx=>∃ m,(fixDown ltInt a k2 d1).size=d.size∧wx=rowU w m blk off (fixDown ltInt a k2 d1))
   case first =>
    by_cases h2:2≤k2 - a
    ·have h2':(2:Int)≤(k2:Nat) - (a:Nat):=by omega
     have HF:Hid (fixDown ltInt a k2 d1=shiftDown ltInt (k2 - 1) d1):=hidI (by unfold fixDown;rw [if_pos h2]);go_wp2_with fail
     go_loopg [9] k2 (fun k vj w1=>∃ (j m:Nat) (dj:Array Int),vj=.int .i64 (j:Nat)∧j<k2∧j≤k∧dj.size=d.size∧w1=rowU w m blk off dj∧Hid (shiftDown ltInt j dj=shiftDown ltInt (k2 - 1) d1))
     case atStart=>exact ⟨k2 - 1,m2+1,d1,by congr 1;omega,by omega,by omega,hds1,rfl,hidI rfl⟩
     obtain ⟨j,m,dj,rfl,h1,h3,hdj,hw1,HS⟩:=hrel;obtain ⟨Gj,hGj⟩:∃ G:Nat→Int,∀ t,G t=dj[t]! := ⟨fun t=>dj[t]!,fun _=>rfl⟩;obtain ⟨hcw,hfw⟩:=qaJ HH.out hdj hw1;simp only [←hGj] at hcw;have HGj:=hidI hGj;have HW1:=hidI hw1;clear hw1 hGj;by_cases hj1:1≤j
     ·have hj1':(1:Int)≤(j:Nat):=by omega
      go_wp2_with fail
      go_quiet (first | (go_at_call 223;refine Calls.quiet_of_same (lessU _ _ _)))
      go_wp2_with fail
      ·have hl:(!ltInt (Gj j) (Gj (j - 1)))=true:=by assumption
       go_meet
       case rel=>exact ⟨m+nq,by rw [HF.out,←HS.out,shiftDown_stop _ _ _ (Or.inr (by rw [←HGj.out,←HGj.out];simpa using hl))];exact ⟨hdj,qae HW1.out nq⟩⟩
      have hl:(!ltInt (Gj j) (Gj (j - 1)))=false:=by assumption
      obtain ⟨wq,hwq⟩:∃ wq,wq=wr.drewN nq:=⟨_,rfl⟩;have hwq':wq=rowU w (m+nq) blk off dj:=by rw [hwq];exact qae HW1.out nq
      rw [←hwq];obtain ⟨hcw2,hfw2⟩:=qaJ HH.out hdj hwq';simp only [←HGj.out] at hcw2;have HWq:=hidI hwq';clear hwq hwq' hcw hfw;go_region
      all_goals go_wp2_with fail
      go_roundg (j - 1)
      case measure=>omega
      refine ⟨j - 1,m+nq+1,swp dj j (j - 1),by congr 1;omega,by omega,by omega,by rw [size_swp];exact hdj,?_,hidI ?_⟩
      ·rw [HGj.out,HGj.out];exact swapU HWq.out (by omega) (by omega)
      rw [←HS.out,shiftDown_go ltInt j dj hj1 (by rw [←HGj.out,←HGj.out];simpa using hl)]
     have hj1':¬(1:Int)≤(j:Nat):=by omega
     go_wp2_with fail;go_meet
     case rel=>exact ⟨m,by rw [HF.out,←HS.out,shiftDown_stop _ _ _ (Or.inl (by omega))];exact ⟨hdj,HW1.out⟩⟩
    have h2':¬(2:Int)≤(k2:Nat) - (a:Nat):=by omega
    have HF:Hid (fixDown ltInt a k2 d1=d1):=hidI (by unfold fixDown;rw [if_neg h2]);go_wp2_with fail;go_meet
    case rel=>exact ⟨m2+1,by rw [HF.out];exact ⟨hds1,rfl⟩⟩
   obtain ⟨m4,hds2,hw4⟩:=hcut;obtain ⟨d2,hd2⟩:∃ d2,d2=fixDown ltInt a k2 d1:=⟨_,rfl⟩;rw [←hd2] at hw4 HN hds2;have HW4:=hidI hw4;clear hw4 hd2;have OUT:Hid (∀ m wx,(fixUp ltInt b k2 d2).size=d.size→wx=rowU w m blk off (fixUp ltInt b k2 d2)→∃ (i s' n:Nat) (dk:Array Int),Value.int .i64 ((k2:Nat):Int)=.int .i64 (i:Nat)∧Value.int .i64 (((s:Nat):Int)+1)=.int .i64 (s':Nat)∧a<i∧i≤b∧s'≤5∧6 - s'≤5 - s∧dk.size=d.size∧wx=rowU w n blk off dk∧Hid (partialIns ltInt a b (5 - s') i dk=partialInsertionSort ltInt d a b)):=
    hidI (fun m wx h h'=>⟨k2,s+1,m,_,rfl,by go_num,by omega,by omega,by omega,by omega,h,h',hidI (by rw [←HE.out,HN.out])⟩)
   by_cases h2:2≤b - k2
   ·have h2':(2:Int)≤(b:Nat) - (k2:Nat):=by omega
    have HF:Hid (fixUp ltInt b k2 d2=shiftUp ltInt b (k2+1) d2):=hidI (by unfold fixUp;rw [if_pos h2]);go_wp2_with fail
    go_loopg [10] (b - k2) (fun k vj w1=>∃ (j m:Nat) (dj:Array Int),vj=.int .i64 (j:Nat)∧k2<j∧j≤b∧b - j≤k∧dj.size=d.size∧w1=rowU w m blk off dj∧Hid (shiftUp ltInt b j dj=shiftUp ltInt b (k2+1) d2))
    case atStart=>exact ⟨k2+1,m4,d2,by go_num,by omega,by omega,by omega,hds2,HW4.out,hidI rfl⟩
    obtain ⟨j,m,dj,rfl,h1,hjb,h3,hdj,hw1,HS⟩:=hrel;obtain ⟨Gj,hGj⟩:∃ G:Nat→Int,∀ t,G t=dj[t]! := ⟨fun t=>dj[t]!,fun _=>rfl⟩;obtain ⟨hcw,hfw⟩:=qaJ HH.out hdj hw1;simp only [←hGj] at hcw;have HGj:=hidI hGj;have HW1:=hidI hw1;clear hw1 hGj;by_cases hj1:j<b
    ·have hj1':((j:Nat):Int)<(b:Nat):=by omega
     go_wp2_with fail
     go_quiet (first | (go_at_call 223;refine Calls.quiet_of_same (lessU _ _ _)))
     go_wp2_with fail
     ·have hl:(!ltInt (Gj j) (Gj (j - 1)))=true:=by assumption
      go_roundg (5 - s)
      case measure=>omega
      have e:=shiftUp_stop ltInt b j dj (Or.inr (by rw [←HGj.out,←HGj.out];simpa using hl));rw [HS.out,←HF.out] at e;exact OUT.out (m+nq) _ (by rw [e];exact hdj) (by rw [e];exact qae HW1.out nq)
     have hl:(!ltInt (Gj j) (Gj (j - 1)))=false:=by assumption
     obtain ⟨wq,hwq⟩:∃ wq,wq=wr.drewN nq:=⟨_,rfl⟩;have hwq':wq=rowU w (m+nq) blk off dj:=by rw [hwq];exact qae HW1.out nq
     rw [←hwq];obtain ⟨hcw2,hfw2⟩:=qaJ HH.out hdj hwq';simp only [←HGj.out] at hcw2;have HWq:=hidI hwq';clear hwq hwq' hcw hfw;go_region
     all_goals go_wp2_with fail
     go_roundg (b - (j+1))
     case measure=>omega
     refine ⟨j+1,m+nq+1,swp dj j (j - 1),by go_num,by omega,by omega,by omega,by rw [size_swp];exact hdj,?_,hidI ?_⟩
     ·rw [HGj.out,HGj.out];exact swapU HWq.out (by omega) (by omega)
     rw [←HS.out,shiftUp_go ltInt b j dj hj1 (by rw [←HGj.out,←HGj.out];simpa using hl)]
    have hj1':¬((j:Nat):Int)<(b:Nat):=by omega
    go_wp2_with fail;go_roundg (5 - s)
    case measure=>omega
    have e:=shiftUp_stop ltInt b j dj (Or.inl hj1);rw [HS.out,←HF.out] at e;exact OUT.out m _ (by rw [e];exact hdj) (by rw [e];exact HW1.out)
   have h2':¬(2:Int)≤(b:Nat) - (k2:Nat):=by omega
   have HF:Hid (fixUp ltInt b k2 d2=d2):=hidI (by unfold fixUp;rw [if_neg h2]);go_wp2_with fail;go_roundg (5 - s)
   case measure=>omega
   case rel=>exact OUT.out m4 _ (by rw [HF.out];exact hds2) (by rw [HF.out];exact HW4.out)
  have hs':¬((s:Nat):Int)<5:=by omega
  have HP:Hid (partialInsertionSort ltInt d a b=(dk,false)):=hidI (by rw [←HE.out,show s=5 by omega];exact pi_end ltInt a b i dk);go_wp2_with fail;go_ret
  rw [HP.out];exact ⟨rfl,n,HW.out⟩
end Go.Proofs.YtodmdkhdbfbfgabGreatDoor.S1
namespace Go.Proofs
open Go.RowKit Go.Sort Go.Shelf
shelf_lay_g SlLaysF0.n47 Slsf 47 at Tryz 197 as Tryz.npowA
shelf_lay_g SlLaysF0.n48 Slsf 48 at Tryz 198 as Tryz.xorA
namespace YtodmdkhdbfbfgabGreatDoor.S1
theorem npowU (n:Nat) (hn:n<4611686018427387904) (w:World):Calls Tryz.prog 197 #[.int .i64 n] w fun e w'=>e=.returned (.int .u64 ((1 <<< bitsLen n:Nat):Int))∧w'=w:=AnyF.nextPowerOfTwo Tryz.npowA n hn w
theorem xorU (rb ro X:Nat) (hX:X<18446744073709551616) (w:World) (hc:w.cell? ⟨rb,ro,none⟩=some (.int .u64 X)) (hf:w.frozen? ⟨rb,ro,none⟩=false) :
 Calls Tryz.prog 198 #[.pointer (some ⟨rb,ro,none⟩)] w fun e w'=>e=.returned (.int .u64 (xorNextN X:Nat))∧w'=(w.setCell ⟨rb,ro,none⟩ (.int .u64 (xorNextN X:Nat))).drewN 3:=AnyF.xorshift_Next Tryz.xorA rb ro X hX w hc hf
end YtodmdkhdbfbfgabGreatDoor.S1
end Go.Proofs
