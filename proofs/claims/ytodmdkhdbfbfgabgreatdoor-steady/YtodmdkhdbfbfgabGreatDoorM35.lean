/- Lemmas. -/
import Derived.Sort.Walk13a
import Derived.Sort.AssemblyPlain
import Derived.Test.YtodmdkhdbfbfgabGreatDoorM34
set_option linter.unusedVariables false
set_option linter.unusedSimpArgs false
set_option maxRecDepth 100000
set_option maxHeartbeats 8000000
namespace Go.Proofs.YtodmdkhdbfbfgabGreatDoor.S1
open Go.RowKit Go.Sort
abbrev AtU (w:World) (blk off:Nat) (d:Array Int) (w':World):Prop:=At (Value.int .u32) w blk off d w'
def SrtP (w:World) (blk off a b:Nat) (d:Array Int) (w':World):Prop:=∃ d',PermIn a b d d'∧SortedIn ltInt a b d'∧AtU w blk off d' w'
def Goes (a b:Nat) (d:Array Int) (a' b':Nat) (dk:Array Int):Prop:=∀ R,PermIn a' b' dk R→SortedIn ltInt a' b' R→PermIn a b d R∧SortedIn ltInt a b R
theorem Goes.end {a b a' b':Nat} {d dk R:Array Int} {w w':World} {blk off:Nat} (h:Goes a b d a' b' dk) (hp:PermIn a' b' dk R) (hs:SortedIn ltInt a' b' R) (hA:AtU w blk off R w'):SrtP w blk off a b d w':=
 ⟨R,(h R hp hs).1,(h R hp hs).2,hA⟩
theorem pdqU:∀ (N blk off cap a b limit:Nat) (d:Array Int) (w:World),b - a<N→HoldsU w blk off d→blk<w.heap.size→a≤b→b≤d.size→d.size≤1000000→limit≤100→Below ltInt a b d →
 Calls Tryz.prog 192 #[.slice (some ⟨blk,off,none⟩) d.size cap,.int .i64 (a:Nat),.int .i64 (b:Nat),.int .i64 (limit:Nat)] w fun e w'=>e=.returned (.tuple #[])∧SrtP w blk off a b d w':=by
 intro N
 induction N with
 | zero=>intro _ _ _ _ _ _ _ _ h;exact absurd h (Nat.not_lt_zero _)
 | succ N ih =>
   intro blk off cap a b limit d w hN hH hblk hab hb hsz hlimit hBel0;have HH:=hidI hH;have IH:=hidI ih;have HB0:=hidI hBel0;clear hH ih hBel0;go_enter Tryz.func192,Tryz.ntmps192
   go_wp2_with fail
   go_loopg [1,2,3,8,9] (b - a) (fun k s1 s2 s3 s8 s9 wr=>∃ (a' b' lim:Nat) (wb wp:Bool) (dk:Array Int),s1=.int .i64 (a':Nat)∧s2=.int .i64 (b':Nat)∧s3=.int .i64 (lim:Nat)∧s8=.bool wb∧s9=.bool wp ∧
    a'≤b'∧b'≤d.size∧b' - a'≤k∧k≤b - a∧lim≤limit∧dk.size=d.size∧Hid (Below ltInt a' b' dk)∧Hid (AtU w blk off dk wr)∧Hid (Goes a b d a' b' dk))
   case atStart=>exact ⟨a,b,limit,true,true,d,rfl,rfl,rfl,rfl,rfl,hab,hb,Nat.le_refl _,Nat.le_refl _,Nat.le_refl _,rfl,HB0,hidI (At.refl HH.out),hidI (fun R h1 h2=>⟨h1,h2⟩)⟩
   case round =>
    obtain ⟨a',b',lim,wb,wp,dk,rfl,rfl,rfl,rfl,rfl,hab',hb',hk,hkN,hlim,hds,HBel,HAt,HGo⟩:=hrel;obtain ⟨L,hL⟩:∃ L,L=b' - a':=⟨_,rfl⟩;have eL:((b':Nat):Int) - (a':Nat)=(L:Nat):=by omega
    by_cases h12:L≤12
    ·have h12':((L:Nat):Int)≤12:=by omega
     have hc:=hidI (qi5 blk off cap a' b' dk wr (HAt.out.holds HH.out hds hblk).1 hab' (by omega) (by omega));rw [hds] at hc;clear hL;go_wp2_with (go_at_call 217;refine hc.out.mono ?_;rintro e w1 ⟨rfl,hw1⟩)
     (try simp only [Exit.inBlock,Exit.then]);refine bodyPost_ret (results_none rfl _ _ _) rfl ?_
     have hi:=insertionSort_holds swo_ltInt dk a' b' hab' (by omega);exact ⟨rfl,HGo.out.end hi.1 hi.2 (HAt.out.step hblk hi.1.1 hw1)⟩
    ·have h12':¬((L:Nat):Int)≤12:=by omega
     by_cases hl0:lim=0
     ·subst hl0;have hc:=hidI (heapU blk off cap a' b' dk wr (HAt.out.holds HH.out hds hblk).1 (by omega) (by omega) (by omega));rw [hds] at hc;clear hL;go_wp2_with (go_at_call 218;refine hc.out.mono ?_;rintro e w1 ⟨rfl,hw1⟩)
      (try simp only [Exit.inBlock,Exit.then]);refine bodyPost_ret (results_none rfl _ _ _) rfl ?_
      have hi:=heapSort_holds swo_ltInt dk a' b' hab' (by omega);exact ⟨rfl,HGo.out.end hi.1 hi.2 (HAt.out.step hblk hi.1.1 hw1)⟩
     ·have hl0':(((lim:Nat):Int)==0)=false:=by simp;omega
      have hlab:a'<b':=by omega
      clear hL;go_upto_if 35 with fail
      go_cut [3] from 19 to 133 (fun s3 wc=>∃ (lim1:Nat) (d1:Array Int),s3=.int .i64 (lim1:Nat)∧lim1≤limit∧Hid (PermIn a' b' dk d1)∧Hid (AtU w blk off d1 wc))
      case first =>
       cases wb
       ·have hc:=hidI (breakU blk off cap a' b' dk wr (HAt.out.holds HH.out hds hblk).1 (HAt.out.holds HH.out hds hblk).2 hab' (by omega) (by omega));rw [hds] at hc;go_wp2_with (go_at_call 219;refine hc.out.mono ?_;rintro e w1 ⟨rfl,hw1⟩);go_meet
        case rel =>
         have hp:=breakPatterns_holds dk a' b' hab' (by omega);exact ⟨lim - 1,breakPatterns dk a' b',by congr 1;omega,by omega,hidI hp,hidI (HAt.out.stepG hblk hp.1 hw1)⟩
       ·go_wp2_with fail;go_meet
        case rel=>exact ⟨lim,dk,rfl,hlim,hidI (permIn_refl _ _ _),HAt⟩
      case rest =>
       obtain ⟨lim1,d1,rfl,hlim1,HP1,HA1⟩:=hcut;have hd1:d1.size=d.size:=by rw [HP1.out.1];exact hds
       obtain ⟨c,hc⟩:∃ c,c=choosePivot ltInt d1 a' b':=⟨_,rfl⟩;have hcr:=choosePivot_holds ltInt d1 a' b' hlab;have hpv:=hidI (pivotU blk off cap a' b' d1 wc (HA1.out.holds HH.out hd1 hblk).1 hlab (by omega) (HA1.out.holds HH.out hd1 hblk).2 (by omega));rw [hd1,←hc] at hpv;rw [←hc] at hcr;obtain ⟨hn,hhn⟩:∃ hn,hn=hintN c.2:=⟨_,rfl⟩;obtain ⟨pv,hpv1⟩:∃ pv,pv=c.1:=⟨_,rfl⟩;rw [←hhn,←hpv1] at hpv;rw [←hpv1] at hcr;clear hc hhn hpv1;go_upto_if 50 with (go_at_call 220;refine hpv.out.mono ?_;rintro e w2 ⟨rfl,hw2⟩)
       have HA2:Hid (AtU w blk off d1 w2):=hidI (HA1.out.same HH.out hd1 hblk hw2);clear hw2
       go_cut [11,12] from 19 to 133 (fun s11 s12 wc=>∃ (pv hn:Nat) (d2:Array Int),s11=.int .i64 (pv:Nat)∧s12=.int .i64 (hn:Nat)∧a'≤pv∧pv<b'∧Hid (PermIn a' b' dk d2)∧Hid (AtU w blk off d2 wc))
       case first =>
        by_cases hh:hn=2
        ·subst hh;have hc:=hidI (ql5 blk off cap a' b' d1 w2 (HA2.out.holds HH.out hd1 hblk).1 hlab (by omega) (by omega));rw [hd1] at hc;go_wp2_with (go_at_call 221;refine hc.out.mono ?_;rintro e w3 ⟨rfl,hw3⟩);go_meet
         case rel =>
          have hp:=reverseRange_holds d1 a' b' hab' (by omega);exact ⟨b' - 1 - (pv - a'),1,_,by congr 1;omega,rfl,by omega,by omega,hidI (permIn_trans _ _ _ _ _ HP1.out hp),hidI (HA2.out.step hblk hp.1 hw3)⟩
        ·have hh':(((hn:Nat):Int)==2)=false:=by simp;omega
         go_wp2_with fail;go_meet
         case rel=>exact ⟨pv,hn,d1,rfl,rfl,hcr.1,hcr.2,HP1,HA2⟩
       case rest =>
        clear hpv hcr hn pv;obtain ⟨pv,hn,d2,rfl,rfl,hpv1,hpv2,HP2,HA3⟩:=hcut;have hd2:d2.size=d.size:=by rw [HP2.out.1];exact hds
        go_upto_region 15 with fail
        go_cut [12,68] from 19 to 133 (fun s12 s68 wx=>s12=.int .i64 (hn:Nat)∧(∃ c:Bool,s68=.bool c)∧wx=wc)
        case first =>
         by_cases h1:hn=1
         ·subst h1;cases wb<;>cases wp <;>
           (go_wp2_with fail
            go_meet
            exact ⟨rfl,⟨_,rfl⟩,rfl⟩)
         ·have h1':(((hn:Nat):Int)==1)=false:=by simp;omega
          cases wb<;>cases wp <;>
           (go_wp2_with fail
            go_meet
            exact ⟨rfl,⟨_,rfl⟩,rfl⟩)
        case rest =>
         obtain ⟨rfl,⟨c,rfl⟩,hwx⟩:=hcut;rw [←hwx] at HA3;clear hwx;go_upto_if 68 with fail
         go_cut [] from 19 to 133 (fun wx=>∃ d3,Hid (PermIn a' b' dk d3)∧Hid (AtU w blk off d3 wx))
         case first =>
          cases c
          ·go_wp2_with fail;go_meet
           case rel=>exact ⟨d2,HP2,HA3⟩
          ·have HB2:Hid (Below ltInt a' b' d2):=hidI (HBel.out.perm (by omega) HP2.out);have hc:=hidI (qlX blk off cap a' b' d2 wc (HA3.out.holds HH.out hd2 hblk).1 hlab (by omega) (by omega));rw [hd2] at hc;have hp:=partialInsertionSort_holds swo_ltInt d2 a' b' hlab (by omega) HB2.out;obtain ⟨r,hr⟩:∃ r,r=partialInsertionSort ltInt d2 a' b':=⟨_,rfl⟩;rw [←hr] at hc hp;obtain ⟨rd,rb⟩:=r;have Hp:=hidI hp;clear hp hr;dsimp only at hc Hp;cases rb
           ·go_wp2_with (go_at_call 222;refine hc.out.mono ?_;rintro e w4 ⟨rfl,hw4⟩);go_meet
            case rel=>exact ⟨rd,hidI (permIn_trans _ _ _ _ _ HP2.out Hp.out.1),hidI (HA3.out.step hblk Hp.out.1.1 hw4)⟩
           ·go_wp2_with (go_at_call 222;refine hc.out.mono ?_;rintro e w4 ⟨rfl,hw4⟩)
            (try simp only [Exit.inBlock,Exit.then]);refine bodyPost_ret (results_none rfl _ _ _) rfl ?_
            exact ⟨rfl,HGo.out.end (permIn_trans _ _ _ _ _ HP2.out Hp.out.1) (Hp.out.2 (by first | rfl | trivial)) (HA3.out.step hblk Hp.out.1.1 hw4)⟩
         case rest =>
          obtain ⟨d3,HP3,HA4⟩:=hcut;have hd3:d3.size=d.size:=by rw [HP3.out.1];exact hds
          have HB3:Hid (Below ltInt a' b' d3):=hidI (HBel.out.perm (by omega) HP3.out);obtain ⟨G,hG⟩:∃ G:Nat→Int,∀ t,G t=d3[t]! := ⟨fun t=>d3[t]!,fun _=>rfl⟩;have hcw:∀ t,t<d.size→wc.cell? ⟨blk,off+t,none⟩=some (.int .u32 (G t)):=fun t ht=>by rw [hG];exact ((HA4.out.holds HH.out hd3 hblk).1 t (by omega)).1
          have HG:=hidI hG;clear hG;go_upto_region 17 with fail
          go_cut [87] from 19 to 133 (fun s87 wx=>∃ c:Bool,s87=.bool c∧Hid (c=true→0<a'∧ltInt d3[a' - 1]! d3[pv]! = false)∧Hid (AtU w blk off d3 wx))
          case first =>
           by_cases ha0:0<a'
           ·have ha0':(0:Int)<(a':Nat):=by omega
            go_quiet (first | (go_at_call 223;refine Calls.quiet_of_same (lessU _ _ _)))
            go_wp2_with fail;go_meet
            case rel=>exact ⟨_,rfl,hidI (fun h=>⟨ha0,by rw [←HG.out,←HG.out];simpa using h⟩),hidI (HA4.out.ahead nq)⟩
           ·have ha0':decide ((0:Int)<(a':Nat))=false:=decide_eq_false (by omega)
            go_quiet (first | (go_at_call 223;refine Calls.quiet_of_same (lessU _ _ _)))
            go_wp2_with fail;go_meet
            case rel=>exact ⟨_,rfl,hidI (fun h=>absurd h (by simp)),hidI (HA4.out.ahead nq)⟩
          case rest =>
           obtain ⟨c,rfl,HC,HA5⟩:=hcut;clear hcw;cases c
           ·have hc:=hidI (partU blk off cap a' b' pv d3 wc (HA5.out.holds HH.out hd3 hblk).1 hpv1 hpv2 (by omega) (by omega));rw [hd3] at hc;obtain ⟨r,hr⟩:∃ r,r=partition ltInt d3 a' b' pv:=⟨_,rfl⟩;obtain ⟨mid,ap,d4⟩:=r;have Hr:=hidI (round_part swo_ltInt (partition_holds ltInt) hpv1 hpv2 (by omega) HB3.out hr.symm);rw [←hr] at hc;dsimp only at hc;clear hr;have q1:=Hr.out.1;have q2:=Hr.out.2.1;go_upto_if 113 with (go_at_call 225;refine hc.out.mono ?_;rintro e w7 ⟨rfl,hw7⟩)
            obtain ⟨r1,r2,r3,r4,r5,r6,r7⟩:=Hr.out;have HA7:Hid (AtU w blk off d4 w7):=hidI (HA5.out.step hblk r3 hw7);have hd4:d4.size=d.size:=r3.trans hd3;have R4:=hidI r4;have R5:=hidI r5;have R6:=hidI r6;have R7:=hidI r7;clear hw7 Hr r3 r4 r5 r6 r7;by_cases h4:mid - a'<b' - mid
            ·have h4':((mid:Nat):Int) - (a':Nat)<(b':Nat) - (mid:Nat):=by omega
             have hih:=hidI (IH.out blk off cap a' mid lim1 d4 w7 (by omega) (HA7.out.holds HH.out hd4 hblk).1 (HA7.out.holds HH.out hd4 hblk).2 r1 (by omega) (by omega) (by omega) R4.out);rw [hd4] at hih;go_wp2_with (go_at_call 192;refine hih.out.mono ?_;rintro e w8 ⟨rfl,hw8⟩);obtain ⟨d5,p5,s5,n5,os5,a5⟩:=hw8;go_roundg (b' - (mid+1))
             case measure=>omega
             case rel =>
              exact ⟨mid+1,b',lim1,_,ap,d5,by go_num,rfl,rfl,rfl,rfl,by omega,by omega,Nat.le_refl _,by omega,hlim1,by rw [p5.1];exact hd4,hidI (R6.out d5 p5 s5).1,hidI (HA7.out.stepG hblk p5.1 ⟨n5,os5,a5⟩),hidI (fun R hp hs=>by
               obtain ⟨x1,x2⟩:=(R6.out d5 p5 s5).2 R hp hs;exact HGo.out R (permIn_trans _ _ _ _ _ HP3.out x1) x2)⟩
            ·have h4':¬((mid:Nat):Int) - (a':Nat)<(b':Nat) - (mid:Nat):=by omega
             have em:((mid:Nat):Int)+1=((mid+1:Nat):Int):=by omega
             have hih:=hidI (IH.out blk off cap (mid+1) b' lim1 d4 w7 (by omega) (HA7.out.holds HH.out hd4 hblk).1 (HA7.out.holds HH.out hd4 hblk).2 (by omega) (by omega) (by omega) (by omega) R5.out);rw [hd4,←em] at hih;clear em;go_wp2_with (go_at_call 192;refine hih.out.mono ?_;rintro e w8 ⟨rfl,hw8⟩);obtain ⟨d5,p5,s5,n5,os5,a5⟩:=hw8;go_roundg (mid - a')
             case measure=>omega
             case rel =>
              exact ⟨a',mid,lim1,_,ap,d5,rfl,rfl,rfl,rfl,rfl,r1,by omega,Nat.le_refl _,by omega,hlim1,by rw [p5.1];exact hd4,hidI (R7.out d5 p5 s5).1,hidI (HA7.out.stepG hblk p5.1 ⟨n5,os5,a5⟩),hidI (fun R hp hs=>by
               obtain ⟨x1,x2⟩:=(R7.out d5 p5 s5).2 R hp hs;exact HGo.out R (permIn_trans _ _ _ _ _ HP3.out x1) x2)⟩
           ·have hc:=hidI (qnw blk off cap a' b' pv d3 wc (HA5.out.holds HH.out hd3 hblk).1 hpv1 hpv2 (by omega) (by omega));rw [hd3] at hc;obtain ⟨r,hr⟩:∃ r,r=partitionEqual ltInt d3 a' b' pv:=⟨_,rfl⟩;obtain ⟨mid,d4⟩:=r;have hC:=HC.out rfl;have Hr:=hidI (round_eq swo_ltInt (partitionEqual_holds ltInt) hC.1 hpv1 hpv2 (by omega) HB3.out hC.2 hr.symm);rw [←hr] at hc;dsimp only at hc;clear hr hC;go_wp2_with (go_at_call 224;refine hc.out.mono ?_;rintro e w7 ⟨rfl,hw7⟩);obtain ⟨r1,r2,r3,r4,r5⟩:=Hr.out;go_roundg (b' - mid)
            case measure=>omega
            case rel =>
             exact ⟨mid,b',lim1,wb,wp,d4,rfl,rfl,rfl,rfl,rfl,r2,by omega,Nat.le_refl _,by omega,hlim1,r3.trans hd3,hidI r4,hidI (HA5.out.step hblk r3 hw7),hidI (fun R hp hs=>by
              obtain ⟨x1,x2⟩:=r5 R hp hs;exact HGo.out R (permIn_trans _ _ _ _ _ HP3.out x1) x2)⟩
end Go.Proofs.YtodmdkhdbfbfgabGreatDoor.S1
namespace Go.Proofs
open Go.RowKit Go.Sort Go.Shelf
shelf_lay_g Lays.n125 Nm 125 at Tryz 133 as Tryz.bitLenA
namespace YtodmdkhdbfbfgabGreatDoor.S1
theorem lenU (n:Nat) (hn:n≤1000000) (w:World):Calls Tryz.prog 133 #[.int .u64 (n:Nat)] w fun e w'=>e=.returned (.int .i64 (bitsLen n:Nat))∧w'=w:=by
 have h:=Any.bits_Len Tryz.bitLenA (n:Int) w (by omega) (by omega)
 rwa [Int.toNat_natCast,bitLen_eq _ (by omega)] at h
theorem qeC {n:Nat} (h:n≤1000000):bitsLen n≤100:=by
 have:=(bitsLen_le_iff n 20).2 (by omega)
 omega
theorem sortU (blk off cap:Nat) (d:Array Int) (w:World) (hH:HoldsU w blk off d) (hblk:blk<w.heap.size) (hsz:d.size≤1000000) :
 Calls Tryz.prog 150 #[.slice (some ⟨blk,off,none⟩) d.size cap] w fun e w'=>e=.returned (.tuple #[])∧SrtP w blk off 0 d.size d w':=by
 obtain ⟨n,hn⟩:∃ n,n=d.size:=⟨_,rfl⟩;obtain ⟨L,hL⟩:∃ L,L=bitsLen n:=⟨_,rfl⟩;have C1:=hidI (lenU n (by omega) w);rw [←hL] at C1;have C2:=hidI (pdqU (d.size - 0+1) blk off cap 0 d.size L d w (by omega) hH hblk (by omega) (Nat.le_refl _) hsz (by rw [hL];exact qeC (by omega)) (Or.inl rfl));rw [←hn] at C2 ⊢;rw [←hn] at hsz;clear hn hL hH;go_enter Tryz.func150,Tryz.ntmps150
 go_wp2_with (first
  | (go_at_call 133;refine C1.out.mono ?_;rintro e w' ⟨rfl,rfl⟩)
  | (go_at_call 192;refine C2.out.mono ?_;rintro e w' ⟨rfl,hw⟩))
 go_end0
 exact ⟨rfl,hw⟩
end YtodmdkhdbfbfgabGreatDoor.S1
end Go.Proofs
namespace Go.Proofs.YtodmdkhdbfbfgabGreatDoor.S1
open Go.RowKit Go.Sort
def ints (xs:List Nat):Array Int:=(xs.map (fun x:Nat=>(x:Int))).toArray
theorem qba (xs:List Nat):(ints xs).size=xs.length:=by simp [ints]
theorem qlY (xs:List Nat) {j:Nat} (h:j<xs.length):(ints xs)[j]! = (xs[j]:Int):=by simp [ints,h]
theorem qfY {w:World} {g:Nat} {cur:Array Value} {e:TypeId} {xs:List Nat} (hb:w.heap[g]? = some (.cells cur e (0,0))) (ht:cur.toList.take xs.length=xs.map encU):HoldsU w g 0 (ints xs):=by
 intro j hj;rw [qba] at hj;refine ⟨?_,by simp [World.frozen?,hb]⟩;have h1:(cur.toList.take xs.length)[j]? = (xs.map encU)[j]? := by rw [ht]
 rw [List.getElem?_take_of_lt hj,Array.getElem?_toList] at h1;rw [qlY xs hj];simp only [World.cell?,hb,Nat.zero_add];rw [h1];simp [hj,encU]
theorem qkQ {w w':World} {g:Nat} {d:Array Int} {cur:Array Value} {e:TypeId} {fr:Nat × Nat} (hb:w.heap[g]? = some (.cells cur e fr)) (h:AtU w g 0 d w'):w'.heap[g]? = some (.cells (putCells (Value.int .u32) 0 d cur) e fr)∧Below g w w'∧w.grownBy w' (some g):=by
 obtain ⟨n,os,rfl⟩:=h;have hg:g<w.heap.size:=(Array.getElem?_eq_some_iff.1 hb).1;have hother:∀ k,k<w.heap.size→some k≠some g→(grow (putRow (Value.int .u32) (Sort.ahead w n) g 0 d) os).heap[k]? = w.heap[k]? := fun k hk hne=>by
  rw [heap_grow_old _ _ (by simpa using hk)]
  have:g≠k:=fun e=>hne (by rw [e])
  simp [putRow,mapBlock,Sort.ahead,Array.getElem?_modify,this]
 refine ⟨?_,⟨rfl,rfl,rfl,by simp,fun k hk=>hother k (by omega) (by simp;omega)⟩,⟨rfl,rfl,rfl,by simp,hother⟩⟩;rw [heap_grow_old _ _ (by simpa using hg)];simp [putRow,mapBlock,Sort.ahead,Array.getElem?_modify,hb,onCells]
theorem qjj (cur:Array Value) (ys:List Nat) (h:ys.length≤cur.size):(putCells (Value.int .u32) 0 (ints ys) cur).toList.take ys.length=ys.map encU:=by
 apply List.ext_getElem?
 intro j;by_cases hj:j<ys.length
 ·rw [List.getElem?_take_of_lt hj,Array.getElem?_toList];simp [putCells,hj,ints,encU,show j<cur.size by omega]
 ·rw [List.getElem?_take_eq_none (by omega),List.getElem?_eq_none (by simp;omega)]
abbrev Asc (ys:List Nat):Prop:=ys.Pairwise (·≤·)
theorem qle {xs:List Nat} {d':Array Int} (hp:PermIn 0 (ints xs).size (ints xs) d') (hs:SortedIn ltInt 0 (ints xs).size d'):∃ ys:List Nat,d'=ints ys∧ys.Perm xs∧Asc ys:=by
 have hsz:d'.size=xs.length:=by rw [hp.1,qba]
 have hpl:d'.toList.Perm (xs.map (fun x:Nat=>(x:Int))):=by
  have:=hp.2.2
  have e1:(d'.extract 0 (ints xs).size).toList=d'.toList:=by rw [←hp.1];simp
  have e2:((ints xs).extract 0 (ints xs).size).toList=xs.map (fun x:Nat=>(x:Int)):=by
   have:((ints xs).extract 0 (ints xs).size)=ints xs:=by simp
   rw [this,ints]
  rwa [e1,e2] at this
 have hall:∀ z∈d'.toList,((z.toNat:Nat):Int)=z:=fun z hz=>by
  obtain ⟨x,_,rfl⟩:=List.mem_map.1 (hpl.mem_iff.1 hz);simp
 refine ⟨d'.toList.map Int.toNat,?_,?_,?_⟩
 ·apply Array.ext'
  simp only [ints,List.map_map]
  conv=>lhs;rw [←List.map_id d'.toList]
  exact List.map_congr_left (fun z hz=>(hall z hz).symm)
 ·have:=hpl.map Int.toNat
  simpa [List.map_map,Function.comp_def] using this
 ·rw [Asc,List.pairwise_iff_getElem];intro i j hi hj hij;simp only [List.length_map,Array.length_toList] at hi hj;have h:=hs i j (Nat.zero_le _) hij (by rw [qba];omega);rw [getElem!_pos d' j hj,getElem!_pos d' i hi] at h;simp only [ltInt,decide_eq_false_iff_not,Int.not_lt] at h;simp only [List.getElem_map,Array.getElem_toList];omega
def SdP (w:World) (xs:List Nat) (e:Ending) (w':World):Prop:=∃ (v:Value) (ys:List Nat),e=.returned v∧ys.Perm xs∧Asc ys∧w'.ownsRow w.heap.size 72 1 v ys.length (ys.map encU)∧Below w.heap.size w w'
theorem qis (n:Nat) (hn:4≤n) (g:Nat) (lb:Array Value) (eg:∀ args w,(callFunc g args).run Tryz.prog w=.ok (.enter g args) w) (xs:List Nat) (hx:xs≠[]) (hN:xs.length≤100000) (w:World) (n₀:Nat) (S:Nat→Prop) (hn₀:n₀≤w.heap.size) (hS:∀ k,S k→k<w.heap.size) (hseq:SeqRow Fence.wide (n - 1 - 1 - 1) Tryz.prog g lb (fun x=>#[encU x]) xs n₀ S w) :
 CallsIn Fence.wide n Tryz.prog 127 #[.func (.func g) #[] lb] w fun e w'=>SdP w xs e w':=by
 refine callsIn_of_wp Tryz.func127 rfl trivial ?_ rfl;simp only [Tryz.ntmps127,List.size_toArray,List.length_cons,List.length_nil,Nat.reduceAdd,Nat.reduceSub,Array.replicate_succ,Array.replicate_zero,List.push_toArray,List.append_toArray,List.nil_append,List.cons_append];gi_wp2_with fail;refine ⟨trivial,fun _=>by omega,(qgC (n - 1) (by omega) g lb eg xs hN _ n₀ S hn₀ hS hseq).mono ?_⟩;rintro e w1 ⟨v,rfl,hrow,hnil,hb⟩;rcases hrow.2 with ⟨h0,_⟩ | ⟨g',cap',cur',rfl,hbase',hgb',hr1,hr2,hr3,hr4⟩
 ·exact absurd (hnil.1 h0) hx
 rw [Nat.mul_one] at hr4 hr3;have hc:=sortU g' 0 cap' (ints xs) w1 (qfY hgb' hr4) (Array.getElem?_eq_some_iff.1 hgb').1 (by rw [qba];omega);rw [qba] at hc;gi_wp2_with fail;refine ⟨trivial,fun _=>by omega,(callsIn_wide.2 hc).mono ?_⟩;rintro e w2 ⟨rfl,d',hp,hs,hA⟩;rw [←qba] at hp hs;obtain ⟨ys,rfl,hperm,hasc⟩:=qle hp hs;obtain ⟨hblk,hbel,-⟩:=qkQ hgb' hA;have hlen:=hperm.length_eq;gi_wp2;go_ret
 show SdP w xs _ _;refine ⟨.slice (some ⟨g',0,none⟩) xs.length cap',ys,rfl,hperm,hasc,⟨by simp,.inr ⟨g',cap',_,by rw [hlen],hbase',hblk,by omega,hr2,by simp [putCells,hr3],by rw [Nat.mul_one];exact qjj cur' ys (by omega)⟩⟩,hb.trans (hbel.mono hbase')⟩
end Go.Proofs.YtodmdkhdbfbfgabGreatDoor.S1
namespace Go.Proofs.YtodmdkhdbfbfgabGreatDoor.S1
open Go.RowKit Pk Go.Shelf
theorem qkG (w:World) (n:Nat) (h0:0<n) (hn:n≤100000) :
 Calls Tryz.prog 152 #[.slice none 0 0,.int .i64 (n:Nat)] w fun e w'=>∃ G,e=.returned (.slice (some ⟨w.heap.size,0,none⟩) 0 G)∧w'.ownsRow w.heap.size 72 1 (.slice (some ⟨w.heap.size,0,none⟩) 0 G) 0 []∧Below w.heap.size w w':=by
 obtain ⟨i0,hi,hz0,hz1,hz2⟩:=info_parts Tryz.info88;have hold:(Builtin.firstCells i0.size 0 (.slice none 0 0)).run Tryz.prog w.drew=.ok ([]:List Value).toArray w.drew:=run_firstCells_none w.drew i0.size 0 0 0;have hr:=fun ty=>Lib.run_append_grow_zeros w 161 3 ty 72 i0 (.int .u32 0) .i64 .i64 Tryz.underlying161 Tryz.underlying3 hi hz0 none 0 0 [] hold n (by omega) (by omega) (by omega) (by omega)
  (by rw [hz2];omega) (by rw [hz2,Nat.zero_add];exact growslice_fits h0 (by omega))
 rw [Nat.zero_add] at hr;obtain ⟨G,hG⟩:∃ G,G=grownCap w n 0 72:=⟨_,rfl⟩;have hGn:n≤G:=by rw [hG];exact grownCap_ge w _ _ _
 have hGm:G≤maxLen:=by rw [hG];exact grownCap_le_maxLen w n 0 72 (by unfold maxLen;omega)
 have hG63:G≤9223372036854775807:=by unfold maxLen at hGm;omega
 rw [←hG] at hr;obtain ⟨C,hC⟩:∃ C:Array Value,C=([]:List Value).toArray++Builtin.zeroCells (Value.int IntKind.u32 0).cells n++Builtin.zeroCells (Value.int IntKind.u32 0).cells (G - n):=⟨_,rfl⟩;rw [←hC] at hr;have hCs:C.size=G:=by
  rw [hC,Array.size_append,Array.size_append,size_zeroCells,size_zeroCells]
  have:(Value.int IntKind.u32 0).cells.size=1:=rfl
  rw [this];simp;omega
 have Hown:Hid ((w.drew.alloc (.cells C 72)).ownsRow w.heap.size 72 1 (.slice (some ⟨w.heap.size,0,none⟩) 0 G) 0 []):=⟨rfl,.inr ⟨_,G,C,rfl,Nat.le_refl _,heap_alloc_new _ _,by omega,hGm,by omega,by simp⟩⟩;have Hb:Hid (Below w.heap.size w (w.drew.alloc (.cells C 72))):=(Below.refl _ w).drew.alloc (Nat.le_refl _) _;clear hC hCs hG hold;go_enter Tryz.func152,Tryz.ntmps152
 go_wp2_with (at_builtin;refine Lib.wpList_append_run _ rfl _ _ _ _ rfl _ _ rfl rfl _ _ (hr _) ?_);go_ret
 exact ⟨G,rfl,Hown.out,Hb.out⟩
theorem qni (w:World) (rb g k a cap1 cap2:Nat) (ys:List Nat) (hlen:ys.length=k+a) (h0:0<ys.length) (hbig:ys.length≤100000) (hr:w.heap[rb]? = some (.cells #[.slice (some ⟨g,k,none⟩) a cap1,.slice (some ⟨g,0,none⟩) k cap2] 161 (0,0)))
 (hx:∀ j,(h:j<ys.length)→w.cell? ⟨g,j,none⟩=some (encU ys[j])) (hg:g<w.heap.size) :
 Calls Tryz.prog 129 #[.slice (some ⟨rb,0,none⟩) 2 2] w fun e w'=>∃ v,e=.returned v∧w'.ownsRow w.heap.size 72 1 v ys.length ((ys.drop k++ys.take k).map encU)∧Below w.heap.size w w':=by
 obtain ⟨i0,hi,hz0,hz1,hz2⟩:=info_parts Tryz.info88;have c0:w.cell? ⟨rb,0,none⟩=some (.slice (some ⟨g,k,none⟩) a cap1):=by rw [cell_of_row w rb 0 _ 161 (0,0) hr];rfl
 have c1:w.cell? ⟨rb,1,none⟩=some (.slice (some ⟨g,0,none⟩) k cap2):=by rw [cell_of_row w rb 1 _ 161 (0,0) hr];rfl
 have hrl:=qaa hr;obtain ⟨m,hm⟩:∃ m,m=ys.length:=⟨_,rfl⟩;have em:((a:Nat):Int)+(k:Nat)=(m:Nat):=by omega
 have hm0:0<m:=by omega
 have hmb:m≤100000:=by omega
 have hma:a≤m:=by omega
 have hmk:k≤m:=by omega
 have Hx:=hidI hx;have Hm:=hidI hm;have Hlen:=hidI hlen;clear hr hx hm hlen;go_enter Tryz.func129,Tryz.ntmps129
 go_wp2;refine wp_loop_rounds 3 ?_;rw [rounds_succ];go_wp2;rw [rounds_succ];go_wp2;rw [rounds_succ];go_wp2_with fail;refine (qkG w m hm0 hmb).mono ?_;rintro e w1 ⟨G,rfl,hown,hb⟩;have d0:w1.cell? ⟨rb,0,none⟩=some (.slice (some ⟨g,k,none⟩) a cap1):=by rw [hb.cell (p:=⟨rb,0,none⟩) hrl];exact c0
 have d1:w1.cell? ⟨rb,1,none⟩=some (.slice (some ⟨g,0,none⟩) k cap2):=by rw [hb.cell (p:=⟨rb,1,none⟩) hrl];exact c1
 have Dx:Hid (∀ j,(h:j<ys.length)→w1.cell? ⟨g,j,none⟩=some (encU ys[j])):=hidI (fun j h=>by rw [hb.cell (p:=⟨g,j,none⟩) hg];exact Hx.out j h);have Hown:=hidI hown;have Hb:=hidI hb;clear hown hb c0 c1;go_wp2;refine wp_loop_rounds 3 ?_;rw [rounds_succ];go_wp2_with (at_builtin;refine wpList_append_own _ rfl _ _ 161 rfl w.heap.size 72 i0 (.int .u32 0) 1 4 Tryz.underlying161 hi hz0 hz1 hz2 rfl (by decide) _ _ _ rfl Hown.out ⟨g,k,none⟩ a cap1 ((ys.drop k).map encU) rfl ?q0 ?q1 ?q2 ?q3 ?q4 ?q5 ?_)
 case q0=>have:=Hlen.out;simp;omega
 case q1 =>
  intro j u hj;have hl:=Hlen.out;have hjl:k+j<ys.length:=by
   have:=(List.getElem?_eq_some_iff.1 hj).1
   simp at this;omega
  have:=Dx.out (k+j) hjl
  rw [List.getElem?_map,List.getElem?_drop,List.getElem?_eq_getElem hjl] at hj;simp at hj;rw [←hj,show (⟨g,k,none⟩:Addr).add j=⟨g,k+j,none⟩ by simp [Addr.add]];exact this
 case q2 =>
  intro u hu;obtain ⟨x,_,rfl⟩:=List.mem_map.1 hu;rfl
 case q3=>simp [maxLen];omega
 case q4=>(try simp);omega
 case q5=>exact Hb.out.size
 intro v2 w2 hown2 hg2 hnil2;have hb2:Below w.heap.size w w2:=Hb.out.grown hg2 Hb.out.size (fun k e=>by have:=(Hown.out.lt k e).1;omega);have f1:w2.cell? ⟨rb,1,none⟩=some (.slice (some ⟨g,0,none⟩) k cap2):=by
  rw [←d1];exact World.cell?_of_block (hg2.block rb (by have:=Hb.out.size;omega) (fun e=>by have:=(Hown.out.lt rb e.symm).1;omega))
 have Fx:Hid (∀ j,(h:j<ys.length)→w2.cell? ⟨g,j,none⟩=some (encU ys[j])):=hidI (fun j h=>by rw [hb2.cell (p:=⟨g,j,none⟩) hg];exact Hx.out j h)
 try simp only [Nat.zero_add,List.nil_append] at hown2
 have Hown2:=hidI hown2;have Hb2:=hidI hb2;clear Hown Hb hown2 hb2 hg2 d0 d1 Dx;go_wp2;rw [rounds_succ];go_wp2_with (at_builtin;refine wpList_append_own _ rfl _ _ 161 rfl w.heap.size 72 i0 (.int .u32 0) 1 4 Tryz.underlying161 hi hz0 hz1 hz2 rfl (by decide) _ _ _ rfl Hown2.out ⟨g,0,none⟩ k cap2 ((ys.take k).map encU) rfl ?q0 ?q1 ?q2 ?q3 ?q4 ?q5 ?_)
 case q0=>have:=Hlen.out;simp;omega
 case q1 =>
  intro j u hj;have hl:=Hlen.out;have hjl:j<k∧j<ys.length:=by
   have:=(List.getElem?_eq_some_iff.1 hj).1
   simp at this;omega
  have:=Fx.out j hjl.2
  rw [List.getElem?_map,List.getElem?_take_of_lt hjl.1,List.getElem?_eq_getElem hjl.2] at hj;simp at hj;rw [←hj,show (⟨g,0,none⟩:Addr).add j=⟨g,j,none⟩ by simp [Addr.add];exact fun h=>h.symm];exact this
 case q2 =>
  intro u hu;obtain ⟨x,_,rfl⟩:=List.mem_map.1 hu;rfl
 case q3=>simp [maxLen];omega
 case q4=>(try simp);omega
 case q5=>exact Hb2.out.size
 intro v3 w3 hown3 hg3 hnil3;have Hb3:Hid (Below w.heap.size w w3):=hidI (Hb2.out.grown hg3 Hb2.out.size (fun k e=>by have:=(Hown2.out.lt k e).1;omega));have Hown3:=hidI hown3;clear hown3 hg3;go_wp2;rw [rounds_succ];go_wp2;go_ret
 refine ⟨v3,rfl,?_,Hb3.out⟩
 have:=Hown3.out
 rw [List.map_append,List.map_drop,List.map_take,Hlen.out,Nat.add_comm];exact this
def gapN (n a:Nat):Nat:=(n+4294967296 - a)%4294967296
theorem qkF {n a:Nat} (hn:n≤4294967295) (ha:a≤4294967295):IntKind.u32.wrap ((n:Int) - (a:Int))=((gapN n a:Nat):Int):=by
 unfold gapN;rw [IntKind.wrap_u32];omega
theorem qns (n a:Nat):gapN n a≤4294967295:=by unfold gapN;omega
def scanG:List Nat→Nat→Nat→Nat→Nat→Nat
 | [],_,f,_,_=>f
 | n :: l,i,f,wd,a=>if wd<gapN n a then scanG l (i+1) i (gapN n a) n else scanG l (i+1) f wd n
def firstG (ys:List Nat):Nat:=scanG ys 0 0 0 (ys.getLastD 0)
def RndP (w:World) (xs:List Nat) (e:Ending) (w':World):Prop:=∃ (v:Value) (ys:List Nat),e=.returned v∧ys.Perm xs∧Asc ys∧w'.ownsRow w.heap.size 72 1 v ys.length ((ys.drop (firstG ys)++ys.take (firstG ys)).map encU)∧Below w.heap.size w w'
theorem roundU (w:World) (g cap:Nat) (cur:Array Value) (xs:List Nat) (hg:w.heap[g]? = some (.cells cur 72 (0,0))) (hx:cur.toList.take xs.length=xs.map encU) (hx0:xs≠[]) (hbig:xs.length≤100000) (hxr:∀ x∈xs,x≤4294967295) :
 Calls Tryz.prog 93 #[.slice (some ⟨g,0,none⟩) xs.length cap] w fun e w'=>RndP w xs e w':=by
 have hgl:=qaa hg;obtain ⟨W0,hW0⟩:∃ W0,W0=w.alloc (.cells #[.slice (some ⟨g,0,none⟩) xs.length cap] 161):=⟨_,rfl⟩;have hs0:W0.heap.size=w.heap.size+1:=by rw [hW0];simp
 have hb0:Below w.heap.size w W0:=by rw [hW0];exact (Below.refl _ w).alloc (Nat.le_refl _) _
 have hc0:W0.cell? ⟨w.heap.size,0,none⟩=some (.slice (some ⟨g,0,none⟩) xs.length cap):=by rw [hW0];simp
 have hg0:W0.heap[g]? = some (.cells cur 72 (0,0)):=(hb0.block g hgl).trans hg;have hv:SeqRow Fence.wide 1 Tryz.prog 151 #[.pointer (some ⟨w.heap.size,0,none⟩)] (fun x=>#[encU x]) xs W0.heap.size (fun k=>k<W0.heap.size) W0:=qij 1 (by omega) W0 w.heap.size g cap xs W0.heap.size _ (by omega) (by omega) (show g<W0.heap.size by omega) hbig hc0 cur hg0 hx;have B:=hidI ((callsIn_wide (n:=4)).1 (qis 4 (by omega) 151 _ (enters_of Tryz.func151 (by kernel_rfl) rfl) xs hx0 hbig W0 W0.heap.size _ (Nat.le_refl _) (fun k hk=>hk) hv));have A:=hidI ((callsIn_wide (n:=4)).1 (qiX 4 (some ⟨g,0,none⟩) xs.length cap w));have HW0:=hidI hW0;have HB0:=hidI hb0;have Hs0:=hidI hs0;obtain ⟨xn,hxn⟩:∃ xn,xn=xs.length:=⟨_,rfl⟩;rw [←hxn] at A HW0 ⊢;have Hxn:Hid (xn=xs.length∧0<xn):=hidI ⟨hxn,by rw [hxn];exact List.length_pos_iff.2 hx0⟩;clear hv hc0 hg0 hg hW0 hb0 hs0 hxn
 go_enter Tryz.func93,Tryz.ntmps93
 go_wp2_with fail;refine A.out.mono ?_;rintro e w1 ⟨rfl,hw1⟩;rw [←HW0.out] at hw1;subst hw1;go_wp2_with fail;refine B.out.mono ?_;rintro e w2 ⟨v,ys,rfl,hperm,hasc,hrow,hb2⟩;have hlen:=hperm.length_eq;rcases hrow.2 with ⟨_,h0⟩ | ⟨g',cap',cur',rfl,hbase',hgb',hr1,hr2,hr3,hr4⟩
 ·have:=Hxn.out;omega
 obtain ⟨n,hn⟩:∃ n,n=ys.length:=⟨_,rfl⟩;have hn0:0<n:=by have:=Hxn.out;omega
 have hnb:n≤100000:=by omega
 have hncap:n≤cap':=by omega
 obtain ⟨n1,hn1⟩:∃ n1,n1=n - 1:=⟨_,rfl⟩;have en1:((n:Nat):Int) - 1=(n1:Nat):=by omega
 have hn1l:n1<n:=by omega
 obtain ⟨Y,hY⟩:∃ Y:Nat→Nat,∀ j,Y j=ys[j]! := ⟨fun j=>ys[j]!,fun _=>rfl⟩;have HC2:Hid (∀ j,(h:j<ys.length)→w2.cell? ⟨g',j,none⟩=some (encU ys[j])):=hidI (fun j h=>by
  rw [cell_of_row w2 g' j _ 72 (0,0) hgb',←Array.getElem?_toList]
  have:(cur'.toList.take (ys.length*1))[j]? = (ys.map encU)[j]? := by rw [hr4]
  rw [List.getElem?_take_of_lt (by omega)] at this;rw [this];simp [h])
 have hcy:∀ j,j<n→w2.cell? ⟨g',j,none⟩=some (.int .u32 (Y j:Nat)):=fun j h=>by rw [HC2.out j (by omega),hY,getElem!_pos ys j (by omega)];rfl
 have hYr:∀ j,j<n→Y j≤4294967295:=fun j h=>by rw [hY,getElem!_pos ys j (by omega)];exact hxr _ (hperm.mem_iff.1 (List.getElem_mem _))
 have hgl2:=qaa hgb';have HB2:Hid (Below w.heap.size w w2):=hidI (HB0.out.trans (hb2.mono (by have:=Hs0.out;omega)));have hcm:cap'≤9223372036854775807:=by unfold maxLen at hr2;omega
 have HP:=hidI hperm;have HS:=hidI hasc;have Hn:=hidI hn;have HY:=hidI hY;have Hlast:Hid (Y n1=ys.getLastD 0):=hidI (by
  have e:ys.length - 1=n1:=by omega
  have h:n1<ys.length:=by omega
  rw [hY,getElem!_pos ys n1 h,List.getLastD_eq_getLast?,List.getLast?_eq_getElem?,e,List.getElem?_eq_getElem h];rfl)
 rw [←hn];clear hrow hb2 hr4 hr3 hr2 hgb' hbase' A B hperm hasc hn hn1 hY hlen hr1;go_wp2_with fail
 go_loopg [4,5,6,21] n (fun k s4 s5 s6 s21 wr=>∃ (i f wd ah:Nat),s4=.int .i64 (f:Nat)∧s5=.int .u32 (wd:Nat)∧s6=.int .u32 (ah:Nat)∧s21=.int .i64 (i:Nat)∧i≤n∧f<n∧wd≤4294967295∧ah≤4294967295∧n - i≤k∧wr=w2∧Hid (scanG (ys.drop i) i f wd ah=firstG ys))
 case atStart=>exact ⟨0,0,0,Y n1,rfl,rfl,rfl,rfl,by omega,hn0,by omega,hYr n1 hn1l,by omega,rfl,hidI (by rw [Hlast.out];rfl)⟩
 case round =>
  obtain ⟨i,f,wd,ah,rfl,rfl,rfl,rfl,hi,hf,hwd,hah,hk,hwr,HF⟩:=hrel;have hwr':=hwr.symm;subst hwr';by_cases hlt:i<n
  ·have hlt':((i:Nat):Int)<(n:Nat):=by omega
   have hyi:=hYr i hlt;have hgap:=qkF hyi hah;have HD:Hid (ys.drop i=Y i :: ys.drop (i+1)):=hidI (by
    have:=Hn.out
    rw [List.drop_eq_getElem_cons (by omega:i<ys.length),HY.out,getElem!_pos ys i (by omega)])
   by_cases hgt:wd<gapN (Y i) ah
   ·have hgt':((wd:Nat):Int)<(gapN (Y i) ah:Nat):=by omega
    go_wp2_with fail;go_roundg (n - (i+1))
    case measure=>omega
    case rel=>exact ⟨i+1,i,gapN (Y i) ah,Y i,rfl,rfl,rfl,by go_num,by omega,hlt,qns _ _,hyi,by omega,rfl,hidI (by rw [←HF.out,HD.out];simp only [scanG];rw [if_pos hgt])⟩
   ·have hgt':¬((wd:Nat):Int)<(gapN (Y i) ah:Nat):=by omega
    go_wp2_with fail;go_roundg (n - (i+1))
    case measure=>omega
    case rel=>exact ⟨i+1,f,wd,Y i,rfl,rfl,rfl,by go_num,by omega,hf,hwd,hyi,by omega,rfl,hidI (by rw [←HF.out,HD.out];simp only [scanG];rw [if_neg hgt])⟩
  ·have hlt':¬((i:Nat):Int)<(n:Nat):=by omega
   have HF':Hid (f=firstG ys):=hidI (by have:=HF.out;rw [List.drop_eq_nil_of_le (by have:=Hn.out;omega)] at this;exact this);clear HF;have HF:=HF';clear HF';have hfn:f≤n:=by omega
   have hcf:¬cap'=f:=by omega
   have hfc:f≤cap':=by omega
   clear hcy hYr;go_wp2_with fail;refine wp_region_held_drew (S:=fun V=>True) (by kernel_rfl) trivial (fun hHeld => ?_);refine tk 0 ⟨some 36,.move (.tmp 3),_,_,_,none⟩ (.slice (some ⟨g',0,none⟩) n cap') rfl (fun w h=>by go_simp) hHeld ?_;simp only [zP,List.set];refine tk 1 ⟨some 37,.move (.tmp 4),_,_,_,none⟩ (.int .i64 (f:Nat)) rfl (fun w h=>by go_simp) hHeld ?_;simp only [zP,List.set];refine tk 2 ⟨some 38,.slice 161 (.tmp 36) (some (.tmp 37)) none none,_,_,_,none⟩ (.slice (some ⟨g',f,none⟩) (n - f) (cap' - f)) rfl (fun w h=>by go_simp) hHeld ?_;simp only [zP,List.set]
   refine tk 3 ⟨some 39,.move (.tmp 3),_,_,_,none⟩ (.slice (some ⟨g',0,none⟩) n cap') rfl (fun w h=>by go_simp) hHeld ?_;simp only [zP,List.set];refine tk 4 ⟨some 40,.move (.tmp 4),_,_,_,none⟩ (.int .i64 (f:Nat)) rfl (fun w h=>by go_simp) hHeld ?_;simp only [zP,List.set];refine tk 5 ⟨some 41,.slice 161 (.tmp 39) none (some (.tmp 40)) none,_,_,_,none⟩ (.slice (some ⟨g',0,none⟩) f cap') rfl (fun w h=>by go_simp) hHeld ?_;simp only [zP,List.set];refine rd 6 rfl (fun K hK => ?_);go_simp;obtain ⟨W3,hW3⟩:∃ W3,W3=(w2.alloc (.cells #[.slice (some ⟨g',f,none⟩) (n - f) (cap' - f),.slice (some ⟨g',0,none⟩) f cap'] 161)).drew:=⟨_,rfl⟩
   obtain ⟨rb,hrb⟩:∃ rb,rb=w2.heap.size:=⟨_,rfl⟩;have hr3:W3.heap[rb]? = some (.cells #[.slice (some ⟨g',f,none⟩) (n - f) (cap' - f),.slice (some ⟨g',0,none⟩) f cap'] 161 (0,0)):=by rw [hW3,hrb];exact heap_alloc_new _ _
   have hB3:Below w2.heap.size w2 W3:=by rw [hW3];exact ((Below.refl _ w2).alloc (Nat.le_refl _) _).drew
   have hx3:∀ j,(h:j<ys.length)→W3.cell? ⟨g',j,none⟩=some (encU ys[j]):=fun j h=>by rw [hB3.cell (p:=⟨g',j,none⟩) hgl2];exact HC2.out j h
   have C:=hidI (qni W3 rb g' f (n - f) (cap' - f) cap' ys (by have:=Hn.out;omega) (by have:=Hn.out;omega) (by have:=Hn.out;omega) hr3 hx3 (Nat.lt_of_lt_of_le hgl2 hB3.size));have HB3:=hidI (HB2.out.trans (hB3.mono HB2.out.size));refine hK.out _ _ trivial (fun hHeld => ?_);rw [←hW3];simp only [←hrb];clear hK K hW3 hrb hr3 hB3 hx3;refine rd 7 rfl (fun K hK => ?_);go_simp;refine C.out.mono ?_;rintro e w4 ⟨v4,rfl,hrow4,hb4⟩;have HB4:=hidI (HB3.out.trans (hb4.mono HB3.out.size));have HR4:=hidI (ownsRow_base_a hrow4 HB3.out.size);rcases hrow4.2 with ⟨_,h0⟩ | ⟨g4,cap4,cur4,rfl,_⟩
   ·have:=Hn.out;omega
   clear hrow4 hb4;refine hK.out _ _ trivial (fun hHeld => ?_);clear hK K;refine tk 8 ⟨some 2,.assign (.tmp 43),_,_,_,none⟩ (.slice (some ⟨g4,0,none⟩) ys.length cap4) rfl (fun w h=>by go_simp) hHeld ?_;simp only [zP,List.set];refine wpAnyH_done (by kernel_rfl) ?_ _;clear hHeld;go_wp2_with fail;go_ret
   refine ⟨_,ys,rfl,HP.out,HS.out,?_,HB4.out⟩;rw [←HF.out];exact HR4.out
end Go.Proofs.YtodmdkhdbfbfgabGreatDoor.S1
