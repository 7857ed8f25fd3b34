/- Lemmas. -/
import Derived.Sort.WalkD1
import Derived.Sort.Grow
import Derived.Sort.WalkC4
import Derived.Deep.CutBlock
import Derived.Test.YtodmdkhdbfbfgabGreatDoorM32
set_option linter.unusedVariables false
set_option linter.unusedSimpArgs false
set_option maxRecDepth 100000
set_option maxHeartbeats 8000000
namespace Go.Proofs.YtodmdkhdbfbfgabGreatDoor.S1
open Go.RowKit Go.Sort
theorem qgY (blk off cap a b sb so s:Nat) (d:Array Int) (w:World) (hH:HoldsU w blk off d) (ha:a<d.size) (hb:b<d.size) (hS:Holds (Value.int .i64) w sb so (one s)) (hs:s≤1000) (hsz:d.size≤1000000) :
 Calls Tryz.prog 249 #[.slice (some ⟨blk,off,none⟩) d.size cap,.int .i64 (a:Nat),.int .i64 (b:Nat),.pointer (some ⟨sb,so,none⟩)] w fun e w' =>
  e=.returned (.tuple #[.int .i64 ((order2 ltInt d a b s).1:Nat),.int .i64 ((order2 ltInt d a b s).2.1:Nat)])∧∃ n,w'=putRow (Value.int .i64) (Sort.ahead w n) sb so (one (order2 ltInt d a b s).2.2):=by
 obtain ⟨G,hG⟩:∃ G:Nat→Int,∀ t,G t=d[t]! := ⟨fun t=>d[t]!,fun _=>rfl⟩;have hcw:∀ t,t<d.size→w.cell? ⟨blk,off+t,none⟩=some (.int .u32 (G t)):=fun t ht=>by rw [hG];exact (hH t ht).1
 have c0:w.cell? ⟨sb,so,none⟩=some (.int .i64 (s:Nat)):=(hS 0 (by simp [one])).1;have f0:w.frozen? ⟨sb,so,none⟩=false:=(hS 0 (by simp [one])).2;have HG:=hidI hG;have HS:=hidI hS;clear hG hS hH;go_enter Tryz.func249,Tryz.ntmps249
 go_wp2
 go_quiet (first | (go_at_call 223;refine Calls.quiet_of_same (lessU _ _ _)))
 obtain ⟨wq,hwq⟩:∃ wq,wq=w.drewN nq:=⟨_,rfl⟩;have c1:wq.cell? ⟨sb,so,none⟩=some (.int .i64 (s:Nat)):=by rw [hwq];exact c0
 have f1:wq.frozen? ⟨sb,so,none⟩=false:=by rw [hwq];exact f0
 have HSq:Hid (Holds (Value.int .i64) wq sb so (one s)):=hidI (by rw [hwq];exact fun j hj=>⟨(HS.out j hj).1,(HS.out j hj).2⟩);have Hwq:Hid (wq=Sort.ahead w nq):=hidI (by rw [hwq];rfl);rw [←hwq];clear hcw c0 f0 hwq;cases hl:ltInt (G b) (G a) with
 | true =>
   have e2:order2 ltInt d a b s=(b,a,s+1):=by unfold order2;rw [←HG.out,←HG.out,hl];rfl
   have He2:=hidI e2;have Hset:=hidI (one_set HSq.out (s+1));clear e2;go_wp2;go_ret2
   refine ⟨by rw [He2.out];rfl,nq,?_⟩;rw [He2.out,←Hwq.out];exact Hset.out
 | false =>
   have e2:order2 ltInt d a b s=(a,b,s):=by unfold order2;rw [←HG.out,←HG.out,hl];rfl
   have He2:=hidI e2;clear e2;go_wp2;go_ret2
   refine ⟨by rw [He2.out];rfl,nq,?_⟩;rw [He2.out,←Hwq.out];exact (putRow_self _ _ _ _ _ HSq.out).symm
theorem asideU {w:World} {blk off sb so n t:Nat} {d:Array Int} (h:HoldsU w blk off d) (hne:sb≠blk):HoldsU (putRow (Value.int .i64) (Sort.ahead w n) sb so (one t)) blk off d:=fun j hj =>
 ⟨by rw [cell?_putRow_other _ _ _ _ _ _ (Or.inl (Ne.symm hne))];exact (h j hj).1,by rw [frozen?_putRow];exact (h j hj).2⟩
theorem oneU {w:World} {sb so s n t:Nat} (h:Holds (Value.int .i64) w sb so (one s)):Holds (Value.int .i64) (putRow (Value.int .i64) (Sort.ahead w n) sb so (one t)) sb so (one t):=holds_putRow _ _ _ _ (one s) (one t) (holds_ahead _ _ _ _ _ _ h) rfl
theorem qbe (d:Array Int) (a b s:Nat):(order2 ltInt d a b s).2.2≤s+1:=by
 unfold order2
 split<;>simp
theorem qgF (blk off cap a b c sb so s:Nat) (d:Array Int) (w:World) (hH:HoldsU w blk off d) (ha:a<d.size) (hb:b<d.size) (hc:c<d.size) (hne:sb≠blk) (hS:Holds (Value.int .i64) w sb so (one s)) (hs:s≤900) (hsz:d.size≤1000000) :
 Calls Tryz.prog 242 #[.slice (some ⟨blk,off,none⟩) d.size cap,.int .i64 (a:Nat),.int .i64 (b:Nat),.int .i64 (c:Nat),.pointer (some ⟨sb,so,none⟩)] w fun e w' =>
  e=.returned (.int .i64 ((median ltInt d a b c s).1:Nat))∧∃ n,w'=putRow (Value.int .i64) (Sort.ahead w n) sb so (one (median ltInt d a b c s).2):=by
 have A:=hidI (qgY blk off cap a b sb so s d w hH ha hb hS (by omega) hsz);obtain ⟨r1,hr1⟩:∃ r1,r1=order2 ltInt d a b s:=⟨_,rfl⟩;have l1:=order2_lt d s ha hb;have q1:=qbe d a b s;rw [←hr1] at A l1 q1;obtain ⟨r2,hr2⟩:∃ r2,r2=order2 ltInt d r1.2.1 c r1.2.2:=⟨_,rfl⟩;have l2:=order2_lt d r1.2.2 l1.2 hc;have q2:=qbe d r1.2.1 c r1.2.2;rw [←hr2] at l2 q2;obtain ⟨r3,hr3⟩:∃ r3,r3=order2 ltInt d r1.1 r2.1 r2.2.2:=⟨_,rfl⟩;have HM:Hid (median ltInt d a b c s=(r3.2.1,r3.2.2)):=hidI (by rw [hr3,hr2,hr1];rfl);have H0:=hidI hH;have HS:=hidI hS;have Hr2:=hidI hr2;have Hr3:=hidI hr3;clear hr1 hr2 hr3 hH hS;go_enter Tryz.func242,Tryz.ntmps242
 go_wp2_with fail;refine A.out.mono ?_;rintro e w1 ⟨rfl,n1,hw1⟩;have H1:Hid (HoldsU w1 blk off d):=hidI (by rw [hw1];exact asideU H0.out hne);have HS1:Hid (Holds (Value.int .i64) w1 sb so (one r1.2.2)):=hidI (by rw [hw1];exact oneU HS.out);have B:=hidI (qgY blk off cap r1.2.1 c sb so r1.2.2 d w1 H1.out l1.2 hc HS1.out (by omega) hsz);rw [←Hr2.out] at B;have HW1:=hidI hw1;clear hw1 A;go_wp2_with fail;refine B.out.mono ?_;rintro e w2 ⟨rfl,n2,hw2⟩;have H2:Hid (HoldsU w2 blk off d):=hidI (by rw [hw2];exact asideU H1.out hne);have HS2:Hid (Holds (Value.int .i64) w2 sb so (one r2.2.2)):=hidI (by rw [hw2];exact oneU HS1.out);have C:=hidI (qgY blk off cap r1.1 r2.1 sb so r2.2.2 d w2 H2.out l1.1 l2.1 HS2.out (by omega) hsz);rw [←Hr3.out] at C;have HW2:Hid (w2=putRow (Value.int .i64) (Sort.ahead w (n1+n2)) sb so (one r2.2.2)):=hidI (by rw [hw2,HW1.out,one_one]);clear hw2 B
 go_wp2_with fail;refine C.out.mono ?_;rintro e w3 ⟨rfl,n3,hw3⟩;have HW3:Hid (w3=putRow (Value.int .i64) (Sort.ahead w (n1+n2+n3)) sb so (one r3.2.2)):=hidI (by rw [hw3,HW2.out,one_one]);clear hw3 C;go_wp2;go_ret
 exact ⟨by rw [HM.out];rfl,n1+n2+n3,by rw [HM.out];exact HW3.out⟩
theorem qgr (blk off cap a sb so s:Nat) (d:Array Int) (w:World) (hH:HoldsU w blk off d) (ha:1≤a) (hb:a+1<d.size) (hne:sb≠blk) (hS:Holds (Value.int .i64) w sb so (one s)) (hs:s≤900) (hsz:d.size≤1000000) :
 Calls Tryz.prog 241 #[.slice (some ⟨blk,off,none⟩) d.size cap,.int .i64 (a:Nat),.pointer (some ⟨sb,so,none⟩)] w fun e w' =>
  e=.returned (.int .i64 ((medianAdjacent ltInt d a s).1:Nat))∧∃ n,w'=putRow (Value.int .i64) (Sort.ahead w n) sb so (one (medianAdjacent ltInt d a s).2):=by
 have A:=hidI (qgF blk off cap (a - 1) a (a+1) sb so s d w hH (by omega) (by omega) hb hne hS hs hsz);have h1:((a:Nat):Int) - 1=((a - 1:Nat):Int):=by omega
 have HM:Hid (medianAdjacent ltInt d a s=median ltInt d (a - 1) a (a+1) s):=hidI rfl;obtain ⟨r,hr⟩:∃ r,r=median ltInt d (a - 1) a (a+1) s:=⟨_,rfl⟩;rw [←hr] at A HM;obtain ⟨p,hp⟩:∃ p,p=a - 1:=⟨_,rfl⟩;rw [←hp] at A h1;clear hH hS hr hp;go_enter Tryz.func241,Tryz.ntmps241
 go_wp2_with fail;refine A.out.mono ?_;rintro e w1 ⟨rfl,n1,hw1⟩;have HW1:=hidI hw1;clear hw1 A;go_wp2;go_ret
 exact ⟨by rw [HM.out];rfl,n1,by rw [HM.out];exact HW1.out⟩
def hintN:Hint→Nat
 | .unknown=>0
 | .increasing=>1
 | .decreasing=>2
theorem qcZ (d:Array Int) {a b c n:Nat} (s:Nat) (ha:a<n) (hb:b<n) (hc:c<n):(median ltInt d a b c s).1<n:=by
 have h1:=order2_lt d s ha hb;have h2:=order2_lt d (order2 ltInt d a b s).2.2 h1.2 hc;exact (order2_lt d (order2 ltInt d (order2 ltInt d a b s).2.1 c (order2 ltInt d a b s).2.2).2.2 h1.1 h2.1).2
theorem qbd (d:Array Int) (a b c s:Nat):(median ltInt d a b c s).2≤s+3:=by
 have h1:=qbe d a b s;have h2:=qbe d (order2 ltInt d a b s).2.1 c (order2 ltInt d a b s).2.2;have h3:=qbe d (order2 ltInt d a b s).1 (order2 ltInt d (order2 ltInt d a b s).2.1 c (order2 ltInt d a b s).2.2).1 (order2 ltInt d (order2 ltInt d a b s).2.1 c (order2 ltInt d a b s).2.2).2.2;show (order2 ltInt d _ _ _).2.2≤_;omega
theorem ql1 (w:World) (n s:Nat):∃ os,putRow (Value.int .i64) (Sort.ahead (w.alloc (.cells #[.int .i64 0] 3)) n) w.heap.size 0 (one s)=grow (Sort.ahead w n) os:=by
 rw [alloc_eq_grow,ahead_grow];obtain ⟨os,_,h⟩:=putRow_grow_new (Value.int .i64) (Sort.ahead w n) #[.cells #[.int .i64 0] 3] w.heap.size 0 (one s) (Nat.le_refl _);exact ⟨os,h⟩
theorem qng (w:World):Holds (Value.int .i64) (w.alloc (.cells #[.int .i64 0] 3)) w.heap.size 0 (one 0):=fun j hj=>by
 have:j=0:=by simp [one] at hj;omega
 subst this;exact ⟨by simp [one],by simp⟩
def hintOf (s:Nat):Hint:=if s=0 then .increasing else if s=12 then .decreasing else .unknown
theorem qkJ {d:Array Int} {a b l q:Nat} (hl:l=b - a) (hq:q=l/4) (h8:¬8≤l):choosePivot ltInt d a b=(a+q*2,hintOf 0):=by
 subst hq hl;simp [choosePivot,hintOf,h8]
theorem qkj {d:Array Int} {a b l q:Nat} (hl:l=b - a) (hq:q=l/4) (h8:8≤l) (h50:¬50≤l):choosePivot ltInt d a b=((median ltInt d (a+q) (a+q*2) (a+q*3) 0).1,hintOf (median ltInt d (a+q) (a+q*2) (a+q*3) 0).2):=by
 subst hq hl;simp [choosePivot,hintOf,h8,h50]
theorem qj0 {d:Array Int} {a b l q i j k:Nat} {r1 r2 r3 r4:Nat × Nat} (hl:l=b - a) (hq:q=l/4) (h50:50≤l) (hi:i=a+q) (hj:j=a+q*2) (hk:k=a+q*3) (h1:r1=medianAdjacent ltInt d i 0) (h2:r2=medianAdjacent ltInt d j r1.2) (h3:r3=medianAdjacent ltInt d k r2.2) (h4:r4=median ltInt d r1.1 r2.1 r3.1 r3.2):choosePivot ltInt d a b=(r4.1,hintOf r4.2):=by
 subst h4 h3 h2 h1 hk hj hi hq hl;have h8:8≤b - a:=by omega
 simp [choosePivot,hintOf,h8,h50]
theorem pivotU (blk off cap a b:Nat) (d:Array Int) (w:World) (hH:HoldsU w blk off d) (hab:a<b) (hb:b≤d.size) (hblk:blk<w.heap.size) (hsz:d.size≤1000000) :
 Calls Tryz.prog 220 #[.slice (some ⟨blk,off,none⟩) d.size cap,.int .i64 (a:Nat),.int .i64 (b:Nat)] w fun e w' =>
  e=.returned (.tuple #[.int .i64 ((choosePivot ltInt d a b).1:Nat),.int .i64 (hintN (choosePivot ltInt d a b).2:Nat)])∧∃ n os,w'=grow (Sort.ahead w n) os:=by
 obtain ⟨l,hl⟩:∃ l,l=b - a:=⟨_,rfl⟩;have h1:((b:Nat):Int) - (a:Nat)=(l:Nat):=by omega
 obtain ⟨q,hq⟩:∃ q,q=l/4:=⟨_,rfl⟩;have h2:Int.tdiv (l:Nat) 4=(q:Nat):=by rw [Int.tdiv_eq_ediv_of_nonneg (by omega)];omega
 have hal:a+l≤d.size:=by omega
 have hq4:q*4≤l:=by omega
 obtain ⟨z,hz⟩:∃ z,z=w.heap.size:=⟨_,rfl⟩;obtain ⟨W1,hW1⟩:∃ W1,W1=w.alloc (.cells #[.int .i64 0] 3):=⟨_,rfl⟩;have H1:Hid (HoldsU W1 blk off d):=hidI (by rw [hW1,alloc_eq_grow];exact holds_grow _ _ _ _ _ _ hblk hH);have HS1:Hid (Holds (Value.int .i64) W1 z 0 (one 0)):=hidI (by rw [hW1,hz];exact qng w);have hzb:z≠blk:=by omega
 have Hg:Hid (∀ n s,∃ os,putRow (Value.int .i64) (Sort.ahead W1 n) z 0 (one s)=grow (Sort.ahead w n) os):=hidI (fun n s=>by rw [hW1,hz];exact ql1 w n s);have Hg0:Hid (∃ os,W1=grow (Sort.ahead w 0) os):=hidI ⟨_,by rw [hW1,alloc_eq_grow];rfl⟩;have HW1:=hidI hW1;have Hz:=hidI hz;have Hl:=hidI hl;have Hq:=hidI hq;clear hH hW1 hz hl hq;by_cases hl8:8≤l
 ·have hl8':(8:Int)≤(l:Nat):=by omega
  by_cases hl50:50≤l
  ·have hl50':(50:Int)≤(l:Nat):=by omega
   obtain ⟨i,hi⟩:∃ i,i=a+q:=⟨_,rfl⟩;obtain ⟨j,hj⟩:∃ j,j=a+q*2:=⟨_,rfl⟩;obtain ⟨k,hk⟩:∃ k,k=a+q*3:=⟨_,rfl⟩;have e1:(a:Int)+(q:Int)=(i:Nat):=by omega
   have e2:(a:Int)+(q:Int)*2=(j:Nat):=by omega
   have e3:(a:Int)+(q:Int)*3=(k:Nat):=by omega
   have hq1:12≤q:=by have:=Hq.out;omega
   obtain ⟨r1,hr1⟩:∃ r,r=medianAdjacent ltInt d i 0:=⟨_,rfl⟩;obtain ⟨r2,hr2⟩:∃ r,r=medianAdjacent ltInt d j r1.2:=⟨_,rfl⟩;obtain ⟨r3,hr3⟩:∃ r,r=medianAdjacent ltInt d k r2.2:=⟨_,rfl⟩;obtain ⟨r4,hr4⟩:∃ r,r=median ltInt d r1.1 r2.1 r3.1 r3.2:=⟨_,rfl⟩;have HC:Hid (choosePivot ltInt d a b=(r4.1,hintOf r4.2)):=hidI (qj0 Hl.out Hq.out hl50 hi hj hk hr1 hr2 hr3 hr4);have b1:r1.1<d.size∧r1.2≤3:=by rw [hr1];exact ⟨qcZ d 0 (by omega) (by omega) (by omega),qbd d _ _ _ 0⟩
   have b2:r2.1<d.size∧r2.2≤6:=by rw [hr2];exact ⟨qcZ d _ (by omega) (by omega) (by omega),by have:=qbd d (j - 1) j (j+1) r1.2;exact Nat.le_trans this (by omega)⟩
   have b3:r3.1<d.size∧r3.2≤9:=by rw [hr3];exact ⟨qcZ d _ (by omega) (by omega) (by omega),by have:=qbd d (k - 1) k (k+1) r2.2;exact Nat.le_trans this (by omega)⟩
   have A:=hidI (qgr blk off cap i z 0 0 d W1 H1.out (by omega) (by omega) hzb HS1.out (by omega) hsz);rw [←hr1] at A;have Hr2:=hidI hr2;have Hr3:=hidI hr3;have Hr4:=hidI hr4;have Hi:Hid (1≤i∧i+1<d.size∧1≤j∧j+1<d.size∧1≤k∧k+1<d.size):=hidI (by omega);clear hr1 hr2 hr3 hr4 hi hj hk hq1;go_enter Tryz.func220,Tryz.ntmps220
   go_wp2_with (first | (rw [←HW1.out,←Hz.out]) | fail);refine A.out.mono ?_;rintro e w2 ⟨rfl,n1,hw2⟩;have H2:Hid (HoldsU w2 blk off d):=hidI (by rw [hw2];exact asideU H1.out hzb);have HS2:Hid (Holds (Value.int .i64) w2 z 0 (one r1.2)):=hidI (by rw [hw2];exact oneU HS1.out);have A2:=hidI (qgr blk off cap j z 0 r1.2 d w2 H2.out Hi.out.2.2.1 Hi.out.2.2.2.1 hzb HS2.out (by omega) hsz);rw [←Hr2.out] at A2;have HW2:=hidI hw2;clear hw2 A e1 e2 e3;go_wp2_with fail;refine A2.out.mono ?_;rintro e w3 ⟨rfl,n2,hw3⟩;have H3:Hid (HoldsU w3 blk off d):=hidI (by rw [hw3];exact asideU H2.out hzb);have HS3:Hid (Holds (Value.int .i64) w3 z 0 (one r2.2)):=hidI (by rw [hw3];exact oneU HS2.out);have A3:=hidI (qgr blk off cap k z 0 r2.2 d w3 H3.out Hi.out.2.2.2.2.1 Hi.out.2.2.2.2.2 hzb HS3.out (by omega) hsz);rw [←Hr3.out] at A3
   have HW3:Hid (w3=putRow (Value.int .i64) (Sort.ahead W1 (n1+n2)) z 0 (one r2.2)):=hidI (by rw [hw3,HW2.out,one_one]);clear hw3 A2;go_wp2_with fail;refine A3.out.mono ?_;rintro e w4 ⟨rfl,n3,hw4⟩;have H4:Hid (HoldsU w4 blk off d):=hidI (by rw [hw4];exact asideU H3.out hzb);have HS4:Hid (Holds (Value.int .i64) w4 z 0 (one r3.2)):=hidI (by rw [hw4];exact oneU HS3.out);have A4:=hidI (qgF blk off cap r1.1 r2.1 r3.1 z 0 r3.2 d w4 H4.out b1.1 b2.1 b3.1 hzb HS4.out (by omega) hsz);have hfew:=qbd d r1.1 r2.1 r3.1 r3.2;rw [←Hr4.out] at A4 hfew;have HW4:Hid (w4=putRow (Value.int .i64) (Sort.ahead W1 (n1+n2+n3)) z 0 (one r3.2)):=hidI (by rw [hw4,HW3.out,one_one]);clear hw4 A3;go_wp2_with fail;refine A4.out.mono ?_;rintro e w5 ⟨rfl,n4,hw5⟩;have c1:w5.cell? ⟨z,0,none⟩=some (.int .i64 (r4.2:Nat)):=by rw [hw5];exact (one_cell (oneU HS4.out)).1
   have HW5:Hid (w5=putRow (Value.int .i64) (Sort.ahead W1 (n1+n2+n3+n4)) z 0 (one r4.2)):=hidI (by rw [hw5,HW4.out,one_one]);clear hw5 A4;obtain ⟨t,ht⟩:∃ t,t=r4.2:=⟨_,rfl⟩;rw [←ht] at c1 hfew;have Ht:=hidI ht;clear ht;by_cases ht0:t=0
   ·subst ht0;go_wp2;go_ret2
    refine ⟨by rw [HC.out,←Ht.out];rfl,n1+n2+n3+n4,?_⟩;rw [HW5.out];exact Hg.out _ _
   ·have ht0b:(((t:Nat):Int)==0)=false:=by simpa using ht0
    by_cases ht2:t=12
    ·subst ht2;go_wp2;go_ret2
     refine ⟨by rw [HC.out,←Ht.out];rfl,n1+n2+n3+n4,?_⟩;rw [HW5.out];exact Hg.out _ _
    ·have ht1:(((t:Nat):Int)==12)=false:=by simp;omega
     go_wp2;go_ret2
     refine ⟨by rw [HC.out,←Ht.out];unfold hintOf;rw [if_neg ht0,if_neg ht2];rfl,n1+n2+n3+n4,?_⟩;rw [HW5.out];exact Hg.out _ _
  ·have hl50':¬(50:Int)≤(l:Nat):=by omega
   obtain ⟨i,hi⟩:∃ i,i=a+q:=⟨_,rfl⟩;obtain ⟨j,hj⟩:∃ j,j=a+q*2:=⟨_,rfl⟩;obtain ⟨k,hk⟩:∃ k,k=a+q*3:=⟨_,rfl⟩;have e1:(a:Int)+(q:Int)=(i:Nat):=by omega
   have e2:(a:Int)+(q:Int)*2=(j:Nat):=by omega
   have e3:(a:Int)+(q:Int)*3=(k:Nat):=by omega
   have A:=hidI (qgF blk off cap i j k z 0 0 d W1 H1.out (by omega) (by omega) (by omega) hzb HS1.out (by omega) hsz);obtain ⟨r,hr⟩:∃ r,r=median ltInt d i j k 0:=⟨_,rfl⟩;have hfew:=qbd d i j k 0;rw [←hr] at A hfew;have HC:Hid (choosePivot ltInt d a b=(r.1,hintOf r.2)):=hidI (by rw [qkj Hl.out Hq.out hl8 hl50,←hi,←hj,←hk,←hr]);clear hr hi hj hk;go_enter Tryz.func220,Tryz.ntmps220
   go_wp2_with (first | (rw [←HW1.out,←Hz.out]) | fail);refine A.out.mono ?_;rintro e w1 ⟨rfl,n1,hw1⟩;have c1:w1.cell? ⟨z,0,none⟩=some (.int .i64 (r.2:Nat)):=by rw [hw1];exact (one_cell (oneU HS1.out)).1
   have HW2:=hidI hw1;clear hw1 A;obtain ⟨t,ht⟩:∃ t,t=r.2:=⟨_,rfl⟩;rw [←ht] at c1 hfew;have Ht:=hidI ht;clear ht;by_cases ht0:t=0
   ·subst ht0;go_wp2;go_ret2
    refine ⟨by rw [HC.out,←Ht.out];rfl,n1,?_⟩;rw [HW2.out];exact Hg.out _ _
   ·have ht0':((t:Nat):Int)≠0:=by omega
    have ht0b:(((t:Nat):Int)==0)=false:=by simpa using ht0'
    have ht1:(((t:Nat):Int)==12)=false:=by simp;omega
    go_wp2;go_ret2
    refine ⟨by rw [HC.out,←Ht.out];unfold hintOf;rw [if_neg ht0,if_neg (by omega)];rfl,n1,?_⟩;rw [HW2.out];exact Hg.out _ _
 ·have hl8':¬(8:Int)≤(l:Nat):=by omega
  obtain ⟨j,hj⟩:∃ j,j=a+q*2:=⟨_,rfl⟩;have e2:(a:Int)+(q:Int)*2=(j:Nat):=by omega
  have HC:Hid (choosePivot ltInt d a b=(j,hintOf 0)):=hidI (by rw [qkJ Hl.out Hq.out hl8,←hj]);have c1:W1.cell? ⟨z,0,none⟩=some (.int .i64 0):=(one_cell HS1.out).1;clear hj;go_enter Tryz.func220,Tryz.ntmps220
  go_wp2_with (first | (rw [←HW1.out,←Hz.out]) | fail);go_ret2
  exact ⟨by rw [HC.out];rfl,0,Hg0.out⟩
theorem qaF {w wr:World} {blk off n:Nat} {d dk:Array Int} (hH:HoldsU w blk off d) (hs:dk.size=d.size) (hw:wr=rowU w n blk off dk):(∀ t,t<d.size→wr.cell? ⟨blk,off+t,none⟩=some (.int .u32 dk[t]!))∧(∀ t,t<d.size→wr.frozen? ⟨blk,off+t,none⟩=false):=by
 subst hw;exact ⟨fun t ht=>qaK hH hs t ht,fun t ht=>qat hH t ht⟩
theorem qag {w wr:World} {blk off n:Nat} {dk:Array Int} (hw:wr=rowU w n blk off dk) (q:Nat):wr.drewN q=rowU w (n+q) blk off dk:=by
 rw [hw];exact putRow_drewN _ _ _ _ _ _ _
theorem swapU {w wr:World} {blk off n i j:Nat} {dk:Array Int} (hw:wr=rowU w n blk off dk) (hi:i<dk.size) (hj:j<dk.size):((wr.setCell ⟨blk,off+i,none⟩ (.int .u32 dk[j]!)).setCell ⟨blk,off+j,none⟩ (.int .u32 dk[i]!)).drew=rowU w (n+1) blk off (swp dk i j):=by
 subst hw;exact swap_worldA (Value.int .u32) w n 1 blk off dk i j hi hj
theorem qa5 {w:World} {blk off:Nat} {d:Array Int} (hH:HoldsU w blk off d):w=rowU w 0 blk off d:=(putRow_self _ _ _ _ _ hH).symm
theorem qnw (blk off cap a b pivot:Nat) (d:Array Int) (w:World) (hH:HoldsU w blk off d) (hap:a≤pivot) (hpb:pivot<b) (hb:b≤d.size) (hsz:d.size≤1000000) :
 Calls Tryz.prog 224 #[.slice (some ⟨blk,off,none⟩) d.size cap,.int .i64 (a:Nat),.int .i64 (b:Nat),.int .i64 (pivot:Nat)] w fun e w' =>
  e=.returned (.int .i64 ((partitionEqual ltInt d a b pivot).1:Nat))∧∃ n,w'=rowU w n blk off (partitionEqual ltInt d a b pivot).2:=by
 obtain ⟨G0,hG0⟩:∃ G:Nat→Int,∀ t,G t=d[t]! := ⟨fun t=>d[t]!,fun _=>rfl⟩;have hcw:∀ t,t<d.size→w.cell? ⟨blk,off+t,none⟩=some (.int .u32 (G0 t)):=fun t ht=>by rw [hG0];exact (hH t ht).1
 have hfw:∀ t,t<d.size→w.frozen? ⟨blk,off+t,none⟩=false:=fun t ht=>(hH t ht).2
 have HG0:=hidI hG0;have HH:=hidI hH;clear hG0 hH;go_enter Tryz.func224,Tryz.ntmps224
 go_upto_region 1 with fail
 go_cut [] from 11 (fun wx=>∃ n,wx=rowU w n blk off (swp d a pivot))
 case first =>
  by_cases hpa:pivot=a
  ·subst hpa;go_region
   all_goals go_wp2
   all_goals go_meet
   case rel =>
    refine ⟨1,?_⟩;rw [HG0.out];exact (swapU (qa5 HH.out) (by omega) (by omega)).trans (by rw [Nat.zero_add])
  ·have hne:¬a=pivot:=fun h=>hpa h.symm
   go_region
   all_goals go_wp2
   all_goals go_meet
   case rel =>
    refine ⟨1,?_⟩;rw [HG0.out,HG0.out];exact (swapU (qa5 HH.out) (by omega) (by omega)).trans (by rw [Nat.zero_add])
 case rest =>
 obtain ⟨n0,hwc⟩:=hcut;have HWc:=hidI hwc;clear hwc hcw hfw;go_wp2_with fail
 go_loopg [9,10] (b - a) (fun k vi vj wr=>∃ (i j n:Nat) (dk:Array Int),vi=.int .i64 (i:Nat)∧vj=.int .i64 (j:Nat)∧a<i∧i≤j+1∧j<b∧j+1 - i≤k∧dk.size=d.size∧wr=rowU w n blk off dk∧Hid (partEqLoop ltInt a i j dk=partitionEqual ltInt d a b pivot))
 case atStart=>exact ⟨a+1,b - 1,n0,swp d a pivot,by go_num,by congr 1;omega,by omega,by omega,by omega,by omega,size_swp _ _ _,HWc.out,hidI rfl⟩
 case round =>
  obtain ⟨i,j,n,dk,rfl,rfl,hai,hij,hjb,hk,hds,hwr,HE⟩:=hrel;obtain ⟨G,hG⟩:∃ G:Nat→Int,∀ t,G t=dk[t]! := ⟨fun t=>dk[t]!,fun _=>rfl⟩;have HG:=hidI hG;have HW:=hidI hwr;clear hwr hG;go_upto_block 2 with fail
  go_cut [9] from 29 to 82 (fun s9 wx=>∃ (i2 m:Nat),s9=.int .i64 (i2:Nat)∧i≤i2∧i2≤j+1∧wx=rowU w m blk off dk∧Hid (i2=scanUp (fun x => !ltInt dk[a]! x) dk j i))
  case first =>
   go_wp2_with fail
   go_loopg [9] (j+1 - i) (fun k vi w1=>∃ (i' m:Nat),vi=.int .i64 (i':Nat)∧i≤i'∧i'≤j+1∧j+1 - i'≤k∧w1=rowU w m blk off dk∧Hid (scanUp (fun x => !ltInt dk[a]! x) dk j i'=scanUp (fun x => !ltInt dk[a]! x) dk j i))
   case atStart=>exact ⟨i,n,rfl,by omega,by omega,by omega,HW.out,hidI rfl⟩
   case round =>
    obtain ⟨i',m,rfl,h1,h2,h3,hw1,HS⟩:=hrel;obtain ⟨hcw,hfw⟩:=qaF HH.out hds hw1;simp only [←HG.out] at hcw;have HW1:=hidI hw1;clear hw1;by_cases hle:i'≤j
    ·have hle':((i':Nat):Int)≤(j:Nat):=by omega
     go_wp2_with fail
     go_quiet (first | (go_at_call 223;refine Calls.quiet_of_same (lessU _ _ _)))
     go_wp2_with fail
     ·have hl:(!ltInt (G a) (G i'))=true:=by assumption
      go_roundg (j+1 - (i'+1))
      case measure=>omega
      case rel=>exact ⟨i'+1,m+nq,by go_num,by omega,by omega,by omega,qag HW1.out nq,hidI (by rw [←HS.out,scanUp_go _ _ _ _ hle (by rw [←HG.out,←HG.out];exact hl)])⟩
     ·have hl:(!ltInt (G a) (G i'))=false:=by assumption
      go_meet
      case rel=>exact ⟨i',m+nq,rfl,h1,h2,qag HW1.out nq,hidI (by rw [←HS.out,scanUp_end _ _ _ _ (Or.inr (by rw [←HG.out,←HG.out];exact hl))])⟩
    ·have hle':decide (((i':Nat):Int)≤(j:Nat))=false:=decide_eq_false (by omega);go_wp2_with fail
     go_quiet (first | (go_at_call 223;refine Calls.quiet_of_same (lessU _ _ _)))
     go_wp2_with fail;go_meet
     case rel=>exact ⟨i',m+nq,rfl,h1,h2,qag HW1.out nq,hidI (by rw [←HS.out,scanUp_end _ _ _ _ (Or.inl hle)])⟩
  case rest =>
   obtain ⟨i2,m2,rfl,hi2,hi2j,hw2,HI⟩:=hcut;have HW2:=hidI hw2;clear hw2;go_upto_block 4 with fail
   go_cut [10] from 29 to 82 (fun s10 wx=>∃ (j2 m:Nat),s10=.int .i64 (j2:Nat)∧j2≤j∧i2≤j2+1∧wx=rowU w m blk off dk∧Hid (j2=scanDown (fun x=>ltInt dk[a]! x) dk i2 j))
   case first =>
    go_wp2_with fail
    go_loopg [10] (j+1 - i2) (fun k vj w1=>∃ (j' m:Nat),vj=.int .i64 (j':Nat)∧j'≤j∧i2≤j'+1∧j'+1 - i2≤k∧w1=rowU w m blk off dk∧Hid (scanDown (fun x=>ltInt dk[a]! x) dk i2 j'=scanDown (fun x=>ltInt dk[a]! x) dk i2 j))
    case atStart=>exact ⟨j,m2,rfl,by omega,by omega,by omega,HW2.out,hidI rfl⟩
    case round =>
     obtain ⟨j',m,rfl,h1,h2,h3,hw1,HS⟩:=hrel;obtain ⟨hcw,hfw⟩:=qaF HH.out hds hw1;simp only [←HG.out] at hcw;have HW1:=hidI hw1;clear hw1;by_cases hle:i2≤j'
     ·have hle':((i2:Nat):Int)≤(j':Nat):=by omega
      go_wp2_with fail
      go_quiet (first | (go_at_call 223;refine Calls.quiet_of_same (lessU _ _ _)))
      go_wp2_with fail
      ·have hl:ltInt (G a) (G j')=true:=by assumption
       go_roundg (j'+1 - 1 - i2)
       case measure=>omega
       case rel=>exact ⟨j' - 1,m+nq,by congr 1;omega,by omega,by omega,by omega,qag HW1.out nq,hidI (by rw [←HS.out,scanDown_go _ _ _ _ hle (by omega) (by rw [←HG.out,←HG.out];exact hl)])⟩
      ·have hl:ltInt (G a) (G j')=false:=by assumption
       go_meet
       case rel=>exact ⟨j',m+nq,rfl,h1,h2,qag HW1.out nq,hidI (by rw [←HS.out,scanDown_end _ _ _ _ (Or.inr (by rw [←HG.out,←HG.out];exact hl))])⟩
     ·have hle':decide (((i2:Nat):Int)≤(j':Nat))=false:=decide_eq_false (by omega);go_wp2_with fail
      go_quiet (first | (go_at_call 223;refine Calls.quiet_of_same (lessU _ _ _)))
      go_wp2_with fail;go_meet
      case rel=>exact ⟨j',m+nq,rfl,h1,h2,qag HW1.out nq,hidI (by rw [←HS.out,scanDown_end _ _ _ _ (Or.inl hle)])⟩
   case rest =>
    obtain ⟨j2,m3,rfl,hj2,hij2,hw3,HJ⟩:=hcut;obtain ⟨hcw,hfw⟩:=qaF HH.out hds hw3;simp only [←HG.out] at hcw;have HW3:=hidI hw3;clear hw3;by_cases hgt:j2<i2
    ·have hgt':((j2:Nat):Int)<(i2:Nat):=by omega
     go_wp2_with fail;go_ret
     have e:=partEq_break ltInt a i j dk HI.out HJ.out hgt;rw [HE.out] at e;rw [e];exact ⟨rfl,m3,HW3.out⟩
    ·have hlt:i2<j2:=scans_lt ltInt a i j dk (by omega) HI.out HJ.out (by omega);have hgt':¬((j2:Nat):Int)<(i2:Nat):=by omega
     have hne:¬i2=j2:=by omega
     have hne':¬j2=i2:=by omega
     go_wp2_with fail;go_region
     all_goals go_wp2_with fail
     go_roundg (j2 - 1+1 - (i2+1))
     case measure=>omega
     case rel =>
      refine ⟨i2+1,j2 - 1,m3+1,swp dk i2 j2,by go_num,by congr 1;omega,by omega,by omega,by omega,by omega,by rw [size_swp];exact hds,?_,hidI ?_⟩
      ·rw [HG.out,HG.out];exact swapU HW3.out (by omega) (by omega)
      ·rw [←HE.out,partEq_go ltInt a i j dk HI.out HJ.out hgt]
end Go.Proofs.YtodmdkhdbfbfgabGreatDoor.S1
