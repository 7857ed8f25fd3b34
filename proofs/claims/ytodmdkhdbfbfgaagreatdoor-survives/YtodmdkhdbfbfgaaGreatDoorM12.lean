/- Lemmas. -/
import Derived.Shelf.Strings.LastIndex
import Derived.Shelf.Strings.Prefix
import Derived.Shelf.SlMaps.Clone
import Derived.Test.YtodmdkhdbfbfgaaGreatDoorM11
set_option linter.unusedVariables false
set_option linter.unusedSimpArgs false
set_option maxRecDepth 100000
set_option maxHeartbeats 8000000
namespace Go.Proofs.YtodmdkhdbfbfgaaGreatDoor
section
open Go.RowKit Go.Nt
def RdAt (w:World) (rb:Nat) (r:Rd):Prop:=w.heap[rb]? = some (.cells #[.string (txt r.1),.bool r.2] 151 (0,0))
theorem RdAt.c0 {w:World} {rb:Nat} {r:Rd} (h:RdAt w rb r):w.cell? ⟨rb,0,none⟩=some (.string (txt r.1)):=by rw [cell_of_row w rb 0 _ 151 (0,0) h];rfl
theorem RdAt.c1 {w:World} {rb:Nat} {r:Rd} (h:RdAt w rb r):w.cell? ⟨rb,1,none⟩=some (.bool r.2):=by rw [cell_of_row w rb 1 _ 151 (0,0) h];rfl
theorem RdAt.fz {w:World} {rb:Nat} {r:Rd} (h:RdAt w rb r) (k:Nat):w.frozen? ⟨rb,k,none⟩=false:=frozen_of_row w rb k _ 151 h
theorem RdAt.lt {w:World} {rb:Nat} {r:Rd} (h:RdAt w rb r):rb<w.heap.size:=lt_of_heap h
structure Turn (rb:Nat) (w w':World):Prop where
 os:w'.os=w.os
 tape:w'.tape=w.tape
 output:w'.output=w.output
 size:w.heap.size≤w'.heap.size
 block:∀ k,k<w.heap.size→k≠rb→w'.heap[k]? = w.heap[k]?
namespace Turn
variable {rb:Nat} {a b c:World}
theorem refl (rb:Nat) (w:World):Turn rb w w:=⟨rfl,rfl,rfl,Nat.le_refl _,fun _ _ _=>rfl⟩
theorem trans (h:Turn rb a b) (k:Turn rb b c):Turn rb a c:=
 ⟨k.os.trans h.os,k.tape.trans h.tape,k.output.trans h.output,Nat.le_trans h.size k.size,fun i hi hn=>(k.block i (Nat.lt_of_lt_of_le hi h.size) hn).trans (h.block i hi hn)⟩
theorem of_below (h:Below a.heap.size a b):Turn rb a b:=⟨h.os,h.tape,h.output,h.size,fun k hk _=>h.block k hk⟩
theorem below (h:Turn rb a b) {B:Nat} (hB:B≤rb) (hs:B≤a.heap.size):Below B a b:=⟨h.os,h.tape,h.output,h.size,fun k hk=>h.block k (by omega) (by omega)⟩
theorem set (h:Turn rb a b) (o:Nat) (v:Value):Turn rb a (b.setCell ⟨rb,o,none⟩ v):=
 h.trans ⟨rfl,rfl,rfl,by simp,fun k _ hn=>Below.heap_setCell b ⟨rb,o,none⟩ v k hn⟩
theorem alloc (h:Turn rb a b) (o:Obj):Turn rb a (b.alloc o):=h.trans ⟨rfl,rfl,rfl,by simp,fun k hk _=>Below.heap_alloc b o k hk⟩
end Turn
theorem RdAt.below {w w':World} {rb:Nat} {r:Rd} (h:RdAt w rb r) (hb:Below w.heap.size w w'):RdAt w' rb r:=(hb.block rb h.lt).trans h
theorem qeE (rb:Nat) (r:Rd) (n:Nat) (w:World) (h:RdAt w rb r) (hn:n≤1000000) (hr:r.1.length≤1000000) :
 Calls Tryz.prog 144 #[.pointer (some ⟨rb,0,none⟩),.int .i64 n] w fun e w'=>e=.returned (.string (txt (Go.Nt.tk n r).1))∧RdAt w' rb (Go.Nt.tk n r).2∧Turn rb w w':=by
 have c0:=h.c0;have c1:=h.c1;have f0:=h.fz 0;have f1:=h.fz 1;obtain ⟨X,hX⟩:∃ X,X=txt r.1:=⟨_,rfl⟩;have Sx:X.size=r.1.length:=by rw [hX,qaa]
 rw [←hX] at c0;have HX:=hidI hX;have Hh:=hidI h;have HS:=hidI Sx;by_cases hlt:r.1.length<n
 ·have ht:Go.Nt.tk n r=([],([],false)):=by unfold Go.Nt.tk;rw [if_pos hlt]
  rw [ht];have hX':X.size<n:=by omega
  clear Sx hX h hlt ht;go_enter Tryz.func144,Tryz.ntmps144
  go_wp2;go_ret
  refine ⟨rfl,?_,((Turn.refl rb w).set _ _).set _ _⟩;have h1:=heap_setCell_same w rb 0 _ 151 (.string ⟨#[]⟩) Hh.out;exact heap_setCell_same _ rb 1 _ 151 (.bool false) h1
 have ht:Go.Nt.tk n r=(r.1.take n,(r.1.drop n,r.2)):=by unfold Go.Nt.tk;rw [if_neg hlt]
 rw [ht];have hX':n≤X.size:=by omega
 have hXl:X.size≤1000000:=by omega
 have He1:Hid (X.extract 0 n=txt (r.1.take n)):=hidI (by rw [hX,qag];simp);have He2:Hid (X.extract n X.size=txt (r.1.drop n)):=hidI (by rw [Sx,hX,qag];congr 1;exact List.take_of_length_le (by simp));clear Sx hX h hlt ht;go_enter Tryz.func144,Tryz.ntmps144
 go_wp2;go_ret
 refine ⟨by rw [←He1.out];rfl,?_,(Turn.refl rb w).set _ _⟩;rw [He2.out];exact heap_setCell_same w rb 0 _ 151 _ Hh.out
theorem qlF {s:Bs} {i:Nat} (h:i<s.length):num (s.take (i+1))=num (s.take i)*256+(s.getD i 0).toNat:=by
 rw [List.take_add_one,List.getElem?_eq_getElem h];simp only [Option.toList_some];rw [qeZ];simp [List.getD,h]
theorem qbj (n:Nat) (r:Rd):(Go.Nt.tk n r).1.length≤n∧(Go.Nt.tk n r).2.1.length≤r.1.length:=by
 unfold Go.Nt.tk
 split
 ·simp
 simp;omega
theorem qds (w:World) (s:ByteArray) (rb:Nat):Below w.heap.size w (Lib.bytesWorld w 5 s):=
 ⟨rfl,rfl,rfl,by rw [Lib.bytesWorld_size];omega,fun k hk=>Lib.bytesWorld_at_old w 5 s k hk⟩
theorem qbc (rb:Nat) (r:Rd) (n:Nat) (w:World) (h:RdAt w rb r) (hn:n≤4) (hr:r.1.length≤1000000) :
 Calls Tryz.prog 87 #[.pointer (some ⟨rb,0,none⟩),.int .i64 n] w fun e w'=>e=.returned (.int .i64 ((nmb n r).1:Nat))∧RdAt w' rb (nmb n r).2∧Turn rb w w':=by
 have HT:=hidI (qeE rb r n w h (by omega) hr);have hs4:=(qbj n r).1;unfold nmb;obtain ⟨s,hs⟩:∃ s,s=(Go.Nt.tk n r).1:=⟨_,rfl⟩;obtain ⟨r',hr'⟩:∃ s,s=(Go.Nt.tk n r).2:=⟨_,rfl⟩;rw [←hs] at HT hs4;rw [←hs,←hr'];rw [←hr'] at HT;have hl4:s.length≤4:=by omega
 clear hs hr' h;obtain ⟨X,hX⟩:∃ X,X=txt s:=⟨_,rfl⟩;have Sx:X.size=s.length:=by rw [hX,qaa]
 rw [←hX] at HT;have gx:Hid (∀ j,j<s.length→X.data.toList.getD j 0=s.getD j 0):=hidI (fun j _=>by rw [hX];rfl);have HS:=hidI Sx;have hX4:X.size≤4:=by omega
 clear hX Sx;go_enter Tryz.func87,Tryz.ntmps87
 go_wp2_with fail;refine HT.out.mono ?_;rintro e w1 ⟨rfl,h1,t1⟩;have hcv:=Lib.run_convert_string_bytes (P:=Tryz.prog) w1 9 111 5 X Tryz.underlying9 Tryz.underlying111 Tryz.underlying5;have hb2:=qds w1 X rb;have hcell:=Lib.bytesWorld_cell w1 5 X;obtain ⟨cap,hcap⟩:∃ c,c=grownCap w1 X.size 0 5:=⟨_,rfl⟩;obtain ⟨W2,hW2⟩:∃ W2,W2=Lib.bytesWorld w1 5 X:=⟨_,rfl⟩;rw [←hW2] at hcv hb2 hcell;rw [←hcap] at hcv;have H2:Hid (RdAt W2 rb r'):=hidI (h1.below hb2);have T2:Hid (Turn rb w W2):=hidI (t1.trans (.of_below hb2));have HC:=hidI hcell;clear hcap hW2 h1 t1 hb2 hcell HT;go_wp2
 go_loopw [5,13] (fun a i wr=>∃ k:Nat,k≤X.size∧i=.int .i64 k∧a=.int .i64 (num (s.take k):Nat)∧wr=W2) (fun _ i _=>X.size - (intOf i).toNat)
 case atStart=>exact ⟨0,Nat.zero_le _,rfl,rfl,rfl⟩
 case round =>
  obtain ⟨k,hk,rfl,rfl,rfl⟩:=hrel;by_cases hlt:k<X.size
  ·have hks:k<s.length:=by have:=HS.out;omega
   have hc:=HC.out k hlt;rw [gx.out k hks] at hc;have hnum:=qlF hks;have hbound:=qd1 (s.take k);have hb':num (s.take k)<16777216:=by
    refine Nat.lt_of_lt_of_le hbound ?_
    have:(s.take k).length≤3:=by rw [List.length_take];omega
    exact Nat.le_trans (Nat.pow_le_pow_right (by decide) this) (by decide)
   have hbyte:=(s.getD k 0).toNat_lt;obtain ⟨c,hcc⟩:∃ c,c=(s.getD k 0).toNat:=⟨_,rfl⟩;rw [←hcc] at hc hnum hbyte;obtain ⟨m,hm⟩:∃ m,m=num (s.take k):=⟨_,rfl⟩;rw [←hm] at hnum hb' ⊢;have hor:=or8 m c (by omega) (by omega);have Hnum:=hidI hnum;clear hcc hm hnum hbound;go_wp2;refine ⟨⟨k+1,by omega,by go_num,?_,trivial⟩,by simp [intOf];omega⟩;rw [Hnum.out];simp
  have hks:X.size=k:=by omega
  have HR:Hid (s.take k=s):=hidI (List.take_of_length_le (by have:=HS.out;omega));go_wp2;go_ret
  rw [HR.out];exact ⟨rfl,H2.out,T2.out⟩
theorem bit16 {n i:Nat} (h:n<65536) (hi:16≤i):n.testBit i=false:=
 Nat.testBit_lt_two_pow (Nat.lt_of_lt_of_le h (Nat.le_trans (by decide:65536≤2^16) (Nat.pow_le_pow_right (by decide) hi)))
theorem and15 (n:Nat) (h:n<65536):(bits .and .i64 (n:Int) 32768 != 0)=decide (32768≤n):=by
 rw [show (32768:Int)=((32768:Nat):Int) from rfl,(bits_nat .i64 62 (by decide) qb7 n 32768 (by omega) (by omega)).1];have e:n &&& 32768=if 32768≤n then 32768 else 0:=by
  apply Nat.eq_of_testBit_eq
  intro i;rw [Nat.testBit_and,show (32768:Nat)=2^15 from rfl,Nat.testBit_two_pow];have h2:n.testBit 15=decide (2^15≤n):=by
   rw [Nat.testBit_eq_decide_div_mod_eq];by_cases hh:2^15≤n
   ·simp [hh];omega
   simp [hh];omega
  by_cases hi:15=i
  ·subst hi;rw [h2];by_cases hh:2^15≤n
   ·rw [if_pos hh,Nat.testBit_two_pow];simp [hh]
   rw [if_neg hh];simp [hh]
  simp only [hi,decide_false,Bool.and_false]
  split
  ·rw [Nat.testBit_two_pow];simp [hi]
  simp
 rw [e];by_cases hh:32768≤n<;>simp [hh]
theorem not15 (n:Nat) (h:n<65536):bits .andNot .i64 (n:Int) 32768=((n%32768:Nat):Int):=by
 have key:(BitVec.ofInt 64 (n:Int) &&& ~~~BitVec.ofInt 64 32768).toNat=n%32768:=by
  rw [BitVec.toNat_and,BitVec.ofInt_natCast,BitVec.toNat_ofNat,Nat.mod_eq_of_lt (by omega)];have hc:(~~~BitVec.ofInt 64 32768).toNat=18446744073709518847:=by decide
  rw [hc]
  apply Nat.eq_of_testBit_eq
  intro i;rw [Nat.testBit_and,show (32768:Nat)=2^15 from rfl,Nat.testBit_mod_two_pow];rcases Nat.lt_or_ge i 16 with hi | hi
  ·have:∀ j,j<16→(18446744073709518847:Nat).testBit j=decide (j<15):=by decide
   rw [this i hi,Bool.and_comm]
  rw [bit16 h hi];simp
 show IntKind.i64.wrap ((BitVec.ofInt 64 (n:Int) &&& ~~~BitVec.ofInt 64 32768).toNat:Int)=_;rw [key,qb7 _ (by omega) (by omega)]
def set5 (w:World) (b:Nat) (v0 v1 v2 v3 v4:Value):World:=((((w.setCell ⟨b,0,none⟩ v0).setCell ⟨b,1,none⟩ v1).setCell ⟨b,2,none⟩ v2).setCell ⟨b,3,none⟩ v3).setCell ⟨b,4,none⟩ v4
theorem qeY {w:World} {b:Nat} {a0 a1 a2 a3 a4:Value} {T:TypeId} (h:w.heap[b]? = some (.cells #[a0,a1,a2,a3,a4] T (0,0))) (v0 v1 v2 v3 v4:Value) :
 (set5 w b v0 v1 v2 v3 v4).heap[b]? = some (.cells #[v0,v1,v2,v3,v4] T (0,0)):=by
 have h0:=heap_setCell_same w b 0 _ T v0 h;have h1:=heap_setCell_same _ b 1 _ T v1 h0;have h2:=heap_setCell_same _ b 2 _ T v2 h1;have h3:=heap_setCell_same _ b 3 _ T v3 h2;exact heap_setCell_same _ b 4 _ T v4 h3
theorem qcB (w:World) (b:Nat) (v0 v1 v2 v3 v4:Value) (k:Nat) (hk:k≠b):(set5 w b v0 v1 v2 v3 v4).heap[k]? = w.heap[k]? := by
 unfold set5;rw [Below.heap_setCell _ _ _ k hk,Below.heap_setCell _ _ _ k hk,Below.heap_setCell _ _ _ k hk,Below.heap_setCell _ _ _ k hk,Below.heap_setCell _ _ _ k hk]
theorem Turn.setNew {rb:Nat} {a b:World} (h:Turn rb a b) {g:Nat} (hg:a.heap.size≤g) (o:Nat) (v:Value):Turn rb a (b.setCell ⟨g,o,none⟩ v):=
 ⟨(Turn.set (Turn.refl g b) o v).os.trans h.os,(Turn.set (Turn.refl g b) o v).tape.trans h.tape,(Turn.set (Turn.refl g b) o v).output.trans h.output,by have:=h.size;simp;omega,fun k hk hn=>(Below.heap_setCell b ⟨g,o,none⟩ v k (by simp;omega)).trans (h.block k hk hn)⟩
theorem qdy {rb:Nat} {w W:World} {b:Nat} (h:Turn rb w W) (hb:w.heap.size≤b) (v0 v1 v2 v3 v4:Value):Turn rb w (set5 W b v0 v1 v2 v3 v4):=
 ((((h.setNew hb 0 v0).setNew hb 1 v1).setNew hb 2 v2).setNew hb 3 v3).setNew hb 4 v4
theorem qeu (k:Nat) (r:Rd):(nmb k r).1<256^k:=by
 unfold nmb;exact Nat.lt_of_lt_of_le (qd1 _) (Nat.pow_le_pow_right (by decide) (qbj k r).1)
theorem qlB {u:Bs→Option Bs} (hP:PackC u) (rb:Nat) (r:Rd) (w:World) (h:RdAt w rb r) (hr:r.1.length≤1000000) :
 Calls Tryz.prog 88 #[.pointer (some ⟨rb,0,none⟩)] w fun e w'=>e=.returned (itv (rdItem u r).1)∧RdAt w' rb (rdItem u r).2∧Turn rb w w':=by
 unfold rdItem;simp only;have hrb:=h.lt;obtain ⟨kr,hk⟩:∃ kr,kr=nmb 2 r:=⟨_,rfl⟩;obtain ⟨k,r1⟩:=kr;have hk1:k<65536:=by have:=qeu 2 r;rw [←hk] at this;exact this
 have l1:r1.1.length≤1000000:=by have:=(qbj 2 r).2;have e:(nmb 2 r).2=(Go.Nt.tk 2 r).2:=rfl;rw [←hk] at e;rw [←e] at this;exact Nat.le_trans this hr
 rw [←hk];simp only;obtain ⟨tr,ht⟩:∃ tr,tr=nmb 4 r1:=⟨_,rfl⟩;obtain ⟨t,r2⟩:=tr;have ht1:t<4294967296:=by have:=qeu 4 r1;rw [←ht] at this;exact this
 have l2:r2.1.length≤1000000:=by have:=(qbj 4 r1).2;have e:(nmb 4 r1).2=(Go.Nt.tk 4 r1).2:=rfl;rw [←ht] at e;rw [←e] at this;exact Nat.le_trans this l1
 rw [←ht];simp only;obtain ⟨nr,hn⟩:∃ nr,nr=nmb 1 r2:=⟨_,rfl⟩;obtain ⟨n,r3⟩:=nr;have hn1:n<256:=by have:=qeu 1 r2;rw [←hn] at this;exact this
 have l3:r3.1.length≤1000000:=by have:=(qbj 1 r2).2;have e:(nmb 1 r2).2=(Go.Nt.tk 1 r2).2:=rfl;rw [←hn] at e;rw [←e] at this;exact Nat.le_trans this l2
 rw [←hn];simp only;obtain ⟨pr,hp⟩:∃ pr,pr=Go.Nt.tk n r3:=⟨_,rfl⟩;obtain ⟨p,r4⟩:=pr;have l4:r4.1.length≤1000000:=by have:=(qbj n r3).2;rw [←hp] at this;exact Nat.le_trans this l3
 rw [←hp];simp only;obtain ⟨W0,hW0⟩:∃ W0,W0=w.alloc (.cells #[.string ⟨#[]⟩,.bool false,.string ⟨#[]⟩,.int .i64 0,.int .i64 0] 39):=⟨_,rfl⟩;have t0:Turn rb w W0:=by rw [hW0];exact (Turn.refl rb w).alloc _
 have h0:RdAt W0 rb r:=by rw [hW0];exact (Below.heap_alloc _ _ _ hrb).trans h
 have A1:=hidI (qbc rb r 2 W0 h0 (by decide) hr);rw [←hk] at A1;simp only at A1;have ha:=and15 k hk1;have hb:=not15 k hk1;have HW0:=hidI hW0;have T0:=hidI t0;have Hk:=hidI hk;have Ht:=hidI ht;have Hn:=hidI hn;have Hp:=hidI hp;clear hk ht hn hp h h0 t0 hW0;obtain ⟨dr,hdr⟩:∃ dr,dr=decide (32768≤k):=⟨_,rfl⟩;have Hdr:=hidI hdr;obtain ⟨md,hmd⟩:∃ md,md=k%32768:=⟨_,rfl⟩;rw [←hdr] at ha;rw [←hmd] at hb ⊢;clear hdr hmd;go_enter Tryz.func88,Tryz.ntmps88
 go_wp2_with fail;rw [←HW0.out];refine A1.out.mono ?_;rintro e w1 ⟨rfl,h1,t1⟩;have A2:=hidI (qbc rb r1 4 w1 h1 (by decide) l1);have e2:=Ht.out;rw [←e2] at A2;simp only at A2;have hs0:W0.heap.size=w.heap.size+1:=by rw [HW0.out];simp
 have q0:W0.heap[w.heap.size]? = some (.cells #[.string ⟨#[]⟩,.bool false,.string ⟨#[]⟩,.int .i64 0,.int .i64 0] 39 (0,0)):=by rw [HW0.out];exact heap_alloc_new _ _
 have Q1:=hidI ((t1.block w.heap.size (by omega) (by omega)).trans q0);have T1:=hidI (T0.out.trans t1);have z1:=t1.size;clear A1 h1 t1 e2 q0;go_wp2_with fail;refine A2.out.mono ?_;rintro e w2 ⟨rfl,h2,t2⟩;have Q2:=hidI ((t2.block w.heap.size (by omega) (by omega)).trans Q1.out);have T2:=hidI (T1.out.trans t2);have z2:=t2.size;obtain ⟨W3,hW3⟩:∃ W3,W3=w2.alloc (.cells #[.string ⟨#[]⟩,.bool dr,.string ⟨#[]⟩,.int .i64 md,.int .i64 t] 39):=⟨_,rfl⟩;have h3:RdAt W3 rb r2:=by rw [hW3];exact (Below.heap_alloc _ _ _ h2.lt).trans h2
 have A4:=hidI (qbc rb r2 1 W3 h3 (by decide) l2);have e4:=Hn.out;rw [←e4] at A4;simp only at A4;have HW3:=hidI hW3;clear A2 h2 t2 h3 hW3 e4;go_wp2_with fail;rw [←HW3.out];refine A4.out.mono ?_;rintro e w4 ⟨rfl,h4,t4⟩;have hs3:W3.heap.size=w2.heap.size+1:=by rw [HW3.out];simp
 have q3:W3.heap[w2.heap.size]? = some (.cells #[.string ⟨#[]⟩,.bool dr,.string ⟨#[]⟩,.int .i64 md,.int .i64 t] 39 (0,0)):=by rw [HW3.out];exact heap_alloc_new _ _
 have q3':W3.heap[w.heap.size]? = some (.cells #[.string ⟨#[]⟩,.bool false,.string ⟨#[]⟩,.int .i64 0,.int .i64 0] 39 (0,0)):=by rw [HW3.out];exact (Below.heap_alloc _ _ _ (by omega)).trans Q2.out
 have T3:Turn rb w W3:=by rw [HW3.out];exact T2.out.alloc _
 have P4:=hidI ((t4.block w2.heap.size (by omega) (by omega)).trans q3);have Q4:=hidI ((t4.block w.heap.size (by omega) (by omega)).trans q3');have T4:=hidI (T3.trans t4);have z4:=t4.size;have A5:=hidI (qeE rb r3 n w4 h4 (by omega) l3);have e5:=Hp.out;rw [←e5] at A5;simp only at A5;obtain ⟨Y,hY⟩:∃ Y,Y=txt p:=⟨_,rfl⟩;rw [←hY] at A5;have HY:=hidI hY;clear A4 h4 t4 q3 q3' T3 e5 hY Q1 Q2 T1 T2;go_wp2_with fail;refine A5.out.mono ?_;rintro e w5 ⟨rfl,h5,t5⟩;have p5:=(t5.block w2.heap.size (by omega) (by omega)).trans P4.out;have q5:=(t5.block w.heap.size (by omega) (by omega)).trans Q4.out;have T5:=hidI (T4.out.trans t5);have z5:=t5.size;obtain ⟨W6,hW6⟩:∃ W6,W6=w5.setCell ⟨w2.heap.size,0,none⟩ (.string Y):=⟨_,rfl⟩
 have p6:W6.heap[w2.heap.size]? = some (.cells #[.string Y,.bool dr,.string ⟨#[]⟩,.int .i64 md,.int .i64 t] 39 (0,0)):=by rw [hW6];exact heap_setCell_same w5 w2.heap.size 0 _ 39 _ p5
 have q6:W6.heap[w.heap.size]? = some (.cells #[.string ⟨#[]⟩,.bool false,.string ⟨#[]⟩,.int .i64 0,.int .i64 0] 39 (0,0)):=by rw [hW6];exact (Below.heap_setCell w5 ⟨w2.heap.size,0,none⟩ _ _ (by simp;omega)).trans q5
 have h6:RdAt W6 rb r4:=by rw [hW6];exact (Below.heap_setCell w5 ⟨w2.heap.size,0,none⟩ _ _ (by simp;omega)).trans h5
 have T6:Turn rb w W6:=by
  rw [hW6];refine ⟨T5.out.os,T5.out.tape,T5.out.output,by have:=T5.out.size;simp;omega,fun j hj hne => ?_⟩;exact (Below.heap_setCell w5 ⟨w2.heap.size,0,none⟩ _ _ (by simp;omega)).trans (T5.out.block j hj hne)
 have s6:W6.heap.size=w5.heap.size:=by rw [hW6];simp
 have c50:w5.cell? ⟨w2.heap.size,0,none⟩=some (.string ⟨#[]⟩):=by rw [cell_of_row w5 w2.heap.size 0 _ 39 (0,0) p5];rfl
 have f50:w5.frozen? ⟨w2.heap.size,0,none⟩=false:=frozen_of_row w5 w2.heap.size 0 _ 39 p5;have c60:W6.cell? ⟨w2.heap.size,0,none⟩=some (.string Y):=by rw [cell_of_row W6 w2.heap.size 0 _ 39 (0,0) p6];rfl
 have c61:W6.cell? ⟨w2.heap.size,1,none⟩=some (.bool dr):=by rw [cell_of_row W6 w2.heap.size 1 _ 39 (0,0) p6];rfl
 have c62:W6.cell? ⟨w2.heap.size,2,none⟩=some (.string ⟨#[]⟩):=by rw [cell_of_row W6 w2.heap.size 2 _ 39 (0,0) p6];rfl
 have c63:W6.cell? ⟨w2.heap.size,3,none⟩=some (.int .i64 md):=by rw [cell_of_row W6 w2.heap.size 3 _ 39 (0,0) p6];rfl
 have c64:W6.cell? ⟨w2.heap.size,4,none⟩=some (.int .i64 t):=by rw [cell_of_row W6 w2.heap.size 4 _ 39 (0,0) p6];rfl
 have d0:W6.cell? ⟨w.heap.size,0,none⟩=some (.string ⟨#[]⟩):=by rw [cell_of_row W6 w.heap.size 0 _ 39 (0,0) q6];rfl
 have d1:W6.cell? ⟨w.heap.size,1,none⟩=some (.bool false):=by rw [cell_of_row W6 w.heap.size 1 _ 39 (0,0) q6];rfl
 have d2:W6.cell? ⟨w.heap.size,2,none⟩=some (.string ⟨#[]⟩):=by rw [cell_of_row W6 w.heap.size 2 _ 39 (0,0) q6];rfl
 have d3:W6.cell? ⟨w.heap.size,3,none⟩=some (.int .i64 0):=by rw [cell_of_row W6 w.heap.size 3 _ 39 (0,0) q6];rfl
 have d4:W6.cell? ⟨w.heap.size,4,none⟩=some (.int .i64 0):=by rw [cell_of_row W6 w.heap.size 4 _ 39 (0,0) q6];rfl
 have g0:W6.frozen? ⟨w.heap.size,0,none⟩=false:=frozen_of_row W6 w.heap.size 0 _ 39 q6;have g1:W6.frozen? ⟨w.heap.size,1,none⟩=false:=frozen_of_row W6 w.heap.size 1 _ 39 q6;have g2:W6.frozen? ⟨w.heap.size,2,none⟩=false:=frozen_of_row W6 w.heap.size 2 _ 39 q6;have g3:W6.frozen? ⟨w.heap.size,3,none⟩=false:=frozen_of_row W6 w.heap.size 3 _ 39 q6;have g4:W6.frozen? ⟨w.heap.size,4,none⟩=false:=frozen_of_row W6 w.heap.size 4 _ 39 q6;have P6:=hidI p6;have Q6:=hidI q6;have H6:=hidI h6;have HT6:=hidI T6;have HW6:=hidI hW6;clear A5 h5 t5 p5 q5 p6 q6 h6 T6 P4 Q4 T4 T5 hW6;cases dr with
 | true =>
   have hge:32768≤k:=by have:=Hdr.out;simpa using this.symm
   go_wp2_with (rw [←HW6.out]);have hrow:=qeY Q6.out (.string Y) (.bool true) (.string ⟨#[]⟩) (.int .i64 md) (.int .i64 t);have hh:=(qcB W6 w.heap.size (.string Y) (.bool true) (.string ⟨#[]⟩) (.int .i64 md) (.int .i64 t) rb (by omega)).trans H6.out;have ht:=qdy HT6.out (Nat.le_refl _) (.string Y) (.bool true) (.string ⟨#[]⟩) (.int .i64 md) (.int .i64 t);have hY:=HY.out;refine bodyPost_ret (v:=.agg #[.string Y,.bool true,.string ⟨#[]⟩,.int .i64 md,.int .i64 t]) ?_ rfl ⟨by rw [hY];rfl,hh,ht⟩;simp [results,go_sem,d0,d1,d2,d3,d4]
 | false =>
   have hlt:k<32768:=by have:=Hdr.out;simp at this;omega
   obtain ⟨zr,hz⟩:∃ zr,zr=nmb 2 r4:=⟨_,rfl⟩;obtain ⟨z,r5⟩:=zr;have hz1:z<65536:=by have:=qeu 2 r4;rw [←hz] at this;exact this
   have l5:r5.1.length≤1000000:=by have:=(qbj 2 r4).2;have e:(nmb 2 r4).2=(Go.Nt.tk 2 r4).2:=rfl;rw [←hz] at e;rw [←e] at this;exact Nat.le_trans this l4
   have A7:=hidI (qbc rb r4 2 W6 H6.out (by decide) l4);rw [←hz] at A7;simp only at A7;obtain ⟨br,hbr⟩:∃ br,br=Go.Nt.tk z r5:=⟨_,rfl⟩;obtain ⟨bb,r6⟩:=br;have lb:bb.length≤1000000:=by have:=(qbj z r5).1;rw [←hbr] at this;exact Nat.le_trans this (by omega)
   have HE:Hid (Go.Nt.tk (nmb 2 r4).1 (nmb 2 r4).2=(bb,r6)):=hidI (by rw [←hz];exact hbr.symm);have Hbr:=hidI hbr;clear hz hbr;go_wp2_with (rw [←HW6.out]);refine A7.out.mono ?_;rintro e w7 ⟨rfl,h7,t7⟩;have A8:=hidI (qeE rb r5 z w7 h7 (by omega) l5);have e8:=Hbr.out;rw [←e8] at A8;simp only at A8;have P7:=hidI ((t7.block w2.heap.size (by omega) (by omega)).trans P6.out);have Q7:=hidI ((t7.block w.heap.size (by omega) (by omega)).trans Q6.out);have T7:=hidI (HT6.out.trans t7);have z7:=t7.size;clear A7 h7 t7 e8 c60 c61 c62 c63 c64 d0 d1 d2 d3 d4 g0 g1 g2 g3 g4 c50 f50;go_wp2_with fail;refine A8.out.mono ?_;rintro e w8 ⟨rfl,h8,t8⟩;have P8:=hidI ((t8.block w2.heap.size (by omega) (by omega)).trans P7.out);have Q8:=hidI ((t8.block w.heap.size (by omega) (by omega)).trans Q7.out);have T8:=hidI (T7.out.trans t8);have z8:=t8.size;have H8:=hidI h8;clear A8 h8 t8 P7 Q7 T7
   obtain ⟨V,hV⟩:∃ V,V=(u bb).getD []:=⟨_,rfl⟩;have A9:Hid (Calls Tryz.prog 145 #[.string (txt bb)] w8 fun e w'=>e=.returned (.tuple #[.string (txt V),.int .i64 (if (u bb).isSome then 0 else 2)])∧Below w8.heap.size w8 w'):=by
    refine hidI ?_;cases hu:u bb with
    | none=>rw [show V=[] by rw [hV,hu];rfl];exact hP.none w8 bb lb hu
    | some d=>rw [show V=d by rw [hV,hu];rfl];exact hP.some w8 bb d lb hu
   obtain ⟨so,hso⟩:∃ so,so=(u bb).isSome:=⟨_,rfl⟩;rw [←hso] at A9;have HV:=hidI hV;have HSO:=hidI hso;obtain ⟨Z,hZ⟩:∃ Z,Z=txt V:=⟨_,rfl⟩;rw [←hZ] at A9;have HZ:=hidI hZ;clear hV hso hZ;go_wp2_with fail;refine A9.out.mono ?_;rintro e w9 ⟨rfl,hb9⟩;have p9:=(hb9.block w2.heap.size (by omega)).trans P8.out;have q9:=(hb9.block w.heap.size (by omega)).trans Q8.out;have r9:RdAt w9 rb r6:=H8.out.below hb9;have T9:=hidI (T8.out.trans (.of_below hb9));have z9:=hb9.size;clear A9 hb9 P8 Q8 T8;cases so with
   | true =>
     obtain ⟨Wa,hWa⟩:∃ Wa,Wa=(w9).setCell ⟨w2.heap.size,2,none⟩ (.string Z):=⟨_,rfl⟩;have pa:Wa.heap[w2.heap.size]? = some (.cells #[.string Y,.bool false,.string Z,.int .i64 md,.int .i64 t] 39 (0,0)):=by rw [hWa];exact heap_setCell_same _ w2.heap.size 2 _ 39 _ p9
     have qa:Wa.heap[w.heap.size]? = some (.cells #[.string ⟨#[]⟩,.bool false,.string ⟨#[]⟩,.int .i64 0,.int .i64 0] 39 (0,0)):=by rw [hWa];exact (Below.heap_setCell _ ⟨w2.heap.size,2,none⟩ _ _ (by simp;omega)).trans q9
     have ra:RdAt Wa rb r6:=by rw [hWa];exact (Below.heap_setCell _ ⟨w2.heap.size,2,none⟩ _ _ (by simp;omega)).trans r9
     have Ta:Turn rb w Wa:=by rw [hWa];exact T9.out.setNew (by omega) _ _
     have c92:(w9).cell? ⟨w2.heap.size,2,none⟩=some (.string ⟨#[]⟩):=by rw [cell_of_row _ w2.heap.size 2 _ 39 (0,0) p9];rfl
     have f92:(w9).frozen? ⟨w2.heap.size,2,none⟩=false:=frozen_of_row _ w2.heap.size 2 _ 39 p9;have c60:Wa.cell? ⟨w2.heap.size,0,none⟩=some (.string Y):=by rw [cell_of_row Wa w2.heap.size 0 _ 39 (0,0) pa];rfl
     have c61:Wa.cell? ⟨w2.heap.size,1,none⟩=some (.bool false):=by rw [cell_of_row Wa w2.heap.size 1 _ 39 (0,0) pa];rfl
     have c62:Wa.cell? ⟨w2.heap.size,2,none⟩=some (.string Z):=by rw [cell_of_row Wa w2.heap.size 2 _ 39 (0,0) pa];rfl
     have c63:Wa.cell? ⟨w2.heap.size,3,none⟩=some (.int .i64 md):=by rw [cell_of_row Wa w2.heap.size 3 _ 39 (0,0) pa];rfl
     have c64:Wa.cell? ⟨w2.heap.size,4,none⟩=some (.int .i64 t):=by rw [cell_of_row Wa w2.heap.size 4 _ 39 (0,0) pa];rfl
     have d0:Wa.cell? ⟨w.heap.size,0,none⟩=some (.string ⟨#[]⟩):=by rw [cell_of_row Wa w.heap.size 0 _ 39 (0,0) qa];rfl
     have d1:Wa.cell? ⟨w.heap.size,1,none⟩=some (.bool false):=by rw [cell_of_row Wa w.heap.size 1 _ 39 (0,0) qa];rfl
     have d2:Wa.cell? ⟨w.heap.size,2,none⟩=some (.string ⟨#[]⟩):=by rw [cell_of_row Wa w.heap.size 2 _ 39 (0,0) qa];rfl
     have d3:Wa.cell? ⟨w.heap.size,3,none⟩=some (.int .i64 0):=by rw [cell_of_row Wa w.heap.size 3 _ 39 (0,0) qa];rfl
     have d4:Wa.cell? ⟨w.heap.size,4,none⟩=some (.int .i64 0):=by rw [cell_of_row Wa w.heap.size 4 _ 39 (0,0) qa];rfl
     have g0:Wa.frozen? ⟨w.heap.size,0,none⟩=false:=frozen_of_row Wa w.heap.size 0 _ 39 qa;have g1:Wa.frozen? ⟨w.heap.size,1,none⟩=false:=frozen_of_row Wa w.heap.size 1 _ 39 qa;have g2:Wa.frozen? ⟨w.heap.size,2,none⟩=false:=frozen_of_row Wa w.heap.size 2 _ 39 qa;have g3:Wa.frozen? ⟨w.heap.size,3,none⟩=false:=frozen_of_row Wa w.heap.size 3 _ 39 qa;have g4:Wa.frozen? ⟨w.heap.size,4,none⟩=false:=frozen_of_row Wa w.heap.size 4 _ 39 qa;have Qa:=hidI qa;have Ra:=hidI ra;have HTa:=hidI Ta;have HWa:=hidI hWa;clear pa qa ra Ta hWa p9 q9 r9 T9;go_wp2_with (rw [←HWa.out]);have hrow:=qeY Qa.out (.string Y) (.bool false) (.string Z) (.int .i64 md) (.int .i64 t);have hh:=(qcB Wa w.heap.size (.string Y) (.bool false) (.string Z) (.int .i64 md) (.int .i64 t) rb (by omega)).trans Ra.out
     have ht:=qdy HTa.out (Nat.le_refl _) (.string Y) (.bool false) (.string Z) (.int .i64 md) (.int .i64 t);have hY:=HY.out;have hZ:=HZ.out;have hE:=HE.out;have hV:=HV.out;have hS:=HSO.out;refine bodyPost_ret (v:=.agg #[.string Y,.bool false,.string Z,.int .i64 md,.int .i64 t]) ?_ rfl ?_
     ·simp [results,go_sem,d0,d1,d2,d3,d4]
     rw [hE];simp only;rw [←hV,←hS];refine ⟨by rw [hY,hZ];rfl,?_,ht⟩;simp only [Bool.and_true];exact hh
   | false =>
     have k0:=r9.c0;have k1:=r9.c1;have m1:=r9.fz 1;obtain ⟨wf,hwf⟩:∃ wf,wf=w9.setCell ⟨rb,1,none⟩ (.bool false):=⟨_,rfl⟩;replace p9:wf.heap[w2.heap.size]? = some (.cells #[.string Y,.bool false,.string ⟨#[]⟩,.int .i64 md,.int .i64 t] 39 (0,0)):=by rw [hwf];exact (Below.heap_setCell w9 ⟨rb,1,none⟩ _ _ (by simp;omega)).trans p9
     replace q9:wf.heap[w.heap.size]? = some (.cells #[.string ⟨#[]⟩,.bool false,.string ⟨#[]⟩,.int .i64 0,.int .i64 0] 39 (0,0)):=by rw [hwf];exact (Below.heap_setCell w9 ⟨rb,1,none⟩ _ _ (by simp;omega)).trans q9
     replace r9:RdAt wf rb (r6.1,false):=by rw [hwf];exact heap_setCell_same w9 rb 1 _ 151 (.bool false) r9
     replace T9:Hid (Turn rb w wf):=hidI (by rw [hwf];exact T9.out.set _ _);have HWf:=hidI hwf;obtain ⟨Wa,hWa⟩:∃ Wa,Wa=(wf).setCell ⟨w2.heap.size,2,none⟩ (.string Z):=⟨_,rfl⟩;have pa:Wa.heap[w2.heap.size]? = some (.cells #[.string Y,.bool false,.string Z,.int .i64 md,.int .i64 t] 39 (0,0)):=by rw [hWa];exact heap_setCell_same _ w2.heap.size 2 _ 39 _ p9
     have qa:Wa.heap[w.heap.size]? = some (.cells #[.string ⟨#[]⟩,.bool false,.string ⟨#[]⟩,.int .i64 0,.int .i64 0] 39 (0,0)):=by rw [hWa];exact (Below.heap_setCell _ ⟨w2.heap.size,2,none⟩ _ _ (by simp;omega)).trans q9
     have ra:RdAt Wa rb (r6.1,false):=by rw [hWa];exact (Below.heap_setCell _ ⟨w2.heap.size,2,none⟩ _ _ (by simp;omega)).trans r9
     have Ta:Turn rb w Wa:=by rw [hWa];exact T9.out.setNew (by omega) _ _
     have c92:wf.cell? ⟨w2.heap.size,2,none⟩=some (.string ⟨#[]⟩):=by rw [cell_of_row _ w2.heap.size 2 _ 39 (0,0) p9];rfl
     have f92:wf.frozen? ⟨w2.heap.size,2,none⟩=false:=frozen_of_row _ w2.heap.size 2 _ 39 p9;have c60:Wa.cell? ⟨w2.heap.size,0,none⟩=some (.string Y):=by rw [cell_of_row Wa w2.heap.size 0 _ 39 (0,0) pa];rfl
     have c61:Wa.cell? ⟨w2.heap.size,1,none⟩=some (.bool false):=by rw [cell_of_row Wa w2.heap.size 1 _ 39 (0,0) pa];rfl
     have c62:Wa.cell? ⟨w2.heap.size,2,none⟩=some (.string Z):=by rw [cell_of_row Wa w2.heap.size 2 _ 39 (0,0) pa];rfl
     have c63:Wa.cell? ⟨w2.heap.size,3,none⟩=some (.int .i64 md):=by rw [cell_of_row Wa w2.heap.size 3 _ 39 (0,0) pa];rfl
     have c64:Wa.cell? ⟨w2.heap.size,4,none⟩=some (.int .i64 t):=by rw [cell_of_row Wa w2.heap.size 4 _ 39 (0,0) pa];rfl
     have d0:Wa.cell? ⟨w.heap.size,0,none⟩=some (.string ⟨#[]⟩):=by rw [cell_of_row Wa w.heap.size 0 _ 39 (0,0) qa];rfl
     have d1:Wa.cell? ⟨w.heap.size,1,none⟩=some (.bool false):=by rw [cell_of_row Wa w.heap.size 1 _ 39 (0,0) qa];rfl
     have d2:Wa.cell? ⟨w.heap.size,2,none⟩=some (.string ⟨#[]⟩):=by rw [cell_of_row Wa w.heap.size 2 _ 39 (0,0) qa];rfl
     have d3:Wa.cell? ⟨w.heap.size,3,none⟩=some (.int .i64 0):=by rw [cell_of_row Wa w.heap.size 3 _ 39 (0,0) qa];rfl
     have d4:Wa.cell? ⟨w.heap.size,4,none⟩=some (.int .i64 0):=by rw [cell_of_row Wa w.heap.size 4 _ 39 (0,0) qa];rfl
     have g0:Wa.frozen? ⟨w.heap.size,0,none⟩=false:=frozen_of_row Wa w.heap.size 0 _ 39 qa;have g1:Wa.frozen? ⟨w.heap.size,1,none⟩=false:=frozen_of_row Wa w.heap.size 1 _ 39 qa;have g2:Wa.frozen? ⟨w.heap.size,2,none⟩=false:=frozen_of_row Wa w.heap.size 2 _ 39 qa;have g3:Wa.frozen? ⟨w.heap.size,3,none⟩=false:=frozen_of_row Wa w.heap.size 3 _ 39 qa;have g4:Wa.frozen? ⟨w.heap.size,4,none⟩=false:=frozen_of_row Wa w.heap.size 4 _ 39 qa;have Qa:=hidI qa;have Ra:=hidI ra;have HTa:=hidI Ta;have HWa:=hidI hWa;clear pa qa ra Ta hWa p9 q9 r9 T9 hwf;go_wp2_with (first | rw [←HWf.out] | rw [←HWa.out]);have hrow:=qeY Qa.out (.string Y) (.bool false) (.string Z) (.int .i64 md) (.int .i64 t);have hh:=(qcB Wa w.heap.size (.string Y) (.bool false) (.string Z) (.int .i64 md) (.int .i64 t) rb (by omega)).trans Ra.out
     have ht:=qdy HTa.out (Nat.le_refl _) (.string Y) (.bool false) (.string Z) (.int .i64 md) (.int .i64 t);have hY:=HY.out;have hZ:=HZ.out;have hE:=HE.out;have hV:=HV.out;have hS:=HSO.out;refine bodyPost_ret (v:=.agg #[.string Y,.bool false,.string Z,.int .i64 md,.int .i64 t]) ?_ rfl ?_
     ·simp [results,go_sem,d0,d1,d2,d3,d4]
     rw [hE];simp only;rw [←hV,←hS];refine ⟨by rw [hY,hZ];rfl,?_,ht⟩;simp only [Bool.and_false];exact hh
end
section
open Go.RowKit Go.Nt
variable {b:Nat} {w V V':World} {l:List It} {x:It}
theorem Turn.of_map (h:Turn b w V) (hm:V.mapTurned V' b):Turn b w V':=by
 have hg:=hm.grown;exact h.trans ⟨hg.os,hg.tape,hg.output,hg.size,fun k hk hn=>hg.block k hk (fun e=>hn (by cases e;rfl))⟩
theorem qfA (l:List It) (x:It) (p:Bs):at? (setIt (setIt l x) x) p=at? (setIt l x) p:=by
 by_cases e:p=x.path
 ·subst e;rw [qbp,qbp]
 rw [qbw e]
def SetAt (w V:World) (b:Nat) (l:List It) (x:It):Prop:=Turn b w V∧(TreeAt V b l∨TreeAt V b (setIt l x))
theorem qlS (h:Hid (SetAt w V b l x)) (hb:Below V.heap.size V V'):Hid (SetAt w V' b l x):=by
 obtain ⟨h1,h2⟩:=h;refine ⟨h1.trans (.of_below hb),?_⟩;rcases h2 with h | h
 ·exact .inl (h.below hb h.lt)
 exact .inr (h.below hb h.lt)
theorem qnU (h:Hid (SetAt w V b l x)) (hn:(l.map (·.path)).Nodup) (hl:l.length≤1000) (hp:x.path.length≤maxLen) :
 ∃ V',(Instr.mapUpdate 77 (.map (some b)) (.string (txt x.path)) (ndv (nd x))).run Tryz.prog V=.ok () V'∧Hid (SetAt w V' b l x)∧Hid (TreeAt V' b (setIt l x)):=by
 obtain ⟨h1,h2⟩:=h;have hlen:(setIt l x).length≤1001:=by rw [qk5 hn];split<;>omega
 rcases h2 with h | h
 ·obtain ⟨V',r1,r2,r3⟩:=h.store hn (by unfold maxLen;omega) x hp;exact ⟨V',r1,hidI ⟨h1.of_map r3,.inr r2⟩,hidI r2⟩
 obtain ⟨V',r1,⟨D,o1,o2⟩,r3⟩:=h.store (qgn hn x) (by unfold maxLen;omega) x hp;have r2:TreeAt V' b (setIt l x):=⟨D,o1,o2.same (qfA l x)⟩;exact ⟨V',r1,hidI ⟨h1.of_map r3,.inr r2⟩,hidI r2⟩
theorem qhy {g:Nat} {a0 a1 a2 a3:Value} (h:Hid (SetAt w V b l x)) (hf:Hid (w.heap[g]? = some (.cells #[a0,a1,a2,a3] 117 (0,0)))) (hne:g≠b):Four V g a0 a1 a2 a3:=
 four ((h.out.1.block g (lt_of_heap hf.out) hne).trans hf.out)
theorem qnI (b:Nat) (l:List It) (p:Bs) (n:Nd) (w:World) (hT:TreeAt w b l) (hn:(l.map (·.path)).Nodup) (hl:l.length≤1000) (hp:p.length≤1048576) :
 Calls Tryz.prog 151 #[.map (some b),.string (txt p),ndv n] w fun e w'=>e=.returned (.tuple #[])∧TreeAt w' b (setIt l (itOf p n))∧Turn b w w':=by
 have hlt:=hT.lt;unfold ndv;obtain ⟨Y,hY⟩:∃ Y,Y=txt n.data:=⟨_,rfl⟩;obtain ⟨W,hW⟩:∃ W,W=w.alloc (.cells #[.bool n.dir,.string Y,.int .i64 n.mode,.int .i64 n.time] 117):=⟨_,rfl⟩;have hq:W.heap[w.heap.size]? = some (.cells #[.bool n.dir,.string Y,.int .i64 n.mode,.int .i64 n.time] 117 (0,0)):=by rw [hW];exact heap_alloc_new _ _
 have hTW:TreeAt W b l:=by rw [hW];exact hT.of_block (Below.heap_alloc _ _ _ hlt)
 have hTu:Turn b w W:=by rw [hW];exact (Turn.refl b w).alloc _
 have HF:=hidI hq;obtain ⟨x,hx⟩:∃ x,x=itOf p n:=⟨_,rfl⟩;rw [←hx];have hxp:x.path=p:=by rw [hx];rfl
 have hxn:ndv (nd x)=.agg #[.bool n.dir,.string Y,.int .i64 n.mode,.int .i64 n.time]:=by rw [hx,qnZ,hY];rfl
 have HU:Hid (∀ V,Hid (SetAt W V b l x)→∃ V',(Instr.mapUpdate 77 (.map (some b)) (.string (txt p)) (.agg #[.bool n.dir,.string Y,.int .i64 n.mode,.int .i64 n.time])).run Tryz.prog V=.ok () V'∧Hid (SetAt W V' b l x)∧Hid (TreeAt V' b (setIt l x))):=
  fun V hV=>by have:=qnU hV hn hl (by rw [hxp];unfold maxLen;omega);rw [hxp,hxn] at this;exact this
 obtain ⟨X,hX⟩:∃ X,X=txt p:=⟨_,rfl⟩;have HC:=hidI (fun V=>clone_any X V (by rw [hX,qaa];exact hp));rw [←hX] at HU ⊢;have hR0:Hid (SetAt W W.drew b l x):=⟨⟨rfl,rfl,rfl,Nat.le_refl _,fun _ _ _=>rfl⟩,.inl (hTW.of_block rfl)⟩;obtain ⟨f0,f1,f2,f3,_,_,_,_⟩:=four hq;have HW:=hidI hW;have HTu:=hidI hTu;have hne:w.heap.size≠b:=by omega
 rw [←hY];clear hT hn hY hq hTW hTu hx hxp hxn hX hW;go_enter Tryz.func151,Tryz.ntmps151
 go_wp2_with (first | (rw [←HW.out]) | fail);go_region_held3 (fun V=>Hid (SetAt W V b l x)∧V.cell? ⟨w.heap.size,0,none⟩=some (.bool n.dir)∧V.cell? ⟨w.heap.size,1,none⟩=some (.string Y)∧V.cell? ⟨w.heap.size,2,none⟩=some (.int .i64 n.mode)∧V.cell? ⟨w.heap.size,3,none⟩=some (.int .i64 n.time)) (go_keep) (first
  | (go_at_call_of 72 X;refine (HC.out _).mono ?_;rintro e V ⟨rfl,hbV⟩;have HS:=qlS (w:=W) (b:=b) (l:=l) (x:=x) (by go_split_ands;assumption) hbV;obtain ⟨c0,c1,c2,c3,_,_,_,_⟩:=qhy HS HF hne;obtain ⟨V',hupd,HS',HT'⟩:=HU.out V HS;obtain ⟨d0,d1,d2,d3,_,_,_,_⟩:=qhy HS' HF hne))
 all_goals
  have Hend:Hid (Turn b w V'):=hidI (HTu.out.trans HS'.out.1);go_wp2;go_end0
  exact ⟨rfl,HT'.out,Hend.out⟩
theorem qmf (b:Nat) (l:List It) (w:World) (hT:TreeAt w b l) (hn:(l.map (·.path)).Nodup) :
 Calls Tryz.prog 150 #[.map (some b)] w fun e w'=>e=.returned (.bool (decide (60≤l.length)))∧w'=w:=by
 have hlen:=hT.len hn 3;go_enter Tryz.func150,Tryz.ntmps150
 go_wp2;go_ret
 exact ⟨by go_num,rfl⟩
def Done (b:Nat) (l l':List It) (E:Int) (w:World) (e:Ending) (w':World):Prop:=
 e=.returned (.int .i64 E)∧Turn b w w'∧TreeAt w' b (if E=0 then l' else l)
theorem Done.no {b:Nat} {l l':List It} {E:Int} {w w':World} (hE:E≠0) (hT:TreeAt w b l) (hb:Below w.heap.size w w'):Done b l l' E w (.returned (.int .i64 E)) w':=
 ⟨rfl,.of_below hb,by rw [if_neg hE];exact hT.below hb hT.lt⟩
theorem qe8 (b:Nat) (l:List It) (p d:Bs) (w:World) (hT:TreeAt w b l) (ht:TreeP l) (hml:ML w) (hp:p.length≤1048576) (hd:d.length≤1048576) :
 Calls Tryz.prog 93 #[.map (some b),.string (txt p),.string (txt d)] w fun e w'=>Done b l (setIt l (putI l p d)) (putE l p d) w e w':=by
 have HR:=hidI (qfD b l p w hT hml hp);have hlt:=hT.lt;have HT:=hidI hT;have hnd:=ht.nodup;have h60:=ht.len;have HS:=hidI (fun W (h:TreeAt W b l) (n:Nd)=>qnI b l p n W h hnd (by omega) hp);have HF:=hidI (fun W (h:TreeAt W b l)=>qmf b l W h hnd);have HC:=hidI (fun W=>clone_any (txt d) W (by rw [qaa];exact hd));obtain ⟨X,hX⟩:∃ X,X=txt p:=⟨_,rfl⟩;obtain ⟨Z,hZ⟩:∃ Z,Z=txt d:=⟨_,rfl⟩;have Sz:Z.size=d.length:=by rw [hZ,qaa]
 rw [←hX] at HR HS;rw [←hZ] at HC;have HZ:=hidI hZ;have HSz:=hidI Sz;clear hT hml;by_cases hr:reachE l p=0
 ·rw [hr] at HR;cases ha:at? l p with
  | some x =>
    have hlook:=fun W (h:TreeAt W b l)=>(h.look_some (p:=p) (by unfold maxLen;omega) ha).1
    rw [←hX] at hlook;have HL:=hidI hlook;have hpe:putE l p d=if x.dir then 6 else if 4000<d.length then 8 else 0:=by unfold putE;rw [if_pos hr,ha]
    have hpi:putI l p d=itOf p ⟨false,d,x.mode,x.time⟩:=by unfold putI;rw [ha];rfl
    rw [hpe,hpi];rw [←hX,←hZ];obtain ⟨Y,hY⟩:∃ Y,Y=txt x.data:=⟨_,rfl⟩;clear hlook hpe hpi hX hZ hr ha;cases hd':x.dir with
    | true =>
      rw [if_pos rfl];go_enter Tryz.func93,Tryz.ntmps93
      go_wp2_with fail;refine HR.out.mono ?_;rintro e w1 ⟨hb1,rfl⟩;have hl1:=HL.out w1 (HT.out.below hb1 hlt);unfold ndv nd at hl1;simp only at hl1;rw [hd'] at hl1;have HB1:=hidI hb1;have hs1:=hb1.size;clear hb1 HR HL HS HF HC hd';go_wp2;go_ret
      exact Done.no (by decide) HT.out (HB1.out.alloc hs1 _)
    | false =>
      simp only [Bool.false_eq_true,if_false];by_cases h4:4000<Z.size
      ·have h4':(if 4000<d.length then (8:Int) else 0)=8:=if_pos (by omega);rw [h4'];clear Sz h4';go_enter Tryz.func93,Tryz.ntmps93
       go_wp2_with fail;refine HR.out.mono ?_;rintro e w1 ⟨hb1,rfl⟩;have hl1:=HL.out w1 (HT.out.below hb1 hlt);unfold ndv nd at hl1;simp only at hl1;rw [hd'] at hl1;have HB1:=hidI hb1;have hs1:=hb1.size;clear hb1 HR HL HS HF HC hd';go_wp2;go_ret
       exact Done.no (by decide) HT.out (HB1.out.alloc hs1 _)
      have h4':(if 4000<d.length then (8:Int) else 0)=0:=if_neg (by omega);rw [h4'];clear Sz h4';go_enter Tryz.func93,Tryz.ntmps93
      go_wp2_with fail;refine HR.out.mono ?_;rintro e w1 ⟨hb1,rfl⟩;have hl1:=HL.out w1 (HT.out.below hb1 hlt);unfold ndv nd at hl1;simp only at hl1;rw [hd'] at hl1;rw [←hY] at hl1;have HB1:=hidI hb1;have hs1:=hb1.size;have HT1:=hidI (HT.out.below hb1 hlt);clear hb1 HR HL HF hd' hY;obtain ⟨W2,hW2⟩:∃ W2,W2=w1.alloc (.cells #[.bool false,.string Y,.int .i64 x.mode,.int .i64 x.time] 117):=⟨_,rfl⟩;have q2:W2.heap[w1.heap.size]? = some (.cells #[.bool false,.string Y,.int .i64 x.mode,.int .i64 x.time] 117 (0,0)):=by rw [hW2];exact heap_alloc_new _ _
      have hT2:TreeAt W2 b l:=by rw [hW2];exact HT1.out.of_block (Below.heap_alloc _ _ _ HT1.out.lt)
      have hB2:Below w.heap.size w W2:=by rw [hW2];exact HB1.out.alloc (by omega) _
      have hs2:W2.heap.size=w1.heap.size+1:=by rw [hW2];simp
      obtain ⟨c0,c1,c2,c3,f0,f1,f2,f3⟩:=four q2;have HW2:=hidI hW2;have Q2:=hidI q2;have HT2:=hidI hT2;have HB2:=hidI hB2;clear hW2 q2 hT2 hB2;go_wp2_with (first | (rw [←HW2.out]) | fail);refine (HC.out W2).mono ?_;rintro e w3 ⟨rfl,hb3⟩;have q3:=(hb3.block w1.heap.size (by omega)).trans Q2.out;obtain ⟨d0,d1,d2,d3,g0,g1,g2,g3⟩:=four q3;have hs3:=hb3.size;obtain ⟨W4,hW4⟩:∃ W4,W4=w3.setCell ⟨w1.heap.size,1,none⟩ (.string Z):=⟨_,rfl⟩;have q4:W4.heap[w1.heap.size]? = some (.cells #[.bool false,.string Z,.int .i64 x.mode,.int .i64 x.time] 117 (0,0)):=by rw [hW4];exact heap_setCell_same w3 w1.heap.size 1 _ 117 _ q3
      obtain ⟨e0,e1,e2,e3,_,_,_,_⟩:=four q4;have hT4:TreeAt W4 b l:=by rw [hW4];exact (HT2.out.below hb3 HT2.out.lt).of_block (Below.heap_setCell w3 ⟨w1.heap.size,1,none⟩ _ _ (by simp;omega))
      have hB4:Below w.heap.size w W4:=by rw [hW4];exact (HB2.out.trans (hb3.mono HB2.out.size)).setCell (p:=⟨w1.heap.size,1,none⟩) (by simp;omega) _
      have HS4:=hidI (HS.out W4 hT4 ⟨false,d,x.mode,x.time⟩);unfold ndv at HS4;simp only at HS4;have hZ:=HZ.out;rw [←hZ] at HS4;have HB4:=hidI hB4;have HW4:=hidI hW4;clear hb3 q3 q4 hT4 hB4 hW4 hZ HC HS c0 c1 c2 c3 f0 f1 f2 f3;go_wp2_with (first | (rw [←HW4.out]) | fail);refine HS4.out.mono ?_;rintro e w5 ⟨rfl,hT5,ht5⟩;have HT5:=hidI hT5;have H5:=hidI ((Turn.of_below HB4.out).trans ht5);clear hT5 ht5 HS4;go_wp2;go_ret
      exact ⟨rfl,H5.out,HT5.out⟩
  | none =>
    have hlook:=fun W (h:TreeAt W b l)=>(h.look_none (p:=p) (by unfold maxLen;omega) ha).1
    rw [←hX] at hlook;have HL:=hidI hlook;have hpe:putE l p d=if 4000<d.length∨60≤l.length then 8 else 0:=by unfold putE;rw [if_pos hr,ha]
    have hpi:putI l p d=itOf p ⟨false,d,0,0⟩:=by unfold putI;rw [ha];rfl
    rw [hpe,hpi];rw [←hX,←hZ];clear hlook hpe hpi hX hZ hr ha;by_cases h4:4000<Z.size
    ·have h4':(if 4000<d.length∨60≤l.length then (8:Int) else 0)=8:=if_pos (.inl (by omega));rw [h4'];clear Sz h4';go_enter Tryz.func93,Tryz.ntmps93
     go_wp2_with fail;refine HR.out.mono ?_;rintro e w1 ⟨hb1,rfl⟩;have hl1:=HL.out w1 (HT.out.below hb1 hlt);unfold ndv at hl1;have HB1:=hidI hb1;have hs1:=hb1.size;clear hb1 HR HL HS HF HC;go_wp2;go_ret
     exact Done.no (by decide) HT.out (HB1.out.alloc hs1 _)
    obtain ⟨fl,hfl⟩:∃ fl,fl=decide (60≤l.length):=⟨_,rfl⟩;rw [←hfl] at HF;cases fl with
    | true =>
      have h4':(if 4000<d.length∨60≤l.length then (8:Int) else 0)=8:=if_pos (.inr (by simpa using hfl.symm));rw [h4'];clear Sz h4' hfl;go_enter Tryz.func93,Tryz.ntmps93
      go_wp2_with fail;refine HR.out.mono ?_;rintro e w1 ⟨hb1,rfl⟩;have hl1:=HL.out w1 (HT.out.below hb1 hlt);unfold ndv at hl1;have HB1:=hidI hb1;have hs1:=hb1.size;have HT1:=hidI (HT.out.below hb1 hlt);have HF2:=hidI (HF.out (w1.alloc (.cells #[.bool false,.string (txt []),.int .i64 0,.int .i64 0] 117)) (HT1.out.of_block (Below.heap_alloc _ _ _ HT1.out.lt)));clear hb1 HR HL HS HC HF;go_wp2_with (go_at_call 150;refine HF2.out.mono ?_;rintro e w' ⟨rfl,hw⟩;have hw':=hw.symm;subst hw';clear hw);go_ret
      exact Done.no (by decide) HT.out (HB1.out.alloc hs1 _)
    | false =>
      have h4':(if 4000<d.length∨60≤l.length then (8:Int) else 0)=0:=if_neg (by have:=hfl.symm;simp at this;omega);rw [h4'];clear Sz h4' hfl;go_enter Tryz.func93,Tryz.ntmps93
      go_wp2_with fail;refine HR.out.mono ?_;rintro e w1 ⟨hb1,rfl⟩;have hl1:=HL.out w1 (HT.out.below hb1 hlt);unfold ndv at hl1;have HB1:=hidI hb1;have hs1:=hb1.size;have HT1:=hidI (HT.out.below hb1 hlt);clear hb1 HR HL;obtain ⟨W2,hW2⟩:∃ W2,W2=w1.alloc (.cells #[.bool false,.string (txt []),.int .i64 0,.int .i64 0] 117):=⟨_,rfl⟩;have q2:W2.heap[w1.heap.size]? = some (.cells #[.bool false,.string (txt []),.int .i64 0,.int .i64 0] 117 (0,0)):=by rw [hW2];exact heap_alloc_new _ _
      have hT2:TreeAt W2 b l:=by rw [hW2];exact HT1.out.of_block (Below.heap_alloc _ _ _ HT1.out.lt)
      have hB2:Below w.heap.size w W2:=by rw [hW2];exact HB1.out.alloc (by omega) _
      have hs2:W2.heap.size=w1.heap.size+1:=by rw [hW2];simp
      have HF2:=hidI (HF.out W2 hT2);obtain ⟨c0,c1,c2,c3,f0,f1,f2,f3⟩:=four q2;have HW2:=hidI hW2;have Q2:=hidI q2;have HT2:=hidI hT2;have HB2:=hidI hB2;clear hW2 q2 hT2 hB2;go_wp2_with (first | (rw [←HW2.out]) | fail);refine HF2.out.mono ?_;rintro e w' ⟨rfl,hw⟩;have hw':=hw.symm;subst hw';clear hw;go_wp2_with fail;refine (HC.out W2).mono ?_;rintro e w3 ⟨rfl,hb3⟩;have q3:=(hb3.block w1.heap.size (by omega)).trans Q2.out;obtain ⟨d0,d1,d2,d3,g0,g1,g2,g3⟩:=four q3;have hs3:=hb3.size;obtain ⟨W4,hW4⟩:∃ W4,W4=w3.setCell ⟨w1.heap.size,1,none⟩ (.string Z):=⟨_,rfl⟩;have q4:W4.heap[w1.heap.size]? = some (.cells #[.bool false,.string Z,.int .i64 0,.int .i64 0] 117 (0,0)):=by rw [hW4];exact heap_setCell_same w3 w1.heap.size 1 _ 117 _ q3
      obtain ⟨e0,e1,e2,e3,_,_,_,_⟩:=four q4;have hT4:TreeAt W4 b l:=by rw [hW4];exact (HT2.out.below hb3 HT2.out.lt).of_block (Below.heap_setCell w3 ⟨w1.heap.size,1,none⟩ _ _ (by simp;omega))
      have hB4:Below w.heap.size w W4:=by rw [hW4];exact (HB2.out.trans (hb3.mono HB2.out.size)).setCell (p:=⟨w1.heap.size,1,none⟩) (by simp;omega) _
      have HS4:=hidI (HS.out W4 hT4 ⟨false,d,0,0⟩);unfold ndv at HS4;simp only at HS4;have hZ:=HZ.out;rw [←hZ] at HS4;have HB4:=hidI hB4;have HW4:=hidI hW4;clear hb3 q3 q4 hT4 hB4 hW4 hZ HC HS c0 c1 c2 c3 f0 f1 f2 f3;go_wp2_with (first | (rw [←HW4.out]) | fail);refine HS4.out.mono ?_;rintro e w5 ⟨rfl,hT5,ht5⟩;have HT5:=hidI hT5;have H5:=hidI ((Turn.of_below HB4.out).trans ht5);clear hT5 ht5 HS4;go_wp2;go_ret
      exact ⟨rfl,H5.out,HT5.out⟩
 have hpe:putE l p d=reachE l p:=by unfold putE;rw [if_neg hr]
 rw [hpe];obtain ⟨E,hE⟩:∃ E,E=reachE l p:=⟨_,rfl⟩;rw [←hE] at HR hr ⊢;rw [←hX,←hZ];clear hpe hE hX hZ Sz;go_enter Tryz.func93,Tryz.ntmps93
 go_wp2_with fail;refine HR.out.mono ?_;rintro e w1 ⟨hb1,rfl⟩;have HB1:=hidI hb1;clear hb1 HR HS HF HC;go_wp2;go_ret
 exact Done.no hr HT.out HB1.out
end
end Go.Proofs.YtodmdkhdbfbfgaaGreatDoor
namespace Go.Proofs
open Go.Shelf
def Tryz.lays99_ren:Go.Shelf.Ren:=⟨fun | 99=>263 | 206=>296 | n=>n,fun | 9=>9 | 4=>4 | 3=>3 | n=>n,fun | n=>n⟩
theorem Tryz.lays99:Go.Proofs.Lays.n99 Tryz.prog Tryz.lays99_ren:={
 mixed:=by kernel_rfl
 f99:=Tryz.func263.trans (congrArg some (by kernel_rfl))
 f206:=Tryz.func296.trans (congrArg some (by kernel_rfl))
 t3:=Tryz.underlying3
 a3:=Tryz.isAgg3
 z3:=Tryz.sizeOf3
 v3:=Tryz.zeroValue3
 t4:=Tryz.underlying4
 a4:=Tryz.isAgg4
 z4:=Tryz.sizeOf4
 v4:=Tryz.zeroValue4
 t9:=Tryz.underlying9
 a9:=Tryz.isAgg9
 z9:=Tryz.sizeOf9
 v9:=Tryz.zeroValue9 }
open Go.RowKit Go.Lib in
theorem Tryz.strings_HasPrefix (s p:ByteArray) (w:World) :
 Calls Tryz.prog 263 #[.string s,.string p] w fun e w'=>e=.returned (.bool (Lib.hasPrefix s.data.toList p.data.toList))∧w'=w:=Any.strings_HasPrefix Tryz.lays99 s p w
def Tryz.mclone_ren:Go.Shelf.Ren:=⟨fun | 5=>146 | 7=>207 | n=>n,fun | 23=>77 | 25=>9 | 3=>117 | 4=>4 | 20=>20 | n=>n,fun | n=>n⟩
theorem Tryz.mclone:Go.Proofs.SlLaysW.n5 Tryz.prog Tryz.mclone_ren:={
 mixed:=by kernel_rfl
 f5:=⟨Tryz.f146.name,by decide,Tryz.func146.trans (congrArg some (by kernel_rfl))⟩
 f7:=Tryz.func207.trans (congrArg some (by kernel_rfl))
 t4:=Tryz.underlying4
 a4:=Tryz.isAgg4
 z4:=Tryz.sizeOf4
 v4:=Tryz.zeroValue4
 t20:=Tryz.underlying20
 a20:=Tryz.isAgg20
 z20:=Tryz.sizeOf20
 v20:=Tryz.zeroValue20
 t23:=Tryz.underlying77
 a23:=Tryz.isAgg77
 z23:=Tryz.sizeOf77
 v23:=Tryz.zeroValue77 }
end Go.Proofs
namespace Go.Proofs.YtodmdkhdbfbfgaaGreatDoor
open Go.RowKit Go.Nt
def inB (p d:Bs):Bool:=(d++[47]).isPrefixOf p
theorem qlW (p d:Bs) (w:World) (hp:p.length≤1048576) (hd:d.length≤1048576):Calls Tryz.prog 208 #[.string (txt p),.string (txt d)] w fun e w'=>e=.returned (.bool (inB p d))∧w'=w:=by
 have hcat:txt d++(⟨#[47]⟩:ByteArray)=txt (d++[47]):=by
  apply ByteArray.ext
  simp [txt]
 have HH:=hidI (Tryz.strings_HasPrefix (txt p) (txt (d++[47])) w);have e:Lib.hasPrefix (txt p).data.toList (txt (d++[47])).data.toList=inB p d:=rfl;rw [e] at HH;clear e;have hs:(txt d).size≤1048576:=by rw [qaa];exact hd
 go_enter Tryz.func208,Tryz.ntmps208
 go_wp2_with (go_at_call 263;refine HH.out.mono ?_;rintro e w' ⟨rfl,hw⟩;have hw':=hw.symm;subst hw';clear hw);go_ret
 exact ⟨rfl,rfl⟩
theorem qoj {α:Type} [DecidableEq α] {a b:List α} (ha:a.Nodup) (hb:b.Nodup) (h:∀ x,x∈a↔x∈b):a.Perm b:=
 (List.perm_ext_iff_of_nodup ha hb).2 h
structure Pick (l:List It) (f:Bs→Bool) (left:Lit→Bool) (acc:List Bs):Prop where
 nd:acc.Nodup
 mem:∀ q,q∈acc↔((at? l q).isSome=true∧f q=true∧left (.string q)=false)
theorem Pick.step {l:List It} {f:Bs→Bool} {left:Lit→Bool} {acc:List Bs} (h:Pick l f left acc) {p:Bs} (hp:(at? l p).isSome=true) (hl:left (.string p)=true):Pick l f (fun z=>left z && !z.sameKey (.string p)) (if f p then acc++[p] else acc):=by
 have hs:∀ q,q≠p→Lit.sameKey (.string q) (.string p)=false:=fun q e=>Maps.sameKey_ne (fun h=>e (by cases h;rfl))
 have hss:Lit.sameKey (.string p) (.string p)=true:=by
  cases h:Lit.sameKey (.string p) (.string p) with
  | true=>rfl
  | false=>simp [Lit.sameKey] at h
 have hnp:p∉acc:=fun hm=>by have:=((h.mem p).1 hm).2.2;rw [hl] at this;cases this
 cases hf:f p with
 | true =>
   simp only [if_true];refine ⟨?_,fun q => ?_⟩
   ·rw [List.nodup_append];exact ⟨h.nd,by simp,fun a ha b hb e=>by simp at hb;subst hb;subst e;exact hnp ha⟩
   by_cases e:q=p
   ·subst e;simp [hp,hf,hss]
   simp only [List.mem_append,List.mem_singleton,e,or_false,hs q e];rw [h.mem q];simp
 | false =>
   simp only [Bool.false_eq_true,if_false];refine ⟨h.nd,fun q => ?_⟩;by_cases e:q=p
   ·subst e;simp [hf,hnp]
   rw [h.mem q];simp [hs q e]
theorem Pick.done {l:List It} {f:Bs→Bool} {left:Lit→Bool} {acc:List Bs} (h:Pick l f left acc) (hn:(l.map (·.path)).Nodup) (h0:∀ k,left k=false):acc.Perm ((l.map (·.path)).filter f):=by
 refine qoj h.nd (hn.sublist List.filter_sublist) (fun q => ?_);rw [h.mem q,List.mem_filter,List.mem_map]
 constructor
 ·rintro ⟨h1,h2,_⟩;obtain ⟨x,hx⟩:=Option.isSome_iff_exists.1 h1;exact ⟨⟨x,(qas hx).1,(qas hx).2⟩,h2⟩
 rintro ⟨⟨x,hx,rfl⟩,h2⟩;exact ⟨by rw [at_mem hn hx];rfl,h2,h0 _⟩
theorem qgb {w w':World} {b r n:Nat} {D:DataW Nd} {left:Lit→Bool} {cnt base m s:Nat} {e:TypeId} {v:Value} {xs:List Value} (h:w.ranges Tryz.prog 9 ndOf b r n D left cnt) (ho:w.ownsRow base e s v m xs) (hg:w.grownBy w' v.ownBlock):w'.ranges Tryz.prog 9 ndOf b r n D left cnt:=by
 have h':=h;obtain ⟨es,cl,si,se,c0,hb,_,_,_,hr,_⟩:=h';refine h.kept hg (fun e => ?_) (fun e => ?_)
 ·rcases ho.2 with ⟨rfl,_⟩ | ⟨g,cap,cur,rfl,_,hh,_⟩
  ·simp [Value.ownBlock] at e
  simp [Value.ownBlock] at e;subst e;rw [hb] at hh;cases hh
 rcases ho.2 with ⟨rfl,_⟩ | ⟨g,cap,cur,rfl,_,hh,_⟩
 ·simp [Value.ownBlock] at e
 simp [Value.ownBlock] at e;subst e;rw [hr] at hh;cases hh
def sv (l:List Bs):List Value:=l.map fun x=>.string (txt x)
theorem qlJ (w:World) (x:Bs):(w.alloc (.cells #[.string (txt x)] 9)).ownsRow w.heap.size 9 1 (.slice (some ⟨w.heap.size,0,none⟩) 1 1) 1 (sv [x]):=
 ⟨rfl,.inr ⟨w.heap.size,1,#[.string (txt x)],rfl,Nat.le_refl _,heap_alloc_new _ _,Nat.le_refl _,by unfold maxLen;omega,rfl,rfl⟩⟩
theorem qlC (b:Nat) (l:List It) (p:Bs) (w:World) (hT:TreeAt w b l) (hn:(l.map (·.path)).Nodup) (hl:l.length≤1000) (hp:p.length≤1048576) (hq:∀ x∈l,x.path.length≤1048576) :
 Calls Tryz.prog 149 #[.map (some b),.string (txt p)] w fun e w'=>∃ v qs,e=.returned v∧w'.ownsRow w.heap.size 9 1 v (qs.length+1) (sv (p :: qs))∧qs.Perm ((l.map (·.path)).filter fun q=>inB q p)∧Below w.heap.size w w':=by
 obtain ⟨i0,hi,hz0,hz1,hz2⟩:=info_parts Tryz.info9;have hlt:=hT.lt;have HR:=hidI (qlJ w p);have Hn:=hidI hn;have Hq:=hidI hq;obtain ⟨X,hX⟩:∃ X,X=txt p:=⟨_,rfl⟩;have HX:=hidI hX;obtain ⟨W1,hW1⟩:∃ W1,W1=w.alloc (.cells #[.string X] 9):=⟨_,rfl⟩;have hT1:TreeAt W1 b l:=by rw [hW1];exact hT.of_block (Below.heap_alloc _ _ _ hlt)
 have hB1:Below w.heap.size w W1:=by rw [hW1];exact (Below.refl _ w).alloc (Nat.le_refl _) _
 have hs1:W1.heap.size=w.heap.size+1:=by rw [hW1];simp
 rw [←hX,←hW1] at HR;rw [←hX];obtain ⟨D,ho,hh⟩:=hT1;have Hsz:=hidI (qcn ho hh hn);have Hh:=hidI hh;have Hown:=hidI ho;have HW1:=hidI hW1;have HB1:=hidI hB1;clear hT hn hq hX hW1 hB1 ho hh;go_enter Tryz.func149,Tryz.ntmps149
 go_wp2_with (first | (rw [←HW1.out]) | (at_range;refine wpList_range_own _ rfl _ 77 rfl 9 117 law9 Tryz.underlying77 _ b _ D rfl Hown.out ?_;intro w0 hrg0 hg0 hs0) | go_in)
 go_frame
 have Hb0:Hid (Below w.heap.size w w0):=hidI (HB1.out.grown hg0 HB1.out.size (fun q hq=>by cases hq));have HR0:Hid (w0.ownsRow w.heap.size 9 1 (.slice (some ⟨w.heap.size,0,none⟩) 1 1) 1 (sv [p])):=hidI (own_below HR.out (N:=W1.heap.size) ⟨hg0.os,hg0.tape,hg0.output,hg0.size,fun k hk=>hg0.block k hk (by simp)⟩ (fun q hq=>(HR.out.lt q hq).2));have Hrg0:=hidI hrg0;clear hrg0 hg0 Hown HR HB1;obtain ⟨r,hr⟩:∃ r,r=W1.heap.size:=⟨_,rfl⟩;rw [←hr] at Hrg0 hs0 hs1 ⊢;have hrw:w.heap.size<r:=by omega
 clear hr HW1 hs0 hs1
 go_loopw [5] (fun v wx=>∃ (left:Lit→Bool) (cnt:Nat) (qs:List Bs),wx.ranges Tryz.prog 9 ndOf b r (Maps.size D) D left cnt∧qs.length+cnt≤l.length∧Hid (Pick l (fun q=>inB q p) left qs)∧Hid (wx.ownsRow w.heap.size 9 1 v (qs.length+1) (sv (p :: qs)))∧Hid (Below w.heap.size w wx))
  (fun _ wx=>wx.rangeLeft b r)
 case atStart=>exact ⟨_,_,[],Hrg0.out,by have:=Hsz.out;simp;omega,hidI ⟨by simp,fun q=>by simp;intro h1 h2;exact ((Hh.out q).1).trans h1⟩,HR0,Hb0⟩
 case round =>
  obtain ⟨left,cnt,qs,hrg,hcnt,HP,HO,HB⟩:=hrel;clear Hb0 Hrg0 HR0;have hszr:=HB.out.size;obtain ⟨g,cap,rfl⟩:=qeG HO.out;obtain ⟨L,hL⟩:∃ L,L=qs.length:=⟨_,rfl⟩;rw [←hL] at HO hcnt ⊢;have HL:=hidI hL;clear hL;go_wp2_with (first | (at_next;refine wpList_next_ranges _ rfl _ rfl 9 law9 ndOf (fun x:Bs=>.string (txt x)) id (fun key kl hk=>by obtain ⟨x,hx,_⟩:=Maps.keyOf_str Tryz.underlying9 hk;exact ⟨x,hx⟩) (fun v _ _=>⟨v,rfl⟩) b r _ _ _ _ rfl hrg ?_ ?_) | go_in)
  ·intro _ hl0;have HD:=hidI (HP.out.done Hn.out hl0);go_wp2;go_ret
   have hL:=HL.out;rw [hL] at HO;exact ⟨_,qs,by rw [hL];rfl,HO.out,HD.out,HB.out⟩
  intro q cv kl yd yp w2 cnt2 hkey hlk hv hat hrg2 hlt2 hg2 hs2 hen;obtain ⟨q',ep,rfl,_⟩:=Maps.keyOf_str Tryz.underlying9 hkey;obtain rfl:q=q':=by cases ep;rfl
  have hhas:Maps.has D (.string q)=true:=Maps.has_true_of_atKey hat;rw [(Hh.out q).1] at hhas;have Hst:=hidI (HP.out.step hhas hlk);obtain ⟨x,hx⟩:=Option.isSome_iff_exists.1 hhas;obtain ⟨hxl,hxp⟩:=qas hx;have hql:q.length≤1048576:=by rw [←hxp];exact Hq.out x hxl
  have HI:=hidI (qlW q p w2 hql hp);have hx0:=HX.out;rw [←hx0] at HI;obtain ⟨o,hoo⟩:∃ o,o=inB q p:=⟨_,rfl⟩;rw [←hoo] at HI Hst;have HB2:Hid (Below w.heap.size w w2):=hidI (HB.out.grown hg2 hszr (fun k e=>by cases e;omega));have hrcell:∃ a b' c d,wr.heap[r]? = some (.mapIter a b' c d):=by obtain ⟨es,cl,si,se,c0,_,_,_,_,h5,_⟩:=hrg;exact ⟨_,_,_,_,h5⟩
  have HO2:Hid (w2.ownsRow w.heap.size 9 1 (.slice (some ⟨g,0,none⟩) (L+1) cap) (L+1) (sv (p :: qs))):=hidI (by
   have hoo:=HO.out;refine ⟨hoo.1,?_⟩;rcases hoo.2 with ⟨h1,_⟩ | ⟨g',cap',cur,h1,h2,h3,h4⟩
   ·cases h1
   refine .inr ⟨g',cap',cur,h1,h2,(hg2.block g' (lt_of_heap h3) (fun e => ?_)).trans h3,h4⟩;obtain ⟨a,b',c,d,hh⟩:=hrcell;cases e
   rw [hh] at h3;cases h3)
  have Hrg2:=hidI hrg2;have Hrg:=hidI hrg;obtain ⟨Q,hQ⟩:∃ Q,Q=txt q:=⟨_,rfl⟩;rw [←hQ] at HI hen ⊢;have HQ:=hidI hQ;have hs2':wr.heap.size≤w2.heap.size:=by omega
  clear hoo hat hv hkey hlk hg2 hs2 hrg2 hrg hhas hx hxl hxp ep hrcell hQ HO HB hx0;cases o with
  | false =>
    simp only [Bool.false_eq_true,if_false] at Hst;go_wp2_with (go_at_call 208;refine HI.out.mono ?_;rintro e w' ⟨rfl,hw⟩;have hw':=hw.symm;subst hw';clear hw);go_roundw
    case rel=>exact ⟨_,cnt2,qs,Hrg2.out,by have:=HL.out;omega,Hst,by have:=HL.out;rw [←this];exact HO2,HB2⟩
    case measure=>rw [Hrg2.out.left_eq,Hrg.out.left_eq];exact hlt2
  | true =>
    simp only [if_true] at Hst;go_wp2_with fail;refine HI.out.mono ?_;rintro e w' ⟨rfl,hw⟩;have hw':=hw.symm;subst hw';clear hw;go_wp2_with (at_builtin;refine wpList_append_own _ rfl (.tmp 18) (.tmp 20) 40 rfl w.heap.size 9 i0 (.string ByteArray.empty) 1 16 Tryz.underlying40 hi hz0 hz1 hz2 rfl (by decide) _ _ _ rfl (HO2.out.alloc _) ⟨w2.heap.size,0,none⟩ 1 1 [.string Q] rfl rfl ?c1 ?c2 ?c3 ?c4 ?c5 ?_)
    case c1=>exact cell_one_new _ _ _
    case c2=>intro u hu;simp at hu;subst hu;rfl
    case c3=>unfold maxLen;omega
    case c4=>omega
    case c5=>simp;omega
    intro v3 w3 hown3 hgrow _;have hb3:Below w.heap.size w w3:=(HB2.out.alloc (by omega) _).grown hgrow (by simp;omega) (fun k hk=>(HO2.out.lt k hk).1);have HO3:Hid (w3.ownsRow w.heap.size 9 1 v3 ((qs++[q]).length+1) (sv (p :: (qs++[q])))):=hidI (by
     have e1:sv (p :: (qs++[q]))=sv (p :: qs)++[.string Q]:=by rw [HQ.out];simp [sv]
     rw [e1,List.length_append,←HL.out];exact hown3)
    have hr3:=qgb (Hrg2.out.kept (World.grownBy_alloc w2 (.cells #[.string Q] 9) none) (by simp) (by simp)) (HO2.out.alloc _) hgrow;have Hr3:=hidI hr3;have HB3:=hidI hb3;clear hown3 hgrow hb3 hr3;go_wp2;go_roundw
    case rel=>exact ⟨_,cnt2,qs++[q],Hr3.out,by rw [List.length_append,←HL.out];simp;omega,Hst,HO3,HB3⟩
    case measure=>rw [Hr3.out.left_eq,Hrg.out.left_eq];exact hlt2
def removeE (l:List It) (p:Bs):Int:=if findE l p=0 then (if (l.map (·.path)).any (fun q=>inB q p) then 7 else 0) else findE l p
theorem qia (b:Nat) (l:List It) (p:Bs) (w:World) (hT:TreeAt w b l) (ht:TreeP l) (hml:ML w) (hp:p.length≤1048576) :
 Calls Tryz.prog 91 #[.map (some b),.string (txt p)] w fun e w'=>Done b l (l.filter fun y=>decide (y.path≠p)) (removeE l p) w e w':=by
 have HR:=hidI (qjk b l p w hT hml hp);have hlt:=hT.lt;have HT:=hidI hT;have hnd:=ht.nodup;have h60:=ht.len;have HF:=hidI (fun W (h:TreeAt W b l)=>qlC b l p W h hnd (by omega) hp (fun x hx=>by have:=(qaF (ht.ok x hx)).p;omega));have HD:=hidI (fun W (h:TreeAt W b l)=>h.drop p (by unfold maxLen;omega) 0);obtain ⟨X,hX⟩:∃ X,X=txt p:=⟨_,rfl⟩;rw [←hX] at HR HF HD ⊢;obtain ⟨nn,hnn⟩:∃ nn,nn=findN l p:=⟨_,rfl⟩;rw [←hnn] at HR;unfold ndv at HR;clear hT hml hX hnn;by_cases hr:findE l p=0
 ·rw [hr] at HR;have hre:removeE l p=if (l.map (·.path)).any (fun q=>inB q p) then 7 else 0:=by unfold removeE;rw [if_pos hr]
  rw [hre];obtain ⟨an,han⟩:∃ an,an=(l.map (·.path)).any (fun q=>inB q p):=⟨_,rfl⟩;rw [←han];have Han:=hidI han;clear hre hr han;go_enter Tryz.func91,Tryz.ntmps91
  go_wp2_with fail;refine HR.out.mono ?_;rintro e w1 ⟨hb1,rfl⟩;have hT1:=HT.out.below hb1 hlt;obtain ⟨W2,hW2⟩:∃ W2,W2=w1.alloc (.cells #[.bool nn.dir,.string (txt nn.data),.int .i64 nn.mode,.int .i64 nn.time] 117):=⟨_,rfl⟩;have hT2:TreeAt W2 b l:=by rw [hW2];exact hT1.of_block (Below.heap_alloc _ _ _ hT1.lt)
  have hB2:Below w.heap.size w W2:=by rw [hW2];exact hb1.alloc hb1.size _
  have HF2:=hidI (HF.out W2 hT2);have HW2:=hidI hW2;have HT2:=hidI hT2;have HB2:=hidI hB2;clear hb1 HR hT1 hT2 hB2 hW2 HF;go_wp2_with (first | (rw [←HW2.out]) | fail);refine HF2.out.mono ?_;rintro e w3 ⟨v,qs,rfl,hown,hperm,hb3⟩;obtain ⟨g,cap,rfl⟩:=qeG hown;have HT3:=hidI (HT2.out.below hb3 HT2.out.lt);have HB3:=hidI (HB2.out.trans (hb3.mono HB2.out.size));have hany:an=decide (0<qs.length):=by
   rw [Han.out,Bool.eq_iff_iff,List.any_eq_true,decide_eq_true_iff,hperm.length_eq,List.length_pos_iff_exists_mem]
   constructor
   ·rintro ⟨x,hx,hf⟩;exact ⟨x,List.mem_filter.2 ⟨hx,hf⟩⟩
   rintro ⟨x,hx⟩;exact ⟨x,(List.mem_filter.1 hx).1,(List.mem_filter.1 hx).2⟩
  have hqs:qs.length≤60:=by rw [hperm.length_eq];exact Nat.le_trans (List.length_filter_le _ _) (by simpa using h60)
  obtain ⟨L,hL⟩:∃ L,L=qs.length:=⟨_,rfl⟩;rw [←hL] at hany hqs ⊢;have Hany:=hidI hany;clear hown hperm hb3 HF2 hany hL;by_cases h1:0<L
  ·have ha:an=true:=by rw [Hany.out];simpa using h1
   subst ha;clear HD;go_wp2;go_ret
   exact Done.no (by decide) HT.out HB3.out
  have ha:an=false:=by rw [Hany.out];simpa using h1
  subst ha;obtain ⟨w4,hdel,hT4,hm4⟩:=HD.out w3 HT3.out;have HT4:=hidI hT4;have H4:=hidI ((Turn.of_below HB3.out).of_map hm4);clear hT4 hm4 HD;go_wp2;go_ret
  exact ⟨rfl,H4.out,by rw [if_pos rfl];have h:=HT4.out;simpa only [ne_eq,decide_not] using h⟩
 have hre:removeE l p=findE l p:=by unfold removeE;rw [if_neg hr]
 rw [hre];obtain ⟨E,hE⟩:∃ E,E=findE l p:=⟨_,rfl⟩;rw [←hE] at HR hr ⊢;clear hre hE HF HD;go_enter Tryz.func91,Tryz.ntmps91
 go_wp2_with fail;refine HR.out.mono ?_;rintro e w1 ⟨hb1,rfl⟩;have HB1:=hidI hb1;have hs1:=hb1.size;clear hb1 HR;go_wp2;go_ret
 exact Done.no hr HT.out (HB1.out.alloc hs1 _)
end Go.Proofs.YtodmdkhdbfbfgaaGreatDoor
