/- Lemmas. -/
import Derived.Shelf.Strings.LastIndex
import Derived.Shelf.Strings.Prefix
import Derived.Shelf.SlMaps.Clone
import Derived.Shelf.Sort.Plain
import Derived.Shelf.Slices.In.SortNone
import Derived.Test.YtodmdkhdbfbfgaaGreatDoorM20
set_option linter.unusedVariables false
set_option linter.unusedSimpArgs false
set_option maxRecDepth 100000
set_option maxHeartbeats 8000000
namespace Go.Proofs.YtodmdkhdbfbfgaaGreatDoor
open Go.RowKit Go.Nt
def RdAt (w:World) (rb:Nat) (r:Rd):Prop:=w.heap[rb]? = some (.cells #[.string (txt r.1),.bool r.2] 151 (0,0))
theorem RdAt.c0 {w:World} {rb:Nat} {r:Rd} (h:RdAt w rb r):w.cell? ⟨rb,0,none⟩=some (.string (txt r.1)):=by rw [cell_of_row w rb 0 _ 151 (0,0) h];rfl
theorem RdAt.c1 {w:World} {rb:Nat} {r:Rd} (h:RdAt w rb r):w.cell? ⟨rb,1,none⟩=some (.bool r.2):=by rw [cell_of_row w rb 1 _ 151 (0,0) h];rfl
theorem RdAt.fz {w:World} {rb:Nat} {r:Rd} (h:RdAt w rb r) (k:Nat):w.frozen? ⟨rb,k,none⟩=false:=frozen_of_row w rb k _ 151 h
theorem RdAt.lt {w:World} {rb:Nat} {r:Rd} (h:RdAt w rb r):rb<w.heap.size:=lt_of_heap h
structure Turn (rb:Nat) (w w':World):Prop where
 os:w'.os=w.os
 tape:w'.tape=w.tape
 output:w'.output=w.output
 size:w.heap.size≤w'.heap.size
 block:∀ k,k<w.heap.size→k≠rb→w'.heap[k]? = w.heap[k]?
namespace Turn
variable {rb:Nat} {a b c:World}
theorem refl (rb:Nat) (w:World):Turn rb w w:=⟨rfl,rfl,rfl,Nat.le_refl _,fun _ _ _=>rfl⟩
theorem trans (h:Turn rb a b) (k:Turn rb b c):Turn rb a c:=
 ⟨k.os.trans h.os,k.tape.trans h.tape,k.output.trans h.output,Nat.le_trans h.size k.size,fun i hi hn=>(k.block i (Nat.lt_of_lt_of_le hi h.size) hn).trans (h.block i hi hn)⟩
theorem of_below (h:Below a.heap.size a b):Turn rb a b:=⟨h.os,h.tape,h.output,h.size,fun k hk _=>h.block k hk⟩
theorem below (h:Turn rb a b) {B:Nat} (hB:B≤rb) (hs:B≤a.heap.size):Below B a b:=⟨h.os,h.tape,h.output,h.size,fun k hk=>h.block k (by omega) (by omega)⟩
theorem set (h:Turn rb a b) (o:Nat) (v:Value):Turn rb a (b.setCell ⟨rb,o,none⟩ v):=
 h.trans ⟨rfl,rfl,rfl,by simp,fun k _ hn=>Below.heap_setCell b ⟨rb,o,none⟩ v k hn⟩
theorem alloc (h:Turn rb a b) (o:Obj):Turn rb a (b.alloc o):=h.trans ⟨rfl,rfl,rfl,by simp,fun k hk _=>Below.heap_alloc b o k hk⟩
end Turn
theorem RdAt.below {w w':World} {rb:Nat} {r:Rd} (h:RdAt w rb r) (hb:Below w.heap.size w w'):RdAt w' rb r:=(hb.block rb h.lt).trans h
theorem qem (rb:Nat) (r:Rd) (n:Nat) (w:World) (h:RdAt w rb r) (hn:n≤1000000) (hr:r.1.length≤1000000) :
 Calls Tryz.prog 144 #[.pointer (some ⟨rb,0,none⟩),.int .i64 n] w fun e w'=>e=.returned (.string (txt (Go.Nt.tk n r).1))∧RdAt w' rb (Go.Nt.tk n r).2∧Turn rb w w':=by
 have c0:=h.c0;have c1:=h.c1;have f0:=h.fz 0;have f1:=h.fz 1;obtain ⟨X,hX⟩:∃ X,X=txt r.1:=⟨_,rfl⟩;have Sx:X.size=r.1.length:=by rw [hX,qaa]
 rw [←hX] at c0;have HX:=hidI hX;have Hh:=hidI h;have HS:=hidI Sx;by_cases hlt:r.1.length<n
 ·have ht:Go.Nt.tk n r=([],([],false)):=by unfold Go.Nt.tk;rw [if_pos hlt]
  rw [ht];have hX':X.size<n:=by omega
  clear Sx hX h hlt ht;go_enter Tryz.func144,Tryz.ntmps144
  go_wp2;go_ret
  refine ⟨rfl,?_,((Turn.refl rb w).set _ _).set _ _⟩;have h1:=heap_setCell_same w rb 0 _ 151 (.string ⟨#[]⟩) Hh.out;exact heap_setCell_same _ rb 1 _ 151 (.bool false) h1
 have ht:Go.Nt.tk n r=(r.1.take n,(r.1.drop n,r.2)):=by unfold Go.Nt.tk;rw [if_neg hlt]
 rw [ht];have hX':n≤X.size:=by omega
 have hXl:X.size≤1000000:=by omega
 have He1:Hid (X.extract 0 n=txt (r.1.take n)):=hidI (by rw [hX,qae];simp);have He2:Hid (X.extract n X.size=txt (r.1.drop n)):=hidI (by rw [Sx,hX,qae];congr 1;exact List.take_of_length_le (by simp));clear Sx hX h hlt ht;go_enter Tryz.func144,Tryz.ntmps144
 go_wp2;go_ret
 refine ⟨by rw [←He1.out];rfl,?_,(Turn.refl rb w).set _ _⟩;rw [He2.out];exact heap_setCell_same w rb 0 _ 151 _ Hh.out
theorem qk3 {s:Bs} {i:Nat} (h:i<s.length):num (s.take (i+1))=num (s.take i)*256+(s.getD i 0).toNat:=by
 rw [List.take_add_one,List.getElem?_eq_getElem h];simp only [Option.toList_some];rw [qef];simp [List.getD,h]
theorem qa9 (n:Nat) (r:Rd):(Go.Nt.tk n r).1.length≤n∧(Go.Nt.tk n r).2.1.length≤r.1.length:=by
 unfold Go.Nt.tk
 split
 ·simp
 simp;omega
theorem qdh (w:World) (s:ByteArray) (rb:Nat):Below w.heap.size w (Lib.bytesWorld w 5 s):=
 ⟨rfl,rfl,rfl,by rw [Lib.bytesWorld_size];omega,fun k hk=>Lib.bytesWorld_at_old w 5 s k hk⟩
theorem qbd (rb:Nat) (r:Rd) (n:Nat) (w:World) (h:RdAt w rb r) (hn:n≤4) (hr:r.1.length≤1000000) :
 Calls Tryz.prog 87 #[.pointer (some ⟨rb,0,none⟩),.int .i64 n] w fun e w'=>e=.returned (.int .i64 ((nmb n r).1:Nat))∧RdAt w' rb (nmb n r).2∧Turn rb w w':=by
 have HT:=hidI (qem rb r n w h (by omega) hr);have hs4:=(qa9 n r).1;unfold nmb;obtain ⟨s,hs⟩:∃ s,s=(Go.Nt.tk n r).1:=⟨_,rfl⟩;obtain ⟨r',hr'⟩:∃ s,s=(Go.Nt.tk n r).2:=⟨_,rfl⟩;rw [←hs] at HT hs4;rw [←hs,←hr'];rw [←hr'] at HT;have hl4:s.length≤4:=by omega
 clear hs hr' h;obtain ⟨X,hX⟩:∃ X,X=txt s:=⟨_,rfl⟩;have Sx:X.size=s.length:=by rw [hX,qaa]
 rw [←hX] at HT;have gx:Hid (∀ j,j<s.length→X.data.toList.getD j 0=s.getD j 0):=hidI (fun j _=>by rw [hX];rfl);have HS:=hidI Sx;have hX4:X.size≤4:=by omega
 clear hX Sx;go_enter Tryz.func87,Tryz.ntmps87
 go_wp2_with fail;refine HT.out.mono ?_;rintro e w1 ⟨rfl,h1,t1⟩;have hcv:=Lib.run_convert_string_bytes (P:=Tryz.prog) w1 9 111 5 X Tryz.underlying9 Tryz.underlying111 Tryz.underlying5;have hb2:=qdh w1 X rb;have hcell:=Lib.bytesWorld_cell w1 5 X;obtain ⟨cap,hcap⟩:∃ c,c=grownCap w1 X.size 0 5:=⟨_,rfl⟩;obtain ⟨W2,hW2⟩:∃ W2,W2=Lib.bytesWorld w1 5 X:=⟨_,rfl⟩;rw [←hW2] at hcv hb2 hcell;rw [←hcap] at hcv;have H2:Hid (RdAt W2 rb r'):=hidI (h1.below hb2);have T2:Hid (Turn rb w W2):=hidI (t1.trans (.of_below hb2));have HC:=hidI hcell;clear hcap hW2 h1 t1 hb2 hcell HT;go_wp2
 go_loopw [5,13] (fun a i wr=>∃ k:Nat,k≤X.size∧i=.int .i64 k∧a=.int .i64 (num (s.take k):Nat)∧wr=W2) (fun _ i _=>X.size - (intOf i).toNat)
 case atStart=>exact ⟨0,Nat.zero_le _,rfl,rfl,rfl⟩
 case round =>
  obtain ⟨k,hk,rfl,rfl,rfl⟩:=hrel;by_cases hlt:k<X.size
  ·have hks:k<s.length:=by have:=HS.out;omega
   have hc:=HC.out k hlt;rw [gx.out k hks] at hc;have hnum:=qk3 hks;have hbound:=qdN (s.take k);have hb':num (s.take k)<16777216:=by
    refine Nat.lt_of_lt_of_le hbound ?_
    have:(s.take k).length≤3:=by rw [List.length_take];omega
    exact Nat.le_trans (Nat.pow_le_pow_right (by decide) this) (by decide)
   have hbyte:=(s.getD k 0).toNat_lt;obtain ⟨c,hcc⟩:∃ c,c=(s.getD k 0).toNat:=⟨_,rfl⟩;rw [←hcc] at hc hnum hbyte;obtain ⟨m,hm⟩:∃ m,m=num (s.take k):=⟨_,rfl⟩;rw [←hm] at hnum hb' ⊢;have hor:=or8 m c (by omega) (by omega);have Hnum:=hidI hnum;clear hcc hm hnum hbound;go_wp2;refine ⟨⟨k+1,by omega,by go_num,?_,trivial⟩,by simp [intOf];omega⟩;rw [Hnum.out];simp
  have hks:X.size=k:=by omega
  have HR:Hid (s.take k=s):=hidI (List.take_of_length_le (by have:=HS.out;omega));go_wp2;go_ret
  rw [HR.out];exact ⟨rfl,H2.out,T2.out⟩
theorem bit16 {n i:Nat} (h:n<65536) (hi:16≤i):n.testBit i=false:=
 Nat.testBit_lt_two_pow (Nat.lt_of_lt_of_le h (Nat.le_trans (by decide:65536≤2^16) (Nat.pow_le_pow_right (by decide) hi)))
theorem and15 (n:Nat) (h:n<65536):(bits .and .i64 (n:Int) 32768 != 0)=decide (32768≤n):=by
 rw [show (32768:Int)=((32768:Nat):Int) from rfl,(bits_nat .i64 62 (by decide) qbU n 32768 (by omega) (by omega)).1];have e:n &&& 32768=if 32768≤n then 32768 else 0:=by
  apply Nat.eq_of_testBit_eq
  intro i;rw [Nat.testBit_and,show (32768:Nat)=2^15 from rfl,Nat.testBit_two_pow];have h2:n.testBit 15=decide (2^15≤n):=by
   rw [Nat.testBit_eq_decide_div_mod_eq];by_cases hh:2^15≤n
   ·simp [hh];omega
   simp [hh];omega
  by_cases hi:15=i
  ·subst hi;rw [h2];by_cases hh:2^15≤n
   ·rw [if_pos hh,Nat.testBit_two_pow];simp [hh]
   rw [if_neg hh];simp [hh]
  simp only [hi,decide_false,Bool.and_false]
  split
  ·rw [Nat.testBit_two_pow];simp [hi]
  simp
 rw [e];by_cases hh:32768≤n<;>simp [hh]
theorem not15 (n:Nat) (h:n<65536):bits .andNot .i64 (n:Int) 32768=((n%32768:Nat):Int):=by
 have key:(BitVec.ofInt 64 (n:Int) &&& ~~~BitVec.ofInt 64 32768).toNat=n%32768:=by
  rw [BitVec.toNat_and,BitVec.ofInt_natCast,BitVec.toNat_ofNat,Nat.mod_eq_of_lt (by omega)];have hc:(~~~BitVec.ofInt 64 32768).toNat=18446744073709518847:=by decide
  rw [hc]
  apply Nat.eq_of_testBit_eq
  intro i;rw [Nat.testBit_and,show (32768:Nat)=2^15 from rfl,Nat.testBit_mod_two_pow];rcases Nat.lt_or_ge i 16 with hi | hi
  ·have:∀ j,j<16→(18446744073709518847:Nat).testBit j=decide (j<15):=by decide
   rw [this i hi,Bool.and_comm]
  rw [bit16 h hi];simp
 show IntKind.i64.wrap ((BitVec.ofInt 64 (n:Int) &&& ~~~BitVec.ofInt 64 32768).toNat:Int)=_;rw [key,qbU _ (by omega) (by omega)]
def set5 (w:World) (b:Nat) (v0 v1 v2 v3 v4:Value):World:=((((w.setCell ⟨b,0,none⟩ v0).setCell ⟨b,1,none⟩ v1).setCell ⟨b,2,none⟩ v2).setCell ⟨b,3,none⟩ v3).setCell ⟨b,4,none⟩ v4
theorem qev {w:World} {b:Nat} {a0 a1 a2 a3 a4:Value} {T:TypeId} (h:w.heap[b]? = some (.cells #[a0,a1,a2,a3,a4] T (0,0))) (v0 v1 v2 v3 v4:Value) :
 (set5 w b v0 v1 v2 v3 v4).heap[b]? = some (.cells #[v0,v1,v2,v3,v4] T (0,0)):=by
 have h0:=heap_setCell_same w b 0 _ T v0 h;have h1:=heap_setCell_same _ b 1 _ T v1 h0;have h2:=heap_setCell_same _ b 2 _ T v2 h1;have h3:=heap_setCell_same _ b 3 _ T v3 h2;exact heap_setCell_same _ b 4 _ T v4 h3
theorem qcb (w:World) (b:Nat) (v0 v1 v2 v3 v4:Value) (k:Nat) (hk:k≠b):(set5 w b v0 v1 v2 v3 v4).heap[k]? = w.heap[k]? := by
 unfold set5;rw [Below.heap_setCell _ _ _ k hk,Below.heap_setCell _ _ _ k hk,Below.heap_setCell _ _ _ k hk,Below.heap_setCell _ _ _ k hk,Below.heap_setCell _ _ _ k hk]
theorem Turn.setNew {rb:Nat} {a b:World} (h:Turn rb a b) {g:Nat} (hg:a.heap.size≤g) (o:Nat) (v:Value):Turn rb a (b.setCell ⟨g,o,none⟩ v):=
 ⟨(Turn.set (Turn.refl g b) o v).os.trans h.os,(Turn.set (Turn.refl g b) o v).tape.trans h.tape,(Turn.set (Turn.refl g b) o v).output.trans h.output,by have:=h.size;simp;omega,fun k hk hn=>(Below.heap_setCell b ⟨g,o,none⟩ v k (by simp;omega)).trans (h.block k hk hn)⟩
theorem qcS {rb:Nat} {w W:World} {b:Nat} (h:Turn rb w W) (hb:w.heap.size≤b) (v0 v1 v2 v3 v4:Value):Turn rb w (set5 W b v0 v1 v2 v3 v4):=
 ((((h.setNew hb 0 v0).setNew hb 1 v1).setNew hb 2 v2).setNew hb 3 v3).setNew hb 4 v4
theorem qd0 (k:Nat) (r:Rd):(nmb k r).1<256^k:=by
 unfold nmb;exact Nat.lt_of_lt_of_le (qdN _) (Nat.pow_le_pow_right (by decide) (qa9 k r).1)
theorem qlY {u:Bs→Option Bs} (hP:PackC u) (rb:Nat) (r:Rd) (w:World) (h:RdAt w rb r) (hr:r.1.length≤1000000) :
 Calls Tryz.prog 88 #[.pointer (some ⟨rb,0,none⟩)] w fun e w'=>e=.returned (itv (rdItem u r).1)∧RdAt w' rb (rdItem u r).2∧Turn rb w w':=by
 unfold rdItem;simp only;have hrb:=h.lt;obtain ⟨kr,hk⟩:∃ kr,kr=nmb 2 r:=⟨_,rfl⟩;obtain ⟨k,r1⟩:=kr;have hk1:k<65536:=by have:=qd0 2 r;rw [←hk] at this;exact this
 have l1:r1.1.length≤1000000:=by have:=(qa9 2 r).2;have e:(nmb 2 r).2=(Go.Nt.tk 2 r).2:=rfl;rw [←hk] at e;rw [←e] at this;exact Nat.le_trans this hr
 rw [←hk];simp only;obtain ⟨tr,ht⟩:∃ tr,tr=nmb 4 r1:=⟨_,rfl⟩;obtain ⟨t,r2⟩:=tr;have ht1:t<4294967296:=by have:=qd0 4 r1;rw [←ht] at this;exact this
 have l2:r2.1.length≤1000000:=by have:=(qa9 4 r1).2;have e:(nmb 4 r1).2=(Go.Nt.tk 4 r1).2:=rfl;rw [←ht] at e;rw [←e] at this;exact Nat.le_trans this l1
 rw [←ht];simp only;obtain ⟨nr,hn⟩:∃ nr,nr=nmb 1 r2:=⟨_,rfl⟩;obtain ⟨n,r3⟩:=nr;have hn1:n<256:=by have:=qd0 1 r2;rw [←hn] at this;exact this
 have l3:r3.1.length≤1000000:=by have:=(qa9 1 r2).2;have e:(nmb 1 r2).2=(Go.Nt.tk 1 r2).2:=rfl;rw [←hn] at e;rw [←e] at this;exact Nat.le_trans this l2
 rw [←hn];simp only;obtain ⟨pr,hp⟩:∃ pr,pr=Go.Nt.tk n r3:=⟨_,rfl⟩;obtain ⟨p,r4⟩:=pr;have l4:r4.1.length≤1000000:=by have:=(qa9 n r3).2;rw [←hp] at this;exact Nat.le_trans this l3
 rw [←hp];simp only;obtain ⟨W0,hW0⟩:∃ W0,W0=w.alloc (.cells #[.string ⟨#[]⟩,.bool false,.string ⟨#[]⟩,.int .i64 0,.int .i64 0] 39):=⟨_,rfl⟩;have t0:Turn rb w W0:=by rw [hW0];exact (Turn.refl rb w).alloc _
 have h0:RdAt W0 rb r:=by rw [hW0];exact (Below.heap_alloc _ _ _ hrb).trans h
 have A1:=hidI (qbd rb r 2 W0 h0 (by decide) hr);rw [←hk] at A1;simp only at A1;have ha:=and15 k hk1;have hb:=not15 k hk1;have HW0:=hidI hW0;have T0:=hidI t0;have Hk:=hidI hk;have Ht:=hidI ht;have Hn:=hidI hn;have Hp:=hidI hp;clear hk ht hn hp h h0 t0 hW0;obtain ⟨dr,hdr⟩:∃ dr,dr=decide (32768≤k):=⟨_,rfl⟩;have Hdr:=hidI hdr;obtain ⟨md,hmd⟩:∃ md,md=k%32768:=⟨_,rfl⟩;rw [←hdr] at ha;rw [←hmd] at hb ⊢;clear hdr hmd;go_enter Tryz.func88,Tryz.ntmps88
 go_wp2_with fail;rw [←HW0.out];refine A1.out.mono ?_;rintro e w1 ⟨rfl,h1,t1⟩;have A2:=hidI (qbd rb r1 4 w1 h1 (by decide) l1);have e2:=Ht.out;rw [←e2] at A2;simp only at A2;have hs0:W0.heap.size=w.heap.size+1:=by rw [HW0.out];simp
 have q0:W0.heap[w.heap.size]? = some (.cells #[.string ⟨#[]⟩,.bool false,.string ⟨#[]⟩,.int .i64 0,.int .i64 0] 39 (0,0)):=by rw [HW0.out];exact heap_alloc_new _ _
 have Q1:=hidI ((t1.block w.heap.size (by omega) (by omega)).trans q0);have T1:=hidI (T0.out.trans t1);have z1:=t1.size;clear A1 h1 t1 e2 q0;go_wp2_with fail;refine A2.out.mono ?_;rintro e w2 ⟨rfl,h2,t2⟩;have Q2:=hidI ((t2.block w.heap.size (by omega) (by omega)).trans Q1.out);have T2:=hidI (T1.out.trans t2);have z2:=t2.size;obtain ⟨W3,hW3⟩:∃ W3,W3=w2.alloc (.cells #[.string ⟨#[]⟩,.bool dr,.string ⟨#[]⟩,.int .i64 md,.int .i64 t] 39):=⟨_,rfl⟩;have h3:RdAt W3 rb r2:=by rw [hW3];exact (Below.heap_alloc _ _ _ h2.lt).trans h2
 have A4:=hidI (qbd rb r2 1 W3 h3 (by decide) l2);have e4:=Hn.out;rw [←e4] at A4;simp only at A4;have HW3:=hidI hW3;clear A2 h2 t2 h3 hW3 e4;go_wp2_with fail;rw [←HW3.out];refine A4.out.mono ?_;rintro e w4 ⟨rfl,h4,t4⟩;have hs3:W3.heap.size=w2.heap.size+1:=by rw [HW3.out];simp
 have q3:W3.heap[w2.heap.size]? = some (.cells #[.string ⟨#[]⟩,.bool dr,.string ⟨#[]⟩,.int .i64 md,.int .i64 t] 39 (0,0)):=by rw [HW3.out];exact heap_alloc_new _ _
 have q3':W3.heap[w.heap.size]? = some (.cells #[.string ⟨#[]⟩,.bool false,.string ⟨#[]⟩,.int .i64 0,.int .i64 0] 39 (0,0)):=by rw [HW3.out];exact (Below.heap_alloc _ _ _ (by omega)).trans Q2.out
 have T3:Turn rb w W3:=by rw [HW3.out];exact T2.out.alloc _
 have P4:=hidI ((t4.block w2.heap.size (by omega) (by omega)).trans q3);have Q4:=hidI ((t4.block w.heap.size (by omega) (by omega)).trans q3');have T4:=hidI (T3.trans t4);have z4:=t4.size;have A5:=hidI (qem rb r3 n w4 h4 (by omega) l3);have e5:=Hp.out;rw [←e5] at A5;simp only at A5;obtain ⟨Y,hY⟩:∃ Y,Y=txt p:=⟨_,rfl⟩;rw [←hY] at A5;have HY:=hidI hY;clear A4 h4 t4 q3 q3' T3 e5 hY Q1 Q2 T1 T2;go_wp2_with fail;refine A5.out.mono ?_;rintro e w5 ⟨rfl,h5,t5⟩;have p5:=(t5.block w2.heap.size (by omega) (by omega)).trans P4.out;have q5:=(t5.block w.heap.size (by omega) (by omega)).trans Q4.out;have T5:=hidI (T4.out.trans t5);have z5:=t5.size;obtain ⟨W6,hW6⟩:∃ W6,W6=w5.setCell ⟨w2.heap.size,0,none⟩ (.string Y):=⟨_,rfl⟩
 have p6:W6.heap[w2.heap.size]? = some (.cells #[.string Y,.bool dr,.string ⟨#[]⟩,.int .i64 md,.int .i64 t] 39 (0,0)):=by rw [hW6];exact heap_setCell_same w5 w2.heap.size 0 _ 39 _ p5
 have q6:W6.heap[w.heap.size]? = some (.cells #[.string ⟨#[]⟩,.bool false,.string ⟨#[]⟩,.int .i64 0,.int .i64 0] 39 (0,0)):=by rw [hW6];exact (Below.heap_setCell w5 ⟨w2.heap.size,0,none⟩ _ _ (by simp;omega)).trans q5
 have h6:RdAt W6 rb r4:=by rw [hW6];exact (Below.heap_setCell w5 ⟨w2.heap.size,0,none⟩ _ _ (by simp;omega)).trans h5
 have T6:Turn rb w W6:=by
  rw [hW6];refine ⟨T5.out.os,T5.out.tape,T5.out.output,by have:=T5.out.size;simp;omega,fun j hj hne => ?_⟩;exact (Below.heap_setCell w5 ⟨w2.heap.size,0,none⟩ _ _ (by simp;omega)).trans (T5.out.block j hj hne)
 have s6:W6.heap.size=w5.heap.size:=by rw [hW6];simp
 have c50:w5.cell? ⟨w2.heap.size,0,none⟩=some (.string ⟨#[]⟩):=by rw [cell_of_row w5 w2.heap.size 0 _ 39 (0,0) p5];rfl
 have f50:w5.frozen? ⟨w2.heap.size,0,none⟩=false:=frozen_of_row w5 w2.heap.size 0 _ 39 p5;have c60:W6.cell? ⟨w2.heap.size,0,none⟩=some (.string Y):=by rw [cell_of_row W6 w2.heap.size 0 _ 39 (0,0) p6];rfl
 have c61:W6.cell? ⟨w2.heap.size,1,none⟩=some (.bool dr):=by rw [cell_of_row W6 w2.heap.size 1 _ 39 (0,0) p6];rfl
 have c62:W6.cell? ⟨w2.heap.size,2,none⟩=some (.string ⟨#[]⟩):=by rw [cell_of_row W6 w2.heap.size 2 _ 39 (0,0) p6];rfl
 have c63:W6.cell? ⟨w2.heap.size,3,none⟩=some (.int .i64 md):=by rw [cell_of_row W6 w2.heap.size 3 _ 39 (0,0) p6];rfl
 have c64:W6.cell? ⟨w2.heap.size,4,none⟩=some (.int .i64 t):=by rw [cell_of_row W6 w2.heap.size 4 _ 39 (0,0) p6];rfl
 have d0:W6.cell? ⟨w.heap.size,0,none⟩=some (.string ⟨#[]⟩):=by rw [cell_of_row W6 w.heap.size 0 _ 39 (0,0) q6];rfl
 have d1:W6.cell? ⟨w.heap.size,1,none⟩=some (.bool false):=by rw [cell_of_row W6 w.heap.size 1 _ 39 (0,0) q6];rfl
 have d2:W6.cell? ⟨w.heap.size,2,none⟩=some (.string ⟨#[]⟩):=by rw [cell_of_row W6 w.heap.size 2 _ 39 (0,0) q6];rfl
 have d3:W6.cell? ⟨w.heap.size,3,none⟩=some (.int .i64 0):=by rw [cell_of_row W6 w.heap.size 3 _ 39 (0,0) q6];rfl
 have d4:W6.cell? ⟨w.heap.size,4,none⟩=some (.int .i64 0):=by rw [cell_of_row W6 w.heap.size 4 _ 39 (0,0) q6];rfl
 have g0:W6.frozen? ⟨w.heap.size,0,none⟩=false:=frozen_of_row W6 w.heap.size 0 _ 39 q6;have g1:W6.frozen? ⟨w.heap.size,1,none⟩=false:=frozen_of_row W6 w.heap.size 1 _ 39 q6;have g2:W6.frozen? ⟨w.heap.size,2,none⟩=false:=frozen_of_row W6 w.heap.size 2 _ 39 q6;have g3:W6.frozen? ⟨w.heap.size,3,none⟩=false:=frozen_of_row W6 w.heap.size 3 _ 39 q6;have g4:W6.frozen? ⟨w.heap.size,4,none⟩=false:=frozen_of_row W6 w.heap.size 4 _ 39 q6;have P6:=hidI p6;have Q6:=hidI q6;have H6:=hidI h6;have HT6:=hidI T6;have HW6:=hidI hW6;clear A5 h5 t5 p5 q5 p6 q6 h6 T6 P4 Q4 T4 T5 hW6;cases dr with
 | true =>
   have hge:32768≤k:=by have:=Hdr.out;simpa using this.symm
   go_wp2_with (rw [←HW6.out]);have hrow:=qev Q6.out (.string Y) (.bool true) (.string ⟨#[]⟩) (.int .i64 md) (.int .i64 t);have hh:=(qcb W6 w.heap.size (.string Y) (.bool true) (.string ⟨#[]⟩) (.int .i64 md) (.int .i64 t) rb (by omega)).trans H6.out;have ht:=qcS HT6.out (Nat.le_refl _) (.string Y) (.bool true) (.string ⟨#[]⟩) (.int .i64 md) (.int .i64 t);have hY:=HY.out;refine bodyPost_ret (v:=.agg #[.string Y,.bool true,.string ⟨#[]⟩,.int .i64 md,.int .i64 t]) ?_ rfl ⟨by rw [hY];rfl,hh,ht⟩;simp [results,go_sem,d0,d1,d2,d3,d4]
 | false =>
   have hlt:k<32768:=by have:=Hdr.out;simp at this;omega
   obtain ⟨zr,hz⟩:∃ zr,zr=nmb 2 r4:=⟨_,rfl⟩;obtain ⟨z,r5⟩:=zr;have hz1:z<65536:=by have:=qd0 2 r4;rw [←hz] at this;exact this
   have l5:r5.1.length≤1000000:=by have:=(qa9 2 r4).2;have e:(nmb 2 r4).2=(Go.Nt.tk 2 r4).2:=rfl;rw [←hz] at e;rw [←e] at this;exact Nat.le_trans this l4
   have A7:=hidI (qbd rb r4 2 W6 H6.out (by decide) l4);rw [←hz] at A7;simp only at A7;obtain ⟨br,hbr⟩:∃ br,br=Go.Nt.tk z r5:=⟨_,rfl⟩;obtain ⟨bb,r6⟩:=br;have lb:bb.length≤1000000:=by have:=(qa9 z r5).1;rw [←hbr] at this;exact Nat.le_trans this (by omega)
   have HE:Hid (Go.Nt.tk (nmb 2 r4).1 (nmb 2 r4).2=(bb,r6)):=hidI (by rw [←hz];exact hbr.symm);have Hbr:=hidI hbr;clear hz hbr;go_wp2_with (rw [←HW6.out]);refine A7.out.mono ?_;rintro e w7 ⟨rfl,h7,t7⟩;have A8:=hidI (qem rb r5 z w7 h7 (by omega) l5);have e8:=Hbr.out;rw [←e8] at A8;simp only at A8;have P7:=hidI ((t7.block w2.heap.size (by omega) (by omega)).trans P6.out);have Q7:=hidI ((t7.block w.heap.size (by omega) (by omega)).trans Q6.out);have T7:=hidI (HT6.out.trans t7);have z7:=t7.size;clear A7 h7 t7 e8 c60 c61 c62 c63 c64 d0 d1 d2 d3 d4 g0 g1 g2 g3 g4 c50 f50;go_wp2_with fail;refine A8.out.mono ?_;rintro e w8 ⟨rfl,h8,t8⟩;have P8:=hidI ((t8.block w2.heap.size (by omega) (by omega)).trans P7.out);have Q8:=hidI ((t8.block w.heap.size (by omega) (by omega)).trans Q7.out);have T8:=hidI (T7.out.trans t8);have z8:=t8.size;have H8:=hidI h8;clear A8 h8 t8 P7 Q7 T7
   obtain ⟨V,hV⟩:∃ V,V=(u bb).getD []:=⟨_,rfl⟩;have A9:Hid (Calls Tryz.prog 145 #[.string (txt bb)] w8 fun e w'=>e=.returned (.tuple #[.string (txt V),.int .i64 (if (u bb).isSome then 0 else 2)])∧Below w8.heap.size w8 w'):=by
    refine hidI ?_;cases hu:u bb with
    | none=>rw [show V=[] by rw [hV,hu];rfl];exact hP.none w8 bb lb hu
    | some d=>rw [show V=d by rw [hV,hu];rfl];exact hP.some w8 bb d lb hu
   obtain ⟨so,hso⟩:∃ so,so=(u bb).isSome:=⟨_,rfl⟩;rw [←hso] at A9;have HV:=hidI hV;have HSO:=hidI hso;obtain ⟨Z,hZ⟩:∃ Z,Z=txt V:=⟨_,rfl⟩;rw [←hZ] at A9;have HZ:=hidI hZ;clear hV hso hZ;go_wp2_with fail;refine A9.out.mono ?_;rintro e w9 ⟨rfl,hb9⟩;have p9:=(hb9.block w2.heap.size (by omega)).trans P8.out;have q9:=(hb9.block w.heap.size (by omega)).trans Q8.out;have r9:RdAt w9 rb r6:=H8.out.below hb9;have T9:=hidI (T8.out.trans (.of_below hb9));have z9:=hb9.size;clear A9 hb9 P8 Q8 T8;cases so with
   | true =>
     obtain ⟨Wa,hWa⟩:∃ Wa,Wa=(w9).setCell ⟨w2.heap.size,2,none⟩ (.string Z):=⟨_,rfl⟩;have pa:Wa.heap[w2.heap.size]? = some (.cells #[.string Y,.bool false,.string Z,.int .i64 md,.int .i64 t] 39 (0,0)):=by rw [hWa];exact heap_setCell_same _ w2.heap.size 2 _ 39 _ p9
     have qa:Wa.heap[w.heap.size]? = some (.cells #[.string ⟨#[]⟩,.bool false,.string ⟨#[]⟩,.int .i64 0,.int .i64 0] 39 (0,0)):=by rw [hWa];exact (Below.heap_setCell _ ⟨w2.heap.size,2,none⟩ _ _ (by simp;omega)).trans q9
     have ra:RdAt Wa rb r6:=by rw [hWa];exact (Below.heap_setCell _ ⟨w2.heap.size,2,none⟩ _ _ (by simp;omega)).trans r9
     have Ta:Turn rb w Wa:=by rw [hWa];exact T9.out.setNew (by omega) _ _
     have c92:(w9).cell? ⟨w2.heap.size,2,none⟩=some (.string ⟨#[]⟩):=by rw [cell_of_row _ w2.heap.size 2 _ 39 (0,0) p9];rfl
     have f92:(w9).frozen? ⟨w2.heap.size,2,none⟩=false:=frozen_of_row _ w2.heap.size 2 _ 39 p9;have c60:Wa.cell? ⟨w2.heap.size,0,none⟩=some (.string Y):=by rw [cell_of_row Wa w2.heap.size 0 _ 39 (0,0) pa];rfl
     have c61:Wa.cell? ⟨w2.heap.size,1,none⟩=some (.bool false):=by rw [cell_of_row Wa w2.heap.size 1 _ 39 (0,0) pa];rfl
     have c62:Wa.cell? ⟨w2.heap.size,2,none⟩=some (.string Z):=by rw [cell_of_row Wa w2.heap.size 2 _ 39 (0,0) pa];rfl
     have c63:Wa.cell? ⟨w2.heap.size,3,none⟩=some (.int .i64 md):=by rw [cell_of_row Wa w2.heap.size 3 _ 39 (0,0) pa];rfl
     have c64:Wa.cell? ⟨w2.heap.size,4,none⟩=some (.int .i64 t):=by rw [cell_of_row Wa w2.heap.size 4 _ 39 (0,0) pa];rfl
     have d0:Wa.cell? ⟨w.heap.size,0,none⟩=some (.string ⟨#[]⟩):=by rw [cell_of_row Wa w.heap.size 0 _ 39 (0,0) qa];rfl
     have d1:Wa.cell? ⟨w.heap.size,1,none⟩=some (.bool false):=by rw [cell_of_row Wa w.heap.size 1 _ 39 (0,0) qa];rfl
     have d2:Wa.cell? ⟨w.heap.size,2,none⟩=some (.string ⟨#[]⟩):=by rw [cell_of_row Wa w.heap.size 2 _ 39 (0,0) qa];rfl
     have d3:Wa.cell? ⟨w.heap.size,3,none⟩=some (.int .i64 0):=by rw [cell_of_row Wa w.heap.size 3 _ 39 (0,0) qa];rfl
     have d4:Wa.cell? ⟨w.heap.size,4,none⟩=some (.int .i64 0):=by rw [cell_of_row Wa w.heap.size 4 _ 39 (0,0) qa];rfl
     have g0:Wa.frozen? ⟨w.heap.size,0,none⟩=false:=frozen_of_row Wa w.heap.size 0 _ 39 qa;have g1:Wa.frozen? ⟨w.heap.size,1,none⟩=false:=frozen_of_row Wa w.heap.size 1 _ 39 qa;have g2:Wa.frozen? ⟨w.heap.size,2,none⟩=false:=frozen_of_row Wa w.heap.size 2 _ 39 qa;have g3:Wa.frozen? ⟨w.heap.size,3,none⟩=false:=frozen_of_row Wa w.heap.size 3 _ 39 qa;have g4:Wa.frozen? ⟨w.heap.size,4,none⟩=false:=frozen_of_row Wa w.heap.size 4 _ 39 qa;have Qa:=hidI qa;have Ra:=hidI ra;have HTa:=hidI Ta;have HWa:=hidI hWa;clear pa qa ra Ta hWa p9 q9 r9 T9;go_wp2_with (rw [←HWa.out]);have hrow:=qev Qa.out (.string Y) (.bool false) (.string Z) (.int .i64 md) (.int .i64 t);have hh:=(qcb Wa w.heap.size (.string Y) (.bool false) (.string Z) (.int .i64 md) (.int .i64 t) rb (by omega)).trans Ra.out
     have ht:=qcS HTa.out (Nat.le_refl _) (.string Y) (.bool false) (.string Z) (.int .i64 md) (.int .i64 t);have hY:=HY.out;have hZ:=HZ.out;have hE:=HE.out;have hV:=HV.out;have hS:=HSO.out;refine bodyPost_ret (v:=.agg #[.string Y,.bool false,.string Z,.int .i64 md,.int .i64 t]) ?_ rfl ?_
     ·simp [results,go_sem,d0,d1,d2,d3,d4]
     rw [hE];simp only;rw [←hV,←hS];refine ⟨by rw [hY,hZ];rfl,?_,ht⟩;simp only [Bool.and_true];exact hh
   | false =>
     have k0:=r9.c0;have k1:=r9.c1;have m1:=r9.fz 1;obtain ⟨wf,hwf⟩:∃ wf,wf=w9.setCell ⟨rb,1,none⟩ (.bool false):=⟨_,rfl⟩;replace p9:wf.heap[w2.heap.size]? = some (.cells #[.string Y,.bool false,.string ⟨#[]⟩,.int .i64 md,.int .i64 t] 39 (0,0)):=by rw [hwf];exact (Below.heap_setCell w9 ⟨rb,1,none⟩ _ _ (by simp;omega)).trans p9
     replace q9:wf.heap[w.heap.size]? = some (.cells #[.string ⟨#[]⟩,.bool false,.string ⟨#[]⟩,.int .i64 0,.int .i64 0] 39 (0,0)):=by rw [hwf];exact (Below.heap_setCell w9 ⟨rb,1,none⟩ _ _ (by simp;omega)).trans q9
     replace r9:RdAt wf rb (r6.1,false):=by rw [hwf];exact heap_setCell_same w9 rb 1 _ 151 (.bool false) r9
     replace T9:Hid (Turn rb w wf):=hidI (by rw [hwf];exact T9.out.set _ _);have HWf:=hidI hwf;obtain ⟨Wa,hWa⟩:∃ Wa,Wa=(wf).setCell ⟨w2.heap.size,2,none⟩ (.string Z):=⟨_,rfl⟩;have pa:Wa.heap[w2.heap.size]? = some (.cells #[.string Y,.bool false,.string Z,.int .i64 md,.int .i64 t] 39 (0,0)):=by rw [hWa];exact heap_setCell_same _ w2.heap.size 2 _ 39 _ p9
     have qa:Wa.heap[w.heap.size]? = some (.cells #[.string ⟨#[]⟩,.bool false,.string ⟨#[]⟩,.int .i64 0,.int .i64 0] 39 (0,0)):=by rw [hWa];exact (Below.heap_setCell _ ⟨w2.heap.size,2,none⟩ _ _ (by simp;omega)).trans q9
     have ra:RdAt Wa rb (r6.1,false):=by rw [hWa];exact (Below.heap_setCell _ ⟨w2.heap.size,2,none⟩ _ _ (by simp;omega)).trans r9
     have Ta:Turn rb w Wa:=by rw [hWa];exact T9.out.setNew (by omega) _ _
     have c92:wf.cell? ⟨w2.heap.size,2,none⟩=some (.string ⟨#[]⟩):=by rw [cell_of_row _ w2.heap.size 2 _ 39 (0,0) p9];rfl
     have f92:wf.frozen? ⟨w2.heap.size,2,none⟩=false:=frozen_of_row _ w2.heap.size 2 _ 39 p9;have c60:Wa.cell? ⟨w2.heap.size,0,none⟩=some (.string Y):=by rw [cell_of_row Wa w2.heap.size 0 _ 39 (0,0) pa];rfl
     have c61:Wa.cell? ⟨w2.heap.size,1,none⟩=some (.bool false):=by rw [cell_of_row Wa w2.heap.size 1 _ 39 (0,0) pa];rfl
     have c62:Wa.cell? ⟨w2.heap.size,2,none⟩=some (.string Z):=by rw [cell_of_row Wa w2.heap.size 2 _ 39 (0,0) pa];rfl
     have c63:Wa.cell? ⟨w2.heap.size,3,none⟩=some (.int .i64 md):=by rw [cell_of_row Wa w2.heap.size 3 _ 39 (0,0) pa];rfl
     have c64:Wa.cell? ⟨w2.heap.size,4,none⟩=some (.int .i64 t):=by rw [cell_of_row Wa w2.heap.size 4 _ 39 (0,0) pa];rfl
     have d0:Wa.cell? ⟨w.heap.size,0,none⟩=some (.string ⟨#[]⟩):=by rw [cell_of_row Wa w.heap.size 0 _ 39 (0,0) qa];rfl
     have d1:Wa.cell? ⟨w.heap.size,1,none⟩=some (.bool false):=by rw [cell_of_row Wa w.heap.size 1 _ 39 (0,0) qa];rfl
     have d2:Wa.cell? ⟨w.heap.size,2,none⟩=some (.string ⟨#[]⟩):=by rw [cell_of_row Wa w.heap.size 2 _ 39 (0,0) qa];rfl
     have d3:Wa.cell? ⟨w.heap.size,3,none⟩=some (.int .i64 0):=by rw [cell_of_row Wa w.heap.size 3 _ 39 (0,0) qa];rfl
     have d4:Wa.cell? ⟨w.heap.size,4,none⟩=some (.int .i64 0):=by rw [cell_of_row Wa w.heap.size 4 _ 39 (0,0) qa];rfl
     have g0:Wa.frozen? ⟨w.heap.size,0,none⟩=false:=frozen_of_row Wa w.heap.size 0 _ 39 qa;have g1:Wa.frozen? ⟨w.heap.size,1,none⟩=false:=frozen_of_row Wa w.heap.size 1 _ 39 qa;have g2:Wa.frozen? ⟨w.heap.size,2,none⟩=false:=frozen_of_row Wa w.heap.size 2 _ 39 qa;have g3:Wa.frozen? ⟨w.heap.size,3,none⟩=false:=frozen_of_row Wa w.heap.size 3 _ 39 qa;have g4:Wa.frozen? ⟨w.heap.size,4,none⟩=false:=frozen_of_row Wa w.heap.size 4 _ 39 qa;have Qa:=hidI qa;have Ra:=hidI ra;have HTa:=hidI Ta;have HWa:=hidI hWa;clear pa qa ra Ta hWa p9 q9 r9 T9 hwf;go_wp2_with (first | rw [←HWf.out] | rw [←HWa.out]);have hrow:=qev Qa.out (.string Y) (.bool false) (.string Z) (.int .i64 md) (.int .i64 t);have hh:=(qcb Wa w.heap.size (.string Y) (.bool false) (.string Z) (.int .i64 md) (.int .i64 t) rb (by omega)).trans Ra.out
     have ht:=qcS HTa.out (Nat.le_refl _) (.string Y) (.bool false) (.string Z) (.int .i64 md) (.int .i64 t);have hY:=HY.out;have hZ:=HZ.out;have hE:=HE.out;have hV:=HV.out;have hS:=HSO.out;refine bodyPost_ret (v:=.agg #[.string Y,.bool false,.string Z,.int .i64 md,.int .i64 t]) ?_ rfl ?_
     ·simp [results,go_sem,d0,d1,d2,d3,d4]
     rw [hE];simp only;rw [←hV,←hS];refine ⟨by rw [hY,hZ];rfl,?_,ht⟩;simp only [Bool.and_false];exact hh
end Go.Proofs.YtodmdkhdbfbfgaaGreatDoor
namespace Go.Proofs.YtodmdkhdbfbfgaaGreatDoor
open Go.RowKit Go.Nt
theorem qhJ (w:World) (lo hi cb:Nat) (L:S1.Loc) (m:S1.M) (X:ByteArray) (b n e:Nat) (q:Option Nat) (h:S1.CP w lo hi cb L m) (hsz:hi≤w.heap.size) :
 Calls Tryz.prog 47 #[.pointer (some ⟨cb,0,none⟩),.agg #[.string X,.int .i64 (b:Nat),.int .u32 (n:Nat),.map q,.int .i64 (e:Nat)]] w fun e' w'=>∃ lb,e'=.returned (.pointer (some ⟨lb,0,none⟩))∧w.heap.size≤lb∧S1.LogAt w' lb cb ⟨b,n,none⟩ q none e m.np∧Below w.heap.size w w':=by
 obtain ⟨W1,hW1⟩:∃ W1,W1=w.alloc (.cells #[.string X,.int .i64 (b:Nat),.int .u32 (n:Nat),.map q,.int .i64 (e:Nat)] 94):=⟨_,rfl⟩;obtain ⟨rb,hrb⟩:∃ rb,rb=w.heap.size:=⟨_,rfl⟩;have hb1:Below w.heap.size w W1:=by rw [hW1];exact (Below.refl _ w).alloc (Nat.le_refl _) _
 have hr1:W1.heap[rb]? = some (.cells #[.string X,.int .i64 (b:Nat),.int .u32 (n:Nat),.map q,.int .i64 (e:Nat)] 94 (0,0)):=by rw [hW1,hrb];exact heap_alloc_new _ _
 have hC1:S1.CP W1 lo hi cb L m:=S1.MemX.below h hsz hb1;have A:=hidI (S1.pages_any W1.drew lo hi cb L m hC1.drew);have r1:W1.drew.cell? ⟨rb,1,none⟩=some (.int .i64 (b:Nat)):=by rw [World.cell?_of_block (w:=W1) (w':=W1.drew) rfl,cell_of_row W1 rb 1 _ 94 (0,0) hr1];rfl
 have r2:W1.drew.cell? ⟨rb,2,none⟩=some (.int .u32 (n:Nat)):=by rw [World.cell?_of_block (w:=W1) (w':=W1.drew) rfl,cell_of_row W1 rb 2 _ 94 (0,0) hr1];rfl
 have r3:W1.drew.cell? ⟨rb,3,none⟩=some (.map q):=by rw [World.cell?_of_block (w:=W1) (w':=W1.drew) rfl,cell_of_row W1 rb 3 _ 94 (0,0) hr1];rfl
 have r4:W1.drew.cell? ⟨rb,4,none⟩=some (.int .i64 (e:Nat)):=by rw [World.cell?_of_block (w:=W1) (w':=W1.drew) rfl,cell_of_row W1 rb 4 _ 94 (0,0) hr1];rfl
 obtain ⟨np,hnp⟩:∃ np,np=m.np:=⟨_,rfl⟩;rw [←hnp] at A ⊢;have HB1:=hidI hb1;have HW1:=hidI hW1;have Hrb:=hidI hrb;have hlt:=lt_of_heap hr1;rw [←hrb];rw [←hrb] at HB1;clear hnp hW1 hrb hb1 hC1 h hr1;go_enter Tryz.func47,Tryz.ntmps47
 go_wp2_with (first | (rw [←HW1.out,←Hrb.out]) | fail);refine wp_region_held_drew (S:=fun V=>V.cell? ⟨rb,1,none⟩=some (.int .i64 (b:Nat))∧V.cell? ⟨rb,2,none⟩=some (.int .u32 (n:Nat))∧V.cell? ⟨rb,3,none⟩=some (.map q)∧V.cell? ⟨rb,4,none⟩=some (.int .i64 (e:Nat))) (by kernel_rfl) ⟨r1,r2,r3,r4⟩ (fun hHeld => ?_);refine tk 0 ⟨some 5,.move (.tmp 0),_,_,_,none⟩ (.pointer (some ⟨cb,0,none⟩)) rfl (fun w h=>by go_simp) hHeld ?_;simp only [zP,List.set];refine tk 1 ⟨some 6,.fieldAddr 94 (.tmp 3) 1,_,_,_,none⟩ (.pointer (some ⟨rb,1,none⟩)) rfl (fun w h=>by go_simp) hHeld ?_;simp only [zP,List.set]
 refine tk 2 ⟨some 7,.load 90 (.tmp 6),_,_,_,none⟩ (.agg #[.int .i64 (b:Nat),.int .u32 (n:Nat)]) rfl (fun w h=>by go_simp) hHeld ?_;simp only [zP,List.set];refine tk 3 ⟨some 8,.fieldAddr 94 (.tmp 3) 2,_,_,_,none⟩ (.pointer (some ⟨rb,3,none⟩)) rfl (fun w h=>by go_simp) hHeld ?_;simp only [zP,List.set];refine tk 4 ⟨some 9,.load 92 (.tmp 8),_,_,_,none⟩ (.map q) rfl (fun w h=>by go_simp) hHeld ?_;simp only [zP,List.set];refine tk 5 ⟨some 10,.fieldAddr 94 (.tmp 3) 3,_,_,_,none⟩ (.pointer (some ⟨rb,4,none⟩)) rfl (fun w h=>by go_simp) hHeld ?_;simp only [zP,List.set]
 refine tk 6 ⟨some 11,.load 3 (.tmp 10),_,_,_,none⟩ (.int .i64 (e:Nat)) rfl (fun w h=>by go_simp) hHeld ?_;simp only [zP,List.set];refine tk 7 ⟨some 12,.move (.tmp 0),_,_,_,none⟩ (.pointer (some ⟨cb,0,none⟩)) rfl (fun w h=>by go_simp) hHeld ?_;simp only [zP,List.set];refine rd 8 rfl (fun K hK => ?_);go_simp;refine A.out.mono ?_;rintro e' w' ⟨rfl,hw⟩;have hw':=hw.symm;subst hw';clear hw;refine hK.out _ _ ⟨r1,r2,r3,r4⟩ (fun hHeld => ?_);clear hK K
 refine tk 9 ⟨some 14,.build 132 #[(0,.tmp 5),(1,.tmp 7),(2,.tmp 9),(5,.tmp 11),(6,.tmp 13)],_,_,_,none⟩ (.agg #[.pointer (some ⟨cb,0,none⟩),.int .i64 (b:Nat),.int .u32 (n:Nat),.map q,.map none,.map none,.int .i64 (e:Nat),.int .i64 (np:Nat)]) rfl (fun w h=>by go_simp) hHeld ?_;simp only [zP,List.set];refine rd 10 rfl (fun K hK => ?_);go_simp;obtain ⟨W2,hW2⟩:∃ W2,W2=(W1.alloc (.cells #[.pointer (some ⟨cb,0,none⟩),.int .i64 (b:Nat),.int .u32 (n:Nat),.map q,.map none,.map none,.int .i64 (e:Nat),.int .i64 (np:Nat)] 132)).drew:=⟨_,rfl⟩;obtain ⟨lb,hlb⟩:∃ lb,lb=W1.heap.size:=⟨_,rfl⟩;have hk:∀ k,W2.cell? ⟨rb,k,none⟩=W1.drew.cell? ⟨rb,k,none⟩:=fun k=>by rw [hW2];exact World.cell?_of_block (Below.heap_alloc W1 _ rb hlt)
 have r1':=(hk 1).trans r1;have r2':=(hk 2).trans r2;have r3':=(hk 3).trans r3;have r4':=(hk 4).trans r4;have HLg:Hid (S1.LogAt W2 lb cb ⟨b,n,none⟩ q none e np):=hidI (by show W2.heap[lb]? = _;rw [hW2,hlb];exact heap_alloc_new _ _);have HB2:Hid (Below rb w W2):=hidI (by rw [hW2];exact qas (HB1.out.alloc (by omega) _));have hlr:rb≤lb:=by omega
 refine hK.out _ _ (by rw [←hW2];exact ⟨r1',r2',r3',r4'⟩) (fun hHeld => ?_);rw [←hW2] at hHeld ⊢;simp only [←hlb];clear hK K hW2 hlb hk;refine tk 11 ⟨some 4,.assign (.tmp 15),_,_,_,none⟩ (.pointer (some ⟨lb,0,none⟩)) rfl (fun w h=>by go_simp) hHeld ?_;simp only [zP,List.set];refine wpAnyH_done (by kernel_rfl) ?_ _;clear hHeld;go_wp2_with fail;go_ret
 exact ⟨lb,rfl,hlr,HLg.out,HB2.out⟩
def FsAt (w:World) (fb cb lb tb:Nat):Prop:=w.heap[fb]? = some (.cells #[.pointer (some ⟨cb,0,none⟩),.pointer (some ⟨lb,0,none⟩),.map (some tb)] 79 (0,0))
theorem FsAt.c2 {w:World} {fb cb lb tb:Nat} (h:FsAt w fb cb lb tb):w.cell? ⟨fb,2,none⟩=some (.map (some tb)):=by rw [cell_of_row w fb 2 _ 79 (0,0) h];rfl
theorem qdX (w:World) (fb cb lb tb:Nat) (l:List It) (h:FsAt w fb cb lb tb) (hT:TreeAt w tb l) (ht:TreeP l) (hml:ML w) :
 Calls Tryz.prog 12 #[.pointer (some ⟨fb,0,none⟩)] w fun e w'=>Below w.heap.size w w'∧∃ v,e=.returned v∧w'.ownsRow w.heap.size 39 5 v l.length (its (qaf l)):=by
 have c2:=h.c2;have A:=hidI (qdo tb l w hT ht.nodup (by have:=ht.len;omega) hml (fun x hx=>by have:=(qaC (ht.ok x hx)).p;omega));clear h hT ht hml;go_enter Tryz.func12,Tryz.ntmps12
 go_wp2_with fail;refine A.out.mono ?_;rintro e W1 ⟨hb,v,rfl,ho⟩;have Ho:=hidI ho;have Hb:=hidI hb;obtain ⟨a2,c2',rfl,hin⟩:=qbY (l:=qaf l) (by rw [(qaM l).length_eq];exact ho);clear ho hb hin;go_wp2_with fail;go_ret
 exact ⟨Hb.out,_,rfl,Ho.out⟩
theorem Turn.own {rb:Nat} {a b:World} (h:Turn rb a b) {x:Array Value} {T:TypeId} {f:Nat × Nat} (hrb:a.heap[rb]? = some (.cells x T f)) {base e s n:Nat} {v:Value} {xs:List Value} (ho:a.ownsRow base e s v n xs) (hne:e≠T):b.ownsRow base e s v n xs:=by
 refine ⟨ho.1,?_⟩;rcases ho.2 with ⟨rfl,h0⟩ | ⟨g,cap,cur,rfl,h1,hh,h2⟩
 ·exact .inl ⟨rfl,h0⟩
 refine .inr ⟨g,cap,cur,rfl,h1,(h.block g (lt_of_heap hh) (fun e' => ?_)).trans hh,h2⟩;subst e';rw [hrb] at hh;cases hh
 exact hne rfl
theorem RdAt.grown {w w':World} {rb:Nat} {r:Rd} (h:RdAt w rb r) {base n s:Nat} {v:Value} {xs:List Value} (hown:w.ownsRow base 39 s v n xs) (hg:w.grownBy w' v.ownBlock):RdAt w' rb r:=
 ((But.refl 39 w).grown hown hg).cells h (by decide)
theorem qez (k:Nat) (r:Rd):(nmb k r).2.1.length≤r.1.length:=(qa9 k r).2
theorem qib (u:Bs→Option Bs) (r:Rd):(rdItem u r).2.1.length≤r.1.length:=by
 unfold rdItem;simp only;have h1:=qez 2 r;have h2:=qez 4 (nmb 2 r).2;have h3:=qez 1 (nmb 4 (nmb 2 r).2).2;have h4:=(qa9 (nmb 1 (nmb 4 (nmb 2 r).2).2).1 (nmb 1 (nmb 4 (nmb 2 r).2).2).2).2;by_cases hk:32768≤(nmb 2 r).1
 ·rw [if_pos hk];simp only;omega
 rw [if_neg hk];have h5:=qez 2 (Go.Nt.tk (nmb 1 (nmb 4 (nmb 2 r).2).2).1 (nmb 1 (nmb 4 (nmb 2 r).2).2).2).2;have h6:=(qa9 (nmb 2 (Go.Nt.tk (nmb 1 (nmb 4 (nmb 2 r).2).2).1 (nmb 1 (nmb 4 (nmb 2 r).2).2).2).2).1 (nmb 2 (Go.Nt.tk (nmb 1 (nmb 4 (nmb 2 r).2).2).1 (nmb 1 (nmb 4 (nmb 2 r).2).2).2).2).2).2;simp only;omega
theorem qhV {u:Bs→Option Bs} (hu:∀ t d:Bs,u t=some d→d.length≤4000) (r:Rd):(rdItem u r).1.path.length≤255∧(rdItem u r).1.data.length≤4000:=by
 unfold rdItem;simp only;have hp:(Go.Nt.tk (nmb 1 (nmb 4 (nmb 2 r).2).2).1 (nmb 1 (nmb 4 (nmb 2 r).2).2).2).1.length≤255:=by
  have h1:=(qa9 (nmb 1 (nmb 4 (nmb 2 r).2).2).1 (nmb 1 (nmb 4 (nmb 2 r).2).2).2).1;have h2:=qd0 1 (nmb 4 (nmb 2 r).2).2;omega
 by_cases hk:32768≤(nmb 2 r).1
 ·rw [if_pos hk];exact ⟨hp,by simp⟩
 rw [if_neg hk];refine ⟨hp,?_⟩;simp only;cases h:u _ with
 | none=>simp
 | some d=>simpa using hu _ d h
def FromP (u:Bs→Option Bs) (t:Bs) (w:World) (e:Ending) (w':World):Prop:=
 Below w.heap.size w w' ∧
  ((e=.returned (.tuple #[.map none,.bool false])∧∀ l,parse u t=some l→isTree l=false) ∨
  ∃ l b,parse u t=some l∧isTree l=true∧e=.returned (.tuple #[.map (some b),.bool true])∧w.heap.size≤b∧TreeAt w' b l)
theorem qfh {u:Bs→Option Bs} (hP:PackC u) (t:Bs) (w:World) (hml:ML w) (ht:t.length≤1000000) :
 Calls Tryz.prog 46 #[.string (txt t)] w fun e w'=>FromP u t w e w':=by
 obtain ⟨i0,hi,hz0,hz1,hz2⟩:=info_parts Tryz.info24;have hml0:=hml.lt;have Hml:=hidI hml;obtain ⟨W0,hW0⟩:∃ W0,W0=w.alloc (.cells #[.string (txt t),.bool true] 151):=⟨_,rfl⟩;have h0:RdAt W0 w.heap.size (t,true):=by rw [hW0];exact heap_alloc_new _ _
 have hB0:Below w.heap.size w W0:=by rw [hW0];exact (Below.refl _ w).alloc (Nat.le_refl _) _
 have hs0:W0.heap.size=w.heap.size+1:=by rw [hW0];simp
 have A1:=hidI (qbd w.heap.size (t,true) 1 W0 h0 (by decide) ht);obtain ⟨nr,hn⟩:∃ nr,nr=nmb 1 (t,true):=⟨_,rfl⟩;obtain ⟨m0,r0⟩:=nr;have hm0:m0<256:=by have:=qd0 1 (t,true);rw [←hn] at this;exact this
 have l0:r0.1.length≤1000000:=by have:=(qa9 1 (t,true)).2;have e:(nmb 1 (t,true)).2=(Go.Nt.tk 1 (t,true)).2:=rfl;rw [←hn] at e;rw [←e] at this;exact Nat.le_trans this ht
 rw [←hn] at A1;simp only at A1;have Hpar:Hid (parse u t=if (qaK u m0 r0 []).2.2 then some (qaK u m0 r0 []).1 else none):=hidI (by unfold parse;rw [←hn]);have HW0:=hidI hW0;have HB0:=hidI hB0;clear hml hW0 h0 hB0 hn;go_enter Tryz.func46,Tryz.ntmps46
 go_wp2_with (first | (rw [←HW0.out]) | fail);refine A1.out.mono ?_;rintro e w1 ⟨rfl,h1,t1⟩;have HB1:=hidI (HB0.out.trans (t1.below (Nat.le_refl _) (by omega)));have hs1:=t1.size;have H1:=hidI h1;clear A1 h1 t1;go_wp2
 go_loopw [5,6] (fun v i wr=>∃ (m:Nat) (r:Rd) (acc:List It),i=.int .i64 m∧m+acc.length=m0∧Hid (qaK u m0 r0 []=qaK u m r acc)∧r.1.length≤1000000∧Hid (RdAt wr w.heap.size r)∧Hid (wr.ownsRow w.heap.size 39 5 v acc.length (its acc))∧Hid (Below w.heap.size w wr)∧Hid (∀ x∈acc,x.path.length≤255∧x.data.length≤4000)) (fun _ i _=>(intOf i).toNat)
 case atStart=>exact ⟨m0,r0,[],rfl,by simp,hidI rfl,l0,H1,hidI (World.ownsRow_nil _ _ _ _),HB1,hidI (by simp)⟩
 case round =>
  obtain ⟨m,r,acc,rfl,hm,Hrd,lr,HR,HO,HB,Hfit⟩:=hrel;have hszr:=HB.out.size;have k1:=HR.out.c1;obtain ⟨fn,hfn⟩:∃ fn,fn=r.2:=⟨_,rfl⟩;rw [←hfn] at k1;have Hfn:=hidI hfn;clear hfn;obtain ⟨a2,c2,rfl,hin⟩:=qbY HO.out;obtain ⟨L,hL⟩:∃ L,L=acc.length:=⟨_,rfl⟩;rw [←hL] at HO ⊢;have hLm:m+L=m0:=by omega
  have HL:=hidI hL;have Hin:=hidI hin;clear hL hin hm;cases m with
  | zero =>
    have hend:Hid (qaK u m0 r0 []=(acc,r)):=Hrd;cases fn with
    | false =>
      go_wp2;go_ret2
      exact ⟨HB.out,.inl ⟨rfl,fun l hl=>by rw [Hpar.out,hend.out] at hl;simp only at hl;rw [←Hfn.out] at hl;cases hl⟩⟩
    | true =>
      have HN:=hidI (new_any a2 c2 acc wr (Hml.out.below HB.out hml0) Hin.out (by rw [←HL.out];omega) (fun x hx=>by have:=(Hfit.out x hx).1;omega) (fun x hx=>by have:=(Hfit.out x hx).2;omega));rw [←HL.out] at HN;have Hp:Hid (parse u t=some acc):=hidI (by rw [Hpar.out,hend.out];simp only;rw [←Hfn.out];rfl);go_wp2_with fail;refine HN.out.mono ?_;rintro e w5 ⟨hb5,⟨hno,rfl⟩ | ⟨hyes,b,rfl,hbb,hT⟩⟩
      ·have HB5:=hidI (HB.out.trans (hb5.mono hszr));clear hb5 HN;go_wp2;go_ret2
       exact ⟨HB5.out,.inl ⟨rfl,fun l hl=>by rw [Hp.out] at hl;cases hl;exact hno⟩⟩
      have HB5:=hidI (HB.out.trans (hb5.mono hszr));have HT:=hidI hT;clear hb5 HN hT;go_wp2;go_ret2
      exact ⟨HB5.out,.inr ⟨acc,b,Hp.out,hyes,rfl,by omega,HT.out⟩⟩
  | succ m =>
    cases fn with
    | false =>
      have hend:Hid (qaK u m0 r0 []=(acc,r)):=hidI (by rw [Hrd.out];show (if r.2 then _ else _)=_;rw [←Hfn.out];rfl);go_wp2;go_ret2
      exact ⟨HB.out,.inl ⟨rfl,fun l hl=>by rw [Hpar.out,hend.out] at hl;simp only at hl;rw [←Hfn.out] at hl;cases hl⟩⟩
    | true =>
      have A:=hidI (qlY hP w.heap.size r wr HR.out lr);have Hstep:Hid (qaK u m0 r0 []=qaK u m (rdItem u r).2 (acc++[(rdItem u r).1])):=hidI (by rw [Hrd.out];show (if r.2 then _ else _)=_;rw [←Hfn.out];rfl);have Hf2:=hidI (qhV hP.small r);have lr2:(rdItem u r).2.1.length≤1000000:=Nat.le_trans (qib u r) lr;obtain ⟨x,hx⟩:∃ x,x=(rdItem u r).1:=⟨_,rfl⟩;obtain ⟨r',hr'⟩:∃ r',r'=(rdItem u r).2:=⟨_,rfl⟩;rw [←hx,←hr'] at A Hstep;rw [←hx] at Hf2;rw [←hr'] at lr2;unfold itv at A;clear hx hr' Hrd;go_wp2_with fail;refine A.out.mono ?_;rintro e w3 ⟨rfl,h3,t3⟩;have ho3:=t3.own HR.out HO.out (by decide);have hb3:=HB.out.trans (t3.below (Nat.le_refl _) (by omega));have hs3:=t3.size;have hrlt:=HR.out.lt;have HO3:=hidI ho3;have HB3:=hidI hb3;have H3:=hidI h3;clear A h3 t3 ho3 hb3 k1
      go_wp2_with (at_builtin;refine wpList_append_own _ rfl (.tmp 20) (.tmp 22) 26 rfl w.heap.size 39 i0 _ 5 56 Tryz.underlying26 hi hz0 hz1 hz2 rfl (by decide) _ _ _ rfl (HO3.out.alloc _) ⟨w3.heap.size,0,none⟩ 1 1 (itl x) rfl ?e1 ?e2 ?e3 ?e4 ?e5 ?e6 ?_)
      case e1=>rfl
      case e2 =>
       intro j v hv;rw [addr_add];have h:=(qcz w3 x).cell hv;unfold boxed at h;simpa using h
      case e3=>intro v hv;exact qck (l:=[x]) v (by rw [qcX];exact hv)
      case e4=>unfold maxLen;omega
      case e5=>omega
      case e6=>simp;omega
      intro v4 w4 hown4 hgrow4 _;have hb4:Below w.heap.size w w4:=(HB3.out.alloc (by omega) _).grown hgrow4 (by simp;omega) (fun q hq=>(HO3.out.lt q hq).1);have h4:RdAt w4 w.heap.size r':=RdAt.grown ((Below.heap_alloc w3 _ _ (by omega)).trans H3.out) (HO3.out.alloc _) hgrow4;have HO4:Hid (w4.ownsRow w.heap.size 39 5 v4 (acc++[x]).length (its (acc++[x]))):=hidI (by rw [qb6,qcX,List.length_append,←HL.out];exact hown4);have HB4:=hidI hb4;have H4:=hidI h4;clear hown4 hgrow4 hb4 h4;go_wp2;go_roundw
      case rel=>exact ⟨m,r',acc++[x],by go_num,by rw [List.length_append,←HL.out];simp;omega,Hstep,lr2,H4,HO4,HB4,hidI (fun y hy=>(List.mem_append.1 hy).elim (Hfit.out y) (fun e=>by simp at e;subst e;exact Hf2.out))⟩
      case measure=>simp [intOf]
end Go.Proofs.YtodmdkhdbfbfgaaGreatDoor
