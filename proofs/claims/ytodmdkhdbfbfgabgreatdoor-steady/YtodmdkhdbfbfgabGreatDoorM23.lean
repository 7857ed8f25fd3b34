/- Lemmas. -/
import Derived.Laws.RangeAny
import Derived.Laws.Runes
import Derived.WalkMore
import Derived.Lib.OthersKept
import Derived.RangeFuncNested
import Derived.RangeFuncBound
import Derived.RangeFuncCalls
import Derived.RangeFuncLeaves
import Derived.Shelf.Strings.Count
import Derived.Test.YtodmdkhdbfbfgabGreatDoorM22
set_option linter.unusedVariables false
set_option linter.unusedSimpArgs false
set_option maxRecDepth 100000
set_option maxHeartbeats 8000000
namespace Go.Proofs.YtodmdkhdbfbfgabGreatDoor
open Go.RowKit Go.Nt
def two:ByteArray:=⟨#[47,0]⟩
theorem qhs:two.size=2:=rfl
theorem qea (w:World) (s:ByteArray) (k:Nat):Below w.heap.size w (w.iter s k):=by
 exact (Below.refl _ w).alloc (Nat.le_refl _) _
theorem qmy {r:Int} (h:Lib.validRune r=true):Utf8.valid r=true:=by
 unfold Lib.validRune at h;unfold Utf8.valid;simp at h ⊢;omega
theorem qjC (r:Int) (w:World) (h0:128≤r) (h1:r≤2147483647) :
 Calls Tryz.prog 209 #[.string two,.int .i32 r] w fun e w'=>e=.returned (.int .i64 (-1))∧Below w.heap.size w w':=by
 by_cases he:r=65533
 ·subst he;go_enter Tryz.func209,Tryz.ntmps209
  go_wp2
  go_loopg [5,6] 2 (fun g _ _ wx=>∃ i:Nat,i+g=2∧wx=w.iter two i)
  case atStart=>exact ⟨0,by omega,rfl⟩
  case round =>
   obtain ⟨i,hig,rfl⟩:=hrel;cases gk with
   | zero =>
     obtain rfl:i=2:=by omega
     have hnx:=fun ty=>run_next_end (P:=Tryz.prog) w two 2 ty (by decide)
     go_wp2;go_ret
     exact ⟨rfl,qea w two 2⟩
   | succ g =>
     have hi:i<two.size:=by rw [qhs];omega
     have hb:(two[i]'hi).toNat<128∧(((two[i]'hi).toNat:Int)==65533)=false:=by
      have:i=0∨i=1:=by omega
      rcases this with rfl | rfl
      ·exact ⟨by show (47:UInt8).toNat<128;decide,by show (((47:UInt8).toNat:Int)==65533)=false;decide⟩
      ·exact ⟨by show (0:UInt8).toNat<128;decide,by show (((0:UInt8).toNat:Int)==65533)=false;decide⟩
     have hnx:=fun ty=>run_next_ascii (P:=Tryz.prog) w two i ty hi hb.1
     have hb2:=hb.2;clear hb;go_wp2;go_roundg g
     case measure=>omega
     case rel=>exact ⟨i+1,by omega,rfl⟩
 ·by_cases hv:Lib.validRune r=true
  ·go_enter Tryz.func209,Tryz.ntmps209
   go_wp2_with (go_at_call 238;refine (Tryz.utf8_ValidRune _ _).mono ?_;rintro e w' ⟨rfl,hw⟩;have hw':=hw.symm;subst hw';rw [hv]);obtain ⟨f1,f2,f3⟩:=encode_facts r (qmy hv) h0;have hcv:=fun w=>run_convert_int_string (P:=Tryz.prog) w 21 9 .i32 r (by rw [Tryz.underlying21];rfl) Tryz.underlying9
   generalize Utf8.encode r=E at *
   have f4:E.size - 1<E.size:=by omega
   have f5:=f3 f4;by_cases h2:E.size=2
   ·have g1:1<E.size:=by omega
    have g2:128≤(E[1]'g1).toNat:=by have h:=f5;simp only [h2] at h;exact h
    have hi1:((E.size:Int) - 1)=1:=by omega
    have hb0:(two[1]'(by decide)).toNat=0:=rfl;have g3:(((two[1]'(by decide)).toNat:Int) != ((E[1]'g1).toNat:Int))=true:=bne_iff_ne.2 (by rw [hb0];omega);have g4:(1:Nat)<two.size:=by decide
    have g5:((1:Int)<(two.size:Int)):=by decide
    have g6:decide ((1:Int)<(two.size:Int))=true:=by decide
    clear f5 f4 f3 f1 f2;go_wp2
    go_step3
    go_wp2
    go_loopw [9,10] (fun i f wr=>i=.int .i64 1∧wr=w) (fun i _ _=>0)
    case atStart=>exact ⟨rfl,rfl⟩
    case round =>
     obtain ⟨rfl,rfl⟩:=hrel;go_wp2
     go_step3
     go_wp2
     go_quiet (fail)
     go_wp2;have hx:two.extract 2 2=txt []:=by rw [Lib.extract_eq];rfl
     have HIB:Hid (∀ c w,Calls Tryz.prog 237 #[.string (two.extract 2 two.size),.int .u8 c] w fun e w'=>e=.returned (.int .i64 (-1))∧w'=w):=fun c w=>by
      have:=Tryz.strings_IndexByte (two.extract 2 two.size) c w
      have e2:(two.extract 2 two.size).data.toList=[]:=by rw [Lib.extract_eq];rfl
      rw [e2] at this;exact this
     go_region_with (go_at_call 237;refine (HIB.out _ _).mono ?_;rintro e w' ⟨rfl,hw⟩;have hw':=hw.symm;subst hw')
     all_goals
      go_wp2;simp (config:={ zetaDelta:=true }) only [Exit.inBlock,Exit.then,Exit.noGoto_ret];go_ret
      exact ⟨rfl,below_drewN (Below.refl _ _) _⟩
   ·have h3:decide (((E.size:Int) - 1)<(two.size:Int))=false:=by rw [qhs];simp;omega
    go_wp2
    go_step3
    go_wp2
    go_loopw [9,10] (fun i f wr=>i=.int .i64 ((E.size:Int) - 1)∧wr=w) (fun i _ _=>0)
    case atStart=>exact ⟨rfl,rfl⟩
    case round =>
     obtain ⟨rfl,rfl⟩:=hrel;go_wp2;rw [Exit.noGoto_ret];go_ret
     exact ⟨rfl,Below.refl _ _⟩
  ·have hv':Lib.validRune r=false:=by simpa using hv
   go_enter Tryz.func209,Tryz.ntmps209
   go_wp2_with (go_at_call 238;refine (Tryz.utf8_ValidRune _ _).mono ?_;rintro e w' ⟨rfl,hw⟩;have hw':=hw.symm;subst hw';rw [hv']);go_ret
   exact ⟨rfl,Below.refl _ _⟩
theorem qmW (s:ByteArray) (k:Nat) (h:k<s.size):s.get! k=s[k]'h:=by
 simp [ByteArray.get!,getElem!_pos,h];rfl
theorem qg4 (s:ByteArray) (i:Nat) (h:i<s.size) (ha:128≤(s[i]'h).toNat):i+(Utf8.decode s i).2≤s.size∧∀ j (hj:j<s.size),i≤j→j<i+(Utf8.decode s i).2→128≤(s[j]'hj).toNat:=by
 have key:∀ k,i+k<s.size→(s.get! (i+k)).toNat/64=2→∀ hj:i+k<s.size,128≤(s[i+k]'hj).toNat:=by
  intro k hk he hj;rw [qmW s (i+k) hj] at he;omega
 have one:i+1≤s.size∧∀ j (hj:j<s.size),i≤j→j<i+1→128≤(s[j]'hj).toNat:=by
  refine ⟨by omega,fun j hj h1 h2 => ?_⟩;obtain rfl:j=i:=by omega
  exact ha
 have at0:(s.get! (i+0)).toNat=(s[i]'h).toNat:=by rw [Nat.add_zero,qmW s i h]
 have hn:¬(s.get! (i+0)).toNat<128:=by rw [at0];omega
 simp only [Utf8.decode];rw [if_neg hn]
 split
 ·rename_i hc;simp only [Bool.and_eq_true,decide_eq_true_eq,beq_iff_eq] at hc
  split
  ·refine ⟨by omega,fun j hj h1 h2 => ?_⟩
   have:j=i∨j=i+1:=by omega
   rcases this with rfl | rfl
   ·exact ha
   ·exact key 1 hc.2.1 hc.2.2 hj
  ·exact one
 ·split
  ·rename_i hc;simp only [Bool.and_eq_true,decide_eq_true_eq,beq_iff_eq] at hc
   split
   ·refine ⟨by omega,fun j hj h1 h2 => ?_⟩
    have:j=i∨j=i+1∨j=i+2:=by omega
    rcases this with rfl | rfl | rfl
    ·exact ha
    ·exact key 1 hc.1.2.1 hc.1.2.2 hj
    ·exact key 2 hc.2.1 hc.2.2 hj
   ·exact one
  ·split
   ·rename_i hc;simp only [Bool.and_eq_true,decide_eq_true_eq,beq_iff_eq] at hc
    split
    ·refine ⟨by omega,fun j hj h1 h2 => ?_⟩
     have:j=i∨j=i+1∨j=i+2∨j=i+3:=by omega
     rcases this with rfl | rfl | rfl | rfl
     ·exact ha
     ·exact key 1 hc.1.1.2.1 hc.1.1.2.2 hj
     ·exact key 2 hc.1.2.1 hc.1.2.2 hj
     ·exact key 3 hc.2.1 hc.2.2 hj
    ·exact one
   ·exact one
def bad2 (n:Bs):Bool:=n.any fun c=>c==47||c==0
theorem qnT {n:Bs} (h:∀ j,j<n.length→n.getD j 0≠47∧n.getD j 1≠0):bad2 n=false:=by
 unfold bad2;rw [List.any_eq_false];intro c hc;obtain ⟨j,hj,rfl⟩:=List.getElem_of_mem hc
 have:=h j hj
 simp [List.getD,hj] at this;simp [this]
theorem qhX {n:Bs} {j:Nat} (hj:j<n.length) (h:n.getD j 0=47∨n.getD j 1=0):bad2 n=true:=by
 unfold bad2;rw [List.any_eq_true];refine ⟨n[j],List.getElem_mem hj,?_⟩;simp [List.getD,hj] at h;simpa using h
theorem qnL (x:UInt8):Lib.indexByte two.data.toList x=if x=47 then 0 else if x=0 then 1 else -1:=by
 have:two.data.toList=[47,0]:=rfl
 rw [this];by_cases h1:x=47
 ·subst h1;rfl
 ·by_cases h2:x=0
  ·subst h2;rfl
  ·have h3:(47:UInt8)≠x:=fun e=>h1 e.symm
   have h4:(0:UInt8)≠x:=fun e=>h2 e.symm
   simp [Lib.indexByte,h1,h2,h3,h4]
end Go.Proofs.YtodmdkhdbfbfgabGreatDoor
namespace Go.Proofs.YtodmdkhdbfbfgabGreatDoor
open Go.RowKit Go.Nt Go.Lib
theorem qjM (n:Bs) (w:World) (hn:n.length≤8) :
 Calls Tryz.prog 181 #[.string (txt n),.string two] w fun e w'=>Below w.heap.size w w'∧∃ x,e=.returned (.int .i64 x)∧decide (0≤x)=bad2 n:=by
 obtain ⟨S,hS⟩:∃ S,S=txt n:=⟨_,rfl⟩;have hSz:S.size=n.length:=by rw [hS,qab]
 have HG:Hid (∀ k (h:k<S.size) (d:UInt8),S[k]'h=n.getD k d):=fun k h d=>by
  subst hS;have h':k<n.length:=by rw [qab] at h;exact h
  rw [qaV];simp [List.getD,h']
 rw [←hS];have HSz:=hidI hSz;have hS8:S.size≤8:=by omega
 clear hS hSz hn;have hemp:two.toList.isEmpty=false:=by rw [Lib.toList_data];rfl
 have hn1:((two.size:Int)==1)=false:=by decide
 have h8z:decide ((8:Int)<(S.size:Int))=false:=decide_eq_false (by omega);go_enter Tryz.func181,Tryz.ntmps181
 go_wp2_with (go_at_call 210;refine (Tryz.strings_shouldUseASCIISet _ _).mono ?_;rintro e w' ⟨rfl,hw⟩;rw [hw,h8z])
 go_loopg [9,10] S.size (fun g _ _ wx=>∃ i:Nat,i+g=S.size∧wx.heap[w.heap.size]? = some (.stringIter S i)∧Hid (Below w.heap.size w wx)∧Hid (∀ j,j<i→n.getD j 0≠47∧n.getD j 1≠0))
 case atStart=>exact ⟨0,by omega,heap_alloc_new _ _,hidI (qea w S 0),hidI (fun j h=>absurd h (by omega))⟩
 case round =>
  obtain ⟨i,hig,hit,Hb,Hno⟩:=hrel;cases gk with
  | zero =>
    have hi:i=S.size:=by omega
    have hnx:=fun ty=>run_next_end_at (P:=Tryz.prog) wr w.heap.size S i ty hit (by omega)
    have HR:Hid (bad2 n=false):=qnT fun j hj=>Hno.out j (by have:=HSz.out;omega)
    clear hi hig;go_wp2;go_ret
    exact ⟨Hb.out,_,rfl,by rw [HR.out];rfl⟩
  | succ g =>
    have hi:i<S.size:=by omega
    have hg0:=HG.out i hi 0;have hg1:=HG.out i hi 1;obtain ⟨x,hx⟩:∃ x:UInt8,S[i]'hi=x:=⟨_,rfl⟩;rw [hx] at hg0 hg1;have Hg0:=hidI hg0;have Hg1:=hidI hg1;clear hg0 hg1;by_cases hlow:x.toNat<128
    ·have hnx:=fun ty=>run_next_ascii_at (P:=Tryz.prog) wr w.heap.size S i ty hit hi (by rw [hx];exact hlow)
     rw [hx] at hnx;have Hb2:Hid (Below w.heap.size w (wr.iterAt w.heap.size S (i+1))):=below_iterAt Hb.out (Nat.le_refl _) S (i+1);have Hit2:Hid ((wr.iterAt w.heap.size S (i+1)).heap[w.heap.size]? = some (.stringIter S (i+1))):=iterAt_heap wr w.heap.size S i (i+1) hit;have hback:((x.toNat:Int)).toNat.toUInt8=x:=by simp
     have HI:Hid (∀ W,Calls Tryz.prog 209 #[.string two,.int .i32 (x.toNat:Int)] W fun e w'=>e=.returned (.int .i64 (if x=47 then 0 else if x=0 then 1 else -1))∧w'=W):=fun W=>by
      have:=Tryz.strings_IndexRune_ascii two (x.toNat:Int) W (by omega) (by omega)
      rw [hback,qnL] at this;exact this
     clear hback hx
     generalize wr.iterAt w.heap.size S (i+1)=W at *
     by_cases h47:x=47
     ·rw [if_pos h47] at HI;have HR:Hid (bad2 n=true):=qhX (j:=i) (by have:=HSz.out;omega) (.inl (by rw [←Hg0.out];exact h47));clear h47;go_wp2_with (go_at_call 209;refine (HI.out _).mono ?_;rintro e w' ⟨rfl,hw⟩;have hw':=hw.symm;subst hw');go_ret
      exact ⟨Hb2.out,_,rfl,by rw [HR.out];simp⟩
     ·rw [if_neg h47] at HI;by_cases h0:x=0
      ·rw [if_pos h0] at HI;have HR:Hid (bad2 n=true):=qhX (j:=i) (by have:=HSz.out;omega) (.inr (by rw [←Hg1.out];exact h0));clear h47 h0;go_wp2_with (go_at_call 209;refine (HI.out _).mono ?_;rintro e w' ⟨rfl,hw⟩;have hw':=hw.symm;subst hw');go_ret
       exact ⟨Hb2.out,_,rfl,by rw [HR.out];simp⟩
      ·rw [if_neg h0] at HI;have Hno2:Hid (∀ j,j<i+1→n.getD j 0≠47∧n.getD j 1≠0):=fun j hj=>by
        by_cases e:j=i
        ·subst e;rw [←Hg0.out,←Hg1.out];exact ⟨h47,h0⟩
        ·exact Hno.out j (by omega)
       clear h47 h0;go_wp2_with (go_at_call 209;refine (HI.out _).mono ?_;rintro e w' ⟨rfl,hw⟩;have hw':=hw.symm;subst hw');go_roundg g
       case measure=>omega
       case rel=>exact ⟨i+1,by omega,Hit2.out,Hb2,Hno2⟩
    ·have hhi:128≤(S[i]'hi).toNat:=by rw [hx];omega
     obtain ⟨d1,d2⟩:=qg4 S i hi hhi;obtain ⟨d3,d4⟩:=decode_high S i hi hhi;have d5:=decode_le S i;have hnx:=fun ty=>run_next_any_at (P:=Tryz.prog) wr w.heap.size S i ty hit hi
     obtain ⟨r,hr⟩:∃ r,r=(Utf8.decode S i).1:=⟨_,rfl⟩;obtain ⟨q,hq⟩:∃ q,q=(Utf8.decode S i).2:=⟨_,rfl⟩;rw [←hr,←hq] at hnx;rw [←hq] at d1 d2 d4;rw [←hr] at d3 d5;have Hb2:Hid (Below w.heap.size w (wr.iterAt w.heap.size S (i+q))):=below_iterAt Hb.out (Nat.le_refl _) S (i+q);have Hit2:Hid ((wr.iterAt w.heap.size S (i+q)).heap[w.heap.size]? = some (.stringIter S (i+q))):=iterAt_heap wr w.heap.size S i (i+q) hit;have HI:Hid (∀ W,Calls Tryz.prog 209 #[.string two,.int .i32 (r:Int)] W fun e w'=>e=.returned (.int .i64 (-1))∧Below W.heap.size W w'):=fun W=>qjC (r:Int) W (by omega) (by omega)
     have Hno2:Hid (∀ j,j<i+q→n.getD j 0≠47∧n.getD j 1≠0):=fun j hj=>by
      by_cases e:j<i
      ·exact Hno.out j e
      ·have hj':j<S.size:=by omega
       have h1:=d2 j hj' (by omega) hj;rw [←HG.out j hj' 0,←HG.out j hj' 1];exact ⟨fun e=>by rw [e] at h1;simp at h1,fun e=>by rw [e] at h1;simp at h1⟩
     have hws:w.heap.size<(wr.iterAt w.heap.size S (i+q)).heap.size:=(Array.getElem?_eq_some_iff.1 Hit2.out).1;clear hr hq d2 hx hhi hlow
     generalize wr.iterAt w.heap.size S (i+q)=W at *
     go_wp2_with (go_at_call 209;refine (HI.out _).mono ?_;rintro e W2 ⟨rfl,hb3⟩);go_roundg (S.size - (i+q))
     case measure=>omega
     case rel=>exact ⟨i+q,by omega,(hb3.block _ hws).trans Hit2.out,hidI (Hb2.out.trans (hb3.mono (by omega))),Hno2⟩
theorem qhO:∀ n:Bs,decide (0≤Lib.indexAny n [47,0])=bad2 n
 | []=>rfl
 | c :: l=>by
   have ih:=qhO l;have hge:=Lib.indexAny_ge [47,0] l;unfold Lib.indexAny;have e2:bad2 (c :: l)=((c==47||c==0)||bad2 l):=by simp [bad2]
   rw [e2];by_cases h1:([47,0]:List UInt8).contains c=true
   ·rw [if_pos h1]
    have:(c==47||c==0)=true:=by simpa using h1
    rw [this];simp
   ·rw [if_neg h1]
    have:(c==47||c==0)=false:=by simpa using h1
    rw [this,Bool.false_or,←ih];by_cases h2:Lib.indexAny l [47,0] = -1
    ·rw [h2];rfl
    ·have:(Lib.indexAny l [47,0] == -1)=false:=beq_eq_false_iff_ne.2 h2
     rw [this];simp only [Bool.false_eq_true,if_false];have h3:0≤Lib.indexAny l [47,0]:=by omega
     simp [h3];omega
theorem Tryz.zero95:∀ w,(zeroValue 271).run Tryz.prog w=.ok (.agg (Array.replicate 256 (.bool false))) w:=fun w=>Tryz.zeroValue271 w
theorem qnM (n:Bs) (w:World) (hn:n.length≤1048576) :
 Calls Tryz.prog 181 #[.string (txt n),.string two] w fun e w'=>Below w.heap.size w w'∧∃ x,e=.returned (.int .i64 x)∧decide (0≤x)=bad2 n:=by
 by_cases h:n.length≤8
 ·exact qjM n w h
 ·refine (Tryz.strings_IndexAny_long Tryz.zero95 (txt n) two w (by decide) (by rw [qab];omega) (by rw [qab];omega) (by decide) (fun j b hb => ?_)).mono ?_
  ·have e:two.data.toList=[47,0]:=rfl;rw [e] at hb
   match j,hb with
   | 0,hb=>simp at hb;subst hb;decide
   | 1,hb=>simp at hb;subst hb;decide
   | j+2,hb=>simp at hb
  ·rintro e w' ⟨rfl,rfl⟩;refine ⟨((Below.refl _ w).alloc (Nat.le_refl _) _).alloc (by simp) _,_,rfl,?_⟩;exact qhO n
theorem qf3 (n:Bs) (w:World) (hn:n.length≤1048576) :
 Calls Tryz.prog 144 #[.string (txt n),.string two] w fun e w'=>Below w.heap.size w w'∧e=.returned (.bool (bad2 n)):=by
 have HI:=hidI (fun W=>qnM n W hn)
 generalize txt n=S at *
 go_enter Tryz.func144,Tryz.ntmps144
 go_wp2_with (go_at_call 181;refine (HI.out _).mono ?_;rintro e w' ⟨hb,x,rfl,hx⟩);go_ret
 exact ⟨hb,by rw [←hx];rfl⟩
theorem qk5 {n:Bs} (h:(47:UInt8)∉n):bad2 n=n.contains 0:=by
 induction n with
 | nil=>rfl
 | cons c l ih =>
   have e2:bad2 (c :: l)=((c==47||c==0)||bad2 l):=by simp [bad2]
   have h1:(c==47)=false:=by
    rw [beq_eq_false_iff_ne];intro e;subst e;exact h (by simp)
   rw [e2,ih (fun hh=>h (by simp [hh])),h1,List.contains_cons];by_cases hc:c=0
   ·subst hc;simp
   ·have:((0:UInt8)==c)=false:=beq_eq_false_iff_ne.2 (fun e=>hc e.symm)
    have h2:(c==0)=false:=beq_eq_false_iff_ne.2 hc;rw [this,h2];simp
theorem qfx {n:Bs} (X:ByteArray) (hX:X=txt n) (h47:(47:UInt8)∉n) :
 (okName n=false∧(X.toList.isEmpty=true∨(X.toList.isEmpty=false∧(X.toList==[46])=true)∨(X.toList.isEmpty=false∧(X.toList==[46])=false∧(X.toList==[46,46])=true)∨(X.toList.isEmpty=false∧(X.toList==[46])=false∧(X.toList==[46,46])=false∧20<X.size))) ∨
 (X.toList.isEmpty=false∧(X.toList==[46])=false∧(X.toList==[46,46])=false∧X.size≤20∧okName n = !bad2 n):=by
 subst hX;rw [qaH,qab,qk5 h47];unfold okName;by_cases h1:n=[]
 ·subst h1;exact .inl ⟨by simp,.inl (by simp)⟩
 ·have h1':n.isEmpty=false:=by simpa using h1
  by_cases h2:n=[46]
  ·subst h2;exact .inl ⟨by simp,.inr (.inl (by simp))⟩
  ·by_cases h3:n=[46,46]
   ·subst h3;exact .inl ⟨by simp,.inr (.inr (.inl (by simp)))⟩
   ·by_cases h4:n.length≤20
    ·exact .inr ⟨h1',by simpa using h2,by simpa using h3,h4,by simp [h1,h2,h3,h4]⟩
    ·exact .inl ⟨by simp [h4],.inr (.inr (.inr ⟨h1',by simpa using h2,by simpa using h3,by omega⟩))⟩
theorem qiV (n:Bs) (w:World) (h47:(47:UInt8)∉n) (hn:n.length≤1048576) :
 Calls Tryz.prog 117 #[.string (txt n)] w fun e w'=>Below w.heap.size w w'∧e=.returned (.bool (okName n)):=by
 have HI:=hidI (fun W=>qf3 n W hn);obtain ⟨X,hX⟩:∃ X,X=txt n:=⟨_,rfl⟩;rw [←hX] at HI ⊢;rcases qfx X hX h47 with ⟨hbad,hc⟩ | ⟨c1,c2,c3,c4,hok⟩
 ·rw [hbad];clear HI hX hbad;rcases hc with c1 | ⟨c1,c2⟩ | ⟨c1,c2,c3⟩ | ⟨c1,c2,c3,c4⟩
  all_goals
   go_enter Tryz.func117,Tryz.ntmps117
   go_wp2;go_ret
   exact ⟨Below.refl _ _,rfl⟩
 ·rw [hok];clear hX hok;unfold two at HI;go_enter Tryz.func117,Tryz.ntmps117
  go_wp2_with (go_at_call 144;refine (HI.out _).mono ?_;rintro e w' ⟨hb,rfl⟩);go_ret
  exact ⟨hb,rfl⟩
end Go.Proofs.YtodmdkhdbfbfgabGreatDoor
namespace Go.Proofs.YtodmdkhdbfbfgabGreatDoor
open Go.RowKit Go.Nt
theorem qbB {p:Bs} (h:(47:UInt8)∉p):split p=[p]:=by
 induction p with
 | nil=>rfl
 | cons c l ih =>
   have hc:c≠47:=fun e=>h (by simp [e])
   rw [qal hc (ih fun hh=>h (by simp [hh]))]
theorem qdo {c r:Bs} (h:(47:UInt8)∉c):split (c++47 :: r)=c :: split r:=by
 induction c with
 | nil=>rw [List.nil_append,qam]
 | cons x l ih =>
   have hx:x≠47:=fun e=>h (by simp [e])
   rw [List.cons_append,qal hx (ih fun hh=>h (by simp [hh]))]
theorem idx47 (p:Bs):((47:UInt8)∉p∧Lib.index p [47] = -1)∨∃ c r,p=c++47 :: r∧(47:UInt8)∉c∧Lib.index p [47]=(c.length:Int):=by
 rw [Lib.index_one]
 induction p with
 | nil=>exact .inl ⟨by simp,rfl⟩
 | cons x l ih =>
   by_cases hx:x=47
   ·subst hx;exact .inr ⟨[],l,rfl,by simp,by simp [Lib.indexByte]⟩
   ·have hx':(47:UInt8)≠x:=fun e=>hx e.symm
    rcases ih with ⟨h1,h2⟩ | ⟨c,r,rfl,h1,h2⟩
    ·exact .inl ⟨by simp [h1,hx'],by simp [Lib.indexByte,hx,h2]⟩
    ·refine .inr ⟨x :: c,r,rfl,by simp [h1,hx'],?_⟩;have h3:Lib.indexByte (c++47 :: r) 47 ≠ -1:=by rw [h2];omega
     simp [Lib.indexByte,hx,h2]
theorem pieces:∀ (k:Nat) (p:Bs),((split p).length≤k+1→Lib.splitK [47] 0 k p=split p)∧(k+1<(split p).length→(Lib.splitK [47] 0 k p).length=k+1)
 | 0,p=>by
   refine ⟨fun h => ?_,fun _=>rfl⟩;rcases idx47 p with ⟨h1,_⟩ | ⟨c,r,rfl,h1,_⟩
   ·rw [qbB h1];rfl
   ·rw [qdo h1] at h
    have:=qhZ r
    cases hs:split r with
    | nil=>exact absurd hs this
    | cons a b=>rw [hs] at h;simp at h
 | k+1,p=>by
   unfold Lib.splitK;rcases idx47 p with ⟨h1,h2⟩ | ⟨c,r,rfl,h1,h2⟩
   ·rw [h2,qbB h1];simp
   ·rw [h2,qdo h1];have e1:((c.length:Int) == -1)=false:=beq_eq_false_iff_ne.2 (by omega);rw [e1];obtain ⟨ih1,ih2⟩:=pieces k r;simp only [Bool.false_eq_true,if_false,Int.toNat_natCast,Nat.add_zero,List.length_cons,List.length_nil];have e2:(c++47 :: r).take c.length=c:=by simp
    have e3:(c++47 :: r).drop (c.length+(0+1))=r:=by
     rw [show c.length+(0+1)=c.length+1 by omega,←List.drop_drop];simp
    rw [e2,e3];exact ⟨fun h=>by rw [ih1 (by omega)],fun h=>by rw [ih2 (by omega)]⟩
theorem qcC (p:Bs):(split p).length≤p.length+1:=by
 induction p with
 | nil=>simp [split]
 | cons c l ih =>
   by_cases hc:c=47
   ·subst hc;rw [qam];simp;omega
   ·obtain ⟨n,ns,e⟩:=qau l;rw [qal hc e];rw [e] at ih;simp at ih ⊢;omega
theorem qiW (p:Bs):∀ n∈split p,(47:UInt8)∉n:=by
 induction p with
 | nil=>intro n hn;simp [split] at hn;subst hn;simp
 | cons c l ih =>
   intro n hn;by_cases hc:c=47
   ·subst hc;rw [qam] at hn;rcases List.mem_cons.1 hn with rfl | h
    ·simp
    ·exact ih n h
   ·obtain ⟨m,ms,e⟩:=qau l;rw [qal hc e] at hn;rw [e] at ih;have hc':(47:UInt8)≠c:=fun h=>hc h.symm
    rcases List.mem_cons.1 hn with rfl | h
    ·have:=ih m (by simp)
     simp [hc',this]
    ·exact ih n (by simp [h])
theorem qmL (p:Bs):∀ n∈split p,n.length≤p.length:=by
 induction p with
 | nil=>intro n hn;simp [split] at hn;subst hn;simp
 | cons c l ih =>
   intro n hn;by_cases hc:c=47
   ·subst hc;rw [qam] at hn;rcases List.mem_cons.1 hn with rfl | h
    ·simp
    ·have:=ih n h;simp;omega
   ·obtain ⟨m,ms,e⟩:=qau l;rw [qal hc e] at hn;rw [e] at ih;rcases List.mem_cons.1 hn with rfl | h
    ·have:=ih m (by simp);simp;omega
    ·have:=ih n (by simp [h]);simp;omega
end Go.Proofs.YtodmdkhdbfbfgabGreatDoor
namespace Go.Proofs.YtodmdkhdbfbfgabGreatDoor
open Go.RowKit Go.Nt Go.Shelf
attribute [local go_sem] Oper.semAt_some
theorem idxB47 (p:Bs):((47:UInt8)∉p∧Lib.indexByte p 47 = -1)∨∃ c r,p=c++47 :: r∧(47:UInt8)∉c∧Lib.indexByte p 47=(c.length:Int):=by
 have:=idx47 p
 rw [Lib.index_one] at this;exact this
theorem qfU (s:ByteArray) (w:World):Calls Tryz.prog 170 #[.string s,.string ⟨#[47]⟩] w fun e w'=>e=.returned (.int .i64 (Lib.indexByte s.data.toList 47))∧w'=w:=
 Any.strings_Index_one ({ Tryz.lays146 with }:Lays.n143 Tryz.prog Tryz.lays146_ren) s 47 w
theorem qbS (s:ByteArray) (w:World):Calls Tryz.prog 142 #[.string s,.string ⟨#[47]⟩] w fun e w'=>e=.returned (.int .i64 (Lib.countByte s.data.toList 47))∧w'=w:=
 Any.strings_Count_one ({ Tryz.lays146 with }:Lays.n138 Tryz.prog Tryz.lays146_ren) s 47 w
theorem qj2 (p:Bs):(split p).length=p.count 47+1:=by
 induction p with
 | nil=>rfl
 | cons c cs ih =>
   obtain ⟨n,ns,e⟩:=qau cs;by_cases h:c=47
   ·subst h;rw [qam];simp [ih]
   ·rw [qal h e];rw [e] at ih;simp at ih;simp [h,ih]
def boxLen (b:Nat) (w:World):Nat:=match w.cell? ⟨b,0,none⟩ with | some (.string s)=>s.size | _=>0
theorem qe2 (n b0 n₀:Nat) (p:Bs) (w:World) (hp:p.length≤1048576) (hn0:b0+2<n₀) (hsz:n₀≤w.heap.size)
 (h0:w.heap[b0]? = some (.cells #[.string (txt p)] 9 (0,0))) (h1:w.heap[b0+1]? = some (.cells #[.string ⟨#[47]⟩] 9 (0,0))) (h2:w.heap[b0+2]? = some (.cells #[.int .i64 0] 3 (0,0))) :
 SeqBox Fence.wide n Tryz.prog 179 #[.pointer (some ⟨b0+1,0,none⟩),.pointer (some ⟨b0,0,none⟩),.pointer (some ⟨b0+2,0,none⟩)] (fun x:Bs=>.string (txt x)) n₀ b0 (split p) w:=by
 intro l J Jx W hW hJ hJx hY hJ0;refine callsIn_of_wp Tryz.func179 rfl trivial ?_ rfl;simp only [Tryz.ntmps179,List.size_toArray,List.length_cons,List.length_nil,Nat.reduceAdd,Nat.reduceSub,Array.replicate_succ,Array.replicate_zero,List.push_toArray,List.append_toArray,List.nil_append,List.cons_append];have e0:W.heap[b0]? = some (.cells #[.string (txt p)] 9 (0,0)):=(hW.block b0 (by omega)).trans h0;have e1:W.heap[b0+1]? = some (.cells #[.string ⟨#[47]⟩] 9 (0,0)):=(hW.block (b0+1) (by omega)).trans h1;have e2:W.heap[b0+2]? = some (.cells #[.int .i64 0] 3 (0,0)):=(hW.block (b0+2) (by omega)).trans h2;have c1:W.cell? ⟨b0+1,0,none⟩=some (.string ⟨#[47]⟩):=by rw [cell_of_row W (b0+1) 0 _ 9 (0,0) e1];rfl
 gi_wp2;clear c1
 gi_loopw [] (fun wr=>∃ (pre:List Bs) (rest:Bs),Hid (split p=pre++split rest)∧rest.length≤1048576∧Hid (wr.heap[b0]? = some (.cells #[.string (txt rest)] 9 (0,0)))∧Hid (wr.heap[b0+1]? = some (.cells #[.string ⟨#[47]⟩] 9 (0,0)))∧Hid (wr.heap[b0+2]? = some (.cells #[.int .i64 0] 3 (0,0)))∧Hid (J pre wr)) (fun wr=>boxLen b0 wr)
 case atStart=>exact ⟨[],p,hidI rfl,hp,hidI e0,hidI e1,hidI e2,hidI hJ0⟩
 case round =>
  obtain ⟨pre,rest,Hs,hr,H0,H1,H2,HJ⟩:=hrel;have c0:wr.cell? ⟨b0,0,none⟩=some (.string (txt rest)):=by rw [cell_of_row wr b0 0 _ 9 (0,0) H0.out];rfl
  have c1:wr.cell? ⟨b0+1,0,none⟩=some (.string ⟨#[47]⟩):=by rw [cell_of_row wr (b0+1) 0 _ 9 (0,0) H1.out];rfl
  have c2:wr.cell? ⟨b0+2,0,none⟩=some (.int .i64 0):=by rw [cell_of_row wr (b0+2) 0 _ 3 (0,0) H2.out];rfl
  rcases idxB47 rest with ⟨h47,hix⟩ | ⟨a,r,hrest,h47,hix⟩
  ·have HI:Hid (Calls Tryz.prog 170 #[.string (txt rest),.string ⟨#[47]⟩] wr fun e w'=>e=.returned (.int .i64 (-1))∧w'=wr):=hidI (by have:=qfU (txt rest) wr;rw [qhD,hix] at this;exact this);obtain ⟨fn,tmps,assign,body,hy,hR⟩:=hY pre rest wr HJ.out (by rw [Hs.out,qbB h47];exact List.prefix_refl _);have HR:=hidI hR;have Hn:=hidI (qbB h47);clear hix hR h47;gi_wp2;refine ⟨trivial,fun h=>(by cases h),(callsIn_wide.2 HI.out).mono ?_⟩;rintro e w' ⟨rfl,hw⟩;have hw':=hw.symm;subst hw';clear hw;gi_wp2;refine ⟨fun h=>(by cases h),HR.out.mono ?_⟩;rintro e W3 (⟨rfl,hJ3,hk3⟩ | ⟨rfl,hJx3⟩)
   ·gi_wp2;go_end0
    refine ⟨⟨_,rfl⟩,.inl ?_⟩;rw [Hs.out,Hn.out];exact hJ3
   ·gi_wp2;go_end0
    exact ⟨⟨_,rfl⟩,.inr ⟨_,by rw [Hs.out,Hn.out];exact List.prefix_refl _,hJx3⟩⟩
  ·subst hrest;have HI:Hid (Calls Tryz.prog 170 #[.string (txt (a++47 :: r)),.string ⟨#[47]⟩] wr fun e w'=>e=.returned (.int .i64 a.length)∧w'=wr):=hidI (by have:=qfU (txt (a++47 :: r)) wr;rw [qhD,hix] at this;exact this);have hsp:=qdo (r:=r) h47;have hpre:pre++[a] <+: split p:=by rw [Hs.out,hsp];exact ⟨split r,by simp⟩
   obtain ⟨fn,tmps,assign,body,hy,hR⟩:=hY pre a wr HJ.out hpre;have HR:=hidI hR;have Hsp:Hid (split p=(pre++[a])++split r):=hidI (by rw [Hs.out,hsp];simp);have Hpre:=hidI hpre;obtain ⟨X,hX⟩:∃ X,X=txt (a++47 :: r):=⟨_,rfl⟩;have Sx:X.size=a.length+1+r.length:=by rw [hX,qab];simp;omega
   have hxa:X.extract 0 a.length=txt a:=by rw [hX,qah];simp
   have hxr:X.extract (a.length+1) X.size=txt r:=by
    rw [Sx,hX,qah]
    congr 1
    rw [←List.drop_drop];simp
   rw [←hX] at HI c0 H0;obtain ⟨k,hk⟩:∃ k,k=a.length:=⟨_,rfl⟩;have Hk:=hidI hk;rw [←hk] at HI hxa hxr Sx;rw [←hxa] at hy;have Hxr:=hidI hxr;have hrl:r.length≤1048576:=by simp at hr;omega
   have hXl:X.size≤1048576:=by simp at hr;omega
   have hkX:k+1≤X.size:=by omega
   clear hix hR h47 hsp hpre hX hxa hxr hk Hs hr;gi_wp2;refine ⟨trivial,fun h=>(by cases h),(callsIn_wide.2 HI.out).mono ?_⟩;rintro e w' ⟨rfl,hw⟩;have hw':=hw.symm;subst hw';clear hw;gi_wp2;refine ⟨fun h=>(by cases h),HR.out.mono ?_⟩;rintro e W3 (⟨rfl,hJ3,hk3⟩ | ⟨rfl,hJx3⟩)
   ·have r0:W3.heap[b0]? = some (.cells #[.string X] 9 (0,0)):=(hk3.block b0 (by omega)).trans H0.out;have r1:W3.heap[b0+1]? = some (.cells #[.string ⟨#[47]⟩] 9 (0,0)):=(hk3.block (b0+1) (by omega)).trans H1.out;have R2:Hid (W3.heap[b0+2]? = some (.cells #[.int .i64 0] 3 (0,0))):=hidI ((hk3.block (b0+2) (by omega)).trans H2.out);have c0':W3.cell? ⟨b0,0,none⟩=some (.string X):=by rw [cell_of_row W3 b0 0 _ 9 (0,0) r0];rfl
    have c1':W3.cell? ⟨b0+1,0,none⟩=some (.string ⟨#[47]⟩):=by rw [cell_of_row W3 (b0+1) 0 _ 9 (0,0) r1];rfl
    have f0':W3.frozen? ⟨b0,0,none⟩=false:=frozen_of_row W3 b0 0 _ 9 r0;have R0:=hidI r0;have R1:=hidI r1;have HJ3:=hidI hJ3;clear hJ3 hk3 hy HR HI r0 r1;gi_wp2;have hx:X.extract (k+1) (k+1+r.length)=txt r:=by have:=Hxr.out;rw [Sx] at this;exact this
    rw [hx];have hs0:=heap_setCell_same W3 b0 0 #[.string X] 9 (.string (txt r)) R0.out;refine ⟨⟨pre++[a],r,Hsp,hrl,hidI hs0,hidI ((Below.heap_setCell W3 ⟨b0,0,none⟩ _ (b0+1) (by simp)).trans R1.out),hidI ((Below.heap_setCell W3 ⟨b0,0,none⟩ _ (b0+2) (by simp)).trans R2.out),hidI (hJ.set _ _ _ HJ3.out)⟩,?_⟩;unfold boxLen;rw [c0,cell_of_row _ b0 0 _ 9 (0,0) hs0];show (txt r).size<X.size;rw [qab];omega
   ·gi_wp2;refine bodyPost_ret (results_none rfl _ _ _) rfl ?_;exact ⟨⟨_,rfl⟩,.inr ⟨_,Hpre.out,hJx3⟩⟩
end Go.Proofs.YtodmdkhdbfbfgabGreatDoor
namespace Go.Proofs.YtodmdkhdbfbfgabGreatDoor
open Go.RowKit Go.Nt
def boxed (w:World) (x:It):World:=w.alloc (.cells #[.string (txt x.path),.bool x.dir,.string (txt x.data),.int .i64 x.mode,.int .i64 x.time] 53)
theorem qex (w:World) (x:It):ItAt (boxed w x) w.heap.size 0 x:=by
 refine ItAt.of_cells fun j u hu => ?_
 rw [cell_of_row (boxed w x) w.heap.size (0+j) _ 53 (0,0) (heap_alloc_new _ _)];simpa [itl] using hu
end Go.Proofs.YtodmdkhdbfbfgabGreatDoor
