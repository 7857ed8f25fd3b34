/- Lemmas. -/
import Derived.Maps.OwnSet
import Derived.Maps.OwnOps
import Derived.Maps.Keyed
import Derived.Test.YtodmdkhdbfbfgabGreatDoorM02
import Derived.Test.YtodmdkhdbfbfgabGreatDoorM03
set_option linter.unusedVariables false
set_option linter.unusedSimpArgs false
set_option maxRecDepth 100000
set_option maxHeartbeats 8000000
namespace Go.Proofs.YtodmdkhdbfbfgabGreatDoor.S1
open Go.RowKit Pk
theorem law3:Maps.Keyed Tryz.prog 3:=Maps.int_keyed Tryz.underlying3
theorem key3 {i:Nat} (h:i≤1000000):keyOf Tryz.prog 3 (.int .i64 (i:Nat))=some (.int .i64 (i:Nat)):=Maps.keyOf_int_mk Tryz.underlying3 (by simp [Lit.wf,IntKind.min,IntKind.max,IntKind.signed,IntKind.bits];omega)
theorem qgv (w:World):(zeroValue 183).run Tryz.prog w=.ok (.agg #[]) w:=by kernel_rfl
def BlAt (w:World) (b:Nat) (n:Nat) (S:Nat→Bool):Prop:=
 ∃ D:DataW Unit,w.ownsMap Tryz.prog 3 unitElem b n D∧∀ i:Nat,Maps.has D (.int .i64 (i:Nat))=S i
def BlV (w:World) (v:Option Nat) (n:Nat) (S:Nat→Bool):Prop:=(v=none∧∀ i,S i=false)∨∃ b,v=some b∧BlAt w b n S
theorem BlAt.lt {w:World} {b n:Nat} {S:Nat→Bool} (h:BlAt w b n S):b<w.heap.size:=by obtain ⟨D,h,_⟩:=h;exact h.lt
theorem BlAt.of_block {w w':World} {b n:Nat} {S:Nat→Bool} (h:BlAt w b n S) (hb:w'.heap[b]? = w.heap[b]?):BlAt w' b n S:=by
 obtain ⟨D,⟨es,clock,h1,h2⟩,hh⟩:=h;exact ⟨D,⟨es,clock,hb.trans h1,h2⟩,hh⟩
theorem BlAt.mono {w:World} {b n n':Nat} {S:Nat→Bool} (h:BlAt w b n S) (hn:n≤n'):BlAt w b n' S:=by
 obtain ⟨D,h1,hh⟩:=h;exact ⟨D,h1.mono hn,hh⟩
theorem BlAt.congr {w:World} {b n:Nat} {S T:Nat→Bool} (h:BlAt w b n S) (e:∀ i,S i=T i):BlAt w b n T:=by
 obtain ⟨D,h1,hh⟩:=h;exact ⟨D,h1,fun i=>(hh i).trans (e i)⟩
theorem qgW (w:World):BlAt (w.alloc (.map #[] 0)) w.heap.size 0 (fun _=>false):=⟨.map [],World.ownsMap_made w _ _ _,fun i=>rfl⟩
theorem BlAt.look {w:World} {b n:Nat} {S:Nat→Bool} (h:BlAt w b n S) {i:Nat} (hi:i≤1000000):(Instr.lookup 76 (.map (some b)) (.int .i64 (i:Nat)) true).run Tryz.prog w=.ok (.tuple #[.agg #[],.bool (S i)]) w:=by
 obtain ⟨D,ho,hh⟩:=h;obtain ⟨v,ps,h1,h2⟩:=ho.look_ok law3 Tryz.underlying76 (qgv w) unitElem_mk (key3 hi);rw [hh i,(unitElem_inv h2).1] at h1;exact h1
theorem qja (w:World) {i:Nat} (hi:i≤1000000):(Instr.lookup 76 (.map none) (.int .i64 (i:Nat)) true).run Tryz.prog w=.ok (.tuple #[.agg #[],.bool false]) w:=by
 have:=Maps.look_nil (w:=w) true law3 Tryz.underlying76 (qgv w) (key3 hi)
 simpa using this
theorem BlV.look {w:World} {v:Option Nat} {n:Nat} {S:Nat→Bool} (h:BlV w v n S) {i:Nat} (hi:i≤1000000):(Instr.lookup 76 (.map v) (.int .i64 (i:Nat)) true).run Tryz.prog w=.ok (.tuple #[.agg #[],.bool (S i)]) w:=by
 rcases h with ⟨rfl,h⟩ | ⟨b,rfl,h⟩
 ·rw [h i];exact qja w hi
 exact h.look hi
theorem int_ne {i j:Nat} (h:i≠j):Lit.int .i64 (i:Nat)≠.int .i64 (j:Nat):=fun e=>h (by cases e;rfl)
theorem BlAt.store {w:World} {b n:Nat} {S:Nat→Bool} (h:BlAt w b n S) {i:Nat} (hi:i≤1000000) (hn:n≤1000000) :
 ∃ w',(Instr.mapUpdate 76 (.map (some b)) (.int .i64 (i:Nat)) (.agg #[])).run Tryz.prog w=.ok () w'∧BlAt w' b (n+1) (fun j=>j==i||S j)∧w.mapTurned w' b:=by
 obtain ⟨D,ho,hh⟩:=h;obtain ⟨w',h1,h2,h3⟩:=ho.store law3 Tryz.underlying76 (by unfold maxLen;omega) (key3 hi) unitElem_mk;refine ⟨w',h1,⟨_,h2,fun j => ?_⟩,h3⟩;by_cases e:j=i
 ·subst e;rw [Maps.has_put_same ho.isMap (k:=.int .i64 (j:Nat)) trivial];simp
 rw [Maps.has_put_other (int_ne e),hh j];simp [e]
theorem BlAt.drop {w:World} {b n:Nat} {S:Nat→Bool} (h:BlAt w b n S) {i:Nat} (hi:i≤1000000) (ty:TypeId) :
 ∃ w',(Builtin.delete_ #[76,3] ty #[.map (some b),.int .i64 (i:Nat)]).run Tryz.prog w=.ok (.tuple #[]) w'∧BlAt w' b n (fun j => !(j==i)&&S j)∧w.mapTurned w' b:=by
 obtain ⟨D,ho,hh⟩:=h;obtain ⟨w',h1,h2,h3⟩:=ho.drop law3 Tryz.underlying76 (key3 hi) ty;refine ⟨w',h1,⟨_,h2,fun j => ?_⟩,h3⟩;by_cases e:j=i
 ·subst e;rw [Maps.has_del_same];simp
 rw [Maps.has_del_other (int_ne e),hh j];simp [e]
theorem qhi (v:Option Nat) (n i:Nat) (S:Nat→Bool) (w:World) (h:BlV w v n S) (hi:i≤1000000) :
 Calls Tryz.prog 140 #[.map v,.int .i64 (i:Nat)] w fun e w'=>e=.returned (.bool (S i))∧Below w.heap.size w w':=by
 have hl:=h.look hi;clear h;obtain ⟨r,hr⟩:∃ r,r=S i:=⟨_,rfl⟩;rw [←hr] at hl ⊢;clear hr;go_enter Tryz.func140,Tryz.ntmps140
 go_wp2;go_ret
 exact ⟨rfl,(Below.refl _ w).alloc (Nat.le_refl _) _⟩
theorem pagesOf_any (t:List UInt8) (w:World) (ht:t.length≤1000000000):Calls Tryz.prog 105 #[.string (txt t)] w fun e w'=>e=.returned (.int .i64 (Go.Nt.pagesN t.length:Nat))∧w'=w:=by
 have hs:(txt t).size=t.length:=qaa t;obtain ⟨X,hX⟩:∃ X,X=txt t:=⟨_,rfl⟩;rw [←hX] at hs ⊢;obtain ⟨n,hn⟩:∃ n,n=t.length:=⟨_,rfl⟩;rw [←hn] at ht hs ⊢;clear hX hn;have e:((n:Int)+51 - 1).tdiv 51=(Go.Nt.pagesN n:Nat):=by
  rw [Int.tdiv_eq_ediv_of_nonneg (by omega)];unfold Go.Nt.pagesN;omega
 obtain ⟨q,hq⟩:∃ q,q=Go.Nt.pagesN n:=⟨_,rfl⟩;rw [←hq] at e ⊢;have hX9:X.size≤1000000000:=by omega
 have Hs:=hidI hs;have He:=hidI e;clear hs hq e;go_enter Tryz.func105,Tryz.ntmps105
 go_wp2;go_ret
 refine ⟨qaw ?_,rfl⟩;have h1:=Hs.out;have h2:=He.out;rw [←h1] at h2;rw [←h2]
 first | rfl | (rw [Int.tdiv_eq_ediv_of_nonneg (by omega)])
def badN (m:M):Nat:=(List.range m.nb).countP fun i=>m.bd i
theorem badN_le (m:M):badN m≤m.nb:=by
 have:=List.countP_le_length (p:=fun i=>m.bd i) (l:=List.range m.nb)
 simpa [badN] using this
def good (m:M):Nat:=m.nb - badN m
theorem qnP (m:M):good m≤m.nb:=Nat.sub_le _ _
def roomP (m:M):Nat:=good m/2*m.np
theorem qm9 (m:M) {i:Nat} (h:i<m.nb):badB m (i:Nat)=m.bd i:=by
 unfold badB hasB;simp [h]
theorem qbr (w:World) (lo hi cb:Nat) (L:Loc) (m:M) (hw:WF m) (h:CP w lo hi cb L m) :
 Calls Tryz.prog 110 #[.pointer (some ⟨cb,0,none⟩)] w fun e w'=>e=.returned (.int .i64 (badN m:Nat))∧w'=w:=by
 have HB:=hidI (qaU w lo hi cb L m h);have HD:=hidI (fun i (hi':i<m.nb)=>by have:=qdA w lo hi cb L m (i:Nat) h;rw [qm9 m hi'] at this;exact this);have h1:=hw.nb2;clear h hw;go_enter Tryz.func110,Tryz.ntmps110
 go_wp2_with fail;refine HB.out.mono ?_;rintro e w' ⟨rfl,hw⟩;have hw':=hw.symm;subst hw';clear hw;go_wp2_with fail
 go_loopw [3,7] (fun g i wr=>wr=w∧∃ k c:Nat,k≤m.nb∧i=.int .i64 k∧g=.int .i64 c∧c≤k∧Hid (c=(List.range k).countP fun i=>m.bd i)) (fun _ i _=>m.nb - (intOf i).toNat)
 case atStart=>exact ⟨rfl,0,0,Nat.zero_le _,rfl,rfl,Nat.le_refl _,hidI rfl⟩
 case round =>
  obtain ⟨rfl,k,c,hk,rfl,rfl,hc,Hc⟩:=hrel;by_cases hlt:k<m.nb
  ·have A:=hidI (HD.out k hlt);have Hn:Hid ((List.range (k+1)).countP (fun i=>m.bd i)=c+if m.bd k then 1 else 0):=hidI (by
    rw [List.range_succ,List.countP_append,←Hc.out];cases hbk:m.bd k<;>simp [hbk])
   obtain ⟨b,hb⟩:∃ b,b=m.bd k:=⟨_,rfl⟩;rw [←hb] at A Hn;clear hb;cases b with
   | true =>
     go_wp2_with (go_at_call 136;refine A.out.mono ?_;rintro e w' ⟨rfl,hw⟩;have hw':=hw.symm;subst hw';clear hw);go_roundw
     case rel=>exact ⟨trivial,k+1,c+1,by omega,by go_num,by go_num,by omega,hidI (by rw [Hn.out];simp)⟩
     case measure=>simp [intOf];omega
   | false =>
     go_wp2_with (go_at_call 136;refine A.out.mono ?_;rintro e w' ⟨rfl,hw⟩;have hw':=hw.symm;subst hw';clear hw);go_roundw
     case rel=>exact ⟨trivial,k+1,c,by omega,by go_num,rfl,by omega,hidI (by rw [Hn.out];simp)⟩
     case measure=>simp [intOf];omega
  have hkn:k=m.nb:=by omega
  subst hkn;go_wp2;go_ret
  have hbn:badN m=c:=by have h9:=Hc.out;unfold badN;exact h9.symm
  exact ⟨by rw [hbn];rfl,rfl⟩
theorem qlI (w:World) (lo hi cb:Nat) (L:Loc) (m:M) (hw:WF m) (h:CP w lo hi cb L m) :
 Calls Tryz.prog 106 #[.pointer (some ⟨cb,0,none⟩)] w fun e w'=>e=.returned (.int .i64 (roomP m:Nat))∧w'=w:=by
 have HB:=hidI (qaU w lo hi cb L m h);have HP:=hidI (pages_any w lo hi cb L m h);have HD:=hidI (qbr w lo hi cb L m hw h);have h1:=hw.nb2;have h2:=hw.np2;have h3:=badN_le m;obtain ⟨bn,hbn⟩:∃ bn,bn=badN m:=⟨_,rfl⟩;rw [←hbn] at HD h3;obtain ⟨nb,hnb⟩:∃ nb,nb=m.nb:=⟨_,rfl⟩;rw [←hnb] at HB h1 h3;obtain ⟨np,hnp⟩:∃ np,np=m.np:=⟨_,rfl⟩;rw [←hnp] at HP h2;have HR:Hid (roomP m=(nb - bn)/2*np):=hidI (by unfold roomP good;rw [hbn,hnb,hnp]);have e2:((nb:Int) - (bn:Int)).tdiv 2=(((nb - bn)/2:Nat):Int):=by rw [Int.tdiv_eq_ediv_of_nonneg (by omega)];omega
 obtain ⟨q,hq⟩:∃ q,q=(nb - bn)/2:=⟨_,rfl⟩;have hq9:q≤16:=by omega
 have e3:((nb:Int) - (bn:Int))/2=(q:Nat):=by omega
 rw [←hq] at e2 HR;have hmul:q*np≤256:=Nat.mul_le_mul hq9 h2;clear h hw hbn hnb hnp hq;go_enter Tryz.func106,Tryz.ntmps106
 go_wp2_with (first | (go_at_call 8;refine HB.out.mono ?_;rintro e w' ⟨rfl,hw⟩;have hw':=hw.symm;subst hw';clear hw) | (go_at_call 9;refine HP.out.mono ?_;rintro e w' ⟨rfl,hw⟩;have hw':=hw.symm;subst hw';clear hw) | (go_at_call 110;refine HD.out.mono ?_;rintro e w' ⟨rfl,hw⟩;have hw':=hw.symm;subst hw';clear hw));go_ret
 exact ⟨by rw [HR.out];simp,rfl⟩
theorem qeK (b n i:Nat) (S:Nat→Bool) (w:World) (h:BlAt w b n S) (hi:i≤1000000) (hn:n≤1000000) :
 Calls Tryz.prog 88 #[.map (some b),.int .i64 (i:Nat)] w fun e w'=>e=.returned (.tuple #[])∧BlAt w' b (n+1) (fun j=>j==i||S j)∧w.mapTurned w' b:=by
 obtain ⟨V,hu,hS,hm⟩:=h.store hi hn;have HS:=hidI hS;have HM:=hidI hm;clear h hS hm;go_enter Tryz.func88,Tryz.ntmps88
 go_wp2;go_end0
 exact ⟨rfl,HS.out,HM.out⟩
end Go.Proofs.YtodmdkhdbfbfgabGreatDoor.S1
namespace Go.Proofs.YtodmdkhdbfbfgabGreatDoor.S1
open Go.RowKit Pk
structure Fm (S:Nat→Prop) (w w':World):Prop where
 os:w'.os=w.os
 tape:w'.tape=w.tape
 output:w'.output=w.output
 size:w.heap.size≤w'.heap.size
 block:∀ k,k<w.heap.size→¬S k→w'.heap[k]? = w.heap[k]?
namespace Fm
variable {S T:Nat→Prop} {a b c:World}
theorem refl (S:Nat→Prop) (w:World):Fm S w w:=⟨rfl,rfl,rfl,Nat.le_refl _,fun _ _ _=>rfl⟩
theorem trans (h:Fm S a b) (k:Fm S b c):Fm S a c:=
 ⟨k.os.trans h.os,k.tape.trans h.tape,k.output.trans h.output,Nat.le_trans h.size k.size,fun i hi hn=>(k.block i (Nat.lt_of_lt_of_le hi h.size) hn).trans (h.block i hi hn)⟩
theorem mono (h:Fm S a b) (e:∀ k,k<a.heap.size→S k→T k):Fm T a b:=⟨h.os,h.tape,h.output,h.size,fun k hk hn=>h.block k hk (fun hs=>hn (e k hk hs))⟩
theorem of_below {B:Nat} (h:Below B a b) (hB:∀ k,B≤k→k<a.heap.size→S k):Fm S a b:=
 ⟨h.os,h.tape,h.output,h.size,fun k hk hn=>h.block k (by
  rcases Nat.lt_or_ge k B with h1 | h1
  ·exact h1
  exact absurd (hB k h1 hk) hn)⟩
theorem of_new (h:Below a.heap.size a b):Fm S a b:=of_below h fun k h1 h2=>absurd h1 (by omega)
theorem of_only {lo hi:Nat} (h:Only lo hi a b) (e:∀ k,lo≤k→k<hi→S k):Fm S a b:=
 ⟨h.os,h.tape,h.output,h.size,fun k hk hn=>h.block k hk (fun hs=>hn (e k hs.1 hs.2))⟩
theorem only {lo hi:Nat} (h:Fm S a b) (e:∀ k,k<a.heap.size→S k→lo≤k∧k<hi):Only lo hi a b:=
 ⟨h.os,h.tape,h.output,h.size,fun k hk hn=>h.block k hk (fun hs=>hn (e k hk hs))⟩
theorem below {B:Nat} (h:Fm S a b) (e:∀ k,S k→B≤k) (hB:B≤a.heap.size):Below B a b:=
 ⟨h.os,h.tape,h.output,h.size,fun k hk=>h.block k (by omega) (fun hs=>by have:=e k hs;omega)⟩
theorem drew (h:Fm S a b):Fm S a b.drew:=h.trans ⟨rfl,rfl,rfl,Nat.le_refl _,fun _ _ _=>rfl⟩
theorem alloc (h:Fm S a b) (o:Obj):Fm S a (b.alloc o):=h.trans ⟨rfl,rfl,rfl,by simp,fun k hk _=>Below.heap_alloc b o k hk⟩
theorem set (h:Fm S a b) {g:Nat} (hg:g<a.heap.size→S g) (o:Nat) (v:Value):Fm S a (b.setCell ⟨g,o,none⟩ v):=
 ⟨h.os,h.tape,h.output,by have:=h.size;simpa using this,fun k hk hn=>(Below.heap_setCell b ⟨g,o,none⟩ v k (fun e=>hn (by have e':k=g:=e;subst e';exact hg hk))).trans (h.block k hk hn)⟩
theorem map (h:Fm S a b) {g:Nat} (hg:g<a.heap.size→S g) (hm:b.mapTurned c g):Fm S a c:=
 ⟨hm.grown.os.trans h.os,hm.grown.tape.trans h.tape,hm.grown.output.trans h.output,Nat.le_trans h.size hm.grown.size,fun k hk hn=>(hm.grown.block k (Nat.lt_of_lt_of_le hk h.size) (fun e=>by cases e;exact hn (hg hk))).trans (h.block k hk hn)⟩
end Fm
theorem make92 (w:World):(Instr.makeMap 76 none).run Tryz.prog w=.ok (.map (some w.heap.size)) (w.alloc (.map #[] 0)):=by
 simp [Instr.makeMap,Result.andThen]
def mayE (m:M) (n:Nat):Int:=if m.life=0 then 10 else if roomP m<Go.Nt.pagesN n then 9 else 0
theorem qk3 (w:World) (lo hi cb:Nat) (L:Loc) (m:M) (t:List UInt8) (hw:WF m) (h:CP w lo hi cb L m) (ht:t.length≤1000000000) :
 Calls Tryz.prog 73 #[.pointer (some ⟨cb,0,none⟩),.string (txt t)] w fun e w'=>e=.returned (.int .i64 (mayE m t.length))∧w'=w:=by
 have HD:=hidI (dead_any w lo hi cb L m h);have HP:=hidI (pagesOf_any t w ht);have HR:=hidI (qlI w lo hi cb L m hw h);obtain ⟨X,hX⟩:∃ X,X=txt t:=⟨_,rfl⟩;rw [←hX] at HP ⊢;by_cases h0:m.life=0
 ·have e:mayE m t.length=10:=by unfold mayE;rw [if_pos h0]
  have hb:(m.life==0)=true:=beq_iff_eq.2 h0;rw [e];rw [hb] at HD;clear h hw hX e hb h0;go_enter Tryz.func73,Tryz.ntmps73
  go_wp2_with (go_at_call 31;refine HD.out.mono ?_;rintro e w' ⟨rfl,hw⟩;have hw':=hw.symm;subst hw';clear hw);go_ret
  exact ⟨rfl,rfl⟩
 have hb:(m.life==0)=false:=beq_eq_false_iff_ne.2 h0;rw [hb] at HD;have e:mayE m t.length=if roomP m<Go.Nt.pagesN t.length then 9 else 0:=by unfold mayE;rw [if_neg h0]
 rw [e];obtain ⟨p,hp⟩:∃ p,p=Go.Nt.pagesN t.length:=⟨_,rfl⟩;obtain ⟨r,hr⟩:∃ r,r=roomP m:=⟨_,rfl⟩;rw [←hp] at HP ⊢;rw [←hr] at HR ⊢;clear h hw hX e hb h0 hp hr;by_cases hlt:r<p
 focus
  have hlt':(r:Int)<(p:Int):=by omega
  rw [if_pos hlt]
 rotate_left
 focus
  have hlt':¬(r:Int)<(p:Int):=by omega
  rw [if_neg hlt]
 rotate_left
 all_goals
  go_enter Tryz.func73,Tryz.ntmps73
  go_wp2_with (first | (go_at_call 31;refine HD.out.mono ?_;rintro e w' ⟨rfl,hw⟩;have hw':=hw.symm;subst hw';clear hw) | (go_at_call 105;refine HP.out.mono ?_;rintro e w' ⟨rfl,hw⟩;have hw':=hw.symm;subst hw';clear hw) | (go_at_call 106;refine HR.out.mono ?_;rintro e w' ⟨rfl,hw⟩;have hw':=hw.symm;subst hw';clear hw));go_ret
  exact ⟨rfl,rfl⟩
theorem qkN (m:M) (b:Int):(eraA m b).2.nb=m.nb:=by
 unfold eraA eraF
 repeat' split
 all_goals rfl
theorem qln (m:M) (b:Int):(eraA m b).2.np=m.np:=by
 unfold eraA eraF
 repeat' split
 all_goals rfl
theorem qhh (m:M) (b p:Int) (s:List UInt8):(progA m b p s).2.nb=m.nb:=by
 unfold progA progF
 repeat' split
 all_goals rfl
theorem qcS (m:M) (b p:Int) (s:List UInt8):(progA m b p s).2.np=m.np:=by
 unfold progA progF
 repeat' split
 all_goals rfl
def eraAll (m:M):Nat→M × (Nat→Bool)
 | 0=>(m,fun _=>false)
 | k+1=>((eraA (eraAll m k).1 (k:Nat)).2,if (eraA (eraAll m k).1 (k:Nat)).1 then (fun j=>j==k||(eraAll m k).2 j) else (eraAll m k).2)
theorem qfx (m:M):∀ k,(eraAll m k).1.nb=m.nb
 | 0=>rfl
 | k+1=>by rw [eraAll];exact (qkN _ _).trans (qfx m k)
theorem qdb {m:M} (h:WF m):∀ k,WF (eraAll m k).1
 | 0=>h
 | k+1=>by rw [eraAll];exact qeM (qdb h k) _
theorem qjD (w:World) (lo hi cb:Nat) (L:Loc) (m:M) (hw:WF m) (h:CP w lo hi cb L m) (hsz:hi≤w.heap.size) :
 Calls Tryz.prog 74 #[.pointer (some ⟨cb,0,none⟩)] w fun e w'=>e=.returned (.map (some w.heap.size))∧CP w' lo hi cb L (eraAll m m.nb).1∧BlAt w' w.heap.size m.nb (eraAll m m.nb).2∧Only lo hi w w':=by
 have h32:=hw.nb2;obtain ⟨W0,hW0⟩:∃ W0,W0=w.alloc (.map #[] 0):=⟨_,rfl⟩;have hbW:Below w.heap.size w W0:=by rw [hW0];exact (Below.refl _ w).alloc (Nat.le_refl _) _
 have hC0:CP W0 lo hi cb L m:=MemX.below h hsz hbW;have hS0:BlAt W0 w.heap.size 0 (fun _=>false):=by rw [hW0];exact qgW w
 have HBl:=hidI (qaU W0 lo hi cb L m hC0);have HC0:=hidI hC0;have HS0:=hidI hS0;have HO0:Hid (Only lo hi w W0):=hidI (Only.of_below hbW);have HW0:=hidI hW0;have HW:=hidI hw;have hmk:=make92 w;rw [←hW0] at hmk;obtain ⟨g,hg⟩:∃ g,g=w.heap.size:=⟨_,rfl⟩;rw [←hg] at HS0 hsz hmk ⊢;have Hg:=hidI hg;obtain ⟨nb,hnb⟩:∃ nb,nb=m.nb:=⟨_,rfl⟩;rw [←hnb] at HBl h32 ⊢;have Hnb:=hidI hnb;clear h hw hbW hC0 hS0 hW0 hnb hg;go_enter Tryz.func74,Tryz.ntmps74
 go_wp2_with fail;refine HBl.out.mono ?_;rintro e w' ⟨rfl,hw⟩;have hw':=hw.symm;subst hw';clear hw;go_wp2_with fail
 go_loopw [8] (fun i wr=>∃ k:Nat,k≤nb∧i=.int .i64 k∧Hid (CP wr lo hi cb L (eraAll m k).1)∧Hid (BlAt wr g k (eraAll m k).2)∧Hid (Only lo hi w wr)) (fun i _=>nb - (intOf i).toNat)
 case atStart=>exact ⟨0,Nat.zero_le _,rfl,HC0,HS0,HO0⟩
 case round =>
  clear HC0 HS0 HO0 HW0 HBl;obtain ⟨k,hk,rfl,HC,HS,HO⟩:=hrel;have hgs:g<wr.heap.size:=HS.out.lt;by_cases hlt:k<nb
  ·have A:=hidI (qkX wr lo hi cb L (eraAll m k).1 (k:Nat) (qdb HW.out k) HC.out (by omega));obtain ⟨r,hr⟩:∃ r,r=(eraA (eraAll m k).1 (k:Nat)).1:=⟨_,rfl⟩;have Hst:Hid (eraAll m (k+1)=((eraA (eraAll m k).1 (k:Nat)).2,if r then (fun j=>j==k||(eraAll m k).2 j) else (eraAll m k).2)):=hidI (by rw [hr];rfl);rw [←hr] at A;clear hr;go_wp2_with fail;refine A.out.mono ?_;rintro e w1 ⟨rfl,hC1,hO1⟩;have hS1:BlAt w1 g k (eraAll m k).2:=HS.out.of_block (hO1.block g hgs (by omega));have HC1:Hid (CP w1 lo hi cb L (eraAll m (k+1)).1):=hidI (by rw [Hst.out];exact hC1);have HO1:=hidI (HO.out.trans hO1);have hgs1:=Nat.lt_of_lt_of_le hgs hO1.size;have HS1:=hidI hS1;clear A hC1 hO1 HC HS HO hS1;cases r with
   | true =>
     have A2:=hidI (qeK g k k _ w1 HS1.out (by omega) (by omega));go_wp2_with fail;refine A2.out.mono ?_;rintro e V ⟨rfl,hSV,hmV⟩;have HCV:Hid (CP V lo hi cb L (eraAll m (k+1)).1):=hidI (MemX.of_blocks HC1.out fun j _ h2=>hmV.grown.block j (by omega) (fun e=>by cases e;omega));have HSV:Hid (BlAt V g (k+1) (eraAll m (k+1)).2):=hidI (by rw [Hst.out];exact hSV);have HOV:Hid (Only lo hi w V):=hidI ⟨hmV.grown.os.trans HO1.out.os,hmV.grown.tape.trans HO1.out.tape,hmV.grown.output.trans HO1.out.output,Nat.le_trans HO1.out.size hmV.grown.size,fun j hj hn=>(hmV.grown.block j (Nat.lt_of_lt_of_le hj HO1.out.size) (fun e=>by cases e;have:=Hg.out;omega)).trans (HO1.out.block j hj hn)⟩;clear hSV hmV HS1 HC1 HO1 A2;go_wp2;go_roundw
     case rel=>exact ⟨k+1,by omega,by go_num,HCV,HSV,HOV⟩
     case measure=>simp [intOf];omega
   | false =>
     have HSV:Hid (BlAt w1 g (k+1) (eraAll m (k+1)).2):=hidI (by rw [Hst.out];exact HS1.out.mono (by omega));go_wp2;go_roundw
     case rel=>exact ⟨k+1,by omega,by go_num,HC1,HSV,HO1⟩
     case measure=>simp [intOf];omega
  have hkn:k=nb:=by omega
  subst hkn;go_wp2;go_ret
  exact ⟨rfl,HC.out,HS.out,HO.out⟩
end Go.Proofs.YtodmdkhdbfbfgabGreatDoor.S1
namespace Go.Proofs.YtodmdkhdbfbfgabGreatDoor.S1
open Go.RowKit Pk
theorem qi4 {P:Program} {c:Code} {Q:Exit→Act→World→Prop} {a:Act} {w:World} {F:Act} {W:World} (reg:c.wp P (NoPanic fun e a' w'=>e=.normal∧a'=F∧w'=W) a w) (cont:Q .normal F W):c.wp P Q a w:=by
 refine Code.wp_mono (fun e a' w' h => ?_) reg;cases e with
 | panic c=>exact (h:False).elim
 | normal =>
   obtain ⟨_,h2,h3⟩:Exit.normal=Exit.normal∧a'=F∧w'=W:=h;rw [h2,h3];exact cont
 | _ =>
   have h':=NoPanic.imp _ _ _ h;obtain ⟨h1,_,_⟩:=h';cases h1
structure Lv where
 nb:Nat
 nn:Nat
 tk:Option Nat
def LogAt (w:World) (lb cb:Nat) (lv:Lv) (kv qv:Option Nat) (b p:Nat):Prop:=w.heap[lb]? = some (.cells #[.pointer (some ⟨cb,0,none⟩),.int .i64 (lv.nb:Nat),.int .u32 (lv.nn:Nat),.map kv,.map lv.tk,.map qv,.int .i64 (b:Nat),.int .i64 (p:Nat)] 124 (0,0))
namespace LogAt
variable {w:World} {lb cb:Nat} {lv:Lv} {kv qv:Option Nat} {b p:Nat}
theorem lt (h:LogAt w lb cb lv kv qv b p):lb<w.heap.size:=lt_of_heap h
theorem of_block {w':World} (h:LogAt w lb cb lv kv qv b p) (e:w'.heap[lb]? = w.heap[lb]?):LogAt w' lb cb lv kv qv b p:=e.trans h
theorem c0 (h:LogAt w lb cb lv kv qv b p):w.cell? ⟨lb,0,none⟩=some (.pointer (some ⟨cb,0,none⟩)):=by rw [cell_of_row w lb 0 _ 124 (0,0) h];rfl
theorem n0 (h:LogAt w lb cb lv kv qv b p):w.cell? ⟨lb,1,none⟩=some (.int .i64 (lv.nb:Nat)):=by rw [cell_of_row w lb 1 _ 124 (0,0) h];rfl
theorem n1 (h:LogAt w lb cb lv kv qv b p):w.cell? ⟨lb,2,none⟩=some (.int .u32 (lv.nn:Nat)):=by rw [cell_of_row w lb 2 _ 124 (0,0) h];rfl
theorem c2 (h:LogAt w lb cb lv kv qv b p):w.cell? ⟨lb,3,none⟩=some (.map kv):=by rw [cell_of_row w lb 3 _ 124 (0,0) h];rfl
theorem t4 (h:LogAt w lb cb lv kv qv b p):w.cell? ⟨lb,4,none⟩=some (.map lv.tk):=by rw [cell_of_row w lb 4 _ 124 (0,0) h];rfl
theorem c3 (h:LogAt w lb cb lv kv qv b p):w.cell? ⟨lb,5,none⟩=some (.map qv):=by rw [cell_of_row w lb 5 _ 124 (0,0) h];rfl
theorem c4 (h:LogAt w lb cb lv kv qv b p):w.cell? ⟨lb,6,none⟩=some (.int .i64 (b:Nat)):=by rw [cell_of_row w lb 6 _ 124 (0,0) h];rfl
theorem c5 (h:LogAt w lb cb lv kv qv b p):w.cell? ⟨lb,7,none⟩=some (.int .i64 (p:Nat)):=by rw [cell_of_row w lb 7 _ 124 (0,0) h];rfl
theorem fz (h:LogAt w lb cb lv kv qv b p) (k:Nat):w.frozen? ⟨lb,k,none⟩=false:=frozen_of_row w lb k _ 124 h
theorem set2 (h:LogAt w lb cb lv kv qv b p) (x:Option Nat):LogAt (w.setCell ⟨lb,3,none⟩ (.map x)) lb cb lv x qv b p:=heap_setCell_same w lb 3 _ 124 (.map x) h
theorem setT (h:LogAt w lb cb lv kv qv b p) (x:Option Nat):LogAt (w.setCell ⟨lb,4,none⟩ (.map x)) lb cb ⟨lv.nb,lv.nn,x⟩ kv qv b p:=heap_setCell_same w lb 4 _ 124 (.map x) h
theorem set4 (h:LogAt w lb cb lv kv qv b p) (x:Nat):LogAt (w.setCell ⟨lb,6,none⟩ (.int .i64 (x:Nat))) lb cb lv kv qv x p:=heap_setCell_same w lb 6 _ 124 _ h
theorem set5 (h:LogAt w lb cb lv kv qv b p) (x:Nat):LogAt (w.setCell ⟨lb,7,none⟩ (.int .i64 (x:Nat))) lb cb lv kv qv b x:=heap_setCell_same w lb 7 _ 124 _ h
end LogAt
def Apart (v:Option Nat) (lo hi lb:Nat):Prop:=∀ g,v=some g→g≠lb∧¬(lo≤g∧g<hi)
theorem BlV.of_blocks {w w':World} {v:Option Nat} {n:Nat} {S:Nat→Bool} (h:BlV w v n S) (e:∀ g,v=some g→g<w.heap.size→w'.heap[g]? = w.heap[g]?):BlV w' v n S:=by
 rcases h with ⟨rfl,h⟩ | ⟨b,rfl,h⟩
 ·exact .inl ⟨rfl,h⟩
 exact .inr ⟨b,rfl,h.of_block (e b rfl h.lt)⟩
structure LogM (w:World) (lo hi cb lb:Nat) (L:Loc) (lv:Lv) (kv qv:Option Nat) (nk nq:Nat) (m:M) (K Q:Nat→Bool) (b p:Nat):Prop where
 log:LogAt w lb cb lv kv qv b p
 chip:CP w lo hi cb L m
 wf:WF m
 kept:BlV w kv nk K
 clean:BlV w qv nq Q
 ak:Apart kv lo hi lb
 aq:Apart qv lo hi lb
 kq:∀ g,kv=some g→qv≠some g
 al:¬(lo≤lb∧lb<hi)
 sz:hi≤w.heap.size
def LogS (lo hi lb:Nat) (kv qv:Option Nat) (k:Nat):Prop:=(lo≤k∧k<hi)∨k=lb∨kv=some k∨qv=some k
namespace LogM
variable {w w':World} {lo hi cb lb:Nat} {L:Loc} {lv:Lv} {kv qv:Option Nat} {nk nq:Nat} {m m':M} {K Q:Nat→Bool} {b p:Nat}
theorem of_blocks (h:LogM w lo hi cb lb L lv kv qv nk nq m K Q b p) (hs:hi≤w'.heap.size) (e:∀ k,LogS lo hi lb kv qv k→k<w.heap.size→w'.heap[k]? = w.heap[k]?):LogM w' lo hi cb lb L lv kv qv nk nq m K Q b p:=
 ⟨h.log.of_block (e lb (.inr (.inl rfl)) h.log.lt),MemX.of_blocks h.chip fun k h1 h2=>e k (.inl ⟨h1,h2⟩) (Nat.lt_of_lt_of_le h2 h.sz),h.wf,h.kept.of_blocks fun g hg hl=>e g (.inr (.inr (.inl hg))) hl,h.clean.of_blocks fun g hg hl=>e g (.inr (.inr (.inr hg))) hl,h.ak,h.aq,h.kq,h.al,hs⟩
theorem new (h:LogM w lo hi cb lb L lv kv qv nk nq m K Q b p) (hb:Below w.heap.size w w'):LogM w' lo hi cb lb L lv kv qv nk nq m K Q b p:=
 h.of_blocks (Nat.le_trans h.sz hb.size) fun k _ hk=>hb.block k hk
theorem drew (h:LogM w lo hi cb lb L lv kv qv nk nq m K Q b p):LogM w.drew lo hi cb lb L lv kv qv nk nq m K Q b p:=h.of_blocks h.sz fun k _ hk=>rfl
theorem field (h:LogM w lo hi cb lb L lv kv qv nk nq m K Q b p) {o:Nat} {x:Value} {lv':Lv} {b' p':Nat} (hl:LogAt (w.setCell ⟨lb,o,none⟩ x) lb cb lv' kv qv b' p'):LogM (w.setCell ⟨lb,o,none⟩ x) lo hi cb lb L lv' kv qv nk nq m K Q b' p':=by
 have e:∀ k,k≠lb→(w.setCell ⟨lb,o,none⟩ x).heap[k]? = w.heap[k]? := fun k hk=>Below.heap_setCell w ⟨lb,o,none⟩ x k hk
 exact ⟨hl,MemX.of_blocks h.chip fun k h1 h2=>e k (fun e'=>h.al (by subst e';exact ⟨h1,h2⟩)),h.wf,h.kept.of_blocks fun g hg _=>e g (h.ak g hg).1,h.clean.of_blocks fun g hg _=>e g (h.aq g hg).1,h.ak,h.aq,h.kq,h.al,by have:=h.sz;simpa using this⟩
theorem set4 (h:LogM w lo hi cb lb L lv kv qv nk nq m K Q b p) (x:Nat):LogM (w.setCell ⟨lb,6,none⟩ (.int .i64 (x:Nat))) lo hi cb lb L lv kv qv nk nq m K Q x p:=h.field (h.log.set4 x)
theorem set5 (h:LogM w lo hi cb lb L lv kv qv nk nq m K Q b p) (x:Nat):LogM (w.setCell ⟨lb,7,none⟩ (.int .i64 (x:Nat))) lo hi cb lb L lv kv qv nk nq m K Q b x:=h.field (h.log.set5 x)
theorem turn (h:LogM w lo hi cb lb L lv kv qv nk nq m K Q b p) (hc:CP w' lo hi cb L m') (hw:WF m') (ho:Only lo hi w w'):LogM w' lo hi cb lb L lv kv qv nk nq m' K Q b p:=
 ⟨h.log.of_block (ho.block lb h.log.lt h.al),hc,hw,h.kept.of_blocks fun g hg hl=>ho.block g hl (h.ak g hg).2,h.clean.of_blocks fun g hg hl=>ho.block g hl (h.aq g hg).2,h.ak,h.aq,h.kq,h.al,Nat.le_trans h.sz ho.size⟩
theorem qset {g:Nat} (h:LogM w lo hi cb lb L lv kv (some g) nk nq m K Q b p) {nq':Nat} {Q':Nat→Bool} (hq:BlAt w' g nq' Q') (hm:w.mapTurned w' g):LogM w' lo hi cb lb L lv kv (some g) nk nq' m K Q' b p:=by
 have e:∀ k,k<w.heap.size→k≠g→w'.heap[k]? = w.heap[k]? := fun k hk hn=>hm.grown.block k hk (fun e=>by cases e;exact hn rfl)
 have hg:=h.aq g rfl;exact ⟨h.log.of_block (e lb h.log.lt (fun e=>hg.1 e.symm)),MemX.of_blocks h.chip fun k h1 h2=>e k (Nat.lt_of_lt_of_le h2 h.sz) (fun e'=>hg.2 (by subst e';exact ⟨h1,h2⟩)),h.wf,h.kept.of_blocks fun g' hg' hl=>e g' hl (fun e'=>h.kq g' hg' (by rw [e'])),.inr ⟨g,rfl,hq⟩,h.ak,h.aq,h.kq,h.al,Nat.le_trans h.sz hm.grown.size⟩
theorem del (h:LogM w lo hi cb lb L lv kv qv nk nq m K Q b p) {i:Nat} (hi':i≤1000000):∃ V,(Builtin.delete_ #[76,3] 0 #[.map qv,.int .i64 (i:Nat)]).run Tryz.prog w=.ok (.tuple #[]) V∧LogM V lo hi cb lb L lv kv qv nk nq m K (fun j => !(j==i)&&Q j) b p∧Fm (LogS lo hi lb kv qv) w V:=by
 rcases h.clean with ⟨rfl,hn⟩ | ⟨g,rfl,hg⟩
 ·refine ⟨w,Maps.drop_nil law3 Tryz.underlying76 (key3 hi') 0,⟨h.log,h.chip,h.wf,h.kept,.inl ⟨rfl,fun j=>by simp [hn j]⟩,h.ak,h.aq,h.kq,h.al,h.sz⟩,Fm.refl _ _⟩
 obtain ⟨V,h1,h2,h3⟩:=hg.drop hi' 0;exact ⟨V,h1,h.qset h2 h3,(Fm.refl _ _).map (fun _=>.inr (.inr (.inr rfl))) h3⟩
end LogM
def openF (m:M) (K Q:Nat→Bool) (b:Nat):Bool × M × (Nat→Bool) × Nat:=
 if K ((b+1)%m.nb) then (false,m,Q,m.np)
 else if Q ((b+1)%m.nb) then (true,m,(fun j => !(j==(b+1)%m.nb)&&Q j),0)
 else if (eraA m (((b+1)%m.nb:Nat):Int)).1 then (true,(eraA m (((b+1)%m.nb:Nat):Int)).2,(fun j => !(j==(b+1)%m.nb)&&Q j),0)
 else (false,(eraA m (((b+1)%m.nb:Nat):Int)).2,Q,m.np)
end Go.Proofs.YtodmdkhdbfbfgabGreatDoor.S1
