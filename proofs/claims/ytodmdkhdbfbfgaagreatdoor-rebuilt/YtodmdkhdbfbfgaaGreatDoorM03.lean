/- Lemmas. -/
import Derived.Maps.OwnSet
import Derived.Maps.OwnOps
import Derived.Maps.Keyed
import Derived.RangeFuncWrites
import Derived.Deep.Draws
import Derived.RangeFuncGives
import Derived.RangeFuncSeq
import Derived.DeepKeys4
import Derived.Sort.MapsRangeIn
import Derived.Shelf.Abstract
import Derived.OwnWalkIn
import Derived.TacticsInMore
import Derived.LoopNIn
import Derived.LoopIn
import Derived.Maps.AppendAt
import Derived.RegionIn
import Derived.Shelf.SlIter.Collect
import Derived.Test.YtodmdkhdbfbfgaaGreatDoorM02
set_option linter.unusedVariables false
set_option linter.unusedSimpArgs false
set_option maxRecDepth 100000
set_option maxHeartbeats 8000000
namespace Go.Proofs.YtodmdkhdbfbfgaaGreatDoor.S1
open Go.RowKit Pk
theorem law3:Maps.Keyed Tryz.prog 3:=Maps.int_keyed Tryz.underlying3
theorem key3 {i:Nat} (h:i≤1000000):keyOf Tryz.prog 3 (.int .i64 (i:Nat))=some (.int .i64 (i:Nat)):=Maps.keyOf_int_mk Tryz.underlying3 (by simp [Lit.wf,IntKind.min,IntKind.max,IntKind.signed,IntKind.bits];omega)
theorem qgn (w:World):(zeroValue 243).run Tryz.prog w=.ok (.agg #[]) w:=by kernel_rfl
def BlAt (w:World) (b:Nat) (n:Nat) (S:Nat→Bool):Prop:=
 ∃ D:DataW Unit,w.ownsMap Tryz.prog 3 unitElem b n D∧∀ i:Nat,Maps.has D (.int .i64 (i:Nat))=S i
def BlV (w:World) (v:Option Nat) (n:Nat) (S:Nat→Bool):Prop:=(v=none∧∀ i,S i=false)∨∃ b,v=some b∧BlAt w b n S
theorem BlAt.lt {w:World} {b n:Nat} {S:Nat→Bool} (h:BlAt w b n S):b<w.heap.size:=by obtain ⟨D,h,_⟩:=h;exact h.lt
theorem BlAt.of_block {w w':World} {b n:Nat} {S:Nat→Bool} (h:BlAt w b n S) (hb:w'.heap[b]? = w.heap[b]?):BlAt w' b n S:=by
 obtain ⟨D,⟨es,clock,h1,h2⟩,hh⟩:=h;exact ⟨D,⟨es,clock,hb.trans h1,h2⟩,hh⟩
theorem BlAt.mono {w:World} {b n n':Nat} {S:Nat→Bool} (h:BlAt w b n S) (hn:n≤n'):BlAt w b n' S:=by
 obtain ⟨D,h1,hh⟩:=h;exact ⟨D,h1.mono hn,hh⟩
theorem BlAt.congr {w:World} {b n:Nat} {S T:Nat→Bool} (h:BlAt w b n S) (e:∀ i,S i=T i):BlAt w b n T:=by
 obtain ⟨D,h1,hh⟩:=h;exact ⟨D,h1,fun i=>(hh i).trans (e i)⟩
theorem qgk (w:World):BlAt (w.alloc (.map #[] 0)) w.heap.size 0 (fun _=>false):=⟨.map [],World.ownsMap_made w _ _ _,fun i=>rfl⟩
theorem BlAt.look {w:World} {b n:Nat} {S:Nat→Bool} (h:BlAt w b n S) {i:Nat} (hi:i≤1000000):(Instr.lookup 92 (.map (some b)) (.int .i64 (i:Nat)) true).run Tryz.prog w=.ok (.tuple #[.agg #[],.bool (S i)]) w:=by
 obtain ⟨D,ho,hh⟩:=h;obtain ⟨v,ps,h1,h2⟩:=ho.look_ok law3 Tryz.underlying92 (qgn w) unitElem_mk (key3 hi);rw [hh i,(unitElem_inv h2).1] at h1;exact h1
theorem qhl (w:World) {i:Nat} (hi:i≤1000000):(Instr.lookup 92 (.map none) (.int .i64 (i:Nat)) true).run Tryz.prog w=.ok (.tuple #[.agg #[],.bool false]) w:=by
 have:=Maps.look_nil (w:=w) true law3 Tryz.underlying92 (qgn w) (key3 hi)
 simpa using this
theorem BlV.look {w:World} {v:Option Nat} {n:Nat} {S:Nat→Bool} (h:BlV w v n S) {i:Nat} (hi:i≤1000000):(Instr.lookup 92 (.map v) (.int .i64 (i:Nat)) true).run Tryz.prog w=.ok (.tuple #[.agg #[],.bool (S i)]) w:=by
 rcases h with ⟨rfl,h⟩ | ⟨b,rfl,h⟩
 ·rw [h i];exact qhl w hi
 exact h.look hi
theorem int_ne {i j:Nat} (h:i≠j):Lit.int .i64 (i:Nat)≠.int .i64 (j:Nat):=fun e=>h (by cases e;rfl)
theorem BlAt.store {w:World} {b n:Nat} {S:Nat→Bool} (h:BlAt w b n S) {i:Nat} (hi:i≤1000000) (hn:n≤1000000) :
 ∃ w',(Instr.mapUpdate 92 (.map (some b)) (.int .i64 (i:Nat)) (.agg #[])).run Tryz.prog w=.ok () w'∧BlAt w' b (n+1) (fun j=>j==i||S j)∧w.mapTurned w' b:=by
 obtain ⟨D,ho,hh⟩:=h;obtain ⟨w',h1,h2,h3⟩:=ho.store law3 Tryz.underlying92 (by unfold maxLen;omega) (key3 hi) unitElem_mk;refine ⟨w',h1,⟨_,h2,fun j => ?_⟩,h3⟩;by_cases e:j=i
 ·subst e;rw [Maps.has_put_same ho.isMap (k:=.int .i64 (j:Nat)) trivial];simp
 rw [Maps.has_put_other (int_ne e),hh j];simp [e]
theorem BlAt.drop {w:World} {b n:Nat} {S:Nat→Bool} (h:BlAt w b n S) {i:Nat} (hi:i≤1000000) (ty:TypeId) :
 ∃ w',(Builtin.delete_ #[92,3] ty #[.map (some b),.int .i64 (i:Nat)]).run Tryz.prog w=.ok (.tuple #[]) w'∧BlAt w' b n (fun j => !(j==i)&&S j)∧w.mapTurned w' b:=by
 obtain ⟨D,ho,hh⟩:=h;obtain ⟨w',h1,h2,h3⟩:=ho.drop law3 Tryz.underlying92 (key3 hi) ty;refine ⟨w',h1,⟨_,h2,fun j => ?_⟩,h3⟩;by_cases e:j=i
 ·subst e;rw [Maps.has_del_same];simp
 rw [Maps.has_del_other (int_ne e),hh j];simp [e]
theorem qg9 (v:Option Nat) (n i:Nat) (S:Nat→Bool) (w:World) (h:BlV w v n S) (hi:i≤1000000) :
 Calls Tryz.prog 243 #[.map v,.int .i64 (i:Nat)] w fun e w'=>e=.returned (.bool (S i))∧Below w.heap.size w w':=by
 have hl:=h.look hi;clear h;obtain ⟨r,hr⟩:∃ r,r=S i:=⟨_,rfl⟩;rw [←hr] at hl ⊢;clear hr;go_enter Tryz.func243,Tryz.ntmps243
 go_wp2;go_ret
 exact ⟨rfl,(Below.refl _ w).alloc (Nat.le_refl _) _⟩
theorem pagesOf_any (t:List UInt8) (w:World) (ht:t.length≤1000000000):Calls Tryz.prog 123 #[.string (txt t)] w fun e w'=>e=.returned (.int .i64 (Go.Nt.pagesN t.length:Nat))∧w'=w:=by
 have hs:(txt t).size=t.length:=qaa t;obtain ⟨X,hX⟩:∃ X,X=txt t:=⟨_,rfl⟩;rw [←hX] at hs ⊢;obtain ⟨n,hn⟩:∃ n,n=t.length:=⟨_,rfl⟩;rw [←hn] at ht hs ⊢;clear hX hn;have e:((n:Int)+51 - 1).tdiv 51=(Go.Nt.pagesN n:Nat):=by
  rw [Int.tdiv_eq_ediv_of_nonneg (by omega)];unfold Go.Nt.pagesN;omega
 obtain ⟨q,hq⟩:∃ q,q=Go.Nt.pagesN n:=⟨_,rfl⟩;rw [←hq] at e ⊢;have hX9:X.size≤1000000000:=by omega
 have Hs:=hidI hs;have He:=hidI e;clear hs hq e;go_enter Tryz.func123,Tryz.ntmps123
 go_wp2;go_ret
 refine ⟨qax ?_,rfl⟩;have h1:=Hs.out;have h2:=He.out;rw [←h1] at h2;rw [←h2]
 first | rfl | (rw [Int.tdiv_eq_ediv_of_nonneg (by omega)])
def badN (m:M):Nat:=(List.range m.nb).countP fun i=>m.bd i
theorem badN_le (m:M):badN m≤m.nb:=by
 have:=List.countP_le_length (p:=fun i=>m.bd i) (l:=List.range m.nb)
 simpa [badN] using this
def good (m:M):Nat:=m.nb - badN m
theorem qmX (m:M):good m≤m.nb:=Nat.sub_le _ _
def roomP (m:M):Nat:=good m/2*m.np
theorem qlF (m:M) {i:Nat} (h:i<m.nb):badB m (i:Nat)=m.bd i:=by
 unfold badB hasB;simp [h]
theorem qbV (w:World) (lo hi cb:Nat) (L:Loc) (m:M) (hw:WF m) (h:CP w lo hi cb L m) :
 Calls Tryz.prog 189 #[.pointer (some ⟨cb,0,none⟩)] w fun e w'=>e=.returned (.int .i64 (badN m:Nat))∧w'=w:=by
 have HB:=hidI (qaP w lo hi cb L m h);have HD:=hidI (fun i (hi':i<m.nb)=>by have:=qdy w lo hi cb L m (i:Nat) h;rw [qlF m hi'] at this;exact this);have h1:=hw.nb2;clear h hw;go_enter Tryz.func189,Tryz.ntmps189
 go_wp2_with fail;refine HB.out.mono ?_;rintro e w' ⟨rfl,hw⟩;have hw':=hw.symm;subst hw';clear hw;go_wp2_with fail
 go_loopw [3,7] (fun g i wr=>wr=w∧∃ k c:Nat,k≤m.nb∧i=.int .i64 k∧g=.int .i64 c∧c≤k∧Hid (c=(List.range k).countP fun i=>m.bd i)) (fun _ i _=>m.nb - (intOf i).toNat)
 case atStart=>exact ⟨rfl,0,0,Nat.zero_le _,rfl,rfl,Nat.le_refl _,hidI rfl⟩
 case round =>
  obtain ⟨rfl,k,c,hk,rfl,rfl,hc,Hc⟩:=hrel;by_cases hlt:k<m.nb
  ·have A:=hidI (HD.out k hlt);have Hn:Hid ((List.range (k+1)).countP (fun i=>m.bd i)=c+if m.bd k then 1 else 0):=hidI (by
    rw [List.range_succ,List.countP_append,←Hc.out];cases hbk:m.bd k<;>simp [hbk])
   obtain ⟨b,hb⟩:∃ b,b=m.bd k:=⟨_,rfl⟩;rw [←hb] at A Hn;clear hb;cases b with
   | true =>
     go_wp2_with (go_at_call 94;refine A.out.mono ?_;rintro e w' ⟨rfl,hw⟩;have hw':=hw.symm;subst hw';clear hw);go_roundw
     case rel=>exact ⟨trivial,k+1,c+1,by omega,by go_num,by go_num,by omega,hidI (by rw [Hn.out];simp)⟩
     case measure=>simp [intOf];omega
   | false =>
     go_wp2_with (go_at_call 94;refine A.out.mono ?_;rintro e w' ⟨rfl,hw⟩;have hw':=hw.symm;subst hw';clear hw);go_roundw
     case rel=>exact ⟨trivial,k+1,c,by omega,by go_num,rfl,by omega,hidI (by rw [Hn.out];simp)⟩
     case measure=>simp [intOf];omega
  have hkn:k=m.nb:=by omega
  subst hkn;go_wp2;go_ret
  have hbn:badN m=c:=by have h9:=Hc.out;unfold badN;exact h9.symm
  exact ⟨by rw [hbn];rfl,rfl⟩
theorem qk5 (w:World) (lo hi cb:Nat) (L:Loc) (m:M) (hw:WF m) (h:CP w lo hi cb L m) :
 Calls Tryz.prog 124 #[.pointer (some ⟨cb,0,none⟩)] w fun e w'=>e=.returned (.int .i64 (roomP m:Nat))∧w'=w:=by
 have HB:=hidI (qaP w lo hi cb L m h);have HP:=hidI (pages_any w lo hi cb L m h);have HD:=hidI (qbV w lo hi cb L m hw h);have h1:=hw.nb2;have h2:=hw.np2;have h3:=badN_le m;obtain ⟨bn,hbn⟩:∃ bn,bn=badN m:=⟨_,rfl⟩;rw [←hbn] at HD h3;obtain ⟨nb,hnb⟩:∃ nb,nb=m.nb:=⟨_,rfl⟩;rw [←hnb] at HB h1 h3;obtain ⟨np,hnp⟩:∃ np,np=m.np:=⟨_,rfl⟩;rw [←hnp] at HP h2;have HR:Hid (roomP m=(nb - bn)/2*np):=hidI (by unfold roomP good;rw [hbn,hnb,hnp]);have e2:((nb:Int) - (bn:Int)).tdiv 2=(((nb - bn)/2:Nat):Int):=by rw [Int.tdiv_eq_ediv_of_nonneg (by omega)];omega
 obtain ⟨q,hq⟩:∃ q,q=(nb - bn)/2:=⟨_,rfl⟩;have hq9:q≤16:=by omega
 have e3:((nb:Int) - (bn:Int))/2=(q:Nat):=by omega
 rw [←hq] at e2 HR;have hmul:q*np≤256:=Nat.mul_le_mul hq9 h2;clear h hw hbn hnb hnp hq;go_enter Tryz.func124,Tryz.ntmps124
 go_wp2_with (first | (go_at_call 76;refine HB.out.mono ?_;rintro e w' ⟨rfl,hw⟩;have hw':=hw.symm;subst hw';clear hw) | (go_at_call 77;refine HP.out.mono ?_;rintro e w' ⟨rfl,hw⟩;have hw':=hw.symm;subst hw';clear hw) | (go_at_call 189;refine HD.out.mono ?_;rintro e w' ⟨rfl,hw⟩;have hw':=hw.symm;subst hw';clear hw));go_ret
 exact ⟨by rw [HR.out];simp,rfl⟩
theorem qeL (b n i:Nat) (S:Nat→Bool) (w:World) (h:BlAt w b n S) (hi:i≤1000000) (hn:n≤1000000) :
 Calls Tryz.prog 126 #[.map (some b),.int .i64 (i:Nat)] w fun e w'=>e=.returned (.tuple #[])∧BlAt w' b (n+1) (fun j=>j==i||S j)∧w.mapTurned w' b:=by
 obtain ⟨V,hu,hS,hm⟩:=h.store hi hn;have HS:=hidI hS;have HM:=hidI hm;clear h hS hm;go_enter Tryz.func126,Tryz.ntmps126
 go_wp2;go_end0
 exact ⟨rfl,HS.out,HM.out⟩
def anyOf:Value→Option (DataW Value × List MemPlace):=fun v=>some (.held v,[])
theorem qjw {v u:Value} {ps:List MemPlace} (h:anyOf v=some (.held u,ps)):v=u:=by
 unfold anyOf at h;simp at h;exact h.1
theorem qna (w:World):(zeroValue 201).run Tryz.prog w=.ok (.slice none 0 0) w:=by kernel_rfl
theorem qjg (w:World):(Instr.makeMap 200 none).run Tryz.prog w=.ok (.map (some w.heap.size)) (w.alloc (.map #[] 0)):=by
 simp [Instr.makeMap,Result.andThen]
theorem qbc {w w':World} {T:TypeId} {H:Type} {R:Value→Option (DataW H × List MemPlace)} {g n:Nat} {D:DataW H} (h:w.ownsMap Tryz.prog T R g n D) (hb:w'.heap[g]? = w.heap[g]?):w'.ownsMap Tryz.prog T R g n D:=by
 obtain ⟨es,clock,h1,h2⟩:=h;exact ⟨es,clock,hb.trans h1,h2⟩
end Go.Proofs.YtodmdkhdbfbfgaaGreatDoor.S1
namespace Go.Proofs.YtodmdkhdbfbfgaaGreatDoor
open Go.RowKit
structure AbBox {β:Type} (bs:Nat) (J:β→World→Prop):Prop where
 set:∀ s W v,J s W→J s (W.setCell ⟨bs,0,none⟩ v)
 drew:∀ s W q,J s W→J s (W.drewN q)
def SeqBox {α:Type} (F:Fence) (n:Nat) (P:Program) (g:Nat) (lb:Array Value) (enc:α→Value) (n₀ bs:Nat) (xs:List α) (w:World):Prop:=
 ∀ (l:Nat) (J Jx:List α→World→Prop) (W:World),Below n₀ w W→AbBox bs J→AbBox bs Jx →
  (∀ pre x W1,J pre W1→pre++[x] <+: xs→YieldAt F (n - 1) P l #[enc x] W1 fun e W'=>(e=.returned (.bool true)∧J (pre++[x]) W'∧Below n₀ W1 W')∨(e=.returned (.bool false)∧Jx (pre++[x]) W')) →
  J [] W→CallsIn F n P g (#[.func (.yield l) #[] #[]]++lb) W fun e W'=>(∃ v,e=.returned v)∧(J xs W'∨∃ pre,pre <+: xs∧Jx pre W')
def qm8 {α:Type} (B:Nat) (I Ix:List α→World→Prop) (xs:List α) (W:World):Exit→Act→World→Prop
 | .normal,_,W'=>KeepsFrom B W W'∧Below B W W'∧I xs W'
 | .ret,_,W'=>KeepsFrom B W W'∧Ix xs W'
 | .exit _,_,_=>False
 | .goto _,_,_=>False
 | .panic _,_,_=>False
 | .outgrown,_,_=>False
def LoopAt (w:World) (r:Loop) (W:World):Prop:=W.heap[w.heap.size+1]? = some (.loop r)∧W.heap[w.heap.size]? = some (.deferred (some []))
theorem LoopAt.turn {w W:World} {r:Loop} (h:LoopAt w r W) (r':Loop):LoopAt w r' (W.putObj (w.heap.size+1) (.loop r')):=
 ⟨World.putObj_heap_same (Array.getElem?_eq_some_iff.1 h.1).1,(World.putObj_heap_other (by omega)).trans h.2⟩
theorem LoopAt.kept {w W W':World} {r:Loop} (h:LoopAt w r W) (k:KeepsFrom w.heap.size W W'):LoopAt w r W':=
 ⟨k.same _ _ (by omega) h.1 rfl,k.same _ _ (Nat.le_refl _) h.2 rfl⟩
theorem LoopAt.set {w W:World} {r:Loop} (h:LoopAt w r W) {bs:Nat} (hb:bs<w.heap.size) (v:Value):LoopAt w r (W.setCell ⟨bs,0,none⟩ v):=
 ⟨(Below.heap_setCell W ⟨bs,0,none⟩ v _ (by simp;omega)).trans h.1,(Below.heap_setCell W ⟨bs,0,none⟩ v _ (by simp;omega)).trans h.2⟩
variable {F:Fence} {n:Nat} {P:Program}
theorem qes {α:Type} {g:Operand} {ps:Array Tmp} {assign body:Code} {Q:Exit→Act→World→Prop} {a:Act} {w:World}
 (hro:F.round=none) (h1:1≤n) {gf:Nat} {lb:Array Value} (hg:a.eval g=.func (.func gf) #[] lb) (hFg:F.fn gf) (eg:∀ args w,(callFunc gf args).run P w=.ok (.enter gf args) w)
 {enc:α→Value} {bs:Nat} {xs:List α} (hseq:SeqBox F (n - 1) P gf lb enc w.heap.size bs xs w) (hbs:bs<w.heap.size) (hps:ps.size=1)
 (I Ix:List α→World→Prop) (hI:OwnFrom w.heap.size I) (hIb:AbBox bs I) (hIx:OwnFrom w.heap.size Ix) (hIxb:AbBox bs Ix) (h0:I [] w) (a₁:α→Act)
 (hassign:∀ (l:Nat) (x:α) (W:World) (K:Act→World→Prop),K (a₁ x) W →
   assign.wpIn (F.inRound l) (n - 1 - 1) P (Exit.then K (fun _ _ _=>False)) { tmps:=(ps.zip #[enc x]).foldl (fun t (p,v)=>t.setIfInBounds p v) a.tmps,defers:=[] } W)
 (hbody:∀ (l:Nat) (pre:List α) (x:α) (W:World),I pre W→pre++[x] <+: xs→w.heap.size≤W.heap.size→body.wpIn (F.inRound l) (n - 1 - 1) P (qm8 w.heap.size I Ix (pre++[x]) W) (a₁ x) W)
 (hdone:∀ (D:Nat) (W:World),w.heap.size≤D→I xs W→W.heap[D]? = some (.deferred (some []))→Q .normal { a with defers:={ target:=.collected D,args:=#[] } :: a.defers } W)
 (hstop:∀ (D:Nat) (pre:List α) (W:World),w.heap.size≤D→pre <+: xs→Ix pre W→W.heap[D]? = some (.deferred (some []))→Code.ret.wpIn F n P Q { a with defers:={ target:=.collected D,args:=#[] } :: a.defers } W) :
 (Code.rangeFunc g ps assign body).wpIn F n P Q a w:=by
 refine wpIn_rangeFunc fun fn hfn => ?_
 rw [hro];obtain ⟨r,hr⟩:∃ r:LoopState→Option Code→Loop,r=fun st pe=>{ state:=st,pending:=pe,fn,tmps:=a.tmps,params:=ps,assign,body,defers:=w.heap.size }:=⟨_,rfl⟩
 obtain ⟨V,hV⟩:∃ V,V=(w.alloc (.deferred (some []))).alloc (.loop (r .ready none)):=⟨_,rfl⟩;have hL:LoopAt w (r .ready none) V:=by
  rw [hV];refine ⟨?_,(Below.heap_alloc _ _ _ (by simp)).trans (World.alloc_heap_new w _)⟩
  have:=World.alloc_heap_new (w.alloc (.deferred (some []))) (.loop (r .ready none))
  rwa [World.size_alloc] at this
 have hIV:I [] V:=by rw [hV];exact hI.alloc _ (hI.alloc _ h0)
 have hBV:Below w.heap.size w V:=by rw [hV];exact ((Below.refl _ w).alloc (Nat.le_refl _) _).alloc (by simp) _
 refine ⟨w.heap.size+1,[{ target:=.collected w.heap.size,args:=#[] }],V,{ target:=.fn (.func gf) lb,args:=#[.func (.yield (w.heap.size+1)) #[] #[]] },V,gf,
  #[.func (.yield (w.heap.size+1)) #[] #[]]++lb,V,?_,?_,?_,?_,fun _=>h1,?_⟩
 ·rw [hV,hr];exact run_enterLoop_outer _ _ _ _ _
 ·simp only [resolve,hg];simp [go_sem]
 ·intro f' hf';simp [Target.leads] at hf';subst hf';exact hFg
 ·simp [invoke,go_sem,eg]
 refine (hseq (w.heap.size+1) (fun pre W=>I pre W∧LoopAt w (r .ready none) W) (fun pre W=>Ix pre W∧LoopAt w (r .done (some .ret)) W) V hBV
  ⟨fun s W v h=>⟨hIb.set s W v h.1,h.2.set hbs v⟩,fun s W q h=>⟨hIb.drew s W q h.1,h.2⟩⟩ ⟨fun s W v h=>⟨hIxb.set s W v h.1,h.2.set hbs v⟩,fun s W q h=>⟨hIxb.drew s W q h.1,h.2⟩⟩ ?_ ⟨hIV,hL⟩).mono ?_
 ·rintro pre x W ⟨hi,hl⟩ hpre;have hlt:=(Array.getElem?_eq_some_iff.1 hl.1).1;have hy:=run_yield (P:=P) (args:=#[enc x]) hl.1 (by rw [hr];simp [hps]);rw [hr] at hy;refine ⟨fn,_,assign,body,hy,roundIn_of_wpIn hfn (hassign _ x W _ ⟨_,run_beginRound hl.1 (by rw [hr]),?_⟩)⟩;clear hy;have hl2:LoopAt w { r .ready none with state:=.busy } (W.putObj (w.heap.size+1) (.loop { r .ready none with state:=.busy })):=hl.turn _;have hb2:Below w.heap.size W (W.putObj (w.heap.size+1) (.loop { r .ready none with state:=.busy })):=belowK_b (w:=w) (Nat.le_refl _) W _ _ _ (by omega) hl.1 rfl rfl;refine wpIn_mono (hbody _ pre x _ (hI.putObj _ hi (by omega) hl.1 rfl) hpre (Nat.le_trans (by omega) hb2.size)) ?_;rintro e a3 W3 hp;cases e with
  | normal =>
    obtain ⟨hk,hb,hi3⟩:=hp;have hl3:=hl2.kept hk;have he:=run_endRound (P:=P) none hl3.1;rw [hr] at he;refine ⟨_,_,he,.inl ⟨rfl,⟨hI.putObj _ hi3 (by omega) hl3.1 rfl,?_⟩,(hb2.trans hb).trans (belowK_b (w:=w) (Nat.le_refl _) _ _ _ _ (by omega) hl3.1 rfl rfl)⟩⟩
    have:=hl3.turn (r .ready none)
    rw [hr] at this ⊢;exact this
  | ret =>
    obtain ⟨hk,hi3⟩:=hp;have hl3:=hl2.kept hk;have he:=run_endRound (P:=P) (some .ret) hl3.1;rw [hr] at he;refine ⟨_,_,he,.inr ⟨rfl,hIx.putObj _ hi3 (by omega) hl3.1 rfl,?_⟩⟩
    have:=hl3.turn (r .done (some .ret))
    rw [hr] at this ⊢;exact this
  | exit id=>exact hp.elim
  | goto t=>exact hp.elim
  | panic ch=>exact hp.elim
  | outgrown=>exact hp.elim
 rintro e W2 ⟨⟨v,rfl⟩,(⟨hi,hl⟩ | ⟨pre,hpre,hi,hl⟩)⟩
 ·exact ⟨none,_,by have:=run_endLoop (P:=P) hl.1 (by rw [hr];simp);rw [hr] at this;exact this,hdone _ _ (Nat.le_refl _) (hI.putObj _ hi (by omega) hl.1 rfl) ((World.putObj_heap_other (by omega)).trans hl.2)⟩
 exact ⟨some .ret,_,by have:=run_endLoop (P:=P) hl.1 (by rw [hr];simp);rw [hr] at this;exact this,hstop _ pre _ (Nat.le_refl _) hpre (hIx.putObj _ hi (by omega) hl.1 rfl) ((World.putObj_heap_other (by omega)).trans hl.2)⟩
def qka {α:Type} (B:Nat) (I:List α→World→Prop) (xs:List α) (W:World):Exit→Act→World→Prop
 | .normal,_,W'=>KeepsFrom B W W'∧I xs W'∧KeepsWalks W W'
 | _,_,_=>False
variable {F:Fence} {n:Nat} {P:Program}
theorem qdn {α:Type} {g:Operand} {ps:Array Tmp} {assign body:Code} {Q:Exit→Act→World→Prop} {a:Act} {w:World}
 (hro:F.round=none) (h1:1≤n) {gf:Nat} {lb:Array Value} (hg:a.eval g=.func (.func gf) #[] lb) (hFg:F.fn gf) (eg:∀ args w,(callFunc gf args).run P w=.ok (.enter gf args) w)
 {enc:α→Value} {S:List α→Prop} {N:Nat} (hseq:SeqGives F (n - 1) P gf lb enc S N w) (hps:ps.size=1)
 (I:List α→World→Prop) (hI:OwnFrom w.heap.size I) (hIa:AbidesFrom w.heap.size I) (h0:I [] w) (a₁:α→World→Act) (as1:α→World→World)
 (has1:∀ x W,Below W.heap.size W (as1 x W)) (has2:∀ pre x W,I pre W→I pre (as1 x W)) (has3:∀ x W,KeepsWalks W (as1 x W))
 (hassign:∀ (l:Nat) (x:α) (W:World) (K:Act→World→Prop),K (a₁ x W) (as1 x W) →
   assign.wpIn (F.inRound l) (n - 1 - 1) P (Exit.then K (fun _ _ _=>False)) { tmps:=(ps.zip #[enc x]).foldl (fun t (p,v)=>t.setIfInBounds p v) a.tmps,defers:=[] } W)
 (hbody:∀ (l:Nat) (pre:List α) (x:α) (W V:World),(∀ k,W.heap.size≤k→k<(as1 x W).heap.size→V.heap[k]? = (as1 x W).heap[k]?)→I pre V→pre.length<N→w.heap.size≤W.heap.size→(as1 x W).heap.size≤V.heap.size→body.wpIn (F.inRound l) (n - 1 - 1) P (qka w.heap.size I (pre++[x]) V) (a₁ x W) V)
 (hdone:∀ (D:Nat) (xs:List α) (W:World),S xs→w.heap.size≤D→I xs W→W.heap[D]? = some (.deferred (some []))→Q .normal { a with defers:={ target:=.collected D,args:=#[] } :: a.defers } W) :
 (Code.rangeFunc g ps assign body).wpIn F n P Q a w:=by
 refine wpIn_rangeFunc fun fn hfn => ?_
 rw [hro];obtain ⟨r,hr⟩:∃ r:LoopState→Option Code→Loop,r=fun st pe=>{ state:=st,pending:=pe,fn,tmps:=a.tmps,params:=ps,assign,body,defers:=w.heap.size }:=⟨_,rfl⟩
 obtain ⟨V,hV⟩:∃ V,V=(w.alloc (.deferred (some []))).alloc (.loop (r .ready none)):=⟨_,rfl⟩;have hL:LoopAt w (r .ready none) V:=by
  rw [hV];refine ⟨?_,(Below.heap_alloc _ _ _ (by simp)).trans (World.alloc_heap_new w _)⟩
  have:=World.alloc_heap_new (w.alloc (.deferred (some []))) (.loop (r .ready none))
  rwa [World.size_alloc] at this
 have hIV:I [] V:=by rw [hV];exact hI.alloc _ (hI.alloc _ h0)
 have hBV:Below w.heap.size w V:=by rw [hV];exact ((Below.refl _ w).alloc (Nat.le_refl _) _).alloc (by simp) _
 have hsV:V.heap.size=w.heap.size+2:=by rw [hV];simp
 refine ⟨w.heap.size+1,[{ target:=.collected w.heap.size,args:=#[] }],V,{ target:=.fn (.func gf) lb,args:=#[.func (.yield (w.heap.size+1)) #[] #[]] },V,gf,
  #[.func (.yield (w.heap.size+1)) #[] #[]]++lb,V,?_,?_,?_,?_,fun _=>h1,?_⟩
 ·rw [hV,hr];exact run_enterLoop_outer _ _ _ _ _
 ·simp only [resolve,hg];simp [go_sem]
 ·intro f' hf';simp [Target.leads] at hf';subst hf';exact hFg
 ·simp [invoke,go_sem,eg]
 refine (hseq (w.heap.size+1) (fun pre W=>I pre W∧LoopAt w (r .ready none) W) V hBV (fun s A B row h hg' hrow=>⟨hIa s A B row h.1 hg' (fun k e=>⟨by have:=(hrow k e).1;omega,(hrow k e).2⟩),?_⟩) ?_ ⟨hIV,hL⟩).mono ?_
 ·refine ⟨(hg'.block _ (Array.getElem?_eq_some_iff.1 h.2.1).1 (fun e=>by have:=(hrow _ e.symm).1;omega)).trans h.2.1,(hg'.block _ (Array.getElem?_eq_some_iff.1 h.2.2).1 (fun e=>by have:=(hrow _ e.symm).1;omega)).trans h.2.2⟩
 ·rintro pre x W ⟨hi,hl⟩ hpre;have hlt:=(Array.getElem?_eq_some_iff.1 hl.1).1;have hy:=run_yield (P:=P) (args:=#[enc x]) hl.1 (by rw [hr];simp [hps]);rw [hr] at hy;have hla:LoopAt w (r .ready none) (as1 x W):=⟨((has1 x W).block _ hlt).trans hl.1,((has1 x W).block _ (by omega)).trans hl.2⟩;have hsz:=(has1 x W).size;refine ⟨fn,_,assign,body,hy,roundIn_of_wpIn hfn (hassign _ x W _ ⟨_,run_beginRound hla.1 (by rw [hr]),?_⟩)⟩;clear hy;have hl2:LoopAt w { r .ready none with state:=.busy } ((as1 x W).putObj (w.heap.size+1) (.loop { r .ready none with state:=.busy })):=hla.turn _;have hb2:Below w.heap.size (as1 x W) ((as1 x W).putObj (w.heap.size+1) (.loop { r .ready none with state:=.busy })):=belowK_b (w:=w) (Nat.le_refl _) (as1 x W) _ _ _ (by omega) hla.1 rfl rfl
  refine wpIn_mono (hbody _ pre x W _ (fun k h1 h2=>World.putObj_heap_other (by omega)) (hI.putObj _ (has2 pre x W hi) (by omega) hla.1 rfl) hpre (by omega) hb2.size) ?_;rintro e a3 W3 hp;cases e with
  | normal =>
    obtain ⟨hk,hi3,hkw⟩:=hp;have hl3:=hl2.kept hk;have he:=run_endRound (P:=P) none hl3.1;rw [hr] at he;refine ⟨_,_,he,rfl,⟨hI.putObj _ hi3 (by omega) hl3.1 rfl,?_⟩,?_⟩
    ·have:=hl3.turn (r .ready none)
     rw [hr] at this ⊢;exact this
    exact (((has3 x W).trans (KeepsWalks.putObj _ hla.1 rfl)).trans hkw).trans (KeepsWalks.putObj _ hl3.1 rfl)
  | ret=>exact hp.elim
  | exit id=>exact hp.elim
  | goto t=>exact hp.elim
  | panic ch=>exact hp.elim
  | outgrown=>exact hp.elim
 rintro e W2 ⟨⟨v,rfl⟩,xs,hS,hi,hl⟩;exact ⟨none,_,by have:=run_endLoop (P:=P) hl.1 (by rw [hr];simp);rw [hr] at this;exact this,hdone _ xs _ hS (Nat.le_refl _) (hI.putObj _ hi (by omega) hl.1 rfl) ((World.putObj_heap_other (by omega)).trans hl.2)⟩
end Go.Proofs.YtodmdkhdbfbfgaaGreatDoor
namespace Go.Proofs.YtodmdkhdbfbfgaaGreatDoor.S1
open Go.RowKit Pk
open Go.Nt (Fp)
theorem laidOut:laidOutB Tryz.prog=true:=by kernel_rfl
theorem row189:(189:TypeId)<Tryz.prog.types.size:=of_decide_eq_true (by kernel_rfl)
theorem row90:(90:TypeId)<Tryz.prog.types.size:=of_decide_eq_true (by kernel_rfl)
theorem qm3:(match Tryz.prog.underlying 189 with | some (.array _ _) | some (.struct _)=>true | _=>false)=true:=by kernel_rfl
theorem wide90:(match Tryz.prog.underlying 90 with | some (.array _ _) | some (.struct _)=>true | _=>false)=true:=by kernel_rfl
theorem law189:Maps.Keyed Tryz.prog 189:=Maps.Keyed.of_law (deep_law_laid laidOut (m:=4) (by omega) row189 (by kernel_rfl) qm3)
theorem law90:Maps.Keyed Tryz.prog 90:=Maps.Keyed.of_law (deep_law_laid laidOut (m:=4) (by omega) row90 (by kernel_rfl) wide90)
def pk (b n a:Nat):Lit:=.string (keyBytes [.int .i64 (b:Nat),.int .u32 (n:Nat),.int .i64 (a:Nat)])
def pv (b n a:Nat):Value:=.agg #[.int .i64 (b:Nat),.int .u32 (n:Nat),.int .i64 (a:Nat)]
def lk (b n:Nat):Lit:=.string (keyBytes [.int .i64 (b:Nat),.int .u32 (n:Nat)])
def lv (b n:Nat):Value:=.agg #[.int .i64 (b:Nat),.int .u32 (n:Nat)]
theorem qhD:Tryz.prog.keyType 189=true:=by kernel_rfl
theorem qjY:Tryz.prog.keyType 90=true:=by kernel_rfl
theorem qgG:Tryz.prog.cellsOf 189=3:=by kernel_rfl
theorem qge:Tryz.prog.cellsOf 90=2:=by kernel_rfl
theorem qiA:Tryz.prog.cellsOf 88=1:=by kernel_rfl
theorem cells3:Tryz.prog.cellsOf 3=1:=by kernel_rfl
theorem key90 {b n:Nat} (hb:b≤1000000) (hn:n≤4294967295):keyOf Tryz.prog 90 (lv b n)=some (lk b n):=by
 have h1:(Lit.int .i64 (b:Nat)).wf=true:=by simp [Lit.wf,IntKind.min,IntKind.max,IntKind.signed,IntKind.bits];omega
 have h2:(Lit.int .u32 (n:Nat)).wf=true:=by simp [Lit.wf,IntKind.min,IntKind.max,IntKind.signed,IntKind.bits];omega
 obtain ⟨d,hd⟩:∃ d,Tryz.prog.types.size+1=d+3:=⟨Tryz.prog.types.size - 2,by have h:(90:Nat)<Tryz.prog.types.size:=row90;omega⟩;unfold keyOf lv lk;rw [Tryz.underlying90,hd];simp only [qjY,Value.formed,Tryz.underlying90,qge,Value.cells];simp [Program.keyLits,Tryz.underlying90,Tryz.underlying88,Tryz.underlying3,qge,qiA,cells3,h1,h2]
theorem key189 {b n a:Nat} (hb:b≤1000000) (hn:n≤4294967295) (ha:a≤1000000):keyOf Tryz.prog 189 (pv b n a)=some (pk b n a):=by
 have h1:(Lit.int .i64 (b:Nat)).wf=true:=by simp [Lit.wf,IntKind.min,IntKind.max,IntKind.signed,IntKind.bits];omega
 have h2:(Lit.int .u32 (n:Nat)).wf=true:=by simp [Lit.wf,IntKind.min,IntKind.max,IntKind.signed,IntKind.bits];omega
 have h3:(Lit.int .i64 (a:Nat)).wf=true:=by simp [Lit.wf,IntKind.min,IntKind.max,IntKind.signed,IntKind.bits];omega
 obtain ⟨d,hd⟩:∃ d,Tryz.prog.types.size+1=d+3:=⟨Tryz.prog.types.size - 2,by have h:(90:Nat)<Tryz.prog.types.size:=row90;omega⟩;unfold keyOf pv pk;rw [Tryz.underlying189,hd];simp only [qhD,Value.formed,Tryz.underlying189,qgG,Value.cells];simp [Program.keyLits,Tryz.underlying189,Tryz.underlying90,Tryz.underlying88,Tryz.underlying3,qgG,qge,qiA,cells3,h1,h2,h3];rw [if_pos]
 ·rfl
 intro i hi
 have:i=0∨i=1:=by omega
 rcases this with rfl | rfl<;>simp
theorem qme {b n a b' n' a':Nat} (hb:b≤1000000) (hn:n≤4294967295) (ha:a≤1000000) (hb':b'≤1000000) (hn':n'≤4294967295) (ha':a'≤1000000) (h:pk b n a=pk b' n' a'):b=b'∧n=n'∧a=a':=by
 have e:=law189.inj (key189 hb hn ha) (by rw [h];exact key189 hb' hn' ha');unfold pv at e;simp at e;omega
theorem qd4 {b n b' n':Nat} (hb:b≤1000000) (hn:n≤4294967295) (hb':b'≤1000000) (hn':n'≤4294967295) (h:lk b n=lk b' n'):b=b'∧n=n':=by
 have e:=law90.inj (key90 hb hn) (by rw [h];exact key90 hb' hn');unfold lv at e;simp at e;omega
def fv (f:Fp):Value:=.agg #[.int .i64 (f.bad:Nat),.int .u32 (f.num:Nat),.int .i64 (f.at_:Nat),.int .i64 (f.of_:Nat),.string (txt f.text),.int .i64 (f.blk:Nat)]
def fpOf:Value→Option (DataW Fp × List MemPlace)
 | .agg cs=>match cs.toList with
   | [.int .i64 b,.int .u32 r,.int .i64 a,.int .i64 o,.string t,.int .i64 k]=>if 0≤b∧0≤r∧0≤a∧0≤o∧0≤k then some (.held ⟨b.toNat,r.toNat,a.toNat,o.toNat,t.data.toList,k.toNat⟩,[]) else none
   | _=>none
 | _=>none
theorem qgh (f:Fp):fpOf (fv f)=some (.held f,[]):=by
 unfold fpOf fv;simp;rfl
theorem qcF {v:Value} {f:Fp} {ps:List MemPlace} (h:fpOf v=some (.held f,ps)):v=fv f:=by
 unfold fpOf at h
 split at h
 ·rename_i cs
  split at h
  ·rename_i b r a o t k hc
   split at h
   ·rename_i hr;simp at h;obtain ⟨rfl,_⟩:=h
    have:cs=#[.int .i64 b,.int .u32 r,.int .i64 a,.int .i64 o,.string t,.int .i64 k]:=Array.toList_inj.1 hc
    rw [this];unfold fv;obtain ⟨h0,h1,h2,h3,h4⟩:=hr;simp [Int.toNat_of_nonneg h0,Int.toNat_of_nonneg h1,Int.toNat_of_nonneg h2,Int.toNat_of_nonneg h3,Int.toNat_of_nonneg h4];rfl
   cases h
  cases h
 cases h
def fp0:Fp:=⟨0,0,0,0,[],0⟩
theorem qj8 (w:World):(zeroValue 187).run Tryz.prog w=.ok (fv fp0) w:=by kernel_rfl
def FAt (w:World) (g:Nat) (n:Nat) (P:Nat→Nat→Nat→Option Fp):Prop:=
 ∃ D:DataW Fp,w.ownsMap Tryz.prog 189 fpOf g n D∧(∀ b r a,b≤1000000→r≤4294967295→a≤1000000→Maps.has D (pk b r a)=(P b r a).isSome∧∀ f,P b r a=some f→∀ z,D.atKey (pk b r a) z=.held f)∧(∀ kl,Maps.has D kl=true→∃ b r a,b≤1000000∧r≤4294967295∧a≤1000000∧kl=pk b r a)
section
variable {w w':World} {g n:Nat} {P:Nat→Nat→Nat→Option Fp}
theorem FAt.lt (h:FAt w g n P):g<w.heap.size:=by obtain ⟨D,h,_⟩:=h;exact h.lt
theorem FAt.of_block (h:FAt w g n P) (hb:w'.heap[g]? = w.heap[g]?):FAt w' g n P:=by
 obtain ⟨D,⟨es,clock,h1,h2⟩,hh⟩:=h;exact ⟨D,⟨es,clock,hb.trans h1,h2⟩,hh⟩
theorem FAt.mono {n':Nat} (h:FAt w g n P) (hn:n≤n'):FAt w g n' P:=by
 obtain ⟨D,h1,hh⟩:=h;exact ⟨D,h1.mono hn,hh⟩
theorem FAt.congr {P':Nat→Nat→Nat→Option Fp} (h:FAt w g n P) (e:∀ b r a,P b r a=P' b r a):FAt w g n P':=by
 have:P=P':=funext fun b=>funext fun r=>funext fun a=>e b r a
 rw [←this];exact h
theorem qnc (w:World):FAt (w.alloc (.map #[] 0)) w.heap.size 0 (fun _ _ _=>none):=⟨.map [],World.ownsMap_made w _ _ _,fun b r a _ _ _=>⟨rfl,fun f hf=>by cases hf⟩,fun kl h=>by simp [Maps.has] at h⟩
theorem FAt.look (h:FAt w g n P) {b r a:Nat} (hb:b≤1000000) (hr:r≤4294967295) (ha:a≤1000000) :
 (Instr.lookup 135 (.map (some g)) (pv b r a) true).run Tryz.prog w=.ok (.tuple #[fv ((P b r a).getD fp0),.bool (P b r a).isSome]) w∧(Instr.lookup 135 (.map (some g)) (pv b r a) false).run Tryz.prog w=.ok (fv ((P b r a).getD fp0)) w:=by
 obtain ⟨D,ho,hh,_⟩:=h;obtain ⟨v,ps,h1,h2⟩:=ho.look_ok law189 Tryz.underlying135 (qj8 w) (qgh _) (key189 hb hr ha);obtain ⟨v',ps',h3,h4⟩:=ho.lookup law189 Tryz.underlying135 (qj8 w) (qgh _) (key189 hb hr ha);obtain ⟨k1,k2⟩:=hh b r a hb hr ha;cases hp:P b r a with
 | none =>
   rw [hp] at k1;rw [Maps.atKey_of_not_has k1] at h2 h4;rw [qcF h2,k1] at h1;rw [qcF h4] at h3;exact ⟨h1,h3⟩
 | some f =>
   rw [hp] at k1;rw [k2 f hp] at h2 h4;rw [qcF h2,k1] at h1;rw [qcF h4] at h3;exact ⟨h1,h3⟩
def putF (P:Nat→Nat→Nat→Option Fp) (b r a:Nat) (f:Fp):Nat→Nat→Nat→Option Fp:=fun x y z=>if x=b∧y=r∧z=a then some f else P x y z
theorem FAt.store (h:FAt w g n P) {b r a:Nat} (hb:b≤1000000) (hr:r≤4294967295) (ha:a≤1000000) (hn:n≤1000000) (f:Fp) :
 ∃ w',(Instr.mapUpdate 135 (.map (some g)) (pv b r a) (fv f)).run Tryz.prog w=.ok () w'∧FAt w' g (n+1) (putF P b r a f)∧w.mapTurned w' g:=by
 obtain ⟨D,ho,hh,hk⟩:=h;obtain ⟨w',h1,h2,h3⟩:=ho.store law189 Tryz.underlying135 (by unfold maxLen;omega) (key189 hb hr ha) (qgh f);refine ⟨w',h1,⟨_,h2,fun x y z hx hy hz => ?_,fun kl hl => ?_⟩,h3⟩
 ·unfold putF;by_cases e:x=b∧y=r∧z=a
  ·obtain ⟨rfl,rfl,rfl⟩:=e;rw [if_pos ⟨rfl,rfl,rfl⟩,Maps.has_put_same ho.isMap (k:=pk x y z) trivial];exact ⟨rfl,fun g hg z'=>by cases hg;exact Maps.atKey_put_same ho.isMap (k:=pk x y z) trivial _ _⟩
  rw [if_neg e];have hne:pk x y z≠pk b r a:=fun h=>e (qme hx hy hz hb hr ha h)
  rw [Maps.has_put_other hne];exact ⟨(hh x y z hx hy hz).1,fun g hg z'=>by rw [Maps.atKey_put_other hne];exact (hh x y z hx hy hz).2 g hg z'⟩
 by_cases e:kl=pk b r a
 ·exact ⟨b,r,a,hb,hr,ha,e⟩
 rw [Maps.has_put_other e] at hl;exact hk kl hl
end
def LbAt (w:World) (g:Nat) (n:Nat) (S:Nat→Nat→Bool):Prop:=
 ∃ D:DataW Unit,w.ownsMap Tryz.prog 90 unitElem g n D∧(∀ b r,b≤1000000→r≤4294967295→Maps.has D (lk b r)=S b r)∧(∀ kl,Maps.has D kl=true→∃ b r,b≤1000000∧r≤4294967295∧kl=lk b r)
section
variable {w w':World} {g n:Nat} {S:Nat→Nat→Bool}
theorem LbAt.lt (h:LbAt w g n S):g<w.heap.size:=by obtain ⟨D,h,_⟩:=h;exact h.lt
theorem LbAt.of_block (h:LbAt w g n S) (hb:w'.heap[g]? = w.heap[g]?):LbAt w' g n S:=by
 obtain ⟨D,⟨es,clock,h1,h2⟩,hh⟩:=h;exact ⟨D,⟨es,clock,hb.trans h1,h2⟩,hh⟩
theorem LbAt.mono {n':Nat} (h:LbAt w g n S) (hn:n≤n'):LbAt w g n' S:=by
 obtain ⟨D,h1,hh⟩:=h;exact ⟨D,h1.mono hn,hh⟩
theorem LbAt.congr {T:Nat→Nat→Bool} (h:LbAt w g n S) (e:∀ b r,S b r=T b r):LbAt w g n T:=by
 have:S=T:=funext fun b=>funext fun r=>e b r
 rw [←this];exact h
theorem qmG (w:World):LbAt (w.alloc (.map #[] 0)) w.heap.size 0 (fun _ _=>false):=⟨.map [],World.ownsMap_made w _ _ _,fun b r _ _=>rfl,fun kl h=>by simp [Maps.has] at h⟩
theorem LbAt.look (h:LbAt w g n S) {b r:Nat} (hb:b≤1000000) (hr:r≤4294967295):(Instr.lookup 130 (.map (some g)) (lv b r) true).run Tryz.prog w=.ok (.tuple #[.agg #[],.bool (S b r)]) w:=by
 obtain ⟨D,ho,hh,_⟩:=h;obtain ⟨v,ps,h1,h2⟩:=ho.look_ok law90 Tryz.underlying130 (qgn w) unitElem_mk (key90 hb hr);rw [hh b r hb hr,(unitElem_inv h2).1] at h1;exact h1
theorem LbAt.store (h:LbAt w g n S) {b r:Nat} (hb:b≤1000000) (hr:r≤4294967295) (hn:n≤1000000) :
 ∃ w',(Instr.mapUpdate 130 (.map (some g)) (lv b r) (.agg #[])).run Tryz.prog w=.ok () w'∧LbAt w' g (n+1) (fun x y=>(x==b&&y==r)||S x y)∧w.mapTurned w' g:=by
 obtain ⟨D,ho,hh,hk⟩:=h;obtain ⟨w',h1,h2,h3⟩:=ho.store law90 Tryz.underlying130 (by unfold maxLen;omega) (key90 hb hr) unitElem_mk;refine ⟨w',h1,⟨_,h2,fun x y hx hy => ?_,fun kl hl => ?_⟩,h3⟩
 ·by_cases e:x=b∧y=r
  ·obtain ⟨rfl,rfl⟩:=e;rw [Maps.has_put_same ho.isMap (k:=lk x y) trivial];simp
  have hne:lk x y≠lk b r:=fun h=>e (qd4 hx hy hb hr h)
  rw [Maps.has_put_other hne,hh x y hx hy]
  have:(x==b&&y==r)=false:=by
   cases h1:(x==b&&y==r) with
   | false=>rfl
   | true=>simp at h1;exact absurd h1 e
  show S x y=((x==b&&y==r)||S x y);rw [this];rfl
 by_cases e:kl=lk b r
 ·exact ⟨b,r,hb,hr,e⟩
 rw [Maps.has_put_other e] at hl;exact hk kl hl
end
end Go.Proofs.YtodmdkhdbfbfgaaGreatDoor.S1
namespace Go.Proofs.YtodmdkhdbfbfgaaGreatDoor.S1
open Go.RowKit Pk Go.Shelf
attribute [local go_sem] Oper.semAt_some
def encLb (x:Nat × Nat):Value:=.agg #[.int .i64 (x.1:Nat),.int .u32 (x.2:Nat)]
def okLb (x:Nat × Nat):Prop:=x.1≤1000000∧x.2≤4294967295
structure LbCame {H:Type} (D:DataW H) (left:Lit→Bool) (xs:List (Nat × Nat)):Prop where
 nd:xs.Nodup
 ok:∀ x∈xs,okLb x
 mem:∀ x,okLb x→(x∈xs↔Maps.has D (lk x.1 x.2)=true∧left (lk x.1 x.2)=false)
theorem qf9 {H:Type} {R:Value→Option (DataW H × List MemPlace)} (n:Nat) (hn:1≤n) (Bm b nn:Nat) (D0:DataW H) (w:World) (hBm:Bm<w.heap.size) (hm:w.cell? ⟨Bm,0,none⟩=some (.map (some b))) (hown:w.ownsMap Tryz.prog 90 R b nn D0) (hk:∀ kl,Maps.has D0 kl=true→∃ x,okLb x∧kl=lk x.1 x.2) :
 SeqGives Fence.wide n Tryz.prog 143 #[.pointer (some ⟨Bm,0,none⟩)] encLb (fun xs=>xs.Nodup∧(∀ x∈xs,okLb x)∧∀ x,okLb x→(x∈xs↔Maps.has D0 (lk x.1 x.2)=true)) (Maps.size D0) w:=by
 intro l J W hbW hJ hY h0;have hmW:W.cell? ⟨Bm,0,none⟩=some (.map (some b)):=by rw [hbW.cell (p:=⟨Bm,0,none⟩) hBm];exact hm
 have hownW:W.ownsMap Tryz.prog 90 R b nn D0:=by
  have hl:=hown.lt;obtain ⟨es,clock,h1,h2⟩:=hown;exact ⟨es,clock,(hbW.block b hl).trans h1,h2⟩
 clear hm hown;refine callsIn_of_wp Tryz.func143 rfl trivial ?_ rfl;simp only [Tryz.ntmps143,List.size_toArray,List.length_cons,List.length_nil,Nat.reduceAdd,Nat.reduceSub,Array.replicate_succ,Array.replicate_zero,List.push_toArray,List.append_toArray,List.nil_append,List.cons_append];gi_wp2_with (first | (gi_at_range;refine wpListIn_range_own _ rfl _ 137 rfl 90 94 law90 Tryz.underlying137 _ b nn _ rfl hownW ?_;intro w0 hrg0 hg0 hs0) | gi_in)
 go_frame
 have hsz0:=hs0
 gi_loopw [3] (fun _ wr=>∃ (left:Lit→Bool) (cnt:Nat) (xs:List (Nat × Nat)),wr.ranges Tryz.prog 90 R b W.heap.size nn D0 left cnt∧LbCame D0 left xs∧xs.length+cnt≤Maps.size D0∧J xs wr∧W.heap.size<wr.heap.size)
  (fun _ wr=>wr.rangeLeft b W.heap.size)
 case atStart =>
  exact ⟨_,_,[],hrg0,⟨List.nodup_nil,fun x hx=>(by cases hx),fun x hx=>⟨fun h=>(by cases h),fun h=>(by rw [h.1] at h;cases h.2)⟩⟩,by simp,hJ [] W w0 none h0 hg0 (fun r e=>by cases e),by omega⟩
 case round =>
  obtain ⟨left,cnt,xs,hrg,hC,hlen,hJs,hsw⟩:=hrel;gi_wp2_with (first | (gi_at_next;refine wpListIn_next_ranges _ rfl _ rfl 90 law90 R id id (fun key kl hk=>⟨key,rfl⟩) (fun v _ _=>⟨v,rfl⟩) b W.heap.size nn _ _ _ rfl hrg ?_ ?_) | gi_in)
  ·intro _ hl0;gi_wp2;go_end0
   exact ⟨⟨_,rfl⟩,xs,⟨hC.nd,hC.ok,fun x hx=>⟨fun h=>((hC.mem x hx).1 h).1,fun h=>(hC.mem x hx).2 ⟨h,hl0 _⟩⟩⟩,hJs⟩
  intro x cv kl yd yp w2 cnt2 hkey hlk hv hat hrg2 hlt hg2 hs2 hen;have hhas:Maps.has D0 kl=true:=Maps.has_true_of_atKey hat;obtain ⟨y,hy,rfl⟩:=hk kl hhas;have hx:x=encLb y:=law90.inj (hkey.trans rfl) (key90 hy.1 hy.2);subst hx;have hJ2:J xs w2:=hJ xs wr w2 (some W.heap.size) hJs hg2 (fun r e=>by cases e;exact ⟨Nat.le_refl _,hrg.iter_walk⟩);obtain ⟨W3,hW3⟩:∃ W3,W3=w2.alloc (.cells #[.int .i64 (y.1:Nat),.int .u32 (y.2:Nat)] 90):=⟨_,rfl⟩;obtain ⟨kb,hkb⟩:∃ kb,kb=w2.heap.size:=⟨_,rfl⟩;have hr3:W3.heap[kb]? = some (.cells #[.int .i64 (y.1:Nat),.int .u32 (y.2:Nat)] 90 (0,0)):=by rw [hW3,hkb];exact heap_alloc_new _ _
  have c0:W3.cell? ⟨kb,0,none⟩=some (.int .i64 (y.1:Nat)):=by rw [cell_of_row W3 kb 0 _ 90 (0,0) hr3];rfl
  have c1:W3.cell? ⟨kb,1,none⟩=some (.int .u32 (y.2:Nat)):=by rw [cell_of_row W3 kb 1 _ 90 (0,0) hr3];rfl
  have hJ3:J xs W3:=hJ xs w2 W3 none hJ2 (by rw [hW3];exact World.grownBy_alloc w2 _ none) (fun r e=>by cases e);have hrg3:W3.ranges Tryz.prog 90 R b W.heap.size nn D0 (fun z=>left z && !z.sameKey (lk y.1 y.2)) cnt2:=by rw [hW3];exact hrg2.alloc _
  obtain ⟨fn,tmps,assign,body,hyy,hR⟩:=hY xs y W3 hJ3 (by omega);have hsz3:W.heap.size<W3.heap.size:=by rw [hW3];simp;omega
  have HJ:Hid True:=hidI trivial;have Hrg3:=hidI hrg3;have Hrg:=hidI hrg;have HW3:=hidI hW3;have Hkb:=hidI hkb;have HR:=hidI hR;have Hlk:=hidI hlk;have Hhas:=hidI hhas
  try simp only [id] at hen
  unfold encLb at hen hyy
  try simp only [id]
  unfold encLb;clear hW3 hkb hr3 hat hv hkey hlk hg2 hs2 hrg2 hrg hrg3 hhas hJ2 hJs hR;gi_wp2_with (first | (rw [←HW3.out,←Hkb.out]) | gi_in);refine HR.out.mono ?_;rintro e W4 ⟨rfl,hJ4,hk4⟩;have hrg4:=Hrg3.out.of_walks hk4;have Hrg4:=hidI hrg4;have Hsz4:Hid (W.heap.size<W4.heap.size):=hidI (Nat.lt_of_lt_of_le hsz3 hk4.size);have HJ4:=hidI hJ4;clear hrg4 hJ4 hk4 HR hyy hen c0 c1;gi_wp2;go_roundw
  case rel =>
   have hlk:=Hlk.out;refine ⟨_,cnt2,xs++[y],Hrg4.out,⟨?_,?_,?_⟩,by simp;omega,HJ4.out,Hsz4.out⟩
   ·rw [List.nodup_append];refine ⟨hC.nd,by simp,fun a ha c hc => ?_⟩;simp at hc;subst hc;rintro rfl
    have:=((hC.mem _ hy).1 ha).2
    rw [hlk] at this;cases this
   ·intro z hz;rcases List.mem_append.1 hz with hz | hz
    ·exact hC.ok z hz
    simp at hz;subst hz;exact hy
   intro z hz;by_cases e:z=y
   ·subst e;have hs:Lit.sameKey (lk z.1 z.2) (lk z.1 z.2)=true:=by simp [Lit.sameKey,lk]
    refine ⟨fun _=>⟨Hhas.out,by rw [hs];simp⟩,fun _=>by simp⟩
   have hs:Lit.sameKey (lk z.1 z.2) (lk y.1 y.2)=false:=Maps.sameKey_ne (fun h=>e (by have:=qd4 hz.1 hz.2 hy.1 hy.2 h;exact Prod.ext this.1 this.2));rw [hs];simp only [Bool.not_false,Bool.and_true];rw [←hC.mem z hz];simp [e]
  case measure=>rw [Hrg4.out.left_eq,Hrg.out.left_eq];exact hlt
end Go.Proofs.YtodmdkhdbfbfgaaGreatDoor.S1
namespace Go.Proofs.YtodmdkhdbfbfgaaGreatDoor.S1
open Go.RowKit Pk Go.Shelf
attribute [local go_sem] Oper.semAt_some
def lbs (xs:List (Nat × Nat)):List Value:=xs.flatMap fun x=>[.int .i64 (x.1:Nat),.int .u32 (x.2:Nat)]
theorem qhb (xs:List (Nat × Nat)) (x:Nat × Nat):lbs (xs++[x])=lbs xs++[.int .i64 (x.1:Nat),.int .u32 (x.2:Nat)]:=by simp [lbs]
theorem Tryz.info90:(Tryz.prog.info? 90).map (fun i=>(i.zero,i.size,i.bytes))=some (some (.agg #[.int .i64 0,.int .u32 0]),2,16):=by kernel_rfl
def ApI (w:World) (bx:Nat) (pre:List (Nat × Nat)) (W:World):Prop:=∃ v,W.heap[bx]? = some (.cells #[v] 144 (0,0))∧W.ownsRow (bx+1) 90 2 v pre.length (lbs pre)∧Below bx w W∧(v=.slice none 0 0↔pre=[])
theorem ApI.grown {w:World} {bx:Nat} {pre:List (Nat × Nat)} {W W':World} {row:Option Nat} (h:ApI w bx pre W) (hg:W.grownBy W' row) (hr:∀ r,row=some r→bx+1≤r∧∃ o:Obj,W.heap[r]? = some o∧o.isCells=false) (hw:w.heap.size=bx):ApI w bx pre W':=by
 obtain ⟨v,h1,h2,h3,h4⟩:=h;refine ⟨v,(hg.block bx (lt_of_heap h1) (fun e=>by have:=(hr bx e.symm).1;omega)).trans h1,?_,h3.grown hg (by have:=h3.size;omega) (fun k e=>by have:=(hr k e).1;omega),h4⟩;refine ⟨h2.1,?_⟩;rcases h2.2 with h5 | ⟨g,cap,cur,e,h5,h6,h7⟩
 ·exact .inl h5
 exact .inr ⟨g,cap,cur,e,h5,(hg.block g (lt_of_heap h6) (fun e'=>by
  obtain ⟨_,o,ho,hc⟩:=hr g e'.symm;rw [h6] at ho;cases ho
  cases hc)).trans h6,h7⟩
theorem qdq {o:Obj} (h:o.isWalk=true):o.isCells=false:=by
 cases o<;>first | rfl | cases h
theorem qep (n:Nat) (hn:2≤n) (g:Nat) (lb:Array Value) (eg:∀ args w,(callFunc g args).run Tryz.prog w=.ok (.enter g args) w) (S:List (Nat × Nat)→Prop) (N:Nat) (hN:N≤100000) (w:World) (hseq:SeqGives Fence.wide (n - 1) Tryz.prog g lb encLb S N w) :
 CallsIn Fence.wide n Tryz.prog 142 #[.slice none 0 0,.func (.func g) #[] lb] w fun e w'=>∃ (v:Value) (xs:List (Nat × Nat)),e=.returned v∧S xs∧w'.ownsRow w.heap.size 90 2 v xs.length (lbs xs)∧(v=.slice none 0 0↔xs=[])∧Below w.heap.size w w':=by
 obtain ⟨i0,hi,hz0,hz1,hz2⟩:=info_parts Tryz.info90;refine callsIn_of_wp_marks Tryz.func142 rfl trivial ?_ rfl;simp only [Tryz.ntmps142,List.size_toArray,List.length_cons,List.length_nil,Nat.reduceAdd,Nat.reduceSub,Array.replicate_succ,Array.replicate_zero,List.push_toArray,List.append_toArray,List.nil_append,List.cons_append];gi_wp2;obtain ⟨W0,hW0⟩:∃ W0,W0=w.alloc (.cells #[.slice none 0 0] 144):=⟨_,rfl⟩;obtain ⟨bx,hbx⟩:∃ bx,bx=w.heap.size:=⟨_,rfl⟩;have hs0:W0.heap.size=bx+1:=by rw [hW0,hbx];simp
 have hv0:W0.heap[bx]? = some (.cells #[.slice none 0 0] 144 (0,0)):=by rw [hW0,hbx];exact heap_alloc_new _ _
 have hb0:Below w.heap.size w W0:=by rw [hW0];exact (Below.refl _ w).alloc (Nat.le_refl _) _
 rw [←hW0]
 try simp only [←hbx]
 refine qdn rfl (by omega) (gf:=g) (lb:=lb) rfl trivial eg (hseq.later hb0) rfl (ApI w bx)
  (fun s A C row hs hg hr=>hs.grown hg (fun r e=>⟨by have:=(hr r e).1;omega,(hr r e).2⟩) hbx.symm)
  (fun s A C row hs hg hr=>hs.grown hg (fun r e=>⟨by have:=(hr r e).1;omega,by obtain ⟨_,o,h1,h2⟩:=hr r e;exact ⟨o,h1,qdq h2⟩⟩) hbx.symm)
  ⟨_,hv0,World.ownsRow_nil _ _ _ _,by rw [hbx];exact hb0,by simp⟩
  (fun x W=>{ tmps:=#[.slice none 0 0,.func (.func g) #[] lb,.pointer (some ⟨bx,0,none⟩),undef,.slice none 0 0,.pointer (some ⟨W.heap.size,0,none⟩),.func (.func g) #[] lb,encLb x,undef,undef,undef,undef,undef],defers:=[] })
  (fun x W=>W.alloc (.cells #[.int .i64 (x.1:Nat),.int .u32 (x.2:Nat)] 90))
  (fun x W=>(Below.refl _ W).alloc (Nat.le_refl _) _) ?has2 (fun x W=>KeepsWalks.alloc W _) ?assign ?body ?done
 case has2=>exact fun pre x W h=>h.grown (World.grownBy_alloc W _ none) (fun r e=>by cases e) hbx.symm
 case assign =>
  intro l x W K hK;unfold encLb at hK ⊢;rw [hbx] at hK;gi_wp2;exact hK
 case body =>
  intro l pre x W V hV hI hpre hWs hVs;subst hbx;obtain ⟨v,hv,hrow,hbl,hnil⟩:=hI;have hx0:V.heap[W.heap.size]? = some (.cells #[.int .i64 (x.1:Nat),.int .u32 (x.2:Nat)] 90 (0,0)):=by
   rw [hV _ (Nat.le_refl _) (by simp)];exact heap_alloc_new _ _
  have hbV:w.heap.size<V.heap.size:=lt_of_heap hv;have hWV:W.heap.size<V.heap.size:=lt_of_heap hx0;obtain ⟨hc2,hf2⟩:=cell_of_box_a hv;have hx1:V.cell? ⟨W.heap.size,0,none⟩=some (.int .i64 (x.1:Nat)):=by simp [World.cell?,hx0]
  have hx2:V.cell? ⟨W.heap.size,1,none⟩=some (.int .u32 (x.2:Nat)):=by simp [World.cell?,hx0]
  have ne_of:∀ {j:Nat} {o:Obj},V.heap[j]? = some o→(∀ cur,o≠.cells cur 90 (0,0))→some j≠v.ownBlock:=fun hj hno=>by
   rcases ownsRow_ne_a hrow hj hno with e | e
   ·rw [e];simp
   exact fun e'=>e e'.symm
  gi_wp2_with (first
   | (gi_at_builtin;refine wpListIn_append_own _ rfl _ _ 144 rfl (w.heap.size+1) 90 i0 _ 2 16 Tryz.underlying144 hi hz0 hz1 hz2 rfl (by decide) _ _ _ rfl (hrow.alloc _) ⟨V.heap.size,0,none⟩ 1 1 [.int .i64 (x.1:Nat),.int .u32 (x.2:Nat)] rfl rfl ?_ (by simp [Value.oneCell']) (by simp [maxLen];omega) (by omega) (by simp;omega) ?_
      rotate_left
      intro v' w3 hown' hg3 hnil3;have hv3:w3.heap[w.heap.size]? = some (.cells #[v] 144 (0,0)):=(hg3.block w.heap.size (by simp;omega) (ne_of hv (fun cur e=>by cases e))).trans ((Below.heap_alloc _ _ w.heap.size hbV).trans hv);obtain ⟨hc3,hf3⟩:=cell_of_box_a hv3;obtain ⟨g',cap',cur',rfl,hbase',hgb',hr1,hr2,hr3,hr4⟩:∃ g' cap' cur',v'=.slice (some ⟨g',0,none⟩) (pre.length+1) cap'∧w.heap.size+1≤g'∧w3.heap[g']? = some (.cells cur' 90 (0,0))∧pre.length+1≤cap'∧cap'≤maxLen∧cur'.size=cap'*2∧cur'.toList.take ((pre.length+1)*2)=lbs pre++[.int .i64 (x.1:Nat),.int .u32 (x.2:Nat)]:=by
       rcases hown'.2 with ⟨_,h0⟩ | h'
       ·exact absurd h0 (by omega)
       exact h'
      go_frame)
   | gi_round_op_a)
  ·have hg3':(V.alloc (.cells #[.int .i64 (x.1:Nat),.int .u32 (x.2:Nat)] 90)).grownBy w3 v.ownBlock:=hg3;obtain ⟨w4,hw4⟩:∃ w4,w3.setCell ⟨w.heap.size,0,none⟩ (.slice (some ⟨g',0,none⟩) (pre.length+1) cap')=w4:=⟨_,rfl⟩;rw [hw4];have hg4:w3.grownBy w4 (some w.heap.size):=by rw [←hw4];exact grownBy_setCell0_a _ _ _
   have hv4:w4.heap[w.heap.size]? = some (.cells #[.slice (some ⟨g',0,none⟩) (pre.length+1) cap'] 144 (0,0)):=by rw [←hw4];exact heap_setCell_box_a _ hv3
   have hrow4:=hown'.kept hg4 (ownsRow_ne_a hown' hv3 (fun cur e=>by cases e));have hb3:Below w.heap.size w w3:=(hbl.alloc hbl.size _).grown hg3' (by have:=hbl.size;simp;omega) (fun k e=>by have:=(hrow.lt k e).1;omega);have hb4:Below w.heap.size w w4:=hb3.grown hg4 hb3.size (fun k e=>by cases e;omega);refine ⟨?_,⟨_,hv4,by rw [qhb];simpa using hrow4,hb4,by simp⟩,((KeepsWalks.alloc _ _).trans (KeepsWalks.of_grownBy hg3' (ownsRow_not_walk_a (hrow.alloc _)))).trans (by rw [←hw4];exact KeepsWalks.setCell _ _ _)⟩;refine ((KeepsOthers.alloc _ (.cells #[.int .i64 (x.1:Nat),.int .u32 (x.2:Nat)] 90)).from _).trans (KeepsFrom.trans (?_:KeepsFrom _ _ w3) (KeepsFrom.of_grownBy hg4 (fun j e=>by cases e;omega)));exact ⟨hg3'.size,fun k o hB hk ho=>(hg3'.block k (lt_of_heap hk) (fun e=>by
    rcases hrow.2 with ⟨e',_⟩ | ⟨q,cap,cur,e',_,hq,_⟩
    ·rw [e'] at e;cases e
    rw [e'] at e;simp [Value.ownBlock] at e;subst e;rw [Below.heap_alloc _ _ _ (lt_of_heap hq),hq] at hk;cases hk
    cases ho)).trans hk⟩
  intro j u hj
  have:=heap_alloc_new V (.cells #[.int .i64 (x.1:Nat),.int .u32 (x.2:Nat)] 90)
  rcases j with _ | _ | j
  ·simp at hj;subst hj;unfold World.cell? Addr.add;simp only [Nat.reduceAdd,Nat.reduceEqDiff,if_true,if_false,this,Nat.zero_add,Nat.one_ne_zero];rfl
  ·simp at hj;subst hj;unfold World.cell? Addr.add;simp only [Nat.reduceAdd,Nat.reduceEqDiff,if_true,if_false,this,Nat.zero_add,Nat.one_ne_zero];rfl
  simp at hj
 case done =>
  intro D xs W hS hD hI hK;subst hbx;obtain ⟨v,hv,hrow,hbl,hnil⟩:=hI;obtain ⟨hc3,hf3⟩:=cell_of_box_a hv;gi_wp2;refine ⟨by simp,.inl ⟨_,_,rfl,run_takeDeferred hK,?_⟩⟩;exact ⟨_,results_tmp rfl _ _ _,v,xs,rfl,hS,(ownsRow_base_a hrow (by omega)).kept (grownBy_putObj_a _ _ _) (ownsRow_ne_a hrow hK (fun cur e=>by cases e)),hnil,hbl.grown (grownBy_putObj_a _ _ _) hbl.size (fun k e=>by cases e;omega)⟩
theorem qgr (n:Nat) (hn:3≤n) (g:Nat) (lb:Array Value) (eg:∀ args w,(callFunc g args).run Tryz.prog w=.ok (.enter g args) w) (S:List (Nat × Nat)→Prop) (N:Nat) (hN:N≤100000) (w:World) (hseq:SeqGives Fence.wide (n - 1 - 1) Tryz.prog g lb encLb S N w) :
 CallsIn Fence.wide n Tryz.prog 85 #[.func (.func g) #[] lb] w fun e w'=>∃ (v:Value) (xs:List (Nat × Nat)),e=.returned v∧S xs∧w'.ownsRow w.heap.size 90 2 v xs.length (lbs xs)∧(v=.slice none 0 0↔xs=[])∧Below w.heap.size w w':=by
 refine callsIn_of_wp Tryz.func85 rfl trivial ?_ rfl;simp only [Tryz.ntmps85,List.size_toArray,List.length_cons,List.length_nil,Nat.reduceAdd,Nat.reduceSub,Array.replicate_succ,Array.replicate_zero,List.push_toArray,List.append_toArray,List.nil_append,List.cons_append];gi_wp2_with fail;refine ⟨trivial,fun _=>by omega,(qep (n - 1) (by omega) g lb eg S N hN _ hseq).mono ?_⟩;rintro e w' ⟨v,xs,rfl,hS,hrow,hnil,hb⟩;gi_wp2;go_ret
 exact ⟨v,xs,rfl,hS,hrow,hnil,hb⟩
end Go.Proofs.YtodmdkhdbfbfgaaGreatDoor.S1
