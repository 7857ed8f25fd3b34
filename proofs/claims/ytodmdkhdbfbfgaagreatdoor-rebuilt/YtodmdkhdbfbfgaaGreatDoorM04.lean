/- Lemmas. -/
import Derived.Sort.WalkA
import Derived.Sort.WalkB3
import Derived.Sort.WalkD1
import Derived.Sort.Grow
import Derived.Test.YtodmdkhdbfbfgaaGreatDoorM03
set_option linter.unusedVariables false
set_option linter.unusedSimpArgs false
set_option maxRecDepth 100000
set_option maxHeartbeats 8000000
namespace Go.Proofs.YtodmdkhdbfbfgaaGreatDoor
open Go.RowKit
def Keep (S:Nat→Prop) (W W':World):Prop:=∀ k,S k→W'.heap[k]? = W.heap[k]?
theorem Keep.trans {S:Nat→Prop} {A B C:World} (h:Keep S A B) (k:Keep S B C):Keep S A C:=fun i hi=>(k i hi).trans (h i hi)
theorem Keep.of_below {S:Nat→Prop} {A B:World} {n:Nat} (h:Below n A B) (hS:∀ k,S k→k<n):Keep S A B:=fun i hi=>h.block i (hS i hi)
def SeqRow {α:Type} (F:Fence) (n:Nat) (P:Program) (g:Nat) (lb:Array Value) (encs:α→Array Value) (xs:List α) (n₀:Nat) (S:Nat→Prop) (w:World):Prop:=
 ∀ (l:Nat) (J:List α→World→Prop) (W:World),Below n₀ w W →
  (∀ pre x W1,J pre W1→pre++[x] <+: xs→YieldAt F (n - 1) P l (encs x) W1 fun e W'=>e=.returned (.bool true)∧J (pre++[x]) W'∧Keep S W1 W') →
  J [] W→CallsIn F n P g (#[.func (.yield l) #[] #[]]++lb) W fun e W'=>(∃ v,e=.returned v)∧J xs W'
theorem SeqRow.later {α:Type} {F:Fence} {n:Nat} {P:Program} {g:Nat} {lb:Array Value} {encs:α→Array Value} {xs:List α} {n₀:Nat} {S:Nat→Prop} {w w':World} (h:SeqRow F n P g lb encs xs n₀ S w) (hb:Below n₀ w w'):SeqRow F n P g lb encs xs n₀ S w':=
 fun l J W hW=>h l J W (hb.trans hW)
def qiP {α:Type} (B:Nat) (S:Nat→Prop) (I:List α→World→Prop) (xs:List α) (W:World):Exit→Act→World→Prop
 | .normal,_,W'=>KeepsFrom B W W'∧Keep S W W'∧I xs W'
 | _,_,_=>False
variable {F:Fence} {n:Nat} {P:Program}
theorem qbi {α:Type} {g:Operand} {ps:Array Tmp} {assign body:Code} {Q:Exit→Act→World→Prop} {a:Act} {w:World}
 (hro:F.round=none) (h1:1≤n) {gf:Nat} {lb:Array Value} (hg:a.eval g=.func (.func gf) #[] lb) (hFg:F.fn gf) (eg:∀ args w,(callFunc gf args).run P w=.ok (.enter gf args) w)
 {encs:α→Array Value} {xs:List α} {n₀:Nat} {S:Nat→Prop} (hseq:SeqRow F (n - 1) P gf lb encs xs n₀ S w) (hn₀:n₀≤w.heap.size) (hS:∀ k,S k→k<w.heap.size) (hps:∀ x,ps.size=(encs x).size)
 (I:List α→World→Prop) (hI:OwnFrom w.heap.size I) (h0:I [] w) (a₁:α→World→Act) (as1:α→World→World)
 (has1:∀ x W,Below W.heap.size W (as1 x W)) (has2:∀ pre x W,I pre W→I pre (as1 x W))
 (hassign:∀ (l:Nat) (x:α) (W:World) (K:Act→World→Prop),K (a₁ x W) (as1 x W) →
   assign.wpIn (F.inRound l) (n - 1 - 1) P (Exit.then K (fun _ _ _=>False)) { tmps:=(ps.zip (encs x)).foldl (fun t (p,v)=>t.setIfInBounds p v) a.tmps,defers:=[] } W)
 (hbody:∀ (l:Nat) (pre:List α) (x:α) (W V:World),(∀ k,W.heap.size≤k→k<(as1 x W).heap.size→V.heap[k]? = (as1 x W).heap[k]?)→I pre V→pre++[x] <+: xs→w.heap.size≤W.heap.size→(as1 x W).heap.size≤V.heap.size→body.wpIn (F.inRound l) (n - 1 - 1) P (qiP w.heap.size S I (pre++[x]) V) (a₁ x W) V)
 (hdone:∀ (D:Nat) (W:World),w.heap.size≤D→I xs W→W.heap[D]? = some (.deferred (some []))→Q .normal { a with defers:={ target:=.collected D,args:=#[] } :: a.defers } W) :
 (Code.rangeFunc g ps assign body).wpIn F n P Q a w:=by
 refine wpIn_rangeFunc fun fn hfn => ?_
 rw [hro];obtain ⟨r,hr⟩:∃ r:LoopState→Option Code→Loop,r=fun st pe=>{ state:=st,pending:=pe,fn,tmps:=a.tmps,params:=ps,assign,body,defers:=w.heap.size }:=⟨_,rfl⟩
 obtain ⟨V,hV⟩:∃ V,V=(w.alloc (.deferred (some []))).alloc (.loop (r .ready none)):=⟨_,rfl⟩;have hL:LoopAt w (r .ready none) V:=by
  rw [hV];refine ⟨?_,(Below.heap_alloc _ _ _ (by simp)).trans (World.alloc_heap_new w _)⟩
  have:=World.alloc_heap_new (w.alloc (.deferred (some []))) (.loop (r .ready none))
  rwa [World.size_alloc] at this
 have hIV:I [] V:=by rw [hV];exact hI.alloc _ (hI.alloc _ h0)
 have hBV:Below w.heap.size w V:=by rw [hV];exact ((Below.refl _ w).alloc (Nat.le_refl _) _).alloc (by simp) _
 have hsV:V.heap.size=w.heap.size+2:=by rw [hV];simp
 refine ⟨w.heap.size+1,[{ target:=.collected w.heap.size,args:=#[] }],V,{ target:=.fn (.func gf) lb,args:=#[.func (.yield (w.heap.size+1)) #[] #[]] },V,gf,
  #[.func (.yield (w.heap.size+1)) #[] #[]]++lb,V,?_,?_,?_,?_,fun _=>h1,?_⟩
 ·rw [hV,hr];exact run_enterLoop_outer _ _ _ _ _
 ·simp only [resolve,hg];simp [go_sem]
 ·intro f' hf';simp [Target.leads] at hf';subst hf';exact hFg
 ·simp [invoke,go_sem,eg]
 refine (hseq (w.heap.size+1) (fun pre W=>I pre W∧LoopAt w (r .ready none) W) V (hBV.mono hn₀) ?_ ⟨hIV,hL⟩).mono ?_
 ·rintro pre x W ⟨hi,hl⟩ hpre;have hlt:=(Array.getElem?_eq_some_iff.1 hl.1).1;have hy:=run_yield (P:=P) (args:=encs x) hl.1 (by rw [hr];simp [hps x]);rw [hr] at hy;have hla:LoopAt w (r .ready none) (as1 x W):=⟨((has1 x W).block _ hlt).trans hl.1,((has1 x W).block _ (by omega)).trans hl.2⟩;have hsz:=(has1 x W).size;refine ⟨fn,_,assign,body,hy,roundIn_of_wpIn hfn (hassign _ x W _ ⟨_,run_beginRound hla.1 (by rw [hr]),?_⟩)⟩;clear hy;have hl2:LoopAt w { r .ready none with state:=.busy } ((as1 x W).putObj (w.heap.size+1) (.loop { r .ready none with state:=.busy })):=hla.turn _;have hb2:Below w.heap.size (as1 x W) ((as1 x W).putObj (w.heap.size+1) (.loop { r .ready none with state:=.busy })):=belowK_b (w:=w) (Nat.le_refl _) (as1 x W) _ _ _ (by omega) hla.1 rfl rfl
  refine wpIn_mono (hbody _ pre x W _ (fun k h1 h2=>World.putObj_heap_other (by omega)) (hI.putObj _ (has2 pre x W hi) (by omega) hla.1 rfl) hpre (by omega) hb2.size) ?_;rintro e a3 W3 hp;cases e with
  | normal =>
    obtain ⟨hk,hb,hi3⟩:=hp;have hl3:=hl2.kept hk;have he:=run_endRound (P:=P) none hl3.1;rw [hr] at he;refine ⟨_,_,he,rfl,⟨hI.putObj _ hi3 (by omega) hl3.1 rfl,?_⟩,?_⟩
    ·have:=hl3.turn (r .ready none)
     rw [hr] at this ⊢;exact this
    have hb3:=belowK_b (w:=w) (Nat.le_refl _) W3 (w.heap.size+1) _ (.loop (r .ready none)) (by omega) hl3.1 rfl rfl;rw [hr] at hb3;exact (((Keep.of_below ((has1 x W).mono (by omega)) hS).trans (Keep.of_below hb2 hS)).trans hb).trans (Keep.of_below hb3 hS)
  | ret=>exact hp.elim
  | exit id=>exact hp.elim
  | goto t=>exact hp.elim
  | panic ch=>exact hp.elim
  | outgrown=>exact hp.elim
 rintro e W2 ⟨⟨v,rfl⟩,hi,hl⟩;exact ⟨none,_,by have:=run_endLoop (P:=P) hl.1 (by rw [hr];simp);rw [hr] at this;exact this,hdone _ _ (Nat.le_refl _) (hI.putObj _ hi (by omega) hl.1 rfl) ((World.putObj_heap_other (by omega)).trans hl.2)⟩
end Go.Proofs.YtodmdkhdbfbfgaaGreatDoor
namespace Go.Proofs.YtodmdkhdbfbfgaaGreatDoor.S1
open Go.RowKit Pk Go.Shelf
attribute [local go_sem] Oper.semAt_some
def rec0:Value:=.agg #[.string ⟨#[]⟩,.int .i64 0,.int .u32 0,.map none,.int .i64 0]
theorem zero94 (w:World):(zeroValue 94).run Tryz.prog w=.ok rec0 w:=by kernel_rfl
theorem qmK (w:World):(Instr.makeMap 137 none).run Tryz.prog w=.ok (.map (some w.heap.size)) (w.alloc (.map #[] 0)):=by
 simp [Instr.makeMap,Result.andThen]
theorem qjf (q:Option Nat) (w:World) :
 Calls Tryz.prog 86 #[.map q] w fun e w'=>e=.returned (.func (.func 143) #[] #[.pointer (some ⟨w.heap.size,0,none⟩)])∧w'=w.alloc (.cells #[.map q] 137):=by
 go_enter Tryz.func86,Tryz.ntmps86
 go_wp2;go_ret
 exact ⟨rfl,rfl⟩
theorem qcr (p:Option Addr) (k c:Nat) (w:World) :
 Calls Tryz.prog 83 #[.slice p k c] w fun e w'=>e=.returned (.func (.func 138) #[] #[.pointer (some ⟨w.heap.size,0,none⟩)])∧w'=w.alloc (.cells #[.slice p k c] 144):=by
 go_enter Tryz.func83,Tryz.ntmps83
 go_wp2;go_ret
 exact ⟨rfl,rfl⟩
def encIL (x:Nat × (Nat × Nat)):Array Value:=#[.int .i64 (x.1:Nat),.agg #[.int .i64 (x.2.1:Nat),.int .u32 (x.2.2:Nat)]]
end Go.Proofs.YtodmdkhdbfbfgaaGreatDoor.S1
namespace Go.Proofs.YtodmdkhdbfbfgaaGreatDoor
open Go.RowKit Go.Nt
theorem hidI {p:Prop} (h:p):Hid p:=h
def txt (l:List UInt8):ByteArray:=⟨l.toArray⟩
theorem qaa (l:List UInt8):(txt l).size=l.length:=by simp [txt,ByteArray.size]
theorem qgT (l:List UInt8):(txt l).data.toList=l:=rfl
theorem qmi (s:ByteArray):s=txt s.data.toList:=(Lib.mk_data s).symm
theorem qaR (s:List UInt8) (k:Nat) (h:k<(txt s).size):(txt s)[k]'h=s.getD k 0:=by
 have h':k<s.length:=by rw [qaa] at h;exact h
 show s.toArray[k]=_;simp [List.getD,h']
theorem qae (l:List UInt8) (a b:Nat):(txt l).extract a b=txt ((l.drop a).take (b - a)):=by
 rw [Lib.extract_eq];rfl
theorem qar (l:List UInt8):(txt l).toList=l:=by rw [Lib.toList_data];rfl
theorem qex (a b:List UInt8):((txt a).toList==(txt b).toList)=decide (a=b):=by
 rw [qar,qar];by_cases h:a=b<;>simp [h]
theorem qax {k:IntKind} {a b:Int} (h:a=b):Ending.returned (.int k a)=.returned (.int k b):=by rw [h]
theorem qah {a b:Bool} (h:a=b):Ending.returned (.bool a)=.returned (.bool b):=by rw [h]
theorem lt_of_heap {w:World} {g:Nat} {o:Obj} (h:w.heap[g]? = some o):g<w.heap.size:=(Array.getElem?_eq_some_iff.1 h).1
def ItAt (w:World) (b o:Nat) (x:It):Prop:=
 w.cell? ⟨b,o,none⟩=some (.string (txt x.path))∧w.cell? ⟨b,o+1,none⟩=some (.bool x.dir)∧w.cell? ⟨b,o+2,none⟩=some (.string (txt x.data)) ∧
 w.cell? ⟨b,o+3,none⟩=some (.int .i64 x.mode)∧w.cell? ⟨b,o+4,none⟩=some (.int .i64 x.time)
theorem ItAt.lt {w:World} {b o:Nat} {x:It} (h:ItAt w b o x):b<w.heap.size:=World.block_lt_of_cell? w _ h.1
theorem ItAt.of_block {w w':World} {b o:Nat} {x:It} (h:ItAt w b o x) (hb:w'.heap[b]? = w.heap[b]?):ItAt w' b o x:=
 ⟨(World.cell?_of_block hb).trans h.1,(World.cell?_of_block hb).trans h.2.1,(World.cell?_of_block hb).trans h.2.2.1,(World.cell?_of_block hb).trans h.2.2.2.1,(World.cell?_of_block hb).trans h.2.2.2.2⟩
theorem ItAt.below {w w':World} {B b o:Nat} {x:It} (h:ItAt w b o x) (hb:Below B w w') (hlt:b<B):ItAt w' b o x:=h.of_block (hb.block b hlt)
def ItsIn (w:World) (a:Option Addr) (l:List It):Prop:=
 l≠[]→∃ b off,a=some ⟨b,off,none⟩∧∀ k (x:It),l[k]? = some x→ItAt w b (off+k*5) x
theorem ItsIn.below {w w':World} {a:Option Addr} {l:List It} (h:ItsIn w a l) (hb:Below w.heap.size w w'):ItsIn w' a l:=by
 intro hn;obtain ⟨b,off,rfl,hc⟩:=h hn;exact ⟨b,off,rfl,fun k x hk=>(hc k x hk).below hb (hc k x hk).lt⟩
end Go.Proofs.YtodmdkhdbfbfgaaGreatDoor
namespace Go.Proofs.YtodmdkhdbfbfgaaGreatDoor.S1
open Go.RowKit Go.Sort
theorem isNaNU (x:Int) (w:World):Calls Tryz.prog 337 #[.int .u32 x] w fun e w'=>e=.returned (.bool false)∧w'=w:=by
 go_enter Tryz.func337,Tryz.ntmps337
 go_wp2;go_ret
 exact ⟨by simp,rfl⟩
theorem lessU (x y:Int) (w:World):Calls Tryz.prog 323 #[.int .u32 x,.int .u32 y] w fun e w'=>e=.returned (.bool (ltInt x y))∧w'=w:=by
 go_enter Tryz.func323,Tryz.ntmps323
 go_wp2_with (go_at_call 337;refine (isNaNU _ _).mono ?_;rintro e w' ⟨rfl,rfl⟩);go_ret
 exact ⟨rfl,rfl⟩
abbrev HoldsU (w:World) (blk off:Nat) (d:Array Int):Prop:=Holds (Value.int .u32) w blk off d
abbrev rowU (w:World) (n blk off:Nat) (d:Array Int):World:=putRow (Value.int .u32) (Sort.ahead w n) blk off d
theorem qaG {w:World} {blk off:Nat} {d dj:Array Int} (hH:HoldsU w blk off d) {n:Nat} (hs:dj.size=d.size) (t:Nat) (ht:t<d.size):(rowU w n blk off dj).cell? ⟨blk,off+t,none⟩=some (.int .u32 dj[t]!):=
 cell?_putRow _ _ _ _ d dj (holds_ahead _ _ _ _ _ _ hH) hs t (by omega)
theorem qau {w:World} {blk off:Nat} {d dj:Array Int} (hH:HoldsU w blk off d) {n:Nat} (t:Nat) (ht:t<d.size):(rowU w n blk off dj).frozen? ⟨blk,off+t,none⟩=false:=by
 rw [frozen?_putRow];exact ((holds_ahead _ _ n _ _ _ hH) t ht).2
theorem qhU (blk off cap a b:Nat) (d:Array Int) (w:World) (hH:HoldsU w blk off d) (hab:a≤b) (hb:b≤d.size) (hsz:d.size≤1000000) :
 Calls Tryz.prog 317 #[.slice (some ⟨blk,off,none⟩) d.size cap,.int .i64 (a:Nat),.int .i64 (b:Nat)] w fun e w'=>e=.returned (.tuple #[])∧∃ n,w'=rowU w n blk off (insertionSort ltInt d a b):=by
 go_enter Tryz.func317,Tryz.ntmps317
 go_wp2
 go_loopw [6] (fun vi wr=>∃ (i n:Nat) (dk:Array Int),vi=.int .i64 (i:Nat)∧a<i∧i≤b+1∧dk.size=d.size∧wr=rowU w n blk off dk∧Hid (insOuter ltInt a b i dk=insOuter ltInt a b (a+1) d)) (fun vi _=>b+1 - (intOf vi).toNat)
 case atStart=>exact ⟨a+1,0,d,by go_num,by omega,by omega,rfl,(putRow_self _ _ _ _ _ hH).symm,hidI rfl⟩
 case round =>
  obtain ⟨i,n,dk,rfl,hai,hib,hsk,hwr,HO⟩:=hrel;by_cases hlt:i<b
  ·have hlt':((i:Nat):Int)<(b:Nat):=by omega
   go_wp2
   go_loopw [7] (fun vj wr2=>∃ (j m:Nat) (dj:Array Int),vj=.int .i64 (j:Nat)∧a≤j∧j≤i∧dj.size=d.size∧wr2=rowU w m blk off dj∧Hid (insInner ltInt a j dj=insInner ltInt a i dk)) (fun vj _=>(intOf vj).toNat)
   case atStart=>exact ⟨i,n,dk,rfl,by omega,Nat.le_refl _,hsk,by first | rfl | exact hwr,hidI rfl⟩
   obtain ⟨j,m,dj,rfl,haj,hji,hsj,hw2,HI⟩:=hrel;obtain ⟨G,hG⟩:∃ G:Nat→Int,∀ t,G t=dj[t]! := ⟨fun t=>dj[t]!,fun _=>rfl⟩;have hcw:∀ t,t<d.size→wr.cell? ⟨blk,off+t,none⟩=some (.int .u32 (G t)):=fun t ht=>by rw [hw2,hG];exact qaG hH hsj t ht
   have hfw:∀ t,t<d.size→wr.frozen? ⟨blk,off+t,none⟩=false:=fun t ht=>by rw [hw2];exact qau hH t ht
   have HW:=hidI hw2;have HG:=hidI hG;have OUT:Hid ((j≤a∨ltInt dj[j]! dj[j - 1]! = false)→∀ q,∃ i' n' dk',Value.int .i64 ((i:Int)+1)=.int .i64 (i':Nat)∧a<i'∧i'≤b+1∧dk'.size=d.size∧wr.drewN q=rowU w n' blk off dk'∧Hid (insOuter ltInt a b i' dk'=insOuter ltInt a b (a+1) d)):=hidI (fun hs q =>
    ⟨i+1,m+q,dj,by go_num,by omega,by omega,hsj,by rw [HW.out];exact putRow_drewN _ _ _ _ _ _ _,hidI (by rw [←HO.out,insOuter_go _ _ _ _ _ hlt,←HI.out,insInner_stop _ _ _ _ hs])⟩)
   clear hw2 hG hwr;go_wp2;by_cases hja:a<j
   ·go_quiet (first | (go_at_call 323;refine Calls.quiet_of_same (lessU _ _ _)))
    go_wp2
    ·have hl:ltInt (G j) (G (j - 1))=true:=by assumption
     go_region
     all_goals go_wp2
     go_roundw
     case rel =>
      refine ⟨j - 1,m+(nq+1),swp dj j (j - 1),by congr 1;omega,by omega,by omega,by rw [size_swp];exact hsj,?_,hidI ?_⟩
      ·rw [HW.out,HG.out,HG.out];exact swap_worldA _ w m (nq+1) blk off dj j (j - 1) (by omega) (by omega)
      rw [←HI.out,insInner_go ltInt a j dj hja (by rw [←HG.out,←HG.out];exact hl)]
     case measure=>simp [intOf];omega
    have hl:ltInt (G j) (G (j - 1))=false:=by assumption
    go_roundw
    case rel=>exact OUT.out (Or.inr (by rw [←HG.out,←HG.out];exact hl)) nq
    case measure=>simp [intOf];omega
   go_quiet (first | (go_at_call 323;refine Calls.quiet_of_same (lessU _ _ _)))
   go_wp2;go_roundw
   case rel=>exact OUT.out (Or.inl (by omega)) nq
   case measure=>simp [intOf];omega
  have hlt':¬((i:Nat):Int)<(b:Nat):=by omega
  go_wp2;go_end0
  exact ⟨rfl,n,by unfold insertionSort;rw [←HO.out,insOuter_stop _ _ _ _ _ hlt]⟩
theorem qh7 {d:Array Int} {i j:Nat} (h:i<j):reverseLoop i j d=reverseLoop (i+1) (j - 1) (swp d i j):=by rw [reverseLoop,if_pos h]
theorem qeU {d:Array Int} {i j:Nat} (h:¬i<j):reverseLoop i j d=d:=by rw [reverseLoop,if_neg h]
theorem qlB (blk off cap a b:Nat) (d:Array Int) (w:World) (hH:HoldsU w blk off d) (hab:a<b) (hb:b≤d.size) (hsz:d.size≤1000000) :
 Calls Tryz.prog 321 #[.slice (some ⟨blk,off,none⟩) d.size cap,.int .i64 (a:Nat),.int .i64 (b:Nat)] w fun e w'=>e=.returned (.tuple #[])∧∃ n,w'=rowU w n blk off (reverseRange d a b):=by
 go_enter Tryz.func321,Tryz.ntmps321
 go_wp2
 go_loopw [6,7] (fun vi vj wr=>∃ (i j m:Nat) (dj:Array Int),vi=.int .i64 (i:Nat)∧vj=.int .i64 (j:Nat)∧a≤i∧i≤b∧j<b∧dj.size=d.size∧wr=rowU w m blk off dj∧Hid (reverseLoop i j dj=reverseRange d a b)) (fun vi vj _=>(intOf vj).toNat - (intOf vi).toNat)
 case atStart=>exact ⟨a,b - 1,0,d,rfl,by congr 1;omega,Nat.le_refl _,by omega,by omega,rfl,(putRow_self _ _ _ _ _ hH).symm,hidI rfl⟩
 case round =>
  obtain ⟨i,j,m,dj,rfl,rfl,hai,hib,hjb,hsj,hw2,HI⟩:=hrel;by_cases hij:i<j
  ·have hij':((i:Nat):Int)<(j:Nat):=by omega
   obtain ⟨G,hG⟩:∃ G:Nat→Int,∀ t,G t=dj[t]! := ⟨fun t=>dj[t]!,fun _=>rfl⟩;have hcw:∀ t,t<d.size→wr.cell? ⟨blk,off+t,none⟩=some (.int .u32 (G t)):=fun t ht=>by rw [hw2,hG];exact qaG hH hsj t ht
   have hfw:∀ t,t<d.size→wr.frozen? ⟨blk,off+t,none⟩=false:=fun t ht=>by rw [hw2];exact qau hH t ht
   have HW:=hidI hw2;have HG:=hidI hG;have hid:i<d.size:=by omega
   have hjd:j<d.size:=by omega
   clear hw2 hG;go_wp2;go_region
   all_goals go_wp2
   go_roundw
   case rel =>
    refine ⟨i+1,j - 1,m+1,swp dj i j,by go_num,by congr 1;omega,by omega,by omega,by omega,by rw [size_swp];exact hsj,?_,hidI ?_⟩
    ·rw [HW.out,HG.out,HG.out];exact swap_worldA _ w m 1 blk off dj i j (by omega) (by omega)
    rw [←HI.out,qh7 hij]
   case measure=>simp [intOf];omega
  have hij':¬((i:Nat):Int)<(j:Nat):=by omega
  go_wp2;go_end0
  exact ⟨rfl,m,by rw [←HI.out,qeU hij]⟩
def chl (hi first r:Nat) (d:Array Int):Nat:=if 2*r+1+1<hi∧ltInt d[first+(2*r+1)]! d[first+(2*r+1)+1]! = true then 2*r+2 else 2*r+1
theorem qkN {hi first r:Nat} {d:Array Int} (h:hi≤2*r+1):siftDown ltInt hi first r d=d:=by
 rw [siftDown,dif_pos (by omega)]
theorem qcR {hi first r:Nat} {d:Array Int} (h:¬hi≤2*r+1) (hl:ltInt d[first+r]! d[first+chl hi first r d]! = false):siftDown ltInt hi first r d=d:=by
 unfold chl at hl;rw [siftDown,dif_neg (by omega)];by_cases hc:2*r+1+1<hi∧ltInt d[first+(2*r+1)]! d[first+(2*r+1)+1]! = true
 ·rw [if_pos hc] at hl;simp [hc.1,hc.2,hl]
 rw [if_neg hc] at hl
 have:(decide (2*r+1+1<hi)&&ltInt d[first+(2*r+1)]! d[first+(2*r+1)+1]!)=false:=by
  cases h1:(decide (2*r+1+1<hi)&&ltInt d[first+(2*r+1)]! d[first+(2*r+1)+1]!) with
  | false=>rfl
  | true=>rw [Bool.and_eq_true,decide_eq_true_eq] at h1;exact absurd h1 hc
 simp [this,hl]
theorem qgt {hi first r:Nat} {d:Array Int} (h:¬hi≤2*r+1) (hl:ltInt d[first+r]! d[first+chl hi first r d]! = true):siftDown ltInt hi first r d=siftDown ltInt hi first (chl hi first r d) (swp d (first+r) (first+chl hi first r d)):=by
 unfold chl at hl ⊢
 conv=>lhs;rw [siftDown,dif_neg (by omega)]
 by_cases hc:2*r+1+1<hi∧ltInt d[first+(2*r+1)]! d[first+(2*r+1)+1]! = true
 ·rw [if_pos hc] at hl ⊢;have h2:2*r+2<hi:=by omega
  simp [hc.1,hc.2,hl,h2]
 rw [if_neg hc] at hl ⊢
 have:(decide (2*r+1+1<hi)&&ltInt d[first+(2*r+1)]! d[first+(2*r+1)+1]!)=false:=by
  cases h1:(decide (2*r+1+1<hi)&&ltInt d[first+(2*r+1)]! d[first+(2*r+1)+1]!) with
  | false=>rfl
  | true=>rw [Bool.and_eq_true,decide_eq_true_eq] at h1;exact absurd h1 hc
 simp [this,hl]
theorem siftU (blk off cap lo hi first:Nat) (d:Array Int) (w:World) (hH:HoldsU w blk off d) (hb:first+hi≤d.size) (hlo:lo≤d.size) (hsz:d.size≤1000000) :
 Calls Tryz.prog 334 #[.slice (some ⟨blk,off,none⟩) d.size cap,.int .i64 (lo:Nat),.int .i64 (hi:Nat),.int .i64 (first:Nat)] w fun e w'=>e=.returned (.tuple #[])∧∃ n,w'=rowU w n blk off (siftDown ltInt hi first lo d):=by
 go_enter Tryz.func334,Tryz.ntmps334
 go_wp2
 go_loopw [8] (fun vr wr=>∃ (r m:Nat) (dj:Array Int),vr=.int .i64 (r:Nat)∧r≤1000000∧dj.size=d.size∧wr=rowU w m blk off dj∧Hid (siftDown ltInt hi first r dj=siftDown ltInt hi first lo d)) (fun vr _=>hi - (intOf vr).toNat)
 case atStart=>exact ⟨lo,0,d,rfl,by omega,rfl,(putRow_self _ _ _ _ _ hH).symm,hidI rfl⟩
 case round =>
  obtain ⟨r,m,dj,rfl,hr,hsj,hw2,HI⟩:=hrel;by_cases hend:hi≤2*r+1
  ·have hend':((hi:Nat):Int)≤2*(r:Nat)+1:=by omega
   go_wp2;go_end0
   exact ⟨rfl,m,by rw [←HI.out,qkN hend]⟩
  have hend':¬((hi:Nat):Int)≤2*(r:Nat)+1:=by omega
  obtain ⟨G,hG⟩:∃ G:Nat→Int,∀ t,G t=dj[t]! := ⟨fun t=>dj[t]!,fun _=>rfl⟩;have hcw:∀ t,t<d.size→wr.cell? ⟨blk,off+t,none⟩=some (.int .u32 (G t)):=fun t ht=>by rw [hw2,hG];exact qaG hH hsj t ht
  have hfw:∀ t,t<d.size→wr.frozen? ⟨blk,off+t,none⟩=false:=fun t ht=>by rw [hw2];exact qau hH t ht
  have HW:=hidI hw2;have HG:=hidI hG;clear hw2 hG;have hr2:2*r+1<hi:=by omega
  by_cases hc:2*r+1+1<hi
  ·have hc':2*((r:Nat):Int)+1+1<(hi:Nat):=by omega
   have hd1:first+(2*r+1)<d.size:=by omega
   have hd2:first+(2*r+1)+1<d.size:=by omega
   go_wp2
   go_quiet (first | (go_at_call 323;refine Calls.quiet_of_same (lessU _ _ _)))
   cases hl1:ltInt (G (first+(2*r+1))) (G (first+(2*r+1)+1)) with
   | true =>
     obtain ⟨wq,hwq⟩:∃ wq,wq=wr.drewN nq:=⟨_,rfl⟩;obtain ⟨mq,hmq⟩:∃ mq,mq=m+nq:=⟨_,rfl⟩;have HWq:Hid (wq=rowU w mq blk off dj):=hidI (by rw [hwq,hmq,HW.out];exact putRow_drewN _ _ _ _ _ _ _);have hcq:∀ t,t<d.size→wq.cell? ⟨blk,off+t,none⟩=some (.int .u32 (G t)):=fun t ht=>by rw [HWq.out,HG.out];exact qaG hH hsj t ht
     have hfq:∀ t,t<d.size→wq.frozen? ⟨blk,off+t,none⟩=false:=fun t ht=>by rw [HWq.out];exact qau hH t ht
     rw [←hwq];clear hwq hmq hcw hfw;have HC:Hid (chl hi first r dj=2*r+1+1):=hidI (by unfold chl;rw [if_pos ⟨hc,by rw [←HG.out,←HG.out];exact hl1⟩]);have hdc:first+(2*r+1+1)<d.size:=by omega
     have hdr:first+r<d.size:=by omega
     have hwr:IntKind.i64.wrap ((first:Int)+(r:Int))=(first:Int)+(r:Int):=by rw [IntKind.wrap_i64];omega
     have hr0:(0:Int)≤(first:Int)+(r:Int):=by omega
     have hr1:(first:Int)+(r:Int)<(d.size:Nat):=by omega
     have hr3:((first:Int)+(r:Int)).toNat=first+r:=by omega
     have hk0:IntKind.i64.wrap ((first:Int)+(2*(r:Int)+1+1))=(first:Int)+(2*(r:Int)+1+1):=by rw [IntKind.wrap_i64];omega
     have hk1:(0:Int)≤(first:Int)+(2*(r:Int)+1+1):=by omega
     have hk2:(first:Int)+(2*(r:Int)+1+1)<(d.size:Nat):=by omega
     have hk3:((first:Int)+(2*(r:Int)+1+1)).toNat=first+(2*r+1+1):=by omega
     go_wp2
     go_quiet (first | (go_at_call 323;refine Calls.quiet_of_same (lessU _ _ _)))
     cases hl:ltInt (G (first+r)) (G (first+(2*r+1+1))) with
     | false =>
       have HE:Hid (siftDown ltInt hi first lo d=dj):=hidI (by rw [←HI.out];exact qcR hend (by rw [HC.out,←HG.out,←HG.out];exact hl));go_wp2
       ((try simp only [Exit.inBlock,Exit.then]);refine bodyPost_ret (results_none rfl _ _ _) rfl ?_)
       exact ⟨rfl,_,by rw [HE.out,HWq.out];exact putRow_drewN _ _ _ _ _ _ _⟩
     | true =>
       have HE:Hid (siftDown ltInt hi first (2*r+1+1) (swp dj (first+r) (first+(2*r+1+1)))=siftDown ltInt hi first lo d):=hidI (by rw [←HI.out,qgt hend (by rw [HC.out,←HG.out,←HG.out];exact hl),HC.out]);go_wp2;go_region
       all_goals go_wp2
       go_roundw
       case rel =>
        refine ⟨2*r+1+1,mq+(nq+1),swp dj (first+r) (first+(2*r+1+1)),by congr 1,by omega,by rw [size_swp];exact hsj,?_,HE⟩;rw [HWq.out,HG.out,HG.out];exact swap_worldA _ w mq _ blk off dj (first+r) (first+(2*r+1+1)) (by omega) (by omega)
       case measure=>simp [intOf];omega
   | false =>
     obtain ⟨wq,hwq⟩:∃ wq,wq=wr.drewN nq:=⟨_,rfl⟩;obtain ⟨mq,hmq⟩:∃ mq,mq=m+nq:=⟨_,rfl⟩;have HWq:Hid (wq=rowU w mq blk off dj):=hidI (by rw [hwq,hmq,HW.out];exact putRow_drewN _ _ _ _ _ _ _);have hcq:∀ t,t<d.size→wq.cell? ⟨blk,off+t,none⟩=some (.int .u32 (G t)):=fun t ht=>by rw [HWq.out,HG.out];exact qaG hH hsj t ht
     have hfq:∀ t,t<d.size→wq.frozen? ⟨blk,off+t,none⟩=false:=fun t ht=>by rw [HWq.out];exact qau hH t ht
     rw [←hwq];clear hwq hmq hcw hfw;have HC:Hid (chl hi first r dj=2*r+1):=hidI (by unfold chl;rw [if_neg (fun h=>by have:=h.2;rw [←HG.out,←HG.out,hl1] at this;cases this)]);have hdc:first+(2*r+1)<d.size:=by omega
     have hdr:first+r<d.size:=by omega
     have hwr:IntKind.i64.wrap ((first:Int)+(r:Int))=(first:Int)+(r:Int):=by rw [IntKind.wrap_i64];omega
     have hr0:(0:Int)≤(first:Int)+(r:Int):=by omega
     have hr1:(first:Int)+(r:Int)<(d.size:Nat):=by omega
     have hr3:((first:Int)+(r:Int)).toNat=first+r:=by omega
     have hk0:IntKind.i64.wrap ((first:Int)+(2*(r:Int)+1))=(first:Int)+(2*(r:Int)+1):=by rw [IntKind.wrap_i64];omega
     have hk1:(0:Int)≤(first:Int)+(2*(r:Int)+1):=by omega
     have hk2:(first:Int)+(2*(r:Int)+1)<(d.size:Nat):=by omega
     have hk3:((first:Int)+(2*(r:Int)+1)).toNat=first+(2*r+1):=by omega
     go_wp2
     go_quiet (first | (go_at_call 323;refine Calls.quiet_of_same (lessU _ _ _)))
     cases hl:ltInt (G (first+r)) (G (first+(2*r+1))) with
     | false =>
       have HE:Hid (siftDown ltInt hi first lo d=dj):=hidI (by rw [←HI.out];exact qcR hend (by rw [HC.out,←HG.out,←HG.out];exact hl));go_wp2
       ((try simp only [Exit.inBlock,Exit.then]);refine bodyPost_ret (results_none rfl _ _ _) rfl ?_)
       exact ⟨rfl,_,by rw [HE.out,HWq.out];exact putRow_drewN _ _ _ _ _ _ _⟩
     | true =>
       have HE:Hid (siftDown ltInt hi first (2*r+1) (swp dj (first+r) (first+(2*r+1)))=siftDown ltInt hi first lo d):=hidI (by rw [←HI.out,qgt hend (by rw [HC.out,←HG.out,←HG.out];exact hl),HC.out]);go_wp2;go_region
       all_goals go_wp2
       go_roundw
       case rel =>
        refine ⟨2*r+1,mq+(nq+1),swp dj (first+r) (first+(2*r+1)),by congr 1,by omega,by rw [size_swp];exact hsj,?_,HE⟩;rw [HWq.out,HG.out,HG.out];exact swap_worldA _ w mq _ blk off dj (first+r) (first+(2*r+1)) (by omega) (by omega)
       case measure=>simp [intOf];omega
  have hc':¬2*((r:Nat):Int)+1+1<(hi:Nat):=by omega
  have hw2:IntKind.i64.wrap (2*(r:Int)+1+1)=2*(r:Int)+1+1:=by rw [IntKind.wrap_i64];omega
  have hcd:decide (2*((r:Nat):Int)+1+1<(hi:Nat))=false:=decide_eq_false hc';go_wp2
  go_quiet (first | (go_at_call 323;refine Calls.quiet_of_same (lessU _ _ _)))
  obtain ⟨wq,hwq⟩:∃ wq,wq=wr.drewN nq:=⟨_,rfl⟩;obtain ⟨mq,hmq⟩:∃ mq,mq=m+nq:=⟨_,rfl⟩;have HWq:Hid (wq=rowU w mq blk off dj):=hidI (by rw [hwq,hmq,HW.out];exact putRow_drewN _ _ _ _ _ _ _);have hcq:∀ t,t<d.size→wq.cell? ⟨blk,off+t,none⟩=some (.int .u32 (G t)):=fun t ht=>by rw [HWq.out,HG.out];exact qaG hH hsj t ht
  have hfq:∀ t,t<d.size→wq.frozen? ⟨blk,off+t,none⟩=false:=fun t ht=>by rw [HWq.out];exact qau hH t ht
  rw [←hwq];clear hwq hmq hcw hfw;have HC:Hid (chl hi first r dj=2*r+1):=hidI (by unfold chl;rw [if_neg (fun h=>hc h.1)]);have hdc:first+(2*r+1)<d.size:=by omega
  have hdr:first+r<d.size:=by omega
  have hwr:IntKind.i64.wrap ((first:Int)+(r:Int))=(first:Int)+(r:Int):=by rw [IntKind.wrap_i64];omega
  have hr0:(0:Int)≤(first:Int)+(r:Int):=by omega
  have hr1:(first:Int)+(r:Int)<(d.size:Nat):=by omega
  have hr3:((first:Int)+(r:Int)).toNat=first+r:=by omega
  have hk0:IntKind.i64.wrap ((first:Int)+(2*(r:Int)+1))=(first:Int)+(2*(r:Int)+1):=by rw [IntKind.wrap_i64];omega
  have hk1:(0:Int)≤(first:Int)+(2*(r:Int)+1):=by omega
  have hk2:(first:Int)+(2*(r:Int)+1)<(d.size:Nat):=by omega
  have hk3:((first:Int)+(2*(r:Int)+1)).toNat=first+(2*r+1):=by omega
  go_wp2
  go_quiet (first | (go_at_call 323;refine Calls.quiet_of_same (lessU _ _ _)))
  cases hl:ltInt (G (first+r)) (G (first+(2*r+1))) with
  | false =>
    have HE:Hid (siftDown ltInt hi first lo d=dj):=hidI (by rw [←HI.out];exact qcR hend (by rw [HC.out,←HG.out,←HG.out];exact hl));go_wp2
    ((try simp only [Exit.inBlock,Exit.then]);refine bodyPost_ret (results_none rfl _ _ _) rfl ?_)
    exact ⟨rfl,_,by rw [HE.out,HWq.out];exact putRow_drewN _ _ _ _ _ _ _⟩
  | true =>
    have HE:Hid (siftDown ltInt hi first (2*r+1) (swp dj (first+r) (first+(2*r+1)))=siftDown ltInt hi first lo d):=hidI (by rw [←HI.out,qgt hend (by rw [HC.out,←HG.out,←HG.out];exact hl),HC.out]);go_wp2;go_region
    all_goals go_wp2
    go_roundw
    case rel =>
     refine ⟨2*r+1,mq+(nq+1),swp dj (first+r) (first+(2*r+1)),by congr 1,by omega,by rw [size_swp];exact hsj,?_,HE⟩;rw [HWq.out,HG.out,HG.out];exact swap_worldA _ w mq _ blk off dj (first+r) (first+(2*r+1)) (by omega) (by omega)
    case measure=>simp [intOf];omega
theorem rowU_holds {w:World} {blk off:Nat} {d dj:Array Int} (hH:HoldsU w blk off d) (n:Nat) (hs:dj.size=d.size):HoldsU (rowU w n blk off dj) blk off dj:=holds_putRow _ _ _ _ d dj (holds_ahead _ _ _ _ _ _ hH) hs
theorem qcK (w:World) (n m blk off:Nat) {d d':Array Int} (h:d'.size=d.size):rowU (rowU w n blk off d) m blk off d'=rowU w (n+m) blk off d':=putRow_ahead_putRow _ _ _ _ _ _ _ _ h
theorem qa5 (hi first r:Nat) (d:Array Int):(siftDown ltInt hi first r d).size=d.size:=size_siftDown ltInt _ _ _ _ _ (Nat.le_refl _)
theorem heapU (blk off cap a b:Nat) (d:Array Int) (w:World) (hH:HoldsU w blk off d) (hab:a<b) (hb:b≤d.size) (hsz:d.size≤1000000) :
 Calls Tryz.prog 318 #[.slice (some ⟨blk,off,none⟩) d.size cap,.int .i64 (a:Nat),.int .i64 (b:Nat)] w fun e w'=>e=.returned (.tuple #[])∧∃ n,w'=rowU w n blk off (heapSort ltInt d a b):=by
 obtain ⟨hi,hhi⟩:∃ hi,hi=b - a:=⟨_,rfl⟩;have hi1:1≤hi:=by omega
 have hih:a+hi≤d.size:=by omega
 have h1:((b:Nat):Int) - (a:Nat)=(hi:Nat):=by omega
 obtain ⟨k0,hk0⟩:∃ k0,k0=(hi - 1)/2:=⟨_,rfl⟩;have h2:Int.tdiv ((hi:Int) - 1) 2=(k0:Nat):=by rw [Int.tdiv_eq_ediv_of_nonneg (by omega)];omega
 have hk0l:k0<hi:=by omega
 have Hend:Hid (heapSort ltInt d a b=heapPop ltInt a hi (heapBuild ltInt hi a (k0+1) d)):=hidI (by unfold heapSort;rw [←hhi,←hk0]);clear hhi hk0;go_enter Tryz.func318,Tryz.ntmps318
 go_wp2
 go_loopw [9] (fun vi wr=>∃ (k m:Nat) (dj:Array Int),vi=.int .i64 ((k:Nat) - 1:Int)∧k≤k0+1∧dj.size=d.size∧wr=rowU w m blk off dj∧Hid (heapBuild ltInt hi a k dj=heapBuild ltInt hi a (k0+1) d)) (fun vi _=>(intOf vi+1).toNat)
 case atStart=>exact ⟨k0+1,0,d,by congr 1;omega,Nat.le_refl _,rfl,(putRow_self _ _ _ _ _ hH).symm,hidI rfl⟩
 case round =>
  obtain ⟨k,m,dj,rfl,hk,hsj,hw2,HI⟩:=hrel;cases k with
  | succ k =>
    have hkv:(((k+1:Nat):Int) - 1)=(k:Nat):=by omega
    rw [hkv];have hge:(0:Int)≤(k:Nat):=by omega
    have A:=hidI (siftU blk off cap k hi a dj wr (by rw [hw2];exact rowU_holds hH m hsj) (by omega) (by omega) (by omega));rw [hsj] at A;have HW:=hidI hw2;clear hw2;go_wp2_with fail;refine A.out.mono ?_;rintro e w3 ⟨rfl,n,hw3⟩;have HW3:Hid (w3=rowU w (m+n) blk off (siftDown ltInt hi a k dj)):=hidI (by rw [hw3,HW.out];exact qcK w m n blk off (by rw [qa5]));clear hw3 A;go_wp2;go_roundw
    case rel=>exact ⟨k,m+n,siftDown ltInt hi a k dj,rfl,by omega,by rw [qa5];exact hsj,HW3.out,hidI (by rw [←HI.out];rfl)⟩
    case measure=>simp [intOf]
  | zero =>
    have hkv:(((0:Nat):Int) - 1) = -1:=rfl;rw [hkv];obtain ⟨w4,hw4⟩:∃ w4,w4=wr:=⟨_,rfl⟩;subst hw4;have HW4:=hidI hw2;clear hw2;go_wp2
    go_loopw [10] (fun vi wr=>∃ (k n:Nat) (dk:Array Int),vi=.int .i64 ((k:Nat) - 1:Int)∧k≤hi∧dk.size=d.size∧wr=rowU w n blk off dk∧Hid (heapPop ltInt a k dk=heapPop ltInt a hi (heapBuild ltInt hi a (k0+1) d))) (fun vi _=>(intOf vi+1).toNat)
    case atStart=>exact ⟨hi,m,dj,rfl,Nat.le_refl _,hsj,HW4.out,hidI (by rw [←HI.out];rfl)⟩
    case round =>
     obtain ⟨k,n,dk,rfl,hk,hsk,hw2,HI2⟩:=hrel;cases k with
     | succ k =>
       have hkv:(((k+1:Nat):Int) - 1)=(k:Nat):=by omega
       rw [hkv];have hge:(0:Int)≤(k:Nat):=by omega
       obtain ⟨G,hG⟩:∃ G:Nat→Int,∀ t,G t=dk[t]! := ⟨fun t=>dk[t]!,fun _=>rfl⟩;have hcw:∀ t,t<d.size→wr.cell? ⟨blk,off+t,none⟩=some (.int .u32 (G t)):=fun t ht=>by rw [hw2,hG];exact qaG hH hsk t ht
       have hfw:∀ t,t<d.size→wr.frozen? ⟨blk,off+t,none⟩=false:=fun t ht=>by rw [hw2];exact qau hH t ht
       have HW:=hidI hw2;have HG:=hidI hG;have hid:a<d.size:=by omega
       have hjd:a+k<d.size:=by omega
       clear hw2 hG;have A:=hidI (fun W hW=>siftU blk off cap 0 k a (swp dk a (a+k)) W hW (by rw [size_swp];omega) (by rw [size_swp];omega) (by rw [size_swp];omega));rw [size_swp,hsk] at A;by_cases hkz:k=0
       case pos =>
        subst hkz;have hca:=hcw a hid;go_wp2_with fail;go_region;obtain ⟨W5,hW5⟩:∃ W5,W5=((wr.setCell ⟨blk,off+a,none⟩ (.int .u32 (G a))).setCell ⟨blk,off+a,none⟩ (.int .u32 (G a))).drew:=⟨_,rfl⟩;rw [←hW5];have HW5:Hid (W5=rowU w (n+1) blk off (swp dk a (a+0))):=hidI (by rw [hW5,HW.out,HG.out];exact swap_worldA _ w n 1 blk off dk a a (by omega) (by omega));clear hW5 hca;have A5:Hid (Calls Tryz.prog 334 #[.slice (some ⟨blk,off,none⟩) d.size cap,.int .i64 0,.int .i64 0,.int .i64 (a:Nat)] W5 fun e w'=>e=.returned (.tuple #[])∧∃ n',w'=rowU W5 n' blk off (siftDown ltInt 0 a 0 (swp dk a (a+0)))):=hidI (A.out W5 (by rw [HW5.out];exact rowU_holds hH (n+1) (by rw [size_swp];exact hsk)));clear A hcw hfw;go_wp2_with fail;refine A5.out.mono ?_;rintro e w6 ⟨rfl,n6,hw6⟩
        have HW6:Hid (w6=rowU w (n+1+n6) blk off (siftDown ltInt 0 a 0 (swp dk a (a+0)))):=hidI (by rw [hw6,HW5.out];exact qcK w (n+1) n6 blk off (by rw [qa5]));clear hw6 A5;go_wp2;go_roundw
        case rel=>exact ⟨0,n+1+n6,siftDown ltInt 0 a 0 (swp dk a (a+0)),by first | rfl | go_num,by omega,by rw [qa5,size_swp];exact hsk,HW6.out,hidI (by rw [←HI2.out];rfl)⟩
        case measure=>simp [intOf]
       case neg =>
        have hne:off+(a+k)≠off+a:=by omega
        have hca:=hcw a hid;have hcb:=hcw (a+k) hjd;have hfa:=hfw a hid;have hfb:=hfw (a+k) hjd;go_wp2_with fail;go_region;obtain ⟨W5,hW5⟩:∃ W5,W5=((wr.setCell ⟨blk,off+a,none⟩ (.int .u32 (G (a+k)))).setCell ⟨blk,off+(a+k),none⟩ (.int .u32 (G a))).drew:=⟨_,rfl⟩;rw [←hW5];have HW5:Hid (W5=rowU w (n+1) blk off (swp dk a (a+k))):=hidI (by rw [hW5,HW.out,HG.out,HG.out];exact swap_worldA _ w n 1 blk off dk a (a+k) (by omega) (by omega));clear hW5 hca hcb hfa hfb;have A5:Hid (Calls Tryz.prog 334 #[.slice (some ⟨blk,off,none⟩) d.size cap,.int .i64 0,.int .i64 (k:Nat),.int .i64 (a:Nat)] W5 fun e w'=>e=.returned (.tuple #[])∧∃ n',w'=rowU W5 n' blk off (siftDown ltInt k a 0 (swp dk a (a+k)))):=hidI (A.out W5 (by rw [HW5.out];exact rowU_holds hH (n+1) (by rw [size_swp];exact hsk)));clear A hcw hfw;go_wp2_with fail;refine A5.out.mono ?_;rintro e w6 ⟨rfl,n6,hw6⟩
        have HW6:Hid (w6=rowU w (n+1+n6) blk off (siftDown ltInt k a 0 (swp dk a (a+k)))):=hidI (by rw [hw6,HW5.out];exact qcK w (n+1) n6 blk off (by rw [qa5]));clear hw6 A5;go_wp2;go_roundw
        case rel=>exact ⟨k,n+1+n6,siftDown ltInt k a 0 (swp dk a (a+k)),by first | rfl | go_num,by omega,by rw [qa5,size_swp];exact hsk,HW6.out,hidI (by rw [←HI2.out];rfl)⟩
        case measure=>simp [intOf]
     | zero =>
       have hkv:(((0:Nat):Int) - 1) = -1:=rfl;rw [hkv];have HWn:=hidI hw2;clear hw2;go_wp2;go_end0
       exact ⟨rfl,n,by rw [Hend.out,←HI2.out,HWn.out];rfl⟩
theorem qgf (blk off cap a b sb so s:Nat) (d:Array Int) (w:World) (hH:HoldsU w blk off d) (ha:a<d.size) (hb:b<d.size) (hS:Holds (Value.int .i64) w sb so (one s)) (hs:s≤1000) (hsz:d.size≤1000000) :
 Calls Tryz.prog 339 #[.slice (some ⟨blk,off,none⟩) d.size cap,.int .i64 (a:Nat),.int .i64 (b:Nat),.pointer (some ⟨sb,so,none⟩)] w fun e w' =>
  e=.returned (.tuple #[.int .i64 ((order2 ltInt d a b s).1:Nat),.int .i64 ((order2 ltInt d a b s).2.1:Nat)])∧∃ n,w'=putRow (Value.int .i64) (Sort.ahead w n) sb so (one (order2 ltInt d a b s).2.2):=by
 obtain ⟨G,hG⟩:∃ G:Nat→Int,∀ t,G t=d[t]! := ⟨fun t=>d[t]!,fun _=>rfl⟩;have hcw:∀ t,t<d.size→w.cell? ⟨blk,off+t,none⟩=some (.int .u32 (G t)):=fun t ht=>by rw [hG];exact (hH t ht).1
 have c0:w.cell? ⟨sb,so,none⟩=some (.int .i64 (s:Nat)):=(hS 0 (by simp [one])).1;have f0:w.frozen? ⟨sb,so,none⟩=false:=(hS 0 (by simp [one])).2;have HG:=hidI hG;have HS:=hidI hS;clear hG hS hH;go_enter Tryz.func339,Tryz.ntmps339
 go_wp2
 go_quiet (first | (go_at_call 323;refine Calls.quiet_of_same (lessU _ _ _)))
 obtain ⟨wq,hwq⟩:∃ wq,wq=w.drewN nq:=⟨_,rfl⟩;have c1:wq.cell? ⟨sb,so,none⟩=some (.int .i64 (s:Nat)):=by rw [hwq];exact c0
 have f1:wq.frozen? ⟨sb,so,none⟩=false:=by rw [hwq];exact f0
 have HSq:Hid (Holds (Value.int .i64) wq sb so (one s)):=hidI (by rw [hwq];exact fun j hj=>⟨(HS.out j hj).1,(HS.out j hj).2⟩);have Hwq:Hid (wq=Sort.ahead w nq):=hidI (by rw [hwq];rfl);rw [←hwq];clear hcw c0 f0 hwq;cases hl:ltInt (G b) (G a) with
 | true =>
   have e2:order2 ltInt d a b s=(b,a,s+1):=by unfold order2;rw [←HG.out,←HG.out,hl];rfl
   have He2:=hidI e2;have Hset:=hidI (one_set HSq.out (s+1));clear e2;go_wp2;go_ret2
   refine ⟨by rw [He2.out];rfl,nq,?_⟩;rw [He2.out,←Hwq.out];exact Hset.out
 | false =>
   have e2:order2 ltInt d a b s=(a,b,s):=by unfold order2;rw [←HG.out,←HG.out,hl];rfl
   have He2:=hidI e2;clear e2;go_wp2;go_ret2
   refine ⟨by rw [He2.out];rfl,nq,?_⟩;rw [He2.out,←Hwq.out];exact (putRow_self _ _ _ _ _ HSq.out).symm
theorem asideU {w:World} {blk off sb so n t:Nat} {d:Array Int} (h:HoldsU w blk off d) (hne:sb≠blk):HoldsU (putRow (Value.int .i64) (Sort.ahead w n) sb so (one t)) blk off d:=fun j hj =>
 ⟨by rw [cell?_putRow_other _ _ _ _ _ _ (Or.inl (Ne.symm hne))];exact (h j hj).1,by rw [frozen?_putRow];exact (h j hj).2⟩
theorem oneU {w:World} {sb so s n t:Nat} (h:Holds (Value.int .i64) w sb so (one s)):Holds (Value.int .i64) (putRow (Value.int .i64) (Sort.ahead w n) sb so (one t)) sb so (one t):=holds_putRow _ _ _ _ (one s) (one t) (holds_ahead _ _ _ _ _ _ h) rfl
theorem qba (d:Array Int) (a b s:Nat):(order2 ltInt d a b s).2.2≤s+1:=by
 unfold order2
 split<;>simp
theorem qgg (blk off cap a b c sb so s:Nat) (d:Array Int) (w:World) (hH:HoldsU w blk off d) (ha:a<d.size) (hb:b<d.size) (hc:c<d.size) (hne:sb≠blk) (hS:Holds (Value.int .i64) w sb so (one s)) (hs:s≤900) (hsz:d.size≤1000000) :
 Calls Tryz.prog 336 #[.slice (some ⟨blk,off,none⟩) d.size cap,.int .i64 (a:Nat),.int .i64 (b:Nat),.int .i64 (c:Nat),.pointer (some ⟨sb,so,none⟩)] w fun e w' =>
  e=.returned (.int .i64 ((median ltInt d a b c s).1:Nat))∧∃ n,w'=putRow (Value.int .i64) (Sort.ahead w n) sb so (one (median ltInt d a b c s).2):=by
 have A:=hidI (qgf blk off cap a b sb so s d w hH ha hb hS (by omega) hsz);obtain ⟨r1,hr1⟩:∃ r1,r1=order2 ltInt d a b s:=⟨_,rfl⟩;have l1:=order2_lt d s ha hb;have q1:=qba d a b s;rw [←hr1] at A l1 q1;obtain ⟨r2,hr2⟩:∃ r2,r2=order2 ltInt d r1.2.1 c r1.2.2:=⟨_,rfl⟩;have l2:=order2_lt d r1.2.2 l1.2 hc;have q2:=qba d r1.2.1 c r1.2.2;rw [←hr2] at l2 q2;obtain ⟨r3,hr3⟩:∃ r3,r3=order2 ltInt d r1.1 r2.1 r2.2.2:=⟨_,rfl⟩;have HM:Hid (median ltInt d a b c s=(r3.2.1,r3.2.2)):=hidI (by rw [hr3,hr2,hr1];rfl);have H0:=hidI hH;have HS:=hidI hS;have Hr2:=hidI hr2;have Hr3:=hidI hr3;clear hr1 hr2 hr3 hH hS;go_enter Tryz.func336,Tryz.ntmps336
 go_wp2_with fail;refine A.out.mono ?_;rintro e w1 ⟨rfl,n1,hw1⟩;have H1:Hid (HoldsU w1 blk off d):=hidI (by rw [hw1];exact asideU H0.out hne);have HS1:Hid (Holds (Value.int .i64) w1 sb so (one r1.2.2)):=hidI (by rw [hw1];exact oneU HS.out);have B:=hidI (qgf blk off cap r1.2.1 c sb so r1.2.2 d w1 H1.out l1.2 hc HS1.out (by omega) hsz);rw [←Hr2.out] at B;have HW1:=hidI hw1;clear hw1 A;go_wp2_with fail;refine B.out.mono ?_;rintro e w2 ⟨rfl,n2,hw2⟩;have H2:Hid (HoldsU w2 blk off d):=hidI (by rw [hw2];exact asideU H1.out hne);have HS2:Hid (Holds (Value.int .i64) w2 sb so (one r2.2.2)):=hidI (by rw [hw2];exact oneU HS1.out);have C:=hidI (qgf blk off cap r1.1 r2.1 sb so r2.2.2 d w2 H2.out l1.1 l2.1 HS2.out (by omega) hsz);rw [←Hr3.out] at C;have HW2:Hid (w2=putRow (Value.int .i64) (Sort.ahead w (n1+n2)) sb so (one r2.2.2)):=hidI (by rw [hw2,HW1.out,one_one]);clear hw2 B
 go_wp2_with fail;refine C.out.mono ?_;rintro e w3 ⟨rfl,n3,hw3⟩;have HW3:Hid (w3=putRow (Value.int .i64) (Sort.ahead w (n1+n2+n3)) sb so (one r3.2.2)):=hidI (by rw [hw3,HW2.out,one_one]);clear hw3 C;go_wp2;go_ret
 exact ⟨by rw [HM.out];rfl,n1+n2+n3,by rw [HM.out];exact HW3.out⟩
theorem qgj (blk off cap a sb so s:Nat) (d:Array Int) (w:World) (hH:HoldsU w blk off d) (ha:1≤a) (hb:a+1<d.size) (hne:sb≠blk) (hS:Holds (Value.int .i64) w sb so (one s)) (hs:s≤900) (hsz:d.size≤1000000) :
 Calls Tryz.prog 335 #[.slice (some ⟨blk,off,none⟩) d.size cap,.int .i64 (a:Nat),.pointer (some ⟨sb,so,none⟩)] w fun e w' =>
  e=.returned (.int .i64 ((medianAdjacent ltInt d a s).1:Nat))∧∃ n,w'=putRow (Value.int .i64) (Sort.ahead w n) sb so (one (medianAdjacent ltInt d a s).2):=by
 have A:=hidI (qgg blk off cap (a - 1) a (a+1) sb so s d w hH (by omega) (by omega) hb hne hS hs hsz);have h1:((a:Nat):Int) - 1=((a - 1:Nat):Int):=by omega
 have HM:Hid (medianAdjacent ltInt d a s=median ltInt d (a - 1) a (a+1) s):=hidI rfl;obtain ⟨r,hr⟩:∃ r,r=median ltInt d (a - 1) a (a+1) s:=⟨_,rfl⟩;rw [←hr] at A HM;obtain ⟨p,hp⟩:∃ p,p=a - 1:=⟨_,rfl⟩;rw [←hp] at A h1;clear hH hS hr hp;go_enter Tryz.func335,Tryz.ntmps335
 go_wp2_with fail;refine A.out.mono ?_;rintro e w1 ⟨rfl,n1,hw1⟩;have HW1:=hidI hw1;clear hw1 A;go_wp2;go_ret
 exact ⟨by rw [HM.out];rfl,n1,by rw [HM.out];exact HW1.out⟩
def hintN:Hint→Nat
 | .unknown=>0
 | .increasing=>1
 | .decreasing=>2
theorem qdk (d:Array Int) {a b c n:Nat} (s:Nat) (ha:a<n) (hb:b<n) (hc:c<n):(median ltInt d a b c s).1<n:=by
 have h1:=order2_lt d s ha hb;have h2:=order2_lt d (order2 ltInt d a b s).2.2 h1.2 hc;exact (order2_lt d (order2 ltInt d (order2 ltInt d a b s).2.1 c (order2 ltInt d a b s).2.2).2.2 h1.1 h2.1).2
theorem qa4 (d:Array Int) (a b c s:Nat):(median ltInt d a b c s).2≤s+3:=by
 have h1:=qba d a b s;have h2:=qba d (order2 ltInt d a b s).2.1 c (order2 ltInt d a b s).2.2;have h3:=qba d (order2 ltInt d a b s).1 (order2 ltInt d (order2 ltInt d a b s).2.1 c (order2 ltInt d a b s).2.2).1 (order2 ltInt d (order2 ltInt d a b s).2.1 c (order2 ltInt d a b s).2.2).2.2;show (order2 ltInt d _ _ _).2.2≤_;omega
theorem ql6 (w:World) (n s:Nat):∃ os,putRow (Value.int .i64) (Sort.ahead (w.alloc (.cells #[.int .i64 0] 3)) n) w.heap.size 0 (one s)=grow (Sort.ahead w n) os:=by
 rw [alloc_eq_grow,ahead_grow];obtain ⟨os,_,h⟩:=putRow_grow_new (Value.int .i64) (Sort.ahead w n) #[.cells #[.int .i64 0] 3] w.heap.size 0 (one s) (Nat.le_refl _);exact ⟨os,h⟩
theorem qmF (w:World):Holds (Value.int .i64) (w.alloc (.cells #[.int .i64 0] 3)) w.heap.size 0 (one 0):=fun j hj=>by
 have:j=0:=by simp [one] at hj;omega
 subst this;exact ⟨by simp [one],by simp⟩
def hintOf (s:Nat):Hint:=if s=0 then .increasing else if s=12 then .decreasing else .unknown
theorem qiX {d:Array Int} {a b l q:Nat} (hl:l=b - a) (hq:q=l/4) (h8:¬8≤l):choosePivot ltInt d a b=(a+q*2,hintOf 0):=by
 subst hq hl;simp [choosePivot,hintOf,h8]
theorem qjk {d:Array Int} {a b l q:Nat} (hl:l=b - a) (hq:q=l/4) (h8:8≤l) (h50:¬50≤l):choosePivot ltInt d a b=((median ltInt d (a+q) (a+q*2) (a+q*3) 0).1,hintOf (median ltInt d (a+q) (a+q*2) (a+q*3) 0).2):=by
 subst hq hl;simp [choosePivot,hintOf,h8,h50]
theorem qjb {d:Array Int} {a b l q i j k:Nat} {r1 r2 r3 r4:Nat × Nat} (hl:l=b - a) (hq:q=l/4) (h50:50≤l) (hi:i=a+q) (hj:j=a+q*2) (hk:k=a+q*3) (h1:r1=medianAdjacent ltInt d i 0) (h2:r2=medianAdjacent ltInt d j r1.2) (h3:r3=medianAdjacent ltInt d k r2.2) (h4:r4=median ltInt d r1.1 r2.1 r3.1 r3.2):choosePivot ltInt d a b=(r4.1,hintOf r4.2):=by
 subst h4 h3 h2 h1 hk hj hi hq hl;have h8:8≤b - a:=by omega
 simp [choosePivot,hintOf,h8,h50]
theorem pivotU (blk off cap a b:Nat) (d:Array Int) (w:World) (hH:HoldsU w blk off d) (hab:a<b) (hb:b≤d.size) (hblk:blk<w.heap.size) (hsz:d.size≤1000000) :
 Calls Tryz.prog 320 #[.slice (some ⟨blk,off,none⟩) d.size cap,.int .i64 (a:Nat),.int .i64 (b:Nat)] w fun e w' =>
  e=.returned (.tuple #[.int .i64 ((choosePivot ltInt d a b).1:Nat),.int .i64 (hintN (choosePivot ltInt d a b).2:Nat)])∧∃ n os,w'=grow (Sort.ahead w n) os:=by
 obtain ⟨l,hl⟩:∃ l,l=b - a:=⟨_,rfl⟩;have h1:((b:Nat):Int) - (a:Nat)=(l:Nat):=by omega
 obtain ⟨q,hq⟩:∃ q,q=l/4:=⟨_,rfl⟩;have h2:Int.tdiv (l:Nat) 4=(q:Nat):=by rw [Int.tdiv_eq_ediv_of_nonneg (by omega)];omega
 have hal:a+l≤d.size:=by omega
 have hq4:q*4≤l:=by omega
 obtain ⟨z,hz⟩:∃ z,z=w.heap.size:=⟨_,rfl⟩;obtain ⟨W1,hW1⟩:∃ W1,W1=w.alloc (.cells #[.int .i64 0] 3):=⟨_,rfl⟩;have H1:Hid (HoldsU W1 blk off d):=hidI (by rw [hW1,alloc_eq_grow];exact holds_grow _ _ _ _ _ _ hblk hH);have HS1:Hid (Holds (Value.int .i64) W1 z 0 (one 0)):=hidI (by rw [hW1,hz];exact qmF w);have hzb:z≠blk:=by omega
 have Hg:Hid (∀ n s,∃ os,putRow (Value.int .i64) (Sort.ahead W1 n) z 0 (one s)=grow (Sort.ahead w n) os):=hidI (fun n s=>by rw [hW1,hz];exact ql6 w n s);have Hg0:Hid (∃ os,W1=grow (Sort.ahead w 0) os):=hidI ⟨_,by rw [hW1,alloc_eq_grow];rfl⟩;have HW1:=hidI hW1;have Hz:=hidI hz;have Hl:=hidI hl;have Hq:=hidI hq;clear hH hW1 hz hl hq;by_cases hl8:8≤l
 ·have hl8':(8:Int)≤(l:Nat):=by omega
  by_cases hl50:50≤l
  ·have hl50':(50:Int)≤(l:Nat):=by omega
   obtain ⟨i,hi⟩:∃ i,i=a+q:=⟨_,rfl⟩;obtain ⟨j,hj⟩:∃ j,j=a+q*2:=⟨_,rfl⟩;obtain ⟨k,hk⟩:∃ k,k=a+q*3:=⟨_,rfl⟩;have e1:(a:Int)+(q:Int)=(i:Nat):=by omega
   have e2:(a:Int)+(q:Int)*2=(j:Nat):=by omega
   have e3:(a:Int)+(q:Int)*3=(k:Nat):=by omega
   have hq1:12≤q:=by have:=Hq.out;omega
   obtain ⟨r1,hr1⟩:∃ r,r=medianAdjacent ltInt d i 0:=⟨_,rfl⟩;obtain ⟨r2,hr2⟩:∃ r,r=medianAdjacent ltInt d j r1.2:=⟨_,rfl⟩;obtain ⟨r3,hr3⟩:∃ r,r=medianAdjacent ltInt d k r2.2:=⟨_,rfl⟩;obtain ⟨r4,hr4⟩:∃ r,r=median ltInt d r1.1 r2.1 r3.1 r3.2:=⟨_,rfl⟩;have HC:Hid (choosePivot ltInt d a b=(r4.1,hintOf r4.2)):=hidI (qjb Hl.out Hq.out hl50 hi hj hk hr1 hr2 hr3 hr4);have b1:r1.1<d.size∧r1.2≤3:=by rw [hr1];exact ⟨qdk d 0 (by omega) (by omega) (by omega),qa4 d _ _ _ 0⟩
   have b2:r2.1<d.size∧r2.2≤6:=by rw [hr2];exact ⟨qdk d _ (by omega) (by omega) (by omega),by have:=qa4 d (j - 1) j (j+1) r1.2;exact Nat.le_trans this (by omega)⟩
   have b3:r3.1<d.size∧r3.2≤9:=by rw [hr3];exact ⟨qdk d _ (by omega) (by omega) (by omega),by have:=qa4 d (k - 1) k (k+1) r2.2;exact Nat.le_trans this (by omega)⟩
   have A:=hidI (qgj blk off cap i z 0 0 d W1 H1.out (by omega) (by omega) hzb HS1.out (by omega) hsz);rw [←hr1] at A;have Hr2:=hidI hr2;have Hr3:=hidI hr3;have Hr4:=hidI hr4;have Hi:Hid (1≤i∧i+1<d.size∧1≤j∧j+1<d.size∧1≤k∧k+1<d.size):=hidI (by omega);clear hr1 hr2 hr3 hr4 hi hj hk hq1;go_enter Tryz.func320,Tryz.ntmps320
   go_wp2_with (first | (rw [←HW1.out,←Hz.out]) | fail);refine A.out.mono ?_;rintro e w2 ⟨rfl,n1,hw2⟩;have H2:Hid (HoldsU w2 blk off d):=hidI (by rw [hw2];exact asideU H1.out hzb);have HS2:Hid (Holds (Value.int .i64) w2 z 0 (one r1.2)):=hidI (by rw [hw2];exact oneU HS1.out);have A2:=hidI (qgj blk off cap j z 0 r1.2 d w2 H2.out Hi.out.2.2.1 Hi.out.2.2.2.1 hzb HS2.out (by omega) hsz);rw [←Hr2.out] at A2;have HW2:=hidI hw2;clear hw2 A e1 e2 e3;go_wp2_with fail;refine A2.out.mono ?_;rintro e w3 ⟨rfl,n2,hw3⟩;have H3:Hid (HoldsU w3 blk off d):=hidI (by rw [hw3];exact asideU H2.out hzb);have HS3:Hid (Holds (Value.int .i64) w3 z 0 (one r2.2)):=hidI (by rw [hw3];exact oneU HS2.out);have A3:=hidI (qgj blk off cap k z 0 r2.2 d w3 H3.out Hi.out.2.2.2.2.1 Hi.out.2.2.2.2.2 hzb HS3.out (by omega) hsz);rw [←Hr3.out] at A3
   have HW3:Hid (w3=putRow (Value.int .i64) (Sort.ahead W1 (n1+n2)) z 0 (one r2.2)):=hidI (by rw [hw3,HW2.out,one_one]);clear hw3 A2;go_wp2_with fail;refine A3.out.mono ?_;rintro e w4 ⟨rfl,n3,hw4⟩;have H4:Hid (HoldsU w4 blk off d):=hidI (by rw [hw4];exact asideU H3.out hzb);have HS4:Hid (Holds (Value.int .i64) w4 z 0 (one r3.2)):=hidI (by rw [hw4];exact oneU HS3.out);have A4:=hidI (qgg blk off cap r1.1 r2.1 r3.1 z 0 r3.2 d w4 H4.out b1.1 b2.1 b3.1 hzb HS4.out (by omega) hsz);have hfew:=qa4 d r1.1 r2.1 r3.1 r3.2;rw [←Hr4.out] at A4 hfew;have HW4:Hid (w4=putRow (Value.int .i64) (Sort.ahead W1 (n1+n2+n3)) z 0 (one r3.2)):=hidI (by rw [hw4,HW3.out,one_one]);clear hw4 A3;go_wp2_with fail;refine A4.out.mono ?_;rintro e w5 ⟨rfl,n4,hw5⟩;have c1:w5.cell? ⟨z,0,none⟩=some (.int .i64 (r4.2:Nat)):=by rw [hw5];exact (one_cell (oneU HS4.out)).1
   have HW5:Hid (w5=putRow (Value.int .i64) (Sort.ahead W1 (n1+n2+n3+n4)) z 0 (one r4.2)):=hidI (by rw [hw5,HW4.out,one_one]);clear hw5 A4;obtain ⟨t,ht⟩:∃ t,t=r4.2:=⟨_,rfl⟩;rw [←ht] at c1 hfew;have Ht:=hidI ht;clear ht;by_cases ht0:t=0
   ·subst ht0;go_wp2;go_ret2
    refine ⟨by rw [HC.out,←Ht.out];rfl,n1+n2+n3+n4,?_⟩;rw [HW5.out];exact Hg.out _ _
   have ht0b:(((t:Nat):Int)==0)=false:=by simpa using ht0
   by_cases ht2:t=12
   ·subst ht2;go_wp2;go_ret2
    refine ⟨by rw [HC.out,←Ht.out];rfl,n1+n2+n3+n4,?_⟩;rw [HW5.out];exact Hg.out _ _
   have ht1:(((t:Nat):Int)==12)=false:=by simp;omega
   go_wp2;go_ret2
   refine ⟨by rw [HC.out,←Ht.out];unfold hintOf;rw [if_neg ht0,if_neg ht2];rfl,n1+n2+n3+n4,?_⟩;rw [HW5.out];exact Hg.out _ _
  have hl50':¬(50:Int)≤(l:Nat):=by omega
  obtain ⟨i,hi⟩:∃ i,i=a+q:=⟨_,rfl⟩;obtain ⟨j,hj⟩:∃ j,j=a+q*2:=⟨_,rfl⟩;obtain ⟨k,hk⟩:∃ k,k=a+q*3:=⟨_,rfl⟩;have e1:(a:Int)+(q:Int)=(i:Nat):=by omega
  have e2:(a:Int)+(q:Int)*2=(j:Nat):=by omega
  have e3:(a:Int)+(q:Int)*3=(k:Nat):=by omega
  have A:=hidI (qgg blk off cap i j k z 0 0 d W1 H1.out (by omega) (by omega) (by omega) hzb HS1.out (by omega) hsz);obtain ⟨r,hr⟩:∃ r,r=median ltInt d i j k 0:=⟨_,rfl⟩;have hfew:=qa4 d i j k 0;rw [←hr] at A hfew;have HC:Hid (choosePivot ltInt d a b=(r.1,hintOf r.2)):=hidI (by rw [qjk Hl.out Hq.out hl8 hl50,←hi,←hj,←hk,←hr]);clear hr hi hj hk;go_enter Tryz.func320,Tryz.ntmps320
  go_wp2_with (first | (rw [←HW1.out,←Hz.out]) | fail);refine A.out.mono ?_;rintro e w1 ⟨rfl,n1,hw1⟩;have c1:w1.cell? ⟨z,0,none⟩=some (.int .i64 (r.2:Nat)):=by rw [hw1];exact (one_cell (oneU HS1.out)).1
  have HW2:=hidI hw1;clear hw1 A;obtain ⟨t,ht⟩:∃ t,t=r.2:=⟨_,rfl⟩;rw [←ht] at c1 hfew;have Ht:=hidI ht;clear ht;by_cases ht0:t=0
  ·subst ht0;go_wp2;go_ret2
   refine ⟨by rw [HC.out,←Ht.out];rfl,n1,?_⟩;rw [HW2.out];exact Hg.out _ _
  have ht0':((t:Nat):Int)≠0:=by omega
  have ht0b:(((t:Nat):Int)==0)=false:=by simpa using ht0'
  have ht1:(((t:Nat):Int)==12)=false:=by simp;omega
  go_wp2;go_ret2
  refine ⟨by rw [HC.out,←Ht.out];unfold hintOf;rw [if_neg ht0,if_neg (by omega)];rfl,n1,?_⟩;rw [HW2.out];exact Hg.out _ _
 have hl8':¬(8:Int)≤(l:Nat):=by omega
 obtain ⟨j,hj⟩:∃ j,j=a+q*2:=⟨_,rfl⟩;have e2:(a:Int)+(q:Int)*2=(j:Nat):=by omega
 have HC:Hid (choosePivot ltInt d a b=(j,hintOf 0)):=hidI (by rw [qiX Hl.out Hq.out hl8,←hj]);have c1:W1.cell? ⟨z,0,none⟩=some (.int .i64 0):=(one_cell HS1.out).1;clear hj;go_enter Tryz.func320,Tryz.ntmps320
 go_wp2_with (first | (rw [←HW1.out,←Hz.out]) | fail);go_ret2
 exact ⟨by rw [HC.out];rfl,0,Hg0.out⟩
end Go.Proofs.YtodmdkhdbfbfgaaGreatDoor.S1
