/- Lemmas. -/
import Derived.RangeFuncWrites
import Derived.Deep.Draws
import Derived.Shelf.SlGeneric
import Derived.Shelf.Small.Utf8
import Derived.Shelf.Small.Strs
import Derived.Shelf.LaysM
import Derived.Shelf.Strconv.Clone
import Derived.Shelf.Strings.SplitShaped
import Derived.Shelf.Strings.IndexAnyAll
import Derived.Shelf.SlSortCmp.NoneTotal
import Derived.Shelf.SlIter.Sorted
import Derived.Shelf.SlIter.Nil
import Derived.Laws.RangeAny
import Derived.Laws.Runes
import Derived.WalkMore
import Derived.WalkSmall
import Derived.Lib.OthersKept
import Derived.RangeFuncNested
import Derived.RangeFuncBound
import Derived.RangeFuncCalls
import Derived.RangeFuncLeaves
import Derived.Shelf.Abstract
import Derived.OwnWalkIn
import Derived.TacticsInMore
import Derived.LoopNIn
import Derived.LoopIn
import Derived.Shelf.Strings.Count
import Derived.Maps.RangeWalk
import Derived.Laws.MakeOwn
import Derived.Lib.SliceRun
import Derived.Test.YtodmdkhdbfbfgaaGreatDoorM01
set_option linter.unusedVariables false
set_option linter.unusedSimpArgs false
set_option maxRecDepth 100000
set_option maxHeartbeats 8000000
open Go.Proofs.Tryz
abbrev Go.BM:=@Go.World.size_alloc
abbrev Go.B7:=@Go.callsIn_wide
abbrev Go.Bb:=@Array.replicate_zero
abbrev Go.Bc:=@Array.replicate_succ
abbrev Go.Bh:=@List.append_toArray
abbrev Go.Bo:=@List.push_toArray
abbrev Go.CD:=@getElem!_pos
abbrev Go.Cy:=@Go.callsIn_of_wp
abbrev Go.BF:=@Go.World.grownBy_alloc
abbrev Go.BI:=@List.getElem?_map
abbrev Go.CG:=@Go.Maps.has_true_of_atKey
abbrev Go.DH:=@Go.wpList_next_ranges
abbrev Go.DL:=@Go.Maps.sameKey_ne
abbrev Go.DV:=@Go.wpList_range_own
abbrev Go.Dk:=@Nat.mul_one
abbrev Go.Dl:=@List.getElem?_set_ne
abbrev Go.BL:=@Go.wp_region_held_drew
abbrev Go.B8:=@Go.wpAnyH_done
namespace Go.Proofs.YtodmdkhdbfbfgaaGreatDoor
section
open Go.RowKit
structure O9 {β:Type} (bs:Nat) (z0J:β->Z->Prop):Prop where
 set:∀s W v,z0J s W->z0J s (W.setCell (O bs 0) v)
 drew:∀s W q,z0J s W->z0J s (W.drewN q)
def Pv{α:Type}(F:Fence)(n:Nat)(P:Program)(g:Nat)(lb:Array Value)(enc:α->Value)(n₀ bs:Nat)(xs:List α)(w:Z):Prop:=
 ∀(l:Nat) (z0J Jx:List α->Z->Prop) (W:Z),Below n₀ w W->O9 bs z0J->O9 bs Jx ->
  (∀pre x W1,z0J pre W1->pre++[x] <+: xs->YieldAt F (n-1) P l #[enc x] W1 λe W'=>(e=.a (.bool true)/\z0J (pre++[x]) W'/\Below n₀ W1 W')\/(e=.a (.bool false)/\Jx (pre++[x]) W')) ->
  z0J [] W->CallsIn F n P g (#[.func (.yield l) #[] #[]]++lb) W λe W'=>(∃v,e=.a v)/\(z0J xs W'\/∃pre,pre <+: xs/\Jx pre W')
def tz{α:Type}(B:Nat)(z0I Ix:List α->Z->Prop)(xs:List α)(W:Z):Exit->Act->Z->Prop
 | .normal,_,W'=>KeepsFrom B W W'/\Below B W W'/\z0I xs W'
 | .ret,_,W'=>KeepsFrom B W W'/\Ix xs W'
 | .exit _,_,_=>False
 | .goto _,_,_=>False
 | .panic _,_,_=>False
 | .outgrown,_,_=>False
def Fj(w:Z)(r:Loop)(W:Z):Prop:=W.heap[w.heap.size+1]?=some (.loop r)/\W.heap[w.heap.size]?=some (.deferred (some []))
theorem Fj.turn{w W:Z}{r:Loop}(h:Fj w r W)(a:Loop):Fj w a (W.putObj (w.heap.size+1) (.loop a)):=
 ⟨World.putObj_heap_same (BC.1 h.1).1,(World.putObj_heap_other U).i h.2⟩
theorem Fj.kept{w W W':Z}{r:Loop}(h:Fj w r W)(k:KeepsFrom w.heap.size W W'):Fj w r W':=
 ⟨k.same _ _ U h.1 I,k.same _ _ (AB _) h.2 I⟩
theorem Fj.set{w W:Z}{r:Loop}(h:Fj w r W){bs:Nat}(a:bs<w.heap.size)(v:Value):Fj w r (W.setCell (O bs 0) v):=
 ⟨(AH W ⟨bs,0,none⟩ v _ EL).i h.1,(AH W ⟨bs,0,none⟩ v _ EL).i h.2⟩
variable {F:Fence} {n:Nat} {P:Program}
theorem yM{α:Type}{g:Operand}{S:Array Tmp}{assign body:Code}{Q:Exit->Act->Z->Prop}{a:Act}{w:Z} (hro:F.round=none) (h1:1<=n) {gf:Nat} {lb:Array Value} (hg:a.eval g=.func (.func gf) #[] lb) (hFg:F.fn gf) (eg:∀k w,(callFunc gf k).run P w=.ok (.enter gf k) w) {enc:α->Value} {bs:Nat} {T:List α} (N:Pv F (n-1) P gf lb enc w.heap.size bs T w) (H:bs<w.heap.size) (hps:S.size=1) (c A:List α->Z->Prop) (B:OwnFrom w.heap.size c) (C:O9 bs c) (G:OwnFrom w.heap.size A) (m:O9 bs A) (h0:c [] w) (a₁:α->Act) (i:∀(l:Nat) (x:α) (W:Z) (K:Act->Z->Prop),K (a₁ x) W -> assign.wpIn (F.inRound l) (n-1-1) P (Exit.then K (λ_ _ _=>False)) {tmps:=(S.zip #[enc x]).foldl (λt (p,v)=>t.setIfInBounds p v) a.tmps,defers:=[]} W) (o:∀(l:Nat) (b:List α) (x:α) (W:Z),c b W->b++[x] <+: T->w.heap.size<=W.heap.size->body.wpIn (F.inRound l) (n-1-1) P (tz w.heap.size c A (b++[x]) W) (a₁ x) W) (u:∀(D:Nat) (W:Z),w.heap.size<=D->c T W->W.heap[D]?=some (.deferred (some []))->Q .normal {a with defers:={target:=.collected D,args:=#[]} :: a.defers} W) (y:∀(D:Nat) (b:List α) (W:Z),w.heap.size<=D->b <+: T->A b W->W.heap[D]?=some (.deferred (some []))->Code.ret.wpIn F n P Q {a with defers:={target:=.collected D,args:=#[]} :: a.defers} W):(Code.rangeFunc g S assign body).wpIn F n P Q a w:=by
 refine wpIn_rangeFunc λfn a9=>?_;rw[hro];obtain⟨r,f⟩:∃r:LoopState->Option Code->Loop,r=λst pe=>{state:=st,pending:=pe,fn,tmps:=a.tmps,params:=S,assign,body,defers:=w.heap.size}:=⟨_,I⟩;obtain⟨V,R⟩:=E ((w.alloc (.deferred (some []))).alloc (.loop (r .ready none)));have hL:Fj w (r .ready none) V:=by rw[R];refine⟨?_,(AO _ _ _ EJ).i (World.alloc_heap_new w _)⟩;have:=World.alloc_heap_new (w.alloc (.deferred (some []))) (.loop (r .ready none));rwa[BM]at this
 have a8:c [] V:=by rw[R];exact B.alloc _ (B.alloc _ h0)
 have aa:w.b V:=by rw[R];exact(Iy).alloc EJ _
 refine⟨w.heap.size+1,[{target:=.collected w.heap.size,args:=#[]}],V,{target:=.fn (.func gf) lb,args:=#[.func (.yield (w.heap.size+1)) #[] #[]]},V,gf,
  #[.func (.yield (w.heap.size+1)) #[] #[]]++lb,V,?_,?_,?_,?_,λ_=>h1,?_⟩
 .rw[R,f];exact run_enterLoop_outer _ _ _ _ _
 .simp only[resolve,hg];simp[go_sem]
 .intro _ a7;simp[Target.leads]at a7;subst a7;exact hFg
 .simp[invoke,go_sem,eg]
 refine(N (w.heap.size+1) (λb W=>c b W/\Fj w (r .ready none) W) (λb W=>A b W/\Fj w (r .done (some .ret)) W) V aa
  ⟨λs W v h=>⟨C.set s W v h.1,h.2.set H v⟩,λs W q h=>⟨C.drew s W q h.1,h.2⟩⟩ ⟨λs W v h=>⟨m.set s W v h.1,h.2.set H v⟩,λs W q h=>⟨m.drew s W q h.1,h.2⟩⟩ ?_ ⟨a8,hL⟩).l ?_
 .rintro b x W ⟨M,d⟩ a2;have ac:=(BC.1 d.1).1;have hy:=run_yield (P:=P) (args:=#[enc x]) d.1 (by rw[f];simp[hps]);rw[f]at hy;refine⟨fn,_,assign,body,hy,roundIn_of_wpIn a9 (i _ x W _ ⟨_,run_beginRound d.1 (by rw[f]),?_⟩)⟩;clear hy;have a6:Fj w {r .ready none with state:=.busy} (W.putObj (w.heap.size+1) (.loop {r .ready none with state:=.busy})):=d.turn _;have a5:Below w.heap.size W (W.putObj (w.heap.size+1) (.loop {r .ready none with state:=.busy})):=belowK_b (w:=w) (AB _) W _ _ _ U d.1 I I;refine wpIn_mono (o _ b x _ (B.putObj _ M U d.1 I) a2 (AG U a5.size)) ?_;rintro e _ _ z;cases e with
  |normal=>obtain⟨hk,hb,a4⟩:=z;have j:=a6.kept hk;have L:=run_endRound (P:=P) none j.1;rw[f]at L;refine⟨_,_,L,.w ⟨I,⟨B.putObj _ a4 U j.1 I,?_⟩,(a5.i hb).i (belowK_b (w:=w) (AB _) _ _ _ _ U j.1 I I)⟩⟩;have:=j.turn (r .ready none);rw[f]at this |-;exact this
  |ret=>obtain⟨hk,a4⟩:=z;have j:=a6.kept hk;have L:=run_endRound (P:=P) (some .ret) j.1;rw[f]at L;refine⟨_,_,L,.s ⟨I,G.putObj _ a4 U j.1 I,?_⟩⟩;have:=j.turn (r .done (some .ret));rw[f]at this |-;exact this
  |exit id=>exact z.elim
  |goto t=>exact z.elim
  |panic ch=>exact z.elim
  |outgrown=>exact z.elim
 rintro e _ ⟨⟨v,rfl⟩,(⟨M,d⟩|⟨b,a2,M,d⟩)⟩
 .exact⟨none,_,by have:=run_endLoop (P:=P) d.1 (by rw[f];simp);rw[f]at this;exact this,u _ _ (AB _) (B.putObj _ M U d.1 I) ((World.putObj_heap_other U).i d.2)⟩
 exact⟨some .ret,_,by have:=run_endLoop (P:=P) d.1 (by rw[f];simp);rw[f]at this;exact this,y _ b _ (AB _) a2 (G.putObj _ M U d.1 I) ((World.putObj_heap_other U).i d.2)⟩
end
end Go.Proofs.YtodmdkhdbfbfgaaGreatDoor
namespace Go.Proofs
open Go.Shelf
def Nh:Go.Shelf.Ren:=⟨fun | 119=>329 | n=>n,fun | 21=>21 | 4=>4 | n=>n,fun | n=>n⟩
theorem Qy:Go.Proofs.Lays.n119 prog Nh:={
 mixed:=EG
 f119:=func329.i (AX some EG)
 t4:=underlying4
 a4:=isAgg4
 z4:=sizeOf4
 v4:=zeroValue4
 t21:=underlying21
 a21:=isAgg21
 z21:=sizeOf21
 v21:=zeroValue21 }
theorem utf8_ValidRune(r:Int)(w:Z):Calls prog 329 #[.int .i32 r] w λe w'=>e=.a (.bool (Lib.validRune r))/\w'=w:=Any.utf8_ValidRune Qy r w
def N0:Go.Shelf.Ren:=⟨fun | 137=>328 | 217=>299 | 266=>326 | n=>n,fun | 9=>9 | 5=>5 | 3=>3 | n=>n,fun | n=>n⟩
theorem Qj:Go.Proofs.Lays.n137 prog N0:={
 mixed:=EG
 f137:=func328.i (AX some EG)
 f217:=func299.i (AX some EG)
 f266:=func326.i (AX some EG)
 t3:=underlying3
 a3:=isAgg3
 z3:=sizeOf3
 v3:=zeroValue3
 t5:=underlying5
 a5:=isAgg5
 z5:=sizeOf5
 v5:=zeroValue5
 t9:=underlying9
 a9:=isAgg9
 z9:=sizeOf9
 v9:=zeroValue9 }
open Go.RowKit in
theorem strings_IndexByte(s:ByteArray)(c:Int)(w:Z):Calls prog 328 #[.string s,.f c] w λe w'=>e=.a (.a (Lib.indexByte s.data.toList c.toNat.toUInt8))/\w'=w:=Any.strings_IndexByte Qj s c w
def NQ:Go.Shelf.Ren:=⟨fun | 316=>122 | n=>n,fun | 9=>9 | 3=>3 | 4=>4 | 37=>111 | 0=>0 | 127=>242 | 5=>5 | n=>n,fun | n=>n⟩
theorem Px:Go.Proofs.LaysM.n316 prog NQ:={
 mixed:=EG
 f316:=func122.i (AX some EG)
 t0:=underlying0
 a0:=isAgg0
 z0:=sizeOf0
 v0:=zeroValue0
 t3:=underlying3
 a3:=isAgg3
 z3:=sizeOf3
 v3:=zeroValue3
 t4:=underlying4
 a4:=isAgg4
 z4:=sizeOf4
 v4:=zeroValue4
 t9:=underlying9
 a9:=isAgg9
 z9:=sizeOf9
 v9:=zeroValue9
 t37:=underlying111
 a37:=isAgg111
 z37:=sizeOf111
 v37:=zeroValue111
 t127:=underlying242
 a127:=isAgg242
 z127:=sizeOf242
 v127:=zeroValue242
 t5:=underlying5
 a5:=isAgg5
 z5:=sizeOf5
 v5:=zeroValue5
 i0:=EG
 i3:=EG
 i4:=EG
 i5:=EG
 i9:=EG
 i37:=EG
 i127:=by kernel_rfl }
open Go.RowKit in
theorem stringslite_Clone(s:ByteArray)(w:Z)(a:s.size<=281474976710656):Calls prog 122 #[.string s] w λe w'=>e=.a (.string s)/\Below w.heap.size w w':=Any.stringslite_Clone Px s w a
def Js:Go.Shelf.Ren:=⟨fun | 146=>114 | 221=>173 | 268=>232 | 138=>233 | 143=>234 | 195=>269 | 197=>270 | 218=>271 | 219=>272 | 260=>298 | 217=>299 | 225=>300 | 224=>301 | 267=>302 | 266=>326 | 314=>327 | n=>n,fun | 9=>9 | 31=>40 | 3=>3 | 4=>4 | 0=>0 | 105=>306 | 21=>21 | 5=>5 | 46=>110 | 119=>356 | 139=>359 | 138=>358 | 146=>360 | 51=>88 | n=>n,fun | 1=>0 | 3=>1 | 4=>2 | n=>n⟩
theorem NG:Go.Proofs.Lays.n146 prog Js:={
 mixed:=EG
 f138:=func233.i (AX some EG)
 f143:=func234.i (AX some EG)
 f146:=func114.i (AX some EG)
 f195:=func269.i (AX some EG)
 f197:=func270.i (AX some EG)
 f217:=func299.i (AX some EG)
 f218:=func271.i (AX some EG)
 f219:=func272.i (AX some EG)
 f221:=func173.i (AX some EG)
 f224:=func301.i (AX some EG)
 f225:=func300.i (AX some EG)
 f260:=func298.i (AX some EG)
 f266:=func326.i (AX some EG)
 f267:=func302.i (AX some EG)
 f268:=func232.i (AX some EG)
 f314:=func327.i (AX some EG)
 t0:=underlying0
 a0:=isAgg0
 z0:=sizeOf0
 v0:=zeroValue0
 t3:=underlying3
 a3:=isAgg3
 z3:=sizeOf3
 v3:=zeroValue3
 t4:=underlying4
 a4:=isAgg4
 z4:=sizeOf4
 v4:=zeroValue4
 t5:=underlying5
 a5:=isAgg5
 z5:=sizeOf5
 v5:=zeroValue5
 t9:=underlying9
 a9:=isAgg9
 z9:=sizeOf9
 v9:=zeroValue9
 t21:=underlying21
 a21:=isAgg21
 z21:=sizeOf21
 v21:=zeroValue21
 t31:=underlying40
 a31:=isAgg40
 z31:=sizeOf40
 v31:=zeroValue40
 t46:=underlying110
 a46:=isAgg110
 z46:=sizeOf110
 v46:=zeroValue110
 t51:=underlying88
 a51:=isAgg88
 z51:=sizeOf88
 v51:=zeroValue88
 t105:=underlying306
 a105:=isAgg306
 z105:=sizeOf306
 v105:=zeroValue306
 t119:=underlying356
 a119:=isAgg356
 z119:=sizeOf356
 t138:=underlying358
 a138:=isAgg358
 z138:=sizeOf358
 v138:=zeroValue358
 t139:=underlying359
 a139:=isAgg359
 z139:=sizeOf359
 v139:=zeroValue359
 t146:=underlying360
 a146:=isAgg360
 z146:=sizeOf360
 v146:=zeroValue360
 g1:=EG
 g3:=EG
 g4:=by kernel_rfl }
open Go.RowKit Go.Lib in
theorem strings_Split(s a:ByteArray)(m:Int)(w:Z)(d:s.size<4294967281)(c:w.cell? (O 0 0)=some (.a m))(b:1<=a.size):Calls prog 114 #[.string s,.string a] w λe w'=>e=.a (.b w.heap.size (Lib.countB s a+1) (Lib.countB s a+1))/\w'=w.alloc (.cells ((Lib.splitB a 0 (Lib.countB s a) s).map Value.string).toArray 9):=Any.strings_Split NG EG s a m w d c b
def N9:Go.Shelf.Ren:=⟨fun | 152=>303 | 137=>328 | 119=>329 | 224=>301 | 225=>300 | 217=>299 | 266=>326 | n=>n,fun | 9=>9 | 21=>21 | 3=>3 | 4=>4 | 5=>5 | 0=>0 | 46=>110 | n=>n,fun | n=>n⟩
theorem RP:Go.Proofs.Lays.n152 prog N9:={
 mixed:=EG
 f119:=func329.i (AX some EG)
 f137:=func328.i (AX some EG)
 f152:=func303.i (AX some EG)
 f217:=func299.i (AX some EG)
 f224:=func301.i (AX some EG)
 f225:=func300.i (AX some EG)
 f266:=func326.i (AX some EG)
 t0:=underlying0
 a0:=isAgg0
 z0:=sizeOf0
 v0:=zeroValue0
 t3:=underlying3
 a3:=isAgg3
 z3:=sizeOf3
 v3:=zeroValue3
 t4:=underlying4
 a4:=isAgg4
 z4:=sizeOf4
 v4:=zeroValue4
 t5:=underlying5
 a5:=isAgg5
 z5:=sizeOf5
 v5:=zeroValue5
 t9:=underlying9
 a9:=isAgg9
 z9:=sizeOf9
 v9:=zeroValue9
 t21:=underlying21
 a21:=isAgg21
 z21:=sizeOf21
 v21:=zeroValue21
 t46:=underlying110
 a46:=isAgg110
 z46:=sizeOf110
 v46:=zeroValue110 }
open Go.RowKit Go.Lib in
theorem strings_IndexRune_ascii(s:ByteArray)(r:Int)(w:Z)(a:0<=r)(b:r<128):Calls prog 303 #[.string s,.int .i32 r] w λe w'=>e=.a (.a (Lib.indexByte s.data.toList r.toNat.toUInt8))/\w'=w:=Any.strings_IndexRune_ascii RP s r w a b
def Nk:Go.Shelf.Ren:=⟨fun | 226=>304 | n=>n,fun | 3=>3 | 4=>4 | n=>n,fun | n=>n⟩
theorem Qz:Go.Proofs.Lays.n226 prog Nk:={
 mixed:=EG
 f226:=func304.i (AX some EG)
 t3:=underlying3
 a3:=isAgg3
 z3:=sizeOf3
 v3:=zeroValue3
 t4:=underlying4
 a4:=isAgg4
 z4:=sizeOf4
 v4:=zeroValue4 }
open Go.RowKit Go.Lib in
theorem strings_shouldUseASCIISet(n:Int)(w:Z):Calls prog 304 #[.a n] w λe w'=>e=.a (.bool (decide (8<n)))/\w'=w:=Any.strings_shouldUseASCIISet Qz n w
def Na:Go.Shelf.Ren:=⟨fun | 153=>275 | 152=>303 | 226=>304 | 227=>305 | 228=>306 | 137=>328 | 119=>329 | 224=>301 | 225=>300 | 217=>299 | 266=>326 | n=>n,fun | 9=>9 | 3=>3 | 4=>4 | 5=>5 | 21=>21 | 117=>332 | 116=>331 | 0=>0 | 46=>110 | 124=>363 | n=>n,fun | n=>n⟩
theorem Qk:Go.Proofs.Lays.n153 prog Na:={
 mixed:=EG
 f119:=func329.i (AX some EG)
 f137:=func328.i (AX some EG)
 f152:=func303.i (AX some EG)
 f153:=func275.i (AX some EG)
 f217:=func299.i (AX some EG)
 f224:=func301.i (AX some EG)
 f225:=func300.i (AX some EG)
 f226:=func304.i (AX some EG)
 f227:=func305.i (AX some EG)
 f228:=func306.i (AX some EG)
 f266:=func326.i (AX some EG)
 t0:=underlying0
 a0:=isAgg0
 z0:=sizeOf0
 v0:=zeroValue0
 t3:=underlying3
 a3:=isAgg3
 z3:=sizeOf3
 v3:=zeroValue3
 t4:=underlying4
 a4:=isAgg4
 z4:=sizeOf4
 v4:=zeroValue4
 t5:=underlying5
 a5:=isAgg5
 z5:=sizeOf5
 v5:=zeroValue5
 t9:=underlying9
 a9:=isAgg9
 z9:=sizeOf9
 v9:=zeroValue9
 t21:=underlying21
 a21:=isAgg21
 z21:=sizeOf21
 v21:=zeroValue21
 t46:=underlying110
 a46:=isAgg110
 z46:=sizeOf110
 v46:=zeroValue110
 t116:=underlying331
 a116:=isAgg331
 z116:=sizeOf331
 t117:=underlying332
 a117:=isAgg332
 z117:=sizeOf332
 v117:=zeroValue332
 t124:=underlying363
 a124:=isAgg363
 z124:=sizeOf363
 v124:=zeroValue363 }
open Go.RowKit Go.Lib in
theorem strings_IndexAny_long(d:∀w,(zeroValue 331).run prog w=.ok (.agg (Array.replicate 256 (.bool false))) w)(s a:ByteArray)(w:Z)(g:2<=a.size)(h:8<s.size)(i:s.size<4294967281)(f:a.size<4294967281)(c:∀(j:Nat) b,a.data.toList[j]?=some b->b.toNat<128):Calls prog 275 #[.string s,.string a] w λe w'=>e=.a (.a (Lib.indexAny s.data.toList a.data.toList))/\w'=((w.alloc (.cells (Lib.setCells a.data.toList) 331)).alloc (.cells (Lib.setCells a.data.toList) 331)):=Any.strings_IndexAny_long Qk d EG s a w g h i f c
def Lt:Go.Shelf.Ren:=⟨fun | 6=>111 | 15=>118 | 14=>171 | 28=>184 | 29=>185 | 20=>223 | 21=>224 | 22=>225 | 23=>226 | 24=>227 | 25=>228 | 26=>229 | 27=>230 | 46=>266 | 47=>236 | 48=>237 | 49=>267 | 50=>268 | 57=>297 | n=>n,fun | 22=>40 | 24=>9 | 25=>118 | 3=>3 | 39=>110 | 0=>0 | 53=>88 | 55=>240 | 4=>4 | 46=>231 | 45=>230 | 50=>236 | 5=>5 | 9=>9 | 66=>261 | 70=>265 | 76=>308 | 77=>309 | n=>n,fun | n=>n⟩
theorem QI:Go.Proofs.SlLaysF.n6 prog Lt:={
 mixed:=EG
 f6:=⟨f111.name,by decide,func111.i (AX some EG)⟩
 f14:=⟨f171.name,by decide,func171.i (AX some EG)⟩
 f15:=func118.i (AX some EG)
 f20:=⟨f223.name,by decide,func223.i (AX some EG)⟩
 f21:=⟨f224.name,by decide,func224.i (AX some EG)⟩
 f22:=⟨f225.name,by decide,func225.i (AX some EG)⟩
 f23:=⟨f226.name,by decide,func226.i (AX some EG)⟩
 f24:=⟨f227.name,by decide,func227.i (AX some EG)⟩
 f25:=⟨f228.name,by decide,func228.i (AX some EG)⟩
 f26:=⟨f229.name,by decide,func229.i (AX some EG)⟩
 f27:=⟨f230.name,by decide,func230.i (AX some EG)⟩
 f28:=func184.i (AX some EG)
 f29:=func185.i (AX some EG)
 f46:=⟨f266.name,by decide,func266.i (AX some EG)⟩
 f47:=func236.i (AX some EG)
 f48:=func237.i (AX some EG)
 f49:=⟨f267.name,by decide,func267.i (AX some EG)⟩
 f50:=⟨f268.name,by decide,func268.i (AX some EG)⟩
 f57:=⟨f297.name,by decide,func297.i (AX some EG)⟩
 t0:=underlying0
 a0:=isAgg0
 z0:=sizeOf0
 v0:=zeroValue0
 t3:=underlying3
 a3:=isAgg3
 z3:=sizeOf3
 v3:=zeroValue3
 t4:=underlying4
 a4:=isAgg4
 z4:=sizeOf4
 v4:=zeroValue4
 t5:=underlying5
 a5:=isAgg5
 z5:=sizeOf5
 v5:=zeroValue5
 t9:=underlying9
 a9:=isAgg9
 z9:=sizeOf9
 v9:=zeroValue9
 t22:=underlying40
 a22:=isAgg40
 z22:=sizeOf40
 v22:=zeroValue40
 a24:=isAgg9
 z24:=sizeOf9
 t25:=underlying118
 a25:=isAgg118
 z25:=sizeOf118
 v25:=zeroValue118
 t39:=underlying110
 a39:=isAgg110
 z39:=sizeOf110
 v39:=zeroValue110
 t45:=underlying230
 a45:=isAgg230
 z45:=sizeOf230
 v45:=zeroValue230
 t46:=underlying231
 a46:=isAgg231
 z46:=sizeOf231
 v46:=zeroValue231
 t50:=underlying236
 a50:=isAgg236
 z50:=sizeOf236
 v50:=zeroValue236
 t53:=underlying88
 a53:=isAgg88
 z53:=sizeOf88
 v53:=zeroValue88
 t55:=underlying240
 a55:=isAgg240
 z55:=sizeOf240
 v55:=zeroValue240
 t66:=underlying261
 a66:=isAgg261
 z66:=sizeOf261
 v66:=zeroValue261
 t70:=underlying265
 a70:=isAgg265
 z70:=sizeOf265
 v70:=zeroValue265
 t76:=underlying308
 a76:=isAgg308
 z76:=sizeOf308
 v76:=zeroValue308
 t77:=underlying309
 a77:=isAgg309
 z77:=sizeOf309
 v77:=zeroValue309 }
def OE:Go.Shelf.Ren:=⟨fun | 7=>65 | 10=>112 | n=>n,fun | 23=>77 | 26=>9 | 3=>117 | 28=>114 | 0=>0 | 27=>113 | 33=>68 | 4=>4 | n=>n,fun | n=>n⟩
theorem TU:Go.Proofs.SlLaysZ.n7 prog OE:={
 mixed:=EG
 f7:=⟨f65.name,by decide,func65.i (AX some EG)⟩
 f10:=⟨f112.name,by decide,func112.i (AX some EG)⟩
 t0:=underlying0
 a0:=isAgg0
 z0:=sizeOf0
 v0:=zeroValue0
 t4:=underlying4
 a4:=isAgg4
 z4:=sizeOf4
 v4:=zeroValue4
 t23:=underlying77
 a23:=isAgg77
 z23:=sizeOf77
 v23:=zeroValue77
 t26:=underlying9
 a26:=isAgg9
 z26:=sizeOf9
 v26:=zeroValue9
 t27:=underlying113
 a27:=isAgg113
 z27:=sizeOf113
 v27:=zeroValue113
 t28:=underlying114
 a28:=isAgg114
 z28:=sizeOf114
 v28:=zeroValue114
 t33:=underlying68
 a33:=isAgg68
 z33:=sizeOf68
 v33:=zeroValue68 }
def MW:Go.Shelf.Ren:=⟨fun | 8=>110 | 11=>170 | n=>n,fun | 26=>9 | 28=>114 | 24=>40 | 0=>0 | 33=>68 | 4=>4 | n=>n,fun | n=>n⟩
theorem Ou:Go.Proofs.SlLaysZ.n8 prog MW:={
 mixed:=EG
 f8:=⟨f110.name,by decide,func110.i (AX some EG)⟩
 f11:=⟨f170.name,by decide,func170.i (AX some EG)⟩
 t0:=underlying0
 a0:=isAgg0
 z0:=sizeOf0
 v0:=zeroValue0
 t24:=underlying40
 a24:=isAgg40
 z24:=sizeOf40
 v24:=zeroValue40
 t26:=underlying9
 a26:=isAgg9
 z26:=sizeOf9
 v26:=zeroValue9
 t28:=underlying114
 a28:=isAgg114
 z28:=sizeOf114
 v28:=zeroValue114
 i26:=by kernel_rfl }
def OB:Go.Shelf.Ren:=⟨fun | 10=>112 | n=>n,fun | 33=>68 | 23=>77 | 0=>0 | 4=>4 | 26=>9 | 3=>117 | n=>n,fun | n=>n⟩
theorem Te:Go.Proofs.SlLaysZ.n10 prog OB:={
 mixed:=EG
 f10:=⟨f112.name,by decide,func112.i (AX some EG)⟩
 t0:=underlying0
 a0:=isAgg0
 z0:=sizeOf0
 v0:=zeroValue0
 t4:=underlying4
 a4:=isAgg4
 z4:=sizeOf4
 v4:=zeroValue4
 t23:=underlying77
 a23:=isAgg77
 z23:=sizeOf77
 v23:=zeroValue77
 t26:=underlying9
 a26:=isAgg9
 z26:=sizeOf9
 v26:=zeroValue9
 t33:=underlying68
 a33:=isAgg68
 z33:=sizeOf68
 v33:=zeroValue68 }
end Go.Proofs
namespace Go.Proofs.YtodmdkhdbfbfgaaGreatDoor
section
open Go.RowKit Go.Nt
def two:ByteArray:=⟨#[47,0]⟩
theorem fV:two.size=2:=rfl
theorem iL(w:Z)(s:ByteArray)(k:Nat):Below w.heap.size w (w.iter s k):=by exact Iy
theorem t6{r:Int}(h:Lib.validRune r=true):Utf8.valid r=true:=by unfold Lib.validRune at h;unfold Utf8.valid;simp at h |-;omega
theorem uG(r:Int)(w:Z)(t:128<=r)(H:r<=2147483647):Calls prog 303 #[.string two,.int .i32 r] w λe w'=>e=.a (.a (-1))/\Below w.heap.size w w':=by
 by_cases v:r=65533
 .subst v;go_enter func303,ntmps303;go_wp2;go_loopg [5,6] 2 (λg _ _ x=>∃i:Nat,i+g=2/\x=w.iter two i)
  case atStart=>exact⟨0,by omega,I⟩
  obtain⟨i,_,rfl⟩:=hrel;cases gk with
  |zero=>obtain rfl:i=2:=U;have o:=λm=>run_next_end (P:=prog) w two 2 m EB;go_wp2;go_ret;exact⟨I,iL w two 2⟩
  |succ g=>
   have k:i<two.size:=by rw[fV];omega
   have j:(two[i]'k).toNat<128/\(((two[i]'k).toNat:Int)==65533)=false:=by
    have:i=0\/i=1:=U;rcases this with rfl|rfl
    .exact⟨by show(47:UInt8).toNat<128;decide,by show(((47:UInt8).toNat:Int)==65533)=false;decide⟩
    exact⟨by show(0:UInt8).toNat<128;decide,by show(((0:UInt8).toNat:Int)==65533)=false;decide⟩
   have o:=λm=>run_next_ascii (P:=prog) w two i m k j.1;have z:=j.2;clear j;go_wp2;go_roundg g
   case measure=>omega
   case rel=>exact⟨i+1,by omega,I⟩
 by_cases l:Lib.validRune r=true
 .go_enter func303,ntmps303;go_wp2_with (go_at_call 329;refine(utf8_ValidRune _ _).l ?_;rintro e w' ⟨rfl,d⟩;have b:=d.A;subst b;rw[l]);obtain⟨f1,f2,f3⟩:=encode_facts r (t6 l) t;have y:=λw=>run_convert_int_string (P:=prog) w 21 9 .i32 r (by rw[underlying21];rfl) underlying9;generalize Utf8.encode r=a at *;have f4:a.size-1<a.size:=U;have f5:=f3 f4;by_cases u:a.size=2
  .have n:1<a.size:=U;have B:128<=(a[1]'n).toNat:=by have h:=f5;simp only[u]at h;exact h
   have A:((a.size:Int)-1)=1:=U;have p:(two[1]'(by decide)).toNat=0:=I;have C:(((two[1]'(by decide)).toNat:Int) != ((a[1]'n).toNat:Int))=true:=Di.2 (by rw[p];omega);have D:(1:Nat)<two.size:=EB;have F:((1:Int)<(two.size:Int)):=EB;have G:decide ((1:Int)<(two.size:Int))=true:=EB;clear f5 f4 f3 f1 f2;go_wp2;go_step3;go_wp2;go_loopw [9,10] (λi f wr=>i=.a 1/\wr=w) (λi _ _=>0)
   case atStart=>exact⟨I,I⟩
   obtain⟨rfl,rfl⟩:=hrel;go_wp2;go_step3;go_wp2;go_quiet (fail);go_wp2;have L:two.extract 2 2=X []:=by rw[Lib.extract_eq];rfl
   have q:Hid (∀c w,Calls prog 328 #[.string (two.extract 2 two.size),.f c] w λe w'=>e=.a (.a (-1))/\w'=w):=λc w=>by
    have:=strings_IndexByte (two.extract 2 two.size) c w;have e2:(two.extract 2 two.size).data.toList=[]:=by rw[Lib.extract_eq];rfl
    rw[e2]at this;exact this
   go_region_with (go_at_call 328;refine(q.o _ _).l ?_;rintro e w' ⟨rfl,d⟩;have b:=d.A;subst b);all_goals
    go_wp2;simp(config:={zetaDelta:=true}) only[Exit.inBlock,Exit.then,Exit.noGoto_ret];go_ret;exact⟨I,below_drewN (AP _ _) _⟩
  have K:decide (((a.size:Int)-1)<(two.size:Int))=false:=by rw[fV];simp;omega
  go_wp2;go_step3;go_wp2;go_loopw [9,10] (λi f wr=>i=.a ((a.size:Int)-1)/\wr=w) (λi _ _=>0)
  case atStart=>exact⟨I,I⟩
  obtain⟨rfl,rfl⟩:=hrel;go_wp2;rw[Exit.noGoto_ret];go_ret;exact⟨I,AP _ _⟩
 have s:Lib.validRune r=false:=EU l;go_enter func303,ntmps303;go_wp2_with (go_at_call 329;refine(utf8_ValidRune _ _).l ?_;rintro e w' ⟨rfl,d⟩;have b:=d.A;subst b;rw[s]);go_ret;exact⟨I,AP _ _⟩
theorem ic(s:ByteArray)(k:Nat)(h:k<s.size):s.get! k=s[k]'h:=by simp[ByteArray.get!,CD,h];rfl
theorem sJ(s:ByteArray)(i:Nat)(h:i<s.size)(d:128<=(s[i]'h).toNat):i+(Utf8.decode s i).2<=s.size/\∀j (b:j<s.size),i<=j->j<i+(Utf8.decode s i).2->128<=(s[j]'b).toNat:=by
 have key:∀k,i+k<s.size->(s.get! (i+k)).toNat/64=2->∀b:i+k<s.size,128<=(s[i+k]'b).toNat:=by intro k n l b;rw[ic s (i+k) b]at l;omega
 have c:i+1<=s.size/\∀j (b:j<s.size),i<=j->j<i+1->128<=(s[j]'b).toNat:=by refine⟨by omega,λj b e f=>?_⟩;obtain rfl:j=i:=U;exact d
 have g:(s.get! (i+0)).toNat=(s[i]'h).toNat:=by rw[Bq,ic s i h]
 have m:¬(s.get! (i+0)).toNat<128:=by rw[g];omega
 simp only[Utf8.decode];rw[AC m];split
 .rename_i a;simp only[AV,BJ,Cu]at a;split
  .refine⟨by omega,λj b e f=>?_⟩;have:j=i\/j=i+1:=U;rcases this with rfl|rfl
   .exact d
   exact key 1 a.2.1 a.2.2 b
  exact c
 split
 .rename_i a;simp only[AV,BJ,Cu]at a;split
  .refine⟨by omega,λj b e f=>?_⟩;have:j=i\/j=i+1\/j=i+2:=U;rcases this with rfl|rfl|rfl
   .exact d
   .exact key 1 a.1.2.1 a.1.2.2 b
   exact key 2 a.2.1 a.2.2 b
  exact c
 split
 .rename_i a;simp only[AV,BJ,Cu]at a;split
  .refine⟨by omega,λj b e f=>?_⟩;have:j=i\/j=i+1\/j=i+2\/j=i+3:=U;rcases this with rfl|rfl|rfl|rfl
   .exact d
   .exact key 1 a.1.1.2.1 a.1.1.2.2 b
   .exact key 2 a.1.2.1 a.1.2.2 b
   exact key 3 a.2.1 a.2.2 b
  exact c
 exact c
def J9(n:Bs):Bool:=n.any λc=>c==47||c==0
theorem wS{n:Bs}(h:∀j,j<n.length->n.getD j 0≠47/\n.getD j 1≠0):J9 n=false:=by unfold J9;rw[Dd];intro c b;obtain⟨j,a,rfl⟩:=BY b;have:=h j a;simp[List.getD,a]at this;simp[this]
theorem fU{n:Bs}{j:Nat}(a:j<n.length)(h:n.getD j 0=47\/n.getD j 1=0):J9 n=true:=by unfold J9;rw[Ap];refine⟨n[j],Bn a,?_⟩;simp[List.getD,a]at h;simpa using h
theorem ye(x:UInt8):Lib.indexByte two.data.toList x=if x=47 then 0 else if x=0 then 1 else -1:=by
 have:two.data.toList=[47,0]:=I;rw[this];by_cases a:x=47
 .subst a;rfl
 by_cases b:x=0
 .subst b;rfl
 have c:(47:UInt8)≠x:=λe=>a e.A;have d:(0:UInt8)≠x:=λe=>b e.A;simp[Lib.indexByte,a,b,c,d]
end
section
open Go.RowKit Go.Nt Go.Lib
theorem qH(n:Bs)(w:Z)(K:n.length<=8):Calls prog 275 #[.string (X n),.string two] w λe w'=>Below w.heap.size w w'/\∃x,e=.a (.a x)/\decide (0<=x)=J9 n:=by
 obtain⟨S,A⟩:=E (X n);have l:S.size=n.length:=by rw[A,EF]
 have u:Hid (∀k (h:k<S.size) (d:UInt8),S[k]'h=n.getD k d):=λk h d=>by
  subst A;have F:k<n.length:=by rw[EF]at h;exact h
  rw[O0];simp[List.getD,F]
 rw[<-A];have G:=J l;have L:S.size<=8:=U;clear A l K;have K:two.toList.isEmpty=false:=by rw[Lib.toList_data];rfl
 have N:((two.size:Int)==1)=false:=EB;have m:decide ((8:Int)<(S.size:Int))=false:=BZ U;go_enter func275,ntmps275;go_wp2_with (go_at_call 304;refine(strings_shouldUseASCIISet _ _).l ?_;rintro e w' ⟨rfl,f⟩;rw[f,m]);go_loopg [9,10] S.size (λg _ _ l=>∃i:Nat,i+g=S.size/\l.heap[w.heap.size]?=some (.stringIter S i)/\Hid (w.b l)/\Hid (∀j,j<i->n.getD j 0≠47/\n.getD j 1≠0))
 case atStart=>exact⟨0,by omega,AR _ _,J (iL w S 0),J (λj h=>absurd h U)⟩
 case round=>
  obtain⟨i,A,hit,B,D⟩:=hrel;cases gk with
  |zero=>have a:i=S.size:=U;have y:=λt=>run_next_end_at (P:=prog) wr w.heap.size S i t hit U;have o:Hid (J9 n=false):=wS λj M=>D.o j (Dz G.o);clear a A;go_wp2;go_ret;exact⟨B.o,_,I,by rw[o.o];rfl⟩
  |succ g=>
   have a:i<S.size:=U;have F:=u.o i a 0;have K:=u.o i a 1;obtain⟨x,m⟩:∃x:UInt8,S[i]'a=x:=⟨_,I⟩;rw[m]at F K;have T:=J F;have V:=J K;clear F K;by_cases R:x.toNat<128
   .have y:=λt=>run_next_ascii_at (P:=prog) wr w.heap.size S i t hit a (by rw[m];exact R);rw[m]at y;have p:Hid (w.b (wr.iterAt w.heap.size S (i+1))):=below_iterAt B.o (AB _) S (i+1);have v:Hid ((wr.iterAt w.heap.size S (i+1)).heap[w.heap.size]?=some (.stringIter S (i+1))):=iterAt_heap wr w.heap.size S i (i+1) hit;have Q:((x.toNat:Int)).toNat.toUInt8=x:=EJ;have b:Hid (∀W,Calls prog 303 #[.string two,.int .i32 (x.toNat:Int)] W λe w'=>e=.a (.a (if x=47 then 0 else if x=0 then 1 else -1))/\w'=W):=λW=>by have:=strings_IndexRune_ascii two (x.toNat:Int) W U U;rw[Q,ye]at this;exact this
    clear Q m;generalize wr.iterAt w.heap.size S (i+1)=W at *;by_cases c:x=47
    .rw[AD c]at b;have o:Hid (J9 n=true):=fU (j:=i) (Dz G.o) (.w (by rw[<-T.o];exact c));clear c;go_wp2_with (go_at_call 303;refine(b.o _).l ?_;rintro e w' ⟨rfl,f⟩;have s:=f.A;subst s);go_ret;exact⟨p.o,_,I,by rw[o.o];simp⟩
    rw[AC c]at b;by_cases l:x=0
    .rw[AD l]at b;have o:Hid (J9 n=true):=fU (j:=i) (Dz G.o) (.s (by rw[<-V.o];exact l));clear c l;go_wp2_with (go_at_call 303;refine(b.o _).l ?_;rintro e w' ⟨rfl,f⟩;have s:=f.A;subst s);go_ret;exact⟨p.o,_,I,by rw[o.o];simp⟩
    rw[AC l]at b;have C:Hid (∀j,j<i+1->n.getD j 0≠47/\n.getD j 1≠0):=λj M=>by
     by_cases e:j=i
     .subst e;rw[<-T.o,<-V.o];exact⟨c,l⟩
     exact D.o j U
    clear c l;go_wp2_with (go_at_call 303;refine(b.o _).l ?_;rintro e w' ⟨rfl,f⟩;have s:=f.A;subst s);go_roundg g
    case measure=>omega
    case rel=>exact⟨i+1,by omega,v.o,p,C⟩
   have L:128<=(S[i]'a).toNat:=by rw[m];omega
   obtain⟨d1,d2⟩:=sJ S i a L;obtain⟨d3,d4⟩:=decode_high S i a L;have d5:=decode_le S i;have y:=λt=>run_next_any_at (P:=prog) wr w.heap.size S i t hit a;obtain⟨r,P⟩:=E ((Utf8.decode S i).1);obtain⟨q,N⟩:=E ((Utf8.decode S i).2);rw[<-P,<-N]at y;rw[<-N]at d1 d2 d4;rw[<-P]at d3 d5;have p:Hid (w.b (wr.iterAt w.heap.size S (i+q))):=below_iterAt B.o (AB _) S (i+q);have v:Hid ((wr.iterAt w.heap.size S (i+q)).heap[w.heap.size]?=some (.stringIter S (i+q))):=iterAt_heap wr w.heap.size S i (i+q) hit;have b:Hid (∀W,Calls prog 303 #[.string two,.int .i32 (r:Int)] W λe w'=>e=.a (.a (-1))/\W.b w'):=λW=>uG (r:Int) W U U;have C:Hid (∀j,j<i+q->n.getD j 0≠47/\n.getD j 1≠0):=λj M=>by
    by_cases e:j<i
    .exact D.o j e
    have H:j<S.size:=U;have z:=d2 j H U M;rw[<-u.o j H 0,<-u.o j H 1];exact⟨λe=>by rw[e]at z;simp at z,λe=>by rw[e]at z;simp at z⟩
   have A:w.heap.size<(wr.iterAt w.heap.size S (i+q)).heap.size:=(BC.1 v.o).1;clear P N d2 m L R;generalize wr.iterAt w.heap.size S (i+q)=W at *;go_wp2_with (go_at_call 303;refine(b.o _).l ?_;rintro e _ ⟨rfl,c⟩);go_roundg (S.size-(i+q))
   case measure=>omega
   case rel=>exact⟨i+q,by omega,(c.u _ A).i v.o,J (p.o.i (c.b)),C⟩
theorem ir:∀n:Bs,decide (0<=Lib.indexAny n [47,0])=J9 n
 | []=>rfl
 | c::l=>by
   have f:=ir l;have e:=Lib.indexAny_ge [47,0] l;unfold Lib.indexAny;have e2:J9 (c::l)=((c==47||c==0)||J9 l):=by simp[J9]
   rw[e2];by_cases a:([47,0]:Du).contains c=true
   .rw[AD a]
    have:(c==47||c==0)=true:=EU a
    rw[this];simp
   rw[AC a]
   have:(c==47||c==0)=false:=EU a
   rw[this,Bool.false_or,<-f];by_cases b:Lib.indexAny l [47,0] = -1
   .rw[b];rfl
   have:(Lib.indexAny l [47,0] == -1)=false:=BN.2 b
   rw[this];simp only[BH,CR];have d:0<=Lib.indexAny l [47,0]:=U
   simp[d];omega
theorem TQ:∀w,(zeroValue 331).run prog w=.ok (.agg (Array.replicate 256 (.bool false))) w:=λw=>zeroValue331 w
theorem mY(n:Bs)(w:Z)(c:n.length<=1048576):Calls prog 275 #[.string (X n),.string two] w λe w'=>Below w.heap.size w w'/\∃x,e=.a (.a x)/\decide (0<=x)=J9 n:=by
 by_cases h:n.length<=8
 .exact qH n w h
 refine(strings_IndexAny_long TQ (X n) two w EB (by rw[EF];omega) (by rw[EF];omega) EB (λj b a=>?_)).l ?_
 .have e:two.data.toList=[47,0]:=I;rw[e]at a;match j,a with
  |0,a=>simp at a;subst a;decide
  |1,a=>simp at a;subst a;decide
  |j+2,a=>simp at a
 rintro e w' ⟨rfl,rfl⟩;refine⟨(Iy).alloc EJ _,_,I,?_⟩;exact ir n
theorem vy(n:Bs)(w:Z)(c:n.length<=1048576):Calls prog 241 #[.string (X n),.string two] w λe w'=>Below w.heap.size w w'/\e=.a (.bool (J9 n)):=by have a:=J (λW=>mY n W c);generalize X n=S at *;go_enter func241,ntmps241;go_wp2_with (go_at_call 275;refine(a.o _).l ?_;rintro e w' ⟨b,_,rfl,d⟩);go_ret;exact⟨b,by rw[<-d];rfl⟩
theorem uL{n:Bs}(h:(47:UInt8)∉n):J9 n=n.contains 0:=by
 induction n with
 |nil=>rfl
 |cons c l g=>
  have e2:J9 (c::l)=((c==47||c==0)||J9 l):=by simp[J9]
  have b:(c==47)=false:=by rw[BN];intro e;subst e;exact h EJ
  rw[e2,g (λf=>h (by simp[f])),b,List.contains_cons];by_cases a:c=0
  .subst a;simp
  have:((0:UInt8)==c)=false:=BN.2 (λe=>a e.A);have d:(c==0)=false:=BN.2 a;rw[this,d];simp
theorem tI{n:Bs}(a:ByteArray)(h:a=X n)(f:(47:UInt8)∉n):(FZ n=false/\(a.toList.isEmpty=true\/(a.toList.isEmpty=false/\(a.toList==[46])=true)\/(a.toList.isEmpty=false/\(a.toList==[46])=false/\(a.toList==[46,46])=true)\/(a.toList.isEmpty=false/\(a.toList==[46])=false/\(a.toList==[46,46])=false/\20<a.size))) \/ (a.toList.isEmpty=false/\(a.toList==[46])=false/\(a.toList==[46,46])=false/\a.size<=20/\FZ n = !J9 n):=by
 subst h;rw[Mn,EF,uL f];unfold FZ;by_cases d:n=[]
 .subst d;exact .w ⟨by simp,.w EJ⟩
 have g:n.isEmpty=false:=EU d;by_cases b:n=[46]
 .subst b;exact .w ⟨by simp,.s (.w EJ)⟩
 by_cases c:n=[46,46]
 .subst c;exact .w ⟨by simp,.s (.s (.w EJ))⟩
 by_cases e:n.length<=20
 .exact .s ⟨g,by simpa using b,by simpa using c,e,by simp[d,b,c,e]⟩
 exact .w ⟨by simp[e],.s (.s (.s ⟨g,by simpa using b,by simpa using c,by omega⟩))⟩
theorem uY(n:Bs)(w:Z)(f:(47:UInt8)∉n)(j:n.length<=1048576):Calls prog 188 #[.string (X n)] w λe w'=>Below w.heap.size w w'/\e=.a (.bool (FZ n)):=by
 have c:=J (λW=>vy n W j);obtain⟨g,d⟩:=E (X n);rw[<-d]at c |-;rcases tI g d f with⟨a,i⟩|⟨c1,c2,c3,c4,b⟩
 .rw[a];clear c d a;rcases i with c1|⟨c1,c2⟩|⟨c1,c2,c3⟩|⟨c1,c2,c3,c4⟩;all_goals
   go_enter func188,ntmps188;go_wp2;go_ret;exact⟨AP _ _,I⟩
 rw[b];clear d b;unfold two at c;go_enter func188,ntmps188;go_wp2_with (go_at_call 241;refine(c.o _).l ?_;rintro e w' ⟨h,rfl⟩);go_ret;exact⟨h,I⟩
end
section
open Go.RowKit Go.Nt
theorem Ww{p:Bs}(h:(47:UInt8)∉p):split p=[p]:=by
 induction p with
 |nil=>rfl
 |cons c l d=>have a:c≠47:=λe=>h (by simp[e]);rw[NT a (d λb=>h (by simp[b]))]
theorem Zv{c r:Bs}(h:(47:UInt8)∉c):split (c++47::r)=c::split r:=by
 induction c with
 |nil=>rw[BB,NU]
 |cons x l d=>have b:x≠47:=λe=>h (by simp[e]);rw[Az,NT b (d λa=>h (by simp[a]))]
theorem Pt(p:Bs):((47:UInt8)∉p/\Lib.index p [47] = -1)\/∃c r,p=c++47::r/\(47:UInt8)∉c/\Lib.index p [47]=(c.length:Int):=by
 rw[Lib.index_one];induction p with
 |nil=>exact .w ⟨by simp,I⟩
 |cons x l g=>
  by_cases b:x=47
  .subst b;exact .s ⟨[],l,I,by simp,by simp[Lib.indexByte]⟩
  have f:(47:UInt8)≠x:=λe=>b e.A;rcases g with⟨d,a⟩|⟨c,r,rfl,d,a⟩
  .exact .w ⟨by simp[d,f],by simp[Lib.indexByte,b,a]⟩
  refine .s ⟨x::c,r,I,by simp[d,f],?_⟩;have h:Lib.indexByte (c++47::r) 47 ≠ -1:=by rw[a];omega
  simp[Lib.indexByte,b,a]
theorem pieces:∀(k:Nat) (p:Bs),((split p).length<=k+1->Lib.splitK [47] 0 k p=split p)/\(k+1<(split p).length->(Lib.splitK [47] 0 k p).length=k+1)
 | 0,p=>by
   refine⟨λh=>?_,λ_=>rfl⟩;rcases Pt p with⟨d,_⟩|⟨c,r,rfl,d,_⟩
   .rw[Ww d];rfl
   rw[Zv d]at h
   have:=Wi r
   cases i:split r with
   |nil=>exact absurd i this
   |cons a b=>rw[i]at h;simp at h
 | k+1,p=>by
   unfold Lib.splitK;rcases Pt p with⟨d,e⟩|⟨c,r,rfl,d,e⟩
   .rw[e,Ww d];simp
   rw[e,Zv d];have e1:((c.length:Int) == -1)=false:=BN.2 U;rw[e1];obtain⟨f,g⟩:=pieces k r;simp only[BH,CR,Int.toNat_natCast,Bq,Ae,Bf];have e2:(c++47::r).take c.length=c:=EJ
   have e3:(c++47::r).drop (c.length+(0+1))=r:=by
    rw[show c.length+(0+1)=c.length+1 by omega,<-List.drop_drop];simp
   rw[e2,e3];exact⟨λh=>by rw[f U],λh=>by rw[g U]⟩
theorem f9(p:Bs):(split p).length<=p.length+1:=by
 induction p with
 |nil=>simp[split]
 |cons c l b=>
  by_cases a:c=47
  .subst a;rw[NU];simp;omega
  obtain⟨_,_,e⟩:=Oc l;rw[NT a e];rw[e]at b;simp at b |-;omega
theorem xF(p:Bs):∀n∈split p,(47:UInt8)∉n:=by
 induction p with
 |nil=>intro n a;simp[split]at a;subst a;simp
 |cons c l b=>
  intro n a;by_cases d:c=47
  .subst d;rw[NU]at a;rcases Ax.1 a with rfl|h
   .simp
   exact b n h
  obtain⟨m,_,e⟩:=Oc l;rw[NT d e]at a;rw[e]at b;have f:(47:UInt8)≠c:=λh=>d h.A;rcases Ax.1 a with rfl|h
  .have:=b m EJ;simp[f,this]
  exact b n (by simp[h])
theorem pI(p:Bs):∀n∈split p,n.length<=p.length:=by
 induction p with
 |nil=>intro n a;simp[split]at a;subst a;simp
 |cons c l b=>
  intro n a;by_cases d:c=47
  .subst d;rw[NU]at a;rcases Ax.1 a with rfl|h
   .simp
   have:=b n h;simp;omega
  obtain⟨m,_,e⟩:=Oc l;rw[NT d e]at a;rw[e]at b;rcases Ax.1 a with rfl|h
  .have:=b m EJ;simp;omega
  have:=b n (by simp[h]);simp;omega
end
section
open Go.RowKit Go.Nt Go.Shelf
attribute [local go_sem] Oper.semAt_some
theorem SL(p:Bs):((47:UInt8)∉p/\Lib.indexByte p 47 = -1)\/∃c r,p=c++47::r/\(47:UInt8)∉c/\Lib.indexByte p 47=(c.length:Int):=by have:=Pt p;rw[Lib.index_one]at this;exact this
theorem ju(s:ByteArray)(w:Z):Calls prog 234 #[.string s,.string ⟨#[47]⟩] w λe w'=>e=.a (.a (Lib.indexByte s.data.toList 47))/\w'=w:=
 Any.strings_Index_one ({NG with}:Lays.n143 prog Js) s 47 w
theorem Wv(s:ByteArray)(w:Z):Calls prog 233 #[.string s,.string ⟨#[47]⟩] w λe w'=>e=.a (.a (Lib.countByte s.data.toList 47))/\w'=w:=
 Any.strings_Count_one ({NG with}:Lays.n138 prog Js) s 47 w
theorem yT(p:Bs):(split p).length=p.count 47+1:=by
 induction p with
 |nil=>rfl
 |cons c b a=>
  obtain⟨_,_,e⟩:=Oc b;by_cases h:c=47
  .subst h;rw[NU];simp[a]
  rw[NT h e];rw[e]at a;simp at a;simp[h,a]
def QP(b:Nat)(w:Z):Nat:=match w.cell? (O b 0)with | some (.string s)=>s.size | _=>0
theorem pC(n b R:Nat)(p:Bs)(w:Z)(d:p.length<=1048576)(c:b+2<R)(c:R<=w.heap.size) (y:w.heap[b]?=some (.cells #[.string (X p)] 9 (0,0))) (P:w.heap[b+1]?=some (.cells #[.string ⟨#[47]⟩] 9 (0,0))) (c:w.heap[b+2]?=some (.cells #[.a 0] 3 (0,0))):Pv Fence.wide n prog 274 #[.c (b+1),.c b,.c (b+2)] (λx:Bs=>.string (X x)) R b (split p) w:=by
 intro l T _ _ M R _ H j;refine Cy func274 I trivial ?_ I;simp only[ntmps274,BV,Ae,Bf,Nat.reduceAdd,Nat.reduceSub,Bc,Bb,Bo,Bh,BB,Az];have e0:=(M.d b).i y;have e1:=(M.d (b+1)).i P;have e2:=(M.d (b+2)).i c;have c1:=EV 0 e1;gi_wp2;gi_loopw [] (λwr=>∃(g:List Bs) (rest:Bs),Hid (split p=g++split rest)/\rest.length<=1048576/\Hid (wr.h b #[.string (X rest)] 9)/\Hid (wr.h (b+1) #[.string ⟨#[47]⟩] 9)/\Hid (wr.h (b+2) #[.a 0] 3)/\Hid (T g wr)) (λwr=>QP b wr)
 case atStart=>exact⟨[],p,J I,d,J e0,J e1,J e2,J j⟩
 case round=>
  obtain⟨g,rest,j,P,A,V,W,o⟩:=hrel;have c0:=EV 0 A;have c1:=EV 0 V;have c2:=EV 0 W;rcases SL rest with⟨d,f⟩|⟨a,r,i,d,f⟩
  .have m:Hid (Calls prog 234 #[.string (X rest),.string ⟨#[47]⟩] wr λe s=>e=.a (.a (-1))/\s=wr):=J (by have:=ju (X rest) wr;rw[lY,f]at this;exact this);obtain⟨C,q,N,c,z,y⟩:=H g rest wr o (by rw[j.o,Ww d];exact List.prefix_refl _);have B:=J y;have G:=J (Ww d);gi_wp2;refine⟨trivial,λh=>(by cases h),(B7.2 m).mono ?_⟩;rintro e s ⟨rfl,Q⟩;have K:=Q.A;subst K;gi_wp2;refine⟨λh=>(by cases h),B.o.mono ?_⟩;rintro e t (⟨rfl,u,v⟩|⟨rfl,D⟩)
   .gi_wp2;go_end0;refine⟨⟨_,I⟩,.w ?_⟩;rw[j.o,G.o];exact u
   gi_wp2;go_end0;exact⟨⟨_,I⟩,.s ⟨_,by rw[j.o,G.o];exact List.prefix_refl _,D⟩⟩
  subst i;have m:Hid (Calls prog 234 #[.string (X (a++47::r)),.string ⟨#[47]⟩] wr λe s=>e=.a (.a a.length)/\s=wr):=J (by have:=ju (X (a++47::r)) wr;rw[lY,f]at this;exact this);have G:=Zv (r:=r) d;have F:g++[a] <+: split p:=by rw[j.o,G];exact⟨split r,by simp⟩
  obtain⟨C,q,N,c,z,y⟩:=H g a wr o F;have B:=J y;have q:Hid (split p=(g++[a])++split r):=J (by rw[j.o,G];simp);change Hid _ at F;obtain⟨c,o⟩:=E (X (a++47::r));have C:c.size=a.length+1+r.length:=by rw[o,EF];simp;omega
  have H:c.extract 0 a.length=X a:=by rw[o,Ka];simp
  have L:c.extract (a.length+1) c.size=X r:=by rw[C,o,Ka];congr 1;rw[<-List.drop_drop];simp
  rw[<-o]at m c0 A;obtain⟨k,N⟩:=E a.length;have i:=J N;rw[<-N]at m H L C;rw[<-H]at z;change Hid _ at L;have i:r.length<=1048576:=by simp at P;omega
  have z:c.size<=1048576:=by simp at P;omega
  have z:k+1<=c.size:=U;clear f y d G o H N j P;gi_wp2;refine⟨trivial,λh=>(by cases h),(B7.2 m).mono ?_⟩;rintro e s ⟨rfl,Q⟩;have K:=Q.A;subst K;gi_wp2;refine⟨λh=>(by cases h),B.o.mono ?_⟩;rintro e t (⟨rfl,u,v⟩|⟨rfl,D⟩)
  .have z:=(v.d b).i A;have S:=(v.d (b+1)).i V;have f:=J ((v.d (b+2)).i W);have d:=EV 0 z;have d:=EV 0 S;have d:=Fg 0 z;change Hid _ at z S u;gi_wp2;have d:c.extract (k+1) (k+1+r.length)=X r:=by have:=L;rw[C]at this;exact this
   rw[d];have d:=AJ t b 0 #[.string c] 9 (.string (X r)) z;refine⟨⟨g++[a],r,q,i,J d,J ((AH t ⟨b,0,none⟩ _ (b+1) EJ).i S),J ((AH t ⟨b,0,none⟩ _ (b+2) EJ).i f),J (R.set _ _ _ u)⟩,?_⟩;unfold QP;rw[c0,AU _ b 0 _ 9 (0,0) d];show(X r).size<c.size;rw[EF];omega
  gi_wp2;refine BE (CW I _ _ _) I ?_;exact⟨⟨_,I⟩,.s ⟨_,F,D⟩⟩
end
section
open Go.RowKit Go.Nt Go.Shelf
attribute [local go_sem] Oper.semAt_some
def ML(w:Z):Prop:=∃m:Int,w.cell? (O 0 0)=some (.a m)
theorem ML.lt{w:Z}(h:ML w):0<w.heap.size:=by obtain⟨_,a⟩:=h;exact Am w _ a
theorem ML.f{w w':Z}{B:Nat}(h:ML w)(b:Below B w w')(a:0<B):ML w':=by obtain⟨m,c⟩:=h;exact⟨m,(b.cell (p:=⟨0,0,none⟩) a).i c⟩
theorem fL(p:Bs)(w:Z)(g:p.length<=1048576):Calls prog 186 #[.string (X p)] w λe w'=>e=.a (.a ((split p).length:Nat))/\w'=w:=by have a:=J (Wv (X p) w);have c:Lib.countByte (X p).data.toList 47=p.count 47:=I;rw[c]at a;have f:p.count 47<=p.length:=List.count_le_length;have b:=J (yT p);obtain⟨_,d⟩:=E (p.count 47);rw[<-d]at a b f;go_enter func186,ntmps186;go_wp2_with (go_at_call 233;refine Jj a.o ?_);go_ret;rw[b.o];exact⟨by go_num,I⟩
theorem xX(s:ByteArray)(w:Z):Calls prog 240 #[.string s,.string ⟨#[47]⟩,.a 0] w λe w'=>e=.a (.func (.func 274) #[] #[.c (w.heap.size+1),.c w.heap.size,.c (w.heap.size+2)])/\w'=((w.alloc (.cells #[.string s] 9)).alloc (.cells #[.string ⟨#[47]⟩] 9)).alloc (.cells #[.a 0] 3):=by go_enter func240,ntmps240;go_wp2;go_ret;exact⟨I,I⟩
theorem tU(s:ByteArray)(w:Z):Calls prog 187 #[.string s,.string ⟨#[47]⟩] w λe w'=>e=.a (.func (.func 274) #[] #[.c (w.heap.size+1),.c w.heap.size,.c (w.heap.size+2)])/\w'=((w.alloc (.cells #[.string s] 9)).alloc (.cells #[.string ⟨#[47]⟩] 9)).alloc (.cells #[.a 0] 3):=by go_enter func187,ntmps187;go_wp2_with (go_at_call 240;refine(xX _ _).l ?_;rintro e w' ⟨rfl,a⟩;have b:=a.A;subst b;clear a);go_ret;exact⟨I,I⟩
theorem jL{p:Bs}(a:(split p).length<=6):EO p=(split p).all FZ:=by unfold EO;simp[a]
theorem WX(p:Bs)(w:Z)(a:ML w)(a:p.length<=1048576) :
 Calls prog 121 #[.string (X p)] w λe w'=>Below w.heap.size w w'/\e=.a (.bool (EO p)):=by
 refine(B7 (n:=5)).1 ?_;refine callsIn_of_wp_marks func121 I trivial ?_ I;simp only[ntmps121,BV,Ae,Bf,Nat.reduceAdd,Nat.reduceSub,Bc,Bb,Bo,Bh,BB,Az];gi_wp2;refine⟨trivial,(B7.2 ((J (λW=>fL p W a)) _)).l ?_⟩;rintro e w' ⟨rfl,H⟩;have P:=H.A;subst P;obtain⟨L,S⟩:=E ((split p).length);have K:=J S;rw[<-S];clear S;by_cases b:L<=6
 .gi_wp2;refine⟨trivial,(B7.2 (tU _ _)).l ?_⟩;rintro e w' ⟨rfl,H⟩;have P:=H.A;subst P;clear H;gi_wp2;obtain⟨d,f⟩:=E ((((w.alloc (.cells #[.bool false] 4)).alloc (.cells #[.string (X p)] 9)).alloc (.cells #[.string ⟨#[47]⟩] 9)).alloc (.cells #[.a 0] 3));have b:d.heap.size=w.heap.size+4:=by rw[f];simp
  have c:d.heap[w.heap.size]? = some (.cells #[.bool false] 4 (0,0)):=by
   rw[f];exact(((AO _ _ _ EL).i (AO _ _ _ EL)).i (AO _ _ _ EJ)).i (World.alloc_heap_new w _)
  have g:d.heap[w.heap.size+1]? = some (.cells #[.string (X p)] 9 (0,0)):=by
   rw[f];refine((AO _ _ _ EJ).i (AO _ _ _ EJ)).i ?_
   have:=World.alloc_heap_new (w.alloc (.cells #[.bool false] 4)) (.cells #[.string (X p)] 9);rwa[BM]at this
  have i:d.heap[w.heap.size+1+1]? = some (.cells #[.string ⟨#[47]⟩] 9 (0,0)):=by
   rw[f];refine(AO _ _ _ EJ).i ?_
   have:=World.alloc_heap_new ((w.alloc (.cells #[.bool false] 4)).alloc (.cells #[.string (X p)] 9)) (.cells #[.string ⟨#[47]⟩] 9);rwa[BM,BM]at this
  have j:d.heap[w.heap.size+1+2]? = some (.cells #[.a 0] 3 (0,0)):=by
   rw[f]
   have:=World.alloc_heap_new (((w.alloc (.cells #[.bool false] 4)).alloc (.cells #[.string (X p)] 9)).alloc (.cells #[.string ⟨#[47]⟩] 9)) (.cells #[.a 0] 3);rwa[BM,BM,BM]at this
  have b:Below w.heap.size w d:=by rw[f];exact(((Iy).alloc EJ _).a).a
  rw[<-f];clear f;refine yM I EB (gf:=274) (lb:=#[.c (w.heap.size+1+1),.c (w.heap.size+1),.c (w.heap.size+1+2)]) I trivial (enters_of func274 EG I)
   (pC 4 (w.heap.size+1) d.heap.size p d a U (AB _) g i j) U I
   (λn W=>(∀y∈n,FZ y=true)/\W.heap[w.heap.size]? = some (.cells #[.bool false] 4 (0,0))/\Below w.heap.size w W)
   (λn W=>(∃y∈n,FZ y=false)/\W.heap[w.heap.size]? = some (.cells #[.bool false] 4 (0,0))/\Below w.heap.size w W)
   (λs A C V a t z=>⟨a.1,(t.u _ (lt_of_heap a.2.1) (λe=>by exact Dz ((z _ e.A).1))).i a.2.1,a.2.2.C t a.2.2.size (λk e=>by exact Dz ((z k e).1))⟩)
   ⟨λs A v a=>⟨a.1,(AH A ⟨w.heap.size+1,0,none⟩ v _ EJ).i a.2.1,a.2.2.setCell (p:=⟨w.heap.size+1,0,none⟩) EJ _⟩,λs A q a=>⟨a.1,a.2.1,⟨a.2.2.os,a.2.2.tape,a.2.2.output,a.2.2.size,a.2.2.u⟩⟩⟩
   (λs A C V a t z=>⟨a.1,(t.u _ (lt_of_heap a.2.1) (λe=>by exact Dz ((z _ e.A).1))).i a.2.1,a.2.2.C t a.2.2.size (λk e=>by exact Dz ((z k e).1))⟩)
   ⟨λs A v a=>⟨a.1,(AH A ⟨w.heap.size+1,0,none⟩ v _ EJ).i a.2.1,a.2.2.setCell (p:=⟨w.heap.size+1,0,none⟩) EJ _⟩,λs A q a=>⟨a.1,a.2.1,⟨a.2.2.os,a.2.2.tape,a.2.2.output,a.2.2.size,a.2.2.u⟩⟩⟩
   ⟨by simp,c,b⟩
   (λx=>{ tmps:=#[.string (X p),undef,.c w.heap.size,.string (X x),.string (X p),.a L,.bool (decide (6<(L:Int))),.string (X p),.func (.func 274) #[] #[.c (w.heap.size+1+1),.c (w.heap.size+1),.c (w.heap.size+1+2)],.string (X x),undef,undef,undef],defers:=[] }) ?assign ?body ?done ?stop
  .intro l x W _ c;gi_wp2;exact c
  .rintro l n x W ⟨F,b,g⟩ B d;have M:x∈split p:=B.subset EJ;have f:=J (uY x W (xF p x M) (Dz (pI p x M)));change Hid _ at F;clear B M;obtain⟨o,G⟩:=E (FZ x);rw[<-G]at f;have H:=J G;clear G;gi_wp2;refine⟨trivial,(CallsIn.inRound l (B7.2 f)).l ?_⟩;rintro e M ⟨i,rfl⟩;have m:=(i.u _ (lt_of_heap b)).i b;have S:=EV 0 m;have f:=Fg 0 m;have R:=g.i (i.l g.size);change Hid _ at m i R;clear b;cases o with
   |true=>
     gi_wp2;exact⟨⟨i.o.size,λk o _ u _=>(i.o.u k (lt_of_heap u)).i u⟩,i.o.l d,λy T=>(Aj.1 T).elim (F y) (λe=>by simp at e;subst e;exact H.o.A),m,R⟩
   |false=>
     gi_wp2;refine⟨⟨by simpa using i.o.size,λk o _ u G=>(AH M ⟨w.heap.size,0,none⟩ _ k EL).i ((i.o.u k (lt_of_heap u)).i u)⟩,⟨x,by simp,H.o.A⟩,AJ M w.heap.size 0 _ 4 (.bool false) m,R.o.setCell (p:=⟨w.heap.size,0,none⟩) EJ _⟩
  .rintro D W d ⟨F,b,g⟩ c;have S:=EV 0 b;have f:=Fg 0 b;have j:Hid (EO p=true):=J (by rw[jL (Dz K.o)];exact BD.2 F);change Hid _ at b g c;gi_wp2;have Q:(W.setCell (O w.heap.size 0) (.bool true)).heap[D]? = some (.deferred (some [])):=(AH W ⟨w.heap.size,0,none⟩ _ D EL).i c;refine⟨by simp,.w ⟨_,_,I,run_takeDeferred Q,?_⟩⟩;have a:=AJ W w.heap.size 0 _ 4 (.bool true) b;have N:=cell_kept (World.cell?_setCell_same' W ⟨w.heap.size,0,none⟩ (.bool true) (by rw[S];rfl)) (grownBy_putObj' _ D (.deferred none)) (λr e=>by cases e;exact⟨_,Q,I⟩);refine⟨.bool true,?_,(g.o.setCell (p:=⟨w.heap.size,0,none⟩) EJ _).i (belowK_b (w:=w) (AB _) _ D _ _ U Q I I),by rw[j.o]⟩;simp[results,f121,go_sem,N]
  rintro D n W d B ⟨⟨y,T,a⟩,b,g⟩ c;have j:Hid (EO p=false):=J (by
   rw[jL (Dz K.o)];cases h:(split p).all FZ with
   |false=>rfl
   |true=>have:=BD.1 h y (B.subset T);rw[a]at this;cases this)
  change Hid _ at g c;gi_wp2;refine⟨by simp,.w ⟨_,_,I,run_takeDeferred c,?_⟩⟩;have N:=cell_kept (EV 0 b) (grownBy_putObj' _ D (.deferred none)) (λr e=>by cases e;exact⟨_,c,I⟩);refine⟨.bool false,?_,g.o.i (belowK_b (w:=w) (AB _) W D _ _ U c I I),by rw[j.o]⟩;simp[results,f121,go_sem,N]
 have j:Hid (EO p=false):=J (by unfold EO;have:=K.o;simp;intro h;omega);gi_wp2;refine⟨.bool false,?_,Iy,by rw[j.o]⟩;simp[results,f121,go_sem]
end
section
open Go.RowKit Go.Nt
def Gu(n:Int):Bool:=decide (0<=n)&&decide (n<=4095)
def Gt(n:Int):Bool:=decide (0<=n)&&decide (n<=2147483647)
theorem kK(n:Int)(w:Z):Calls prog 119 #[.a n] w λe w'=>e=.a (.bool (Gu n))/\w'=w:=by
 unfold Gu;by_cases h:0<=n
 .by_cases a:n<=4095
  .go_enter func119,ntmps119;go_wp2;go_ret;exact⟨by simp[h,a],I⟩
  go_enter func119,ntmps119;go_wp2;go_ret;exact⟨by simp[a],I⟩
 go_enter func119,ntmps119;go_wp2;go_ret;exact⟨by rw[BZ (by omega:¬0<=n)];rfl,I⟩
theorem jd(n:Int)(w:Z):Calls prog 120 #[.a n] w λe w'=>e=.a (.bool (Gt n))/\w'=w:=by
 unfold Gt;by_cases h:0<=n
 .by_cases a:n<=2147483647
  .go_enter func120,ntmps120;go_wp2;go_ret;exact⟨by simp[h,a],I⟩
  go_enter func120,ntmps120;go_wp2;go_ret;exact⟨by simp[a],I⟩
 go_enter func120,ntmps120;go_wp2;go_ret;exact⟨by rw[BZ (by omega:¬0<=n)];rfl,I⟩
theorem nH(x:It)(D:ByteArray)(k:D=X x.data)(h:Bool)(i:h=x.d):(Es x=false/\(Gu x.a=false\/(Gu x.a=true/\(Gt x.b=false\/(Gt x.b=true/\(4000<D.size\/(D.size<=4000/\h=true/\D.toList.isEmpty=false))))))) \/ (Es x=EO x.c/\Gu x.a=true/\Gt x.b=true/\D.size<=4000/\(h=false\/(h=true/\D.toList.isEmpty=true))):=by
 subst i;subst k;rw[Mn,EF];unfold Es Gu Gt;by_cases a:0<=x.a
 .by_cases b:x.a<=4095
  .by_cases c:0<=x.b
   .by_cases d:x.b<=2147483647
    .by_cases e:x.data.length<=4000
     .by_cases f:x.d=true
      .by_cases g:x.data=[]
       .exact .s ⟨by simp[f,g,a,b,c,d],by simp[a,b],by simp[c,d],e,.s ⟨f,by simp[g]⟩⟩
       exact .w ⟨by simp[f,g],.s ⟨by simp[a,b],.s ⟨by simp[c,d],.s ⟨e,f,by simpa using g⟩⟩⟩⟩
      have j:x.d=false:=EU f;exact .s ⟨by simp[e,j,a,b,c,d],by simp[a,b],by simp[c,d],e,.w j⟩
     exact .w ⟨by simp[e],.s ⟨by simp[a,b],.s ⟨by simp[c,d],.w U⟩⟩⟩
    exact .w ⟨by simp[d],.s ⟨by simp[a,b],.w (by simp[d])⟩⟩
   exact .w ⟨by simp[c],.s ⟨by simp[a,b],.w (by simp[c])⟩⟩
  exact .w ⟨by simp[b],.w (by simp[b])⟩
 exact .w ⟨by simp[a],.w (by simp[a])⟩
theorem vO(x:It)(w:Z)(u:ML w)(K:x.c.length<=1048576):Calls prog 71 #[Jg x] w λe w'=>Below w.heap.size w w'/\e=.a (.bool (Es x)):=by
 have g:=J (λW (h:ML W)=>WX x.c W h K);have k:=J u;have f:=J (λW=>kK x.a W);have i:=J (λW=>jd x.b W);unfold Jg;obtain⟨D,m⟩:∃o,o=X x.data:=⟨_,I⟩;obtain⟨y,l⟩:∃o,o=x.d:=⟨_,I⟩;obtain⟨p,n⟩:∃o,o=X x.c:=⟨_,I⟩;have G:=nH x D m y l;rw[<-m,<-l,<-n];rw[<-n]at g;clear u m l n;rcases G with⟨c,H⟩|⟨a,A,B,_,j⟩
 .rw[c];clear g c k;rcases H with r|⟨r,s|⟨s,C|⟨C,F,_⟩⟩⟩;all_goals(try subst F)
  all_goals(rw[r]at f)
  all_goals(try rw[s]at i)
  all_goals
   go_enter func71,ntmps71;go_wp2_with (first|(go_at_call 119;refine(f.o _).l ?_;rintro e w' ⟨rfl,b⟩;have d:=b.A;subst d;clear b)|(go_at_call 120;refine(i.o _).l ?_;rintro e w' ⟨rfl,b⟩;have d:=b.A;subst d;clear b));go_ret;exact⟨Iy,I⟩
 rw[a];have q:=J (g.o (w.a #[.string p,.bool y,.string D,.a x.a,.a x.b] 39) (k.o.f (Iy) k.o.lt));clear g a;obtain⟨o,v⟩:=E (EO x.c);rw[<-v]at q |-;rw[A]at f;rw[B]at i;clear v;rcases j with j|⟨j,_⟩<;>subst j;all_goals
  go_enter func71,ntmps71;go_wp2_with (first|(go_at_call 119;refine(f.o _).l ?_;rintro e w' ⟨rfl,b⟩;have d:=b.A;subst d;clear b)|(go_at_call 120;refine(i.o _).l ?_;rintro e w' ⟨rfl,b⟩;have d:=b.A;subst d;clear b)|(go_at_call 121;refine q.o.l ?_;rintro e W ⟨t,rfl⟩;have z:w.b W:=(Iy).i (t.l EJ);clear t));go_ret;exact⟨z,I⟩
variable {w W V:Z} {l:List It} {k g:Nat} {x:It}
theorem below_grown{w':Z}(h:Below w.heap.size w w'):w.grownBy w' none:=⟨h.os,h.tape,h.output,h.size,λk a _=>h.u k a⟩
theorem Ic(s:ByteArray)(w:Z)(c:s.size<=1048576):Calls prog 72 #[.string s] w λe w'=>e=.a (.string s)/\Below w.heap.size w w':=by have a:=J (stringslite_Clone s w U);go_enter func72,ntmps72;go_wp2_with (go_at_call 122;refine a.o.l ?_;rintro e w' ⟨rfl,b⟩);go_ret;exact⟨I,b⟩
structure Mj (l:List It) (k:Nat):Prop where
 ok:∀x∈l.take k,Es x=true
 nd:((l.take k).map (·.c)).Nodup
theorem Mj.next(h:Mj l k)(j:l[k]?=some x)(i:Es x=true)(g:at? (l.take k) x.c=none):Mj l (k+1):=by
 have e:l.take (k+1)=l.take k++[x]:=by rw[Al,j];rfl
 refine⟨λy c=>?_,?_⟩
 .rw[e]at c;rcases Aj.1 c with c|c
  .exact h.ok y c
  simp at c;subst c;exact i
 rw[e,Au,CI];refine⟨h.nd,by simp,λa f b d=>?_⟩;obtain⟨y,c,rfl⟩:=AZ.1 f;simp at d;subst d;exact GN.1 g y c
def KQ(w W V:Z)(l:List It)(k:Nat):Prop:=W.grownBy V (some w.heap.size)/\Below w.heap.size w V/\(EH V w.heap.size (l.take k)\/EH V w.heap.size (l.take (k+1)))
theorem kL{b:Z}(h:Hid (KQ w W V l k))(a:Below V.heap.size V b):Hid (KQ w W b l k):=by
 obtain⟨d,c,e⟩:=h;have f:=c.size;refine⟨d.i ((below_grown a).but _),c.i (a.l f),?_⟩;rcases e with h|h
 .exact .w (h.f a h.lt)
 exact .s (h.f a h.lt)
theorem uE(h:Hid (KQ w W V l k))(b:Mj l (k+1))(A:l[k]?=some x)(c:at? (l.take k) x.c=none)(G:l.length<=60)(y:x.c.length<=maxLen):∃V',(Instr.mapUpdate 77 (.e w.heap.size) (.string (X x.c)) (Gm (nd x))).run prog V=.ok () V'/\Hid (KQ w W V' l k)/\Hid (EH V' w.heap.size (l.take (k+1))):=by
 obtain⟨t,g,u⟩:=h;have e:l.take (k+1)=l.take k++[x]:=by rw[Al,A];rfl
 have r:((l.take k).map (·.c)).Nodup:=by have:=b.nd;rw[e,Au]at this;exact(CI.1 this).1
 have a:∀m,EH V w.s m->(m.map (·.c)).Nodup->m.length<=60->(∀p,at? (En m x) p=at? (l.take (k+1)) p)->∃V',(Instr.mapUpdate 77 (.e w.s) (.string (X x.c)) (Gm (nd x))).run prog V=.ok () V'/\Hid (KQ w W V' l k)/\Hid (EH V' w.s (l.take (k+1))):=by intro m v s _ o;obtain⟨V',F,⟨D,B,C⟩,i⟩:=v.store s Fs x y;have d:EH V' w.s (l.take (k+1)):=⟨D,B,C.same o⟩;exact⟨V',F,J ⟨t.i i.C,g.C i.C g.size (λq z=>by cases z;exact AB _),.s d⟩,J d⟩
 have j:(l.take k).length<=60:=by rw[Ac];omega
 have n:(l.take (k+1)).length<=60:=by rw[Ac];omega
 rcases u with h|h
 .refine a _ h r j (λp=>?_);rw[xh (GN.1 c),e]
 refine a _ h b.nd n (λp=>?_);by_cases f:p=x.c
 .subst f;rw[WT];exact(at_mem b.nd (by rw[e];simp)).A
 rw[Z5 f]
def TZ(V:Z)(g:Nat)(x:It):Prop:=
 V.cell? (O g 0)=some (.string (X x.c))/\V.cell? (O g 1)=some (.bool x.d)/\V.cell? (O g 2)=some (.string (X x.data)) /\
 V.cell? (O g 3)=some (.a x.a)/\V.cell? (O g 4)=some (.a x.b)
theorem F6.VI(h:F6 V g 0 x):TZ V g x:=by obtain⟨e,a,b,c,d⟩:=h;rw[Ak]at a b c d;exact⟨e,a,b,c,d⟩
theorem WO(h:Hid (KQ w W V l k))(j:Hid (TZ W g x))(m:g<W.heap.size)(n:w.heap.size<g):TZ V g x:=by have a:=h.o.1.u g m (λe=>by cases e;omega);obtain⟨b,c,d,f,i⟩:=j;exact⟨(AK a).i b,(AK a).i c,(AK a).i d,(AK a).i f,(AK a).i i⟩
theorem yy(b:l.length<=60)(c:∀x∈l,Es x=true)(a:(l.map (·.c)).Nodup)(f:∀x∈l,Ei l x.c=0):Ek l=true:=by
 have d:l.all Es=true:=BD.2 c;unfold Ek;rw[gI l d,d];have e:(l.all λx=>OX l x.c)=true:=BD.2 λx g=>by rw[Vl l _ a,f x g];rfl
 rw[e];simp[b,a]
theorem iQ(b:∀x∈l,Es x=true)(a:(l.map (·.c)).Nodup)(f:x∈l)(e:Ei l x.c≠0):Ek l=false:=by
 have c:=BD.2 b;unfold Ek;rw[gI l c];have d:(l.all λx=>OX l x.c)=false:=by
  cases h:l.all λx=>OX l x.c with
  |false=>rfl
  |true=>have:=BD.1 h x f;rw[Vl l _ a]at this;exact absurd (EU this) e
 rw[d];simp
theorem Kk(a:Option Addr)(c:Nat)(l:List It)(w:Z)(K:ML w)(hl:Eh w a l)(hn:l.length<=1048576)(hp:∀x∈l,x.c.length<=1048576)(hd:∀x∈l,x.data.length<=1048576):Calls prog 41 #[.slice a l.length c] w λe w'=>Below w.heap.size w w' /\ ((Ek l=false/\e=.a (.tuple #[.map none,.a 3]))\/(Ek l=true/\∃b,e=.a (.tuple #[.e b,.a 0])/\w.heap.size<=b/\EH w' b l)):=by
 have Hl:=J hl;change Hid _ at hp hd;have b6:=J K;have h0:=K.lt;have bc:=vt;by_cases aR:l.length<=60
 .go_enter func41,ntmps41;go_wp2;go_loopw [18] (λi wr=>∃k:Nat,k<=l.length/\i=.a k/\Hid (Mj l k)/\Hid (EH wr w.heap.size (l.take k))/\Hid (Below w.heap.size w wr)) (λi _=>l.length-(intOf i).toNat)
  .exact⟨0,AW _,I,J ⟨by simp,by simp⟩,J (wX w),J (Iy)⟩
  obtain⟨k,hk,rfl,aF,N,g⟩:=hrel;by_cases ao:k<l.length
  .obtain⟨x,d⟩:∃x,l[k]?=some x:=⟨_,AE ao⟩;obtain⟨b,off,rfl,hc⟩:=(Hl.o.f g) (λh=>by rw[h]at ao;simp at ao);obtain⟨x0,x1,x2,x3,x4⟩:=hc k x d;have u:=hp x (AY d);have av:=hd x (AY d);have ae:=g.o.size;have t:=N.o.lt;have Hx:=J d;have aN:EH (boxed wr x) w.heap.size (l.take k):=N.o.y (AO wr _ _ t);have C:x.c.length<=maxLen:=Fs;cases z:at? (l.take k) x.c with
   |some y=>
    have a2:=(aN.b C z).1;have f:Hid (Ek l=false):=by
     obtain⟨hy,b4⟩:=Ji z;obtain⟨j',b7,aP⟩:=BY hy;have b9:j'<k:=by rw[Ac]at b7;omega
     rw[List.getElem_take]at aP;exact ZK (Wt d (AE U) b9 (by rw[aP];exact b4))
    unfold boxed Gm nd at a2;go_wp2;go_ret2;exact⟨(g.o.alloc ae _).a,.w ⟨f,I⟩⟩
   |none=>
    have a2:=(aN.c C z).1;change Hid _ at z;obtain⟨s,m⟩:=E ((boxed wr x).alloc (.cells #[.bool false,.string (X []),.a 0,.a 0] 117));have ag:Below w.heap.size w s:=by rw[m];exact(g.o.alloc ae _).a
    have M:=J (vO x s (b6.o.f ag h0) u);rw[m]at M;unfold boxed Jg at M;unfold boxed Gm at a2;obtain⟨o,j⟩:=E (Es x);rw[<-j]at M;change Hid _ at j m;go_wp2_with fail;refine M.o.l ?_;rintro e W ⟨b8,rfl⟩;have P:Below (wr.heap.size+2) s W:=by rw[m.o];have h:=b8;simp only[BM]at h;exact h
    have aL:s.heap.size=wr.heap.size+2:=by rw[m.o];simp[boxed]
    have bg:=P.size;have aO:Hid (Below w.heap.size w W):=ag.i (P.b);cases o with
    |false=>have f:Hid (Ek l=false):=X6 (AY Hx) j.o.A;go_wp2;go_ret2;exact⟨aO,.w ⟨f,I⟩⟩
    |true=>
     have T:wr.heap.size<W.heap.size:=U;have aJ:F6 W wr.heap.size 0 x:=by
      have n:F6 s wr.heap.size 0 x:=by rw[m.o];exact(P1 wr x).y (AO _ _ _ (by simp[boxed]))
      exact n.f P U
     have L:=J aJ.VI;have b0:Hid (EH W w.heap.size (l.take k)):=by
      have n:EH s w.heap.size (l.take k):=by rw[m.o];exact(N.o.y (w':=boxed wr x) (AO wr _ _ t)).y (AO _ _ _ (by simp[boxed];omega))
      exact n.f P U
     have aS:Hid (Mj l (k+1)):=aF.o.next Hx j.o.A z;have bf:Hid (KQ w W W.drew l k):=⟨⟨I,I,I,AB _,λ_ _ _=>rfl⟩,aO.o.drew,.w (b0.o.y I)⟩;have HU:Hid (∀V,Hid (KQ w W V l k)->∃B,(Instr.mapUpdate 77 (.e w.heap.size) (.string (X x.c)) (.agg #[.bool x.d,.string (X x.data),.a x.a,.a x.b])).run prog V=.ok () B/\Hid (KQ w W B l k)/\Hid (EH B w.heap.size (l.take (k+1)))):=
      λV hV=>uE hV aS Hx z aR C
     have aW:=J (λV=>Ic (X x.c) V (by rw[EF];exact u));have aZ:=J (λV=>Ic (X x.data) V (by rw[EF];exact av));obtain⟨f0,f1,f2,f3,f4⟩:=aJ.VI;go_wp2_with fail;go_region_held3 (λV=>Hid (KQ w W V l k)/\V.cell? (O wr.heap.size 0)=some (.string (X x.c))/\V.cell? (O wr.heap.size 1)=some (.bool x.d)/\V.cell? (O wr.heap.size 2)=some (.string (X x.data))/\V.cell? (O wr.heap.size 3)=some (.a x.a)/\V.cell? (O wr.heap.size 4)=some (.a x.b)) (go_keep) (first
      | (go_at_call_of 72 (X x.c);refine(aW _).l ?_;rintro e V ⟨rfl,aB⟩;have A:=kL (w:=w) (W:=W) (l:=l) (k:=k) (by go_split_ands;assumption) aB;obtain⟨c0,c1,c2,c3,c4⟩:=WO A L T t;obtain⟨B,aA,an,aQ⟩:=HU V A;obtain⟨d0,d1,d2,d3,d4⟩:=WO an L T t)
      | (go_at_call_of 72 (X x.data);refine(aZ _).l ?_;rintro e V ⟨rfl,aB⟩;have A:=kL (w:=w) (W:=W) (l:=l) (k:=k) (by go_split_ands;assumption) aB;obtain⟨c0,c1,c2,c3,c4⟩:=WO A L T t;obtain⟨B,aA,an,aQ⟩:=HU V A;obtain⟨d0,d1,d2,d3,d4⟩:=WO an L T t))
     all_goals
      have au:=an.o.2.1;rename_i hHeld;go_wp2;go_roundw
      .exact⟨k+1,by omega,by go_num,aS,aQ,au⟩
      .simp[intOf];omega
  have b3:k=l.length:=U;subst b3;have HN:=aF;have aT:Hid (EH wr w.heap.size l):=by have h:=N.o;rw[Cl]at h;exact h
  have aG:Hid (∀x∈l,Es x=true):=by have h:=HN.o.ok;rw[Cl]at h;exact h
  have ax:Hid ((l.map (·.c)).Nodup):=by have h:=HN.o.nd;rw[Cl]at h;exact h
  obtain⟨D,j,H⟩:=aT.o;change Hid _ at H j;go_wp2_with (first|(at_range;refine DV _ I _ 77 I 9 117 Jr underlying77 _ w.heap.size _ D I j.o ?_;intro w0 Q aI aL)|go_in);go_frame;have aM:=g.o.C aI g.o.size (λq hq=>by cases hq);change Hid _ at Q;have aD:=g.o.size;clear aI j aT aL g;obtain⟨r,hr⟩:=E wr.heap.size;rw[<-hr]at Q aD |-;clear hr;go_loopw [9] (λ_ wx=>∃(left:Lit->Bool) (cnt:Nat),wx.ranges prog 9 JA w.heap.size r (Maps.size D) D left cnt/\Hid (∀p,Maps.has D (.string p)=true->left (.string p)=false->Ei l p=0)/\Hid (Below w.heap.size w wx))
   (λ_ wx=>wx.rangeLeft w.heap.size r)
  .exact⟨_,_,Q.o,J (λp n G=>by rw[n]at G;cases G),aM⟩
  obtain⟨left,cnt,R,He,aw⟩:=hrel;clear aM Q;go_wp2_with (first|(at_next;refine DH _ rfl _ rfl 9 Jr JA (λx:Bs=>.string (X x)) id (λkey kl hk=>by obtain⟨x,d,_⟩:=Maps.keyOf_str underlying9 hk;exact⟨x,d⟩) (λv _ _=>⟨v,I⟩) w.heap.size r _ _ _ _ I R ?_ ?_)|go_in)
  .intro _ aV;have f:Hid (Ek l=true):=yy aR aG.o ax (λx d=>He x.c (by rw[(H.o x.c).1,at_mem ax.o d];rfl) (aV _));have bb:Hid (EH _ w.heap.size l):=⟨D,tight R.owns,H⟩;go_wp2;go_ret2;exact⟨aw,.s ⟨f,_,I,AB _,bb⟩⟩
  intro p cv kl yd yp w2 ay ah aU hv aE a6 ar aK b5 be;obtain⟨p',ep,rfl,_⟩:=Maps.keyOf_str underlying9 ah;obtain rfl:p=p':=by cases ep;rfl
  have a7:=CG aE;rw[(H.o p).1]at a7;obtain⟨x,d⟩:=Bi.1 a7;obtain⟨az,u⟩:=Ji d;have C:p.length<=1048576:=by rw[<-u];exact hp x az
  have aH:EH w2 w.heap.size l:=⟨D,tight a6.owns,H⟩;have HE:=J (Z8 w.heap.size l p w2 aH C);have a8:Hid (Below w.heap.size w w2):=aw.o.C aK aw.o.size (λq hq=>by cases hq;exact aD);have af:=a8.o.size;have ac:=J a6;have aY:=J R;change Hid _ at az u;obtain⟨ee,S⟩:=E (Ei l p);rw[<-S]at HE;change Hid _ at S;clear aE hv ah aU aK b5 a6 R aH a7 d ep;by_cases aC:ee=0
  .subst aC;go_wp2_with (go_at_call 73;refine HE.o.l ?_;rintro e w3 ⟨F,rfl⟩);go_roundw
   .refine⟨_,ay,ac.o.kept (below_grown F) EJ EJ,J (λq n G=>?_),J (a8.o.i (F.l af))⟩;by_cases e:q=p
    .rw[e];exact S.o.A
    refine He q n ?_;have hs:Lit.sameKey (.string q) (.string p)=false:=DL (λh=>e (by cases h;rfl));rw[hs]at G;simpa using G
   rw[(ac.o.kept (below_grown F) EJ EJ).left_eq,aY.o.left_eq];exact ar
  have aX:=Di.2 aC;have f:Hid (Ek l=false):=iQ aG ax az (by rw[u.o,<-S.o];exact aC);go_wp2_with (go_at_call 73;refine HE.o.l ?_;rintro e w3 ⟨F,rfl⟩);go_ret2;exact⟨a8.o.i (F.l af),.w ⟨f,I⟩⟩
 have f:Hid (Ek l=false):=gB U;go_enter func41,ntmps41;go_wp2;go_ret2;exact⟨AP _ _,.w ⟨f,I⟩⟩
variable {n m:List Bs} {k:Nat} {x y:Bs}
theorem Xi:∀a b:Bs,Op.bytesLess a b=Mw a b
 | [],[]=>rfl
 | [],_::_=>rfl
 |_::_,[]=>rfl
 | x::a,y::b=>by
   unfold Op.bytesLess Mw;have c:=Xi a b;by_cases h:x=y
   .subst h;simp[c]
   have d:x.toNat≠y.toNat:=λe=>h (BR.1 e)
   simp[h,c,UInt8.lt_iff_toNat_lt]
theorem eV:∀a,Mw a a=false
 | []=>rfl
 |x::a=>by simp[Mw,eV a]
theorem lP:∀a b,Mw a b=false->Mw b a=false->a=b
 | [],[],_,_=>rfl
 | [],_::_,h,_=>by simp[Mw]at h
 |_::_,[],_,h=>by simp[Mw]at h
 | x::a,y::b,h,h'=>by
   unfold Mw at h h';by_cases e:x=y
   .subst e;simp at h h';rw[lP a b h h']
   rw[AC e]at h;rw[AC (λx=>e x.A)]at h';simp at h h';exact absurd (BR.1 U) e
theorem xB(a b:Bs)(w:Z):Calls prog 172 #[.string (X a),.string (X b)] w λe w'=>e=.a (.a (IA a b))/\w'=w:=by
 obtain⟨A,k⟩:∃o,o=X a:=⟨_,I⟩;obtain⟨B,l⟩:∃o,o=X b:=⟨_,I⟩;rw[<-k,<-l];have f:=J k;have g:=J l;clear k l;go_enter func172,ntmps172;by_cases j:Op.bytesLess A.toList B.toList=true
 .have c:Hid (IA a b = -1):=by show IA a b = -1;rw[f.o,g.o,Mn,Mn,Xi]at j;simp[IA,j]
  go_wp2;go_ret;exact⟨Ma c.o.A,I⟩
 have i:Op.bytesLess A.toList B.toList=false:=EU j;by_cases d:(A.toList==B.toList)=true
 .have c:Hid (IA a b=0):=by show IA a b=0;rw[f.o,g.o,Of]at d;have:a=b:=EU d;subst this;simp[IA,eV]
  go_wp2;go_ret;exact⟨Ma c.o.A,I⟩
 have n:(A.toList==B.toList)=false:=EU d;have c:Hid (IA a b=1):=by
  show IA a b=1;rw[f.o,g.o,Of]at d;rw[f.o,g.o,Mn,Mn,Xi]at i;have m:a≠b:=EU d;have:Mw b a=true:=by
   cases h:Mw b a with
   |true=>rfl
   |false=>exact absurd (lP a b i h) m
  simp[IA,i,this]
 go_wp2;go_ret;exact⟨Ma c.o.A,I⟩
theorem wT(c:n[k]?=some x)(d:m[k]?=some y)(h:IA x y=0):Gb (n.drop k) (m.drop k)=Gb (n.drop (k+1)) (m.drop (k+1)):=by obtain⟨a,rfl⟩:=AN.1 c;obtain⟨b,rfl⟩:=AN.1 d;rw[Ah a,Ah b];simp[Gb,h]
theorem uN(c:n[k]?=some x)(d:m[k]?=some y)(h:IA x y≠0):Gb (n.drop k) (m.drop k)=IA x y:=by obtain⟨a,rfl⟩:=AN.1 c;obtain⟨b,rfl⟩:=AN.1 d;rw[Ah a,Ah b];simp[Gb,h]
theorem pW(a:k<n.length)(b:m.length<=k):Gb (n.drop k) (m.drop k)=1:=by rw[Ah a,CU b];rfl
theorem oO(a:n.length<=k)(b:k<=m.length):Gb (n.drop k) (m.drop k)=if k<m.length then -1 else 0:=by
 rw[CU a];by_cases h:k<m.length
 .rw[Ah h,AD h];rfl
 rw[CU U,AC h];rfl
theorem tg(a b:Nat)(N M c d:Nat)(n m:List Bs)(w:Z)(F:n.length=N)(D:m.length=M)(V:N<=1048577)(T:M<=1048577)(G:∀k x,n[k]?=some x->w.cell? (O a k)=some (.string (X x)))(H:∀k x,m[k]?=some x->w.cell? (O b k)=some (.string (X x))):Calls prog 113 #[.b a N c,.b b M d] w λe w'=>e=.a (.a (Gb n m))/\w'=w:=by
 have K:=J G;have L:=J H;have p:=J F;have l:=J D;clear G H F D;go_enter func113,ntmps113;go_wp2;go_loopw [11] (λi wr=>∃k:Nat,k<=N/\k<=M/\i=.a k/\wr=w/\Hid (Gb n m=Gb (n.drop k) (m.drop k))) (λi _=>N-(intOf i).toNat)
 case atStart=>exact⟨0,AW _,AW _,I,I,J I⟩
 case round=>
  obtain⟨k,_,_,rfl,rfl,g⟩:=hrel;by_cases j:k<N
  .obtain⟨x,j⟩:∃x,n[k]?=some x:=⟨_,AE (Dz p.o)⟩;have P:=K.o k x j;have B:=J j;by_cases R:k<M
   .obtain⟨y,v⟩:∃y,m[k]?=some y:=⟨_,AE (Dz l.o)⟩;have Q:=L.o k y v;have C:=J v;have q:=J (xB x y wr);obtain⟨_,t⟩:∃o,o=X x:=⟨_,I⟩;obtain⟨_,u⟩:∃o,o=X y:=⟨_,I⟩;obtain⟨z,A⟩:∃o,o=IA x y:=⟨_,I⟩;rw[<-t,<-u,<-A]at q;rw[<-t]at P;rw[<-u]at Q;have r:=J A;clear j v t u A;by_cases h:z=0
    .have f:Hid (Gb n m=Gb (n.drop (k+1)) (m.drop (k+1))):=g.o.i (wT B.o C.o (r.o.A.i h));subst h;go_wp2_with (go_at_call 172;refine Jj q.o ?_);go_roundw
     case rel=>exact⟨k+1,by omega,by omega,by go_num,trivial,f⟩
     case measure=>simp[intOf];omega
    have f:Hid (Gb n m=z):=g.o.i ((uN B.o C.o (λe=>h (r.o.i e))).i r.o.A);have W:(z != 0)=true:=Di.2 h;go_wp2_with (go_at_call 172;refine Jj q.o ?_);go_ret;exact⟨Ma f.o.A,I⟩
   have f:Hid (Gb n m=1):=g.o.i (pW (Dz p.o) (Dz l.o));clear j;go_wp2;go_ret;exact⟨Ma f.o.A,I⟩
  have f:Hid (Gb n m=if k<M then -1 else 0):=g.o.i (by have t:=p.o;have S:=l.o;rw[oO U U,S]);by_cases R:N<M
  .have s:Hid (Gb n m = -1):=by have:=f.o;rw[AD U]at this;exact this
   go_wp2;go_ret;exact⟨Ma s.o.A,I⟩
  have s:Hid (Gb n m=0):=by have:=f.o;rw[AC U]at this;exact this
  go_wp2;go_ret;exact⟨Ma s.o.A,I⟩
theorem il(p:Bs):(split p).length=p.count 47+1:=by
 induction p with
 |nil=>rfl
 |cons c l b=>
  by_cases a:c=47
  .subst a;rw[NU];simp[b]
  obtain⟨_,_,e⟩:=Oc l;rw[NT a e,List.count_cons_of_ne (EU a),<-b,e];rfl
theorem sZ(p:Bs):Lib.countB (X p) (X [47])+1=(split p).length/\Lib.splitB (X [47]) 0 (Lib.countB (X p) (X [47])) (X p)=(split p).map X:=by
 have b:Lib.countB (X p) (X [47])=p.count 47:=by show Lib.count p [47]=_;rw[Lib.count_one]
 rw[b];have a:(Lib.splitB (X [47]) 0 (p.count 47) (X p)).map (·.data.toList)=Lib.splitK [47] 0 (p.count 47) p:=Lib.splitB_data (X [47]) 0 (p.count 47) (X p);refine⟨(il p).A,?_⟩;rw[(pieces (p.count 47) p).1 (by rw[il];omega)]at a;rw[<-a,Cj];have:(X ∘ λx:ByteArray=>x.data.toList)=id:=by funext x;exact(fW x).A
 rw[this,List.map_id]
def Iw(p:Bs):Obj:=.cells (((split p).map X).map Value.string).toArray 9
theorem Wk(p:Bs)(w:Z)(d:ML w)(f:p.length<=1048576):Calls prog 114 #[.string (X p),.string ⟨#[47]⟩] w λe w'=>e=.a (.b w.heap.size (split p).length (split p).length)/\w'=w.alloc (Iw p):=by obtain⟨m,a⟩:=d;have h:=strings_Split (X p) (X [47]) m w (by rw[EF];omega) a (by rw[EF];simp);obtain⟨b,c⟩:=sZ p;rw[b,c]at h;exact h
theorem kf(p:Bs)(w:Z):∀k x,(split p)[k]?=some x->(w.alloc (Iw p)).cell? (O w.heap.size k)=some (.string (X x)):=by intro k x a;unfold Iw;rw[AU _ w.s k _ 9 (0,0) (AR _ _)];simp[a]
theorem oj(a b:Bs)(w:Z)(d:ML w)(u:a.length<=1048576)(v:b.length<=1048576) :
 Calls prog 66 #[.string (X a),.string (X b)] w λe w'=>e=.a (.a (Gb (split a) (split b)))/\w'=(w.alloc (Iw a)).alloc (Iw b):=by
 have y:=f9 a;have z:=f9 b;have s:=Wk a w d u;have r:ML (w.alloc (Iw a)):=d.f (Iy) d.lt;have f:=Wk b (w.alloc (Iw a)) r v;have t:=tg w.s (w.s+1) (split a).length (split b).length (split a).length (split b).length (split a) (split b) ((w.alloc (Iw a)).alloc (Iw b)) I I U U
  (λk x l=>by rw[World.cell?_alloc_old _ _ _ EJ];exact kf a w k x l)
  (λk x l=>by have:=kf b (w.alloc (Iw a)) k x l;simp only[BM]at this;exact this)
 rw[BM]at f;have n:=J s;have p:=J f;have q:=J t;clear s f t r d;obtain⟨_,g⟩:∃o,o=X a:=⟨_,I⟩;obtain⟨_,h⟩:∃o,o=X b:=⟨_,I⟩;obtain⟨_,j⟩:∃o,o=(split a).length:=⟨_,I⟩;obtain⟨M,i⟩:∃o,o=(split b).length:=⟨_,I⟩;obtain⟨_,m⟩:∃o,o=Gb (split a) (split b):=⟨_,I⟩;rw[<-g,<-j]at n;rw[<-h,<-i]at p;rw[<-j,<-i,<-m]at q;rw[<-g,<-h,<-m];clear g h j i m y z u v
 generalize Iw a=Ra at *
 generalize Iw b=A at *
 go_enter func66,ntmps66
 go_wp2_with fail;refine n.o.l ?_;rintro e w' ⟨rfl,c⟩;subst c;go_wp2_with fail;refine p.o.l ?_;rintro e w' ⟨rfl,c⟩;subst c;go_wp2_with fail;refine q.o.l ?_;rintro e w' ⟨rfl,c⟩;subst c;go_wp2;go_ret
 exact⟨I,I⟩
end
section
open Go.RowKit Go.Nt Go.Sort Go.Lib Go.Shelf
abbrev Sh:={s:Bs // s.length<=1048576}
instance:Inhabited Sh:=⟨⟨[],by simp⟩⟩
def Lr:Sh->Value:=λs=>encStr s.1
def Ns(a b:Sh):Int:=Gb (split a.1) (split b.1)
theorem U0(a b:Sh):ltOf Ns a b=less a.1 b.1:=Xo a.1 b.1
theorem vk:SWO (ltOf Ns) where
 irrefl x:=by rw[U0,X4]
 trans x y z h1 h2:=by rw[U0]at *;exact Rm _ _ _ h1 h2
 ntrans x y z h1 h2:=by
  rw[U0]at *;cases h:less x.1 z.1 with
  |false=>rfl
  |true=>
    cases a:less y.1 x.1 with
    |true=>have:=Rm _ _ _ a h;rw[h2]at this;cases this
    |false=>have e:=Qf _ _ h1 a;rw[e,h2]at h;cases h
theorem xo(x y:Sh)(a:ltOf Ns x y=false)(b:ltOf Ns y x=false):x=y:=by rw[U0]at *;exact Subtype.ext (Qf _ _ a b)
theorem lK(w:Z)(b o:Nat)(d:Array Sh):putRow Lr w b o d=putRow encStr w b o (d.map (·.1)):=by
 unfold putRow;congr 1;funext c;unfold putCells;apply Array.ext
 .simp
 intro i e f;simp only[Array.getElem_mapIdx,Array.size_map];split
 .rename_i h;have a:i-o<d.size:=U;rw[CD d _ a,CD (d.map (·.1)) _ (EU a)];simp[Lr]
 rfl
def IY(ss:List Bs):List Bs:=ss.mergeSort λx y=>!less y x
theorem yo(ds:List Sh):(ds.mergeSort λx y=>!(ltOf Ns) y x).map (·.1)=IY (ds.map (·.1)):=by unfold IY;have h:=List.map_mergeSort (f:=λs:Sh=>s.1) (r:=λx y=>!(ltOf Ns) y x) (s:=λx y=>!less y x) (l:=ds) (λa _ b _=>by rw[U0]);exact h
theorem vI{w:Z}(h:ML w)(j:∀c e b,w.heap[0]? ≠ some (.cells c e b)\/True){g n:Nat}{d:Array Bs}{os:Array Obj}(i:g≠0):ML (grow (putRow encStr (Sort.ahead w n) g 0 d) os):=by obtain⟨m,a⟩:=h;have f:0<w.s:=Am w _ a;refine⟨m,?_⟩;rw[<-a];refine AK ?_;exact(grownBy_sorted (w:=w) (g:=g) (n:=n) (os:=os) d).u 0 f (λe=>i (by cases e;rfl))
theorem oh(w:Z)(d:ML w)(g:Nat)(c:g≠0)(N:Nat):CmpLays1 prog 66 #[] Lr Ns g 0 N w:=by
 intro m f b _ x y;have a:ML (sortWorld Lr w g 0 m b f):=by unfold sortWorld;rw[lK];exact vI d (λ_ _ _=>.s trivial) c
 refine(oj x.1 y.1 _ a x.2 y.2).l ?_;rintro e _ ⟨rfl,rfl⟩;refine⟨I,0,#[Iw x.1,Iw y.1],?_⟩;rw[alloc_eq_grow,alloc_eq_grow,grow_grow];rfl
theorem py:∀a w,(callFunc 66 a).run prog w=.ok (.enter 66 a) w:=enters_of func66 EG I
theorem uD:∀a w,(callFunc 112 a).run prog w=.ok (.enter 112 a) w:=enters_of func112 EG I
theorem wE(a:Option Nat)(w:Z):Calls prog 65 #[.map a] w λe w'=>e=.a (.func (.func 112) #[] #[.c w.heap.size])/\w'=w.alloc (.cells #[.map a] 77):=
 (B7 (n:=6)).1 (AnyZ.keys_in TU Fence.wide 6 trivial I a w)
theorem mm(b Bm:Nat)(l:List It)(w:Z)(k:EH w b l)(h:(l.map (·.c)).Nodup)(p:l.length<=1000)(c:Bm<w.heap.size)(o:w.cell? (O Bm 0)=some (.e b)):Calls prog 110 #[.func (.func 112) #[] #[.c Bm]] w λe w'=>∃(v:Value) (a:List Bs),e=.a v/\a.Perm (l.map (·.c))/\w'.ownsRow w.heap.size 9 1 v a.length (a.map encStr)/\Below w.heap.size w w':=by
 obtain⟨D,d,g⟩:=k;have f:=To d g h;have n:=keys_perm d g h;refine((B7 (n:=6)).1 (AnyZ.collect_in Ou Fence.wide 6 trivial trivial I U 112 #[.c Bm] trivial uD (λa=>a.Perm (strKeys D)) (Maps.size D) (by rw[f];unfold maxLen;omega) (by rw[f];omega) w
  (AnyZ.keys_gives Te Fence.wide 4 trivial I U Bm b (Maps.size D) D w c o d))).l ?_
 rintro e w' ⟨v,a,rfl,j,i,_,m⟩;exact⟨v,a,I,j.i n.A,i,m⟩
def RO(ss:List Bs)(h:∀s∈ss,s.length<=1048576):List Sh:=ss.pmap Subtype.mk h
theorem rh(a:List Bs)(h:∀s∈a,s.length<=1048576):(RO a h).map (·.1)=a:=by simp[RO,List.map_pmap]
theorem Zs(a:List Bs)(h:∀s∈a,s.length<=1048576):(RO a h).length=a.length:=by simp[RO]
theorem tu{w:Z}{g:Nat}{a:List Bs}(h:∀s∈a,s.length<=1048576)(c:Holds encStr w g 0 a.toArray):Holds Lr w g 0 (RO a h).toArray:=by
 intro j d;have b:j<a.length:=by simpa[Zs]using d
 have:=c j (EU b);refine⟨this.1.i ?_,this.2⟩;rw[CD a.toArray j (EU b),CD (RO a h).toArray j (by simpa[Zs]using b)];simp[Lr,RO]
theorem vA(g cap:Nat)(a:List Bs)(w:Z)(c:ML w)(j:g≠0)(b:g<w.heap.size)(h:∀s∈a,s.length<=1048576)(k:a.length<=1000)(i:Holds encStr w g 0 a.toArray):Calls prog 111 #[.b g a.length cap,.func (.func 66) #[] #[]] w λe w'=>e=.a (.tuple #[])/\∃n d,w'=grow (putRow encStr (Sort.ahead w n) g 0 (IY a).toArray) d:=by
 have f:(RO a h).toArray.size=a.length:=by simp[Zs]
 have:=Any.slices_SortFunc_total QI Lr (λ_=>rfl) Ns vk 66 #[] g 0 cap (RO a h).toArray w py (oh w c g j _) (tu h i) b (by rw[f];omega) xo;rw[f]at this;refine this.l ?_;rintro e w' ⟨rfl,n,d,rfl⟩;refine⟨I,n,d,?_⟩;unfold sortWorld;rw[lK];congr 2;rw[List.map_toArray,yo,rh]
theorem mS(p:Option Addr)(cap:Nat)(fv:Value)(w:Z):Calls prog 111 #[.slice p 0 cap,fv] w λe w'=>e=.a (.tuple #[])/\w'=w:=
 AnyF.slices_SortFunc_none (P:=prog) (ρ:=Lt) {QI with} p cap fv w
theorem u9(b Bm:Nat)(l:List It)(w:Z)(P:EH w b l)(H:(l.map (·.c)).Nodup)(u:l.length<=1000)(i:ML w)(R:∀x∈l,x.c.length<=1048576)(C:Bm<w.heap.size)(Q:w.cell? (O Bm 0)=some (.e b)):Calls prog 64 #[.func (.func 112) #[] #[.c Bm],.func (.func 66) #[] #[]] w λe w'=>∃(v:Value),e=.a v/\w'.ownsRow w.heap.size 9 1 v l.length ((IY (l.map (·.c))).map encStr)/\Below w.heap.size w w':=by
 have q:=J (mm b Bm l w P H u C Q);have F:=i.lt;have A:=J i;have r:=J R;clear P i Q R;go_enter func64,ntmps64;go_wp2_with fail;refine q.o.l ?_;rintro e W ⟨v,f,rfl,D,u,y⟩;have t:f.length=l.length:=EU D.length_eq;have H:IY f=IY (l.map (·.c)):=by
  unfold IY;refine Cv (le:=λa b:Bs=>(!less b a)=true) (λa b _ _ k p=>?_) (CQ ?_ ?_ f) (CQ ?_ ?_ _) (((CV f _).i D).i (CV _ _).A)
  .simp at k p;exact Qf a b p k
  all_goals first
   | (intro a b c k p
      simp at k p |-;cases h:less c a with
      |false=>rfl
      |true=>
        cases B:less c b with
        |true=>rw[p]at B;cases B
        | false=>have:=Qf b c (by
                    cases K:less b c with
                    |false=>rfl
                    |true=>have:=Rm _ _ _ K h;rw[k]at this;cases this) B
                 subst this;rw[k]at h;cases h)
   | (intro a b
      simp;cases h:less b a with
      |false=>exact .w I
      |true=>exact .s (XD h))
 have L:∀s∈f,s.length<=1048576:=λs N=>by obtain⟨x,P,rfl⟩:=AZ.1 (D.mem_iff.1 N);exact r.o x P
 have K:=A.o.f y F;have G:=J H;clear H;rcases u.2 with⟨rfl,S⟩|⟨o,m,_,rfl,d,g,Q,R,T,V⟩
 .have r:=J (mS none 0 (.func (.func 66) #[] #[]) W);have A:f=[]:=Bu S;have q:Hid (W.r w.s 9 1 (.g) l.length ((IY (l.map (·.c))).map encStr)):=by
   have h:=u;rw[t]at h;show W.r w.s 9 1 (.g) l.length ((IY (l.map (·.c))).map encStr);rw[<-G.o,A];have e0:IY []=[]:=by simp[IY]
   rw[e0];rw[A]at h;exact h
  clear u t S A;go_wp2_with fail;refine Jj r.o ?_;go_wp2;go_ret;exact⟨_,I,q.o,y⟩
 have N:Holds encStr W o 0 f.toArray:=holds_of_block g (EU V);have i:o<W.s:=(BC.1 g).1;have r:=J (vA o m f W K U i L U N);have q:Hid (∀n z,(grow (putRow encStr (Sort.ahead W n) o 0 (IY f).toArray) z).r w.s 9 1 (.b o f.length m) l.length ((IY (l.map (·.c))).map encStr)):=λn z=>by rw[<-t,<-G.o];exact ownsRow_sorted (by simp[IY]) d g Q R T
 clear u N K L t T V g;go_wp2_with fail;refine r.o.l ?_;rintro e w' ⟨rfl,n,z,F⟩;have g:Hid (w.b w'):=by rw[F];exact y.C (grownBy_sorted _) y.size (λj t=>by cases t;exact d)
 have M:=q.o n z;rw[<-F]at M;clear F q r;go_wp2;go_ret;exact⟨_,I,M,g.o⟩
theorem ry(l:List It):(Eg l).map (·.c)=IY (l.map (·.c)):=by unfold Eg IY;exact List.map_mergeSort (f:=λx:It=>x.c) (r:=λx y:It=>!less y.c x.c) (s:=λx y=>!less y x) (l:=l) (λa _ b _=>rfl)
theorem KW(l:List It):(Eg l).length=l.length:=by simp[Eg]
theorem Eo{l:List It}{x:It}:x∈Eg l↔x∈l:=by simp[Eg]
theorem uW{w:Z}{c:Array Oper}{rest:List Oper}{o:Oper}{a:Act}{Q:Exit->Act->Z->Prop}(h:o.guard=none)(m:Operand)(d:o.op=Op.call {callee:=Callee.builtin Builtin.len,args:=#[m],argTypes:=#[77]}) (b:Nat) (l:List It) (i:a.eval m=.e b) (g:EH w b l) (j:(l.map (·.c)).Nodup) (f:wpList prog c Q rest (a.put o.dst (.a l.length)) w):wpList prog c Q (o::rest) a w:=by refine wpList_plain h λ_ e=>?_;unfold Oper.wp;simp[execOp,d,resolve,invoke,builtin,i,g.len j o.type,Result.andThen];exact e _ _ f
theorem oW{w:Z}{B gk cap n:Nat}{c:List Bs}(h:w.ownsRow B 9 1 (.b gk n cap) n (c.map encStr)){k:Nat}{p:Bs}(d:c[k]?=some p):w.cell? (O gk k)=some (.string (X p)):=by
 rcases h.2 with⟨e,_⟩|⟨g,_,a,e,_,j,_,_,_,f⟩
 .cases e
 cases e;rw[AU w gk k a 9 (0,0) j];have m:k<c.length:=(AN.1 d).1;have l:=h.1;simp at l;have b:=AX (λz:List Value=>z[k]?) f;simp only[Dk]at b;rw[Aq U,BI,d]at b;have i:a[k]?=some (encStr p):=EU b;exact i
theorem l8(b:Nat)(l:List It)(w:Z)(K:EH w b l)(s:(l.map (·.c)).Nodup)(f:l.length<=1000)(m:ML w)(B:∀x∈l,x.c.length<=1048576):Calls prog 37 #[.e b] w λe w'=>Below w.heap.size w w'/\∃v,e=.a v/\w'.ownsRow w.heap.size 39 5 v l.length (FF (Eg l)):=by
 obtain⟨i0,hi,o,y,r⟩:=An KS;obtain⟨a,z,L,P⟩:=run_make_own (P:=prog) w w.heap.size 26 39 i0 _ 5 underlying26 hi o y .i64 .i64 l.length (by rw[r];omega) Fs (AB _);have G:Below w.heap.size w a:=(AP _ w).C P (AB _) (λq d=>by cases d);have c:=K.lt;have n:w.heap.size<a.heap.size:=by
  rcases L.2 with⟨e,_⟩|⟨g,t,n,e,_,p,_⟩
  .cases e
  cases e;exact lt_of_heap p
 have M:EH (a.alloc (.cells #[.e b] 77)) b l:=(K.f G c).y (Jm);have Q:ML (a.alloc (.cells #[.e b] 77)):=(m.f G m.lt).f (Iy) U;have C:=J (wE (some b) a);have F:=J (u9 b a.heap.size l _ M s f Q B EJ EJ);have N:=J K;have T:=J s;have Hp:=J B;have f:=J P;clear K s m B M Q P;go_enter func37,ntmps37;go_wp2_with (first|(at_len;refine uW I _ I b l I N.o T.o ?_)|(go_at_call 65;refine C.o.l ?_;rintro e w' ⟨rfl,rfl⟩)|fail);refine F.o.l ?_;rintro e W ⟨v,rfl,B,s⟩;have K:=s.size;rw[BM]at K s;have M:Hid (Below w.heap.size w W):=(G.a).i (s.l U);have K:Hid (W.ownsRow w.heap.size 39 5 (.b w.heap.size 0 l.length) 0 []):=own_below (L.alloc _) s (λq d=>(by simpa[Value.ownBlock]using d:w.heap.size=q) ▸ U);have Q:=J B;clear B z C F s L f G;obtain⟨R,s,rfl,m⟩:∃R s,v=.slice R l.length s/\Hid (l≠[]->∃gk,R=FH gk/\a.heap.size<gk/\gk<W.heap.size/\∀k x,(Eg l)[k]?=some x->W.cell? (O gk k)=some (.string (X x.c))):=by
  rcases Q.o.2 with⟨rfl,B⟩|⟨gk,t,n,rfl,f,p,L,P,_,_⟩
  .refine⟨none,0,by rw[B],J (λC=>absurd (Bu B) C)⟩
  refine⟨FH gk,t,I,J (λ_=>⟨gk,I,by simp at f;omega,lt_of_heap p,λk x n=>?_⟩)⟩;refine oW Q.o ?_;rw[<-ry,BI,n];rfl
 clear Q;go_wp2;go_loopw [3,14] (λv i wr=>∃(k:Nat) (A:Option Addr) (H:Nat),v=.slice A k H/\k<=l.length/\i=.a k/\Hid (wr.ownsRow w.heap.size 39 5 v k (FF ((Eg l).take k)))/\Hid (Below w.heap.size w wr)/\Hid (∀j,a.heap.size<j->j<W.heap.size->wr.heap[j]?=W.heap[j]?)/\Hid (v.ownBlock=some w.heap.size\/∃q,v.ownBlock=some q/\W.heap.size<=q)/\W.heap.size<=wr.heap.size) (λ_ i _=>l.length-(intOf i).toNat)
 case atStart=>exact⟨0,_,_,I,AW _,I,K,M,J (λ_ _ _=>rfl),J (.w I),AB _⟩
 case round=>
  obtain⟨k,A,H,rfl,_,rfl,C,z,M,B,t⟩:=hrel;by_cases S:k<l.length
  .obtain⟨x,n⟩:∃x,(Eg l)[k]?=some x:=⟨_,AE (by rw[KW];exact S)⟩;have V:x∈l:=Eo.1 (AY n);obtain⟨gk,rfl,f,G,F⟩:=m.o (λh=>by rw[h]at S;simp at S);have K:wr.cell? (O gk k)=some (.string (X x.c)):=(AK (M.o gk f G)).i (F k x n);have G:=N.o.f z.o c;have p:=(G.b (p:=x.c) (by have:=Hp.o x V;unfold maxLen;omega) (at_mem T.o V)).2;have f:=J n;have R:=z.o.size;unfold Gm nd at p;simp only at p;obtain⟨c,s⟩:=E (X x.c);obtain⟨D,m⟩:∃c,c=X x.data:=⟨_,I⟩;obtain⟨S,T⟩:∃c,c=x.d:=⟨_,I⟩;rw[<-s]at K p;rw[<-m,<-T]at p;have c:=J s;have Q:=J m;have N:=J T;clear n s m T G F V;go_wp2_with (at_builtin;refine wpList_append_own_at _ I _ _ 26 I w.heap.size 39 i0 _ 5 56 underlying26 hi o y r I EB _ _ _ I ((C.o.alloc _).alloc _) ⟨wr.heap.size+1,0,none⟩ 1 1 (KP x) I ?e1 ?e2 ?e3 ?e4 ?e5 ?e6 ?_)
   case e1=>rfl
   case e2=>intro j u m;rw[addr_add];have h:=(P1 (wr.alloc (.cells #[.bool S,.string D,.a x.a,.a x.b] 117)) x).cell m;unfold boxed at h;rw[<-c.o,<-Q.o,<-N.o]at h;simpa using h
   case e3=>intro u m;exact O8 (l:=[x]) u (by rw[QX];exact m)
   case e4=>unfold maxLen;omega
   case e5=>omega
   case e6=>simp;omega
   intro _ o N s _ G;obtain⟨y,r,rfl⟩:=Qa N;have F:=(((BF wr _ (Value.slice A k H).ownBlock).i (BF _ _ _)).i s);have m:Hid (o.ownsRow w.heap.size 39 5 (.b y (k+1) r) (k+1) (FF ((Eg l).take (k+1)))):=by show o.ownsRow w.heap.size 39 5 (.b y (k+1) r) (k+1) (FF ((Eg l).take (k+1)));rw[Al,f.o,RU];have e:FF (some x).toList=KP x:=QX x;rw[e];exact N
   have V:Hid (Below w.heap.size w o):=z.o.C F R (λq d=>by
    rcases B.o with h|⟨n,h,f⟩
    .rw[h]at d;cases d;exact AB _
    rw[h]at d;cases d;omega)
   have c:Hid (∀j,a.heap.size<j->j<W.heap.size->o.heap[j]?=W.heap[j]?):=λj L P=>by
    rw[F.u j U (λe=>?_)]
    .exact M.o j L P
    rcases B.o with h|⟨n,h,f⟩
    .rw[h]at e;cases e;omega
    rw[h]at e;cases e;omega
   have a:Hid ((Value.slice (FH y) (k+1) r).ownBlock=some w.heap.size\/∃q,(Value.slice (FH y) (k+1) r).ownBlock=some q/\W.heap.size<=q):=by
    rcases G with h|h
    .rw[h];exact B.o
    exact .s ⟨_,h,by first|omega|(simp;omega)⟩
   have d:W.heap.size<=o.heap.size:=AG t F.size;clear N s F G p K B M C;go_wp2;go_roundw
   case rel=>exact⟨k+1,FH y,r,I,by omega,by go_num,m,V,c,a,d⟩
   case measure=>simp[intOf];omega
  have F:Hid (wr.ownsRow w.heap.size 39 5 (.slice A k H) l.length (FF (Eg l))):=by have h:=C.o;have e:k=l.length:=U;rw[e]at h |-;rw[AT (by rw[KW];exact AB _)]at h;exact h
  clear C;go_wp2;go_ret;exact⟨z.o,_,I,F.o⟩
end
section
open Go.RowKit Go.Nt
variable {w:Z} {g:Nat} {l:List It}
theorem mT(P:Program)(w:Z)(p B C d:TypeId)(f:Nat)(g o c h:Nat)(a:Addr)(e m:Nat)(b:Array Value)(t:TypeId)(cs:List Value) (A:P.underlying p=some (.slice d)) (q:(P.info? d).map (·.size)=some f) (u:w.heap[g]?=some (.cells b t (0,0))) (z:cs.length=Nat.min e c*f) (l:∀j v,cs[j]?=some v->w.cell? (a.add j)=some v) (k:o+cs.length<=b.size) (s:∀v∈cs,v.oneCell'=true):(Builtin.copy_ #[p,B] C #[.slice (some (O g o)) c h,.slice (some a) e m]).run P w = .ok (goInt (Nat.min e c:Nat)) (w.setRow g (b.toList.take o++cs++b.toList.drop (o+cs.length)).toArray):=by
 have y:=run_loadCells_list (P:=P) w a cs l;have r:=run_storeCells_at P g o t cs 0 b w u (EU k) s;cases n:P.info? d with
 |none=>simp[n]at q
 |some i=>
  have x:i.size=f:=by simpa[n]using q
  simp[Builtin.copy_,C7 A,Builtin.lenOf,Builtin.firstCells,sizeOf,typeInfo,n,x,<-z,y,r]
theorem og(P:Program)(w:Z)(f k l b:TypeId)(a:Addr)(e d c:Nat)(j:P.underlying f=some (.slice b))(h:((P.info? b).map (·.size)).isSome=true):(Builtin.copy_ #[f,k] l #[.slice (some a) e d,.slice none 0 c]).run P w=.ok (goInt 0) w:=by
 cases g:P.info? b with
 |none=>simp[g]at h
 |some i=>simp[Builtin.copy_,C7 j,Builtin.lenOf,Builtin.firstCells,sizeOf,typeInfo,g,storeCells]
theorem QH:(prog.info? 39).map (·.size)=some 5:=EG
theorem te(n:Nat):madeCells #[.string ByteArray.empty,.bool false,.string ByteArray.empty,.a 0,.a 0] (n*5)=(FF (H9 n 0)).toArray:=by
 apply Array.ext_getElem?;intro j;have g:(FF (H9 n 0)).toArray[j]?=(FF (H9 n 0))[j]? := by simp
 rw[g];by_cases c:j<n*5
 .have d:j/5<n:=U;have h:(H9 n 0)[j/5]?=some (I5 0):=by simp[H9,d]
  have e:j=j/5*5+j%5:=U;have a:=OK h (j%5) U;rw[<-e]at a;rw[a];unfold madeCells;rw[Array.getElem?_map,Array.getElem?_range,AD c];have b:j%5<5:=U;have key:∀q,q<5->(some ((#[Value.string ByteArray.empty,.bool false,.string ByteArray.empty,.a 0,.a 0]:Array Value)[q]!))=(KP (I5 0))[q]? := by
   intro q f;match q,f with
   |0,_=>rfl
   |1,_=>rfl
   |2,_=>rfl
   |3,_=>rfl
   |4,_=>rfl
  exact key (j%5) b
 rw[Ay (by rw[N5,Qd];omega)];rw[Array.getElem?_eq_none (by rw[size_madeCells];omega)]
def FP(w:Z)(g:Nat)(l:List It):Prop:=w.heap[g]?=some (.cells (FF l).toArray 39 (0,0))
theorem FP.cells(h:FP w g l):∀k (x:It),l[k]?=some x->F6 w g (k*5) x:=by
 intro k x c;refine F6.of_cells λj u a=>?_;have b:j<5:=by have:=(AN.1 a).1;simpa[KP]using this
 rw[AU w g _ _ 39 (0,0) h,List.getElem?_toArray,OK c j b];exact a
theorem FP.frozen(h:FP w g l)(j:Nat):w.frozen? (O g j)=false:=Fg j h
theorem FP.f{w':Z}{B:Nat}(h:FP w g l)(b:Below B w w')(a:g<B):FP w' g l:=(b.u g a).i h
theorem FP.front{m:List It}(h:FP w g (l++m)):Eh w (FH g) l:=λ_=>⟨g,0,I,λk x a=>by rw[Ak];exact h.cells k x (by rw[BG (AN.1 a).1];exact a)⟩
theorem FP.a{w:Z}{g:Nat}{l:List It}{k:Nat}{x:It}(h:FP w g l)(a:l[k]?=some x)(m:Int):FP (w.setCell (O g (k*5+3)) (.a m)) g (l.set k {x with a:=m}):=by
 have c:=(AN.1 a).1;unfold FP;rw[AJ w g (k*5+3) _ 39 _ h];congr 2;apply Array.toList_inj.1;rw[Array.toList_setIfInBounds,<-Z1 l k {x with a:=m} c];have q0:=OK a 0 U;have q1:=OK a 1 U;have q2:=OK a 2 U;have q4:=OK a 4 U;have s:∀(L:List Value) i u,L[i]?=some u->L.set i u=L:=λL i u h=>by obtain⟨b,rfl⟩:=AN.1 h;exact List.set_getElem_self b
 have e0:(FF l).set (k*5) (.string (X x.c))=FF l:=s _ _ _ q0;have e1:(FF l).set (k*5+1) (.bool x.d)=FF l:=s _ _ _ q1;have e2:(FF l).set (k*5+2) (.string (X x.data))=FF l:=s _ _ _ q2;rw[show(FF l).set (k*5) (.string (X ({x with a:=m}:It).c))=FF l from e0,show(FF l).set (k*5+1) (.bool ({x with a:=m}:It).d)=FF l from e1,show(FF l).set (k*5+2) (.string (X ({x with a:=m}:It).data))=FF l from e2];symm;apply s;rw[Dl U];exact q4
theorem pQ(a:Option Addr)(c:Nat)(l:List It)(w:Z)(P:Eh w a l)(hn:l.length<=1048576):Calls prog 95 #[.slice a l.length c] w λe w'=>e=.a (.b w.heap.size (l.length+2) (l.length+2))/\Below w.heap.size w w'/\FP w' w.heap.size (l++H9 2 (-77)):=by
 obtain⟨p,N,D,K,F⟩:=An KS;obtain⟨n,f⟩:=E l.length;have H:=run_make (P:=prog) w 26 39 p _ underlying26 N D .i64 .i64 ((n:Int)+2) ((n:Int)+2) U U (by rw[F];omega) U;rw[show((n:Int)+2).toNat=n+2 by omega,K,show(Value.agg #[.string ByteArray.empty,.bool false,.string ByteArray.empty,.a 0,.a 0]).cells=#[.string ByteArray.empty,.bool false,.string ByteArray.empty,.a 0,.a 0]from I,te]at H;obtain⟨g,p⟩:=E (w.alloc (.cells (FF (H9 (n+2) 0)).toArray 39));have B:=Gi p;have q:=JK p;rw[<-p]at H;have z:Nat.min n (n+2)=n:=Bz U;have W:∃d,(Builtin.copy_ #[26,26] 3 #[.b w.s (n+2) (n+2),.slice a n c]).run prog g=.ok (.a n) d/\FP d w.s (l++H9 2 0)/\w.b d:=by
  have t:FP g w.s (H9 n 0++H9 2 0):=by
   have e:H9 n 0++H9 2 0=H9 (n+2) 0:=by unfold H9;rw[List.replicate_append_replicate]
   rw[e];exact B
  have L:∀h:Addr,a=some h->(∀j u,(FF l)[j]?=some u->g.cell? (h.add j)=some u)->∃d,(Builtin.copy_ #[26,26] 3 #[.b w.s (n+2) (n+2),.slice a n c]).run prog g=.ok (.a n) d/\FP d w.s (l++H9 2 0)/\w.b d:=by
   intro h i m;subst i;have A:(FF l).length=n*5:=by rw[N5,f]
   have Q:=mT prog g 26 26 3 39 5 w.s 0 (n+2) (n+2) h n c _ 39 (FF l) underlying26 QH t (by rw[z,A]) m (by rw[A,BV,N5,AM,Qd,Qd];omega) O8;rw[z]at Q;refine⟨_,Q,?_,below_setRow q (AB _) _⟩;unfold FP;rw[setRow_heap g w.s _ _ 39 _ t];congr 3;rw[DO,BB,Ak,A,RU,RU,List.drop_append_of_le_length (by rw[N5,Qd];exact AB _),List.drop_of_length_le (by rw[N5,Qd];exact AB _),BB]
  by_cases r:l=[]
  .have o:n=0:=by rw[f,r];rfl
   cases i:a with
   |none=>subst o;refine⟨g,og prog g 26 26 3 39 _ _ _ c underlying26 (by rw[QH];rfl),?_,q⟩;rw[r];exact t
   |some h=>rw[<-i];exact L h i (λj u R=>by rw[r]at R;simp[FF]at R)
  obtain⟨b,_,i,M⟩:=P r;exact L _ i (TB λk x S=>(M k x S).f q (M k x S).lt)
 obtain⟨d,_,o,G⟩:=W;have y:(l++H9 2 0)[n]?=some (I5 0):=by rw[Ao U,f];simp[H9]
 have m:=o.a y (-77);have v:((l++H9 2 0).set n {I5 0 with a:=-77})[n+1]?=some (I5 0):=by rw[Dl U,Ao U,f];simp[H9]
 have s:=m.a v (-77);have C:((l++H9 2 0).set n {I5 0 with a:=-77}).set (n+1) {I5 0 with a:=-77}=l++H9 2 (-77):=by have e:H9 2 0=[I5 0,I5 0]:=I;rw[e,f,CK _ _ (AB _),CK _ _ U];simp;rfl
 rw[C]at s;have c3:d.g w.s (n*5+3) (.a 0):=(o.cells n _ y).2.2.2.1;have f3:=o.frozen (n*5+3);have d3:(d.c w.s (n*5+3) (.a (-77))).cell? ⟨w.s,(n+1)*5+3,none⟩=some (.a 0):=(m.cells (n+1) _ v).2.2.2.1;have d:=m.frozen ((n+1)*5+3);have V:=J ((G.setCell (p:=⟨w.s,n*5+3,none⟩) (AB _) (.a (-77))).setCell (p:=⟨w.s,(n+1)*5+3,none⟩) (AB _) (.a (-77)));have T:=J s;rw[<-f];rw[<-f]at hn;have d:=J f;clear B o m s q G p C y v P z f N D K F;go_enter func95,ntmps95;go_wp2;go_ret;exact⟨I,V.o,T.o⟩
theorem nW(x y:It)(w:Z):(binOp .eql 39 (Jg x) (Jg y)).run prog w=.ok (.bool (decide (x=y))) w:=by have h:=jQ x y w;unfold Jg at *;rw[run_eql_struct,h];rfl
theorem fE(G:Nat)(a:Option Addr)(c:Nat)(l:List It)(w:Z)(d:FP w G (l++H9 2 (-77)))(j:Eh w a l)(g:l.length<=1048576):Calls prog 97 #[.b G (l.length+2) (l.length+2),.slice a l.length c] w λe w'=>e=.a (.bool true)/\∃q,w'=w.drewN q:=by
 have b:=J (Io (FH G) a (l.length+2) c l l w d.front j g g);have q0:=d.cells l.length (I5 (-77)) (by rw[Ao (AB _)];simp[H9]);have q1:=d.cells (l.length+1) (I5 (-77)) (by rw[Ao U];simp[H9]);obtain⟨n,f⟩:=E l.length;have k:∀w,(binOp .eql 39 (.agg #[.string ByteArray.empty,.bool false,.string ByteArray.empty,.a (-77),.a 0]) (.agg #[.string ByteArray.empty,.bool false,.string ByteArray.empty,.a (-77),.a 0])).run prog w=.ok (.bool true) w:=λw=>by have h:=nW (I5 (-77)) (I5 (-77)) w;rw[Bj I]at h;exact h
 have i:=YD;rw[<-f]at b g q0 q1 |-;have m:=J f;rw[Bj I]at b;obtain⟨y,z,A,B,C⟩:=q0;obtain⟨D,F,H,K,L⟩:=q1;have s:∀q,(w.drewN q).cell? (O G (n*5))=some (.string ByteArray.empty):=λq=>by rw[AK (w:=w) EJ];exact y
 have t:∀q,(w.drewN q).cell? (O G (n*5+1))=some (.bool false):=λq=>by rw[AK (w:=w) EJ];exact z
 have u:∀q,(w.drewN q).cell? (O G (n*5+2))=some (.string ByteArray.empty):=λq=>by rw[AK (w:=w) EJ];exact A
 have v:∀q,(w.drewN q).cell? (O G (n*5+3))=some (.a (-77)):=λq=>by rw[AK (w:=w) EJ];exact B
 have x:∀q,(w.drewN q).cell? (O G (n*5+4))=some (.a 0):=λq=>by rw[AK (w:=w) EJ];exact C
 have k:∀q,(w.drewN q).cell? ⟨G,(n+1)*5,none⟩=some (.string ByteArray.empty):=λq=>by rw[AK (w:=w) EJ];exact D
 have m:∀q,(w.drewN q).cell? ⟨G,(n+1)*5+1,none⟩=some (.bool false):=λq=>by rw[AK (w:=w) EJ];exact F
 have o:∀q,(w.drewN q).cell? ⟨G,(n+1)*5+2,none⟩=some (.string ByteArray.empty):=λq=>by rw[AK (w:=w) EJ];exact H
 have p:∀q,(w.drewN q).cell? ⟨G,(n+1)*5+3,none⟩=some (.a (-77)):=λq=>by rw[AK (w:=w) EJ];exact K
 have r:∀q,(w.drewN q).cell? ⟨G,(n+1)*5+4,none⟩=some (.a 0):=λq=>by rw[AK (w:=w) EJ];exact L
 clear y z A B C D F H K L f d j;go_enter func97,ntmps97;go_wp2_with fail;refine b.o.l ?_;rintro e w' ⟨rfl,q,i⟩;have d:=s q;have f:=t q;have Q:=u q;have V:=v q;have W:=x q;have R:=k q;have P:=m q;have N:=o q;have S:=p q;have T:=r q;rw[<-i]at d f Q V W R P N S T;have M:=J i;clear s t u v x k m o p r i b;go_wp2;go_ret;exact⟨I,q,M.o⟩
theorem S3{B:Nat}{w W:Z}(h:Below B w W)(q:Nat):Below B w (W.drewN q):=below_drewN h q
theorem xv{l:List It}{k:Nat}{x:It}(h:l[k]?=some x):GF (l.take (k+1))=GF (l.take k)+(16+x.c.length+x.data.length):=by rw[Al,h];unfold GF;simp[Au,List.sum_append]
end
section
open Go.RowKit Go.Nt
variable {w w':Z} {sb:Nat} {a:Option Addr} {l:List It}
theorem ZD(w:Z)(p n d:Nat)(L:Y.Loc)(m:Y.M)(C:Y.WF m)(h:Y.CP w p n d L m):Calls prog 55 #[.c d] w λe w'=>e=.a (.a (Y.ER m:Nat))/\w'=w:=by
 have f:=J (Y.GC w p n d L m h);have q:=J (λi (o:i<m.a)=>by have:=Y.KA w p n d L m (i:Nat) h;rw[Y.K7 m o]at this;exact this);have z:=C.a;obtain⟨a,l⟩:=E m.a;rw[<-l]at f q z;change Hid _ at l;go_enter func55,ntmps55;go_wp2_with fail;go_loopw [3,4] (λg i wr=>wr=w/\∃k c:Nat,k<=a/\i=.a k/\g=.a c/\c<=k/\Hid (c=(List.range k).countP λi=>m.e i)) (λ_ i _=>a-(intOf i).toNat)
 .exact⟨I,0,0,AW _,I,I,AB _,J I⟩
 .obtain⟨rfl,k,c,_,rfl,rfl,_,r⟩:=hrel;by_cases v:k<a
  .have u:(k:Int)<(a:Nat):=U;have A:=J (q k v);have j:Hid ((List.range (k+1)).countP (λi=>m.e i)=c+if m.e k then 1 else 0):=J (by rw[Be,List.countP_append,<-r.o];cases t:m.e k<;>simp[t])
   obtain⟨b,s⟩:=E (m.e k);rw[<-s]at A j;clear s;go_wp2_with fail;refine Jj f.o ?_;go_wp2_with fail;refine Jj A.o ?_;cases b with
   |true=>
    go_wp2_with fail;go_roundw
    .exact⟨trivial,k+1,c+1,by omega,by go_num,by go_num,by omega,J (by rw[j.o];simp)⟩
    .simp[intOf];omega
   |false=>
    go_wp2_with fail;go_roundw
    .exact⟨trivial,k+1,c,by omega,by go_num,I,by omega,J (by rw[j.o];simp)⟩
    .simp[intOf];omega
  have x:k=a:=U;have u:¬(k:Int)<(a:Nat):=U;go_wp2_with fail;refine Jj f.o ?_;go_wp2_with fail;go_ret;have y:Y.ER m=c:=by have B:=r;unfold Y.ER;rw[<-l.o,<-x];exact B.A
  exact⟨by rw[y];rfl,I⟩
def JU(l:List It)(FT pages:Nat):Bool:=decide (4<=FT)&&decide (GF l<=FT*pages*4)
theorem yB(a:Option Addr)(c:Nat)(l:List It)(g p:Nat)(w:Z)(H:Eh w a l)(V:l.length<=1000)(L:∀x∈l,x.c.length<=1048576)(K:∀x∈l,x.data.length<=1048576)(T:g<=32)(z:p<=16):Calls prog 210 #[.slice a l.length c,.a g,.a p] w λe w'=>e=.a (.bool (JU l g p))/\∃q,w'=w.drewN q:=by
 obtain⟨N,n⟩:=E l.length;rw[<-n]at V |-;change Hid _ at n H L K;go_enter func210,ntmps210;go_wp2;go_loopw [7,8] (λs i wr=>∃k m:Nat,k<=N/\i=.a k/\s=.a m/\m<=k*4000000/\(∃q,wr=w.drewN q)/\Hid (m=GF (l.take k))) (λ_ i _=>N-(intOf i).toNat)
 .exact⟨0,0,AW _,I,I,by omega,⟨0,I⟩,J (by simp[GF])⟩
 .obtain⟨k,m,_,rfl,rfl,_,⟨q,rfl⟩,o⟩:=hrel;by_cases f:k<N
  .have j:k<l.length:=Dz n.o;obtain⟨_,_,rfl,F⟩:=H (λh=>by rw[h]at j;simp at j);obtain⟨x,f⟩:∃x,l[k]?=some x:=⟨_,AE j⟩;obtain⟨W,r,C,b,t⟩:=F k x f;have S:=L x (AY f);have Q:=K x (AY f);have M:=J (xv f);obtain⟨d,y⟩:=E (X x.c);obtain⟨D,v⟩:=E (X x.data);have A:d.size=x.c.length:=by rw[y,EF]
   have B:D.size=x.data.length:=by rw[v,EF]
   rw[<-y]at W;rw[<-v]at C;have u:d.size<=1048576:=U;have u:D.size<=1048576:=U;change Hid _ at A B;clear F f j r b t y v S Q;go_wp2;go_quiet (fail);go_wp2;go_roundw
   .exact⟨k+1,m+16+d.size+D.size,by omega,by go_num,by go_num,by omega,⟨_,I⟩,J (by rw[M.o,<-o.o,A.o,B.o];omega)⟩
   .simp[intOf];omega
  have v:k=N:=U;have C:Hid (m=GF l):=J (by have:=o;rw[AT (Dz n.o)]at this;exact this);have r:m<=4000000000:=U;have y:g*p<=512:=by
   calc g*p<=32*16:=Co T z
    _<=512:=U
  obtain⟨b,r⟩:=E (g*p);have j:(g:Int)*(p:Int)=(b:Nat):=by rw[r];push_cast;rfl
  have F:=zW (x:=(b:Int));have Q:=zW (x:=((b:Int)*4));have t:Hid (JU l g p=(decide (4<=g)&&decide (m<=b*4))):=J (by unfold JU;rw[C.o,r]);clear o C r;by_cases u:4<=g
  .have P:(4:Int)<=(g:Nat):=U;by_cases G:m<=b*4
   .have R:(m:Int)<=(b:Nat)*4:=U;go_wp2;go_ret;exact⟨by rw[t.o];simp[u,G],_,I⟩
   have R:¬(m:Int)<=(b:Nat)*4:=U;go_wp2;go_ret;exact⟨by rw[t.o];simp[u,G],_,I⟩
  have P:¬(4:Int)<=(g:Nat):=U;go_wp2;go_ret;exact⟨by rw[t.o];simp[u],_,I⟩
abbrev Sl:=Option Addr×Nat×Nat
def sl(x:Sl):Value:=.slice x.1 x.2.1 x.2.2
structure Sv where
 c:Nat
 f:Option Nat
 g:Sl
 a:Sl
 h:Bool
 e:Bool
 free:Bool
 m:Nat
 d:Sl
 b:Sl
def Sv.arr(s:Sv):Array Value:=#[.c s.c,.pointer (s.f.map λb=>⟨b,0,none⟩),.slice s.g.1 s.g.2.1 s.g.2.2,.slice s.a.1 s.a.2.1 s.a.2.2,.bool s.h,.bool s.e,.bool s.free,.a s.m,.slice s.d.1 s.d.2.1 s.d.2.2,.slice s.b.1 s.b.2.1 s.b.2.2]
def ES(w:Z)(sb:Nat)(s:Sv):Prop:=w.heap[sb]?=some (.cells s.arr 106 (0,0))
theorem ES.y{s:Sv}(h:ES w sb s)(e:w'.heap[sb]?=w.heap[sb]?):ES w' sb s:=e.i h
theorem ES.cell{s:Sv}(h:ES w sb s)(k:Nat):w.cell? (O sb k)=s.arr[k]? := AU w sb k _ 106 (0,0) h
theorem ES.frozen{s:Sv}(h:ES w sb s)(k:Nat):w.frozen? (O sb k)=false:=by unfold ES at h;simp[World.frozen?,h]
theorem ES.YC{s:Sv}(h:ES w sb s)(x:Nat):ES (w.setCell (O sb 0) (.c x)) sb {s with c:=x}:=AJ w sb 0 _ 106 _ h
theorem ES.b{s:Sv}(h:ES w sb s)(x:Option Nat):ES (w.setCell (O sb 1) (.pointer (x.map λb=>⟨b,0,none⟩))) sb {s with f:=x}:=AJ w sb 1 _ 106 _ h
theorem ES.OI{s:Sv}(h:ES w sb s)(x:Sl):ES (w.setCell (O sb 2) (.slice x.1 x.2.1 x.2.2)) sb {s with g:=x}:=AJ w sb 2 _ 106 _ h
theorem ES.NK{s:Sv}(h:ES w sb s)(x:Sl):ES (w.setCell (O sb 3) (.slice x.1 x.2.1 x.2.2)) sb {s with a:=x}:=AJ w sb 3 _ 106 _ h
theorem ES.Lk{s:Sv}(h:ES w sb s)(x:Bool):ES (w.setCell (O sb 4) (.bool x)) sb {s with h:=x}:=AJ w sb 4 _ 106 _ h
theorem ES.Sj{s:Sv}(h:ES w sb s)(x:Bool):ES (w.setCell (O sb 5) (.bool x)) sb {s with e:=x}:=AJ w sb 5 _ 106 _ h
theorem ES.NC{s:Sv}(h:ES w sb s)(x:Bool):ES (w.setCell (O sb 6) (.bool x)) sb {s with free:=x}:=AJ w sb 6 _ 106 _ h
theorem ES.QR{s:Sv}(h:ES w sb s)(x:Sl):ES (w.setCell (O sb 8) (.slice x.1 x.2.1 x.2.2)) sb {s with d:=x}:=AJ w sb 8 _ 106 _ h
theorem ES.PW{s:Sv}(h:ES w sb s)(x:Sl):ES (w.setCell (O sb 9) (.slice x.1 x.2.1 x.2.2)) sb {s with b:=x}:=AJ w sb 9 _ 106 _ h
theorem MR(w:Z)(a k:Nat)(v:Value):Y.Ed a (a+1) w (w.setCell (O a k) v):=(Y.Ed.refl _ _ _).set ⟨AB _,by omega⟩ k v
def Ks(s:Sv)(m:Y.M):Bool:=s.free||decide (s.m<Y.ER m)
theorem ZC(w:Z)(a:Nat)(s:Sv)(v u:Nat)(L:Y.Loc)(m:Y.M)(i:ES w a s)(C:Y.WF m)(A:Y.CP w v u s.c L m):Calls prog 103 #[.c a] w λe w'=>e=.a (.bool (Ks s m))/\ES w' a {s with free:=Ks s m}/\Y.Ed a (a+1) w w':=by
 obtain⟨h,f,k,j,r,q,b,g,c,d⟩:=s;have c0:w.drew.cell? (O a 0)=some (.c h):=i.cell 0;have c7:w.drew.cell? (O a 7)=some (.a g):=i.cell 7;have c6:w.drew.cell? (O a 6)=some (.bool b):=i.cell 6;have D:w.drew.frozen? (O a 6)=false:=i.frozen 6;have B:=J (ZD w.drew v u h L m C (Y.EM.f A (AB _) (AP _ _).drew));have l:Hid (ES w.drew a ⟨h,f,k,j,r,q,b,g,c,d⟩):=J i;obtain⟨o,t⟩:=E (Y.ER m);rw[<-t]at B;have z:Ks ⟨h,f,k,j,r,q,b,g,c,d⟩ m=(b||decide (g<o)):=by unfold Ks;rw[t]
 rw[z];go_enter func103,ntmps103;by_cases n:g<o
 .have y:(g:Int)<(o:Nat):=U;go_wp2_with fail;go_region_held3 (λV=>V.cell? (O a 0)=some (.c h)/\V.cell? (O a 7)=some (.a g)) (go_keep) (first
   | (go_at_call 55;refine Jj B.o ?_))
  rename_i hHeld;obtain⟨W,p⟩:=E w.drew;rw[<-p]at l D c6 |-;have F:(W.setCell (O a 6) (.bool true)).cell? (O a 6)=some (.bool true):=(l.o.NC true).cell 6;have x:Hid (Y.Ed a (a+1) w W):=J (by rw[p];exact(Y.Ed.refl _ _ _).drew);clear p c0 c7 B;go_wp2_with fail;go_ret;refine⟨by simp[n],?_,x.o.i (MR _ _ _ _)⟩;have:=l.o.NC true;simpa[n]using this
 have y:¬(g:Int)<(o:Nat):=U;go_wp2_with fail;go_region_held3 (λV=>V.cell? (O a 0)=some (.c h)/\V.cell? (O a 7)=some (.a g)) (go_keep) (first
  | (go_at_call 55;refine Jj B.o ?_))
 rename_i hHeld;go_wp2_with fail;go_ret;refine⟨by simp[n],?_,(Y.Ed.refl _ _ _).drew⟩;simpa[n]using l.o
theorem Eh.only(h:Eh w a l)(g:∀b off,a=some (O b off)->l≠[]->w'.heap[b]?=w.heap[b]?):Eh w' a l:=λd=>by obtain⟨b,off,e,f⟩:=h d;refine⟨b,off,e,λk x i=>?_⟩;have c:=g b off e d;obtain⟨j,m,n,o,p⟩:=f k x i;exact⟨by rw[AK c];exact j,by rw[AK c];exact m,by rw[AK c];exact n,by rw[AK c];exact o,by rw[AK c];exact p⟩
theorem ES.apart{s:Sv}(j:ES w sb s)(h:Eh w a l)(f:l≠[]){b off:Nat}(e:a=some (O b off)):b≠sb:=by
 intro i;subst i;obtain⟨_,_,d,g⟩:=h f;rw[e]at d;cases d;cases l with
 |nil=>exact f I
 |cons x l=>
  obtain⟨k,_⟩:=g 0 x I;have c:w.cell? (O b off)=some (.string (X x.c)):=EU k;rw[j.cell off]at c;unfold Sv.arr at c;match off,c with
  |0,c=>simp at c
  |1,c=>simp at c
  |2,c=>simp at c
  |3,c=>simp at c
  |4,c=>simp at c
  |5,c=>simp at c
  |6,c=>simp at c
  |7,c=>simp at c
  |8,c=>simp at c
  |9,c=>simp at c
  |_+10,c=>simp at c
theorem Eh.c{s:Sv}(c:Eh w a l)(i:ES w sb s)(h:Y.Ed sb (sb+1) w w'):Eh w' a l:=
 c.only λb _ e d=>by
  have j:=i.apart c d e;refine h.u b ?_ U;obtain⟨_,_,f,g⟩:=c d;rw[e]at f;cases f;cases l with
  |nil=>exact absurd I d
  |cons x l=>exact Am w _ (g 0 x I).1
theorem Y.EM.c{b a c:Nat}{L:Y.Loc}{m:Y.M}(h:Y.CP w b a c L m)(f:a<=w.heap.size)(e:¬(b<=sb/\sb<a))(d:Y.Ed sb (sb+1) w w'):Y.CP w' b a c L m:=
 Y.EM.a h λk _ _=>d.u k U U
theorem yH(w:Z)(b:Nat)(s:Sv)(h d:Nat)(L:Y.Loc)(m:Y.M)(a:Option Addr)(c:Nat)(l:List It)(j:ES w b s)(f:Y.WF m)(T:Y.CP w h d s.c L m)(G:d<=w.heap.size)(F:¬(h<=b/\b<d))(W:Eh w a l)(hn:l.length<=1000)(hp:∀x∈l,x.c.length<=1048576)(hd:∀x∈l,x.data.length<=1048576):Calls prog 156 #[.c b,.slice a l.length c] w λe w'=>e=.a (.bool (JU l (Y.FT m) m.d && !Ks s m))/\ES w' b {s with free:=Ks s m}/\Y.Ed b (b+1) w w':=by
 have i:=Y.EM.f T (AB _) (AP _ _).drew;have t:=J (Y.GC w.drew h d s.c L m i);have u:=J (ZD w.drew h d s.c L m f i);have K:=J (ZC w.drew b s h d L m j f i);have c0:w.drew.cell? (O b 0)=some (.c s.c):=j.cell 0;have Q:=Y.FV m;have aw:=f.a;obtain⟨R,p⟩:=E (Y.ER m);obtain⟨nb,r⟩:=E m.a;obtain⟨g,D⟩:=E (Y.FT m);have P:g=nb-R:=by rw[D,p,r];rfl
 have av:(nb:Int)-(R:Int)=(g:Nat):=by rw[P];rw[<-p,<-r]at Q;omega
 have wg:=zW (x:=(g:Int));have a7:g<=32:=U;have a6:=f.b;rw[<-p]at u;rw[<-r]at t;obtain⟨np,A⟩:=E m.d;have au:=J A;rw[<-D,<-A];obtain⟨fr,M⟩:=E (Ks s m);rw[<-M]at K |-;have ar:=J j;have ai:=J (W.c j (Y.Ed.refl _ _ _).drew);change Hid _ at i;have Hw:=J f;change Hid _ at hp hd;obtain⟨S,k⟩:=E s.c;rw[<-k]at c0 t u;obtain⟨n,y⟩:=E l.length;change Hid _ at k;have N:=J y;rw[<-y]at hn |-;clear T j W f p r D P M y Q A;go_enter func156,ntmps156;go_wp2_with fail;go_region_held3 (λV=>V.cell? (O b 0)=some (.c S)) (go_keep) (first
  | (go_at_call 76;refine Jj t.o ?_)
  | (go_at_call 55;refine Jj u.o ?_))
 rename_i hHeld;go_wp2_with fail;refine K.o.l ?_;rintro e H ⟨rfl,B,z⟩;have aj:=Y.EM.c i (EU G) F z;have am:=ai.o.c ar z;have k0:H.cell? (O b 0)=some (.c S):=by rw[k.o];exact B.cell 0
 have v:=J (Y.GH H h d s.c L m aj);have o:=J (yB a c l g m.d H am (by rw[<-N.o];exact hn) hp hd a7 a6);rw[<-k.o]at v;rw[<-N.o]at o;rw[<-au.o]at v o;change Hid _ at B;have ah:=J (Y.Ed.i (Y.Ed.refl _ _ _).drew z);obtain⟨rb,C⟩:=E (JU l g np);rw[<-C]at o;change Hid _ at C;go_wp2_with fail;refine Jj v.o ?_;go_wp2_with fail;refine o.o.l ?_;rintro e w3 ⟨rfl,q,rfl⟩;have ao:=B;have an:=J (ah.o.drewN q);cases rb<;>cases fr;all_goals
  go_wp2_with fail;go_ret;exact⟨by rw[<-C.o];rfl,ao,an⟩
def Kh(s:Sv)(m:Y.M)(l:List It)(e:Int):Bool:=(decide (e=9) && !(JU l (Y.FT m) m.d && !Ks s m))||(decide (e=10)&&(decide (m.b=0)||Ks s m))
theorem lB(w:Z)(b:Nat)(s:Sv)(k f:Nat)(L:Y.Loc)(m:Y.M)(a:Option Addr)(c:Nat)(l:List It)(x:Int)(hx:x=0\/x=9\/x=10)(r:ES w b s)(B:Y.WF m)(q:Y.CP w k f s.c L m)(A:f<=w.heap.size)(j:¬(k<=b/\b<f))(P:Eh w a l)(R:l.length<=1000)(S:∀x∈l,x.c.length<=1048576)(Q:∀x∈l,x.data.length<=1048576):Calls prog 98 #[.c b,.a x,.slice a l.length c] w λe w'=>e=.a (.bool (Kh s m l x))/\ES w' b {s with free:=Ks s m}/\Y.Ed b (b+1) w w':=by
 have n:=J (Y.Er w k f s.c L m q);have t:=J (ZC w b s k f L m r B q);have c0:w.g b 0 (.c s.c):=r.cell 0;obtain⟨N,y⟩:=E ((m.b==0));rw[<-y]at n;obtain⟨d,p⟩:=E (Ks s m);rw[<-p]at t;have v:=J p;have F:=J r;have V:=J P;have T:=J q;have K:=J B;have z:=J S;have W:=J Q;obtain⟨_,C⟩:=E s.c;rw[<-C]at c0 n;change Hid _ at C;obtain⟨_,u⟩:=E l.length;have H:=J u;have D:Hid (∀g,g=(JU l (Y.FT m) m.d && !Ks s m)->Kh s m l x=((decide (x=9) && !g)||(decide (x=10)&&(N||d)))):=J (λg h=>by unfold Kh;rw[<-h,y,p];congr 3)
 rw[<-u]at R |-;clear q r P B S Q y p u;go_enter func98,ntmps98;go_wp2_with fail;refine Jj n.o ?_;go_wp2_with fail;refine t.o.l ?_;rintro e q ⟨rfl,M,i⟩;have o:=J (yH q b {s with free:=d} k f L m a c l M K (Y.EM.c T A j i) (Dz i.size) j (V.o.c F i) (by rw[<-H.o];exact R) z W);have K:Ks {s with free:=d} m=d:=by have:=v;unfold Ks at this |-;dsimp only;rw[this];cases s.free<;>simp
 rw[K,<-H.o]at o;obtain⟨g,z⟩:=E ((JU l (Y.FT m) m.d && !d));rw[<-z]at o;have p:=J (D g (by rw[z,v.o]));change Hid _ at i;clear M K z t n c0 D;go_wp2_with fail;refine o.o.l ?_;rintro e _ ⟨rfl,G,F⟩;change Hid _ at G;have n:=J (i.o.i F);clear F o;rcases hx with rfl|rfl|rfl<;>cases g<;>cases N<;>cases d;all_goals
  go_wp2_with fail;go_ret;exact⟨by rw[p.o];rfl,by rw[<-v.o];exact G,n⟩
end
namespace Y
open Go.RowKit Pk
theorem oU{P:Program}{c:Code}{Q:Exit->Act->Z->Prop}{a:Act}{w:Z}{F:Act}{W:Z}(f:c.wp P (NoPanic λe d w'=>e=.normal/\d=F/\w'=W) a w)(b:Q .normal F W):c.wp P Q a w:=by
 refine Code.wp_mono (λe d w' h=>?_) f;cases e with
 |panic c=>exact(h:False).elim
 |normal=>obtain⟨_,j,k⟩:Exit.normal=Exit.normal/\d=F/\w'=W:=h;rw[j,k];exact b
 |_=>have g:=NoPanic.imp _ _ _ h;obtain⟨i,_,_⟩:=g;cases i
structure Lv where
 a:Nat
 b:Nat
 tk:Option Nat
def Fh(w:Z)(lb cb:Nat)(lv:Lv)(kv qv:Option Nat)(b p:Nat):Prop:=w.heap[lb]?=some (.cells #[.c cb,.a lv.a,.d lv.b,.map kv,.map lv.tk,.map qv,.a b,.a p] 132 (0,0))
namespace Fh
variable {w:Z} {lb cb:Nat} {lv:Lv} {kv qv:Option Nat} {b p:Nat}
theorem lt(h:Fh w lb cb lv kv qv b p):lb<w.heap.size:=lt_of_heap h
theorem y{w':Z}(h:Fh w lb cb lv kv qv b p)(e:w'.heap[lb]?=w.heap[lb]?):Fh w' lb cb lv kv qv b p:=e.i h
theorem c0(h:Fh w lb cb lv kv qv b p):w.cell? (O lb 0)=some (.c cb):=by rw[AU w lb 0 _ 132 (0,0) h];rfl
theorem n0(h:Fh w lb cb lv kv qv b p):w.cell? (O lb 1)=some (.a lv.a):=by rw[AU w lb 1 _ 132 (0,0) h];rfl
theorem n1(h:Fh w lb cb lv kv qv b p):w.cell? (O lb 2)=some (.d lv.b):=by rw[AU w lb 2 _ 132 (0,0) h];rfl
theorem c2(h:Fh w lb cb lv kv qv b p):w.cell? (O lb 3)=some (.map kv):=by rw[AU w lb 3 _ 132 (0,0) h];rfl
theorem t4(h:Fh w lb cb lv kv qv b p):w.cell? (O lb 4)=some (.map lv.tk):=by rw[AU w lb 4 _ 132 (0,0) h];rfl
theorem c3(h:Fh w lb cb lv kv qv b p):w.cell? (O lb 5)=some (.map qv):=by rw[AU w lb 5 _ 132 (0,0) h];rfl
theorem c4(h:Fh w lb cb lv kv qv b p):w.cell? (O lb 6)=some (.a b):=by rw[AU w lb 6 _ 132 (0,0) h];rfl
theorem j(h:Fh w lb cb lv kv qv b p):w.cell? (O lb 7)=some (.a p):=by rw[AU w lb 7 _ 132 (0,0) h];rfl
theorem d(h:Fh w lb cb lv kv qv b p)(k:Nat):w.frozen? (O lb k)=false:=CE w lb k _ 132 h
theorem set2(h:Fh w lb cb lv kv qv b p)(x:Option Nat):Fh (w.setCell (O lb 3) (.map x)) lb cb lv x qv b p:=AJ w lb 3 _ 132 (.map x) h
theorem VN(h:Fh w lb cb lv kv qv b p)(x:Option Nat):Fh (w.setCell (O lb 4) (.map x)) lb cb ⟨lv.a,lv.b,x⟩ kv qv b p:=AJ w lb 4 _ 132 (.map x) h
theorem Ox(h:Fh w lb cb lv kv qv b p)(x:Nat):Fh (w.setCell (O lb 6) (.a x)) lb cb lv kv qv x p:=AJ w lb 6 _ 132 _ h
theorem LJ(h:Fh w lb cb lv kv qv b p)(x:Nat):Fh (w.setCell (O lb 7) (.a x)) lb cb lv kv qv b x:=AJ w lb 7 _ 132 _ h
end Fh
def Apart(v:Option Nat)(lo hi lb:Nat):Prop:=∀g,v=some g->g≠lb/\¬(lo<=g/\g<hi)
theorem Ri.a{w w':Z}{v:Option Nat}{n:Nat}{S:Nat->Bool}(h:Ri w v n S)(e:∀g,v=some g->g<w.heap.size->w'.heap[g]?=w.heap[g]?):Ri w' v n S:=by
 rcases h with⟨rfl,h⟩|⟨b,rfl,h⟩
 .exact .w ⟨I,h⟩
 exact .s ⟨b,I,h.y (e b I h.lt)⟩
structure FA (w:Z) (lo hi cb lb:Nat) (L:Loc) (lv:Lv) (kv qv:Option Nat) (nk nq:Nat) (m:M) (K Q:Nat->Bool) (b p:Nat):Prop where
 h:Fh w lb cb lv kv qv b p
 j:CP w lo hi cb L m
 wf:WF m
 kept:Ri w kv nk K
 c:Ri w qv nq Q
 f:Apart kv lo hi lb
 aq:Apart qv lo hi lb
 kq:∀g,kv=some g->qv≠some g
 e:¬(lo<=lb/\lb<hi)
 sz:hi<=w.heap.size
def FY(lo hi lb:Nat)(kv qv:Option Nat)(k:Nat):Prop:=(lo<=k/\k<hi)\/k=lb\/kv=some k\/qv=some k
namespace FA
variable {w w':Z} {lo hi cb lb:Nat} {L:Loc} {lv:Lv} {kv qv:Option Nat} {nk nq:Nat} {m m':M} {K Q:Nat->Bool} {b p:Nat}
theorem a(h:FA w lo hi cb lb L lv kv qv nk nq m K Q b p)(j:hi<=w'.heap.size)(e:∀k,FY lo hi lb kv qv k->k<w.heap.size->w'.heap[k]?=w.heap[k]?):FA w' lo hi cb lb L lv kv qv nk nq m K Q b p:=
 ⟨h.h.y (e lb (.s (.w I)) h.h.lt),EM.a h.j λk i f=>e k (.w ⟨i,f⟩) (AQ f h.sz),h.wf,h.kept.a λg c d=>e g (.s (.s (.w c))) d,h.c.a λg c d=>e g (.s (.s (.s c))) d,h.f,h.aq,h.kq,h.e,j⟩
theorem new(h:FA w lo hi cb lb L lv kv qv nk nq m K Q b p)(a:Below w.heap.size w w'):FA w' lo hi cb lb L lv kv qv nk nq m K Q b p:=
 h.a (AG h.sz a.size) λk _ c=>a.u k c
theorem drew(h:FA w lo hi cb lb L lv kv qv nk nq m K Q b p):FA w.drew lo hi cb lb L lv kv qv nk nq m K Q b p:=h.a h.sz λ_ _ _=>rfl
theorem field(h:FA w lo hi cb lb L lv kv qv nk nq m K Q b p){o:Nat}{x:Value}{a:Lv}{b' d:Nat}(n:Fh (w.setCell (O lb o) x) lb cb a kv qv b' d):FA (w.setCell (O lb o) x) lo hi cb lb L a kv qv nk nq m K Q b' d:=by have e:∀k,k≠lb->(w.c lb o x).e w k:=λk l=>AH w ⟨lb,o,none⟩ x k l;exact⟨n,EM.a h.j λk i j=>e k (λf=>h.e (by subst f;exact⟨i,j⟩)),h.wf,h.kept.a λg c _=>e g (h.f g c).1,h.c.a λg c _=>e g (h.aq g c).1,h.f,h.aq,h.kq,h.e,by have:=h.sz;simpa using this⟩
theorem Ox(h:FA w lo hi cb lb L lv kv qv nk nq m K Q b p)(x:Nat):FA (w.setCell (O lb 6) (.a x)) lo hi cb lb L lv kv qv nk nq m K Q x p:=h.field (h.h.Ox x)
theorem LJ(h:FA w lo hi cb lb L lv kv qv nk nq m K Q b p)(x:Nat):FA (w.setCell (O lb 7) (.a x)) lo hi cb lb L lv kv qv nk nq m K Q b x:=h.field (h.h.LJ x)
theorem turn(h:FA w lo hi cb lb L lv kv qv nk nq m K Q b p)(e:CP w' lo hi cb L m')(f:WF m')(a:Ed lo hi w w'):FA w' lo hi cb lb L lv kv qv nk nq m' K Q b p:=
 ⟨h.h.y (a.u lb h.h.lt h.e),e,f,h.kept.a λg c d=>a.u g d (h.f g c).2,h.c.a λg c d=>a.u g d (h.aq g c).2,h.f,h.aq,h.kq,h.e,AG h.sz a.size⟩
theorem Yr{g:Nat}(h:FA w lo hi cb lb L lv kv (some g) nk nq m K Q b p){a:Nat}{d:Nat->Bool}(t:FI w' g a d)(l:w.mapTurned w' g):FA w' lo hi cb lb L lv kv (some g) nk a m K d b p:=by have e:∀k,k<w.s->k≠g->w'.e w k:=λk q s=>l.C.u k q (λe=>by cases e;exact s I);have j:=h.aq g I;exact⟨h.h.y (e lb h.h.lt (λe=>j.1 e.A)),EM.a h.j λk o i=>e k (AQ i h.sz) (λc=>j.2 (by subst c;exact⟨o,i⟩)),h.wf,h.kept.a λf n r=>e f r (λc=>h.kq f n (by rw[c])),.s ⟨g,I,t⟩,h.f,h.aq,h.kq,h.e,AG h.sz l.C.size⟩
theorem del(h:FA w lo hi cb lb L lv kv qv nk nq m K Q b p){i:Nat}(a:i<=1000000):∃V,(Builtin.delete_ #[92,3] 0 #[.map qv,.a i]).run prog w=.ok (.tuple #[]) V/\FA V lo hi cb lb L lv kv qv nk nq m K (λj=>!(j==i)&&Q j) b p/\Fm (FY lo hi lb kv qv) w V:=by
 rcases h.c with⟨rfl,k⟩|⟨g,rfl,f⟩
 .refine⟨w,Maps.drop_nil OP underlying92 (Oi a) 0,⟨h.h,h.j,h.wf,h.kept,.w ⟨I,λj=>by simp[k j]⟩,h.f,h.aq,h.kq,h.e,h.sz⟩,Fm.refl _ _⟩
 obtain⟨V,d,e,c⟩:=f.drop a 0;exact⟨V,d,h.Yr e c,(Fm.refl _ _).map (λ_=>.s (.s (.s I))) c⟩
end FA
def E5(m:M)(K Q:Nat->Bool)(b:Nat):Bool×M×(Nat->Bool)×Nat:=
 if K ((b+1)%m.a)then(false,m,Q,m.d)
 else if Q ((b+1)%m.a)then(true,m,(λj=>!(j==(b+1)%m.a)&&Q j),0)
 else if(FC m (((b+1)%m.a:Nat):Int)).1 then(true,(FC m (((b+1)%m.a:Nat):Int)).2,(λj=>!(j==(b+1)%m.a)&&Q j),0)
 else(false,(FC m (((b+1)%m.a:Nat):Int)).2,Q,m.d)
end Y
namespace Y
open Go.RowKit Pk
def UN(w:Z)(lo hi cb lb:Nat)(L:Loc)(lv:Lv)(kv qv:Option Nat)(nk nq:Nat)(m:M)(K Q:Nat->Bool)(b:Nat)(e:Ending)(w':Z):Prop:=
 e=.a (.bool (E5 m K Q b).1)/\FA w' lo hi cb lb L lv kv qv nk nq (E5 m K Q b).2.1 K (E5 m K Q b).2.2.1 ((b+1)%m.a) (E5 m K Q b).2.2.2/\Fm (FY lo hi lb kv qv) w w'
theorem xe(w:Z)(g f i lb:Nat)(L:Loc)(lv:Lv)(l n:Option Nat)(F nq:Nat)(m:M)(K Q:Nat->Bool)(b p:Nat)(h:FA w g f i lb L lv l n F nq m K Q b p)(hb:b<1000000):Calls prog 193 #[.c lb] w λe w'=>UN w g f i lb L lv l n F nq m K Q b e w':=by
 have H:=J h;have h4:=h.wf.d;have aQ:=h.wf.a;have HB:=J (λ(V:Z) (c:CP V g f i L m)=>GC V g f i L m c);have HP:=J (λ(V:Z) (c:CP V g f i L m)=>GH V g f i L m c);have c0:=h.h.c0;have c4:=h.h.c4;have f4:=h.h.d 6;obtain⟨S,s⟩:=E m.a;rw[<-s]at HB h4 aQ;change Hid _ at s;have au:((b:Int)+1).tmod (S:Int)=(((b+1)%S:Nat):Int):=by rw[Int.tmod_eq_emod_of_nonneg U];rfl
 obtain⟨a,q⟩:=E ((b+1)%S);have aI:a<S:=by rw[q];exact BU _ U
 rw[<-q]at au;change Hid _ at q;have aD:=J (HB w.drew h.j.drew);have aW:(S:Int)≠0:=U;have aY:=zW (x:=((b:Int)+1));go_enter func193,ntmps193;go_wp2_with fail;apply oU
 .go_region_with (go_at_call 76;refine Jj aD.o ?_);all_goals exact⟨I,I,I⟩
 .obtain⟨T,W⟩:=E ((w.setCell (O lb 6) (.a a)).drew);rw[<-W];have D:FA T g f i lb L lv l n F nq m K Q a p:=by rw[W];exact(H.o.Ox a).drew
  have aE:Fm (FY g f lb l n) w T:=by rw[W];exact((Fm.refl _ w).set (λ_=>.s (.w I)) 6 _).drew
  have A:=J (HP T D.j);obtain⟨G,ad⟩:=E m.d;rw[<-ad]at A;have a0:=D.h.c0;have a5:=D.h.j;have g5:=D.h.d 7;obtain⟨B,ae⟩:=E (T.setCell (O lb 7) (.a G));have v:FA B g f i lb L lv l n F nq m K Q a G:=by rw[ae];exact D.LJ G
  have aC:Fm (FY g f lb l n) w B:=by rw[ae];exact aE.set (λ_=>.s (.w I)) 7 _
  change Hid _ at ae v aC ad;clear W D aE aD c0 c4 f4 HB HP;go_wp2_with fail;refine Jj A.o ?_;have k2:=v.o.h.c2;have k4:=v.o.h.c4;have az:B.drew.cell? (O lb 3)=some (.map l):=k2;have C:B.drew.cell? (O lb 6)=some (.a a):=k4;have A:=J (gL l F a K B.drew v.o.drew.kept U);have a8:lb<B.heap.size:=v.o.h.lt;go_wp2_with rw[<-ae.o];go_region_held3 (λV=>V.cell? (O lb 3)=some (.map l)/\V.cell? (O lb 6)=some (.a a)) (go_keep) (first
   | (go_at_call 243;refine A.o.l ?_;rintro e W3 ⟨rfl,P⟩;have aX:W3.cell? (O lb 3)=some (.map l):=(by rw[P.cell (p:=⟨lb,3,none⟩) a8];exact az);have aU:W3.cell? (O lb 6)=some (.a a):=(by rw[P.cell (p:=⟨lb,6,none⟩) a8];exact C);have x:=J (v.o.drew.new P);have ay:=J (aC.o.drew.i (Fm.d P));clear P))
  rename_i hHeld;clear hHeld az C k2 k4 A a0 a5 g5;obtain⟨y,R⟩:=E (K a);rw[<-R];change Hid _ at R;cases y
  .have aO:=x.o.h.c3;have aP:=x.o.h.c0;have A:=J (gL n nq a Q W3.drew x.o.drew.c U);have aS:=x.o.h.lt;have ai:=aO;have ao:=aU;have ar:=aP;obtain⟨z,hz⟩:=E (Q a);rw[<-hz]at A;change Hid _ at hz;cases z;focus
    have aH:=J (λ(V:Z) (h:FA V g f i lb L lv l n F nq m K Q a G)=>fq V g f i L m (a:Nat) h.wf h.j h.sz);have aB:=J (Ve v.o.wf (a:Nat));obtain⟨m5,af⟩:=E ((FC m (a:Nat)).2);obtain⟨r,hr⟩:=E ((FC m (a:Nat)).1);have o:Hid (E5 m K Q b=if r then(true,m5,(λj=>!(j==a)&&Q j),0)else(false,m5,Q,G)):=J (by unfold E5;rw[<-s.o,<-q.o,<-R.o,<-hz.o,hr,af,ad.o];rfl);rw[<-hr,<-af]at aH;rw[<-af]at aB;clear hr af
   rotate_left
   focus
    have o:Hid (E5 m K Q b=(true,m,(λj=>!(j==a)&&Q j),0)):=J (by unfold E5;rw[<-s.o,<-q.o,<-R.o,<-hz.o];rfl)
   rotate_left
   all_goals
    go_wp2_with fail;refine BL (S:=λV=>V.cell? (O lb 5)=some (.map n)/\V.cell? (O lb 6)=some (.a a)/\V.cell? (O lb 0)=some (.c i)) EG ⟨ai,ao,ar⟩ (λhHeld=>?_);refine Ef 0 I hHeld ?_;refine Ef 1 I hHeld ?_;refine Ef 2 I hHeld ?_;refine Ef 3 I hHeld ?_;refine Ef 4 I hHeld ?_;refine Ef 5 I hHeld ?_;refine Ef 6 I hHeld ?_;refine Ef 7 I hHeld ?_;refine rd 8 I (λK d=>?_);go_simp;refine A.o.l ?_;rintro e W4 ⟨rfl,an⟩;have t:=J (x.o.drew.new an);have aF:=J (ay.o.drew.i (Fm.d an));clear an;have aV:=t.o.h.c3;have aR:=t.o.h.c4;have aL:=t.o.h.c0;refine d _ _ ⟨aV,aR,aL⟩ (λhHeld=>?_)
   .have A5:=J (aH W4 t);refine Ef 9 I hHeld ?_;refine Ef 10 I hHeld ?_;refine Ef 11 I hHeld ?_;refine Ef 12 I hHeld ?_;refine Ef 13 I hHeld ?_;refine Ef 14 I hHeld ?_;refine Ef 15 I hHeld ?_;refine Ef 16 I hHeld ?_;refine Ef 17 I hHeld ?_;refine Ef 18 I hHeld ?_;refine rd 19 I (λK d=>?_);go_simp;refine A5.o.l ?_;rintro e W5 ⟨rfl,aA,ag⟩;have u:=J (t.o.turn aA aB ag);have aG:=J (aF.o.i (Fm.Mr ag λk h1 h2=>.w ⟨h1,h2⟩));clear aA ag;have aM:=u.o.h.c3;have aT:=u.o.h.c4;have aK:=u.o.h.c0;refine d _ _ ⟨aM,aT,aK⟩ (λhHeld=>?_);cases r
    .refine Ef 20 I hHeld ?_;refine Ef 21 I hHeld ?_;refine B8 EG ?_ _;clear hHeld d A A5;go_wp2;go_ret;exact⟨Ku (by rw[o.o];rfl),by rw[o.o,<-s.o,<-q.o];exact u,aG⟩
    refine Ef 20 I hHeld ?_;refine Ef 21 I hHeld ?_;refine B8 EG ?_ _;clear hHeld d A A5;obtain⟨V,a4,c,N⟩:=u.o.drew.del (i:=a) U;change Hid _ at c;have am:=J (aG.o.drew.i N);have ah:=u.o.h.c3;have C:=u.o.h.c4;have ax:=c.o.h.c3;have aw:=c.o.h.c4;have aJ:=c.o.h.j;have aN:=c.o.h.d 7;have HE:=J (c.o.LJ 0);have aj:=J (am.o.set (g:=lb) (λ_=>.s (.w I)) 7 (.a ((0:Nat):Int)));clear N;go_wp2_with fail;refine BL (S:=λV=>V.cell? (O lb 5)=some (.map n)/\V.cell? (O lb 6)=some (.a a)) EG ⟨ah,C⟩ (λhHeld=>?_);refine Ef 0 I hHeld ?_;refine Ef 1 I hHeld ?_;refine Ef 2 I hHeld ?_;refine Ef 3 I hHeld ?_;refine Ef 4 I hHeld ?_;refine Ef 5 I hHeld ?_;refine Ef 6 I hHeld ?_;refine Ef 7 I hHeld ?_;refine rd 8 I (λK d=>?_);go_simp;refine d _ _ ⟨ax,aw⟩ (λhHeld=>?_);refine B8 EG ?_ _;clear hHeld d a4;go_wp2;go_ret;exact⟨Ku (by rw[o.o];rfl),by rw[o.o,<-s.o,<-q.o];exact HE,aj⟩
   refine Ef 9 I hHeld ?_;refine Ef 10 I hHeld ?_;refine Mb 11 I hHeld ?_;refine Mb 12 I hHeld ?_;refine Mb 13 I hHeld ?_;refine Mb 14 I hHeld ?_;refine Mb 15 I hHeld ?_;refine Mb 16 I hHeld ?_;refine Mb 17 I hHeld ?_;refine Mb 18 I hHeld ?_;refine Mb 19 I hHeld ?_;refine Mb 20 I hHeld ?_;refine Ef 21 I hHeld ?_;refine B8 EG ?_ _;clear hHeld d A;obtain⟨V,a4,c,N⟩:=t.o.drew.del (i:=a) U;change Hid _ at c;have am:=J (aF.o.drew.i N);have ah:=t.o.h.c3;have C:=t.o.h.c4;have ax:=c.o.h.c3;have aw:=c.o.h.c4;have aJ:=c.o.h.j;have aN:=c.o.h.d 7;have HE:=J (c.o.LJ 0);have aj:=J (am.o.set (g:=lb) (λ_=>.s (.w I)) 7 (.a ((0:Nat):Int)));clear N;go_wp2_with fail;refine BL (S:=λV=>V.cell? (O lb 5)=some (.map n)/\V.cell? (O lb 6)=some (.a a)) EG ⟨ah,C⟩ (λhHeld=>?_);refine Ef 0 I hHeld ?_;refine Ef 1 I hHeld ?_;refine Ef 2 I hHeld ?_;refine Ef 3 I hHeld ?_;refine Ef 4 I hHeld ?_;refine Ef 5 I hHeld ?_;refine Ef 6 I hHeld ?_;refine Ef 7 I hHeld ?_;refine rd 8 I (λK d=>?_);go_simp;refine d _ _ ⟨ax,aw⟩ (λhHeld=>?_);refine B8 EG ?_ _;clear hHeld d a4;go_wp2;go_ret;exact⟨Ku (by rw[o.o]),by rw[o.o,<-s.o,<-q.o];exact HE,aj⟩
  have o:Hid (E5 m K Q b=(false,m,Q,G)):=J (by unfold E5;rw[<-s.o,<-q.o,<-R.o,AD I,ad.o]);go_wp2;go_ret;exact⟨Ku (by rw[o.o]),by rw[o.o,<-s.o,<-q.o];exact x,ay⟩
def EY(b:Nat):List Du->M->Nat->(Nat->Bool)->List Du×M×Nat×(Nat->Bool)
 | [],m,p,S=>([],m,p,S)
 | x::xs,m,p,S=>
   if p<m.d then
    if(El m (b:Nat) (p:Nat) x).1 then EY b xs (El m (b:Nat) (p:Nat) x).2 (p+1) (λj=>j==b||S j)
    else(x::xs,(El m (b:Nat) (p:Nat) x).2,m.d,S)
   else(x::xs,m,p,S)
def JC(w:Z)(g o:Nat)(l:List Du):Prop:=∀k x,l[k]?=some x->w.cell? (O g (o+k))=some (.string (X x))
theorem JC.tail{w:Z}{g o:Nat}{x:Du}{l:List Du}(h:JC w g o (x::l)):JC w g (o+1) l:=λk y a=>by have:=h (k+1) y (EU a);rwa[show o+(k+1)=o+1+k by omega]at this
theorem JC.y{w w':Z}{g o:Nat}{l:List Du}(h:JC w g o l)(e:w'.heap[g]?=w.heap[g]?):JC w' g o l:=λk x a=>by rw[AK e];exact h k x a
structure Aside (lo hi lb:Nat) (kv qv:Option Nat) (ib g:Nat):Prop where
 Mc:¬FY lo hi lb kv qv ib
 a:¬FY lo hi lb kv qv g
 YR:g≠ib
theorem Aside.gV{d b lb:Nat}{c f:Option Nat}{a g:Nat}(h:Aside d b lb c f a g):a≠lb:=λe=>h.Mc (.s (.w e))
def JO:Value->Nat
 | .slice _ n _=>n
 | _=>0
def U6(w:Z)(lo hi cb lb:Nat)(L:Loc)(lv:Lv)(kv qv:Option Nat)(nk nq:Nat)(m:M)(K Q:Nat->Bool)(b p ib ni g o c:Nat)(S:Nat->Bool)(l:List Du)(e:Ending)(w':Z):Prop:=
 ∃o' c',e=.a (.slice (some (O g o')) (EY b l m p S).1.length c')/\(EY b l m p S).1.length<=c'/\c'<=c/\JC w' g o' (EY b l m p S).1/\FA w' lo hi cb lb L lv kv qv nk nq (EY b l m p S).2.1 K Q b (EY b l m p S).2.2.1/\FI w' ib (ni+l.length) (EY b l m p S).2.2.2/\Fm (λk=>FY lo hi lb kv qv k\/k=ib) w w'
theorem xw{w w':Z}{f a i lb:Nat}{L:Loc}{lv:Lv}{d g:Option Nat}{n nq:Nat}{m:M}{K Q:Nat->Bool}{b p l:Nat}(h:FA w f a i lb L lv d g n nq m K Q b p)(c:¬FY f a lb d g l)(j:w.mapTurned w' l):FA w' f a i lb L lv d g n nq m K Q b p:=
 h.a (AG h.sz j.C.size) λk o q=>j.C.u k q (λe=>by cases e;exact c o)
theorem pD(w:Z)(N G B lb:Nat)(L:Loc)(lv:Lv)(D P:Option Nat)(T nq:Nat)(m:M)(K Q:Nat->Bool)(b p t F g o c:Nat)(S:Nat->Bool)(l:List Du) (h:FA w N G B lb L lv D P T nq m K Q b p) (a:b<1000000) (hp:p<1000000) (W:FI w t F S) (a:F+l.length<=1000000) (d:Aside N G lb D P t g) (ht:JC w g o l) (H:∀x∈l,x.length<=64) (q:l.length<=c) (f:c<=1000000):Calls prog 192 #[.c lb,.slice (some (O g o)) l.length c,.e t] w λe w'=>U6 w N G B lb L lv D P T nq m K Q b p t F g o c S l e w':=by
 obtain⟨n,hn⟩:=E l.length;rw[<-hn]at a q |-;have H0:=J h;change Hid _ at W ht H;have z:=J d;change Hid _ at hn;have ai:=h.wf.b;go_enter func192,ntmps192;go_wp2_with fail;go_loopw [1] (λv wr=>∃(d:List Du) (u:M) (a f C i R:Nat) (s:Nat->Bool),v=.slice (some (O g f)) C i/\C<=i/\i<=c/\a<1000000/\R+C<=F+n/\u.d<=16/\Hid (C=d.length)/\Hid (∀x∈d,x.length<=64)/\Hid (EY b l m p S=EY b d u a s)/\Hid (FA wr N G B lb L lv D P T nq u K Q b a)/\Hid (FI wr t R s)/\Hid (JC wr g f d)/\Hid (Fm (λk=>FY N G lb D P k\/k=t) w wr)) (λv _=>JO v)
 .exact⟨l,m,p,o,n,c,F,S,I,q,AB _,hp,AB _,ai,hn,H,J I,H0,W,ht,J (Fm.refl _ _)⟩
 .obtain⟨d,u,a,f,C,i,R,s,rfl,aE,ao,_,_,W,P,T,HE,D,a8,ag,ae⟩:=hrel;have c0:=D.o.h.c0;have c5:=D.o.h.j;have H:=c0;have F:=c5;cases d with
  |nil=>have d:=P;subst d;have q:Hid (EY b l m p S=([],u,a,s)):=J HE;go_wp2_with fail;refine BL (S:=λV=>V.cell? (O lb 0)=some (.c B)/\V.cell? (O lb 7)=some (.a a)) EG ⟨H,F⟩ (λhHeld=>?_);refine Ef 0 I hHeld ?_;refine Ef 1 I hHeld ?_;refine Ef 2 I hHeld ?_;refine Ef 3 I hHeld ?_;refine Mb 4 I hHeld ?_;refine Mb 5 I hHeld ?_;refine Mb 6 I hHeld ?_;refine Mb 7 I hHeld ?_;refine Mb 8 I hHeld ?_;refine Mb 9 I hHeld ?_;refine Mb 10 I hHeld ?_;refine Mb 11 I hHeld ?_;refine Mb 12 I hHeld ?_;refine Mb 13 I hHeld ?_;refine Ef 14 I hHeld ?_;refine B8 EG ?_ _;go_wp2;go_ret;exact⟨f,i,by rw[q.o];rfl,by rw[q.o];exact AW _,ao,by rw[q.o];exact λk y hy=>by simp at hy,by rw[q.o];exact D.o.drew,by rw[q.o];exact a8.o.l (Dz hn.o),ae.o.drew⟩
  |cons x d=>
   obtain⟨n1,rfl⟩:∃n1,C=n1+1:=⟨d.length,P⟩;have C:=T x EJ;have aK:Hid (∀y∈d,y.length<=64):=J (λy hy=>T y (by simp[hy]));have a4:Hid (n1=d.length):=J (by have:=P.o;simpa using this);have P:wr.cell? (O g f)=some (.string (X x)):=by have:=ag 0 x I;simpa using this
   have T:=J (GH wr.drew N G B L u D.o.drew.j);obtain⟨C,a1⟩:=E u.d;rw[<-a1]at W T;change Hid _ at a1;have aV:((n1+1:Nat):Int) > 0:=U;have aP:(0:Int)<(n1:Int)+1:=U;have ax:=Am wr _ P;go_wp2_with fail;refine BL (S:=λV=>V.cell? (O lb 0)=some (.c B)/\V.cell? (O lb 7)=some (.a a)) EG ⟨H,F⟩ (λhHeld=>?_);refine Ef 0 I hHeld ?_;refine Ef 1 I hHeld ?_;refine Ef 2 I hHeld ?_;refine Ef 3 I hHeld ?_;refine Ef 4 I hHeld ?_;refine Ef 5 I hHeld ?_;refine Ef 6 I hHeld ?_;refine Ef 7 I hHeld ?_;refine Ef 8 I hHeld ?_;refine Ef 9 I hHeld ?_;refine Ef 10 I hHeld ?_;refine Ef 11 I hHeld ?_;refine rd 12 I (λK hK=>?_);go_simp;refine Jj T.o ?_;refine hK _ _ ⟨H,F⟩ (λhHeld=>?_);by_cases aw:a<C
   .have af:(a:Int)<(C:Int):=U;refine Ef 13 I hHeld ?_;refine Ef 14 I hHeld ?_;refine B8 EG ?_ _;have aQ:=D.o.drew;have W1:=J (D.o.drew.drew);have A:=J (zT wr.drew.drew N G B L u (b:Nat) (a:Nat) x W1.o.wf U W1.o.j);have az:=J (QC W1.o.wf (b:Nat) (a:Nat) x);have au:=J (Wz u (b:Nat) (a:Nat) x);obtain⟨T,F⟩:=E ((El u (b:Nat) (a:Nat) x).2);obtain⟨r,H⟩:=E ((El u (b:Nat) (a:Nat) x).1);have q:Hid (EY b l m p S=if r then EY b d T (a+1) (λj=>j==b||s j)else(x::d,T,C,s)):=J (by rw[HE.o,EY,<-a1.o,AD aw,H,F]);rw[<-H,<-F]at A;rw[<-F]at az au;have ar:T.d<=16:=by rw[au.o,<-a1.o];exact W
    have e0:=c0;have e4:=D.o.h.c4;have e5:=c5;have eg:=P;obtain⟨W,hX⟩:=E (X x);rw[<-hX]at A eg;clear H F aQ hX P;go_wp2_with fail;refine BL (S:=λV=>V.cell? (O lb 0)=some (.c B)/\V.cell? (O lb 6)=some (.a b)/\V.cell? (O lb 7)=some (.a a)/\V.cell? (O g f)=some (.string W)) EG ⟨e0,e4,e5,eg⟩ (λhHeld=>?_);refine Ef 0 I hHeld ?_;refine Ef 1 I hHeld ?_;refine Ef 2 I hHeld ?_;refine Ef 3 I hHeld ?_;refine Ef 4 I hHeld ?_;refine Ef 5 I hHeld ?_;refine Ef 6 I hHeld ?_;refine Ef 7 I hHeld ?_;refine Ef 8 I hHeld ?_;refine Ef 9 I hHeld ?_;refine Ef 10 I hHeld ?_;refine Ef 11 I hHeld ?_;refine Ef 12 I hHeld ?_;refine Ef 13 I hHeld ?_;refine Ef 14 I hHeld ?_;refine rd 15 I (λK hK=>?_);go_simp;refine A.o.l ?_;rintro e F ⟨rfl,aL,H⟩;have P:=J (W1.o.turn aL az H);have aC:=J (ae.o.drew.drew.i (Fm.Mr H λk h1 h2=>.w (.w ⟨h1,h2⟩)));have aJ:=(ag.o.y (w':=wr.drew.drew) I).y (H.u g ax (λe=>z.o.a (.w e)));have aT:=(a8.o.y (w':=wr.drew.drew) I).y (H.u t a8.o.lt (λe=>z.o.Mc (.w e)));have aH:=J aJ;have aD:=J aT;have f0:=P.o.h.c0;have f4:=P.o.h.c4;have f5:=P.o.h.j;have fg:F.cell? (O g f)=some (.string W):=by rw[AK (H.u g ax (λe=>z.o.a (.w e)))];exact eg
    refine hK _ _ ⟨f0,f4,f5,fg⟩ (λhHeld=>?_);cases r with
    |true=>
     refine Ef 16 I hHeld ?_;refine B8 EG ?_ _;have H:=J (Xp t R b _ F aD U U);go_wp2_with fail;refine H.o.l ?_;rintro e H ⟨rfl,aN,ac⟩;have W:=J (xw P z.o.Mc ac);have aa:=J (aC.o.map (λ_=>.s I) ac);have aj:Hid (JC H g f (x::d)):=J (aH.o.y (ac.C.u g (Am F _ fg) (λe=>by cases e;exact z.o.YR I)));have g4:=W.o.h.c4;have g5:=W.o.h.j;have gz:=W.o.h.d 7;have am:=J aN;have H4:=J (W.o.LJ (a+1));have aF:=J (aa.o.set (g:=lb) (λ_=>.w (.s (.w I))) 7 (.a ((a+1:Nat):Int)));have aG:Hid (JC (H.setCell (O lb 7) (.a ((a+1:Nat):Int))) g (f+1) d):=J (JC.tail (aj.o.y (AH H ⟨lb,7,none⟩ _ g (λe=>z.o.a (.s (.w e))))));have aB:Hid (FI (H.setCell (O lb 7) (.a ((a+1:Nat):Int))) t (R+1) (λj=>j==b||s j)):=J (am.o.y (AH H ⟨lb,7,none⟩ _ t z.o.gV));have aY:(1:Int)<=(n1:Int)+1:=U;have aW:(n1:Int)+1<=(i:Int):=U;rw[show((a+1:Nat):Int)=(a:Int)+1 by omega]at H4 aF aG aB;go_wp2;have aI:Hid (EY b l m p S=EY b d T (a+1) (λj=>j==b||s j)):=J (by rw[q.o];rfl);have aM:JC (H.setCell (O lb 7) (.a ((a:Int)+1))) g (if i=1 then f else f+1) d:=by
      by_cases e:i=1
      .have:d=[]:=Bu (Dz a4.o);subst this;exact λk y hy=>by simp at hy
      rw[AC e];exact aG
     refine⟨⟨d,T,a+1,if i=1 then f else f+1,n1,i-1,R+1,λj=>j==b||s j,?_,by omega,by omega,by omega,by omega,ar,a4,aK,aI,H4,aB,J aM,aF⟩,by simp[JO]⟩;by_cases e:i=1
     .rw[AD e,AD e]
     rw[AC e,AC e]
    |false=>refine Ef 16 I hHeld ?_;refine B8 EG ?_ _;have H:=J (GH F N G B L T P.o.j);rw[au.o,<-a1.o]at H;have B:=P.o.h.d 7;have W:=J (P.o.LJ C);have aa:=J (aC.o.set (g:=lb) (λ_=>.w (.s (.w I))) 7 (.a C));have aj:Hid (JC (F.setCell (O lb 7) (.a C)) g f (x::d)):=J (aH.o.y (AH F ⟨lb,7,none⟩ _ g (λe=>z.o.a (.s (.w e)))));have am:Hid (FI (F.setCell (O lb 7) (.a C)) t R s):=J (aD.o.y (AH F ⟨lb,7,none⟩ _ t z.o.gV));have t:Hid (EY b l m p S=(x::d,T,C,s)):=J (by rw[q.o];rfl);go_wp2_with fail;refine Jj H.o ?_;go_wp2;go_ret;exact⟨f,i,by rw[t.o];show _=Ending.returned (.slice _ (d.length+1) _);rw[<-a4.o];rfl,by rw[t.o];show d.length+1<=i;rw[<-a4.o];exact aE,ao,by rw[t.o];exact aj.o,by rw[t.o];exact W.o,by rw[t.o];exact am.o.l (Dz hn.o),aa.o⟩
   have af:¬(a:Int)<(C:Int):=U;have q:Hid (EY b l m p S=(x::d,u,a,s)):=J (by rw[HE.o,EY,<-a1.o,AC aw]);refine Ef 13 I hHeld ?_;refine Ef 14 I hHeld ?_;refine B8 EG ?_ _;go_wp2;go_ret;exact⟨f,i,by rw[q.o];show _=Ending.returned (.slice _ (d.length+1) _);rw[<-a4.o];rfl,by rw[q.o];show d.length+1<=i;rw[<-a4.o];exact aE,ao,by rw[q.o];exact ag.o,by rw[q.o];exact D.o.drew,by rw[q.o];exact a8.o.l (Dz hn.o),ae.o.drew⟩
end Y
end Go.Proofs.YtodmdkhdbfbfgaaGreatDoor
