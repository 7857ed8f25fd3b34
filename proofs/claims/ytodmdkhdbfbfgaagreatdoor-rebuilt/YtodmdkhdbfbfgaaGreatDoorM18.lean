/- Lemmas. -/
import Derived.Shelf.SlGeneric
import Derived.Shelf.Small.Utf8
import Derived.Shelf.Small.Strs
import Derived.Shelf.LaysM
import Derived.Shelf.Strconv.Clone
import Derived.Shelf.Strings.SplitShaped
import Derived.Shelf.Strings.IndexAnyAll
import Derived.Shelf.SlSortCmp.NoneTotal
import Derived.Shelf.SlIter.Sorted
import Derived.Shelf.SlIter.Nil
import Derived.Laws.RangeAny
import Derived.Laws.Runes
import Derived.WalkMore
import Derived.Lib.OthersKept
import Derived.RangeFuncNested
import Derived.RangeFuncBound
import Derived.RangeFuncCalls
import Derived.RangeFuncLeaves
import Derived.Shelf.Strings.Count
import Derived.Test.YtodmdkhdbfbfgaaGreatDoorM17
set_option linter.unusedVariables false
set_option linter.unusedSimpArgs false
set_option maxRecDepth 100000
set_option maxHeartbeats 8000000
namespace Go.Proofs
open Go.Shelf
def Tryz.lays119_ren:Go.Shelf.Ren:=⟨fun | 119=>329 | n=>n,fun | 21=>21 | 4=>4 | n=>n,fun | n=>n⟩
theorem Tryz.lays119:Go.Proofs.Lays.n119 Tryz.prog Tryz.lays119_ren:={
 mixed:=by kernel_rfl
 f119:=Tryz.func329.trans (congrArg some (by kernel_rfl))
 t4:=Tryz.underlying4
 a4:=Tryz.isAgg4
 z4:=Tryz.sizeOf4
 v4:=Tryz.zeroValue4
 t21:=Tryz.underlying21
 a21:=Tryz.isAgg21
 z21:=Tryz.sizeOf21
 v21:=Tryz.zeroValue21 }
theorem Tryz.utf8_ValidRune (r:Int) (w:World) :
 Calls Tryz.prog 329 #[.int .i32 r] w fun e w'=>e=.returned (.bool (Lib.validRune r))∧w'=w:=Any.utf8_ValidRune Tryz.lays119 r w
def Tryz.lays137_ren:Go.Shelf.Ren:=⟨fun | 137=>328 | 217=>299 | 266=>326 | n=>n,fun | 9=>9 | 5=>5 | 3=>3 | n=>n,fun | n=>n⟩
theorem Tryz.lays137:Go.Proofs.Lays.n137 Tryz.prog Tryz.lays137_ren:={
 mixed:=by kernel_rfl
 f137:=Tryz.func328.trans (congrArg some (by kernel_rfl))
 f217:=Tryz.func299.trans (congrArg some (by kernel_rfl))
 f266:=Tryz.func326.trans (congrArg some (by kernel_rfl))
 t3:=Tryz.underlying3
 a3:=Tryz.isAgg3
 z3:=Tryz.sizeOf3
 v3:=Tryz.zeroValue3
 t5:=Tryz.underlying5
 a5:=Tryz.isAgg5
 z5:=Tryz.sizeOf5
 v5:=Tryz.zeroValue5
 t9:=Tryz.underlying9
 a9:=Tryz.isAgg9
 z9:=Tryz.sizeOf9
 v9:=Tryz.zeroValue9 }
open Go.RowKit in
theorem Tryz.strings_IndexByte (s:ByteArray) (c:Int) (w:World) :
 Calls Tryz.prog 328 #[.string s,.int .u8 c] w fun e w'=>e=.returned (.int .i64 (Lib.indexByte s.data.toList c.toNat.toUInt8))∧w'=w:=Any.strings_IndexByte Tryz.lays137 s c w
def Tryz.laysM316_ren:Go.Shelf.Ren:=⟨fun | 316=>122 | n=>n,fun | 9=>9 | 3=>3 | 4=>4 | 37=>111 | 0=>0 | 127=>242 | 5=>5 | n=>n,fun | n=>n⟩
theorem Tryz.laysM316:Go.Proofs.LaysM.n316 Tryz.prog Tryz.laysM316_ren:={
 mixed:=by kernel_rfl
 f316:=Tryz.func122.trans (congrArg some (by kernel_rfl))
 t0:=Tryz.underlying0
 a0:=Tryz.isAgg0
 z0:=Tryz.sizeOf0
 v0:=Tryz.zeroValue0
 t3:=Tryz.underlying3
 a3:=Tryz.isAgg3
 z3:=Tryz.sizeOf3
 v3:=Tryz.zeroValue3
 t4:=Tryz.underlying4
 a4:=Tryz.isAgg4
 z4:=Tryz.sizeOf4
 v4:=Tryz.zeroValue4
 t9:=Tryz.underlying9
 a9:=Tryz.isAgg9
 z9:=Tryz.sizeOf9
 v9:=Tryz.zeroValue9
 t37:=Tryz.underlying111
 a37:=Tryz.isAgg111
 z37:=Tryz.sizeOf111
 v37:=Tryz.zeroValue111
 t127:=Tryz.underlying242
 a127:=Tryz.isAgg242
 z127:=Tryz.sizeOf242
 v127:=Tryz.zeroValue242
 t5:=Tryz.underlying5
 a5:=Tryz.isAgg5
 z5:=Tryz.sizeOf5
 v5:=Tryz.zeroValue5
 i0:=by kernel_rfl
 i3:=by kernel_rfl
 i4:=by kernel_rfl
 i5:=by kernel_rfl
 i9:=by kernel_rfl
 i37:=by kernel_rfl
 i127:=by kernel_rfl }
open Go.RowKit in
theorem Tryz.stringslite_Clone (s:ByteArray) (w:World) (hlim:s.size≤281474976710656) :
 Calls Tryz.prog 122 #[.string s] w fun e w'=>e=.returned (.string s)∧Below w.heap.size w w':=Any.stringslite_Clone Tryz.laysM316 s w hlim
def Tryz.lays146_ren:Go.Shelf.Ren:=⟨fun | 146=>114 | 221=>173 | 268=>232 | 138=>233 | 143=>234 | 195=>269 | 197=>270 | 218=>271 | 219=>272 | 260=>298 | 217=>299 | 225=>300 | 224=>301 | 267=>302 | 266=>326 | 314=>327 | n=>n,fun | 9=>9 | 31=>40 | 3=>3 | 4=>4 | 0=>0 | 105=>306 | 21=>21 | 5=>5 | 46=>110 | 119=>356 | 139=>359 | 138=>358 | 146=>360 | 51=>88 | n=>n,fun | 1=>0 | 3=>1 | 4=>2 | n=>n⟩
theorem Tryz.lays146:Go.Proofs.Lays.n146 Tryz.prog Tryz.lays146_ren:={
 mixed:=by kernel_rfl
 f138:=Tryz.func233.trans (congrArg some (by kernel_rfl))
 f143:=Tryz.func234.trans (congrArg some (by kernel_rfl))
 f146:=Tryz.func114.trans (congrArg some (by kernel_rfl))
 f195:=Tryz.func269.trans (congrArg some (by kernel_rfl))
 f197:=Tryz.func270.trans (congrArg some (by kernel_rfl))
 f217:=Tryz.func299.trans (congrArg some (by kernel_rfl))
 f218:=Tryz.func271.trans (congrArg some (by kernel_rfl))
 f219:=Tryz.func272.trans (congrArg some (by kernel_rfl))
 f221:=Tryz.func173.trans (congrArg some (by kernel_rfl))
 f224:=Tryz.func301.trans (congrArg some (by kernel_rfl))
 f225:=Tryz.func300.trans (congrArg some (by kernel_rfl))
 f260:=Tryz.func298.trans (congrArg some (by kernel_rfl))
 f266:=Tryz.func326.trans (congrArg some (by kernel_rfl))
 f267:=Tryz.func302.trans (congrArg some (by kernel_rfl))
 f268:=Tryz.func232.trans (congrArg some (by kernel_rfl))
 f314:=Tryz.func327.trans (congrArg some (by kernel_rfl))
 t0:=Tryz.underlying0
 a0:=Tryz.isAgg0
 z0:=Tryz.sizeOf0
 v0:=Tryz.zeroValue0
 t3:=Tryz.underlying3
 a3:=Tryz.isAgg3
 z3:=Tryz.sizeOf3
 v3:=Tryz.zeroValue3
 t4:=Tryz.underlying4
 a4:=Tryz.isAgg4
 z4:=Tryz.sizeOf4
 v4:=Tryz.zeroValue4
 t5:=Tryz.underlying5
 a5:=Tryz.isAgg5
 z5:=Tryz.sizeOf5
 v5:=Tryz.zeroValue5
 t9:=Tryz.underlying9
 a9:=Tryz.isAgg9
 z9:=Tryz.sizeOf9
 v9:=Tryz.zeroValue9
 t21:=Tryz.underlying21
 a21:=Tryz.isAgg21
 z21:=Tryz.sizeOf21
 v21:=Tryz.zeroValue21
 t31:=Tryz.underlying40
 a31:=Tryz.isAgg40
 z31:=Tryz.sizeOf40
 v31:=Tryz.zeroValue40
 t46:=Tryz.underlying110
 a46:=Tryz.isAgg110
 z46:=Tryz.sizeOf110
 v46:=Tryz.zeroValue110
 t51:=Tryz.underlying88
 a51:=Tryz.isAgg88
 z51:=Tryz.sizeOf88
 v51:=Tryz.zeroValue88
 t105:=Tryz.underlying306
 a105:=Tryz.isAgg306
 z105:=Tryz.sizeOf306
 v105:=Tryz.zeroValue306
 t119:=Tryz.underlying356
 a119:=Tryz.isAgg356
 z119:=Tryz.sizeOf356
 t138:=Tryz.underlying358
 a138:=Tryz.isAgg358
 z138:=Tryz.sizeOf358
 v138:=Tryz.zeroValue358
 t139:=Tryz.underlying359
 a139:=Tryz.isAgg359
 z139:=Tryz.sizeOf359
 v139:=Tryz.zeroValue359
 t146:=Tryz.underlying360
 a146:=Tryz.isAgg360
 z146:=Tryz.sizeOf360
 v146:=Tryz.zeroValue360
 g1:=by kernel_rfl
 g3:=by kernel_rfl
 g4:=by kernel_rfl }
open Go.RowKit Go.Lib in
theorem Tryz.strings_Split (s sep:ByteArray) (m:Int) (w:World) (hs:s.size<4294967281) (hm:w.cell? ⟨0,0,none⟩=some (.int .i64 m)) (h1:1≤sep.size) :
 Calls Tryz.prog 114 #[.string s,.string sep] w fun e w' =>
  e=.returned (.slice (some ⟨w.heap.size,0,none⟩) (Lib.countB s sep+1) (Lib.countB s sep+1))∧w'=w.alloc (.cells ((Lib.splitB sep 0 (Lib.countB s sep) s).map Value.string).toArray 9):=Any.strings_Split Tryz.lays146 (by kernel_rfl) s sep m w hs hm h1
def Tryz.lays152_ren:Go.Shelf.Ren:=⟨fun | 152=>303 | 137=>328 | 119=>329 | 224=>301 | 225=>300 | 217=>299 | 266=>326 | n=>n,fun | 9=>9 | 21=>21 | 3=>3 | 4=>4 | 5=>5 | 0=>0 | 46=>110 | n=>n,fun | n=>n⟩
theorem Tryz.lays152:Go.Proofs.Lays.n152 Tryz.prog Tryz.lays152_ren:={
 mixed:=by kernel_rfl
 f119:=Tryz.func329.trans (congrArg some (by kernel_rfl))
 f137:=Tryz.func328.trans (congrArg some (by kernel_rfl))
 f152:=Tryz.func303.trans (congrArg some (by kernel_rfl))
 f217:=Tryz.func299.trans (congrArg some (by kernel_rfl))
 f224:=Tryz.func301.trans (congrArg some (by kernel_rfl))
 f225:=Tryz.func300.trans (congrArg some (by kernel_rfl))
 f266:=Tryz.func326.trans (congrArg some (by kernel_rfl))
 t0:=Tryz.underlying0
 a0:=Tryz.isAgg0
 z0:=Tryz.sizeOf0
 v0:=Tryz.zeroValue0
 t3:=Tryz.underlying3
 a3:=Tryz.isAgg3
 z3:=Tryz.sizeOf3
 v3:=Tryz.zeroValue3
 t4:=Tryz.underlying4
 a4:=Tryz.isAgg4
 z4:=Tryz.sizeOf4
 v4:=Tryz.zeroValue4
 t5:=Tryz.underlying5
 a5:=Tryz.isAgg5
 z5:=Tryz.sizeOf5
 v5:=Tryz.zeroValue5
 t9:=Tryz.underlying9
 a9:=Tryz.isAgg9
 z9:=Tryz.sizeOf9
 v9:=Tryz.zeroValue9
 t21:=Tryz.underlying21
 a21:=Tryz.isAgg21
 z21:=Tryz.sizeOf21
 v21:=Tryz.zeroValue21
 t46:=Tryz.underlying110
 a46:=Tryz.isAgg110
 z46:=Tryz.sizeOf110
 v46:=Tryz.zeroValue110 }
open Go.RowKit Go.Lib in
theorem Tryz.strings_IndexRune_ascii (s:ByteArray) (r:Int) (w:World) (h0:0≤r) (h1:r<128) :
 Calls Tryz.prog 303 #[.string s,.int .i32 r] w fun e w'=>e=.returned (.int .i64 (Lib.indexByte s.data.toList r.toNat.toUInt8))∧w'=w:=Any.strings_IndexRune_ascii Tryz.lays152 s r w h0 h1
def Tryz.lays226_ren:Go.Shelf.Ren:=⟨fun | 226=>304 | n=>n,fun | 3=>3 | 4=>4 | n=>n,fun | n=>n⟩
theorem Tryz.lays226:Go.Proofs.Lays.n226 Tryz.prog Tryz.lays226_ren:={
 mixed:=by kernel_rfl
 f226:=Tryz.func304.trans (congrArg some (by kernel_rfl))
 t3:=Tryz.underlying3
 a3:=Tryz.isAgg3
 z3:=Tryz.sizeOf3
 v3:=Tryz.zeroValue3
 t4:=Tryz.underlying4
 a4:=Tryz.isAgg4
 z4:=Tryz.sizeOf4
 v4:=Tryz.zeroValue4 }
open Go.RowKit Go.Lib in
theorem Tryz.strings_shouldUseASCIISet (n:Int) (w:World) :
 Calls Tryz.prog 304 #[.int .i64 n] w fun e w'=>e=.returned (.bool (decide (8<n)))∧w'=w:=Any.strings_shouldUseASCIISet Tryz.lays226 n w
def Tryz.lays153_ren:Go.Shelf.Ren:=⟨fun | 153=>275 | 152=>303 | 226=>304 | 227=>305 | 228=>306 | 137=>328 | 119=>329 | 224=>301 | 225=>300 | 217=>299 | 266=>326 | n=>n,fun | 9=>9 | 3=>3 | 4=>4 | 5=>5 | 21=>21 | 117=>332 | 116=>331 | 0=>0 | 46=>110 | 124=>363 | n=>n,fun | n=>n⟩
theorem Tryz.lays153:Go.Proofs.Lays.n153 Tryz.prog Tryz.lays153_ren:={
 mixed:=by kernel_rfl
 f119:=Tryz.func329.trans (congrArg some (by kernel_rfl))
 f137:=Tryz.func328.trans (congrArg some (by kernel_rfl))
 f152:=Tryz.func303.trans (congrArg some (by kernel_rfl))
 f153:=Tryz.func275.trans (congrArg some (by kernel_rfl))
 f217:=Tryz.func299.trans (congrArg some (by kernel_rfl))
 f224:=Tryz.func301.trans (congrArg some (by kernel_rfl))
 f225:=Tryz.func300.trans (congrArg some (by kernel_rfl))
 f226:=Tryz.func304.trans (congrArg some (by kernel_rfl))
 f227:=Tryz.func305.trans (congrArg some (by kernel_rfl))
 f228:=Tryz.func306.trans (congrArg some (by kernel_rfl))
 f266:=Tryz.func326.trans (congrArg some (by kernel_rfl))
 t0:=Tryz.underlying0
 a0:=Tryz.isAgg0
 z0:=Tryz.sizeOf0
 v0:=Tryz.zeroValue0
 t3:=Tryz.underlying3
 a3:=Tryz.isAgg3
 z3:=Tryz.sizeOf3
 v3:=Tryz.zeroValue3
 t4:=Tryz.underlying4
 a4:=Tryz.isAgg4
 z4:=Tryz.sizeOf4
 v4:=Tryz.zeroValue4
 t5:=Tryz.underlying5
 a5:=Tryz.isAgg5
 z5:=Tryz.sizeOf5
 v5:=Tryz.zeroValue5
 t9:=Tryz.underlying9
 a9:=Tryz.isAgg9
 z9:=Tryz.sizeOf9
 v9:=Tryz.zeroValue9
 t21:=Tryz.underlying21
 a21:=Tryz.isAgg21
 z21:=Tryz.sizeOf21
 v21:=Tryz.zeroValue21
 t46:=Tryz.underlying110
 a46:=Tryz.isAgg110
 z46:=Tryz.sizeOf110
 v46:=Tryz.zeroValue110
 t116:=Tryz.underlying331
 a116:=Tryz.isAgg331
 z116:=Tryz.sizeOf331
 t117:=Tryz.underlying332
 a117:=Tryz.isAgg332
 z117:=Tryz.sizeOf332
 v117:=Tryz.zeroValue332
 t124:=Tryz.underlying363
 a124:=Tryz.isAgg363
 z124:=Tryz.sizeOf363
 v124:=Tryz.zeroValue363 }
open Go.RowKit Go.Lib in
theorem Tryz.strings_IndexAny_long (hv116:∀ w,(zeroValue 331).run Tryz.prog w=.ok (.agg (Array.replicate 256 (.bool false))) w) (s chars:ByteArray) (w:World) (h2:2≤chars.size) (h8:8<s.size) (hs:s.size<4294967281) (hcs:chars.size<4294967281) (hascii:∀ (j:Nat) b,chars.data.toList[j]? = some b→b.toNat<128) :
 Calls Tryz.prog 275 #[.string s,.string chars] w fun e w'=>e=.returned (.int .i64 (Lib.indexAny s.data.toList chars.data.toList))∧w'=((w.alloc (.cells (Lib.setCells chars.data.toList) 331)).alloc (.cells (Lib.setCells chars.data.toList) 331)):=Any.strings_IndexAny_long Tryz.lays153 hv116 (by kernel_rfl) s chars w h2 h8 hs hcs hascii
def Tryz.sort27_ren:Go.Shelf.Ren:=⟨fun | 6=>111 | 15=>118 | 14=>171 | 28=>184 | 29=>185 | 20=>223 | 21=>224 | 22=>225 | 23=>226 | 24=>227 | 25=>228 | 26=>229 | 27=>230 | 46=>266 | 47=>236 | 48=>237 | 49=>267 | 50=>268 | 57=>297 | n=>n,fun | 22=>40 | 24=>9 | 25=>118 | 3=>3 | 39=>110 | 0=>0 | 53=>88 | 55=>240 | 4=>4 | 46=>231 | 45=>230 | 50=>236 | 5=>5 | 9=>9 | 66=>261 | 70=>265 | 76=>308 | 77=>309 | n=>n,fun | n=>n⟩
theorem Tryz.sort27:Go.Proofs.SlLaysF.n6 Tryz.prog Tryz.sort27_ren:={
 mixed:=by kernel_rfl
 f6:=⟨Tryz.f111.name,by decide,Tryz.func111.trans (congrArg some (by kernel_rfl))⟩
 f14:=⟨Tryz.f171.name,by decide,Tryz.func171.trans (congrArg some (by kernel_rfl))⟩
 f15:=Tryz.func118.trans (congrArg some (by kernel_rfl))
 f20:=⟨Tryz.f223.name,by decide,Tryz.func223.trans (congrArg some (by kernel_rfl))⟩
 f21:=⟨Tryz.f224.name,by decide,Tryz.func224.trans (congrArg some (by kernel_rfl))⟩
 f22:=⟨Tryz.f225.name,by decide,Tryz.func225.trans (congrArg some (by kernel_rfl))⟩
 f23:=⟨Tryz.f226.name,by decide,Tryz.func226.trans (congrArg some (by kernel_rfl))⟩
 f24:=⟨Tryz.f227.name,by decide,Tryz.func227.trans (congrArg some (by kernel_rfl))⟩
 f25:=⟨Tryz.f228.name,by decide,Tryz.func228.trans (congrArg some (by kernel_rfl))⟩
 f26:=⟨Tryz.f229.name,by decide,Tryz.func229.trans (congrArg some (by kernel_rfl))⟩
 f27:=⟨Tryz.f230.name,by decide,Tryz.func230.trans (congrArg some (by kernel_rfl))⟩
 f28:=Tryz.func184.trans (congrArg some (by kernel_rfl))
 f29:=Tryz.func185.trans (congrArg some (by kernel_rfl))
 f46:=⟨Tryz.f266.name,by decide,Tryz.func266.trans (congrArg some (by kernel_rfl))⟩
 f47:=Tryz.func236.trans (congrArg some (by kernel_rfl))
 f48:=Tryz.func237.trans (congrArg some (by kernel_rfl))
 f49:=⟨Tryz.f267.name,by decide,Tryz.func267.trans (congrArg some (by kernel_rfl))⟩
 f50:=⟨Tryz.f268.name,by decide,Tryz.func268.trans (congrArg some (by kernel_rfl))⟩
 f57:=⟨Tryz.f297.name,by decide,Tryz.func297.trans (congrArg some (by kernel_rfl))⟩
 t0:=Tryz.underlying0
 a0:=Tryz.isAgg0
 z0:=Tryz.sizeOf0
 v0:=Tryz.zeroValue0
 t3:=Tryz.underlying3
 a3:=Tryz.isAgg3
 z3:=Tryz.sizeOf3
 v3:=Tryz.zeroValue3
 t4:=Tryz.underlying4
 a4:=Tryz.isAgg4
 z4:=Tryz.sizeOf4
 v4:=Tryz.zeroValue4
 t5:=Tryz.underlying5
 a5:=Tryz.isAgg5
 z5:=Tryz.sizeOf5
 v5:=Tryz.zeroValue5
 t9:=Tryz.underlying9
 a9:=Tryz.isAgg9
 z9:=Tryz.sizeOf9
 v9:=Tryz.zeroValue9
 t22:=Tryz.underlying40
 a22:=Tryz.isAgg40
 z22:=Tryz.sizeOf40
 v22:=Tryz.zeroValue40
 a24:=Tryz.isAgg9
 z24:=Tryz.sizeOf9
 t25:=Tryz.underlying118
 a25:=Tryz.isAgg118
 z25:=Tryz.sizeOf118
 v25:=Tryz.zeroValue118
 t39:=Tryz.underlying110
 a39:=Tryz.isAgg110
 z39:=Tryz.sizeOf110
 v39:=Tryz.zeroValue110
 t45:=Tryz.underlying230
 a45:=Tryz.isAgg230
 z45:=Tryz.sizeOf230
 v45:=Tryz.zeroValue230
 t46:=Tryz.underlying231
 a46:=Tryz.isAgg231
 z46:=Tryz.sizeOf231
 v46:=Tryz.zeroValue231
 t50:=Tryz.underlying236
 a50:=Tryz.isAgg236
 z50:=Tryz.sizeOf236
 v50:=Tryz.zeroValue236
 t53:=Tryz.underlying88
 a53:=Tryz.isAgg88
 z53:=Tryz.sizeOf88
 v53:=Tryz.zeroValue88
 t55:=Tryz.underlying240
 a55:=Tryz.isAgg240
 z55:=Tryz.sizeOf240
 v55:=Tryz.zeroValue240
 t66:=Tryz.underlying261
 a66:=Tryz.isAgg261
 z66:=Tryz.sizeOf261
 v66:=Tryz.zeroValue261
 t70:=Tryz.underlying265
 a70:=Tryz.isAgg265
 z70:=Tryz.sizeOf265
 v70:=Tryz.zeroValue265
 t76:=Tryz.underlying308
 a76:=Tryz.isAgg308
 z76:=Tryz.sizeOf308
 v76:=Tryz.zeroValue308
 t77:=Tryz.underlying309
 a77:=Tryz.isAgg309
 z77:=Tryz.sizeOf309
 v77:=Tryz.zeroValue309 }
def Tryz.keys21_ren:Go.Shelf.Ren:=⟨fun | 7=>65 | 10=>112 | n=>n,fun | 23=>77 | 26=>9 | 3=>117 | 28=>114 | 0=>0 | 27=>113 | 33=>68 | 4=>4 | n=>n,fun | n=>n⟩
theorem Tryz.keys21:Go.Proofs.SlLaysZ.n7 Tryz.prog Tryz.keys21_ren:={
 mixed:=by kernel_rfl
 f7:=⟨Tryz.f65.name,by decide,Tryz.func65.trans (congrArg some (by kernel_rfl))⟩
 f10:=⟨Tryz.f112.name,by decide,Tryz.func112.trans (congrArg some (by kernel_rfl))⟩
 t0:=Tryz.underlying0
 a0:=Tryz.isAgg0
 z0:=Tryz.sizeOf0
 v0:=Tryz.zeroValue0
 t4:=Tryz.underlying4
 a4:=Tryz.isAgg4
 z4:=Tryz.sizeOf4
 v4:=Tryz.zeroValue4
 t23:=Tryz.underlying77
 a23:=Tryz.isAgg77
 z23:=Tryz.sizeOf77
 v23:=Tryz.zeroValue77
 t26:=Tryz.underlying9
 a26:=Tryz.isAgg9
 z26:=Tryz.sizeOf9
 v26:=Tryz.zeroValue9
 t27:=Tryz.underlying113
 a27:=Tryz.isAgg113
 z27:=Tryz.sizeOf113
 v27:=Tryz.zeroValue113
 t28:=Tryz.underlying114
 a28:=Tryz.isAgg114
 z28:=Tryz.sizeOf114
 v28:=Tryz.zeroValue114
 t33:=Tryz.underlying68
 a33:=Tryz.isAgg68
 z33:=Tryz.sizeOf68
 v33:=Tryz.zeroValue68 }
def Tryz.collect26_ren:Go.Shelf.Ren:=⟨fun | 8=>110 | 11=>170 | n=>n,fun | 26=>9 | 28=>114 | 24=>40 | 0=>0 | 33=>68 | 4=>4 | n=>n,fun | n=>n⟩
theorem Tryz.collect26:Go.Proofs.SlLaysZ.n8 Tryz.prog Tryz.collect26_ren:={
 mixed:=by kernel_rfl
 f8:=⟨Tryz.f110.name,by decide,Tryz.func110.trans (congrArg some (by kernel_rfl))⟩
 f11:=⟨Tryz.f170.name,by decide,Tryz.func170.trans (congrArg some (by kernel_rfl))⟩
 t0:=Tryz.underlying0
 a0:=Tryz.isAgg0
 z0:=Tryz.sizeOf0
 v0:=Tryz.zeroValue0
 t24:=Tryz.underlying40
 a24:=Tryz.isAgg40
 z24:=Tryz.sizeOf40
 v24:=Tryz.zeroValue40
 t26:=Tryz.underlying9
 a26:=Tryz.isAgg9
 z26:=Tryz.sizeOf9
 v26:=Tryz.zeroValue9
 t28:=Tryz.underlying114
 a28:=Tryz.isAgg114
 z28:=Tryz.sizeOf114
 v28:=Tryz.zeroValue114
 i26:=by kernel_rfl }
def Tryz.iter28_ren:Go.Shelf.Ren:=⟨fun | 10=>112 | n=>n,fun | 33=>68 | 23=>77 | 0=>0 | 4=>4 | 26=>9 | 3=>117 | n=>n,fun | n=>n⟩
theorem Tryz.iter28:Go.Proofs.SlLaysZ.n10 Tryz.prog Tryz.iter28_ren:={
 mixed:=by kernel_rfl
 f10:=⟨Tryz.f112.name,by decide,Tryz.func112.trans (congrArg some (by kernel_rfl))⟩
 t0:=Tryz.underlying0
 a0:=Tryz.isAgg0
 z0:=Tryz.sizeOf0
 v0:=Tryz.zeroValue0
 t4:=Tryz.underlying4
 a4:=Tryz.isAgg4
 z4:=Tryz.sizeOf4
 v4:=Tryz.zeroValue4
 t23:=Tryz.underlying77
 a23:=Tryz.isAgg77
 z23:=Tryz.sizeOf77
 v23:=Tryz.zeroValue77
 t26:=Tryz.underlying9
 a26:=Tryz.isAgg9
 z26:=Tryz.sizeOf9
 v26:=Tryz.zeroValue9
 t33:=Tryz.underlying68
 a33:=Tryz.isAgg68
 z33:=Tryz.sizeOf68
 v33:=Tryz.zeroValue68 }
end Go.Proofs
namespace Go.Proofs.YtodmdkhdbfbfgaaGreatDoor
open Go.RowKit Go.Nt
def two:ByteArray:=⟨#[47,0]⟩
theorem qgN:two.size=2:=rfl
theorem qd1 (w:World) (s:ByteArray) (k:Nat):Below w.heap.size w (w.iter s k):=by
 exact (Below.refl _ w).alloc (Nat.le_refl _) _
theorem qlG {r:Int} (h:Lib.validRune r=true):Utf8.valid r=true:=by
 unfold Lib.validRune at h;unfold Utf8.valid;simp at h ⊢;omega
theorem qkh (r:Int) (w:World) (h0:128≤r) (h1:r≤2147483647) :
 Calls Tryz.prog 303 #[.string two,.int .i32 r] w fun e w'=>e=.returned (.int .i64 (-1))∧Below w.heap.size w w':=by
 by_cases he:r=65533
 ·subst he;go_enter Tryz.func303,Tryz.ntmps303
  go_wp2
  go_loopg [5,6] 2 (fun g _ _ wx=>∃ i:Nat,i+g=2∧wx=w.iter two i)
  case atStart=>exact ⟨0,by omega,rfl⟩
  obtain ⟨i,hig,rfl⟩:=hrel;cases gk with
  | zero =>
    obtain rfl:i=2:=by omega
    have hnx:=fun ty=>run_next_end (P:=Tryz.prog) w two 2 ty (by decide)
    go_wp2;go_ret
    exact ⟨rfl,qd1 w two 2⟩
  | succ g =>
    have hi:i<two.size:=by rw [qgN];omega
    have hb:(two[i]'hi).toNat<128∧(((two[i]'hi).toNat:Int)==65533)=false:=by
     have:i=0∨i=1:=by omega
     rcases this with rfl | rfl
     ·exact ⟨by show (47:UInt8).toNat<128;decide,by show (((47:UInt8).toNat:Int)==65533)=false;decide⟩
     exact ⟨by show (0:UInt8).toNat<128;decide,by show (((0:UInt8).toNat:Int)==65533)=false;decide⟩
    have hnx:=fun ty=>run_next_ascii (P:=Tryz.prog) w two i ty hi hb.1
    have hb2:=hb.2;clear hb;go_wp2;go_roundg g
    case measure=>omega
    case rel=>exact ⟨i+1,by omega,rfl⟩
 by_cases hv:Lib.validRune r=true
 ·go_enter Tryz.func303,Tryz.ntmps303
  go_wp2_with (go_at_call 329;refine (Tryz.utf8_ValidRune _ _).mono ?_;rintro e w' ⟨rfl,hw⟩;have hw':=hw.symm;subst hw';rw [hv]);obtain ⟨f1,f2,f3⟩:=encode_facts r (qlG hv) h0;have hcv:=fun w=>run_convert_int_string (P:=Tryz.prog) w 21 9 .i32 r (by rw [Tryz.underlying21];rfl) Tryz.underlying9
  generalize Utf8.encode r=E at *
  have f4:E.size - 1<E.size:=by omega
  have f5:=f3 f4;by_cases h2:E.size=2
  ·have g1:1<E.size:=by omega
   have g2:128≤(E[1]'g1).toNat:=by have h:=f5;simp only [h2] at h;exact h
   have hi1:((E.size:Int) - 1)=1:=by omega
   have hb0:(two[1]'(by decide)).toNat=0:=rfl;have g3:(((two[1]'(by decide)).toNat:Int) != ((E[1]'g1).toNat:Int))=true:=bne_iff_ne.2 (by rw [hb0];omega);have g4:(1:Nat)<two.size:=by decide
   have g5:((1:Int)<(two.size:Int)):=by decide
   have g6:decide ((1:Int)<(two.size:Int))=true:=by decide
   clear f5 f4 f3 f1 f2;go_wp2
   go_step3
   go_wp2
   go_loopw [9,10] (fun i f wr=>i=.int .i64 1∧wr=w) (fun i _ _=>0)
   case atStart=>exact ⟨rfl,rfl⟩
   obtain ⟨rfl,rfl⟩:=hrel;go_wp2
   go_step3
   go_wp2
   go_quiet (fail)
   go_wp2;have hx:two.extract 2 2=txt []:=by rw [Lib.extract_eq];rfl
   have HIB:Hid (∀ c w,Calls Tryz.prog 328 #[.string (two.extract 2 two.size),.int .u8 c] w fun e w'=>e=.returned (.int .i64 (-1))∧w'=w):=fun c w=>by
    have:=Tryz.strings_IndexByte (two.extract 2 two.size) c w
    have e2:(two.extract 2 two.size).data.toList=[]:=by rw [Lib.extract_eq];rfl
    rw [e2] at this;exact this
   go_region_with (go_at_call 328;refine (HIB.out _ _).mono ?_;rintro e w' ⟨rfl,hw⟩;have hw':=hw.symm;subst hw')
   all_goals
    go_wp2;simp (config:={ zetaDelta:=true }) only [Exit.inBlock,Exit.then,Exit.noGoto_ret];go_ret
    exact ⟨rfl,below_drewN (Below.refl _ _) _⟩
  have h3:decide (((E.size:Int) - 1)<(two.size:Int))=false:=by rw [qgN];simp;omega
  go_wp2
  go_step3
  go_wp2
  go_loopw [9,10] (fun i f wr=>i=.int .i64 ((E.size:Int) - 1)∧wr=w) (fun i _ _=>0)
  case atStart=>exact ⟨rfl,rfl⟩
  obtain ⟨rfl,rfl⟩:=hrel;go_wp2;rw [Exit.noGoto_ret];go_ret
  exact ⟨rfl,Below.refl _ _⟩
 have hv':Lib.validRune r=false:=by simpa using hv
 go_enter Tryz.func303,Tryz.ntmps303
 go_wp2_with (go_at_call 329;refine (Tryz.utf8_ValidRune _ _).mono ?_;rintro e w' ⟨rfl,hw⟩;have hw':=hw.symm;subst hw';rw [hv']);go_ret
 exact ⟨rfl,Below.refl _ _⟩
theorem qml (s:ByteArray) (k:Nat) (h:k<s.size):s.get! k=s[k]'h:=by
 simp [ByteArray.get!,getElem!_pos,h];rfl
theorem qf7 (s:ByteArray) (i:Nat) (h:i<s.size) (ha:128≤(s[i]'h).toNat):i+(Utf8.decode s i).2≤s.size∧∀ j (hj:j<s.size),i≤j→j<i+(Utf8.decode s i).2→128≤(s[j]'hj).toNat:=by
 have key:∀ k,i+k<s.size→(s.get! (i+k)).toNat/64=2→∀ hj:i+k<s.size,128≤(s[i+k]'hj).toNat:=by
  intro k hk he hj;rw [qml s (i+k) hj] at he;omega
 have one:i+1≤s.size∧∀ j (hj:j<s.size),i≤j→j<i+1→128≤(s[j]'hj).toNat:=by
  refine ⟨by omega,fun j hj h1 h2 => ?_⟩;obtain rfl:j=i:=by omega
  exact ha
 have at0:(s.get! (i+0)).toNat=(s[i]'h).toNat:=by rw [Nat.add_zero,qml s i h]
 have hn:¬(s.get! (i+0)).toNat<128:=by rw [at0];omega
 simp only [Utf8.decode];rw [if_neg hn]
 split
 ·rename_i hc;simp only [Bool.and_eq_true,decide_eq_true_eq,beq_iff_eq] at hc
  split
  ·refine ⟨by omega,fun j hj h1 h2 => ?_⟩
   have:j=i∨j=i+1:=by omega
   rcases this with rfl | rfl
   ·exact ha
   exact key 1 hc.2.1 hc.2.2 hj
  exact one
 split
 ·rename_i hc;simp only [Bool.and_eq_true,decide_eq_true_eq,beq_iff_eq] at hc
  split
  ·refine ⟨by omega,fun j hj h1 h2 => ?_⟩
   have:j=i∨j=i+1∨j=i+2:=by omega
   rcases this with rfl | rfl | rfl
   ·exact ha
   ·exact key 1 hc.1.2.1 hc.1.2.2 hj
   exact key 2 hc.2.1 hc.2.2 hj
  exact one
 split
 ·rename_i hc;simp only [Bool.and_eq_true,decide_eq_true_eq,beq_iff_eq] at hc
  split
  ·refine ⟨by omega,fun j hj h1 h2 => ?_⟩
   have:j=i∨j=i+1∨j=i+2∨j=i+3:=by omega
   rcases this with rfl | rfl | rfl | rfl
   ·exact ha
   ·exact key 1 hc.1.1.2.1 hc.1.1.2.2 hj
   ·exact key 2 hc.1.2.1 hc.1.2.2 hj
   exact key 3 hc.2.1 hc.2.2 hj
  exact one
 exact one
def bad2 (n:Bs):Bool:=n.any fun c=>c==47||c==0
theorem qmY {n:Bs} (h:∀ j,j<n.length→n.getD j 0≠47∧n.getD j 1≠0):bad2 n=false:=by
 unfold bad2;rw [List.any_eq_false];intro c hc;obtain ⟨j,hj,rfl⟩:=List.getElem_of_mem hc
 have:=h j hj
 simp [List.getD,hj] at this;simp [this]
theorem qgJ {n:Bs} {j:Nat} (hj:j<n.length) (h:n.getD j 0=47∨n.getD j 1=0):bad2 n=true:=by
 unfold bad2;rw [List.any_eq_true];refine ⟨n[j],List.getElem_mem hj,?_⟩;simp [List.getD,hj] at h;simpa using h
theorem qmD (x:UInt8):Lib.indexByte two.data.toList x=if x=47 then 0 else if x=0 then 1 else -1:=by
 have:two.data.toList=[47,0]:=rfl
 rw [this];by_cases h1:x=47
 ·subst h1;rfl
 by_cases h2:x=0
 ·subst h2;rfl
 have h3:(47:UInt8)≠x:=fun e=>h1 e.symm
 have h4:(0:UInt8)≠x:=fun e=>h2 e.symm
 simp [Lib.indexByte,h1,h2,h3,h4]
end Go.Proofs.YtodmdkhdbfbfgaaGreatDoor
namespace Go.Proofs.YtodmdkhdbfbfgaaGreatDoor
open Go.RowKit Go.Nt Go.Lib
theorem qj0 (n:Bs) (w:World) (hn:n.length≤8) :
 Calls Tryz.prog 275 #[.string (txt n),.string two] w fun e w'=>Below w.heap.size w w'∧∃ x,e=.returned (.int .i64 x)∧decide (0≤x)=bad2 n:=by
 obtain ⟨S,hS⟩:∃ S,S=txt n:=⟨_,rfl⟩;have hSz:S.size=n.length:=by rw [hS,qaa]
 have HG:Hid (∀ k (h:k<S.size) (d:UInt8),S[k]'h=n.getD k d):=fun k h d=>by
  subst hS;have h':k<n.length:=by rw [qaa] at h;exact h
  rw [qaR];simp [List.getD,h']
 rw [←hS];have HSz:=hidI hSz;have hS8:S.size≤8:=by omega
 clear hS hSz hn;have hemp:two.toList.isEmpty=false:=by rw [Lib.toList_data];rfl
 have hn1:((two.size:Int)==1)=false:=by decide
 have h8z:decide ((8:Int)<(S.size:Int))=false:=decide_eq_false (by omega);go_enter Tryz.func275,Tryz.ntmps275
 go_wp2_with (go_at_call 304;refine (Tryz.strings_shouldUseASCIISet _ _).mono ?_;rintro e w' ⟨rfl,hw⟩;rw [hw,h8z])
 go_loopg [9,10] S.size (fun g _ _ wx=>∃ i:Nat,i+g=S.size∧wx.heap[w.heap.size]? = some (.stringIter S i)∧Hid (Below w.heap.size w wx)∧Hid (∀ j,j<i→n.getD j 0≠47∧n.getD j 1≠0))
 case atStart=>exact ⟨0,by omega,heap_alloc_new _ _,hidI (qd1 w S 0),hidI (fun j h=>absurd h (by omega))⟩
 case round =>
  obtain ⟨i,hig,hit,Hb,Hno⟩:=hrel;cases gk with
  | zero =>
    have hi:i=S.size:=by omega
    have hnx:=fun ty=>run_next_end_at (P:=Tryz.prog) wr w.heap.size S i ty hit (by omega)
    have HR:Hid (bad2 n=false):=qmY fun j hj=>Hno.out j (by have:=HSz.out;omega)
    clear hi hig;go_wp2;go_ret
    exact ⟨Hb.out,_,rfl,by rw [HR.out];rfl⟩
  | succ g =>
    have hi:i<S.size:=by omega
    have hg0:=HG.out i hi 0;have hg1:=HG.out i hi 1;obtain ⟨x,hx⟩:∃ x:UInt8,S[i]'hi=x:=⟨_,rfl⟩;rw [hx] at hg0 hg1;have Hg0:=hidI hg0;have Hg1:=hidI hg1;clear hg0 hg1;by_cases hlow:x.toNat<128
    ·have hnx:=fun ty=>run_next_ascii_at (P:=Tryz.prog) wr w.heap.size S i ty hit hi (by rw [hx];exact hlow)
     rw [hx] at hnx;have Hb2:Hid (Below w.heap.size w (wr.iterAt w.heap.size S (i+1))):=below_iterAt Hb.out (Nat.le_refl _) S (i+1);have Hit2:Hid ((wr.iterAt w.heap.size S (i+1)).heap[w.heap.size]? = some (.stringIter S (i+1))):=iterAt_heap wr w.heap.size S i (i+1) hit;have hback:((x.toNat:Int)).toNat.toUInt8=x:=by simp
     have HI:Hid (∀ W,Calls Tryz.prog 303 #[.string two,.int .i32 (x.toNat:Int)] W fun e w'=>e=.returned (.int .i64 (if x=47 then 0 else if x=0 then 1 else -1))∧w'=W):=fun W=>by
      have:=Tryz.strings_IndexRune_ascii two (x.toNat:Int) W (by omega) (by omega)
      rw [hback,qmD] at this;exact this
     clear hback hx
     generalize wr.iterAt w.heap.size S (i+1)=W at *
     by_cases h47:x=47
     ·rw [if_pos h47] at HI;have HR:Hid (bad2 n=true):=qgJ (j:=i) (by have:=HSz.out;omega) (.inl (by rw [←Hg0.out];exact h47));clear h47;go_wp2_with (go_at_call 303;refine (HI.out _).mono ?_;rintro e w' ⟨rfl,hw⟩;have hw':=hw.symm;subst hw');go_ret
      exact ⟨Hb2.out,_,rfl,by rw [HR.out];simp⟩
     rw [if_neg h47] at HI;by_cases h0:x=0
     ·rw [if_pos h0] at HI;have HR:Hid (bad2 n=true):=qgJ (j:=i) (by have:=HSz.out;omega) (.inr (by rw [←Hg1.out];exact h0));clear h47 h0;go_wp2_with (go_at_call 303;refine (HI.out _).mono ?_;rintro e w' ⟨rfl,hw⟩;have hw':=hw.symm;subst hw');go_ret
      exact ⟨Hb2.out,_,rfl,by rw [HR.out];simp⟩
     rw [if_neg h0] at HI;have Hno2:Hid (∀ j,j<i+1→n.getD j 0≠47∧n.getD j 1≠0):=fun j hj=>by
      by_cases e:j=i
      ·subst e;rw [←Hg0.out,←Hg1.out];exact ⟨h47,h0⟩
      exact Hno.out j (by omega)
     clear h47 h0;go_wp2_with (go_at_call 303;refine (HI.out _).mono ?_;rintro e w' ⟨rfl,hw⟩;have hw':=hw.symm;subst hw');go_roundg g
     case measure=>omega
     case rel=>exact ⟨i+1,by omega,Hit2.out,Hb2,Hno2⟩
    have hhi:128≤(S[i]'hi).toNat:=by rw [hx];omega
    obtain ⟨d1,d2⟩:=qf7 S i hi hhi;obtain ⟨d3,d4⟩:=decode_high S i hi hhi;have d5:=decode_le S i;have hnx:=fun ty=>run_next_any_at (P:=Tryz.prog) wr w.heap.size S i ty hit hi
    obtain ⟨r,hr⟩:∃ r,r=(Utf8.decode S i).1:=⟨_,rfl⟩;obtain ⟨q,hq⟩:∃ q,q=(Utf8.decode S i).2:=⟨_,rfl⟩;rw [←hr,←hq] at hnx;rw [←hq] at d1 d2 d4;rw [←hr] at d3 d5;have Hb2:Hid (Below w.heap.size w (wr.iterAt w.heap.size S (i+q))):=below_iterAt Hb.out (Nat.le_refl _) S (i+q);have Hit2:Hid ((wr.iterAt w.heap.size S (i+q)).heap[w.heap.size]? = some (.stringIter S (i+q))):=iterAt_heap wr w.heap.size S i (i+q) hit;have HI:Hid (∀ W,Calls Tryz.prog 303 #[.string two,.int .i32 (r:Int)] W fun e w'=>e=.returned (.int .i64 (-1))∧Below W.heap.size W w'):=fun W=>qkh (r:Int) W (by omega) (by omega)
    have Hno2:Hid (∀ j,j<i+q→n.getD j 0≠47∧n.getD j 1≠0):=fun j hj=>by
     by_cases e:j<i
     ·exact Hno.out j e
     have hj':j<S.size:=by omega
     have h1:=d2 j hj' (by omega) hj;rw [←HG.out j hj' 0,←HG.out j hj' 1];exact ⟨fun e=>by rw [e] at h1;simp at h1,fun e=>by rw [e] at h1;simp at h1⟩
    have hws:w.heap.size<(wr.iterAt w.heap.size S (i+q)).heap.size:=(Array.getElem?_eq_some_iff.1 Hit2.out).1;clear hr hq d2 hx hhi hlow
    generalize wr.iterAt w.heap.size S (i+q)=W at *
    go_wp2_with (go_at_call 303;refine (HI.out _).mono ?_;rintro e W2 ⟨rfl,hb3⟩);go_roundg (S.size - (i+q))
    case measure=>omega
    case rel=>exact ⟨i+q,by omega,(hb3.block _ hws).trans Hit2.out,hidI (Hb2.out.trans (hb3.mono (by omega))),Hno2⟩
theorem qgU:∀ n:Bs,decide (0≤Lib.indexAny n [47,0])=bad2 n
 | []=>rfl
 | c :: l=>by
   have ih:=qgU l;have hge:=Lib.indexAny_ge [47,0] l;unfold Lib.indexAny;have e2:bad2 (c :: l)=((c==47||c==0)||bad2 l):=by simp [bad2]
   rw [e2];by_cases h1:([47,0]:List UInt8).contains c=true
   ·rw [if_pos h1]
    have:(c==47||c==0)=true:=by simpa using h1
    rw [this];simp
   rw [if_neg h1]
   have:(c==47||c==0)=false:=by simpa using h1
   rw [this,Bool.false_or,←ih];by_cases h2:Lib.indexAny l [47,0] = -1
   ·rw [h2];rfl
   have:(Lib.indexAny l [47,0] == -1)=false:=beq_eq_false_iff_ne.2 h2
   rw [this];simp only [Bool.false_eq_true,if_false];have h3:0≤Lib.indexAny l [47,0]:=by omega
   simp [h3];omega
theorem Tryz.zero95:∀ w,(zeroValue 331).run Tryz.prog w=.ok (.agg (Array.replicate 256 (.bool false))) w:=fun w=>Tryz.zeroValue331 w
theorem qmZ (n:Bs) (w:World) (hn:n.length≤1048576) :
 Calls Tryz.prog 275 #[.string (txt n),.string two] w fun e w'=>Below w.heap.size w w'∧∃ x,e=.returned (.int .i64 x)∧decide (0≤x)=bad2 n:=by
 by_cases h:n.length≤8
 ·exact qj0 n w h
 refine (Tryz.strings_IndexAny_long Tryz.zero95 (txt n) two w (by decide) (by rw [qaa];omega) (by rw [qaa];omega) (by decide) (fun j b hb => ?_)).mono ?_
 ·have e:two.data.toList=[47,0]:=rfl;rw [e] at hb
  match j,hb with
  | 0,hb=>simp at hb;subst hb;decide
  | 1,hb=>simp at hb;subst hb;decide
  | j+2,hb=>simp at hb
 rintro e w' ⟨rfl,rfl⟩;refine ⟨((Below.refl _ w).alloc (Nat.le_refl _) _).alloc (by simp) _,_,rfl,?_⟩;exact qgU n
theorem qfF (n:Bs) (w:World) (hn:n.length≤1048576) :
 Calls Tryz.prog 241 #[.string (txt n),.string two] w fun e w'=>Below w.heap.size w w'∧e=.returned (.bool (bad2 n)):=by
 have HI:=hidI (fun W=>qmZ n W hn)
 generalize txt n=S at *
 go_enter Tryz.func241,Tryz.ntmps241
 go_wp2_with (go_at_call 275;refine (HI.out _).mono ?_;rintro e w' ⟨hb,x,rfl,hx⟩);go_ret
 exact ⟨hb,by rw [←hx];rfl⟩
theorem qji {n:Bs} (h:(47:UInt8)∉n):bad2 n=n.contains 0:=by
 induction n with
 | nil=>rfl
 | cons c l ih =>
   have e2:bad2 (c :: l)=((c==47||c==0)||bad2 l):=by simp [bad2]
   have h1:(c==47)=false:=by
    rw [beq_eq_false_iff_ne];intro e;subst e;exact h (by simp)
   rw [e2,ih (fun hh=>h (by simp [hh])),h1,List.contains_cons];by_cases hc:c=0
   ·subst hc;simp
   have:((0:UInt8)==c)=false:=beq_eq_false_iff_ne.2 (fun e=>hc e.symm)
   have h2:(c==0)=false:=beq_eq_false_iff_ne.2 hc;rw [this,h2];simp
theorem qff {n:Bs} (X:ByteArray) (hX:X=txt n) (h47:(47:UInt8)∉n) :
 (okName n=false∧(X.toList.isEmpty=true∨(X.toList.isEmpty=false∧(X.toList==[46])=true)∨(X.toList.isEmpty=false∧(X.toList==[46])=false∧(X.toList==[46,46])=true)∨(X.toList.isEmpty=false∧(X.toList==[46])=false∧(X.toList==[46,46])=false∧20<X.size))) ∨
 (X.toList.isEmpty=false∧(X.toList==[46])=false∧(X.toList==[46,46])=false∧X.size≤20∧okName n = !bad2 n):=by
 subst hX;rw [qar,qaa,qji h47];unfold okName;by_cases h1:n=[]
 ·subst h1;exact .inl ⟨by simp,.inl (by simp)⟩
 have h1':n.isEmpty=false:=by simpa using h1
 by_cases h2:n=[46]
 ·subst h2;exact .inl ⟨by simp,.inr (.inl (by simp))⟩
 by_cases h3:n=[46,46]
 ·subst h3;exact .inl ⟨by simp,.inr (.inr (.inl (by simp)))⟩
 by_cases h4:n.length≤20
 ·exact .inr ⟨h1',by simpa using h2,by simpa using h3,h4,by simp [h1,h2,h3,h4]⟩
 exact .inl ⟨by simp [h4],.inr (.inr (.inr ⟨h1',by simpa using h2,by simpa using h3,by omega⟩))⟩
theorem qhO (n:Bs) (w:World) (h47:(47:UInt8)∉n) (hn:n.length≤1048576) :
 Calls Tryz.prog 188 #[.string (txt n)] w fun e w'=>Below w.heap.size w w'∧e=.returned (.bool (okName n)):=by
 have HI:=hidI (fun W=>qfF n W hn);obtain ⟨X,hX⟩:∃ X,X=txt n:=⟨_,rfl⟩;rw [←hX] at HI ⊢;rcases qff X hX h47 with ⟨hbad,hc⟩ | ⟨c1,c2,c3,c4,hok⟩
 ·rw [hbad];clear HI hX hbad;rcases hc with c1 | ⟨c1,c2⟩ | ⟨c1,c2,c3⟩ | ⟨c1,c2,c3,c4⟩
  all_goals
   go_enter Tryz.func188,Tryz.ntmps188
   go_wp2;go_ret
   exact ⟨Below.refl _ _,rfl⟩
 rw [hok];clear hX hok;unfold two at HI;go_enter Tryz.func188,Tryz.ntmps188
 go_wp2_with (go_at_call 241;refine (HI.out _).mono ?_;rintro e w' ⟨hb,rfl⟩);go_ret
 exact ⟨hb,rfl⟩
end Go.Proofs.YtodmdkhdbfbfgaaGreatDoor
namespace Go.Proofs.YtodmdkhdbfbfgaaGreatDoor
open Go.RowKit Go.Nt
theorem qbw {p:Bs} (h:(47:UInt8)∉p):split p=[p]:=by
 induction p with
 | nil=>rfl
 | cons c l ih =>
   have hc:c≠47:=fun e=>h (by simp [e])
   rw [qak hc (ih fun hh=>h (by simp [hh]))]
theorem qcH {c r:Bs} (h:(47:UInt8)∉c):split (c++47 :: r)=c :: split r:=by
 induction c with
 | nil=>rw [List.nil_append,qal]
 | cons x l ih =>
   have hx:x≠47:=fun e=>h (by simp [e])
   rw [List.cons_append,qak hx (ih fun hh=>h (by simp [hh]))]
theorem idx47 (p:Bs):((47:UInt8)∉p∧Lib.index p [47] = -1)∨∃ c r,p=c++47 :: r∧(47:UInt8)∉c∧Lib.index p [47]=(c.length:Int):=by
 rw [Lib.index_one]
 induction p with
 | nil=>exact .inl ⟨by simp,rfl⟩
 | cons x l ih =>
   by_cases hx:x=47
   ·subst hx;exact .inr ⟨[],l,rfl,by simp,by simp [Lib.indexByte]⟩
   have hx':(47:UInt8)≠x:=fun e=>hx e.symm
   rcases ih with ⟨h1,h2⟩ | ⟨c,r,rfl,h1,h2⟩
   ·exact .inl ⟨by simp [h1,hx'],by simp [Lib.indexByte,hx,h2]⟩
   refine .inr ⟨x :: c,r,rfl,by simp [h1,hx'],?_⟩;have h3:Lib.indexByte (c++47 :: r) 47 ≠ -1:=by rw [h2];omega
   simp [Lib.indexByte,hx,h2]
theorem pieces:∀ (k:Nat) (p:Bs),((split p).length≤k+1→Lib.splitK [47] 0 k p=split p)∧(k+1<(split p).length→(Lib.splitK [47] 0 k p).length=k+1)
 | 0,p=>by
   refine ⟨fun h => ?_,fun _=>rfl⟩;rcases idx47 p with ⟨h1,_⟩ | ⟨c,r,rfl,h1,_⟩
   ·rw [qbw h1];rfl
   rw [qcH h1] at h
   have:=qhh r
   cases hs:split r with
   | nil=>exact absurd hs this
   | cons a b=>rw [hs] at h;simp at h
 | k+1,p=>by
   unfold Lib.splitK;rcases idx47 p with ⟨h1,h2⟩ | ⟨c,r,rfl,h1,h2⟩
   ·rw [h2,qbw h1];simp
   rw [h2,qcH h1];have e1:((c.length:Int) == -1)=false:=beq_eq_false_iff_ne.2 (by omega);rw [e1];obtain ⟨ih1,ih2⟩:=pieces k r;simp only [Bool.false_eq_true,if_false,Int.toNat_natCast,Nat.add_zero,List.length_cons,List.length_nil];have e2:(c++47 :: r).take c.length=c:=by simp
   have e3:(c++47 :: r).drop (c.length+(0+1))=r:=by
    rw [show c.length+(0+1)=c.length+1 by omega,←List.drop_drop];simp
   rw [e2,e3];exact ⟨fun h=>by rw [ih1 (by omega)],fun h=>by rw [ih2 (by omega)]⟩
theorem qcq (p:Bs):(split p).length≤p.length+1:=by
 induction p with
 | nil=>simp [split]
 | cons c l ih =>
   by_cases hc:c=47
   ·subst hc;rw [qal];simp;omega
   obtain ⟨n,ns,e⟩:=qav l;rw [qak hc e];rw [e] at ih;simp at ih ⊢;omega
theorem qhH (p:Bs):∀ n∈split p,(47:UInt8)∉n:=by
 induction p with
 | nil=>intro n hn;simp [split] at hn;subst hn;simp
 | cons c l ih =>
   intro n hn;by_cases hc:c=47
   ·subst hc;rw [qal] at hn;rcases List.mem_cons.1 hn with rfl | h
    ·simp
    exact ih n h
   obtain ⟨m,ms,e⟩:=qav l;rw [qak hc e] at hn;rw [e] at ih;have hc':(47:UInt8)≠c:=fun h=>hc h.symm
   rcases List.mem_cons.1 hn with rfl | h
   ·have:=ih m (by simp)
    simp [hc',this]
   exact ih n (by simp [h])
theorem qlt (p:Bs):∀ n∈split p,n.length≤p.length:=by
 induction p with
 | nil=>intro n hn;simp [split] at hn;subst hn;simp
 | cons c l ih =>
   intro n hn;by_cases hc:c=47
   ·subst hc;rw [qal] at hn;rcases List.mem_cons.1 hn with rfl | h
    ·simp
    have:=ih n h;simp;omega
   obtain ⟨m,ms,e⟩:=qav l;rw [qak hc e] at hn;rw [e] at ih;rcases List.mem_cons.1 hn with rfl | h
   ·have:=ih m (by simp);simp;omega
   have:=ih n (by simp [h]);simp;omega
end Go.Proofs.YtodmdkhdbfbfgaaGreatDoor
namespace Go.Proofs.YtodmdkhdbfbfgaaGreatDoor
open Go.RowKit Go.Nt Go.Shelf
attribute [local go_sem] Oper.semAt_some
theorem idxB47 (p:Bs):((47:UInt8)∉p∧Lib.indexByte p 47 = -1)∨∃ c r,p=c++47 :: r∧(47:UInt8)∉c∧Lib.indexByte p 47=(c.length:Int):=by
 have:=idx47 p
 rw [Lib.index_one] at this;exact this
theorem qfV (s:ByteArray) (w:World):Calls Tryz.prog 234 #[.string s,.string ⟨#[47]⟩] w fun e w'=>e=.returned (.int .i64 (Lib.indexByte s.data.toList 47))∧w'=w:=
 Any.strings_Index_one ({ Tryz.lays146 with }:Lays.n143 Tryz.prog Tryz.lays146_ren) s 47 w
theorem qbR (s:ByteArray) (w:World):Calls Tryz.prog 233 #[.string s,.string ⟨#[47]⟩] w fun e w'=>e=.returned (.int .i64 (Lib.countByte s.data.toList 47))∧w'=w:=
 Any.strings_Count_one ({ Tryz.lays146 with }:Lays.n138 Tryz.prog Tryz.lays146_ren) s 47 w
theorem qjl (p:Bs):(split p).length=p.count 47+1:=by
 induction p with
 | nil=>rfl
 | cons c cs ih =>
   obtain ⟨n,ns,e⟩:=qav cs;by_cases h:c=47
   ·subst h;rw [qal];simp [ih]
   rw [qak h e];rw [e] at ih;simp at ih;simp [h,ih]
def boxLen (b:Nat) (w:World):Nat:=match w.cell? ⟨b,0,none⟩ with | some (.string s)=>s.size | _=>0
theorem qeZ (n b0 n₀:Nat) (p:Bs) (w:World) (hp:p.length≤1048576) (hn0:b0+2<n₀) (hsz:n₀≤w.heap.size)
 (h0:w.heap[b0]? = some (.cells #[.string (txt p)] 9 (0,0))) (h1:w.heap[b0+1]? = some (.cells #[.string ⟨#[47]⟩] 9 (0,0))) (h2:w.heap[b0+2]? = some (.cells #[.int .i64 0] 3 (0,0))) :
 SeqBox Fence.wide n Tryz.prog 274 #[.pointer (some ⟨b0+1,0,none⟩),.pointer (some ⟨b0,0,none⟩),.pointer (some ⟨b0+2,0,none⟩)] (fun x:Bs=>.string (txt x)) n₀ b0 (split p) w:=by
 intro l J Jx W hW hJ hJx hY hJ0;refine callsIn_of_wp Tryz.func274 rfl trivial ?_ rfl;simp only [Tryz.ntmps274,List.size_toArray,List.length_cons,List.length_nil,Nat.reduceAdd,Nat.reduceSub,Array.replicate_succ,Array.replicate_zero,List.push_toArray,List.append_toArray,List.nil_append,List.cons_append];have e0:W.heap[b0]? = some (.cells #[.string (txt p)] 9 (0,0)):=(hW.block b0 (by omega)).trans h0;have e1:W.heap[b0+1]? = some (.cells #[.string ⟨#[47]⟩] 9 (0,0)):=(hW.block (b0+1) (by omega)).trans h1;have e2:W.heap[b0+2]? = some (.cells #[.int .i64 0] 3 (0,0)):=(hW.block (b0+2) (by omega)).trans h2;have c1:W.cell? ⟨b0+1,0,none⟩=some (.string ⟨#[47]⟩):=by rw [cell_of_row W (b0+1) 0 _ 9 (0,0) e1];rfl
 gi_wp2;clear c1
 gi_loopw [] (fun wr=>∃ (pre:List Bs) (rest:Bs),Hid (split p=pre++split rest)∧rest.length≤1048576∧Hid (wr.heap[b0]? = some (.cells #[.string (txt rest)] 9 (0,0)))∧Hid (wr.heap[b0+1]? = some (.cells #[.string ⟨#[47]⟩] 9 (0,0)))∧Hid (wr.heap[b0+2]? = some (.cells #[.int .i64 0] 3 (0,0)))∧Hid (J pre wr)) (fun wr=>boxLen b0 wr)
 case atStart=>exact ⟨[],p,hidI rfl,hp,hidI e0,hidI e1,hidI e2,hidI hJ0⟩
 case round =>
  obtain ⟨pre,rest,Hs,hr,H0,H1,H2,HJ⟩:=hrel;have c0:wr.cell? ⟨b0,0,none⟩=some (.string (txt rest)):=by rw [cell_of_row wr b0 0 _ 9 (0,0) H0.out];rfl
  have c1:wr.cell? ⟨b0+1,0,none⟩=some (.string ⟨#[47]⟩):=by rw [cell_of_row wr (b0+1) 0 _ 9 (0,0) H1.out];rfl
  have c2:wr.cell? ⟨b0+2,0,none⟩=some (.int .i64 0):=by rw [cell_of_row wr (b0+2) 0 _ 3 (0,0) H2.out];rfl
  rcases idxB47 rest with ⟨h47,hix⟩ | ⟨a,r,hrest,h47,hix⟩
  ·have HI:Hid (Calls Tryz.prog 234 #[.string (txt rest),.string ⟨#[47]⟩] wr fun e w'=>e=.returned (.int .i64 (-1))∧w'=wr):=hidI (by have:=qfV (txt rest) wr;rw [qgT,hix] at this;exact this);obtain ⟨fn,tmps,assign,body,hy,hR⟩:=hY pre rest wr HJ.out (by rw [Hs.out,qbw h47];exact List.prefix_refl _);have HR:=hidI hR;have Hn:=hidI (qbw h47);clear hix hR h47;gi_wp2;refine ⟨trivial,fun h=>(by cases h),(callsIn_wide.2 HI.out).mono ?_⟩;rintro e w' ⟨rfl,hw⟩;have hw':=hw.symm;subst hw';clear hw;gi_wp2;refine ⟨fun h=>(by cases h),HR.out.mono ?_⟩;rintro e W3 (⟨rfl,hJ3,hk3⟩ | ⟨rfl,hJx3⟩)
   ·gi_wp2;go_end0
    refine ⟨⟨_,rfl⟩,.inl ?_⟩;rw [Hs.out,Hn.out];exact hJ3
   gi_wp2;go_end0
   exact ⟨⟨_,rfl⟩,.inr ⟨_,by rw [Hs.out,Hn.out];exact List.prefix_refl _,hJx3⟩⟩
  subst hrest;have HI:Hid (Calls Tryz.prog 234 #[.string (txt (a++47 :: r)),.string ⟨#[47]⟩] wr fun e w'=>e=.returned (.int .i64 a.length)∧w'=wr):=hidI (by have:=qfV (txt (a++47 :: r)) wr;rw [qgT,hix] at this;exact this);have hsp:=qcH (r:=r) h47;have hpre:pre++[a] <+: split p:=by rw [Hs.out,hsp];exact ⟨split r,by simp⟩
  obtain ⟨fn,tmps,assign,body,hy,hR⟩:=hY pre a wr HJ.out hpre;have HR:=hidI hR;have Hsp:Hid (split p=(pre++[a])++split r):=hidI (by rw [Hs.out,hsp];simp);have Hpre:=hidI hpre;obtain ⟨X,hX⟩:∃ X,X=txt (a++47 :: r):=⟨_,rfl⟩;have Sx:X.size=a.length+1+r.length:=by rw [hX,qaa];simp;omega
  have hxa:X.extract 0 a.length=txt a:=by rw [hX,qae];simp
  have hxr:X.extract (a.length+1) X.size=txt r:=by
   rw [Sx,hX,qae]
   congr 1
   rw [←List.drop_drop];simp
  rw [←hX] at HI c0 H0;obtain ⟨k,hk⟩:∃ k,k=a.length:=⟨_,rfl⟩;have Hk:=hidI hk;rw [←hk] at HI hxa hxr Sx;rw [←hxa] at hy;have Hxr:=hidI hxr;have hrl:r.length≤1048576:=by simp at hr;omega
  have hXl:X.size≤1048576:=by simp at hr;omega
  have hkX:k+1≤X.size:=by omega
  clear hix hR h47 hsp hpre hX hxa hxr hk Hs hr;gi_wp2;refine ⟨trivial,fun h=>(by cases h),(callsIn_wide.2 HI.out).mono ?_⟩;rintro e w' ⟨rfl,hw⟩;have hw':=hw.symm;subst hw';clear hw;gi_wp2;refine ⟨fun h=>(by cases h),HR.out.mono ?_⟩;rintro e W3 (⟨rfl,hJ3,hk3⟩ | ⟨rfl,hJx3⟩)
  ·have r0:W3.heap[b0]? = some (.cells #[.string X] 9 (0,0)):=(hk3.block b0 (by omega)).trans H0.out;have r1:W3.heap[b0+1]? = some (.cells #[.string ⟨#[47]⟩] 9 (0,0)):=(hk3.block (b0+1) (by omega)).trans H1.out;have R2:Hid (W3.heap[b0+2]? = some (.cells #[.int .i64 0] 3 (0,0))):=hidI ((hk3.block (b0+2) (by omega)).trans H2.out);have c0':W3.cell? ⟨b0,0,none⟩=some (.string X):=by rw [cell_of_row W3 b0 0 _ 9 (0,0) r0];rfl
   have c1':W3.cell? ⟨b0+1,0,none⟩=some (.string ⟨#[47]⟩):=by rw [cell_of_row W3 (b0+1) 0 _ 9 (0,0) r1];rfl
   have f0':W3.frozen? ⟨b0,0,none⟩=false:=frozen_of_row W3 b0 0 _ 9 r0;have R0:=hidI r0;have R1:=hidI r1;have HJ3:=hidI hJ3;clear hJ3 hk3 hy HR HI r0 r1;gi_wp2;have hx:X.extract (k+1) (k+1+r.length)=txt r:=by have:=Hxr.out;rw [Sx] at this;exact this
   rw [hx];have hs0:=heap_setCell_same W3 b0 0 #[.string X] 9 (.string (txt r)) R0.out;refine ⟨⟨pre++[a],r,Hsp,hrl,hidI hs0,hidI ((Below.heap_setCell W3 ⟨b0,0,none⟩ _ (b0+1) (by simp)).trans R1.out),hidI ((Below.heap_setCell W3 ⟨b0,0,none⟩ _ (b0+2) (by simp)).trans R2.out),hidI (hJ.set _ _ _ HJ3.out)⟩,?_⟩;unfold boxLen;rw [c0,cell_of_row _ b0 0 _ 9 (0,0) hs0];show (txt r).size<X.size;rw [qaa];omega
  gi_wp2;refine bodyPost_ret (results_none rfl _ _ _) rfl ?_;exact ⟨⟨_,rfl⟩,.inr ⟨_,Hpre.out,hJx3⟩⟩
end Go.Proofs.YtodmdkhdbfbfgaaGreatDoor
namespace Go.Proofs.YtodmdkhdbfbfgaaGreatDoor
open Go.RowKit Go.Nt
theorem below_drewN {B:Nat} {w W:World} (h:Below B w W) (q:Nat):Below B w (W.drewN q):=by
 induction q with
 | zero=>exact h
 | succ q ih=>exact ih.drew
def boxed (w:World) (x:It):World:=w.alloc (.cells #[.string (txt x.path),.bool x.dir,.string (txt x.data),.int .i64 x.mode,.int .i64 x.time] 39)
theorem qcz (w:World) (x:It):ItAt (boxed w x) w.heap.size 0 x:=by
 refine ItAt.of_cells fun j u hu => ?_
 rw [cell_of_row (boxed w x) w.heap.size (0+j) _ 39 (0,0) (heap_alloc_new _ _)];simpa [itl] using hu
end Go.Proofs.YtodmdkhdbfbfgaaGreatDoor
