/- Lemmas. -/
import Derived.Shelf.SlGeneric
import Derived.Shelf.Small.Utf8
import Derived.Shelf.Small.Strs
import Derived.Shelf.LaysM
import Derived.Shelf.Strconv.Clone
import Derived.Shelf.Strings.SplitShaped
import Derived.Shelf.Strings.IndexAnyAll
import Derived.Shelf.SlSortCmp.NoneTotal
import Derived.Shelf.SlIter.Sorted
import Derived.Shelf.SlIter.Nil
import Derived.Laws.RangeAny
import Derived.Laws.Runes
import Derived.WalkMore
import Derived.Lib.OthersKept
import Derived.RangeFuncNested
import Derived.RangeFuncBound
import Derived.RangeFuncCalls
import Derived.RangeFuncLeaves
import Derived.Shelf.Strings.Count
import Derived.Test.YtodmdkhdbfbfgaaGreatDoorM15
set_option linter.unusedVariables false
set_option linter.unusedSimpArgs false
set_option maxRecDepth 100000
set_option maxHeartbeats 8000000
open Go.Proofs.Tryz
namespace Go.Proofs
open Go.Shelf
def LF:Go.Shelf.Ren:=⟨fun | 119=>329 | n=>n,fun | 21=>21 | 4=>4 | n=>n,fun | n=>n⟩
theorem O0:Go.Proofs.Lays.n119 prog LF:={
 mixed:=by kernel_rfl
 f119:=func329.trans (AV some (by kernel_rfl))
 t4:=underlying4
 a4:=isAgg4
 z4:=sizeOf4
 v4:=zeroValue4
 t21:=underlying21
 a21:=isAgg21
 z21:=sizeOf21
 v21:=zeroValue21 }
theorem utf8_ValidRune(r:Int)(w:D7) :
 Calls prog 329 #[.int .i32 r] w λe w'=>e=.returned (.bool (Lib.validRune r))/\w'=w:=Any.utf8_ValidRune O0 r w
def LP:Go.Shelf.Ren:=⟨fun | 137=>328 | 217=>299 | 266=>326 | n=>n,fun | 9=>9 | 5=>5 | 3=>3 | n=>n,fun | n=>n⟩
theorem O2:Go.Proofs.Lays.n137 prog LP:={
 mixed:=by kernel_rfl
 f137:=func328.trans (AV some (by kernel_rfl))
 f217:=func299.trans (AV some (by kernel_rfl))
 f266:=func326.trans (AV some (by kernel_rfl))
 t3:=underlying3
 a3:=isAgg3
 z3:=sizeOf3
 v3:=zeroValue3
 t5:=underlying5
 a5:=isAgg5
 z5:=sizeOf5
 v5:=zeroValue5
 t9:=underlying9
 a9:=isAgg9
 z9:=sizeOf9
 v9:=zeroValue9 }
open Go.RowKit in
theorem strings_IndexByte(s:ByteArray)(c:Int)(w:D7) :
 Calls prog 328 #[.string s,.int .u8 c] w λe w'=>e=.returned (.int .i64 (Lib.indexByte s.data.toList c.toNat.toUInt8))/\w'=w:=Any.strings_IndexByte O2 s c w
def Ku:Go.Shelf.Ren:=⟨fun | 316=>122 | n=>n,fun | 9=>9 | 3=>3 | 4=>4 | 37=>111 | 0=>0 | 127=>242 | 5=>5 | n=>n,fun | n=>n⟩
theorem NK:Go.Proofs.LaysM.n316 prog Ku:={
 mixed:=by kernel_rfl
 f316:=func122.trans (AV some (by kernel_rfl))
 t0:=underlying0
 a0:=isAgg0
 z0:=sizeOf0
 v0:=zeroValue0
 t3:=underlying3
 a3:=isAgg3
 z3:=sizeOf3
 v3:=zeroValue3
 t4:=underlying4
 a4:=isAgg4
 z4:=sizeOf4
 v4:=zeroValue4
 t9:=underlying9
 a9:=isAgg9
 z9:=sizeOf9
 v9:=zeroValue9
 t37:=underlying111
 a37:=isAgg111
 z37:=sizeOf111
 v37:=zeroValue111
 t127:=underlying242
 a127:=isAgg242
 z127:=sizeOf242
 v127:=zeroValue242
 t5:=underlying5
 a5:=isAgg5
 z5:=sizeOf5
 v5:=zeroValue5
 i0:=by kernel_rfl
 i3:=by kernel_rfl
 i4:=by kernel_rfl
 i5:=by kernel_rfl
 i9:=by kernel_rfl
 i37:=by kernel_rfl
 i127:=by kernel_rfl }
open Go.RowKit in
theorem stringslite_Clone(s:ByteArray)(w:D7)(hlim:s.size<=281474976710656) :
 Calls prog 122 #[.string s] w λe w'=>e=.returned (.string s)/\Below w.heap.size w w':=Any.stringslite_Clone NK s w hlim
def Gx:Go.Shelf.Ren:=⟨fun | 146=>114 | 221=>173 | 268=>232 | 138=>233 | 143=>234 | 195=>269 | 197=>270 | 218=>271 | 219=>272 | 260=>298 | 217=>299 | 225=>300 | 224=>301 | 267=>302 | 266=>326 | 314=>327 | n=>n,fun | 9=>9 | 31=>40 | 3=>3 | 4=>4 | 0=>0 | 105=>306 | 21=>21 | 5=>5 | 46=>110 | 119=>356 | 139=>359 | 138=>358 | 146=>360 | 51=>88 | n=>n,fun | 1=>0 | 3=>1 | 4=>2 | n=>n⟩
theorem Ki:Go.Proofs.Lays.n146 prog Gx:={
 mixed:=by kernel_rfl
 f138:=func233.trans (AV some (by kernel_rfl))
 f143:=func234.trans (AV some (by kernel_rfl))
 f146:=func114.trans (AV some (by kernel_rfl))
 f195:=func269.trans (AV some (by kernel_rfl))
 f197:=func270.trans (AV some (by kernel_rfl))
 f217:=func299.trans (AV some (by kernel_rfl))
 f218:=func271.trans (AV some (by kernel_rfl))
 f219:=func272.trans (AV some (by kernel_rfl))
 f221:=func173.trans (AV some (by kernel_rfl))
 f224:=func301.trans (AV some (by kernel_rfl))
 f225:=func300.trans (AV some (by kernel_rfl))
 f260:=func298.trans (AV some (by kernel_rfl))
 f266:=func326.trans (AV some (by kernel_rfl))
 f267:=func302.trans (AV some (by kernel_rfl))
 f268:=func232.trans (AV some (by kernel_rfl))
 f314:=func327.trans (AV some (by kernel_rfl))
 t0:=underlying0
 a0:=isAgg0
 z0:=sizeOf0
 v0:=zeroValue0
 t3:=underlying3
 a3:=isAgg3
 z3:=sizeOf3
 v3:=zeroValue3
 t4:=underlying4
 a4:=isAgg4
 z4:=sizeOf4
 v4:=zeroValue4
 t5:=underlying5
 a5:=isAgg5
 z5:=sizeOf5
 v5:=zeroValue5
 t9:=underlying9
 a9:=isAgg9
 z9:=sizeOf9
 v9:=zeroValue9
 t21:=underlying21
 a21:=isAgg21
 z21:=sizeOf21
 v21:=zeroValue21
 t31:=underlying40
 a31:=isAgg40
 z31:=sizeOf40
 v31:=zeroValue40
 t46:=underlying110
 a46:=isAgg110
 z46:=sizeOf110
 v46:=zeroValue110
 t51:=underlying88
 a51:=isAgg88
 z51:=sizeOf88
 v51:=zeroValue88
 t105:=underlying306
 a105:=isAgg306
 z105:=sizeOf306
 v105:=zeroValue306
 t119:=underlying356
 a119:=isAgg356
 z119:=sizeOf356
 t138:=underlying358
 a138:=isAgg358
 z138:=sizeOf358
 v138:=zeroValue358
 t139:=underlying359
 a139:=isAgg359
 z139:=sizeOf359
 v139:=zeroValue359
 t146:=underlying360
 a146:=isAgg360
 z146:=sizeOf360
 v146:=zeroValue360
 g1:=by kernel_rfl
 g3:=by kernel_rfl
 g4:=by kernel_rfl }
open Go.RowKit Go.Lib in
theorem strings_Split(s sep:ByteArray)(m:Int)(w:D7)(hs:s.size<4294967281)(hm:w.cell? ⟨0,0,none⟩=some (.int .i64 m))(h1:1<=sep.size) :
 Calls prog 114 #[.string s,.string sep] w λe w' =>
  e=.returned (.slice (some ⟨w.heap.size,0,none⟩) (Lib.countB s sep+1) (Lib.countB s sep+1))/\w'=w.alloc (.cells ((Lib.splitB sep 0 (Lib.countB s sep) s).map Value.string).toArray 9):=Any.strings_Split Ki (by kernel_rfl) s sep m w hs hm h1
def L9:Go.Shelf.Ren:=⟨fun | 152=>303 | 137=>328 | 119=>329 | 224=>301 | 225=>300 | 217=>299 | 266=>326 | n=>n,fun | 9=>9 | 21=>21 | 3=>3 | 4=>4 | 5=>5 | 0=>0 | 46=>110 | n=>n,fun | n=>n⟩
theorem ON:Go.Proofs.Lays.n152 prog L9:={
 mixed:=by kernel_rfl
 f119:=func329.trans (AV some (by kernel_rfl))
 f137:=func328.trans (AV some (by kernel_rfl))
 f152:=func303.trans (AV some (by kernel_rfl))
 f217:=func299.trans (AV some (by kernel_rfl))
 f224:=func301.trans (AV some (by kernel_rfl))
 f225:=func300.trans (AV some (by kernel_rfl))
 f266:=func326.trans (AV some (by kernel_rfl))
 t0:=underlying0
 a0:=isAgg0
 z0:=sizeOf0
 v0:=zeroValue0
 t3:=underlying3
 a3:=isAgg3
 z3:=sizeOf3
 v3:=zeroValue3
 t4:=underlying4
 a4:=isAgg4
 z4:=sizeOf4
 v4:=zeroValue4
 t5:=underlying5
 a5:=isAgg5
 z5:=sizeOf5
 v5:=zeroValue5
 t9:=underlying9
 a9:=isAgg9
 z9:=sizeOf9
 v9:=zeroValue9
 t21:=underlying21
 a21:=isAgg21
 z21:=sizeOf21
 v21:=zeroValue21
 t46:=underlying110
 a46:=isAgg110
 z46:=sizeOf110
 v46:=zeroValue110 }
open Go.RowKit Go.Lib in
theorem strings_IndexRune_ascii(s:ByteArray)(r:Int)(w:D7)(h0:0<=r)(h1:r<128) :
 Calls prog 303 #[.string s,.int .i32 r] w λe w'=>e=.returned (.int .i64 (Lib.indexByte s.data.toList r.toNat.toUInt8))/\w'=w:=Any.strings_IndexRune_ascii ON s r w h0 h1
def LH:Go.Shelf.Ren:=⟨fun | 226=>304 | n=>n,fun | 3=>3 | 4=>4 | n=>n,fun | n=>n⟩
theorem OE:Go.Proofs.Lays.n226 prog LH:={
 mixed:=by kernel_rfl
 f226:=func304.trans (AV some (by kernel_rfl))
 t3:=underlying3
 a3:=isAgg3
 z3:=sizeOf3
 v3:=zeroValue3
 t4:=underlying4
 a4:=isAgg4
 z4:=sizeOf4
 v4:=zeroValue4 }
open Go.RowKit Go.Lib in
theorem strings_shouldUseASCIISet(n:Int)(w:D7) :
 Calls prog 304 #[.int .i64 n] w λe w'=>e=.returned (.bool (decide (8<n)))/\w'=w:=Any.strings_shouldUseASCIISet OE n w
def LU:Go.Shelf.Ren:=⟨fun | 153=>275 | 152=>303 | 226=>304 | 227=>305 | 228=>306 | 137=>328 | 119=>329 | 224=>301 | 225=>300 | 217=>299 | 266=>326 | n=>n,fun | 9=>9 | 3=>3 | 4=>4 | 5=>5 | 21=>21 | 117=>332 | 116=>331 | 0=>0 | 46=>110 | 124=>363 | n=>n,fun | n=>n⟩
theorem OD:Go.Proofs.Lays.n153 prog LU:={
 mixed:=by kernel_rfl
 f119:=func329.trans (AV some (by kernel_rfl))
 f137:=func328.trans (AV some (by kernel_rfl))
 f152:=func303.trans (AV some (by kernel_rfl))
 f153:=func275.trans (AV some (by kernel_rfl))
 f217:=func299.trans (AV some (by kernel_rfl))
 f224:=func301.trans (AV some (by kernel_rfl))
 f225:=func300.trans (AV some (by kernel_rfl))
 f226:=func304.trans (AV some (by kernel_rfl))
 f227:=func305.trans (AV some (by kernel_rfl))
 f228:=func306.trans (AV some (by kernel_rfl))
 f266:=func326.trans (AV some (by kernel_rfl))
 t0:=underlying0
 a0:=isAgg0
 z0:=sizeOf0
 v0:=zeroValue0
 t3:=underlying3
 a3:=isAgg3
 z3:=sizeOf3
 v3:=zeroValue3
 t4:=underlying4
 a4:=isAgg4
 z4:=sizeOf4
 v4:=zeroValue4
 t5:=underlying5
 a5:=isAgg5
 z5:=sizeOf5
 v5:=zeroValue5
 t9:=underlying9
 a9:=isAgg9
 z9:=sizeOf9
 v9:=zeroValue9
 t21:=underlying21
 a21:=isAgg21
 z21:=sizeOf21
 v21:=zeroValue21
 t46:=underlying110
 a46:=isAgg110
 z46:=sizeOf110
 v46:=zeroValue110
 t116:=underlying331
 a116:=isAgg331
 z116:=sizeOf331
 t117:=underlying332
 a117:=isAgg332
 z117:=sizeOf332
 v117:=zeroValue332
 t124:=underlying363
 a124:=isAgg363
 z124:=sizeOf363
 v124:=zeroValue363 }
open Go.RowKit Go.Lib in
theorem strings_IndexAny_long(hv116:∀w,(zeroValue 331).run prog w=.ok (.agg (Array.replicate 256 (.bool false))) w)(s chars:ByteArray)(w:D7)(h2:2<=chars.size)(h8:8<s.size)(hs:s.size<4294967281)(hcs:chars.size<4294967281)(hascii:∀(j:Nat) b,chars.data.toList[j]? = some b->b.toNat<128) :
 Calls prog 275 #[.string s,.string chars] w λe w'=>e=.returned (.int .i64 (Lib.indexAny s.data.toList chars.data.toList))/\w'=((w.alloc (.cells (Lib.setCells chars.data.toList) 331)).alloc (.cells (Lib.setCells chars.data.toList) 331)):=Any.strings_IndexAny_long OD hv116 (by kernel_rfl) s chars w h2 h8 hs hcs hascii
def Jh:Go.Shelf.Ren:=⟨fun | 6=>111 | 15=>118 | 14=>171 | 28=>184 | 29=>185 | 20=>223 | 21=>224 | 22=>225 | 23=>226 | 24=>227 | 25=>228 | 26=>229 | 27=>230 | 46=>266 | 47=>236 | 48=>237 | 49=>267 | 50=>268 | 57=>297 | n=>n,fun | 22=>40 | 24=>9 | 25=>118 | 3=>3 | 39=>110 | 0=>0 | 53=>88 | 55=>240 | 4=>4 | 46=>231 | 45=>230 | 50=>236 | 5=>5 | 9=>9 | 66=>261 | 70=>265 | 76=>308 | 77=>309 | n=>n,fun | n=>n⟩
theorem N9:Go.Proofs.SlLaysF.n6 prog Jh:={
 mixed:=by kernel_rfl
 f6:=⟨f111.name,by decide,func111.trans (AV some (by kernel_rfl))⟩
 f14:=⟨f171.name,by decide,func171.trans (AV some (by kernel_rfl))⟩
 f15:=func118.trans (AV some (by kernel_rfl))
 f20:=⟨f223.name,by decide,func223.trans (AV some (by kernel_rfl))⟩
 f21:=⟨f224.name,by decide,func224.trans (AV some (by kernel_rfl))⟩
 f22:=⟨f225.name,by decide,func225.trans (AV some (by kernel_rfl))⟩
 f23:=⟨f226.name,by decide,func226.trans (AV some (by kernel_rfl))⟩
 f24:=⟨f227.name,by decide,func227.trans (AV some (by kernel_rfl))⟩
 f25:=⟨f228.name,by decide,func228.trans (AV some (by kernel_rfl))⟩
 f26:=⟨f229.name,by decide,func229.trans (AV some (by kernel_rfl))⟩
 f27:=⟨f230.name,by decide,func230.trans (AV some (by kernel_rfl))⟩
 f28:=func184.trans (AV some (by kernel_rfl))
 f29:=func185.trans (AV some (by kernel_rfl))
 f46:=⟨f266.name,by decide,func266.trans (AV some (by kernel_rfl))⟩
 f47:=func236.trans (AV some (by kernel_rfl))
 f48:=func237.trans (AV some (by kernel_rfl))
 f49:=⟨f267.name,by decide,func267.trans (AV some (by kernel_rfl))⟩
 f50:=⟨f268.name,by decide,func268.trans (AV some (by kernel_rfl))⟩
 f57:=⟨f297.name,by decide,func297.trans (AV some (by kernel_rfl))⟩
 t0:=underlying0
 a0:=isAgg0
 z0:=sizeOf0
 v0:=zeroValue0
 t3:=underlying3
 a3:=isAgg3
 z3:=sizeOf3
 v3:=zeroValue3
 t4:=underlying4
 a4:=isAgg4
 z4:=sizeOf4
 v4:=zeroValue4
 t5:=underlying5
 a5:=isAgg5
 z5:=sizeOf5
 v5:=zeroValue5
 t9:=underlying9
 a9:=isAgg9
 z9:=sizeOf9
 v9:=zeroValue9
 t22:=underlying40
 a22:=isAgg40
 z22:=sizeOf40
 v22:=zeroValue40
 a24:=isAgg9
 z24:=sizeOf9
 t25:=underlying118
 a25:=isAgg118
 z25:=sizeOf118
 v25:=zeroValue118
 t39:=underlying110
 a39:=isAgg110
 z39:=sizeOf110
 v39:=zeroValue110
 t45:=underlying230
 a45:=isAgg230
 z45:=sizeOf230
 v45:=zeroValue230
 t46:=underlying231
 a46:=isAgg231
 z46:=sizeOf231
 v46:=zeroValue231
 t50:=underlying236
 a50:=isAgg236
 z50:=sizeOf236
 v50:=zeroValue236
 t53:=underlying88
 a53:=isAgg88
 z53:=sizeOf88
 v53:=zeroValue88
 t55:=underlying240
 a55:=isAgg240
 z55:=sizeOf240
 v55:=zeroValue240
 t66:=underlying261
 a66:=isAgg261
 z66:=sizeOf261
 v66:=zeroValue261
 t70:=underlying265
 a70:=isAgg265
 z70:=sizeOf265
 v70:=zeroValue265
 t76:=underlying308
 a76:=isAgg308
 z76:=sizeOf308
 v76:=zeroValue308
 t77:=underlying309
 a77:=isAgg309
 z77:=sizeOf309
 v77:=zeroValue309 }
def Lm:Go.Shelf.Ren:=⟨fun | 7=>65 | 10=>112 | n=>n,fun | 23=>77 | 26=>9 | 3=>117 | 28=>114 | 0=>0 | 27=>113 | 33=>68 | 4=>4 | n=>n,fun | n=>n⟩
theorem PE:Go.Proofs.SlLaysZ.n7 prog Lm:={
 mixed:=by kernel_rfl
 f7:=⟨f65.name,by decide,func65.trans (AV some (by kernel_rfl))⟩
 f10:=⟨f112.name,by decide,func112.trans (AV some (by kernel_rfl))⟩
 t0:=underlying0
 a0:=isAgg0
 z0:=sizeOf0
 v0:=zeroValue0
 t4:=underlying4
 a4:=isAgg4
 z4:=sizeOf4
 v4:=zeroValue4
 t23:=underlying77
 a23:=isAgg77
 z23:=sizeOf77
 v23:=zeroValue77
 t26:=underlying9
 a26:=isAgg9
 z26:=sizeOf9
 v26:=zeroValue9
 t27:=underlying113
 a27:=isAgg113
 z27:=sizeOf113
 v27:=zeroValue113
 t28:=underlying114
 a28:=isAgg114
 z28:=sizeOf114
 v28:=zeroValue114
 t33:=underlying68
 a33:=isAgg68
 z33:=sizeOf68
 v33:=zeroValue68 }
def KN:Go.Shelf.Ren:=⟨fun | 8=>110 | 11=>170 | n=>n,fun | 26=>9 | 28=>114 | 24=>40 | 0=>0 | 33=>68 | 4=>4 | n=>n,fun | n=>n⟩
theorem MX:Go.Proofs.SlLaysZ.n8 prog KN:={
 mixed:=by kernel_rfl
 f8:=⟨f110.name,by decide,func110.trans (AV some (by kernel_rfl))⟩
 f11:=⟨f170.name,by decide,func170.trans (AV some (by kernel_rfl))⟩
 t0:=underlying0
 a0:=isAgg0
 z0:=sizeOf0
 v0:=zeroValue0
 t24:=underlying40
 a24:=isAgg40
 z24:=sizeOf40
 v24:=zeroValue40
 t26:=underlying9
 a26:=isAgg9
 z26:=sizeOf9
 v26:=zeroValue9
 t28:=underlying114
 a28:=isAgg114
 z28:=sizeOf114
 v28:=zeroValue114
 i26:=by kernel_rfl }
def MJ:Go.Shelf.Ren:=⟨fun | 10=>112 | n=>n,fun | 33=>68 | 23=>77 | 0=>0 | 4=>4 | 26=>9 | 3=>117 | n=>n,fun | n=>n⟩
theorem QK:Go.Proofs.SlLaysZ.n10 prog MJ:={
 mixed:=by kernel_rfl
 f10:=⟨f112.name,by decide,func112.trans (AV some (by kernel_rfl))⟩
 t0:=underlying0
 a0:=isAgg0
 z0:=sizeOf0
 v0:=zeroValue0
 t4:=underlying4
 a4:=isAgg4
 z4:=sizeOf4
 v4:=zeroValue4
 t23:=underlying77
 a23:=isAgg77
 z23:=sizeOf77
 v23:=zeroValue77
 t26:=underlying9
 a26:=isAgg9
 z26:=sizeOf9
 v26:=zeroValue9
 t33:=underlying68
 a33:=isAgg68
 z33:=sizeOf68
 v33:=zeroValue68 }
end Go.Proofs
namespace Go.Proofs.YtodmdkhdbfbfgaaGreatDoor
section
open Go.RowKit Go.Nt
def two:ByteArray:=⟨#[47,0]⟩
theorem fa:two.size=2:=rfl
theorem eW(w:D7)(s:ByteArray)(k:Nat):Below w.heap.size w (w.iter s k):=by
 exact(AM _ w).alloc (AB _) _
theorem kF{r:Int}(h:Lib.validRune r=true):Utf8.valid r=true:=by
 unfold Lib.validRune at h;unfold Utf8.valid;simp at h ⊢;omega
theorem kG(r:Int)(w:D7)(h0:128<=r)(h1:r<=2147483647) :
 Calls prog 303 #[.string two,.int .i32 r] w λe w'=>e=.returned (.int .i64 (-1))/\Below w.heap.size w w':=by
 by_cases he:r=65533
 ·subst he;go_enter func303,ntmps303
  go_wp2
  go_loopg [5,6] 2 (λg _ _ wx=>∃i:Nat,i+g=2/\wx=w.iter two i)
  case atStart=>exact⟨0,by omega,rfl⟩
  obtain⟨i,a6,rfl⟩:=hrel;cases gk with
  | zero =>
    obtain rfl:i=2:=by omega
    have a4:=λty=>run_next_end (P:=prog) w two 2 ty (by decide)
    go_wp2;go_ret
    exact⟨rfl,eW w two 2⟩
  | succ g =>
    have hi:i<two.size:=by rw[fa];omega
    have hb:(two[i]'hi).toNat<128/\(((two[i]'hi).toNat:Int)==65533)=false:=by
     have:i=0\/i=1:=by omega
     rcases this with rfl | rfl
     ·exact⟨by show(47:UInt8).toNat<128;decide,by show(((47:UInt8).toNat:Int)==65533)=false;decide⟩
     exact⟨by show(0:UInt8).toNat<128;decide,by show(((0:UInt8).toNat:Int)==65533)=false;decide⟩
    have a4:=λty=>run_next_ascii (P:=prog) w two i ty hi hb.1
    have a7:=hb.2;clear hb;go_wp2;go_roundg g
    case measure=>omega
    case rel=>exact⟨i+1,by omega,rfl⟩
 by_cases hv:Lib.validRune r=true
 ·go_enter func303,ntmps303
  go_wp2_with (go_at_call 329;refine(utf8_ValidRune _ _).mono ?_;rintro e w' ⟨rfl,hw⟩;have a0:=hw.symm;subst a0;rw[hv]);obtain⟨f1,f2,f3⟩:=encode_facts r (kF hv) h0;have a8:=λw=>run_convert_int_string (P:=prog) w 21 9 .i32 r (by rw[underlying21];rfl) underlying9
  generalize Utf8.encode r=E at *
  have f4:E.size - 1<E.size:=by omega
  have f5:=f3 f4;by_cases h2:E.size=2
  ·have g1:1<E.size:=by omega
   have g2:128<=(E[1]'g1).toNat:=by have h:=f5;simp only[h2]at h;exact h
   have a5:((E.size:Int) - 1)=1:=by omega
   have a2:(two[1]'(by decide)).toNat=0:=rfl;have g3:(((two[1]'(by decide)).toNat:Int) != ((E[1]'g1).toNat:Int))=true:=bne_iff_ne.2 (by rw[a2];omega);have g4:(1:Nat)<two.size:=by decide
   have g5:((1:Int)<(two.size:Int)):=by decide
   have g6:decide ((1:Int)<(two.size:Int))=true:=by decide
   clear f5 f4 f3 f1 f2;go_wp2
   go_step3
   go_wp2
   go_loopw [9,10] (λi f wr=>i=.int .i64 1/\wr=w) (λi _ _=>0)
   case atStart=>exact⟨rfl,rfl⟩
   obtain⟨rfl,rfl⟩:=hrel;go_wp2
   go_step3
   go_wp2
   go_quiet (fail)
   go_wp2;have hx:two.extract 2 2=D9 []:=by rw[Lib.extract_eq];rfl
   have a1:Hid (∀c w,Calls prog 328 #[.string (two.extract 2 two.size),.int .u8 c] w λe w'=>e=.returned (.int .i64 (-1))/\w'=w):=λc w=>by
    have:=strings_IndexByte (two.extract 2 two.size) c w
    have e2:(two.extract 2 two.size).data.toList=[]:=by rw[Lib.extract_eq];rfl
    rw[e2]at this;exact this
   go_region_with (go_at_call 328;refine(a1.o _ _).mono ?_;rintro e w' ⟨rfl,hw⟩;have a0:=hw.symm;subst a0)
   all_goals
    go_wp2;simp(config:={ zetaDelta:=true }) only[Exit.inBlock,Exit.then,Exit.noGoto_ret];go_ret
    exact⟨rfl,below_drewN (AM _ _) _⟩
  have h3:decide (((E.size:Int) - 1)<(two.size:Int))=false:=by rw[fa];simp;omega
  go_wp2
  go_step3
  go_wp2
  go_loopw [9,10] (λi f wr=>i=.int .i64 ((E.size:Int) - 1)/\wr=w) (λi _ _=>0)
  case atStart=>exact⟨rfl,rfl⟩
  obtain⟨rfl,rfl⟩:=hrel;go_wp2;rw[Exit.noGoto_ret];go_ret
  exact⟨rfl,AM _ _⟩
 have a3:Lib.validRune r=false:=by simpa using hv
 go_enter func303,ntmps303
 go_wp2_with (go_at_call 329;refine(utf8_ValidRune _ _).mono ?_;rintro e w' ⟨rfl,hw⟩;have a0:=hw.symm;subst a0;rw[a3]);go_ret
 exact⟨rfl,AM _ _⟩
theorem X8(s:ByteArray)(k:Nat)(h:k<s.size):s.get! k=s[k]'h:=by
 simp[ByteArray.get!,Bx,h];rfl
theorem qT(s:ByteArray)(i:Nat)(h:i<s.size)(ha:128<=(s[i]'h).toNat):i+(Utf8.decode s i).2<=s.size/\∀j (hj:j<s.size),i<=j->j<i+(Utf8.decode s i).2->128<=(s[j]'hj).toNat:=by
 have key:∀k,i+k<s.size->(s.get! (i+k)).toNat/64=2->∀hj:i+k<s.size,128<=(s[i+k]'hj).toNat:=by
  intro k hk he hj;rw[X8 s (i+k) hj]at he;omega
 have one:i+1<=s.size/\∀j (hj:j<s.size),i<=j->j<i+1->128<=(s[j]'hj).toNat:=by
  refine⟨by omega,λj hj h1 h2 => ?_⟩;obtain rfl:j=i:=by omega
  exact ha
 have a0:(s.get! (i+0)).toNat=(s[i]'h).toNat:=by rw[Br,X8 s i h]
 have hn:¬(s.get! (i+0)).toNat<128:=by rw[a0];omega
 simp only[Utf8.decode];rw[AC hn]
 split
 ·rename_i hc;simp only[Af,BJ,DI]at hc
  split
  ·refine⟨by omega,λj hj h1 h2 => ?_⟩
   have:j=i\/j=i+1:=by omega
   rcases this with rfl | rfl
   ·exact ha
   exact key 1 hc.2.1 hc.2.2 hj
  exact one
 split
 ·rename_i hc;simp only[Af,BJ,DI]at hc
  split
  ·refine⟨by omega,λj hj h1 h2 => ?_⟩
   have:j=i\/j=i+1\/j=i+2:=by omega
   rcases this with rfl | rfl | rfl
   ·exact ha
   ·exact key 1 hc.1.2.1 hc.1.2.2 hj
   exact key 2 hc.2.1 hc.2.2 hj
  exact one
 split
 ·rename_i hc;simp only[Af,BJ,DI]at hc
  split
  ·refine⟨by omega,λj hj h1 h2 => ?_⟩
   have:j=i\/j=i+1\/j=i+2\/j=i+3:=by omega
   rcases this with rfl | rfl | rfl | rfl
   ·exact ha
   ·exact key 1 hc.1.1.2.1 hc.1.1.2.2 hj
   ·exact key 2 hc.1.2.1 hc.1.2.2 hj
   exact key 3 hc.2.1 hc.2.2 hj
  exact one
 exact one
def Gf(n:Bs):Bool:=n.any λc=>c==47||c==0
theorem iB{n:Bs}(h:∀j,j<n.length->n.getD j 0≠47/\n.getD j 1≠0):Gf n=false:=by
 unfold Gf;rw[List.any_eq_false];intro c hc;obtain⟨j,hj,rfl⟩:=Bl hc
 have:=h j hj
 simp[List.getD,hj]at this;simp[this]
theorem XA{n:Bs}{j:Nat}(hj:j<n.length)(h:n.getD j 0=47\/n.getD j 1=0):Gf n=true:=by
 unfold Gf;rw[Bq];refine⟨n[j],Bp hj,?_⟩;simp[List.getD,hj]at h;simpa using h
theorem sL(x:UInt8):Lib.indexByte two.data.toList x=if x=47 then 0 else if x=0 then 1 else -1:=by
 have:two.data.toList=[47,0]:=rfl
 rw[this];by_cases h1:x=47
 ·subst h1;rfl
 by_cases h2:x=0
 ·subst h2;rfl
 have h3:(47:UInt8)≠x:=λe=>h1 e.symm
 have h4:(0:UInt8)≠x:=λe=>h2 e.symm
 simp[Lib.indexByte,h1,h2,h3,h4]
end
section
open Go.RowKit Go.Nt Go.Lib
theorem oI(n:Bs)(w:D7)(hn:n.length<=8) :
 Calls prog 275 #[.string (D9 n),.string two] w λe w'=>Below w.heap.size w w'/\∃x,e=.returned (.int .i64 x)/\decide (0<=x)=Gf n:=by
 obtain⟨S,hS⟩:=Jq (D9 n);have af:S.size=n.length:=by rw[hS,Dd]
 have HG:Hid (∀k (h:k<S.size) (d:UInt8),S[k]'h=n.getD k d):=λk h d=>by
  subst hS;have h':k<n.length:=by rw[Dd]at h;exact h
  rw[MP];simp[List.getD,h']
 rw[<-hS];have a8:=Jy af;have ar:S.size<=8:=by omega
 clear hS af hn;have aj:two.toList.isEmpty=false:=by rw[Lib.toList_data];rfl
 have au:((two.size:Int)==1)=false:=by decide
 have an:decide ((8:Int)<(S.size:Int))=false:=Bc (by omega);go_enter func275,ntmps275
 go_wp2_with (go_at_call 304;refine(strings_shouldUseASCIISet _ _).mono ?_;rintro e w' ⟨rfl,hw⟩;rw[hw,an])
 go_loopg [9,10] S.size (λg _ _ wx=>∃i:Nat,i+g=S.size/\wx.heap[w.heap.size]? = some (.stringIter S i)/\Hid (Below w.heap.size w wx)/\Hid (∀j,j<i->n.getD j 0≠47/\n.getD j 1≠0))
 case atStart=>exact⟨0,by omega,AQ _ _,Jy (eW w S 0),Jy (λj h=>absurd h (by omega))⟩
 case round =>
  obtain⟨i,ao,hit,Hb,ad⟩:=hrel;cases gk with
  | zero =>
    have hi:i=S.size:=by omega
    have a7:=λty=>run_next_end_at (P:=prog) wr w.heap.size S i ty hit (by omega)
    have HR:Hid (Gf n=false):=iB λj hj=>ad.o j (by have:=a8.o;omega)
    clear hi ao;go_wp2;go_ret
    exact⟨Hb.o,_,rfl,by rw[HR.o];rfl⟩
  | succ g =>
    have hi:i<S.size:=by omega
    have ac:=HG.o i hi 0;have aa:=HG.o i hi 1;obtain⟨x,hx⟩:∃x:UInt8,S[i]'hi=x:=⟨_,rfl⟩;rw[hx]at ac aa;have ah:=Jy ac;have ai:=Jy aa;clear ac aa;by_cases a5:x.toNat<128
    ·have a7:=λty=>run_next_ascii_at (P:=prog) wr w.heap.size S i ty hit hi (by rw[hx];exact a5)
     rw[hx]at a7;have a4:Hid (Below w.heap.size w (wr.iterAt w.heap.size S (i+1))):=below_iterAt Hb.o (AB _) S (i+1);have a0:Hid ((wr.iterAt w.heap.size S (i+1)).heap[w.heap.size]? = some (.stringIter S (i+1))):=iterAt_heap wr w.heap.size S i (i+1) hit;have a1:((x.toNat:Int)).toNat.toUInt8=x:=by simp
     have HI:Hid (∀W,Calls prog 303 #[.string two,.int .i32 (x.toNat:Int)] W λe w'=>e=.returned (.int .i64 (if x=47 then 0 else if x=0 then 1 else -1))/\w'=W):=λW=>by
      have:=strings_IndexRune_ascii two (x.toNat:Int) W (by omega) (by omega)
      rw[a1,sL]at this;exact this
     clear a1 hx
     generalize wr.iterAt w.heap.size S (i+1)=W at *
     by_cases a3:x=47
     ·rw[AE a3]at HI;have HR:Hid (Gf n=true):=XA (j:=i) (by have:=a8.o;omega) (.inl (by rw[<-ah.o];exact a3));clear a3;go_wp2_with (go_at_call 303;refine(HI.o _).mono ?_;rintro e w' ⟨rfl,hw⟩;have a6:=hw.symm;subst a6);go_ret
      exact⟨a4.o,_,rfl,by rw[HR.o];simp⟩
     rw[AC a3]at HI;by_cases h0:x=0
     ·rw[AE h0]at HI;have HR:Hid (Gf n=true):=XA (j:=i) (by have:=a8.o;omega) (.inr (by rw[<-ai.o];exact h0));clear a3 h0;go_wp2_with (go_at_call 303;refine(HI.o _).mono ?_;rintro e w' ⟨rfl,hw⟩;have a6:=hw.symm;subst a6);go_ret
      exact⟨a4.o,_,rfl,by rw[HR.o];simp⟩
     rw[AC h0]at HI;have a2:Hid (∀j,j<i+1->n.getD j 0≠47/\n.getD j 1≠0):=λj hj=>by
      by_cases e:j=i
      ·subst e;rw[<-ah.o,<-ai.o];exact⟨a3,h0⟩
      exact ad.o j (by omega)
     clear a3 h0;go_wp2_with (go_at_call 303;refine(HI.o _).mono ?_;rintro e w' ⟨rfl,hw⟩;have a6:=hw.symm;subst a6);go_roundg g
     case measure=>omega
     case rel=>exact⟨i+1,by omega,a0.o,a4,a2⟩
    have ae:128<=(S[i]'hi).toNat:=by rw[hx];omega
    obtain⟨d1,d2⟩:=qT S i hi ae;obtain⟨d3,d4⟩:=decode_high S i hi ae;have d5:=decode_le S i;have a7:=λty=>run_next_any_at (P:=prog) wr w.heap.size S i ty hit hi
    obtain⟨r,hr⟩:=Jq ((Utf8.decode S i).1);obtain⟨q,hq⟩:=Jq ((Utf8.decode S i).2);rw[<-hr,<-hq]at a7;rw[<-hq]at d1 d2 d4;rw[<-hr]at d3 d5;have a4:Hid (Below w.heap.size w (wr.iterAt w.heap.size S (i+q))):=below_iterAt Hb.o (AB _) S (i+q);have a0:Hid ((wr.iterAt w.heap.size S (i+q)).heap[w.heap.size]? = some (.stringIter S (i+q))):=iterAt_heap wr w.heap.size S i (i+q) hit;have HI:Hid (∀W,Calls prog 303 #[.string two,.int .i32 (r:Int)] W λe w'=>e=.returned (.int .i64 (-1))/\Below W.heap.size W w'):=λW=>kG (r:Int) W (by omega) (by omega)
    have a2:Hid (∀j,j<i+q->n.getD j 0≠47/\n.getD j 1≠0):=λj hj=>by
     by_cases e:j<i
     ·exact ad.o j e
     have a9:j<S.size:=by omega
     have h1:=d2 j a9 (by omega) hj;rw[<-HG.o j a9 0,<-HG.o j a9 1];exact⟨λe=>by rw[e]at h1;simp at h1,λe=>by rw[e]at h1;simp at h1⟩
    have am:w.heap.size<(wr.iterAt w.heap.size S (i+q)).heap.size:=(Az.1 a0.o).1;clear hr hq d2 hx ae a5
    generalize wr.iterAt w.heap.size S (i+q)=W at *
    go_wp2_with (go_at_call 303;refine(HI.o _).mono ?_;rintro e W2 ⟨rfl,ag⟩);go_roundg (S.size - (i+q))
    case measure=>omega
    case rel=>exact⟨i+q,by omega,(ag.block _ am).trans a0.o,Jy (a4.o.trans (ag.mono (by omega))),a2⟩
theorem ZR:∀n:Bs,decide (0<=Lib.indexAny n [47,0])=Gf n
 | []=>rfl
 | c :: l=>by
   have ih:=ZR l;have hge:=Lib.indexAny_ge [47,0] l;unfold Lib.indexAny;have e2:Gf (c :: l)=((c==47||c==0)||Gf l):=by simp[Gf]
   rw[e2];by_cases h1:([47,0]:D8).contains c=true
   ·rw[AE h1]
    have:(c==47||c==0)=true:=by simpa using h1
    rw[this];simp
   rw[AC h1]
   have:(c==47||c==0)=false:=by simpa using h1
   rw[this,Bool.false_or,<-ih];by_cases h2:Lib.indexAny l [47,0] = -1
   ·rw[h2];rfl
   have:(Lib.indexAny l [47,0] == -1)=false:=BI.2 h2
   rw[this];simp only[BS,C6];have h3:0<=Lib.indexAny l [47,0]:=by omega
   simp[h3];omega
theorem Pn:∀w,(zeroValue 331).run prog w=.ok (.agg (Array.replicate 256 (.bool false))) w:=λw=>zeroValue331 w
theorem lK(n:Bs)(w:D7)(hn:n.length<=1048576) :
 Calls prog 275 #[.string (D9 n),.string two] w λe w'=>Below w.heap.size w w'/\∃x,e=.returned (.int .i64 x)/\decide (0<=x)=Gf n:=by
 by_cases h:n.length<=8
 ·exact oI n w h
 refine(strings_IndexAny_long Pn (D9 n) two w (by decide) (by rw[Dd];omega) (by rw[Dd];omega) (by decide) (λj b hb => ?_)).mono ?_
 ·have e:two.data.toList=[47,0]:=rfl;rw[e]at hb
  match j,hb with
  | 0,hb=>simp at hb;subst hb;decide
  | 1,hb=>simp at hb;subst hb;decide
  | j+2,hb=>simp at hb
 rintro e w' ⟨rfl,rfl⟩;refine⟨((AM _ w).alloc (AB _) _).alloc (by simp) _,_,rfl,?_⟩;exact ZR n
theorem qf(n:Bs)(w:D7)(hn:n.length<=1048576) :
 Calls prog 241 #[.string (D9 n),.string two] w λe w'=>Below w.heap.size w w'/\e=.returned (.bool (Gf n)):=by
 have HI:=Jy (λW=>lK n W hn)
 generalize D9 n=S at *
 go_enter func241,ntmps241
 go_wp2_with (go_at_call 275;refine(HI.o _).mono ?_;rintro e w' ⟨hb,x,rfl,hx⟩);go_ret
 exact⟨hb,by rw[<-hx];rfl⟩
theorem j8{n:Bs}(h:(47:UInt8)∉n):Gf n=n.contains 0:=by
 induction n with
 | nil=>rfl
 | cons c l ih =>
   have e2:Gf (c :: l)=((c==47||c==0)||Gf l):=by simp[Gf]
   have h1:(c==47)=false:=by
    rw[BI];intro e;subst e;exact h (by simp)
   rw[e2,ih (λhh=>h (by simp[hh])),h1,List.contains_cons];by_cases hc:c=0
   ·subst hc;simp
   have:((0:UInt8)==c)=false:=BI.2 (λe=>hc e.symm)
   have h2:(c==0)=false:=BI.2 hc;rw[this,h2];simp
theorem rT{n:Bs}(X:ByteArray)(hX:X=D9 n)(h47:(47:UInt8)∉n) :
 (E3 n=false/\(X.toList.isEmpty=true\/(X.toList.isEmpty=false/\(X.toList==[46])=true)\/(X.toList.isEmpty=false/\(X.toList==[46])=false/\(X.toList==[46,46])=true)\/(X.toList.isEmpty=false/\(X.toList==[46])=false/\(X.toList==[46,46])=false/\20<X.size))) \/
 (X.toList.isEmpty=false/\(X.toList==[46])=false/\(X.toList==[46,46])=false/\X.size<=20/\E3 n = !Gf n):=by
 subst hX;rw[LC,Dd,j8 h47];unfold E3;by_cases h1:n=[]
 ·subst h1;exact .inl ⟨by simp,.inl (by simp)⟩
 have a0:n.isEmpty=false:=by simpa using h1
 by_cases h2:n=[46]
 ·subst h2;exact .inl ⟨by simp,.inr (.inl (by simp))⟩
 by_cases h3:n=[46,46]
 ·subst h3;exact .inl ⟨by simp,.inr (.inr (.inl (by simp)))⟩
 by_cases h4:n.length<=20
 ·exact .inr ⟨a0,by simpa using h2,by simpa using h3,h4,by simp[h1,h2,h3,h4]⟩
 exact .inl ⟨by simp[h4],.inr (.inr (.inr ⟨a0,by simpa using h2,by simpa using h3,by omega⟩))⟩
theorem lJ(n:Bs)(w:D7)(h47:(47:UInt8)∉n)(hn:n.length<=1048576) :
 Calls prog 188 #[.string (D9 n)] w λe w'=>Below w.heap.size w w'/\e=.returned (.bool (E3 n)):=by
 have HI:=Jy (λW=>qf n W hn);obtain⟨X,hX⟩:=Jq (D9 n);rw[<-hX]at HI ⊢;rcases rT X hX h47 with⟨hbad,hc⟩ | ⟨c1,c2,c3,c4,hok⟩
 ·rw[hbad];clear HI hX hbad;rcases hc with c1 | ⟨c1,c2⟩ | ⟨c1,c2,c3⟩ | ⟨c1,c2,c3,c4⟩
  all_goals
   go_enter func188,ntmps188
   go_wp2;go_ret
   exact⟨AM _ _,rfl⟩
 rw[hok];clear hX hok;unfold two at HI;go_enter func188,ntmps188
 go_wp2_with (go_at_call 241;refine(HI.o _).mono ?_;rintro e w' ⟨hb,rfl⟩);go_ret
 exact⟨hb,rfl⟩
end
section
open Go.RowKit Go.Nt
theorem TW{p:Bs}(h:(47:UInt8)∉p):split p=[p]:=by
 induction p with
 | nil=>rfl
 | cons c l ih =>
   have hc:c≠47:=λe=>h (by simp[e])
   rw[Ll hc (ih λhh=>h (by simp[hh]))]
theorem Ve{c r:Bs}(h:(47:UInt8)∉c):split (c++47 :: r)=c :: split r:=by
 induction c with
 | nil=>rw[BH,Ln]
 | cons x l ih =>
   have hx:x≠47:=λe=>h (by simp[e])
   rw[BR,Ll hx (ih λhh=>h (by simp[hh]))]
theorem Mr(p:Bs):((47:UInt8)∉p/\Lib.index p [47] = -1)\/∃c r,p=c++47 :: r/\(47:UInt8)∉c/\Lib.index p [47]=(c.length:Int):=by
 rw[Lib.index_one]
 induction p with
 | nil=>exact .inl ⟨by simp,rfl⟩
 | cons x l ih =>
   by_cases hx:x=47
   ·subst hx;exact .inr ⟨[],l,rfl,by simp,by simp[Lib.indexByte]⟩
   have a0:(47:UInt8)≠x:=λe=>hx e.symm
   rcases ih with⟨h1,h2⟩ | ⟨c,r,rfl,h1,h2⟩
   ·exact .inl ⟨by simp[h1,a0],by simp[Lib.indexByte,hx,h2]⟩
   refine .inr ⟨x :: c,r,rfl,by simp[h1,a0],?_⟩;have h3:Lib.indexByte (c++47 :: r) 47 ≠ -1:=by rw[h2];omega
   simp[Lib.indexByte,hx,h2]
theorem pieces:∀(k:Nat) (p:Bs),((split p).length<=k+1->Lib.splitK [47] 0 k p=split p)/\(k+1<(split p).length->(Lib.splitK [47] 0 k p).length=k+1)
 | 0,p=>by
   refine⟨λh => ?_,λ_=>rfl⟩;rcases Mr p with⟨h1,_⟩ | ⟨c,r,rfl,h1,_⟩
   ·rw[TW h1];rfl
   rw[Ve h1]at h
   have:=S9 r
   cases hs:split r with
   | nil=>exact absurd hs this
   | cons a b=>rw[hs]at h;simp at h
 | k+1,p=>by
   unfold Lib.splitK;rcases Mr p with⟨h1,h2⟩ | ⟨c,r,rfl,h1,h2⟩
   ·rw[h2,TW h1];simp
   rw[h2,Ve h1];have e1:((c.length:Int) == -1)=false:=BI.2 (by omega);rw[e1];obtain⟨ih1,ih2⟩:=pieces k r;simp only[BS,C6,Bd,Br,AY,B7];have e2:(c++47 :: r).take c.length=c:=by simp
   have e3:(c++47 :: r).drop (c.length+(0+1))=r:=by
    rw[show c.length+(0+1)=c.length+1 by omega,<-List.drop_drop];simp
   rw[e2,e3];exact⟨λh=>by rw[ih1 (by omega)],λh=>by rw[ih2 (by omega)]⟩
theorem Yf(p:Bs):(split p).length<=p.length+1:=by
 induction p with
 | nil=>simp[split]
 | cons c l ih =>
   by_cases hc:c=47
   ·subst hc;rw[Ln];simp;omega
   obtain⟨n,ns,e⟩:=M8 l;rw[Ll hc e];rw[e]at ih;simp at ih ⊢;omega
theorem iT(p:Bs):∀n∈split p,(47:UInt8)∉n:=by
 induction p with
 | nil=>intro n hn;simp[split]at hn;subst hn;simp
 | cons c l ih =>
   intro n hn;by_cases hc:c=47
   ·subst hc;rw[Ln]at hn;rcases As.1 hn with rfl | h
    ·simp
    exact ih n h
   obtain⟨m,ms,e⟩:=M8 l;rw[Ll hc e]at hn;rw[e]at ih;have a0:(47:UInt8)≠c:=λh=>hc h.symm
   rcases As.1 hn with rfl | h
   ·have:=ih m (by simp)
    simp[a0,this]
   exact ih n (by simp[h])
theorem jx(p:Bs):∀n∈split p,n.length<=p.length:=by
 induction p with
 | nil=>intro n hn;simp[split]at hn;subst hn;simp
 | cons c l ih =>
   intro n hn;by_cases hc:c=47
   ·subst hc;rw[Ln]at hn;rcases As.1 hn with rfl | h
    ·simp
    have:=ih n h;simp;omega
   obtain⟨m,ms,e⟩:=M8 l;rw[Ll hc e]at hn;rw[e]at ih;rcases As.1 hn with rfl | h
   ·have:=ih m (by simp);simp;omega
   have:=ih n (by simp[h]);simp;omega
end
section
open Go.RowKit Go.Nt Go.Shelf
attribute [local go_sem] Oper.semAt_some
theorem PN(p:Bs):((47:UInt8)∉p/\Lib.indexByte p 47 = -1)\/∃c r,p=c++47 :: r/\(47:UInt8)∉c/\Lib.indexByte p 47=(c.length:Int):=by
 have:=Mr p
 rw[Lib.index_one]at this;exact this
theorem Zp(s:ByteArray)(w:D7):Calls prog 234 #[.string s,.string ⟨#[47]⟩] w λe w'=>e=.returned (.int .i64 (Lib.indexByte s.data.toList 47))/\w'=w:=
 Any.strings_Index_one ({ Ki with }:Lays.n143 prog Gx) s 47 w
theorem SH(s:ByteArray)(w:D7):Calls prog 233 #[.string s,.string ⟨#[47]⟩] w λe w'=>e=.returned (.int .i64 (Lib.countByte s.data.toList 47))/\w'=w:=
 Any.strings_Count_one ({ Ki with }:Lays.n138 prog Gx) s 47 w
theorem gL(p:Bs):(split p).length=p.count 47+1:=by
 induction p with
 | nil=>rfl
 | cons c cs ih =>
   obtain⟨n,ns,e⟩:=M8 cs;by_cases h:c=47
   ·subst h;rw[Ln];simp[ih]
   rw[Ll h e];rw[e]at ih;simp at ih;simp[h,ih]
def Mv(b:Nat)(w:D7):Nat:=match w.cell? ⟨b,0,none⟩with | some (.string s)=>s.size | _=>0
theorem rV(n b0 n₀:Nat)(p:Bs)(w:D7)(hp:p.length<=1048576)(hn0:b0+2<n₀)(hsz:n₀<=w.heap.size)
 (h0:w.heap[b0]? = some (.cells #[.string (D9 p)] 9 (0,0))) (h1:w.heap[b0+1]? = some (.cells #[.string ⟨#[47]⟩] 9 (0,0))) (h2:w.heap[b0+2]? = some (.cells #[.int .i64 0] 3 (0,0))) :
 My Fence.wide n prog 274 #[.pointer (some ⟨b0+1,0,none⟩),.pointer (some ⟨b0,0,none⟩),.pointer (some ⟨b0+2,0,none⟩)] (λx:Bs=>.string (D9 x)) n₀ b0 (split p) w:=by
 intro l J Jx W hW hJ an hY ah;refine Ck func274 rfl trivial ?_ rfl;simp only[ntmps274,BK,AY,B7,Nat.reduceAdd,Nat.reduceSub,BZ,BY,Bj,B9,BH,BR];have e0:W.heap[b0]? = some (.cells #[.string (D9 p)] 9 (0,0)):=(hW.zK b0).trans h0;have e1:W.heap[b0+1]? = some (.cells #[.string ⟨#[47]⟩] 9 (0,0)):=(hW.zK (b0+1)).trans h1;have e2:W.heap[b0+2]? = some (.cells #[.int .i64 0] 3 (0,0)):=(hW.zK (b0+2)).trans h2;have c1:=Dv 0 e1;gi_wp2;clear c1
 gi_loopw [] (λwr=>∃(a0:List Bs) (rest:Bs),Hid (split p=a0++split rest)/\rest.length<=1048576/\Hid (wr.heap[b0]? = some (.cells #[.string (D9 rest)] 9 (0,0)))/\Hid (wr.heap[b0+1]? = some (.cells #[.string ⟨#[47]⟩] 9 (0,0)))/\Hid (wr.heap[b0+2]? = some (.cells #[.int .i64 0] 3 (0,0)))/\Hid (J a0 wr)) (λwr=>Mv b0 wr)
 case atStart=>exact⟨[],p,Jy rfl,hp,Jy e0,Jy e1,Jy e2,Jy ah⟩
 case round =>
  obtain⟨a0,rest,Hs,hr,H0,H1,H2,HJ⟩:=hrel;have c0:=Dv 0 H0.o;have c1:=Dv 0 H1.o;have c2:=Dv 0 H2.o;rcases PN rest with⟨h47,hix⟩ | ⟨a,r,hrest,h47,hix⟩
  ·have HI:Hid (Calls prog 234 #[.string (D9 rest),.string ⟨#[47]⟩] wr λe w'=>e=.returned (.int .i64 (-1))/\w'=wr):=Jy (by have:=Zp (D9 rest) wr;rw[fV,hix]at this;exact this);obtain⟨fn,tmps,assign,a8,hy,hR⟩:=hY a0 rest wr HJ.o (by rw[Hs.o,TW h47];exact List.prefix_refl _);have HR:=Jy hR;have Hn:=Jy (TW h47);clear hix hR h47;gi_wp2;refine⟨trivial,λh=>(by cases h),(BP.2 HI.o).mono ?_⟩;rintro e w' ⟨rfl,hw⟩;have a9:=hw.symm;subst a9;clear hw;gi_wp2;refine⟨λh=>(by cases h),HR.o.mono ?_⟩;rintro e W3 (⟨rfl,a4,a3⟩ | ⟨rfl,a2⟩)
   ·gi_wp2;go_end0
    refine⟨⟨_,rfl⟩,.inl ?_⟩;rw[Hs.o,Hn.o];exact a4
   gi_wp2;go_end0
   exact⟨⟨_,rfl⟩,.inr ⟨_,by rw[Hs.o,Hn.o];exact List.prefix_refl _,a2⟩⟩
  subst hrest;have HI:Hid (Calls prog 234 #[.string (D9 (a++47 :: r)),.string ⟨#[47]⟩] wr λe w'=>e=.returned (.int .i64 a.length)/\w'=wr):=Jy (by have:=Zp (D9 (a++47 :: r)) wr;rw[fV,hix]at this;exact this);have aa:=Ve (r:=r) h47;have a1:a0++[a] <+: split p:=by rw[Hs.o,aa];exact⟨split r,by simp⟩
  obtain⟨fn,tmps,assign,a8,hy,hR⟩:=hY a0 a wr HJ.o a1;have HR:=Jy hR;have ad:Hid (split p=(a0++[a])++split r):=Jy (by rw[Hs.o,aa];simp);have a5:=Jy a1;obtain⟨X,hX⟩:=Jq (D9 (a++47 :: r));have Sx:X.size=a.length+1+r.length:=by rw[hX,Dd];simp;omega
  have a6:X.extract 0 a.length=D9 a:=by rw[hX,Jb];simp
  have a7:X.extract (a.length+1) X.size=D9 r:=by
   rw[Sx,hX,Jb]
   congr 1
   rw[<-List.drop_drop];simp
  rw[<-hX]at HI c0 H0;obtain⟨k,hk⟩:=Jq a.length;have Hk:=Jy hk;rw[<-hk]at HI a6 a7 Sx;rw[<-a6]at hy;have ag:=Jy a7;have af:r.length<=1048576:=by simp at hr;omega
  have ai:X.size<=1048576:=by simp at hr;omega
  have am:k+1<=X.size:=by omega
  clear hix hR h47 aa a1 hX a6 a7 hk Hs hr;gi_wp2;refine⟨trivial,λh=>(by cases h),(BP.2 HI.o).mono ?_⟩;rintro e w' ⟨rfl,hw⟩;have a9:=hw.symm;subst a9;clear hw;gi_wp2;refine⟨λh=>(by cases h),HR.o.mono ?_⟩;rintro e W3 (⟨rfl,a4,a3⟩ | ⟨rfl,a2⟩)
  ·have r0:W3.heap[b0]? = some (.cells #[.string X] 9 (0,0)):=(a3.zK b0).trans H0.o;have r1:W3.heap[b0+1]? = some (.cells #[.string ⟨#[47]⟩] 9 (0,0)):=(a3.zK (b0+1)).trans H1.o;have R2:Hid (W3.heap[b0+2]? = some (.cells #[.int .i64 0] 3 (0,0))):=Jy ((a3.zK (b0+2)).trans H2.o);have aj:=Dv 0 r0;have ar:=Dv 0 r1;have ao:=FU 0 r0;have R0:=Jy r0;have R1:=Jy r1;have ae:=Jy a4;clear a4 a3 hy HR HI r0 r1;gi_wp2;have hx:X.extract (k+1) (k+1+r.length)=D9 r:=by have:=ag.o;rw[Sx]at this;exact this
   rw[hx];have ac:=AK W3 b0 0 #[.string X] 9 (.string (D9 r)) R0.o;refine⟨⟨a0++[a],r,ad,af,Jy ac,Jy ((AH W3 ⟨b0,0,none⟩ _ (b0+1) (by simp)).trans R1.o),Jy ((AH W3 ⟨b0,0,none⟩ _ (b0+2) (by simp)).trans R2.o),Jy (hJ.set _ _ _ ae.o)⟩,?_⟩;unfold Mv;rw[c0,AG _ b0 0 _ 9 (0,0) ac];show(D9 r).size<X.size;rw[Dd];omega
  gi_wp2;refine Au (CJ rfl _ _ _) rfl ?_;exact⟨⟨_,rfl⟩,.inr ⟨_,a5.o,a2⟩⟩
end
section
open Go.RowKit Go.Nt
theorem below_drewN{B:Nat}{w W:D7}(h:Below B w W)(q:Nat):Below B w (W.drewN q):=by
 induction q with
 | zero=>exact h
 | succ q ih=>exact ih.drew
def boxed(w:D7)(x:It):D7:=w.alloc (.cells #[.string (D9 x.path),.bool x.dir,.string (D9 x.data),.int .i64 x.mode,.int .i64 x.time] 39)
theorem NN(w:D7)(x:It):E4 (boxed w x) w.heap.size 0 x:=by
 refine E4.of_cells λj u hu => ?_
 rw[AG (boxed w x) w.heap.size (0+j) _ 39 (0,0) (AQ _ _)];simpa[IU]using hu
theorem nY(g cap:Nat)(l:List It)(x:It)(w:D7)(hg:g<w.heap.size)(hlc:l.length<=cap)(hcm:cap<=9223372036854775807)(hc:∀k (x:It),l[k]? = some x->E4 w g (0+k*5) x)(hn:l.length<=1000)(hp:x.path.length<=1048576)(hlp:∀y∈l,y.path.length<=1048576) :
 Calls prog 155 #[.slice (some ⟨g,0,none⟩) l.length cap,JB x] w λe w'=>Below w.heap.size w w'/\∃v',e=.returned v'/\w'.ownsRow w.heap.size 39 5 v' (l.length+1) (E9 (ins l x)):=by
 obtain⟨i0,hi,ah,ai,ag⟩:=Ai Iw;unfold JB;have Hc:=Jy hc;have aI:=Jy hlp;clear hc hlp;go_enter func155,ntmps155
 go_wp2
 go_loopw [6] (λi wr=>∃k:Nat,k<=l.length/\i=.int .i64 k/\Hid (∀j y,j<k->l[j]? = some y->less y.path x.path=true)/\∃q,wr=(boxed w x).drewN q) (λi _=>l.length - (intOf i).toNat)
 case atStart=>exact⟨0,AU _,rfl,Jy (λj y h=>absurd h (by omega)),0,rfl⟩
 case round =>
  obtain⟨k,hk,rfl,Hn,q,am⟩:=hrel;have aw:wr.heap.size=w.heap.size+1:=by rw[am];simp[boxed]
  have aD:E4 wr w.heap.size 0 x:=by rw[am];exact(NN w x).drewN q
  have aE:∀k (y:It),l[k]? = some y->E4 wr g (0+k*5) y:=λk y hy=>(Hc.o k y hy).of_block (by rw[am];simp[boxed];exact AO w _ g hg)
  have ae:Below w.heap.size w wr:=by rw[am];exact below_drewN (Nu) q
  have an:=Jy aE;have au:=Jy aD;have ax:=Jy am;clear aE am;obtain⟨x0,x1,x2,x3,x4⟩:=aD;rw[Ao]at x1 x2 x3 x4;by_cases ao:k<l.length
  ·have ay:decide ((k:Int)<(l.length:Int))=true:=by simpa using ao
   obtain⟨y,hy⟩:∃y,l[k]? = some y:=⟨_,AD ao⟩;obtain⟨y0,y1,y2,y3,y4⟩:=an.o k y hy;rw[Ao]at y0;have aG:=aI.o y (Ab hy);have Hy:=Jy hy;have HL:=Jy (λW=>oU y.path x.path W (by omega) (by omega));clear hy y1 y2 y3 y4
   generalize hb:less y.path x.path=bb at HL
   have Hb:=Jy hb;clear hb;obtain⟨Y,hY⟩:=Jq (D9 y.path);obtain⟨X,hX⟩:=Jq (D9 x.path);rw[<-hX]at x0;rw[<-hY]at y0;rw[<-hX,<-hY]at HL;have HX:=Jy hX;have HY:=Jy hY;have aH:=Jy (And.intro x1 (And.intro x2 (And.intro x3 x4)));clear hX hY x1 x2 x3 x4 aG;go_wp2;go_region_held3 (λw'=>w'.cell? ⟨w.heap.size,0,none⟩=some (.string X)/\w'.cell? ⟨g,k*5,none⟩=some (.string Y)) (go_keep) (first | (go_at_call 209;refine(HL.o _).mono ?_;rintro e w' ⟨rfl,q3,rfl⟩));rename_i hHeld;clear hHeld x0 y0 HL aH;have ad:(wr.drewN (1+q3)).heap.size=w.heap.size+1:=by simpa using aw
   have a9:Hid (∀k (y:It),l[k]? = some y->E4 (wr.drewN (1+q3)) g (0+k*5) y):=λk y hy=>(an.o k y hy).drewN _
   have av:Hid (E4 (wr.drewN (1+q3)) w.heap.size 0 x):=au.o.drewN _;have ar:Hid (Below w.heap.size w (wr.drewN (1+q3))):=below_drewN ae _;have aB:Hid (∃q,wr.drewN (1+q3)=(boxed w x).drewN q):=by
    show ∃q,wr.drewN (1+q3)=(boxed w x).drewN q;rw[ax.o];exact Ox _ _ _
   clear an au ae ax aw
   generalize wr.drewN (1+q3)=W at *
   cases bb with
   | true =>
     have aK:Hid (∀j z,j<k+1->l[j]? = some z->less z.path x.path=true):=λj z hj hz=>by
      by_cases e:j=k
      ·subst e;rw[Hy.o]at hz;cases hz;exact Hb.o
      exact Hn.o j z (by omega) hz
     clear ad a9 av ar;go_wp2;go_roundw
     case rel=>exact⟨k+1,by omega,by go_num,aK,aB.o⟩
     case measure=>simp[intOf];omega
   | false =>
     have HI:Hid (ins l x=l.take k++x :: l.drop k):=Xk hk Hn.o (λz hz=>by rw[Hy.o]at hz;cases hz;exact Hb.o);clear aB;have aC:W.heap.size=w.heap.size+1:=ad;go_wp2_with (at_builtin;refine Ar _ rfl (.tmp 23) (.tmp 26) 26 rfl w.heap.size 39 i0 _ 5 56 underlying26 hi ah ai ag rfl (by decide) _ 0 [] rfl (AZ _ _ _ _) ⟨g,0,none⟩ k cap (E9 (l.take k)) rfl ?d1 ?d2 ?d3 ?d4 ?d5 ?d6 ?_)
     case d1=>rw[Mm,Ae];omega
     case d2=>exact RZ λj y hy=>a9.o j y (by rw[List.getElem?_take]at hy;split at hy<;>simp_all)
     case d3=>exact N3
     case d4=>unfold maxLen;omega
     case d5=>omega
     case d6=>omega
     intro v1 W1 a4 a0 _;have a5:Below w.heap.size w W1:=ar.o.grown a0 (by omega) (λq hq=>by cases hq);have aJ:W.heap.size<=W1.heap.size:=a0.size;have aj:∀j,j<W.heap.size->W1.heap[j]? = W.heap[j]? := λj hj=>a0.block j hj (by simp[Value.ownBlock])
     have a8:Hid (∀k (y:It),l[k]? = some y->E4 W1 g (0+k*5) y):=λk y hy=>(a9.o k y hy).of_block (aj g (by omega))
     have aA:E4 W1 w.heap.size 0 x:=av.o.of_block (aj _ (by omega));clear a0 aj;obtain⟨z0,z1,z2,z3,z4⟩:=aA;rw[Ao]at z1 z2 z3 z4;go_wp2_with (at_builtin;refine Ar _ rfl (.tmp 28) (.tmp 30) 26 rfl w.heap.size 39 i0 _ 5 56 underlying26 hi ah ai ag rfl (by decide) _ _ _ rfl (a4.alloc _) ⟨W1.heap.size,0,none⟩ 1 1 (IU x) rfl ?e1 ?e2 ?e3 ?e4 ?e5 ?e6 ?_)
     case e1=>rfl
     case e2=>intro j u hu;rw[addr_add];exact(NN W1 x).cell hu
     case e3=>intro u hu;exact N3 (l:=[x]) u (by rw[OA];exact hu)
     case e4=>unfold maxLen;omega
     case e5=>omega
     case e6=>simp;omega
     intro v2 W2 a3 a1 _;have a6:Below w.heap.size w W2:=(a5.zA).grown a1 (by simp;omega) (λq hq=>(a4.lt q hq).1);have aF:W1.heap.size<=W2.heap.size:=by have:=a1.size;simp at this;omega
     have af:Hid (∀k (y:It),l[k]? = some y->E4 W2 g (0+k*5) y):=λk y hy=>by
      have h1:=(a8.o k y hy);have h2:E4 w g (0+k*5) y:=Hc.o k y hy;exact h2.below a6 hg
     clear z0 z1 z2 z3 z4 a1 a4 a8 a5;go_wp2_with (at_builtin;refine Ar _ rfl (.tmp 32) (.tmp 35) 26 rfl w.heap.size 39 i0 _ 5 56 underlying26 hi ah ai ag rfl (by decide) _ _ _ rfl a3 ⟨g,k*5,none⟩ (l.length - k) (cap - k) (E9 (l.drop k)) ?f0 ?f1 ?f2 ?f3 ?f4 ?f5 ?f6 ?_)
     case f0=>rfl
     case f1=>rw[Mm,Bo]
     case f2 =>
      refine RZ λj y hy => ?_
      rw[C7]at hy
      have:=af.o _ y hy
      rw[show 0+(k+j)*5=k*5+j*5 by omega]at this;exact this
     case f3=>exact N3
     case f4=>unfold maxLen;omega
     case f5=>omega
     case f6=>omega
     intro v3 W3 a7 a2 _;have ac:Below w.heap.size w W3:=a6.grown a2 (by omega) (λq hq=>(a3.lt q hq).1);have aa:W3.ownsRow w.heap.size 39 5 v3 (l.length+1) (E9 (ins l x)):=by
      have h:=a7;rw[HI.o,Oq,Pw];rw[show k+1+(l.length - k)=l.length+1 by omega]at h;exact h
     clear a2 a7 a3;go_wp2;go_ret
     exact⟨ac,_,rfl,aa⟩
  have ay:decide ((k:Int)<(l.length:Int))=false:=by simpa using ao
  have HI:Hid (ins l x=l.take k++x :: l.drop k):=Xk hk Hn.o (λz hz=>absurd (AP.1 hz).1 ao);obtain rfl:k=l.length:=by omega
  go_wp2
  go_quiet (fail)
  have ad:(wr.drewN nq).heap.size=w.heap.size+1:=by simpa using aw
  have a9:Hid (∀k (y:It),l[k]? = some y->E4 (wr.drewN nq) g (0+k*5) y):=λk y hy=>(an.o k y hy).drewN _
  have av:Hid (E4 (wr.drewN nq) w.heap.size 0 x):=au.o.drewN _;have ar:Hid (Below w.heap.size w (wr.drewN nq)):=below_drewN ae _;clear an au ae ax aw x0 x1 x2 x3 x4
  generalize wr.drewN nq=W at *
  by_cases az:cap=l.length
  focus
   subst az;have aC:W.heap.size=w.heap.size+1:=ad;go_wp2_with (at_builtin;refine Ar _ rfl (.tmp 23) (.tmp 26) 26 rfl w.heap.size 39 i0 _ 5 56 underlying26 hi ah ai ag rfl (by decide) _ 0 [] rfl (AZ _ _ _ _) ⟨g,0,none⟩ l.length l.length (E9 (l.take l.length)) rfl ?d1 ?d2 ?d3 ?d4 ?d5 ?d6 ?_)
   case d1=>rw[Mm,Ae];omega
   case d2=>exact RZ λj y hy=>a9.o j y (by rw[List.getElem?_take]at hy;split at hy<;>simp_all)
   case d3=>exact N3
   case d4=>unfold maxLen;omega
   case d5=>omega
   case d6=>omega
  rotate_left
  focus
   skip
   have aC:W.heap.size=w.heap.size+1:=ad;go_wp2_with (at_builtin;refine Ar _ rfl (.tmp 23) (.tmp 26) 26 rfl w.heap.size 39 i0 _ 5 56 underlying26 hi ah ai ag rfl (by decide) _ 0 [] rfl (AZ _ _ _ _) ⟨g,0,none⟩ l.length cap (E9 (l.take l.length)) rfl ?d1 ?d2 ?d3 ?d4 ?d5 ?d6 ?_)
   case d1=>rw[Mm,Ae];omega
   case d2=>exact RZ λj y hy=>a9.o j y (by rw[List.getElem?_take]at hy;split at hy<;>simp_all)
   case d3=>exact N3
   case d4=>unfold maxLen;omega
   case d5=>omega
   case d6=>omega
  rotate_left
  all_goals
   intro v1 W1 a4 a0 _;have a5:Below w.heap.size w W1:=ar.o.grown a0 (by omega) (λq hq=>by cases hq);have aJ:W.heap.size<=W1.heap.size:=a0.size;have aj:∀j,j<W.heap.size->W1.heap[j]? = W.heap[j]? := λj hj=>a0.block j hj (by simp[Value.ownBlock])
   have a8:Hid (∀k (y:It),l[k]? = some y->E4 W1 g (0+k*5) y):=λk y hy=>(a9.o k y hy).of_block (aj g (by omega))
   have aA:E4 W1 w.heap.size 0 x:=av.o.of_block (aj _ (by omega));clear a0 aj;obtain⟨z0,z1,z2,z3,z4⟩:=aA;rw[Ao]at z1 z2 z3 z4;go_wp2_with (at_builtin;refine Ar _ rfl (.tmp 28) (.tmp 30) 26 rfl w.heap.size 39 i0 _ 5 56 underlying26 hi ah ai ag rfl (by decide) _ _ _ rfl (a4.alloc _) ⟨W1.heap.size,0,none⟩ 1 1 (IU x) rfl ?e1 ?e2 ?e3 ?e4 ?e5 ?e6 ?_)
   case e1=>rfl
   case e2=>intro j u hu;rw[addr_add];exact(NN W1 x).cell hu
   case e3=>intro u hu;exact N3 (l:=[x]) u (by rw[OA];exact hu)
   case e4=>unfold maxLen;omega
   case e5=>omega
   case e6=>simp;omega
   intro v2 W2 a3 a1 _;have a6:Below w.heap.size w W2:=(a5.zA).grown a1 (by simp;omega) (λq hq=>(a4.lt q hq).1);have aF:W1.heap.size<=W2.heap.size:=by have:=a1.size;simp at this;omega
   have af:Hid (∀k (y:It),l[k]? = some y->E4 W2 g (0+k*5) y):=λk y hy=>by
    have h1:=(a8.o k y hy);have h2:E4 w g (0+k*5) y:=Hc.o k y hy;exact h2.below a6 hg
   clear z0 z1 z2 z3 z4 a1 a4 a8 a5;go_wp2_with (at_builtin;refine Ar _ rfl (.tmp 32) (.tmp 35) 26 rfl w.heap.size 39 i0 _ 5 56 underlying26 hi ah ai ag rfl (by decide) _ _ _ rfl a3 _ _ _ [] rfl ?_ ?_ (by simp) ?_ ?_ ?_ ?_)
   all_goals first
    | (simp;done)
    | (intro j u hu;simp at hu;done)
    | (unfold maxLen;omega)
    | omega
    | skip
   all_goals
    intro v3 W3 a7 a2 _;have ac:Below w.heap.size w W3:=a6.grown a2 (by omega) (λq hq=>(a3.lt q hq).1);have aa:W3.ownsRow w.heap.size 39 5 v3 (l.length+1) (E9 (ins l x)):=by
     have h:=a7;rw[HI.o,Oq,Pw];rw[CX (AB _),oK,CD,CZ];exact h
    clear a2 a7 a3;go_wp2;go_ret
    exact⟨ac,_,rfl,aa⟩
theorem qe(x:It)(w:D7):Calls prog 155 #[.slice none 0 0,JB x] w λe w'=>Below w.heap.size w w'/\∃v',e=.returned v'/\w'.ownsRow w.heap.size 39 5 v' 1 (E9 [x]):=by
 obtain⟨i0,hi,aa,ad,a9⟩:=Ai Iw;unfold JB;go_enter func155,ntmps155
 go_wp2
 go_loopw [6] (λi wr=>i=.int .i64 0/\wr=boxed w x) (λi _=>0)
 case atStart=>exact⟨rfl,rfl⟩
 case round =>
  obtain⟨rfl,a4⟩:=hrel;have a7:wr.heap.size=w.heap.size+1:=by rw[a4];simp[boxed]
  have a6:Hid (E4 wr w.heap.size 0 x):=by rw[a4];exact NN w x
  have a2:Hid (Below w.heap.size w wr):=by rw[a4];exact(AM _ w).alloc (AB _) _
  clear a4;go_wp2
  go_quiet (fail)
  have a5:(wr.drewN nq).heap.size=w.heap.size+1:=by simpa using a7
  have a8:Hid (E4 (wr.drewN nq) w.heap.size 0 x):=a6.o.drewN _;have ac:Hid (Below w.heap.size w (wr.drewN nq)):=below_drewN a2.o _;clear a6 a2 a7
  generalize wr.drewN nq=W at *
  have ae:w.heap.size<=W.heap.size:=by omega
  clear a5;obtain⟨z0,z1,z2,z3,z4⟩:=a8.o;rw[Ao]at z1 z2 z3 z4;go_wp2_with (first | (at_builtin;refine wpList_append_own_none rfl (.tmp 23) (.tmp 26) 26 rfl w.heap.size 39 i0 5 underlying26 hi _ 0 [] rfl (AZ _ _ _ _) rfl ?_) | (at_builtin;refine Ar _ rfl (.tmp 28) (.tmp 30) 26 rfl w.heap.size 39 i0 _ 5 56 underlying26 hi aa ad a9 rfl (by decide) _ 0 [] rfl (AZ _ _ _ _) ⟨W.heap.size,0,none⟩ 1 1 (IU x) rfl ?e1 ?e2 ?e3 ?e4 ?e5 ?e6 ?_))
  case e1=>rfl
  case e2=>intro j u hu;rw[addr_add];exact(NN W x).cell hu
  case e3=>intro u hu;exact N3 (l:=[x]) u (by rw[OA];exact hu)
  case e4=>unfold maxLen;omega
  case e5=>omega
  case e6=>simp;omega
  intro v2 W2 a0 a1 _;have a3:Below w.heap.size w W2:=(ac.o.zA).grown a1 (by simp;omega) (λq hq=>by cases hq);clear z0 z1 z2 z3 z4 a1;obtain⟨g2,c2,rfl⟩:=PZ a0;go_wp2_with (at_builtin;refine wpList_append_own_none rfl (.tmp 32) (.tmp 35) 26 rfl w.heap.size 39 i0 5 underlying26 hi _ _ _ rfl a0 rfl ?_);go_wp2;go_ret
  exact⟨a3,_,rfl,by rw[OA];exact a0⟩
theorem Tb(v:Value)(l:List It)(x:It)(B:Nat)(w:D7)(hv:w.ownsRow B 39 5 v l.length (E9 l))(hn:l.length<=1000)(hp:x.path.length<=1048576)(hlp:∀y∈l,y.path.length<=1048576) :
 Calls prog 155 #[v,JB x] w λe w'=>Below w.heap.size w w'/\∃v',e=.returned v'/\w'.ownsRow w.heap.size 39 5 v' (l.length+1) (E9 (ins l x)):=by
 rcases Vm hv with⟨rfl,rfl⟩ | ⟨g,cap,rfl,_,hg,hlc,hcm,hc⟩
 ·exact qe x w
 exact nY g cap l x w hg hlc (by unfold maxLen at hcm;omega) hc hn hp hlp
end
end Go.Proofs.YtodmdkhdbfbfgaaGreatDoor
