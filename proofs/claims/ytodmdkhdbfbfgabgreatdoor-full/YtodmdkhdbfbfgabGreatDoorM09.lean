/- Lemmas and contracts for full. -/
import Derived.DeepKeys4
import Derived.Test.YtodmdkhdbfbfgabGreatDoorProg
import Derived.WalkKit
import Derived.WalkSpells
import Derived.WalkLawsBesides
import Derived.Deep.QuietTactic
import Derived.BigQuiet
import Derived.Outline
import Derived.Deep.OwnRows
import Derived.Laws.BytesArg
import Derived.Lib.Strings
import Derived.Maps.AppendAt
import Derived.Lib.AppendStr
import Derived.Laws.BitsLemmas
import Derived.Lib.ConvBytes
import Derived.Laws.BitsAllLaws
import Derived.Test.YtodmdkhdbfbfgabGreatDoorM04
import Derived.Test.YtodmdkhdbfbfgabGreatDoorM03
set_option maxRecDepth 100000
set_option maxHeartbeats 8000000
namespace Go.Proofs.YtodmdkhdbfbfgabGreatDoor.S1
open Go.RowKit Pk
open Go.Nt (Fp)
set_option linter.unusedVariables false
theorem laidOut:laidOutB Tryz.prog=true:=by kernel_rfl
theorem row189:(148:TypeId)<Tryz.prog.types.size:=of_decide_eq_true (by kernel_rfl)
theorem row90:(74:TypeId)<Tryz.prog.types.size:=of_decide_eq_true (by kernel_rfl)
theorem wide189:(match Tryz.prog.underlying 148 with | some (.array _ _) | some (.struct _)=>true | _=>false)=true:=by kernel_rfl
theorem wide90:(match Tryz.prog.underlying 74 with | some (.array _ _) | some (.struct _)=>true | _=>false)=true:=by kernel_rfl
theorem law189:Maps.Keyed Tryz.prog 148:=Maps.Keyed.of_law (deep_law_laid laidOut (m:=4) (by omega) row189 (by kernel_rfl) wide189)
theorem law90:Maps.Keyed Tryz.prog 74:=Maps.Keyed.of_law (deep_law_laid laidOut (m:=4) (by omega) row90 (by kernel_rfl) wide90)
def pk (b n a:Nat):Lit:=.string (keyBytes [.int .i64 (b:Nat),.int .u32 (n:Nat),.int .i64 (a:Nat)])
def pv (b n a:Nat):Value:=.agg #[.int .i64 (b:Nat),.int .u32 (n:Nat),.int .i64 (a:Nat)]
def lk (b n:Nat):Lit:=.string (keyBytes [.int .i64 (b:Nat),.int .u32 (n:Nat)])
def lv (b n:Nat):Value:=.agg #[.int .i64 (b:Nat),.int .u32 (n:Nat)]
theorem keyType189:Tryz.prog.keyType 148=true:=by kernel_rfl
theorem keyType90:Tryz.prog.keyType 74=true:=by kernel_rfl
theorem cells189:Tryz.prog.cellsOf 148=3:=by kernel_rfl
theorem cells90:Tryz.prog.cellsOf 74=2:=by kernel_rfl
theorem cells88:Tryz.prog.cellsOf 72=1:=by kernel_rfl
theorem cells3:Tryz.prog.cellsOf 3=1:=by kernel_rfl
theorem key90 {b n:Nat} (hb:b≤1000000) (hn:n≤4294967295):keyOf Tryz.prog 74 (lv b n)=some (lk b n):=by
 have h1:(Lit.int .i64 (b:Nat)).wf=true:=by simp [Lit.wf,IntKind.min,IntKind.max,IntKind.signed,IntKind.bits];omega
 have h2:(Lit.int .u32 (n:Nat)).wf=true:=by simp [Lit.wf,IntKind.min,IntKind.max,IntKind.signed,IntKind.bits];omega
 obtain ⟨d,hd⟩:∃ d,Tryz.prog.types.size+1=d+3:=⟨Tryz.prog.types.size - 2,by have h:(74:Nat)<Tryz.prog.types.size:=row90;omega⟩
 unfold keyOf lv lk
 rw [Tryz.underlying74,hd]
 simp only [keyType90,Value.formed,Tryz.underlying74,cells90,Value.cells]
 simp [Program.keyLits,Tryz.underlying74,Tryz.underlying72,Tryz.underlying3,cells90,cells88,cells3,h1,h2]
theorem key189 {b n a:Nat} (hb:b≤1000000) (hn:n≤4294967295) (ha:a≤1000000):keyOf Tryz.prog 148 (pv b n a)=some (pk b n a):=by
 have h1:(Lit.int .i64 (b:Nat)).wf=true:=by simp [Lit.wf,IntKind.min,IntKind.max,IntKind.signed,IntKind.bits];omega
 have h2:(Lit.int .u32 (n:Nat)).wf=true:=by simp [Lit.wf,IntKind.min,IntKind.max,IntKind.signed,IntKind.bits];omega
 have h3:(Lit.int .i64 (a:Nat)).wf=true:=by simp [Lit.wf,IntKind.min,IntKind.max,IntKind.signed,IntKind.bits];omega
 obtain ⟨d,hd⟩:∃ d,Tryz.prog.types.size+1=d+3:=⟨Tryz.prog.types.size - 2,by have h:(74:Nat)<Tryz.prog.types.size:=row90;omega⟩
 unfold keyOf pv pk
 rw [Tryz.underlying148,hd]
 simp only [keyType189,Value.formed,Tryz.underlying148,cells189,Value.cells]
 simp [Program.keyLits,Tryz.underlying148,Tryz.underlying74,Tryz.underlying72,Tryz.underlying3,cells189,cells90,cells88,cells3,h1,h2,h3]
 rw [if_pos]
 ·rfl
 ·intro i hi
  have:i=0∨i=1:=by omega
  rcases this with rfl | rfl<;>simp
theorem pk_inj {b n a b' n' a':Nat} (hb:b≤1000000) (hn:n≤4294967295) (ha:a≤1000000) (hb':b'≤1000000) (hn':n'≤4294967295) (ha':a'≤1000000) (h:pk b n a=pk b' n' a'):b=b'∧n=n'∧a=a':=by
 have e:=law189.inj (key189 hb hn ha) (by rw [h];exact key189 hb' hn' ha')
 unfold pv at e
 simp at e
 omega
theorem lk_inj {b n b' n':Nat} (hb:b≤1000000) (hn:n≤4294967295) (hb':b'≤1000000) (hn':n'≤4294967295) (h:lk b n=lk b' n'):b=b'∧n=n':=by
 have e:=law90.inj (key90 hb hn) (by rw [h];exact key90 hb' hn')
 unfold lv at e
 simp at e
 omega
def fv (f:Fp):Value:=.agg #[.int .i64 (f.bad:Nat),.int .u32 (f.num:Nat),.int .i64 (f.at_:Nat),.int .i64 (f.of_:Nat),.string (txt f.text),.int .i64 (f.blk:Nat)]
def fpOf:Value→Option (DataW Fp × List MemPlace)
 | .agg cs=>match cs.toList with
   | [.int .i64 b,.int .u32 r,.int .i64 a,.int .i64 o,.string t,.int .i64 k]=>if 0≤b∧0≤r∧0≤a∧0≤o∧0≤k then some (.held ⟨b.toNat,r.toNat,a.toNat,o.toNat,t.data.toList,k.toNat⟩,[]) else none
   | _=>none
 | _=>none
theorem fpOf_mk (f:Fp):fpOf (fv f)=some (.held f,[]):=by
 unfold fpOf fv
 simp
 rfl
theorem fpOf_inv {v:Value} {f:Fp} {ps:List MemPlace} (h:fpOf v=some (.held f,ps)):v=fv f:=by
 unfold fpOf at h
 split at h
 ·rename_i cs
  split at h
  ·rename_i b r a o t k hc
   split at h
   ·rename_i hr
    simp at h
    obtain ⟨rfl,_⟩:=h
    have:cs=#[.int .i64 b,.int .u32 r,.int .i64 a,.int .i64 o,.string t,.int .i64 k]:=Array.toList_inj.1 hc
    rw [this]
    unfold fv
    obtain ⟨h0,h1,h2,h3,h4⟩:=hr
    simp [Int.toNat_of_nonneg h0,Int.toNat_of_nonneg h1,Int.toNat_of_nonneg h2,Int.toNat_of_nonneg h3,Int.toNat_of_nonneg h4]
    rfl
   ·cases h
  ·cases h
 ·cases h
def fp0:Fp:=⟨0,0,0,0,[],0⟩
theorem zero187 (w:World):(zeroValue 146).run Tryz.prog w=.ok (fv fp0) w:=by kernel_rfl
def FAt (w:World) (g:Nat) (n:Nat) (P:Nat→Nat→Nat→Option Fp):Prop:=
 ∃ D:DataW Fp,w.ownsMap Tryz.prog 148 fpOf g n D∧(∀ b r a,b≤1000000→r≤4294967295→a≤1000000→Maps.has D (pk b r a)=(P b r a).isSome∧∀ f,P b r a=some f→∀ z,D.atKey (pk b r a) z=.held f)∧(∀ kl,Maps.has D kl=true→∃ b r a,b≤1000000∧r≤4294967295∧a≤1000000∧kl=pk b r a)
section
variable {w w':World} {g n:Nat} {P:Nat→Nat→Nat→Option Fp}
theorem FAt.lt (h:FAt w g n P):g<w.heap.size:=by obtain ⟨D,h,_⟩:=h;exact h.lt
theorem FAt.of_block (h:FAt w g n P) (hb:w'.heap[g]? = w.heap[g]?):FAt w' g n P:=by
 obtain ⟨D,⟨es,clock,h1,h2⟩,hh⟩:=h
 exact ⟨D,⟨es,clock,hb.trans h1,h2⟩,hh⟩
theorem FAt.mono {n':Nat} (h:FAt w g n P) (hn:n≤n'):FAt w g n' P:=by
 obtain ⟨D,h1,hh⟩:=h
 exact ⟨D,h1.mono hn,hh⟩
theorem FAt.congr {P':Nat→Nat→Nat→Option Fp} (h:FAt w g n P) (e:∀ b r a,P b r a=P' b r a):FAt w g n P':=by
 have:P=P':=funext fun b=>funext fun r=>funext fun a=>e b r a
 rw [←this];exact h
theorem made_f (w:World):FAt (w.alloc (.map #[] 0)) w.heap.size 0 (fun _ _ _=>none):=⟨.map [],World.ownsMap_made w _ _ _,fun b r a _ _ _=>⟨rfl,fun f hf=>by cases hf⟩,fun kl h=>by simp [Maps.has] at h⟩
theorem FAt.look (h:FAt w g n P) {b r a:Nat} (hb:b≤1000000) (hr:r≤4294967295) (ha:a≤1000000) :
 (Instr.lookup 103 (.map (some g)) (pv b r a) true).run Tryz.prog w=.ok (.tuple #[fv ((P b r a).getD fp0),.bool (P b r a).isSome]) w∧(Instr.lookup 103 (.map (some g)) (pv b r a) false).run Tryz.prog w=.ok (fv ((P b r a).getD fp0)) w:=by
 obtain ⟨D,ho,hh,_⟩:=h
 obtain ⟨v,ps,h1,h2⟩:=ho.look_ok law189 Tryz.underlying103 (zero187 w) (fpOf_mk _) (key189 hb hr ha)
 obtain ⟨v',ps',h3,h4⟩:=ho.lookup law189 Tryz.underlying103 (zero187 w) (fpOf_mk _) (key189 hb hr ha)
 obtain ⟨k1,k2⟩:=hh b r a hb hr ha
 cases hp:P b r a with
 | none =>
   rw [hp] at k1
   rw [Maps.atKey_of_not_has k1] at h2 h4
   rw [fpOf_inv h2,k1] at h1
   rw [fpOf_inv h4] at h3
   exact ⟨h1,h3⟩
 | some f =>
   rw [hp] at k1
   rw [k2 f hp] at h2 h4
   rw [fpOf_inv h2,k1] at h1
   rw [fpOf_inv h4] at h3
   exact ⟨h1,h3⟩
def putF (P:Nat→Nat→Nat→Option Fp) (b r a:Nat) (f:Fp):Nat→Nat→Nat→Option Fp:=fun x y z=>if x=b∧y=r∧z=a then some f else P x y z
theorem FAt.store (h:FAt w g n P) {b r a:Nat} (hb:b≤1000000) (hr:r≤4294967295) (ha:a≤1000000) (hn:n≤1000000) (f:Fp) :
 ∃ w',(Instr.mapUpdate 103 (.map (some g)) (pv b r a) (fv f)).run Tryz.prog w=.ok () w'∧FAt w' g (n+1) (putF P b r a f)∧w.mapTurned w' g:=by
 obtain ⟨D,ho,hh,hk⟩:=h
 obtain ⟨w',h1,h2,h3⟩:=ho.store law189 Tryz.underlying103 (by unfold maxLen;omega) (key189 hb hr ha) (fpOf_mk f)
 refine ⟨w',h1,⟨_,h2,fun x y z hx hy hz => ?_,fun kl hl => ?_⟩,h3⟩
 ·unfold putF
  by_cases e:x=b∧y=r∧z=a
  ·obtain ⟨rfl,rfl,rfl⟩:=e
   rw [if_pos ⟨rfl,rfl,rfl⟩,Maps.has_put_same ho.isMap (k:=pk x y z) trivial]
   exact ⟨rfl,fun g hg z'=>by cases hg;exact Maps.atKey_put_same ho.isMap (k:=pk x y z) trivial _ _⟩
  ·rw [if_neg e]
   have hne:pk x y z≠pk b r a:=fun h=>e (pk_inj hx hy hz hb hr ha h)
   rw [Maps.has_put_other hne]
   exact ⟨(hh x y z hx hy hz).1,fun g hg z'=>by rw [Maps.atKey_put_other hne];exact (hh x y z hx hy hz).2 g hg z'⟩
 ·by_cases e:kl=pk b r a
  ·exact ⟨b,r,a,hb,hr,ha,e⟩
  ·rw [Maps.has_put_other e] at hl
   exact hk kl hl
end
def LbAt (w:World) (g:Nat) (n:Nat) (S:Nat→Nat→Bool):Prop:=
 ∃ D:DataW Unit,w.ownsMap Tryz.prog 74 unitElem g n D∧(∀ b r,b≤1000000→r≤4294967295→Maps.has D (lk b r)=S b r)∧(∀ kl,Maps.has D kl=true→∃ b r,b≤1000000∧r≤4294967295∧kl=lk b r)
section
variable {w w':World} {g n:Nat} {S:Nat→Nat→Bool}
theorem LbAt.lt (h:LbAt w g n S):g<w.heap.size:=by obtain ⟨D,h,_⟩:=h;exact h.lt
theorem LbAt.of_block (h:LbAt w g n S) (hb:w'.heap[g]? = w.heap[g]?):LbAt w' g n S:=by
 obtain ⟨D,⟨es,clock,h1,h2⟩,hh⟩:=h
 exact ⟨D,⟨es,clock,hb.trans h1,h2⟩,hh⟩
theorem LbAt.mono {n':Nat} (h:LbAt w g n S) (hn:n≤n'):LbAt w g n' S:=by
 obtain ⟨D,h1,hh⟩:=h
 exact ⟨D,h1.mono hn,hh⟩
theorem LbAt.congr {T:Nat→Nat→Bool} (h:LbAt w g n S) (e:∀ b r,S b r=T b r):LbAt w g n T:=by
 have:S=T:=funext fun b=>funext fun r=>e b r
 rw [←this];exact h
theorem made_lb (w:World):LbAt (w.alloc (.map #[] 0)) w.heap.size 0 (fun _ _=>false):=⟨.map [],World.ownsMap_made w _ _ _,fun b r _ _=>rfl,fun kl h=>by simp [Maps.has] at h⟩
theorem LbAt.look (h:LbAt w g n S) {b r:Nat} (hb:b≤1000000) (hr:r≤4294967295):(Instr.lookup 107 (.map (some g)) (lv b r) true).run Tryz.prog w=.ok (.tuple #[.agg #[],.bool (S b r)]) w:=by
 obtain ⟨D,ho,hh,_⟩:=h
 obtain ⟨v,ps,h1,h2⟩:=ho.look_ok law90 Tryz.underlying107 (zero164 w) unitElem_mk (key90 hb hr)
 rw [hh b r hb hr,(unitElem_inv h2).1] at h1
 exact h1
theorem LbAt.store (h:LbAt w g n S) {b r:Nat} (hb:b≤1000000) (hr:r≤4294967295) (hn:n≤1000000) :
 ∃ w',(Instr.mapUpdate 107 (.map (some g)) (lv b r) (.agg #[])).run Tryz.prog w=.ok () w'∧LbAt w' g (n+1) (fun x y=>(x==b&&y==r)||S x y)∧w.mapTurned w' g:=by
 obtain ⟨D,ho,hh,hk⟩:=h
 obtain ⟨w',h1,h2,h3⟩:=ho.store law90 Tryz.underlying107 (by unfold maxLen;omega) (key90 hb hr) unitElem_mk
 refine ⟨w',h1,⟨_,h2,fun x y hx hy => ?_,fun kl hl => ?_⟩,h3⟩
 ·by_cases e:x=b∧y=r
  ·obtain ⟨rfl,rfl⟩:=e
   rw [Maps.has_put_same ho.isMap (k:=lk x y) trivial]
   simp
  ·have hne:lk x y≠lk b r:=fun h=>e (lk_inj hx hy hb hr h)
   rw [Maps.has_put_other hne,hh x y hx hy]
   have:(x==b&&y==r)=false:=by
    cases h1:(x==b&&y==r) with
    | false=>rfl
    | true=>simp at h1;exact absurd h1 e
   show S x y=((x==b&&y==r)||S x y)
   rw [this];rfl
 ·by_cases e:kl=lk b r
  ·exact ⟨b,r,hb,hr,e⟩
  ·rw [Maps.has_put_other e] at hl
   exact hk kl hl
end
end Go.Proofs.YtodmdkhdbfbfgabGreatDoor.S1
namespace Go.Proofs.YtodmdkhdbfbfgabGreatDoor
open Go.RowKit Go.Nt
set_option linter.unusedVariables false
theorem hidI {p:Prop} (h:p):Hid p:=h
def txt (l:List UInt8):ByteArray:=⟨l.toArray⟩
theorem txt_size (l:List UInt8):(txt l).size=l.length:=by simp [txt,ByteArray.size]
theorem txt_data (l:List UInt8):(txt l).data.toList=l:=rfl
theorem txt_of (s:ByteArray):s=txt s.data.toList:=(Lib.mk_data s).symm
theorem txt_getD (s:List UInt8) (k:Nat) (h:k<(txt s).size):(txt s)[k]'h=s.getD k 0:=by
 have h':k<s.length:=by rw [txt_size] at h;exact h
 show s.toArray[k]=_
 simp [List.getD,h']
theorem txt_extract (l:List UInt8) (a b:Nat):(txt l).extract a b=txt ((l.drop a).take (b - a)):=by
 rw [Lib.extract_eq];rfl
theorem txt_toList (l:List UInt8):(txt l).toList=l:=by rw [Lib.toList_data];rfl
theorem txt_beq (a b:List UInt8):((txt a).toList==(txt b).toList)=decide (a=b):=by
 rw [txt_toList,txt_toList]
 by_cases h:a=b<;>simp [h]
theorem ret_int {k:IntKind} {a b:Int} (h:a=b):Ending.returned (.int k a)=.returned (.int k b):=by rw [h]
theorem ret_bool {a b:Bool} (h:a=b):Ending.returned (.bool a)=.returned (.bool b):=by rw [h]
theorem lt_of_heap {w:World} {g:Nat} {o:Obj} (h:w.heap[g]? = some o):g<w.heap.size:=(Array.getElem?_eq_some_iff.1 h).1
def ItAt (w:World) (b o:Nat) (x:It):Prop:=
 w.cell? ⟨b,o,none⟩=some (.string (txt x.path))∧w.cell? ⟨b,o+1,none⟩=some (.bool x.dir)∧w.cell? ⟨b,o+2,none⟩=some (.string (txt x.data)) ∧
 w.cell? ⟨b,o+3,none⟩=some (.int .i64 x.mode)∧w.cell? ⟨b,o+4,none⟩=some (.int .i64 x.time)
theorem ItAt.lt {w:World} {b o:Nat} {x:It} (h:ItAt w b o x):b<w.heap.size:=World.block_lt_of_cell? w _ h.1
theorem ItAt.of_block {w w':World} {b o:Nat} {x:It} (h:ItAt w b o x) (hb:w'.heap[b]? = w.heap[b]?):ItAt w' b o x:=
 ⟨(World.cell?_of_block hb).trans h.1,(World.cell?_of_block hb).trans h.2.1,(World.cell?_of_block hb).trans h.2.2.1,(World.cell?_of_block hb).trans h.2.2.2.1,(World.cell?_of_block hb).trans h.2.2.2.2⟩
theorem ItAt.below {w w':World} {B b o:Nat} {x:It} (h:ItAt w b o x) (hb:Below B w w') (hlt:b<B):ItAt w' b o x:=h.of_block (hb.block b hlt)
def ItsIn (w:World) (a:Option Addr) (l:List It):Prop:=
 l≠[]→∃ b off,a=some ⟨b,off,none⟩∧∀ k (x:It),l[k]? = some x→ItAt w b (off+k*5) x
theorem ItsIn.below {w w':World} {a:Option Addr} {l:List It} (h:ItsIn w a l) (hb:Below w.heap.size w w'):ItsIn w' a l:=by
 intro hn
 obtain ⟨b,off,rfl,hc⟩:=h hn
 exact ⟨b,off,rfl,fun k x hk=>(hc k x hk).below hb (hc k x hk).lt⟩
end Go.Proofs.YtodmdkhdbfbfgabGreatDoor
namespace Go.Proofs.YtodmdkhdbfbfgabGreatDoor
open Go.RowKit Go.Nt
set_option linter.unusedVariables false
theorem Tryz.info9:(Tryz.prog.info? 9).map (fun i=>(i.zero,i.size,i.bytes))=some (some (.string ByteArray.empty),1,16):=by kernel_rfl
end Go.Proofs.YtodmdkhdbfbfgabGreatDoor
namespace Go.Proofs.YtodmdkhdbfbfgabGreatDoor
open Go.RowKit Go.Nt
set_option linter.unusedVariables false
theorem row_succ {w:World} {base:Nat} {e:TypeId} {size:Nat} {v:Value} {n:Nat} {xs:List Value} (h:w.ownsRow base e size v (n+1) xs):∃ g cap,v=.slice (some ⟨g,0,none⟩) (n+1) cap:=by
 rcases h.2 with ⟨_,h0⟩ | ⟨g,cap,cur,rfl,_⟩
 ·exact absurd h0 (by omega)
 ·exact ⟨g,cap,rfl⟩
end Go.Proofs.YtodmdkhdbfbfgabGreatDoor
namespace Go.Proofs.YtodmdkhdbfbfgabGreatDoor
open Go.RowKit Go.Nt
set_option linter.unusedVariables false
def isOf (t:TypeId):Obj→Bool
 | .cells _ t' _=>t'==t
 | _=>false
structure But (t:TypeId) (w w':World):Prop where
 size:w.heap.size≤w'.heap.size
 block:∀ (k:Nat) (o:Obj),w.heap[k]? = some o→isOf t o=false→w'.heap[k]? = some o
namespace But
variable {t:TypeId} {a b c:World}
theorem refl (t:TypeId) (w:World):But t w w:=⟨Nat.le_refl _,fun _ _ h _=>h⟩
theorem trans (h:But t a b) (k:But t b c):But t a c:=⟨Nat.le_trans h.size k.size,fun i o e n=>k.block i o (h.block i o e n) n⟩
theorem alloc (h:But t a b) (o:Obj):But t a (b.alloc o):=h.trans ⟨by simp,fun k _ e _=>(Below.heap_alloc b o k (lt_of_heap e)).trans e⟩
theorem below (h:But t a b) (hb:Below b.heap.size b c):But t a c:=h.trans ⟨hb.size,fun k _ e _=>(hb.block k (lt_of_heap e)).trans e⟩
theorem grown (h:But t a b) {base n s:Nat} {v:Value} {xs:List Value} (hown:b.ownsRow base t s v n xs) (hg:b.grownBy c v.ownBlock):But t a c:=by
 refine h.trans ⟨hg.size,fun k o e hn=>(hg.block k (lt_of_heap e) (fun he => ?_)).trans e⟩
 rcases hown.2 with ⟨rfl,_⟩ | ⟨g,cap,cur,rfl,_,hh,_⟩
 ·simp [Value.ownBlock] at he
 ·simp [Value.ownBlock] at he
  subst he
  rw [hh] at e
  cases e
  simp [isOf] at hn
theorem cells (h:But t a b) {k:Nat} {x:Array Value} {t':TypeId} {f:Nat × Nat} (e:a.heap[k]? = some (.cells x t' f)) (hne:t'≠t):b.heap[k]? = some (.cells x t' f):=
 h.block k _ e (by simp [isOf,hne])
end But
end Go.Proofs.YtodmdkhdbfbfgabGreatDoor
namespace Go.Proofs.YtodmdkhdbfbfgabGreatDoor
open Go.RowKit Go.Nt
set_option linter.unusedVariables false
def bv (l:Bs):List Value:=l.map fun b=>Value.int .u8 b.toNat
theorem bv_length (l:Bs):(bv l).length=l.length:=by simp [bv]
theorem bv_append (a b:Bs):bv (a++b)=bv a++bv b:=by simp [bv]
theorem bv_str (l:Bs):Lib.strCells (txt l)=bv l:=rfl
theorem Tryz.info5:(Tryz.prog.info? 5).map (fun i=>(i.zero,i.size,i.bytes))=some (some (.int .u8 0),1,1):=by kernel_rfl
theorem wraps_i64 (n:Int) (h₀:0≤n) (h₁:n<2^62):IntKind.i64.wrap n=n:=by rw [IntKind.wrap_i64];omega
theorem or15 (n:Int) (h0:0≤n) (h1:n≤4095):bits .or .i64 n 32768=n+32768:=by
 obtain ⟨k,rfl⟩:=Int.eq_ofNat_of_zero_le h0
 rw [show (32768:Int)=((32768:Nat):Int) from rfl,(bits_nat .i64 62 (by decide) wraps_i64 k 32768 (by omega) (by omega)).2]
 have:k ||| 32768=k+32768:=by
  rw [Nat.or_comm,show (32768:Nat)=2^15*1 from rfl,←Nat.two_pow_add_eq_or_of_lt (by omega:k<2^15) 1]
  omega
 rw [this]
 rfl
theorem or8 (n:Nat) (b:Nat) (hn:n<1099511627776) (hb:b<256):bits .or .i64 ((n:Int)*256) (b:Int)=((n*256+b:Nat):Int):=by
 rw [bits_join .i64 62 (by decide) wraps_i64 8 _ _ (by omega) (by omega) (by omega) (by omega) (by omega) (by omega)]
 simp
def Bytes (w:World) (B:Nat) (v:Value) (l:Bs):Prop:=w.ownsRow B 5 1 v l.length (bv l)
theorem Bytes.slice {w:World} {B:Nat} {v:Value} {l:Bs} (h:Bytes w B v l):∃ a c,v=.slice a l.length c:=by
 rcases h.2 with ⟨rfl,h0⟩ | ⟨g,cap,cur,rfl,_⟩
 ·exact ⟨none,0,by rw [h0]⟩
 ·exact ⟨_,_,rfl⟩
theorem enc_step (k j n:Nat) (h:j<k):enc (j+1) (n/256^(k - (j+1)))=enc j (n/256^(k - j))++[UInt8.ofNat (n/256^(k - (j+1)))]:=by
 rw [enc,Nat.div_div_eq_div_mul,←Nat.pow_succ,show (k - (j+1)).succ=k - j by omega]
theorem addNumber_any (B:Nat) (v:Value) (l:Bs) (k n:Nat) (w:World) (hB:B≤w.heap.size) (hv:Bytes w B v l) (hk:k≤4) (hl:l.length≤1000000) (hn:n<1099511627776) :
 Calls Tryz.prog 108 #[v,.int .i64 k,.int .i64 n] w fun e w'=>∃ v',e=.returned v'∧Bytes w' B v' (l++enc k n)∧Below B w w'∧But 5 w w':=by
 obtain ⟨i0,hi,hz0,hz1,hz2⟩:=info_parts Tryz.info5
 have Hv:=hidI hv
 clear hv
 go_enter Tryz.func108,Tryz.ntmps108
 go_wp2
 go_loopw [0,7] (fun b i wr=>∃ j:Nat,j≤k∧i=.int .i64 ((k:Int) - j - 1)∧Hid (Bytes wr B b (l++enc j (n/256^(k - j))))∧Hid (Below B w wr)∧Hid (But 5 w wr)) (fun _ i _=>((intOf i)+1).toNat)
 case atStart=>exact ⟨0,Nat.zero_le _,by go_num,hidI (by simpa [enc] using Hv.out),hidI (Below.refl _ _),hidI (But.refl _ _)⟩
 case round =>
  obtain ⟨j,hj,rfl,Hb,Hbel,Hbut⟩:=hrel
  rcases Nat.lt_or_ge j k with hlt | hge
  ·obtain ⟨m,hm⟩:∃ m,m=k - (j+1):=⟨_,rfl⟩
   have hmi:(k:Int) - j - 1=(m:Nat):=by omega
   have hm4:m≤3:=by omega
   have Hs:=hidI (enc_step k j n hlt)
   rw [←hm] at Hs
   have Hj:=hidI hmi
   have Hm:=hidI hm
   rw [hmi]
   clear hmi hm
   obtain ⟨a,c,rfl⟩:=Hb.out.slice
   obtain ⟨L,hL⟩:∃ L,L=(l++enc j (n/256^(k - j))).length:=⟨_,rfl⟩
   have hLl:L≤1000004:=by rw [hL,List.length_append,enc_length];omega
   rw [←hL] at Hb ⊢
   have HL:=hidI hL
   have Ho:Hid (wr.ownsRow B 5 1 (.slice a L c) L (bv (l++enc j (n/256^(k - j))))):=hidI (by have:=Hb.out;unfold Bytes at this;rwa [←hL] at this)
   have hsz:=Hbel.out.size
   clear hL
   go_wp2_with (at_builtin;refine wpList_append_own _ rfl (.tmp 14) (.tmp 20) 50 rfl B 5 i0 _ 1 1 Tryz.underlying50 hi hz0 hz1 hz2 rfl (by decide) _ _ _ rfl (Ho.out.alloc _) ⟨wr.heap.size,0,none⟩ 1 1 [.int .u8 ((n:Int)/2^(8*m)%256)] rfl rfl ?c1 ?c2 ?c3 ?c4 ?c5 ?_)
   case c1=>exact cell_one_new _ _ _
   case c2=>intro u hu;simp at hu;subst hu;rfl
   case c3=>unfold maxLen;omega
   case c4=>omega
   case c5=>simp;omega
   intro v3 w3 hown3 hgrow _
   have hbel3:Below B w w3:=(Hbel.out.alloc (by omega) _).grown hgrow (by simp;omega) (fun q hq=>(Ho.out.lt q hq).1)
   have hbut3:But 5 w w3:=(Hbut.out.alloc _).grown (Ho.out.alloc _) hgrow
   have hB3:Hid (Bytes w3 B v3 (l++enc (j+1) (n/256^(k - (j+1))))):=by
    have h1:=HL.out
    have h2:=Hs.out
    have h3:=Hm.out
    refine hidI ?_
    unfold Bytes
    rw [←h3,h2,←List.append_assoc,bv_append,List.length_append,←h1]
    have h4:bv [UInt8.ofNat (n/256^m)]=[.int .u8 ((n:Int)/2^(8*m)%256)]:=by
     simp only [bv,List.map_cons,List.map_nil,UInt8.toNat_ofNat']
     rw [show (256:Nat)=2^8 from rfl,←Nat.pow_mul]
     congr 2
    rw [h4]
    exact hown3
   go_wp2
   go_roundw
   case rel=>exact ⟨j+1,by omega,by have:=Hj.out;go_num,hB3,hidI hbel3,hidI hbut3⟩
   case measure=>simp [intOf]
  ·have hjk:j=k:=by omega
   subst hjk
   have e1:(j:Int) - j - 1 = -1:=by omega
   rw [e1]
   go_wp2
   go_ret
   refine ⟨_,rfl,?_,Hbel.out,Hbut.out⟩
   have:=Hb.out
   simpa using this
end Go.Proofs.YtodmdkhdbfbfgabGreatDoor
namespace Go.Proofs.YtodmdkhdbfbfgabGreatDoor
open Go.RowKit Go.Nt
set_option linter.unusedVariables false
theorem or8u (n:Nat) (b:Nat) (hn:n<16777216) (hb:b<256):bits .or .u32 ((n:Int)*256) (b:Int)=((n*256+b:Nat):Int):=by
 rw [bits_join .u32 32 (by decide) (fun n h0 h1=>by rw [IntKind.wrap_u32];omega) 8 _ _ (by omega) (by omega) (by omega) (by omega) (by omega) (by omega)]
 simp
theorem less7_and (n:Nat) (h:n<4294967296):n &&& (4294967295 - 128)=less7 n:=by
 apply Nat.eq_of_testBit_eq
 intro i
 rw [Nat.testBit_and]
 unfold less7
 have e:n/256*256+n%128=2^8*(n/256)+n%128:=by omega
 rw [e,Nat.testBit_two_pow_mul_add _ (by omega:n%128<2^8)]
 have h32:∀ j,j<32→Nat.testBit (4294967295 - 128) j=decide (j≠7):=by decide
 by_cases hi:i<8
 ·rw [if_pos hi,h32 i (by omega),show (128:Nat)=2^7 from rfl,Nat.testBit_mod_two_pow]
  by_cases e7:i=7
  ·subst e7;simp
  ·have:i<7:=by omega
   simp [e7,this]
 ·rw [if_neg hi,show (256:Nat)=2^8 from rfl,Nat.testBit_div_two_pow,show i - 8+8=i by omega]
  by_cases h5:i<32
  ·rw [h32 i h5]
   have:i≠7:=by omega
   simp [this]
  ·have:n.testBit i=false:=Nat.testBit_lt_two_pow (Nat.lt_of_lt_of_le h (Nat.le_trans (by decide:4294967296≤2^32) (Nat.pow_le_pow_right (by decide) (by omega))))
   rw [this]
   simp
theorem num_take' {s:Bs} {i:Nat} (h:i<s.length):num (s.take (i+1))=num (s.take i)*256+(s.getD i 0).toNat:=foldl_take (fun n (x:UInt8)=>n*256+x.toNat) 0 h
theorem bytesWorld_new (w:World) (s:ByteArray):Below w.heap.size w (Lib.bytesWorld w 5 s):=
 ⟨rfl,rfl,rfl,by rw [Lib.bytesWorld_size];omega,fun k hk=>Lib.bytesWorld_at_old w 5 s k hk⟩
theorem number32_any (s:Bs) (w:World) (hs:s.length≤4) :
 Calls Tryz.prog 121 #[.string (txt s)] w fun e w'=>e=.returned (.int .u32 (num s:Nat))∧Below w.heap.size w w':=by
 obtain ⟨X,hX⟩:∃ X,X=txt s:=⟨_,rfl⟩
 have Sx:X.size=s.length:=by rw [hX,txt_size]
 rw [←hX]
 have gx:Hid (∀ j,j<s.length→X.data.toList.getD j 0=s.getD j 0):=hidI (fun j _=>by rw [hX];rfl)
 have HS:=hidI Sx
 have hX4:X.size≤4:=by omega
 clear hX Sx
 have hcv:=Lib.run_convert_string_bytes (P:=Tryz.prog) w 9 50 5 X Tryz.underlying9 Tryz.underlying50 Tryz.underlying5
 have hb2:=bytesWorld_new w X
 have hcell:=Lib.bytesWorld_cell w 5 X
 obtain ⟨cap,hcap⟩:∃ c,c=grownCap w X.size 0 5:=⟨_,rfl⟩
 obtain ⟨W2,hW2⟩:∃ W2,W2=Lib.bytesWorld w 5 X:=⟨_,rfl⟩
 rw [←hW2] at hcv hb2 hcell
 rw [←hcap] at hcv
 have T2:=hidI hb2
 have HC:=hidI hcell
 clear hcap hW2 hb2 hcell
 go_enter Tryz.func121,Tryz.ntmps121
 go_wp2
 go_loopw [3,9] (fun a i wr=>∃ k:Nat,k≤X.size∧i=.int .i64 k∧a=.int .u32 (num (s.take k):Nat)∧wr=W2) (fun _ i _=>X.size - (intOf i).toNat)
 case atStart=>exact ⟨0,Nat.zero_le _,rfl,rfl,rfl⟩
 case round =>
  obtain ⟨k,hk,rfl,rfl,rfl⟩:=hrel
  by_cases hlt:k<X.size
  ·have hks:k<s.length:=by have:=HS.out;omega
   have hc:=HC.out k hlt
   rw [gx.out k hks] at hc
   have hnum:=num_take' hks
   have hbound:=num_lt (s.take k)
   have hb':num (s.take k)<16777216:=by
    refine Nat.lt_of_lt_of_le hbound ?_
    have:(s.take k).length≤3:=by rw [List.length_take];omega
    exact Nat.le_trans (Nat.pow_le_pow_right (by decide) this) (by decide)
   have hbyte:=(s.getD k 0).toNat_lt
   obtain ⟨c,hcc⟩:∃ c,c=(s.getD k 0).toNat:=⟨_,rfl⟩
   rw [←hcc] at hc hnum hbyte
   obtain ⟨m,hm⟩:∃ m,m=num (s.take k):=⟨_,rfl⟩
   rw [←hm] at hnum hb' ⊢
   have hor:=or8u m c (by omega) (by omega)
   have Hnum:=hidI hnum
   clear hcc hm hnum hbound
   go_wp2
   refine ⟨⟨k+1,by omega,by go_num,?_,trivial⟩,by simp [intOf];omega⟩
   rw [Hnum.out]
   simp
  ·have hks:X.size=k:=by omega
   have HR:Hid (s.take k=s):=hidI (List.take_of_length_le (by have:=HS.out;omega))
   go_wp2
   go_ret
   rw [HR.out]
   exact ⟨rfl,T2.out⟩
theorem sum_any (s:Bs) (w:World) (hs:s.length≤1000) :
 Calls Tryz.prog 122 #[.string (txt s)] w fun e w'=>e=.returned (.int .u32 (sumP s:Nat))∧Below w.heap.size w w':=by
 obtain ⟨X,hX⟩:∃ X,X=txt s:=⟨_,rfl⟩
 have Sx:X.size=s.length:=by rw [hX,txt_size]
 rw [←hX]
 have gx:Hid (∀ j,j<s.length→X.data.toList.getD j 0=s.getD j 0):=hidI (fun j _=>by rw [hX];rfl)
 have HS:=hidI Sx
 have hX4:X.size≤1000:=by omega
 clear hX Sx
 have hcv:=Lib.run_convert_string_bytes (P:=Tryz.prog) w 9 50 5 X Tryz.underlying9 Tryz.underlying50 Tryz.underlying5
 have hb2:=bytesWorld_new w X
 have hcell:=Lib.bytesWorld_cell w 5 X
 obtain ⟨cap,hcap⟩:∃ c,c=grownCap w X.size 0 5:=⟨_,rfl⟩
 obtain ⟨W2,hW2⟩:∃ W2,W2=Lib.bytesWorld w 5 X:=⟨_,rfl⟩
 rw [←hW2] at hcv hb2 hcell
 rw [←hcap] at hcv
 have T2:=hidI hb2
 have HC:=hidI hcell
 clear hcap hW2 hb2 hcell
 go_enter Tryz.func122,Tryz.ntmps122
 go_wp2
 go_loopw [3,9] (fun a i wr=>∃ k m:Nat,k≤X.size∧i=.int .i64 k∧a=.int .u32 m∧wr=W2∧Hid (m=fnv (s.take k))) (fun _ i _=>X.size - (intOf i).toNat)
 case atStart=>exact ⟨0,2166136261,Nat.zero_le _,rfl,rfl,rfl,hidI rfl⟩
 case round =>
  obtain ⟨k,m,hk,rfl,rfl,rfl,Hm⟩:=hrel
  have hm32:m<4294967296:=by rw [Hm.out];exact fnv_lt _
  by_cases hlt:k<X.size
  ·have hks:k<s.length:=by have:=HS.out;omega
   have hc:=HC.out k hlt
   rw [gx.out k hks] at hc
   have hbyte:=(s.getD k 0).toNat_lt
   have Hst:Hid (fnv (s.take (k+1))=(m ^^^ (s.getD k 0).toNat)*16777619%4294967296):=hidI (by rw [fnv_take hks,←Hm.out];rfl)
   obtain ⟨c,hcc⟩:∃ c,c=(s.getD k 0).toNat:=⟨_,rfl⟩
   rw [←hcc] at hc hbyte Hst
   have hxor:=u32_xor_nat m c (by omega) (by omega)
   obtain ⟨y,hy⟩:∃ y,y=m ^^^ c:=⟨_,rfl⟩
   rw [←hy] at hxor Hst
   have hy32:y<4294967296:=by rw [hy];exact Nat.xor_lt_two_pow (n:=32) (by omega) (by omega)
   clear hcc hy
   go_wp2
   refine ⟨⟨k+1,y*16777619%4294967296,by omega,by go_num,by go_num,trivial,hidI (by rw [Hst.out])⟩,by simp [intOf];omega⟩
  ·have hks:X.size=k:=by omega
   have HR:Hid (s.take k=s):=hidI (List.take_of_length_le (by have:=HS.out;omega))
   have hand:=u32_andNot_nat m 128 hm32 (by omega)
   rw [less7_and m hm32] at hand
   have hand':bits .andNot .u32 (m:Int) 128=((less7 m:Nat):Int):=hand
   obtain ⟨z,hz⟩:∃ z,z=less7 m:=⟨_,rfl⟩
   rw [←hz] at hand'
   have Hz:=hidI hz
   clear hand hz
   go_wp2
   go_ret
   refine ⟨?_,T2.out⟩
   unfold sumP
   rw [Hz.out,Hm.out,HR.out]
   rfl
theorem addNumber32_any (B:Nat) (v:Value) (l:Bs) (k n:Nat) (w:World) (hB:B≤w.heap.size) (hv:Bytes w B v l) (hk:k≤4) (hl:l.length≤1000000) (hn:n<4294967296) :
 Calls Tryz.prog 141 #[v,.int .i64 k,.int .u32 n] w fun e w'=>∃ v',e=.returned v'∧Bytes w' B v' (l++enc k n)∧Below B w w'∧But 5 w w':=by
 obtain ⟨i0,hi,hz0,hz1,hz2⟩:=info_parts Tryz.info5
 have Hv:=hidI hv
 clear hv
 go_enter Tryz.func141,Tryz.ntmps141
 go_wp2
 go_loopw [0,7] (fun b i wr=>∃ j:Nat,j≤k∧i=.int .i64 ((k:Int) - j - 1)∧Hid (Bytes wr B b (l++enc j (n/256^(k - j))))∧Hid (Below B w wr)∧Hid (But 5 w wr)) (fun _ i _=>((intOf i)+1).toNat)
 case atStart=>exact ⟨0,Nat.zero_le _,by go_num,hidI (by simpa [enc] using Hv.out),hidI (Below.refl _ _),hidI (But.refl _ _)⟩
 case round =>
  obtain ⟨j,hj,rfl,Hb,Hbel,Hbut⟩:=hrel
  rcases Nat.lt_or_ge j k with hlt | hge
  ·obtain ⟨m,hm⟩:∃ m,m=k - (j+1):=⟨_,rfl⟩
   have hmi:(k:Int) - j - 1=(m:Nat):=by omega
   have hm4:m≤3:=by omega
   have Hs:=hidI (enc_step k j n hlt)
   rw [←hm] at Hs
   have Hj:=hidI hmi
   have Hm:=hidI hm
   rw [hmi]
   clear hmi hm
   obtain ⟨a,c,rfl⟩:=Hb.out.slice
   obtain ⟨L,hL⟩:∃ L,L=(l++enc j (n/256^(k - j))).length:=⟨_,rfl⟩
   have hLl:L≤1000004:=by rw [hL,List.length_append,enc_length];omega
   rw [←hL] at Hb ⊢
   have HL:=hidI hL
   have Ho:Hid (wr.ownsRow B 5 1 (.slice a L c) L (bv (l++enc j (n/256^(k - j))))):=hidI (by have:=Hb.out;unfold Bytes at this;rwa [←hL] at this)
   have hsz:=Hbel.out.size
   clear hL
   go_wp2_with (at_builtin;refine wpList_append_own _ rfl (.tmp 14) (.tmp 20) 50 rfl B 5 i0 _ 1 1 Tryz.underlying50 hi hz0 hz1 hz2 rfl (by decide) _ _ _ rfl (Ho.out.alloc _) ⟨wr.heap.size,0,none⟩ 1 1 [.int .u8 ((n:Int)/2^(8*m)%256)] rfl rfl ?c1 ?c2 ?c3 ?c4 ?c5 ?_)
   case c1=>exact cell_one_new _ _ _
   case c2=>intro u hu;simp at hu;subst hu;rfl
   case c3=>unfold maxLen;omega
   case c4=>omega
   case c5=>simp;omega
   intro v3 w3 hown3 hgrow _
   have hbel3:Below B w w3:=(Hbel.out.alloc (by omega) _).grown hgrow (by simp;omega) (fun q hq=>(Ho.out.lt q hq).1)
   have hbut3:But 5 w w3:=(Hbut.out.alloc _).grown (Ho.out.alloc _) hgrow
   have hB3:Hid (Bytes w3 B v3 (l++enc (j+1) (n/256^(k - (j+1))))):=by
    have h1:=HL.out
    have h2:=Hs.out
    have h3:=Hm.out
    refine hidI ?_
    unfold Bytes
    rw [←h3,h2,←List.append_assoc,bv_append,List.length_append,←h1]
    have h4:bv [UInt8.ofNat (n/256^m)]=[.int .u8 ((n:Int)/2^(8*m)%256)]:=by
     simp only [bv,List.map_cons,List.map_nil,UInt8.toNat_ofNat']
     rw [show (256:Nat)=2^8 from rfl,←Nat.pow_mul]
     congr 2
    rw [h4]
    exact hown3
   go_wp2
   go_roundw
   case rel=>exact ⟨j+1,by omega,by have:=Hj.out;go_num,hB3,hidI hbel3,hidI hbut3⟩
   case measure=>simp [intOf]
  ·have hjk:j=k:=by omega
   subst hjk
   have e1:(j:Int) - j - 1 = -1:=by omega
   rw [e1]
   go_wp2
   go_ret
   refine ⟨_,rfl,?_,Hbel.out,Hbut.out⟩
   have:=Hb.out
   simpa using this
end Go.Proofs.YtodmdkhdbfbfgabGreatDoor
