/- Lemmas. -/
import Derived.Deep.RegionHeld3
import Derived.OrdersIn
import Derived.Test.YtodmdkhdbfbfgaaGreatDoorProg
import Derived.RowKit
import Derived.WalkKit
import Derived.WalkSpells
import Derived.BigQuiet
import Derived.Laws.Rows
import Derived.Laws.BitsLemmas
import Derived.Below
import Derived.WalkLawsBesides
import Derived.Deep.QuietTactic
import Derived.Outline
import Derived.Deep.OwnRows
import Derived.Laws.BytesArg
import Derived.Laws.CopyOwn
import Derived.Lib.Strings
import Derived.Lib.AppendStr
import Derived.Lib.BufferWrite
import Derived.Deep.RegionWith
set_option linter.unusedVariables false
set_option linter.unusedSimpArgs false
set_option maxRecDepth 100000
set_option maxHeartbeats 8000000
open Go.Proofs.Tryz
abbrev Eq.i:=@Eq.trans
abbrev Iff.i:=@Iff.trans
abbrev List.Perm.i:=@List.Perm.trans
abbrev List.Sublist.i:=@List.Sublist.trans
abbrev Go.RowKit.Below.i:=@Go.RowKit.Below.trans
abbrev Go.World.grownBy.i:=@Go.World.grownBy.trans
abbrev Go.World.Extends.i:=@Go.World.Extends.trans
abbrev Go.World.Since.i:=@Go.World.Since.trans
abbrev Go.Lib.OthersKept.i:=@Go.Lib.OthersKept.trans
abbrev HEq.i:=@HEq.trans
abbrev List.IsPrefix.i:=@List.IsPrefix.trans
abbrev Go.Calls.l:=@Go.Calls.mono
abbrev Go.CallsIn.l:=@Go.CallsIn.mono
abbrev Go.RowKit.Below.l:=@Go.RowKit.Below.mono
abbrev Go.World.ownsMap.l:=@Go.World.ownsMap.mono
abbrev Eq.A:=@Eq.symm
abbrev Ne.A:=@Ne.symm
abbrev Iff.A:=@Iff.symm
abbrev List.Perm.A:=@List.Perm.symm
abbrev Go.RowKit.Below.u:=@Go.RowKit.Below.block
abbrev Go.World.grownBy.u:=@Go.World.grownBy.block
abbrev Go.World.keptBut.u:=@Go.World.keptBut.block
abbrev Go.World.Extends.u:=@Go.World.Extends.block
abbrev Go.World.Since.u:=@Go.World.Since.block
abbrev Or.w:=@Or.inl
abbrev Or.s:=@Or.inr
abbrev Go.World.rowIs.y:=@Go.World.rowIs.of_block
abbrev Go.RowKit.Below.C:=@Go.RowKit.Below.grown
abbrev Go.World.Extends.C:=@Go.World.Extends.grown
abbrev Go.Lib.OthersKept.C:=@Go.Lib.OthersKept.grown
abbrev Go.World.Since.C:=@Go.World.Since.grown
abbrev Go.World.mapTurned.C:=@Go.World.mapTurned.grown
theorem Go.I{α:Sort _}{a:α}:a=a:=rfl
theorem Go.RowKit.Hid.o{p:Prop}(h:Hid p):p:=h
theorem Go.Shut.o{p:Prop}(h:Shut p):p:=h.out
abbrev Go.Value.c(b:Nat):Value:=.pointer (some ⟨b,0,none⟩)
abbrev Go.FH(b:Nat):Option Addr:=some ⟨b,0,none⟩
abbrev Go.O(b k:Nat):Addr:=⟨b,k,none⟩
abbrev Go.Value.a(n:Int):Value:=.int .i64 n
abbrev Go.Ending.a(v:Value):Ending:=.returned v
abbrev Go.Value.d(n:Int):Value:=.int .u32 n
abbrev Go.Value.f(n:Int):Value:=.int .u8 n
abbrev Go.Value.g:Value:=.slice none 0 0
abbrev Go.Value.e(b:Nat):Value:=.map (some b)
abbrev Go.Value.b(g n c:Nat):Value:=.slice (some ⟨g,0,none⟩) n c
theorem U{p:Prop}(h:p:=by omega):p:=h
theorem EG{p:Prop}(h:p:=by kernel_rfl):p:=h
theorem EB{p:Prop}(h:p:=by decide):p:=h
theorem EL{p:Prop}(h:p:=by simp;omega):p:=h
theorem EJ{p:Prop}(h:p:=by simp):p:=h
theorem Fs{p:Prop}(h:p:=by unfold maxLen;omega):p:=h
theorem IC{p:Prop}(h:p:=by simp<;>omega):p:=h
theorem KH{p:Prop}(h:p:=by rfl):p:=h
theorem Dz{p q:Prop}(x:q)(h:q->p:=by intro;omega):p:=h x
theorem EU{p q:Prop}(x:q)(h:q->p:=by intro h;simpa using h):p:=h x
abbrev Go.Z:=World
abbrev Go.World.s(w:World):Nat:=w.heap.size
abbrev Go.World.g(w:World)(b k:Nat)(v:Value):Prop:=w.cell? ⟨b,k,none⟩=some v
abbrev Go.World.f(w:World)(b k:Nat):Prop:=w.frozen? ⟨b,k,none⟩=false
abbrev Go.World.h(w:World)(k:Nat)(a:Array Value)(t:TypeId):Prop:=w.heap[k]?=some (.cells a t (0,0))
abbrev Go.World.e(v w:World)(k:Nat):Prop:=v.heap[k]?=w.heap[k]?
abbrev Go.World.b(w v:World):Prop:=RowKit.Below w.heap.size w v
abbrev Go.World.r:=@World.ownsRow
abbrev Go.RowKit.H:=@Hid
abbrev Go.World.a(w:World)(a:Array Value)(t:TypeId):World:=w.alloc (.cells a t)
abbrev Go.World.c(w:World)(b k:Nat)(v:Value):World:=w.setCell ⟨b,k,none⟩ v
abbrev Go.Du:=List UInt8
abbrev Go.AB:=@Nat.le_refl
abbrev Go.AC:=@if_neg
abbrev Go.AD:=@if_pos
abbrev Go.AG:=@Nat.le_trans
abbrev Go.AH:=@Go.RowKit.Below.heap_setCell
abbrev Go.AJ:=@Go.heap_setCell_same
abbrev Go.AK:=@Go.World.cell?_of_block
abbrev Go.AO:=@Go.RowKit.Below.heap_alloc
abbrev Go.AP:=@Go.RowKit.Below.refl
abbrev Go.AQ:=@Nat.lt_of_lt_of_le
abbrev Go.AR:=@Go.heap_alloc_new
abbrev Go.AU:=@Go.cell_of_row
abbrev Go.AV:=@Bool.and_eq_true
abbrev Go.AW:=@Nat.zero_le
abbrev Go.AX:=@congrArg
abbrev Go.Ak:=@Nat.zero_add
abbrev Go.Am:=@Go.World.block_lt_of_cell?
abbrev Go.An:=@Go.info_parts
abbrev Go.Au:=@List.map_append
abbrev Go.BC:=@Array.getElem?_eq_some_iff
abbrev Go.BK:=@Nat.pow_le_pow_right
abbrev Go.BO:=@List.map_congr_left
abbrev Go.BQ:=@Nat.mul_comm
abbrev Go.BU:=@Nat.mod_lt
abbrev Go.B5:=@Go.AllReadyIn.cons
abbrev Go.Bq:=@Nat.add_zero
abbrev Go.Bu:=@List.eq_nil_of_length_eq_zero
abbrev Go.CE:=@Go.frozen_of_row
abbrev Go.CF:=@Nat.pow_succ
abbrev Go.CH:=@Int.toNat_of_nonneg
abbrev Go.CS:=@Nat.lt_or_ge
abbrev Go.CX:=@Go.AllReadyH.cons
abbrev Go.C6:=@Go.wpAnyIn_ready
abbrev Go.Cd:=@Go.AllReadyIn.nil
abbrev Go.Cj:=@List.map_map
abbrev Go.Ck:=@Nat.mul_assoc
abbrev Go.DD:=@Nat.div_div_eq_div_mul
abbrev Go.DE:=@Nat.add_sub_cancel
abbrev Go.DK:=@Nat.add_assoc
abbrev Go.DX:=@Go.IntKind.wrap_i64
abbrev Go.D9:=@Nat.add_mul
abbrev Go.Dp:=@Go.AllReadyH.nil
abbrev Go.Ds:=@Nat.sub_self
abbrev Go.AM:=@List.length_append
abbrev Go.Ao:=@List.getElem?_append_right
abbrev Go.As:=@Int.eq_ofNat_of_zero_le
abbrev Go.BB:=@List.nil_append
abbrev Go.BG:=@List.getElem?_append_left
abbrev Go.BV:=@List.size_toArray
abbrev Go.BX:=@List.length_drop
abbrev Go.Bw:=@Array.getElem?_toList
abbrev Go.Bx:=@UInt8.toNat_ofNat'
abbrev Go.C4:=@List.getElem?_drop
abbrev Go.Cn:=@Go.run_make_row'
abbrev Go.Cz:=@Array.length_toList
abbrev Go.DA:=@Go.World.rowIs_made
abbrev Go.DO:=@List.take_zero
namespace Go.Proofs.YtodmdkhdbfbfgaaGreatDoor
section
theorem Jj{P:Program}{f:FuncId}{a:Array Value}{w:Z}{r:Ending}{K:Ending->Z->Prop}(h:Calls P f a w fun e w'=>e=r/\w'=w)(k:K r w):Calls P f a w K:=h.l (by rintro _ _ ⟨rfl,rfl⟩;exact k)
theorem E{A:Type _}(a:A):∃x,x=a:=⟨a,I⟩
theorem zP(l:List Value)(d:_)(i:Nat)(v:Value):Act.put ⟨l.toArray,d⟩ (some i) v=⟨(l.set i v).toArray,d⟩:=by simp[Act.put]
theorem tk{P:Program}{d:Array Oper}{Q:Exit->Act->Z->Prop}{j:Region.Mode}{S:Z->Prop}(i:Nat)(g:Oper)(v:Value){e:Nat}{b:Array Bool}{a:Act}{w:Z}(m:d[i]?=some g)(n:∀w,S w->(execOp a.eval g).run P w=.ok (.value v) w)(l:S w)(h:wpAnyH P j d Q S e (b.setIfInBounds i true) (a.put g.dst v) w) (f:(Region.noSelect d&&Region.free j d b i&&(Region.ready j d b).contains i&&Region.wanted g (yielded d a.tmps))=true:=by kernel_rfl) (k:∀c a w,Q (.panic c) (a.put g.dst v) w->Q (.panic c) a w:=by exact λ_ _ _ h=>h):wpAnyH P j d Q S (e+1) b a w:=by simp only[AV]at f;exact wpAnyH_take m f.1.1.1 f.1.1.2 f.1.2 k (Or.w ⟨f.2,n⟩) l h
theorem rd{P:Program}{c:Array Oper}{Q:Exit->Act->Z->Prop}{f:Region.Mode}{S:Z->Prop}(i:Nat){o:Oper}{d:Nat}{b:Array Bool}{a:Act}{w:Z}(g:c[i]?=some o) (h:∀e:Act->Z->Prop,Shut (∀a w,S w->(S w->wpAnyH P f c Q S d (b.setIfInBounds i true) a w)->e a w)->if Region.wanted o (yielded c a.tmps)=true then Oper.wp P o a w e Q else e (a.put o.dst undef) w) (j:Region.ready f c b=[i]:=by kernel_rfl):wpAnyH P f c Q S (d+1) b a w:=
 wpAnyH_ready j EJ (CX g h Dp)
theorem KD{F:Fence}{n:Nat}{P:Program}{c:Array Oper}{Q:Exit->Act->Z->Prop}{g:Region.Mode}(i:Nat){o:Oper}{d:Nat}{b:Array Bool}{a:Act}{w:Z}(k:Region.ready g c b=[i])(j:c[i]?=some o) (h:∀e:Act->Z->Prop,(∀a w,wpAnyIn F n P g c Q d (b.setIfInBounds i true) a w->e a w)->if Region.wanted o (yielded c a.tmps)=true then Oper.wpIn F n P o a w e Q else(∀f,o.about P w a.eval=some f->F.fn f)/\e (a.put o.dst undef) w):wpAnyIn F n P g c Q (d+1) b a w:=
 C6 k EJ (B5 j h Cd)
end
end Go.Proofs.YtodmdkhdbfbfgaaGreatDoor
namespace Go
open Go.RowKit
theorem Ef{P:Program}{d:Array Oper}{Q:Exit->Act->Z->Prop}{l:Region.Mode}{S:Z->Prop}(i:Nat){j:Option Nat}{m:Op}{n:TypeId}{o:String}{p:Array Edge}{r:Option (Nat×Bool)}{v:Value}{e:Nat}{b:Array Bool}{a:Act}{w:Z}(u:d[i]?=some ⟨j,m,n,o,p,r⟩)(t:S w){k:Prop}(h:k) (x:∀w,S w->(execOp a.eval ⟨j,m,n,o,p,r⟩).run P w=.ok (.value v) w:=by intro w h;(try dsimp only at h);first | (go_simp;done) | (go_simp;rfl)) (g:Hid k->wpAnyH P l d Q S e (b.setIfInBounds i true) (a.put j v) w:=by intro q;simp only[zP,List.set];exact q.o) (f:(Region.noSelect d&&Region.free l d b i&&(Region.ready l d b).contains i&&Region.wanted ⟨j,m,n,o,p,r⟩ (yielded d a.tmps))=true:=by kernel_rfl) (s:∀c a w,Q (.panic c) (a.put j v) w->Q (.panic c) a w:=by exact λ_ _ _ h=>h):wpAnyH P l d Q S (e+1) b a w:=by simp only[AV]at f;exact wpAnyH_take u f.1.1.1 f.1.1.2 f.1.2 s (Or.w ⟨f.2,x⟩) t (g h)
theorem Mb{P:Program}{d:Array Oper}{Q:Exit->Act->Z->Prop}{k:Region.Mode}{S:Z->Prop}(i:Nat){l:Option Nat}{m:Op}{n:TypeId}{o:String}{p:Array Edge}{r:Option (Nat×Bool)}{e:Nat}{b:Array Bool}{a:Act}{w:Z}(u:d[i]?=some ⟨l,m,n,o,p,r⟩)(t:S w){j:Prop}(h:j) (g:Hid j->wpAnyH P k d Q S e (b.setIfInBounds i true) (a.put l undef) w:=by intro q;simp only[zP,List.set];exact q.o) (f:(Region.noSelect d&&Region.free k d b i&&(Region.ready k d b).contains i && !Region.wanted ⟨l,m,n,o,p,r⟩ (yielded d a.tmps))=true:=by kernel_rfl) (s:∀c a w,Q (.panic c) (a.put l undef) w->Q (.panic c) a w:=by exact λ_ _ _ h=>h):wpAnyH P k d Q S (e+1) b a w:=by simp only[AV,Bool.not_eq_true']at f;exact wpAnyH_take u f.1.1.1 f.1.1.2 f.1.2 s (Or.s ⟨f.2,I⟩) t (g h)
end Go
namespace Go
theorem EV{w:Z}{g:Nat}{t:TypeId}{l:List Value}{a:Nat×Nat}{v:Value}(k:Nat)(h:w.heap[g]?=some (.cells (List.toArray l) t a))(b:l[k]?=some v:=by rfl):w.cell? (O g k)=some v:=by rw[AU w g k _ t a h];simpa using b
theorem NO{w:Z}{g:Nat}{t:TypeId}{l:List Value}{a:Nat×Nat}{v:Value}(k:Nat)(h:w.heap[g]?=some (.cells (List.toArray l) t a))(b:l[k]?=some v:=by rfl):w.drew.cell? (O g k)=some v:=EV (w:=w.drew) k h b
theorem Fg{w:Z}{g:Nat}{t:TypeId}{a:Array Value}(k:Nat)(h:w.heap[g]?=some (.cells a t (0,0))):w.frozen? (O g k)=false:=CE w g k _ t h
theorem Gi{W w:Z}{o:Obj}{z:Nat}(h:W=w.alloc o)(a:w.heap.size=z:=by rfl):W.heap[z]?=some o:=by rw[h,<-a];exact AR _ _
theorem Ia{W w:Z}{o:Obj}{z:Nat}(h:W=w.alloc o)(a:w.heap.size=z:=by rfl):W.heap.size=z+1:=by rw[h,<-a];simp
theorem zW{x:Int}(h:-9223372036854775808<=x:=by omega)(a:x<=9223372036854775807:=by omega):IntKind.i64.wrap x=x:=by rw[DX];omega
end Go
namespace Go.RowKit
theorem JK{W w:Z}{o:Obj}(h:W=w.alloc o):Below w.heap.size w W:=by rw[h];exact(AP _ w).alloc (AB _) _
theorem Iy{w:Z}{o:Obj}:Below w.heap.size w (w.alloc o):=(AP _ w).alloc (AB _) _
theorem Below.a{B:Nat}{a w:Z}{o:Obj}(h:Below B a w)(b:B<=w.heap.size:=by first | exact AB _ | omega | (simp;omega)):Below B a (w.alloc o):=h.alloc b o
theorem Below.c{B:Nat}{a w:Z}{p:Addr}{u:Value}(h:Below B a w)(b:B<=p.block:=by first | exact AB _ | omega | (simp;omega)):Below B a (w.setCell p u):=h.setCell b u
theorem Below.b{B a:Nat}{w w':Z}(h:Below B w w')(b:a<=B:=by omega):Below a w w':=h.l b
theorem Below.d{B:Nat}{w w':Z}(h:Below B w w')(k:Nat)(a:k<B:=by omega):w'.heap[k]?=w.heap[k]? := h.u k a
theorem Jm{w:Z}{o:Obj}{k:Nat}(h:k<w.heap.size:=by omega):(w.alloc o).heap[k]?=w.heap[k]? := AO w o k h
end Go.RowKit
namespace Go
theorem zJ{P:Program}{f:FuncId}{a:Array Value}{w:Z}{r:Ending}{K:Ending->Z->Prop}(h:Calls P f a w λe w'=>e=r/\w'=w)(k:K r w):Calls P f a w K:=h.l (by rintro _ _ ⟨rfl,rfl⟩;exact k)
theorem Qe{w:Z}{g:Nat}{t:TypeId}{a:Array Value}{W:Z}{k:Nat}{v:Value}(b:W=w.setCell (O g k) v)(h:w.heap[g]?=some (.cells a t (0,0))):W.heap[g]?=some (.cells (a.setIfInBounds k v) t (0,0)):=by rw[b];exact AJ w g k _ t _ h
end Go
namespace Go.Proofs.YtodmdkhdbfbfgaaGreatDoor
namespace Y.Pk
def wt(x:Int):Int:=if 0<x then 2^(12-x).toNat else 0
def sumTo(z:Nat->Int):Nat->Int
 | 0=>0
 | k+1=>sumTo z k+wt (z k)
def cnt(z:Nat->Int)(d:Nat):Nat->Nat
 | 0=>0
 | k+1=>cnt z d k+if z k=(d:Int)then 1 else 0
def Kt(z:Nat->Int)(n:Nat):Nat->Nat
 | 0=>0
 | d+1=>2*Kt z n d+cnt z (d+1) n
def num(z:Nat->Int)(n s:Nat):Nat:=2*Kt z n ((z s).toNat-1)+cnt z (z s).toNat s
def part(z:Nat->Int)(d:Nat):Nat->Nat
 | 0=>0
 | k+1=>part z d k+if 1<=z k/\z k<=(d:Int)then 2^(12-(z k).toNat)else 0
theorem XC(z:Nat->Int)(d n:Nat):cnt z d n<=n:=by
 induction n with
 |zero=>simp[cnt]
 |succ n a=>simp only[cnt];split<;>omega
theorem cnt_mono(z:Nat->Int)(d:Nat){s n:Nat}(h:s<=n):cnt z d s<=cnt z d n:=by
 induction n with
 | zero=>have:s=0:=U
         subst this;exact AB _
 |succ n a=>
   by_cases e:s=n+1
   .subst e;exact AB _
   have:=a U;simp only[cnt];omega
theorem cnt_lt(z:Nat->Int)(d:Nat){s n:Nat}(h:s<n)(a:z s=d):cnt z d s<cnt z d n:=by
 have b:cnt z d (s+1)=cnt z d s+1:=by simp[cnt,a]
 exact Dz (cnt_mono z d (show s+1<=n by omega))
theorem zQ(z:Nat->Int)(n:Nat):part z 0 n=0:=by
 induction n with
 |zero=>rfl
 |succ n a=>simp only[part,a];rw[AC U]
theorem tD(z:Nat->Int)(d n:Nat):part z (d+1) n=part z d n+cnt z (d+1) n*2^(12-(d+1)):=by
 induction n with
 |zero=>simp[part,cnt]
 |succ n a=>
  simp only[part,cnt,a];by_cases e:z n=((d+1:Nat):Int)
  .rw[AD U,AC U,AD e,e,Int.toNat_natCast,D9];omega
  rw[AC e];by_cases e2:1<=z n/\z n<=(d:Int)
  .rw[AD U,AD e2];simp;omega
  rw[AC U,AC e2];simp
theorem vl(z:Nat->Int)(n d:Nat)(b:d<=12):Kt z n d*2^(12-d)=part z d n:=by
 induction d with
 |zero=>simp[Kt,zQ]
 |succ d a=>
  have h:=a U;rw[tD,<-h,Kt,D9];have e:2^(12-d)=2*2^(12-(d+1)):=by rw[show 12-d=(12-(d+1))+1 by omega,CF];omega
  rw[e,BQ 2 (Kt z n d),Ck]
theorem Wx(z:Nat->Int){d e:Nat}(n:Nat)(h:d<=e):part z d n<=part z e n:=by
 induction n with
 |zero=>simp[part]
 |succ n b=>
  simp only[part];by_cases a:1<=z n/\z n<=(d:Int)
  .rw[AD a,AD U];omega
  rw[AC a];omega
theorem uV(z:Nat->Int)(n:Nat)(h:∀k,k<n->0<=z k/\z k<=12):sumTo z n=(part z 12 n:Nat):=by
 induction n with
 |zero=>simp[sumTo,part]
 |succ n a=>
  have b:=h n U;simp only[sumTo,part,a (λk _=>h k U),wt];by_cases e:0<z n
  .rw[AD e,AD U];have:(12-z n).toNat=12-(z n).toNat:=U;rw[this];simp
  rw[AC e,AC U];simp
theorem yU(z:Nat->Int)(n:Nat)(h:∀k,k<n->0<=z k/\z k<=12):0<=sumTo z n/\sumTo z n<=2048*n:=by
 induction n with
 |zero=>simp[sumTo]
 |succ n c=>
  have e:=h n U;have d:=c (λk _=>h k U);have f:0<=wt (z n)/\wt (z n)<=2048:=by
   unfold wt;split
   .have:(12-z n).toNat<=11:=U;have a:=BK (show 0<2 by omega) this;have b:((2:Int)^(12-z n).toNat)=((2^(12-z n).toNat:Nat):Int):=EJ;rw[b];generalize 2^(12-z n).toNat=p at a;omega
   omega
  simp only[sumTo];omega
structure Fits (z:Nat->Int) (n:Nat):Prop where
 UJ:∀k,k<n->0<=z k/\z k<=12
 sum:sumTo z n<=4096
theorem kU(z:Nat->Int)(n d:Nat)(b:Fits z n)(a:d<=12):Kt z n d<=2^d:=by
 have e:=vl z n d a;have f:=Wx z n a;have g:=uV z n b.UJ;have h:=b.sum;have i:part z 12 n<=4096:=U;have c:Kt z n d*2^(12-d)<=2^d*2^(12-d):=by rw[<-Nat.pow_add,show d+(12-d)=12 by omega];simp;omega
 exact Nat.le_of_mul_le_mul_right c (Nat.two_pow_pos _)
theorem Z7(z:Nat->Int)(n s:Nat)(c:1<=z s)(b:s<n):num z n s<Kt z n (z s).toNat:=by obtain⟨d,a⟩:∃d:Nat,(z s).toNat=d+1:=⟨(z s).toNat-1,by omega⟩;have:=cnt_lt z (z s).toNat b U;unfold num;rw[a]at this |-;simp only[Kt,DE];omega
theorem Tu(z:Nat->Int)(n s:Nat)(a:Fits z n)(b:s<n)(c:1<=z s):num z n s<2^(z s).toNat:=by have h:=Z7 z n s c b;have:=a.UJ s b;exact Dz (kU z n (z s).toNat a U)
theorem rX(z:Nat->Int)(n d e:Nat):Kt z n d*2^e<=Kt z n (d+e):=by
 induction e with
 |zero=>simp
 |succ e a=>rw[CF,<-Ck,<-DK,Kt];omega
theorem eG(z:Nat->Int)(n s t:Nat)(f:s<n)(j:t<n)(a:s≠t)(c:1<=z s)(i:z s<=z t):num z n s≠num z n t/2^((z t).toNat-(z s).toNat):=by
 by_cases e:z s=z t
 .rw[e,Ds,Nat.pow_zero,Nat.div_one];unfold num;rw[e];rcases Nat.lt_or_gt_of_ne a with h|h
  .exact Dz (cnt_lt z (z t).toNat h U)
  exact Dz (cnt_lt z (z t).toNat h U)
 have g:=Z7 z n s c f;obtain⟨q,d⟩:∃q:Nat,(z t).toNat=(z s).toNat+q+1:=⟨(z t).toNat-(z s).toNat-1,by omega⟩;have b:Kt z n (z s).toNat*2^(q+1)<=num z n t:=by have h:=rX z n (z s).toNat q;unfold num;rw[d,DE,CF,<-Ck];omega
 rw[show(z t).toNat-(z s).toNat=q+1 by omega];have:Kt z n (z s).toNat<=num z n t/2^(q+1):=(Nat.le_div_iff_mul_le (Nat.two_pow_pos _)).2 b;omega
end Y.Pk
namespace Y
open Go.RowKit
variable {w w':Z} {n b:Nat} {z:Nat->Int} {t:TypeId} {p q:Addr}
theorem ym(n:Int):bits .and .i64 n 1=n%2:=by
 have a:(BitVec.ofInt 64 1).toNat=2^1-1:=EB;have key:(BitVec.ofInt 64 n &&& BitVec.ofInt 64 1).toNat=(n%((2^64:Nat):Int)).toNat%2^1:=by rw[BitVec.toNat_and,BitVec.toNat_ofInt,a,Nat.and_two_pow_sub_one_eq_mod]
 show IntKind.i64.wrap ((BitVec.ofInt 64 n &&& BitVec.ofInt 64 1).toNat:Nat)=n%2;rw[key,DX];omega
def IntsIn(w:Z)(a:Option Addr)(n:Nat)(z:Nat->Int):Prop:=
 0<n->∃b off,a=some (O b off)/\∀k,k<n->w.cell? (O b (off+k))=some (.a (z k))
theorem IntsIn.f{a:Option Addr}(h:IntsIn w a n z)(f:Below w.heap.size w w'):IntsIn w' a n z:=by intro g;obtain⟨b,c,rfl,d⟩:=h g;refine⟨b,c,I,λk e=>?_⟩;rw[f.cell (p:=⟨b,c+k,none⟩) (Am w _ (d k e))];exact d k e
theorem Oz{f:Nat->Value}{B:Nat}(h:w.rowIs b t n f)(c:Below B w w')(a:b<B):w'.rowIs b t n f:=
 h.y (c.u b a)
theorem iZ(h:w.rowIs b t n (λj=>.a (z j))):IntsIn w (FH b) n z:=
 λ_=>⟨b,0,I,λ_ a=>by rw[Ak];exact h.cell a⟩
theorem jB(v:Value)(h:q.block≠p.block):(w.setCell p v).cell? q=w.cell? q:=AK (AH w p v _ h)
theorem jG(v:Value)(h:q.block≠p.block):(w.setCell p v).frozen? q=w.frozen? q:=World.frozen?_of_block (AH w p v _ h)
theorem Ma{k:IntKind}{a b:Int}(h:a=b):Ending.returned (.int k a)=.a (.int k b):=by rw[h]
theorem Ku{a b:Bool}(h:a=b):Ending.returned (.bool a)=.a (.bool b):=by rw[h]
def X(l:Du):ByteArray:=⟨l.toArray⟩
theorem EF(l:Du):(X l).size=l.length:=by simp[X,ByteArray.size]
theorem ux{P:Program}(t e:TypeId)(z x y:Value)(a:Nat)(q:P.underlying t=some (.slice e))(b:(P.info? e).map (λi=>(i.zero,i.size,i.bytes))=some (some z,2,a))(d:z.cells=#[x,y]) (j g:IntKind) (n:Nat) (c:a*n<=281474976710656) (l:n<=9223372036854775807) (w:Z):(Instr.makeSlice t (.int j (n:Int)) (.int g (n:Int))).run P w=.ok (.b w.heap.size n n) (w.alloc (.cells (madeCells #[x,y] (n*2)) e)):=by
 obtain⟨i,o,r,p,m⟩:=An b;have k:(i.bytes:Int)*(n:Int)<=281474976710656:=by
  have h:((i.bytes*n:Nat):Int)<=281474976710656:=by rw[m];omega
  rwa[Int.natCast_mul]at h
 have f:=run_make (P:=P) w t e i z q o r j g n n U (Int.le_refl _) k U;simp only[Int.toNat_natCast,p,d]at f;exact f
theorem nG(w:Z)(x y:Value)(n:Nat)(t:TypeId):(w.alloc (.cells (madeCells #[x,y] (n*2)) t)).rowIs w.heap.size t (n*2) (λj=>if j%2=0 then x else y):=
 ⟨_,AR _ _,size_madeCells _ _,λi a=>by have:i%2=0\/i%2=1:=U;rcases this with h|h<;>simp[madeCells,a,h]⟩
end Y
namespace Y
open Go.RowKit Pk
theorem IM:(prog.info? 5).map (λi=>(i.zero,i.size,i.bytes))=some (some (.f 0),1,1):=EG
theorem lE(z:Nat->Int)(k:Nat)(n:Nat)(i:n<=288)(g:k<n)(e:∀j,j<k->0<=z j/\z j<=12)(h:0<=z k/\z k<=12)(d:0<z k):wrap64 (sumTo z k+wrap64 (2^(12-z k).toNat))=sumTo z (k+1):=by have f:=yU z k e;have a:(12-z k).toNat<=11:=U;have b:=BK (show 0<2 by omega) a;have c:((2:Int)^(12-z k).toNat)=((2^(12-z k).toNat:Nat):Int):=EJ;simp only[sumTo,wt,AD d];rw[c];generalize 2^(12-z k).toNat=p at b;unfold wrap64;omega
theorem lG(z:Nat->Int)(k:Nat)(a:z k<=0):sumTo z k=sumTo z (k+1):=by simp only[sumTo,wt,AC (show ¬0<z k by omega)];omega
theorem pG(a:Option Addr)(n cap:Nat)(z:Nat->Int)(w:Z)(y:n<=288)(B:IntsIn w a n z)(m:Nat)(F:m<n)(c:¬(0<=z m/\z m<=12))(q:∀j,j<m->0<=z j/\z j<=12):Calls prog 259 #[.slice a n cap] w λe w'=>e=.a (.a 1)/\w'=w:=by
 obtain⟨b,h,rfl,p⟩:=B U;have l:Hid (∀j,j<m->0<=z j/\z j<=12):=q;clear q;have t:Hid (¬(0<=z m/\z m<=12)):=c;clear c;have r:Hid (∀k,k<n->w.cell? {block:=b,off:=h+k}=some (Value.int IntKind.i64 (z k))):=p;clear p;go_enter func259,ntmps259;go_wp2;go_loop [3,11] (λs i=>∃k:Nat,k<=m/\i=.a k/\s=.a (sumTo z k)) (λ_ i=>n-(intOf i).toNat)
 case atStart=>exact⟨0,AW _,I,I⟩
 case round=>
  obtain⟨k,_,rfl,rfl⟩:=hrel;have o:k<n:=U;have C:=r.o k o;by_cases f:k=m
  .have g:z k<0\/12<z k:=by have:=t.o;rw[f];omega
   clear f;rcases g with g|g
   .go_wp2;go_ret;exact⟨I,I⟩
   have v:¬z k<0:=U;go_wp2;go_ret;exact⟨I,I⟩
  have u:=l.o k U;have d:Hid (k<m):=(by omega:k<m);clear f;have v:¬z k<0:=U;have D:¬12<z k:=U;by_cases A:0<z k
  .go_wp2;go_round
   case rel=>exact⟨k+1,d.o,by go_num,by rw[lE z k n y o (λj x=>l.o j (Nat.lt_trans x d.o)) u A]⟩
   case measure=>simp[intOf];omega
  go_wp2;go_round
  case rel=>exact⟨k+1,d.o,by go_num,by rw[lG z k U]⟩
  case measure=>simp[intOf];omega
theorem fA(a:Option Addr)(n cap:Nat)(z:Nat->Int)(w:Z)(o:n<=288)(h:IntsIn w a n z)(g:∀j,j<n->0<=z j/\z j<=12):Calls prog 259 #[.slice a n cap] w λe w'=>e=.a (.a (if 4096<sumTo z n then 2 else 0))/\w'=w:=by
 have d:Hid (∀j,j<n->0<=z j/\z j<=12):=g;clear g;go_enter func259,ntmps259;go_wp2;go_loop [3,11] (λs i=>∃k:Nat,k<=n/\i=.a k/\s=.a (sumTo z k)) (λ_ i=>n-(intOf i).toNat)
 case atStart=>exact⟨0,AW _,I,I⟩
 case round=>
  obtain⟨k,_,rfl,rfl⟩:=hrel;by_cases c:k<n
  .obtain⟨b,_,rfl,f⟩:=h U;have q:=f k c;clear f h;have l:=d.o k c;have r:¬z k<0:=U;have t:¬12<z k:=U;by_cases p:0<z k
   .go_wp2;go_round
    case rel=>exact⟨k+1,by omega,by go_num,by rw[lE z k n o c (λj _=>d.o j U) l p]⟩
    case measure=>simp[intOf];omega
   go_wp2;go_round
   case rel=>exact⟨k+1,by omega,by go_num,by rw[lG z k U]⟩
   case measure=>simp[intOf];omega
  have m:k=n:=U;subst m;by_cases u:4096<sumTo z k
  .go_wp2;go_ret;exact⟨I,I⟩
  go_wp2;go_ret;exact⟨I,I⟩
theorem TE:(prog.info? 284).map (λi=>(i.zero,i.size,i.bytes))=some (some (.agg #[.a 0,.a 0]),2,16):=EG
def IL(z:Nat->Int)(n d k j:Nat):Value:=
 if 1<=z (j/2)/\(z (j/2)<d\/(z (j/2)=d/\j/2<k))then(if j%2=0 then .a (num z n (j/2))else .a (z (j/2)))else .a 0
theorem XV{α:Type}{c d:Prop}[Decidable c][Decidable d](h:c↔d)(x y:α):(if c then x else y)=if d then x else y:=by
 by_cases a:c
 .rw[AD a,AD (h.1 a)]
 rw[AC a,AC (λb=>a (h.2 b))]
theorem Wo{z:Nat->Int}{n d k j:Nat}(h:1<=z (j/2)/\(z (j/2)<d\/(z (j/2)=d/\j/2<k))):IL z n d k j=if j%2=0 then .a (num z n (j/2))else .a (z (j/2)):=AD h
theorem Yi{z:Nat->Int}{n d k j:Nat}(h:¬(1<=z (j/2)/\(z (j/2)<d\/(z (j/2)=d/\j/2<k)))):IL z n d k j=.a 0:=AC h
theorem uC(z:Nat->Int)(n j:Nat):(if j%2=0 then Value.int .i64 0 else .a 0)=IL z n 1 0 j:=by rw[Yi U];split<;>rfl
theorem uc(z:Nat->Int)(n d j:Nat)(a:j<n*2):IL z n d n j=IL z n (d+1) 0 j:=by unfold IL;exact XV U _ _
theorem tL(z:Nat->Int)(n d k j:Nat)(h:z k≠(d:Int)):IL z n d k j=IL z n d (k+1) j:=by
 unfold IL;by_cases e:j/2=k
 .rw[e];exact XV U _ _
 exact XV U _ _
theorem zU(z:Nat->Int)(n d k j:Nat)(h:z k=((d+1:Nat):Int)):(if j=k*2+1 then Value.int .i64 ((d+1:Nat):Int)else if j=k*2 then .a ((2*Kt z n d+cnt z (d+1) k:Nat):Int)else IL z n (d+1) k j)=IL z n (d+1) (k+1) j:=by
 by_cases e:j=k*2+1
 .rw[AD e];have e1:j/2=k:=U;rw[Wo (by rw[e1];omega),e1,AC U,h]
 rw[AC e];by_cases e2:j=k*2
 .rw[AD e2];have e1:j/2=k:=U;rw[Wo (by rw[e1];omega),e1,AD U];unfold num;rw[h,Int.toNat_natCast,DE]
 rw[AC e2];have e1:j/2≠k:=U;unfold IL;exact XV U _ _
theorem oS{w:Z}{b:Nat}{t:TypeId}{n:Nat}{f:Nat->Value}(h:w.rowIs b t n f)(i:Nat)(u v:Value):((w.setCell (O b i) u).setCell (O b (i+1)) v).rowIs b t n (λj=>if j=i+1 then v else if j=i then u else f j):=(h.set i u).set (i+1) v
theorem xN(a:Option Addr)(n cap:Nat)(z:Nat->Int)(w:Z)(L:n<=288)(s:IntsIn w a n z)(y:Fits z n):Calls prog 248 #[.slice a n cap] w λe w'=>e=.a (.b w.heap.size n n)/\Below w.heap.size w w'/\w'.rowIs w.heap.size 284 (n*2) (IL z n 13 0):=by
 have H:=ux (P:=prog) 275 284 (.agg #[.a 0,.a 0]) (.a 0) (.a 0) 16 underlying275 TE I .i64 .i64 n U U;go_enter func248,ntmps248;go_wp2;go_loopw [4,5] (λx i wr=>∃d:Nat,d<=12/\i=.a (d+1:Nat)/\x=.a (Kt z n d)/\w.b wr/\wr.rowIs w.s 284 (n*2) (IL z n (d+1) 0)) (λ_ i _=>13-(intOf i).toNat)
 case atStart=>refine⟨0,by omega,I,I,Iy,?_⟩;exact(nG w (.a 0) (.a 0) n 284).congr λj _=>uC z n j
 case round=>
  obtain⟨d,r,rfl,rfl,f,c⟩:=hrel;by_cases C:d<12
  .have B:Kt z n d<=4096:=AG (kU z n d y r) (BK U r);go_wp2;go_loopw [4,19] (λx i wr=>∃k:Nat,k<=n/\i=.a k/\x=.a (2*Kt z n d+cnt z (d+1) k:Nat)/\w.b wr/\wr.rowIs w.s 284 (n*2) (IL z n (d+1) k)) (λ_ i _=>n-(intOf i).toNat)
   case atStart=>exact⟨0,by omega,I,by simp[cnt,Int.mul_comm],f,c⟩
   clear f c;obtain⟨k,_,rfl,rfl,f,c⟩:=hrel;by_cases p:k<n
   .obtain⟨b,l,rfl,m⟩:=s U;have F:wr.cell? {block:=b,off:=l+k}=some (Value.int IntKind.i64 (z k)):=by rw[f.cell (p:=⟨b,l+k,none⟩) (Am w _ (m k p))];exact m k p
    have G:cnt z (d+1) k<=k:=XC _ _ _;clear m s;by_cases g:z k=((d+1:Nat):Int)
    .have D:=c.frozen (k*2);have K:=c.frozen (k*2+1);obtain⟨_,_⟩:∃v,wr.g w.s (k*2) v:=⟨_,c.cell U⟩;obtain⟨_,_⟩:∃v,wr.g w.s (k*2+1) v:=⟨_,c.cell U⟩;have u:(z k==(d:Int)+1)=true:=by rw[g];simp
     have h:Hid (z k=((d+1:Nat):Int)):=g;clear g;go_wp2;go_roundw
     case rel=>
      refine⟨k+1,by omega,by go_num,?_,(f.c).c,?_⟩
      .have:cnt z (d+1) (k+1)=cnt z (d+1) k+1:=by simp only[cnt];rw[AD h.o]
       rw[this];go_num
      exact(oS c (k*2) _ _).congr λj _=>zU z n d k j h.o
     case measure=>simp[intOf];omega
    have u:(z k==(d:Int)+1)=false:=EU g;have h:Hid (z k≠((d+1:Nat):Int)):=g;clear g;go_wp2;go_roundw
    case rel=>
     refine⟨k+1,by omega,by go_num,?_,f,?_⟩
     .have:cnt z (d+1) (k+1)=cnt z (d+1) k:=by simp only[cnt];rw[AC h.o,Bq]
      rw[this]
     exact c.congr λj _=>tL z n (d+1) k j h.o
    case measure=>simp[intOf];omega
   have q:k=n:=U;have o:Hid (k=n):=q;clear q;go_wp2;go_roundw
   case rel=>refine⟨d+1,by omega,by go_num,by rw[Kt,o.o],f,?_⟩;rw[o.o]at c;exact c.congr λj A=>uc z n (d+1) j A
   case measure=>simp[intOf];omega
  have t:d=12:=U;subst t;go_wp2;go_ret;exact⟨I,f,c⟩
def TO(z:Nat->Int)(n s:Nat):Nat:=if 1<=z s then num z n s else 0
theorem wy(z:Nat->Int)(n s:Nat)(a:Fits z n)(b:s<n):IL z n 13 0 (s*2)=.a (TO z n s)/\IL z n 13 0 (s*2+1)=.a ((z s).toNat:Nat):=by
 have:=a.UJ s b;have e0:s*2/2=s:=U;have e1:(s*2+1)/2=s:=U;unfold TO;by_cases h:1<=z s
 .rw[Wo (by rw[e0];omega),Wo (by rw[e1];omega),e0,e1,AD (show s*2%2=0 by omega),AC (show ¬(s*2+1)%2=0 by omega),AD h,CH U];exact⟨I,I⟩
 rw[Yi (by rw[e0];omega),Yi (by rw[e1];omega),AC h,show(z s).toNat=0 by omega];exact⟨I,I⟩
theorem Kq:(prog.info? 9).map (λi=>(i.zero,i.size,i.bytes))=some (some (.string ⟨#[]⟩),1,16):=EG
end Y
namespace Y
open Go.RowKit
variable {w w':Z} {g B n:Nat} {mk:Value} {a:Option Addr}
theorem NH:(prog.info? 40).map (λi=>(i.zero,i.size,i.bytes))=some (some (.g),1,24):=EG
def My(w:Z)(a:Option Addr)(n:Nat)(f:Nat->ByteArray):Prop:=
 0<n->∃b off,a=some (O b off)/\∀k,k<n->w.cell? (O b (off+k))=some (.string (f k))
def EZ(w:Z)(B:Nat)(mk:Value)(a:Option Addr)(n:Nat):Prop:=
 0<n->∃g cur,a=FH g/\B<=g/\w.heap[g]?=some (.cells cur 9 (0,0))/\∀j,j<n->cur[j]?=some mk
theorem lt_of_heap{o:Obj}(h:w.heap[g]?=some o):g<w.heap.size:=(BC.1 h).1
theorem EZ.f(h:EZ w B mk a n)(d:Below w.heap.size w w'):EZ w' B mk a n:=by intro i;obtain⟨g,c,rfl,f,b,e⟩:=h i;exact⟨g,c,I,f,(d.u g (lt_of_heap b)).i b,e⟩
theorem EZ.C{row:Option Nat}(h:EZ w B mk a n)(i:w.grownBy w' row)(c:∀g cur,row=some g->w.heap[g]? ≠ some (.cells cur 9 (0,0))):EZ w' B mk a n:=by intro j;obtain⟨g,cur,rfl,d,b,f⟩:=h j;refine⟨g,cur,I,d,(i.u g (lt_of_heap b) (λe=>c g cur e.A b)).i b,f⟩
theorem EZ.cell(h:EZ w B mk a n)(f:0<n):∃g,a=FH g/\∀j,j<n->w.cell? (O g j)=some mk:=by obtain⟨g,b,rfl,_,d,c⟩:=h f;exact⟨g,I,λj e=>by rw[AU w g j b 9 (0,0) d,c j e]⟩
theorem PO{base:Nat}{e:TypeId}{a:Nat}{v:Value}{c:List Value}(h:w.ownsRow base e a v n c)(b:v.ownBlock=some g):∃cur cap,v=.b g n cap/\base<=g/\w.heap[g]?=some (.cells cur e (0,0))/\cur.toList.take (n*a)=c:=by
 rcases h.2 with⟨rfl,_⟩|⟨_,cap,cur,rfl,f,i,_,_,_,d⟩
 .simp[Value.ownBlock]at b
 simp[Value.ownBlock]at b;subst b;exact⟨cur,cap,I,f,i,d⟩
def Marks(w:Z)(B:Nat)(v:Value)(n:Nat)(mk:Value):Prop:=
 ∃(z0O co:Nat) (A:Nat->Option Addr) (C:Nat->Nat),v=.b z0O 4 co/\B<=z0O/\∀p,p<4->w.cell? (O z0O p)=some (.slice (A p) (n+p) (C p))/\EZ w B mk (A p) (n+p)
end Y
namespace Y
open Go.RowKit Pk
theorem zI(z:Nat->Int)(n:Nat):(∀j,j<n->0<=z j/\z j<=12)\/∃q,q<n/\¬(0<=z q/\z q<=12)/\∀j,j<q->0<=z j/\z j<=12:=by
 induction n with
 |zero=>exact .w λj a=>absurd a U
 |succ n f=>
  rcases f with h|⟨q,_,c,d⟩
  .by_cases b:0<=z n/\z n<=12
   .refine .w λj a=>?_;by_cases e:j=n
    .subst e;exact b
    exact h j U
   exact .s ⟨n,by omega,b,h⟩
  exact .s ⟨q,by omega,c,d⟩
end Y
namespace Y.Pk
def Oo(f:Nat->Nat):Nat->Nat
 | 0=>0
 | d+1=>2*Oo f d+f d
def bt(s:Du)(i:Nat):Nat:=(s.getD (i/8) 0).toNat/2^(7-i%8)%2
def val(s:Du)(p d:Nat):Nat:=Oo (λi=>bt s (p+i)) d
theorem WA(s:Du)(i:Nat):bt s i<2:=BU _ U
theorem zC(f:Nat->Nat)(a:∀i,f i<2)(d:Nat):Oo f d<2^d:=by
 induction d with
 |zero=>simp[Oo]
 |succ d b=>have:=a d;simp only[Oo,CF];omega
theorem Tq(s:Du)(p d:Nat):val s p d<2^d:=zC _ (λi=>WA s _) d
theorem qY(s:Du)(p:Nat):val s p 0=0:=rfl
theorem Ov(s:Du)(p d:Nat):val s p (d+1)=2*val s p d+bt s (p+d):=rfl
theorem m7(s:Du)(p:Nat):val s p 1=bt s p:=by simp[val,Oo]
theorem jf(s:Du)(p d e:Nat):val s p (d+e)/2^e=val s p d:=by
 induction e with
 |zero=>simp
 |succ e a=>rw[<-DK,Ov,CF,BQ (2^e) 2,<-DD];have:=WA s (p+(d+e));rw[show(2*val s p (d+e)+bt s (p+(d+e)))/2=val s p (d+e) by omega,a]
def upd(z:Nat->Int)(p:Nat)(x:Int):Nat->Int:=λj=>if j=p then x else z j
def FX(s:Du):Nat->Nat->Nat->(Nat->Int)->Option ((Nat->Int)×Nat)
 | 0,p,pos,z=>if p=288 then some (z,pos)else none
 | f+1,p,pos,z=>
   if p=288 then some (z,pos)
   else if 8*s.length<pos+4 then none
   else if val s pos 4≠0 then FX s f (p+1) (pos+4) (upd z p (val s pos 4))
   else if 8*s.length<pos+9 then none
   else if 288<p+1+val s (pos+4) 5 then none
   else FX s f (p+1+val s (pos+4) 5) (pos+9) z
theorem jC(s:Du)(f pos:Nat)(z:Nat->Int):FX s f 288 pos z=some (z,pos):=by cases f<;>simp[FX]
theorem oy(s:Du)(f p pos:Nat)(z:Nat->Int)(b:p<288)(a:288<=p+f)(h:8*s.length<pos+4):FX s f p pos z=none:=by
 cases f with
 |zero=>omega
 |succ f=>rw[FX,AC U,AD h]
theorem jh(s:Du)(f p pos:Nat)(z:Nat->Int)(b:p<288)(h:¬8*s.length<pos+4)(a:val s pos 4≠0):FX s (f+1) p pos z=FX s f (p+1) (pos+4) (upd z p (val s pos 4)):=by rw[FX,AC U,AC h,AD a]
theorem rk(s:Du)(f p pos:Nat)(z:Nat->Int)(b:p<288)(h:¬8*s.length<pos+4)(c:val s pos 4=0)(a:8*s.length<pos+9):FX s (f+1) p pos z=none:=by rw[FX,AC U,AC h,AC U,AD a]
theorem yJ(s:Du)(f p pos:Nat)(z:Nat->Int)(c:p<288)(h:¬8*s.length<pos+4)(d:val s pos 4=0)(a:¬8*s.length<pos+9)(b:288<p+1+val s (pos+4) 5):FX s (f+1) p pos z=none:=by rw[FX,AC U,AC h,AC U,AC a,AD b]
theorem jN(s:Du)(f p pos:Nat)(z:Nat->Int)(c:p<288)(h:¬8*s.length<pos+4)(d:val s pos 4=0)(a:¬8*s.length<pos+9)(b:¬288<p+1+val s (pos+4) 5):FX s (f+1) p pos z=FX s f (p+1+val s (pos+4) 5) (pos+9) z:=by rw[FX,AC U,AC h,AC U,AC a,AC b]
def hit(s:Du)(z:Nat->Int)(pos i:Nat):Bool:=
 decide (1<=z i)&&(decide (pos+(z i).toNat<=8*s.length)&&decide (num z 288 i=val s pos (z i).toNat))
theorem Rz(s:Du)(z:Nat->Int)(pos i:Nat):hit s z pos i=true↔1<=z i/\pos+(z i).toNat<=8*s.length/\num z 288 i=val s pos (z i).toNat:=by simp[hit,AV]
def Jn(s:Du)(z:Nat->Int)(pos:Nat):Nat->Option Nat
 | 0=>none
 | n+1=>match Jn s z pos n with
   | some i=>some i
   | none=>if hit s z pos n then some n else none
theorem kQ(s:Du)(z:Nat->Int)(pos n:Nat)(h:∀i,i<n->hit s z pos i=false):Jn s z pos n=none:=by
 induction n with
 |zero=>rfl
 |succ n a=>rw[Jn,a (λi _=>h i U)];simp[h n U]
theorem pN(s:Du)(z:Nat->Int)(pos n i:Nat)(c:i<n)(a:hit s z pos i=true)(h:∀j,j<i->hit s z pos j=false):Jn s z pos n=some i:=by
 induction n with
 |zero=>omega
 |succ n b=>
  by_cases e:i=n
  .subst e;rw[Jn,kQ s z pos i h];simp[a]
  rw[Jn,b U]
theorem xx(s:Du)(z:Nat->Int)(pos i j:Nat)(d:i<288)(f:j<288)(b:hit s z pos i=true)(c:hit s z pos j=true):i=j:=by
 rw[Rz]at b c;by_cases e:i=j
 .exact e
 exfalso;rcases Int.le_total (z i) (z j)with a|a
 .refine eG z 288 i j d f e b.1 a ?_;rw[c.2.2,b.2.2];have:=jf s pos (z i).toNat ((z j).toNat-(z i).toNat);rw[show(z i).toNat+((z j).toNat-(z i).toNat)=(z j).toNat by omega]at this;exact this.A
 refine eG z 288 j i f d (λh=>e h.A) c.1 a ?_;rw[c.2.2,b.2.2];have:=jf s pos (z j).toNat ((z i).toNat-(z j).toNat);rw[show(z j).toNat+((z i).toNat-(z j).toNat)=(z i).toNat by omega]at this;exact this.A
theorem U9(s:Du)(z:Nat->Int)(pos i:Nat)(b:i<288)(a:hit s z pos i=true):Jn s z pos 288=some i:=by
 refine pN s z pos 288 i b a λj _=>?_;cases c:hit s z pos j with
 |false=>rfl
 |true=>exact Dz (xx s z pos i j b U a c)
def OA(out:Du)(back:Nat):Nat->Du
 | 0=>out
 | k+1=>OA out back k++[(OA out back k).getD ((OA out back k).length-back) 0]
theorem YK(a:Du)(back k:Nat):(OA a back k).length=a.length+k:=by
 induction k with
 |zero=>rfl
 |succ k b=>simp[OA,b];omega
def FR(s:Du)(z:Nat->Int)(N size:Nat):Nat->Du->Nat->Option (Du×Nat)
 | 0,out,pos=>if size<=out.length then some (out,pos)else none
 | f+1,out,pos=>
   if size<=out.length then some (out,pos)
   else match Jn s z pos N with
    | none=>none
    | some i=>
      if i<256 then FR s z N size f (out++[UInt8.ofNat i]) (pos+(z i).toNat)
      else if 8*s.length<pos+(z i).toNat+12 then none
      else if out.length<val s (pos+(z i).toNat) 12+1\/size<out.length+(i-253)then none
      else FR s z N size f (OA out (val s (pos+(z i).toNat) 12+1) (i-253)) (pos+(z i).toNat+12)
theorem gU(s:Du)(z:Nat->Int)(N a f:Nat)(b:Du)(pos:Nat)(h:a<=b.length):FR s z N a f b pos=some (b,pos):=by cases f<;>simp[FR,h]
theorem sf(s:Du)(z:Nat->Int)(N a f:Nat)(b:Du)(pos:Nat)(h:b.length<a)(c:Jn s z pos N=none):FR s z N a f b pos=none:=by
 cases f with
 |zero=>rw[FR,AC U]
 |succ f=>rw[FR,AC U,c]
theorem kR(s:Du)(z:Nat->Int)(N a f:Nat)(b:Du)(pos i:Nat)(h:b.length<a)(d:Jn s z pos N=some i)(c:i<256):FR s z N a (f+1) b pos=FR s z N a f (b++[UInt8.ofNat i]) (pos+(z i).toNat):=by rw[FR,AC U,d];simp[c]
theorem yA(s:Du)(z:Nat->Int)(N a f:Nat)(b:Du)(pos i:Nat)(h:b.length<a)(e:Jn s z pos N=some i)(d:¬i<256)(c:8*s.length<pos+(z i).toNat+12):FR s z N a (f+1) b pos=none:=by rw[FR,AC U,e];simp[d,c]
theorem vM(s:Du)(z:Nat->Int)(N a f:Nat)(b:Du)(pos i:Nat)(h:b.length<a)(g:Jn s z pos N=some i)(e:¬i<256)(c:¬8*s.length<pos+(z i).toNat+12) (d:b.length<val s (pos+(z i).toNat) 12+1\/a<b.length+(i-253)):FR s z N a (f+1) b pos=none:=by rw[FR,AC U,g];simp only[AC e,AC c,AD d]
theorem kT(s:Du)(z:Nat->Int)(N a f:Nat)(b:Du)(pos i:Nat)(h:b.length<a)(g:Jn s z pos N=some i)(e:¬i<256)(c:¬8*s.length<pos+(z i).toNat+12) (d:¬(b.length<val s (pos+(z i).toNat) 12+1\/a<b.length+(i-253))):FR s z N a (f+1) b pos=FR s z N a f (OA b (val s (pos+(z i).toNat) 12+1) (i-253)) (pos+(z i).toNat+12):=by rw[FR,AC U,g];simp only[AC e,AC c,AC d]
def Pd(z:Nat->Int):Nat->Bool
 | 0=>true
 | n+1=>Pd z n&&decide (0<=z n/\z n<=12)
theorem uz(z:Nat->Int)(n:Nat):Pd z n=true↔∀k,k<n->0<=z k/\z k<=12:=by
 induction n with
 |zero=>simp[Pd]
 |succ n d=>
  rw[Pd,AV,d];constructor
  .intro⟨a,b⟩ k c;by_cases e:k=n
   .subst e;simpa using b
   exact a k U
  intro h;exact⟨λk c=>h k U,by simpa using h n U⟩
def LN(z:Nat->Int)(n:Nat):Bool:=Pd z n&&decide (sumTo z n<=4096)
theorem Z4(z:Nat->Int)(n:Nat):LN z n=true↔Fits z n:=by
 rw[LN,AV,uz];constructor
 .intro⟨a,b⟩;exact⟨a,by simpa using b⟩
 intro h;exact⟨h.UJ,by simpa using h.sum⟩
def Iu(s:Du)(N size:Nat):Option Du:=
 match FX s N 0 0 (λ_=>0)with
 | none=>none
 | some (z,pos)=>
   if LN z N=false then none
   else match FR s z N size size [] pos with
    | none=>none
    | some (out,p)=>if 8*s.length-p<8/\val s p (8*s.length-p)=0 then some out else none
theorem uA(s:Du)(N a:Nat)(h:FX s N 0 0 (λ_=>0)=none):Iu s N a=none:=by unfold Iu;rw[h]
theorem tC(s:Du)(N a:Nat)(z:Nat->Int)(pos:Nat)(h:FX s N 0 0 (λ_=>0)=some (z,pos))(b:LN z N=false):Iu s N a=none:=by unfold Iu;rw[h];simp[b]
theorem tW(s:Du)(N a:Nat)(z:Nat->Int)(pos:Nat)(h:FX s N 0 0 (λ_=>0)=some (z,pos))(c:LN z N=true)(b:FR s z N a a [] pos=none):Iu s N a=none:=by unfold Iu;rw[h];simp[c,b]
theorem gS(s:Du)(N a:Nat)(z:Nat->Int)(pos p:Nat)(b:Du)(h:FX s N 0 0 (λ_=>0)=some (z,pos))(d:LN z N=true)(c:FR s z N a a [] pos=some (b,p)):Iu s N a=if 8*s.length-p<8/\val s p (8*s.length-p)=0 then some b else none:=by unfold Iu;rw[h];simp[d,c]
def Jd(N:Nat)(t:Du):Option Du:=
 match t with
 | []=>none
 | c::r=>
   if c=0 then(if r.length<=4000 then some r else none)
   else if c=1 then
    (if r.length<2 then none
     else if 256*(r.getD 0 0).toNat+(r.getD 1 0).toNat<1\/4000<256*(r.getD 0 0).toNat+(r.getD 1 0).toNat then none
     else Iu (r.drop 2) N (256*(r.getD 0 0).toNat+(r.getD 1 0).toNat))
   else none
theorem SE(N:Nat)(c:UInt8)(r:Du):Jd N (c::r) = if c=0 then(if r.length<=4000 then some r else none) else if c=1 then (if r.length<2 then none else if 256*(r.getD 0 0).toNat+(r.getD 1 0).toNat<1\/4000<256*(r.getD 0 0).toNat+(r.getD 1 0).toNat then none else Iu (r.drop 2) N (256*(r.getD 0 0).toNat+(r.getD 1 0).toNat)) else none:=rfl
theorem sP(N:Nat)(c:UInt8)(r:Du)(a:c≠0)(b:c≠1):Jd N (c::r)=none:=by rw[SE,AC a,AC b]
theorem wQ(N:Nat)(r:Du)(h:4000<r.length):Jd N (0::r)=none:=by rw[SE,AD I,AC U]
theorem je(N:Nat)(r:Du)(h:r.length<=4000):Jd N (0::r)=some r:=by rw[SE,AD I,AD h]
theorem yG(N:Nat)(r:Du)(h:r.length<2):Jd N (1::r)=none:=by rw[SE,AC EB,AD I,AD h]
theorem oJ(N:Nat)(r:Du)(h:¬r.length<2)(a:256*(r.getD 0 0).toNat+(r.getD 1 0).toNat<1\/4000<256*(r.getD 0 0).toNat+(r.getD 1 0).toNat):Jd N (1::r)=none:=by rw[SE,AC EB,AD I,AC h,AD a]
theorem kV(N:Nat)(r:Du)(h:¬r.length<2)(a:¬(256*(r.getD 0 0).toNat+(r.getD 1 0).toNat<1\/4000<256*(r.getD 0 0).toNat+(r.getD 1 0).toNat)):Jd N (1::r)=Iu (r.drop 2) N (256*(r.getD 0 0).toNat+(r.getD 1 0).toNat):=by rw[SE,AC EB,AD I,AC h,AC a]
end Y.Pk
namespace Y
open Go.RowKit Pk
theorem TC(l:Du):Lib.strCells (X l)=l.map λb=>Value.int .u8 b.toNat:=by unfold Lib.strCells;rfl
theorem strOfNums_bytes(l:Du):strOfNums (l.map λb=>(b.toNat:Int))=X l:=by
 unfold strOfNums X;rw[Cj];congr 2;conv=>rhs;rw[<-List.map_id l]
 apply BO;intro b _;simp
theorem JR{w:Z}{base:Nat}{v:Value}{n:Nat}{l:Du}(h:w.ownsRow base 5 1 v n (Lib.strCells (X l))):(convert 111 9 v).run prog w=.ok (.string (X l)) w:=by
 have d:l.length=n:=by have:=h.1;rw[TC]at this;simpa using this
 rcases h.2 with⟨rfl,rfl⟩|⟨g,a,_,rfl,_,_,_,_,_,_⟩
 .obtain rfl:l=[]:=Bu d;exact run_convert_bytes_nil (P:=prog) w 111 5 underlying111 underlying5 0 0 9 underlying9
 have c:=run_convert_bytes_arg (P:=prog) w 111 5 underlying111 underlying5 g 0 n a (l.map λb=>(b.toNat:Int)) (EU d) (λi _=>by rw[Ak,h.cellAt i U,TC];have:i<l.length:=U;simp[this]) 9 underlying9
 rw[strOfNums_bytes]at c;exact c
theorem O0(s:Du)(k:Nat)(h:k<(X s).size):(X s)[k]'h=s.getD k 0:=by
 have a:k<s.length:=by rw[EF]at h;exact h
 show s.toArray[k]=_;simp[List.getD,a]
theorem Ka(l:Du)(a b:Nat):(X l).extract a b=X ((l.drop a).take (b-a)):=by rw[Lib.extract_eq];rfl
end Y
namespace Y
open Go.RowKit Pk
structure M where
 a:Nat
 d:Nat
 c:Nat->Nat->Du
 g:Nat->Nat
 e:Nat->Bool
 b:Int
 cut:Int
 fail:Int
 part:Int
structure WF (m:M):Prop where
 d:4<=m.a
 a:m.a<=32
 e:4<=m.d
 b:m.d<=16
 g:∀i,i<m.a->m.g i<=m.d
 c:∀i p,i<m.a->p<m.d->(m.c i p).length<=64
 MH:-1<=m.b
 Ln:m.b<=1073741825
 n:-1<=m.fail
 o:m.fail<=1073741824
 h:0<=m.cut
 f:m.cut<=63
 j:0<=m.part
 k:m.part<=63
def Rw(w:Z)(b:Nat)(t:TypeId)(n:Nat)(f:Nat->Value):Prop:=∃cur,w.heap[b]?=some (.cells cur t (0,0))/\∀i,i<n->cur[i]?=some (f i)
namespace Rw
variable {w w':Z} {b:Nat} {t:TypeId} {n:Nat} {f g:Nat->Value}
theorem cell(h:Rw w b t n f){i:Nat}(e:i<n):w.cell? (O b i)=some (f i):=by obtain⟨c,a,d⟩:=h;rw[AU w b i c t (0,0) a,d i e]
theorem frozen(h:Rw w b t n f)(i:Nat):w.frozen? (O b i)=false:=by obtain⟨c,a,_⟩:=h;exact CE w b i c t a
theorem lt(h:Rw w b t n f):b<w.heap.size:=by obtain⟨c,a,_⟩:=h;exact lt_of_heap a
theorem congr(h:Rw w b t n f)(e:∀i,i<n->f i=g i):Rw w b t n g:=by obtain⟨c,d,j⟩:=h;exact⟨c,d,λi a=>by rw[j i a,e i a]⟩
theorem y(h:Rw w b t n f)(e:w'.heap[b]?=w.heap[b]?):Rw w' b t n f:=by obtain⟨c,a,d⟩:=h;exact⟨c,e.i a,d⟩
theorem set(h:Rw w b t n f)(i:Nat)(v:Value):Rw (w.setCell (O b i) v) b t n (λj=>if j=i then v else f j):=by
 obtain⟨c,g,a⟩:=h;refine⟨_,AJ w b i c t v g,λj d=>?_⟩;rw[Array.getElem?_setIfInBounds];have k:j<c.size:=by
  rcases CS j c.size with h|h
  .exact h
  have:=a j d;rw[Array.getElem?_eq_none h]at this;cases this
 by_cases e:i=j
 .subst e;rw[AD I,AD k];simp
 rw[AC e,a j d];show some (f j)=some (if j=i then v else f j);rw[AC (λh=>e h.A)]
end Rw
theorem N3{w:Z}{b:Nat}{t:TypeId}{n:Nat}{f:Nat->Value}(h:w.rowIs b t n f):Rw w b t n f:=by obtain⟨c,a,_,d⟩:=h;exact⟨c,a,d⟩
theorem Wp{w:Z}{base:Nat}{e:TypeId}{v:Value}{n:Nat}{f:Nat->Value}(h:w.ownsRow base e 1 v n ((List.range n).map f))(o:0<n):∃g c,v=.b g n c/\base<=g/\Rw w g e n f:=by
 rcases h.2 with⟨_,_⟩|⟨g,a,b,rfl,j,k,_,_,_,d⟩
 .omega
 refine⟨g,a,I,j,b,k,λi m=>?_⟩;have:=AX (λl:List Value=>l[i]?) d;simpa[m]using this
structure Ed (lo hi:Nat) (w w':Z):Prop where
 os:w'.os=w.os
 tape:w'.tape=w.tape
 output:w'.output=w.output
 size:w.heap.size<=w'.heap.size
 u:∀k,k<w.heap.size->¬(lo<=k/\k<hi)->w'.heap[k]?=w.heap[k]?
namespace Ed
variable {lo hi:Nat} {a b c:Z}
theorem refl(b a:Nat)(w:Z):Ed b a w w:=⟨I,I,I,AB _,λ_ _ _=>rfl⟩
theorem i(h:Ed lo hi a b)(k:Ed lo hi b c):Ed lo hi a c:=
 ⟨k.os.i h.os,k.tape.i h.tape,k.output.i h.output,AG h.size k.size,λi d e=>(k.u i (AQ d h.size) e).i (h.u i d e)⟩
theorem of_below(h:Below a.heap.size a b):Ed lo hi a b:=⟨h.os,h.tape,h.output,h.size,λk c _=>h.u k c⟩
theorem drewN(h:Ed lo hi a b)(q:Nat):Ed lo hi a (b.drewN q):=h.i ⟨I,I,I,AB _,λ_ _ _=>rfl⟩
theorem drew(h:Ed lo hi a b):Ed lo hi a b.drew:=h.i ⟨I,I,I,AB _,λ_ _ _=>rfl⟩
theorem set(h:Ed lo hi a b){g:Nat}(c:lo<=g/\g<hi)(o:Nat)(v:Value):Ed lo hi a (b.setCell (O g o) v):=
 h.i ⟨I,I,I,by simp,λk _ d=>AH b ⟨g,o,none⟩ v k (λe=>d (by rw[e];exact c))⟩
theorem f(h:Ed lo hi a b){B:Nat}(c:B<=lo)(d:B<=a.heap.size):Below B a b:=
 ⟨h.os,h.tape,h.output,h.size,λk _=>h.u k U U⟩
end Ed
structure Loc where
 db:Nat
 c:Nat
 a:Nat
 rw:Nat->Nat
 cd:Nat
 b:Nat
 d:Nat
 cr:Nat->Nat
structure EM (w:Z) (lo hi cb:Nat) (T:TypeId) (L:Loc) (m:M) (enc:Du->Du) (g4 g5 g6 g7:Int):Prop where
 g:lo<=cb/\cb<hi
 r:lo<=L.db/\L.db<hi
 h:lo<=L.c/\L.c<hi
 o:lo<=L.a/\L.a<hi
 k:∀i,i<m.a->lo<=L.rw i/\L.rw i<hi
 inj:∀i j,i<m.a->j<m.a->L.rw i=L.rw j->i=j
 n:T≠40/\T≠3/\T≠4/\T≠9
 st:w.heap[cb]?=some (.cells #[.a m.d,.b L.db m.a L.cd,.b L.c m.a L.b,.b L.a m.a L.d,.a g4,.a g5,.a g6,.a g7] T (0,0))
 data:Rw w L.db 40 m.a (λi=>.slice (some ⟨L.rw i,0,none⟩) m.d (L.cr i))
 next:Rw w L.c 3 m.a (λi=>.a (m.g i:Nat))
 b:Rw w L.a 4 m.a (λi=>.bool (m.e i))
 e:∀i,i<m.a->Rw w (L.rw i) 9 m.d (λp=>.string (X (enc (m.c i p))))
theorem NZ{w:Z}{i j:Nat}{c c':Array Value}{t d:TypeId}{f g:Nat×Nat}(h:w.heap[i]?=some (.cells c t f))(a:w.heap[j]?=some (.cells c' d g))(b:t≠d):i≠j:=by intro e;subst e;rw[h]at a;simp at a;exact b a.2.1
theorem Rw.other{w:Z}{b:Nat}{t:TypeId}{n:Nat}{f:Nat->Value}(h:Rw w b t n f){g o:Nat}(a:b≠g)(v:Value):Rw (w.setCell (O g o) v) b t n f:=
 h.y (AH w ⟨g,o,none⟩ v b a)
namespace EM
variable {w w':Z} {lo hi cb:Nat} {T:TypeId} {L:Loc} {m:M} {enc:Du->Du} {g4 g5 g6 g7:Int}
theorem a(h:EM w lo hi cb T L m enc g4 g5 g6 g7)(e:∀k,lo<=k->k<hi->w'.heap[k]?=w.heap[k]?):EM w' lo hi cb T L m enc g4 g5 g6 g7:=
 ⟨h.g,h.r,h.h,h.o,h.k,h.inj,h.n,(e cb h.g.1 h.g.2).i h.st,h.data.y (e _ h.r.1 h.r.2),h.next.y (e _ h.h.1 h.h.2),h.b.y (e _ h.o.1 h.o.2),
  λi b=>(h.e i b).y (e _ (h.k i b).1 (h.k i b).2)⟩
theorem f(h:EM w lo hi cb T L m enc g4 g5 g6 g7){B:Nat}(b:hi<=B)(a:Below B w w'):EM w' lo hi cb T L m enc g4 g5 g6 g7:=
 h.a λk _ _=>a.u k U
theorem drewN(h:EM w lo hi cb T L m enc g4 g5 g6 g7)(q:Nat):EM (w.drewN q) lo hi cb T L m enc g4 g5 g6 g7:=h.a λ_ _ _=>rfl
theorem drew(h:EM w lo hi cb T L m enc g4 g5 g6 g7):EM w.drew lo hi cb T L m enc g4 g5 g6 g7:=h.a λ_ _ _=>rfl
theorem c0(h:EM w lo hi cb T L m enc g4 g5 g6 g7):w.cell? (O cb 0)=some (.a m.d):=by rw[AU w cb 0 _ T (0,0) h.st];rfl
theorem c1(h:EM w lo hi cb T L m enc g4 g5 g6 g7):w.cell? (O cb 1)=some (.b L.db m.a L.cd):=by rw[AU w cb 1 _ T (0,0) h.st];rfl
theorem c2(h:EM w lo hi cb T L m enc g4 g5 g6 g7):w.cell? (O cb 2)=some (.b L.c m.a L.b):=by rw[AU w cb 2 _ T (0,0) h.st];rfl
theorem c3(h:EM w lo hi cb T L m enc g4 g5 g6 g7):w.cell? (O cb 3)=some (.b L.a m.a L.d):=by rw[AU w cb 3 _ T (0,0) h.st];rfl
theorem c4(h:EM w lo hi cb T L m enc g4 g5 g6 g7):w.cell? (O cb 4)=some (.a g4):=by rw[AU w cb 4 _ T (0,0) h.st];rfl
theorem j(h:EM w lo hi cb T L m enc g4 g5 g6 g7):w.cell? (O cb 5)=some (.a g5):=by rw[AU w cb 5 _ T (0,0) h.st];rfl
theorem t(h:EM w lo hi cb T L m enc g4 g5 g6 g7):w.cell? (O cb 6)=some (.a g6):=by rw[AU w cb 6 _ T (0,0) h.st];rfl
theorem c7(h:EM w lo hi cb T L m enc g4 g5 g6 g7):w.cell? (O cb 7)=some (.a g7):=by rw[AU w cb 7 _ T (0,0) h.st];rfl
theorem d(h:EM w lo hi cb T L m enc g4 g5 g6 g7)(k:Nat):w.frozen? (O cb k)=false:=CE w cb k _ T h.st
theorem field(h:EM w lo hi cb T L m enc g4 g5 g6 g7)(k:Nat)(v:Int)(g a b c:Int) (p:(#[.a m.d,.b L.db m.a L.cd,.b L.c m.a L.b,.b L.a m.a L.d,.a g4,.a g5,.a g6,.a g7]:Array Value).setIfInBounds k (.a v)=#[.a m.d,.b L.db m.a L.cd,.b L.c m.a L.b,.b L.a m.a L.d,.a g,.a a,.a b,.a c]):EM (w.setCell (O cb k) (.a v)) lo hi cb T L m enc g a b c:=by have d:=AJ w cb k _ T (.a v) h.st;rw[p]at d;obtain⟨_,n,_⟩:=h.data;obtain⟨_,l,_⟩:=h.next;obtain⟨_,j,_⟩:=h.b;refine⟨h.g,h.r,h.h,h.o,h.k,h.inj,h.n,d,h.data.other (NZ n h.st (λe=>h.n.1 e.A)) _,h.next.other (NZ l h.st (λe=>h.n.2.1 e.A)) _,h.b.other (NZ j h.st (λe=>h.n.2.2.1 e.A)) _,λi f=>?_⟩;obtain⟨_,o,_⟩:=h.e i f;exact(h.e i f).other (NZ o h.st (λe=>h.n.2.2.2 e.A)) _
theorem q(h:EM w lo hi cb T L m enc g4 g5 g6 g7)(a:M)(e1:a.a=m.a)(e2:a.d=m.d)(e3:a.c=m.c)(e4:a.g=m.g)(e5:a.e=m.e):EM w lo hi cb T L a enc g4 g5 g6 g7:=by obtain⟨_,_,_,_,_,_,_,_,_⟩:=m;obtain⟨_,_,_,_,_,_,_,_,_⟩:=a;simp only at e1 e2 e3 e4 e5;subst e1 e2 e3 e4 e5;exact⟨h.g,h.r,h.h,h.o,h.k,h.inj,h.n,h.st,h.data,h.next,h.b,h.e⟩
theorem KE(h:EM w lo hi cb T L m enc g4 g5 g6 g7)(i p:Nat)(c:i<m.a)(r:p<m.d)(s:Du):EM (w.setCell ⟨L.rw i,p,none⟩ (.string (X (enc s)))) lo hi cb T L {m with c:=λa b=>if a=i/\b=p then s else m.c a b} enc g4 g5 g6 g7:=by
 obtain⟨_,d,_⟩:=h.e i c;obtain⟨_,l,_⟩:=h.data;obtain⟨_,k,_⟩:=h.next;obtain⟨_,g,_⟩:=h.b;refine⟨h.g,h.r,h.h,h.o,h.k,h.inj,h.n,(AH w _ _ cb (NZ h.st d h.n.2.2.2)).i h.st,h.data.other (NZ l d EB) _,h.next.other (NZ k d EB) _,h.b.other (NZ g d EB) _,λj f=>?_⟩;by_cases e:j=i
 .subst e;refine((h.e j c).set p _).congr λq o=>?_;show _=Value.string (X (enc (if j=j/\q=p then s else m.c j q)));by_cases e2:q=p
  .rw[AD e2,AD ⟨I,e2⟩]
  rw[AC e2,AC (λh=>e2 h.2)]
 refine((h.e j f).other (λn=>e (h.inj j i f c n)) _).congr λq o=>?_;show _=Value.string (X (enc (if j=i/\q=p then s else m.c j q)));rw[AC (λh=>e h.1)]
theorem p(h:EM w lo hi cb T L m enc g4 g5 g6 g7)(i v:Nat):EM (w.setCell (O L.c i) (.a v)) lo hi cb T L {m with g:=λa=>if a=i then v else m.g a} enc g4 g5 g6 g7:=by
 obtain⟨_,g,_⟩:=h.data;obtain⟨_,b,_⟩:=h.next;obtain⟨_,d,_⟩:=h.b;refine⟨h.g,h.r,h.h,h.o,h.k,h.inj,h.n,(AH w _ _ cb (NZ h.st b h.n.2.1)).i h.st,h.data.other (NZ g b EB) _,(h.next.set i _).congr λj _=>?_,h.b.other (NZ d b EB) _,λj c=>?_⟩
 .show _=Value.int .i64 ((if j=i then v else m.g j:Nat):Int);by_cases e:j=i
  .rw[AD e,AD e]
  rw[AC e,AC e]
 obtain⟨_,f,_⟩:=h.e j c;exact(h.e j c).other (NZ f b EB) _
theorem QQ(h:EM w lo hi cb T L m enc g4 g5 g6 g7)(i:Nat)(v:Bool):EM (w.setCell (O L.a i) (.bool v)) lo hi cb T L {m with e:=λa=>if a=i then v else m.e a} enc g4 g5 g6 g7:=by
 obtain⟨_,g,_⟩:=h.data;obtain⟨_,f,_⟩:=h.next;obtain⟨_,b,_⟩:=h.b;refine⟨h.g,h.r,h.h,h.o,h.k,h.inj,h.n,(AH w _ _ cb (NZ h.st b h.n.2.2.1)).i h.st,h.data.other (NZ g b EB) _,h.next.other (NZ f b EB) _,(h.b.set i _).congr λj _=>?_,λj c=>?_⟩
 .show _=Value.bool (if j=i then v else m.e j);by_cases e:j=i
  .rw[AD e,AD e]
  rw[AC e,AC e]
 obtain⟨_,d,_⟩:=h.e j c;exact(h.e j c).other (NZ d b EB) _
end EM
def pad(l:Du):Du:=l++List.replicate (64-l.length) 255
def CP(w:Z)(lo hi cb:Nat)(L:Loc)(m:M):Prop:=EM w lo hi cb 74 L m id m.b m.cut m.fail m.part
end Y
namespace Y
open Go.RowKit Pk
variable {w:Z} {base n:Nat} {v:Value} {l:Du}
theorem o8(h:w.ownsRow base 5 1 v n (Lib.strCells (X l)))(b:0<n):∃g cap,v=.b g n cap/\∀j,j<n->w.cell? (O g j)=some (.f (l.getD j 0).toNat):=by
 have a:l.length=n:=by have:=h.1;rw[TC]at this;simpa using this
 rcases h.2 with⟨rfl,rfl⟩|⟨g,cap,_,rfl,_,_,_,_,_,_⟩
 .omega
 refine⟨g,cap,I,λj _=>?_⟩;rw[h.cellAt j U,TC];have:j<l.length:=U;simp[List.getD,this]
theorem Qh(h:w.ownsRow base 5 1 v n (Lib.strCells (X l))):l.length=n/\∃a c,v=.slice a n c:=by
 have b:l.length=n:=by have:=h.1;rw[TC]at this;simpa using this
 rcases h.2 with⟨rfl,rfl⟩|⟨g,_,_,rfl,_,_,_,_,_,_⟩
 .exact⟨b,_,_,I⟩
 exact⟨b,_,_,I⟩
theorem jX(l:Du)(b:UInt8):Lib.strCells (X l)++[Value.int .u8 b.toNat]=Lib.strCells (X (l++[b])):=by rw[TC,TC,Au];rfl
theorem LY:(prog.info? 3).map (λi=>(i.zero,i.size,i.bytes))=some (some (.a 0),1,8):=EG
theorem xi{w:Z}{base:Nat}{v:Value}{k:Nat}{c:Nat->Int}(h:w.ownsRow base 3 1 v k ((List.range k).map λj=>Value.int .i64 (c j))):∃a cap,v=.slice a k cap/\IntsIn w a k c:=by
 obtain⟨m,h⟩:=h;rcases h with⟨rfl,rfl⟩|⟨g,cap,b,rfl,e,f,l,n,o,p⟩
 .exact⟨none,0,I,λh=>absurd h U⟩
 refine⟨_,cap,I,λ_=>⟨g,0,I,λj i=>?_⟩⟩;have d:w.r base 3 1 (.b g k cap) k ((List.range k).map λj=>Value.int .i64 (c j)):=⟨m,.s ⟨g,cap,b,I,e,f,l,n,o,p⟩⟩;rw[Ak,d.cellAt j U];simp[i]
end Y
namespace Y
open Go.RowKit Pk
variable {p pos:Nat} {s:Du} {R:Option ((Nat->Int)×Nat)} {z:Nat->Int}
theorem J{p:Prop}(h:p):Hid p:=h
def lenOf:Value->Nat
 | .slice _ n _=>n
 | _=>0
def Gw(s:Du)(R:Option ((Nat->Int)×Nat))(p pos:Nat)(z:Nat->Int):Prop:=
 (p<=288/\pos<=8*s.length/\(∀j,p<=j->z j=0)/\∃f,288<=p+f/\FX s f p pos z=R)\/(288<p/\p<=320/\R=none)
theorem xj(h:Gw s R p pos z)(c:p<288)(a:¬8*s.length<pos+4)(d:val s pos 4≠0):Gw s R (p+1) (pos+4) (upd z p (val s pos 4)):=by
 rcases h with⟨_,_,e,f,_,b⟩|⟨h,_⟩
 .refine .w ⟨by omega,by omega,λj _=>?_,?_⟩
  .unfold upd;rw[AC U];exact e j U
  obtain⟨g,rfl⟩:∃g,f=g+1:=⟨f-1,by omega⟩;exact⟨g,by omega,by rw[<-b,jh s g p pos z c a d]⟩
 omega
theorem nY(h:Gw s R p pos z)(e:p<288)(b:¬8*s.length<pos+4)(i:val s pos 4=0)(c:¬8*s.length<pos+9):Gw s R (p+1+val s (pos+4) 5) (pos+9) z:=by
 have l:=Tq s (pos+4) 5;rcases h with⟨_,_,k,f,_,d⟩|⟨h,_⟩
 .obtain⟨g,rfl⟩:∃g,f=g+1:=⟨f-1,by omega⟩;by_cases a:288<p+1+val s (pos+4) 5
  .refine .s ⟨a,by omega,?_⟩;rw[<-d,yJ s g p pos z e b i c a]
  refine .w ⟨by omega,by omega,λj _=>k j U,g,by omega,?_⟩;rw[<-d,jN s g p pos z e b i c a]
 omega
theorem pH(h:Gw s R p pos z)(d:p<288)(a:8*s.length<pos+4):R=none:=by
 rcases h with⟨_,_,_,f,c,b⟩|⟨h,_⟩
 .rw[<-b,oy s f p pos z d c a]
 omega
theorem sH(h:Gw s R p pos z)(d:p<288)(a:¬8*s.length<pos+4)(e:val s pos 4=0)(b:8*s.length<pos+9):R=none:=by
 rcases h with⟨_,_,_,f,_,c⟩|⟨h,_⟩
 .obtain⟨g,rfl⟩:∃g,f=g+1:=⟨f-1,by omega⟩;rw[<-c,rk s g p pos z d a e b]
 omega
theorem xC(h:Gw s R 288 pos z):R=some (z,pos)/\pos<=8*s.length:=by
 rcases h with⟨_,a,_,f,_,b⟩|⟨h,_⟩
 .rw[<-b,jC];exact⟨I,a⟩
 omega
theorem xQ(h:Gw s R p pos z)(c:p<288):pos<=8*s.length/\∀j,p<=j->z j=0:=by
 rcases h with⟨_,a,b,_⟩|⟨h,_⟩
 .exact⟨a,b⟩
 omega
def TD:Option Du->Ending
 | none=>.a (.tuple #[.string ⟨#[]⟩,.a 2])
 | some l=>.a (.tuple #[.string (X l),.a 0])
variable {s out:Du} {z:Nat->Int} {R:Option (Du×Nat)} {pos i:Nat}
theorem Pj{B:Nat}{w w':Z}{q:Nat}(h:Below B (w.drewN q) w'):Below B w w':=(below_drewN (AP _ _) q).i h
def JE(s:Du)(z:Nat->Int)(size:Nat)(R:Option (Du×Nat))(out:Du)(pos:Nat):Prop:=
 out.length<=size/\pos<=8*s.length/\∃f,size<=out.length+f/\FR s z 288 size f out pos=R
theorem vB{a:Nat}(h:JE s z a R out pos)(c:out.length<a)(d:Jn s z pos 288=none):R=none:=by obtain⟨_,_,f,_,b⟩:=h;rw[<-b,sf s z 288 a f out pos c d]
theorem yg{a:Nat}(h:JE s z a R out pos)(j:out.length<a)(b:hit s z pos i=true)(e:i<256):JE s z a R (out++[UInt8.ofNat i]) (pos+(z i).toNat):=by obtain⟨_,_,f,_,d⟩:=h;obtain⟨g,rfl⟩:∃g,f=g+1:=⟨f-1,by omega⟩;have c:=(Rz s z pos i).1 b;refine⟨by simp;omega,c.2.1,g,by simp;omega,?_⟩;rw[<-d,kR s z 288 a g out pos i j (U9 s z pos i U b) e]
theorem tM{a:Nat}(h:JE s z a R out pos)(k:out.length<a)(b:i<288)(e:hit s z pos i=true)(j:¬i<256) (c:8*s.length<pos+(z i).toNat+12):R=none:=by obtain⟨_,_,f,_,d⟩:=h;obtain⟨g,rfl⟩:∃g,f=g+1:=⟨f-1,by omega⟩;rw[<-d,yA s z 288 a g out pos i k (U9 s z pos i b e) j c]
theorem pJ{a:Nat}(h:JE s z a R out pos)(l:out.length<a)(b:i<288)(j:hit s z pos i=true)(k:¬i<256) (c:¬8*s.length<pos+(z i).toNat+12) (d:out.length<val s (pos+(z i).toNat) 12+1\/a<out.length+(i-253)):R=none:=by obtain⟨_,_,f,_,e⟩:=h;obtain⟨g,rfl⟩:∃g,f=g+1:=⟨f-1,by omega⟩;rw[<-e,vM s z 288 a g out pos i l (U9 s z pos i b j) k c d]
theorem yV{a:Nat}(h:JE s z a R out pos)(l:out.length<a)(b:i<288)(j:hit s z pos i=true)(k:¬i<256) (c:¬8*s.length<pos+(z i).toNat+12) (d:¬(out.length<val s (pos+(z i).toNat) 12+1\/a<out.length+(i-253))):JE s z a R (OA out (val s (pos+(z i).toNat) 12+1) (i-253)) (pos+(z i).toNat+12):=by obtain⟨_,_,f,_,e⟩:=h;obtain⟨g,rfl⟩:∃g,f=g+1:=⟨f-1,by omega⟩;refine⟨by rw[YK];omega,by omega,g,by rw[YK];omega,?_⟩;rw[<-e,kT s z 288 a g out pos i l (U9 s z pos i b j) k c d]
theorem qM{a:Nat}(h:JE s z a R out pos)(c:¬out.length<a):R=some (out,pos):=by obtain⟨_,_,f,_,b⟩:=h;rw[<-b,gU s z 288 a f out pos U]
theorem zO(i:Nat)(h:i<256):(UInt8.ofNat i).toNat=i:=by simp[Bx];omega
variable {w a b:Z} {rb pos:Nat} {s:Du}
theorem jS(x y:Int)(a:0<=x)(d:x<4611686018427387904)(b:0<=y)(e:y<2)(c:x%2=0):bits .or .i64 x y=x+y:=
 bits_join .i64 62 EB (λ_ _ _=>by rw[DX];omega) 1 x y a (EU c) U b U U
theorem qw(x:Int)(a:0<=x)(b:x<256):bits .and .u8 x 1=x%2:=bits_mask .u8 8 EB wraps_u8 1 EB x a b
def Rd(w:Z)(rb:Nat)(s:Du)(pos:Nat):Prop:=w.heap[rb]?=some (.cells #[.string (X s),.a pos] 295 (0,0))
theorem Rd.cell0(h:Rd w rb s pos):w.cell? (O rb 0)=some (.string (X s)):=by rw[AU w rb 0 _ 295 (0,0) h];rfl
theorem Rd.cell1(h:Rd w rb s pos):w.cell? (O rb 1)=some (.a pos):=by rw[AU w rb 1 _ 295 (0,0) h];rfl
theorem Rd.Qo(h:Rd w rb s pos):w.frozen? (O rb 1)=false:=Fg 1 h
theorem Rd.drewN(h:Rd w rb s pos)(q:Nat):Rd (w.drewN q) rb s pos:=by unfold Rd at *;simpa using h
theorem Rd.put(h:Rd w rb s pos)(p:Nat):Rd (w.setCell (O rb 1) (.a p)) rb s p:=by unfold Rd at *;have:=AJ w rb 1 _ 295 (.a p) h;simpa using this
theorem Rd.lt(h:Rd w rb s pos):rb<w.heap.size:=lt_of_heap h
theorem PQ{c:Z}{row:Option Nat}(h:a.grownBy b row)(k:b.grownBy c row):a.grownBy c row:=
 ⟨k.os.i h.os,k.tape.i h.tape,k.output.i h.output,AG h.size k.size,λi d e=>(k.u i (AQ d h.size) e).i (h.u i d e)⟩
theorem pf{g o:Nat}(h:a.grownBy b (some g))(v:Value):a.grownBy (b.setCell (O g o) v) (some g):=
 PQ h ⟨I,I,I,by simp,λk _ c=>AH b ⟨g,o,none⟩ v k (λe=>c (by simp[e]))⟩
theorem SA(w:Z)(q:Nat)(row:Option Nat):w.grownBy (w.drewN q) row:=⟨I,I,I,AB _,λ_ _ _=>rfl⟩
theorem VH(d:Nat)(s:Du)(pos:Nat)(w:Z)(l:s.length<=140737488351232)(k:pos<=8*s.length)(b:Rd w d s pos):Calls prog 295 #[.c d] w λe w'=>e=.a (.a (8*s.length-pos:Nat))/\∃q,w'=w.drewN q:=by have g:=b.cell0;have j:=b.cell1;have a:(X s).size=s.length:=EF s;obtain⟨t,c⟩:=E (X s);rw[<-c]at g a;have h:t.size<=s.length:=U;have i:s.length<=t.size:=U;have f:=J a;clear c a;go_enter func295,ntmps295;go_wp2;go_quiet (fail);go_wp2;go_ret;exact⟨Ma (by rw[f.o];omega),_,I⟩
theorem Vu(a:Nat)(s:Du)(pos d:Nat)(w:Z)(f:s.length<=140737488351232)(b:pos<=8*s.length)(c:Rd w a s pos)(g:d<=12)(h:8*s.length<pos+d):Calls prog 293 #[.c a,.a d] w λe w'=>e=.a (.tuple #[.a 0,.bool false])/\∃q,w'=w.drewN q:=by go_enter func293,ntmps293;go_wp2_with (go_at_call 295;refine(VH a s pos _ f b c).l ?_;rintro e w' ⟨rfl,q,rfl⟩);go_ret2;exact⟨I,_,I⟩
theorem VC(a:Nat)(s:Du)(pos d:Nat)(w:Z)(K:s.length<=140737488351232)(x:Rd w a s pos)(j:d<=12)(h:pos+d<=8*s.length):Calls prog 293 #[.c a,.a d] w λe w'=>e=.a (.tuple #[.a (val s pos d:Nat),.bool true])/\Rd w' a s (pos+d)/\w.grownBy w' (some a):=by
 have r:(X s).size=s.length:=EF s;have o:∀k (h:k<(X s).size),((X s)[k]'h).toNat=(s.getD k 0).toNat:=λk h=>by rw[O0]
 go_enter func293,ntmps293;go_wp2_with (go_at_call 295;refine(VH a s pos _ K U x).l ?_;rintro e w' ⟨rfl,q,rfl⟩);go_loopw [6,13] (λv i wr=>∃k P:Nat,k<=d/\P<=pos+k/\pos+k<=P/\i=.a k/\v=.a (val s pos k:Nat)/\Rd wr a s P/\w.grownBy wr (some a)) (λ_ i _=>d-(intOf i).toNat)
 case atStart=>refine⟨0,pos,by omega,by omega,by omega,I,I,x.drewN _,?_⟩;exact SA _ _ _
 case round=>
  obtain⟨k,P,_,_,_,rfl,rfl,c,u⟩:=hrel;by_cases N:k<d
  .have H:=c.cell0;have W:=c.cell1;have l:=c.Qo;have C:=λq=>(c.drewN q).put (P+1);obtain⟨t,y⟩:=E (X s);rw[<-y]at H o r;have g:P/8<t.size:=U;obtain⟨m,n⟩:=E ((s.getD (P/8) 0).toNat);have a:(t[P/8]'g).toNat=m:=by rw[n,o]
   have L:m<256:=by rw[n];exact(s.getD (P/8) 0).toNat_lt
   have T:(0:Int)<=(P:Int)/8:=U;have V:(P:Int)/8<(t.size:Int):=U;have S:t.size<=140737488351232:=U;have p:val s pos k<4096:=AQ (Tq s pos k) (BK U (by omega:k<=12));have B:=J n;clear n y o r;generalize j:val s pos k=z at *;have D:=J j;clear j;obtain⟨f,l⟩:∃b,b=bt s P:=⟨_,I⟩;have R:f<2:=by rw[l];exact WA s P
   have M:bits BinOp.and IntKind.u8 ((m:Int)/2^(7-P%8)) 1=(f:Int):=by
    have e1:((m:Int)/2^(7-P%8))=((m/2^(7-P%8):Nat):Int):=EJ;have e2:m/2^(7-P%8)<=m:=Nat.div_le_self _ _;have e3:f=m/2^(7-P%8)%2:=by rw[l];unfold bt;rw[<-B.o]
    rw[e1];generalize m/2^(7-P%8)=n at *;rw[qw _ U U,e3];omega
   have Q:bits BinOp.or IntKind.i64 ((z:Int)*2) (f:Int)=((2*z+f:Nat):Int):=by rw[jS _ _ U U U U U];omega
   have G:=J l;clear l;go_wp2;go_quiet (fail);go_wp2;go_roundw
   case rel=>
    refine⟨k+1,P+1,by omega,by omega,by omega,by go_num,?_,C _,?_⟩
    .rw[Ov,D.o,show pos+k=P by omega,<-G.o];go_num
    exact pf (PQ u (SA _ _ _)) _
   case measure=>simp[intOf];omega
  have F:k=d:=U;have p:P=pos+d:=U;have A:=J p;subst F;clear p;go_wp2;go_ret2;exact⟨I,A.o ▸ c,u⟩
theorem lN(a:Nat)(s:Du)(pos:Nat)(w:Z)(f:s.length<=140737488351232)(d:Rd w a s pos)(j:pos<=8*s.length)(t:8*s.length-pos<8):Calls prog 262 #[.c a] w λe w'=>e=.a (.bool (decide (val s pos (8*s.length-pos)=0)))/\w.grownBy w' (some a):=by
 go_enter func262,ntmps262;go_wp2_with fail;refine(VH a s pos _ f j d).l ?_;rintro e _ ⟨rfl,q1,rfl⟩;have m:=d.drewN q1;generalize i:8*s.length-pos=l at *;have c:=J i;have n:pos+l<=8*s.length:=U;have r:l<=8*s.length-pos:=U;clear i;go_wp2_with fail;refine(VH a s pos _ f j m).l ?_;rintro e _ ⟨rfl,q2,rfl⟩;rw[c.o];have k:=d.drewN (q1+q2);go_wp2_with fail;refine(VC a s pos l _ f k U n).l ?_;rintro e p ⟨rfl,_,o⟩;have h:w.grownBy p (some a):=PQ (SA _ _ _) o;by_cases g:val s pos l=0
 .have b:Hid (true=decide (val s pos l=0)):=(EU g:true=decide (val s pos l=0));rw[g];go_wp2;go_ret;exact⟨Ku (by rw[c.o];exact b.o),h⟩
 have q:((val s pos l:Int)==0)=false:=EL;have b:Hid (false=decide (val s pos l=0)):=(EU g:false=decide (val s pos l=0));go_wp2;go_ret;exact⟨Ku (by rw[c.o];exact b.o),h⟩
theorem qE(a:Nat)(s:Du)(pos:Nat)(w:Z)(d:s.length<=140737488351232)(c:Rd w a s pos)(b:pos<=8*s.length)(f:¬8*s.length-pos<8):Calls prog 262 #[.c a] w λe w'=>e=.a (.bool false)/\w.grownBy w' (some a):=by go_enter func262,ntmps262;go_wp2_with fail;refine(VH a s pos _ d b c).l ?_;rintro e _ ⟨rfl,q1,rfl⟩;go_wp2;go_ret;exact⟨I,SA _ _ _⟩
def MU(n lo hi:Int):Int:=if n<lo then lo else if hi<n then hi else n
theorem Rj(n b a:Int)(h:b<=a):b<=MU n b a/\MU n b a<=a:=by unfold MU;split<;>(try split)<;>omega
theorem Vt(n b a:Int)(h:b<=a)(w:Z):Calls prog 36 #[.a n,.a b,.a a] w λe w'=>e=.a (.a (MU n b a))/\w'=w:=by
 by_cases d:n<b
 .have c:Hid (MU n b a=b):=AD d;go_enter func36,ntmps36;go_wp2;all_goals go_ret
  all_goals exact⟨Ma (by rw[c.o]<;>omega),I⟩
 by_cases f:a<n
 .have c:Hid (MU n b a=a):=by unfold MU;rw[AC d,AD f];exact I
  go_enter func36,ntmps36;go_wp2;all_goals go_ret
  all_goals exact⟨Ma (by rw[c.o]<;>omega),I⟩
 have c:Hid (MU n b a=n):=by unfold MU;rw[AC d,AC f];exact I
 go_enter func36,ntmps36;go_wp2;all_goals go_ret
 all_goals exact⟨Ma (by rw[c.o]<;>omega),I⟩
def PR(n:Int):Int:=if n<0 then(-(n+1))%64 else n%64
theorem gG(n:Int):0<=PR n/\PR n<=63:=by unfold PR;split<;>omega
theorem qZ(n:Int)(h:n<0):-((n+1).tmod 64)=(-(n+1))%64:=by rw[<-Int.neg_tmod,Int.tmod_eq_emod_of_nonneg U]
theorem lW(n:Int)(d:-9223372036854775808<=n)(f:n<=9223372036854775807)(w:Z):Calls prog 53 #[.a n] w λe w'=>e=.a (.a (PR n))/\w'=w:=by
 by_cases b:n<0
 .have a:Hid (PR n=(-(n+1))%64):=AD b;have c:=J (qZ n b);go_enter func53,ntmps53;go_wp2;go_ret;exact⟨Ma (by rw[a.o];first|exact c.o|rfl),I⟩
 have a:Hid (PR n=n%64):=AC b;go_enter func53,ntmps53;go_wp2;go_ret;exact⟨Ma (by rw[a.o]),I⟩
theorem TF:∃M:Array Value,(∀W:Z,(Instr.makeSlice 111 (.a 64) (.a 64)).run prog W=.ok (.b W.heap.size 64 64) (W.alloc (.cells M 5)))/\∀W:Z,(W.alloc (.cells M 5)).rowIs W.heap.size 5 64 (λ_=>.f 0):=
 ⟨madeCells #[Value.int .u8 0] 64,λW=>Cn (P:=prog) 111 5 (.f 0) 1 underlying111 IM I .i64 .i64 64 U U W,λW=>DA W (.f 0) 64 5⟩
theorem qX{w:Z}{b n c:Nat}{l:Du}(h:w.rowIs b 5 n (λj=>.f ((l.getD j 0).toNat:Nat)))(e:l.length=n):(convert 111 9 (.b b n c)).run prog w=.ok (.string (X l)) w:=by
 have a:=run_convert_bytes_arg (P:=prog) w 111 5 underlying111 underlying5 b 0 n c (l.map λb=>(b.toNat:Int)) (EU e) (λi d=>by rw[Ak,h.cell d];have:i<l.length:=U;simp[List.getD,this]) 9 underlying9
 rw[strOfNums_bytes]at a;exact a
theorem mV(l:Du)(h:l.length<=64):(pad l).length=64:=by unfold pad;simp;omega
theorem sL(l:Du)(h:l.length<=64)(j:Nat)(a:j<64):(pad l).getD j 0=if j<l.length then l.getD j 0 else 255:=by
 unfold pad;simp only[List.getD];by_cases e:j<l.length
 .rw[AD e,BG e]
 rw[AC e,Ao U];have:j-l.length<64-l.length:=U;simp[this]
theorem uP{w:Z}{g:Nat}{b:Array Value}{t:TypeId}{a:Array Value}{f:Nat->Value}{n:Nat}(d:w.heap[g]?=some (.cells b t (0,0)))(e:a.size=n)(c:∀i,i<n->a[i]?=some (f i)):(w.setRow g a).rowIs g t n f:=
 ⟨a,setRow_heap w g b a t (0,0) d,e,c⟩
theorem vC(s:Du)(y:s.length<=64)(w:Z):Calls prog 196 #[.string (X s)] w λe w'=>e=.a (.string (X (pad s)))/\Below w.heap.size w w':=by
 obtain⟨M,N,v⟩:=TF;have u:=v w;have n:w.b (w.a M 5):=Iy;clear v;have B:(prog.info? 5).map (·.size)=some 1:=EG;have g:(X s).size=s.length:=EF s;have f:(X s).data.toList=s:=I;obtain⟨t,z⟩:=E (X s);rw[<-z]at g f |-;have T:t.size<=64:=U;have p:=J g;have q:=J f;obtain⟨_,m⟩:=E (X (pad s));have A:=J m;rw[<-m];clear m z g f;go_enter func196,ntmps196;go_wp2;clear N;go_loopw [4] (λi wr=>∃k:Nat,k<=64/\i=.a k/\wr.rowIs w.s 5 64 (λj=>if j<k then .f 255 else .f 0)/\w.b wr) (λi _=>64-(intOf i).toNat)
 case atStart=>exact⟨0,by omega,I,by simpa using u,n⟩
 case round=>
  clear u n;obtain⟨k,_,rfl,b,h⟩:=hrel;by_cases F:k<64
  .have S:=b.cell F;have V:=b.frozen k;have C:(wr.c w.s k (.f 255)).rowIs w.s 5 64 (λj=>if j<k+1 then .f 255 else .f 0):=(b.set k _).congr λj _=>by
    by_cases e:j=k
    .rw[AD e,AD U]
    rw[AC e];by_cases e2:j<k
    .rw[AD e2,AD U]
    rw[AC e2,AC U]
   rw[AC U]at S;have Q:=h.setCell (p:=⟨w.s,k,none⟩) (AB _) (.f 255);clear b h;go_wp2;go_roundw
   case rel=>exact⟨k+1,by omega,by go_num,C,Q⟩
   case measure=>simp[intOf];omega
  have D:k=64:=U;subst D;obtain⟨c,x,G,o⟩:=b;have H:=Lib.run_copy_row_string (P:=prog) wr 111 9 3 5 w.s 0 64 64 t c 5 underlying111 B x U U;obtain⟨a,d⟩:=E ((c.toList.take 0++Lib.byteCells t.data.toList++c.toList.drop (0+t.size)).toArray);rw[<-d]at H;have L:(wr.setRow w.s a).rowIs w.s 5 64 (λj=>.f (((pad s).getD j 0).toNat:Nat)):=by
   have r:(Lib.byteCells t.data.toList).length=s.length:=by rw[Lib.byteCells_length,q.o]
   have K:c.toList.length=64:=by rw[Cz];exact G
   refine uP x ?_ λi l=>?_
   .rw[d,BV,DO,BB,AM,BX,r,K,p.o];omega
   rw[d,List.getElem?_toArray,DO,BB,sL s y i l];by_cases e:i<s.length
   .rw[AD e,BG U];unfold Lib.byteCells;rw[q.o];simp[List.getD,e]
   rw[AC e,Ao U,r,C4,p.o,show 0+s.length+(i-s.length)=i by omega,Bw,o i l];show some (if i<64 then Value.int .u8 255 else .f 0)=_;rw[AD l];rfl
  have P:=qX (c:=64) L (mV s y);rw[<-A.o]at P;have R:w.b (wr.setRow w.s a):=below_setRow h (AB _) a;clear d o;go_wp2;go_ret;exact⟨I,R⟩
def hasB(m:M)(b:Int):Bool:=decide (0<=b)&&decide (b<(m.a:Int))
def IE(m:M)(b:Int):Bool:=!(hasB m b)||m.e b.toNat
theorem SP{m:M}{b:Int}(h:hasB m b=true):0<=b/\b<(m.a:Int):=by simpa[hasB]using h
theorem GC(w:Z)(c b a:Nat)(L:Loc)(m:M)(h:CP w c b a L m):Calls prog 76 #[.c a] w λe w'=>e=.a (.a m.a)/\w'=w:=by have d:=EM.c1 h;go_enter func76,ntmps76;go_wp2;go_ret;exact⟨I,I⟩
theorem GH(w:Z)(c b a:Nat)(L:Loc)(m:M)(h:CP w c b a L m):Calls prog 77 #[.c a] w λe w'=>e=.a (.a m.d)/\w'=w:=by have d:=EM.c0 h;go_enter func77,ntmps77;go_wp2;go_ret;exact⟨I,I⟩
theorem Er(w:Z)(c b a:Nat)(L:Loc)(m:M)(h:CP w c b a L m):Calls prog 25 #[.c a] w λe w'=>e=.a (.bool (m.b==0))/\w'=w:=by have d:=EM.c4 h;go_enter func25,ntmps25;go_wp2;go_ret;exact⟨I,I⟩
theorem Mh(w:Z)(c b a:Nat)(L:Loc)(m:M)(h:CP w c b a L m)(j:WF m):Calls prog 28 #[.c a] w λe w'=>e=.a (.tuple #[])/\CP w' c b a L {m with b:=-1}/\Ed c b w w':=by have g:=EM.c4 h;have i:=EM.d h 4;have d:CP (w.c a 4 (.a (-1))) c b a L {m with b:=-1}:=(EM.field h 4 (-1) _ _ _ _ I).q _ I I I I I;have f:Ed c b w (w.c a 4 (.a (-1))):=(Ed.refl _ _ _).set (EM.g h) 4 _;go_enter func28,ntmps28;go_wp2;go_end0;exact⟨I,d,f⟩
theorem Qu(w:Z)(f d b:Nat)(L:Loc)(m:M)(a c:Int)(o:-9223372036854775808<=c)(p:c<=9223372036854775807)(h:CP w f d b L m):Calls prog 27 #[.c b,.a a,.a c] w λe w'=>e=.a (.tuple #[])/\CP w' f d b L {m with b:=MU a 0 1073741824+1,cut:=PR c}/\Ed f d w w':=by have q:=Rj a 0 1073741824 U;have j:=J (Vt a 0 1073741824 U);have l:=J (lW c o p);obtain⟨B,k⟩:=E (MU a 0 1073741824);rw[<-k]at q j |-;clear k;generalize PR c=i at *;have u:=EM.c4 h;have t:=EM.d h 4;have g:EM (w.c b 4 (.a (B+1))) f d b 74 L m id (B+1) m.cut m.fail m.part:=EM.field h 4 (B+1) _ _ _ _ I;have v:=EM.j g;have s:=EM.d g 5;have n:CP ((w.c b 4 (.a (B+1))).c b 5 (.a i)) f d b L {m with b:=B+1,cut:=i}:=(EM.field g 5 i _ _ _ _ I).q _ I I I I I;have r:Ed f d w ((w.c b 4 (.a (B+1))).c b 5 (.a i)):=((Ed.refl _ _ _).set (EM.g h) 4 _).set (EM.g h) 5 _;clear h g;go_enter func27,ntmps27;go_wp2_with fail;refine(j _).l ?_;rintro e _ ⟨rfl,rfl⟩;go_wp2_with fail;refine(l _).l ?_;rintro e _ ⟨rfl,rfl⟩;go_wp2;go_end0;exact⟨I,n,r⟩
theorem Ps(w:Z)(f d b:Nat)(L:Loc)(m:M)(a c:Int)(o:-9223372036854775808<=c)(p:c<=9223372036854775807)(h:CP w f d b L m):Calls prog 101 #[.c b,.a a,.a c] w λe w'=>e=.a (.tuple #[])/\CP w' f d b L {m with fail:=MU a 0 1073741824,part:=PR c}/\Ed f d w w':=by have q:=Rj a 0 1073741824 U;have j:=J (Vt a 0 1073741824 U);have l:=J (lW c o p);obtain⟨B,k⟩:=E (MU a 0 1073741824);rw[<-k]at q j |-;clear k;generalize PR c=i at *;have u:=EM.t h;have t:=EM.d h 6;have g:EM (w.c b 6 (.a B)) f d b 74 L m id m.b m.cut B m.part:=EM.field h 6 B _ _ _ _ I;have v:=EM.c7 g;have s:=EM.d g 7;have n:CP ((w.c b 6 (.a B)).c b 7 (.a i)) f d b L {m with fail:=B,part:=i}:=(EM.field g 7 i _ _ _ _ I).q _ I I I I I;have r:Ed f d w ((w.c b 6 (.a B)).c b 7 (.a i)):=((Ed.refl _ _ _).set (EM.g h) 6 _).set (EM.g h) 7 _;clear h g;go_enter func101,ntmps101;go_wp2_with fail;refine(j _).l ?_;rintro e _ ⟨rfl,rfl⟩;go_wp2_with fail;refine(l _).l ?_;rintro e _ ⟨rfl,rfl⟩;go_wp2;go_end0;exact⟨I,n,r⟩
theorem XB(w:Z)(j i f:Nat)(L:Loc)(m:M)(b:Int)(h:CP w j i f L m):Calls prog 44 #[.c f,.a b] w λe w'=>e=.a (.bool (hasB m b))/\w'=w:=by
 have k:=EM.c1 h;by_cases c:0<=b
 .have g:decide (0<=b)=true:=EU c;by_cases d:b<(m.a:Int)
  .have a:Hid (true=hasB m b):=by simp[hasB,c,d,Hid]
   go_enter func44,ntmps44;go_wp2;go_ret;exact⟨Ku a,I⟩
  have a:Hid (false=hasB m b):=by simp[hasB,d,Hid]
  go_enter func44,ntmps44;go_wp2;go_ret;exact⟨Ku a,I⟩
 have g:decide (0<=b)=false:=EU c;have a:Hid (false=hasB m b):=by simp[hasB,c,Hid]
 go_enter func44,ntmps44;go_wp2;go_ret;exact⟨Ku a,I⟩
theorem KA(w:Z)(i g f:Nat)(L:Loc)(m:M)(b:Int)(h:CP w i g f L m):Calls prog 94 #[.c f,.a b] w λe w'=>e=.a (.bool (IE m b))/\w'=w:=by
 have c:=J (XB w i g f L m b h);have o:=EM.c3 h;have j:=h.b;cases a:hasB m b with
 |true=>
  obtain⟨n,rfl⟩:=As (SP a).1;have k:n<m.a:=Dz ((SP a).2);have p:=j.cell k;have d:Hid (m.e n=IE m (n:Nat)):=by simp[IE,a,Hid]
  rw[a]at c;generalize m.e n=x at *;go_enter func94,ntmps94;go_wp2_with fail;refine c.o.l ?_;rintro e l ⟨rfl,rfl⟩;go_wp2;go_ret;exact⟨Ku d,I⟩
 |false=>
  have d:Hid (true=IE m b):=by simp[IE,a,Hid]
  rw[a]at c;go_enter func94,ntmps94;go_wp2_with fail;refine c.o.l ?_;rintro e l ⟨rfl,rfl⟩;go_wp2;go_ret;exact⟨Ku d,I⟩
def E7(EI fail:Int):Int×Int×Int:=
 if EI=0 then(3,EI,fail)
 else if EI=1 then(2,0,fail)
 else if fail<0 then(0,if 0<EI then EI-1 else EI,fail)
 else if fail=0 then(1,if 0<EI then EI-1 else EI,-1)
 else(0,if 0<EI then EI-1 else EI,fail-1)
theorem oQ(a fail:Int)(b:-1<=a)(c:a<=1073741825)(d:-1<=fail)(e:fail<=1073741824) :
 0<=(E7 a fail).1/\(E7 a fail).1<=3 /\ -1<=(E7 a fail).2.1/\(E7 a fail).2.1<=1073741825 /\ -1<=(E7 a fail).2.2/\(E7 a fail).2.2<=1073741824:=by
 unfold E7
 repeat' split
 all_goals simp
 all_goals omega
theorem Wv(w:Z)(d c a:Nat)(L:Loc)(m:M)(p:WF m)(h:CP w d c a L m):Calls prog 190 #[.c a] w λe w'=>e=.a (.a (E7 m.b m.fail).1)/\CP w' d c a L {m with b:=(E7 m.b m.fail).2.1,fail:=(E7 m.b m.fail).2.2}/\Ed d c w w':=by
 have v:=p.MH;have z:=p.Ln;have B:=p.n;have x:=p.o;have c4:=EM.c4 h;have C:=EM.t h;have D:=EM.d h 4;have F:=EM.d h 6;have g:=EM.g h;by_cases b:m.b=0
 .have e:E7 m.b m.fail=(3,m.b,m.fail):=by unfold E7;rw[AD b]
  rw[e];have t:(m.b==0)=true:=EU b;change Hid _ at h;go_enter func190,ntmps190;go_wp2;go_ret;exact⟨I,h,Ed.refl _ _ _⟩
 have t:(m.b==0)=false:=EU b;by_cases i:m.b=1
 .have e:E7 m.b m.fail=(2,0,m.fail):=by unfold E7;rw[AC b,AD i]
  rw[e];have H:Hid (CP (w.c a 4 (.a 0)) d c a L {m with b:=0,fail:=m.fail}):=(EM.field h 4 0 _ _ _ _ I).q _ I I I I I;have r:m.b-1=0:=U;have k:0<m.b:=U;generalize m.b=l at *;generalize m.fail=f at *;go_enter func190,ntmps190;go_wp2;go_ret;exact⟨I,H,(Ed.refl _ _ _).set g 4 _⟩
 by_cases k:0<m.b
 .have u:(m.b-1==0)=false:=EL;have o:=EM.field h 4 (m.b-1) _ _ _ _ I;have y:=EM.t o;have A:=EM.d o 6;by_cases j:m.fail<0
  .have e:E7 m.b m.fail=(0,m.b-1,m.fail):=by unfold E7;rw[AC b,AC i,AD j,AD k]
   rw[e];have H:Hid (CP (w.c a 4 (.a (m.b-1))) d c a L {m with b:=m.b-1,fail:=m.fail}):=o.q _ I I I I I;generalize m.b=l at *;generalize m.fail=f at *;go_enter func190,ntmps190;go_wp2;go_ret;exact⟨I,H,(Ed.refl _ _ _).set g 4 _⟩
  by_cases n:m.fail=0
  .have e:E7 m.b m.fail=(1,m.b-1,-1):=by unfold E7;rw[AC b,AC i,AC j,AD n,AD k]
   rw[e];have H:Hid (CP ((w.c a 4 (.a (m.b-1))).c a 6 (.a (-1))) d c a L {m with b:=m.b-1,fail:=-1}):=(EM.field o 6 (-1) _ _ _ _ I).q _ I I I I I;have r:m.fail-1 = -1:=U;have q:((w.c a 4 (.a (m.b-1))).c a 6 (.a (-1))).g a 6 (.a (-1)):=EM.t H;generalize m.b=l at *;generalize m.fail=f at *;go_enter func190,ntmps190;go_wp2;go_ret;exact⟨I,H,((Ed.refl _ _ _).set g 4 _).set g 6 _⟩
  have e:E7 m.b m.fail=(0,m.b-1,m.fail-1):=by unfold E7;rw[AC b,AC i,AC j,AC n,AD k]
  rw[e];have H:Hid (CP ((w.c a 4 (.a (m.b-1))).c a 6 (.a (m.fail-1))) d c a L {m with b:=m.b-1,fail:=m.fail-1}):=(EM.field o 6 (m.fail-1) _ _ _ _ I).q _ I I I I I;have q:((w.c a 4 (.a (m.b-1))).c a 6 (.a (m.fail-1))).g a 6 (.a (m.fail-1)):=EM.t H;have s:0<m.fail:=U;generalize m.b=l at *;generalize m.fail=f at *;go_enter func190,ntmps190;go_wp2;go_ret;exact⟨I,H,((Ed.refl _ _ _).set g 4 _).set g 6 _⟩
 by_cases j:m.fail<0
 .have e:E7 m.b m.fail=(0,m.b,m.fail):=by unfold E7;rw[AC b,AC i,AD j,AC k]
  rw[e];have H:Hid (CP w d c a L {m with b:=m.b,fail:=m.fail}):=h;go_enter func190,ntmps190;go_wp2;go_ret;exact⟨I,H,Ed.refl _ _ _⟩
 by_cases n:m.fail=0
 .have e:E7 m.b m.fail=(1,m.b,-1):=by unfold E7;rw[AC b,AC i,AC j,AD n,AC k]
  rw[e];have H:Hid (CP (w.c a 6 (.a (-1))) d c a L {m with b:=m.b,fail:=-1}):=(EM.field h 6 (-1) _ _ _ _ I).q _ I I I I I;have r:m.fail-1 = -1:=U;have q:(w.c a 6 (.a (-1))).g a 6 (.a (-1)):=EM.t H;generalize m.b=l at *;generalize m.fail=f at *;go_enter func190,ntmps190;go_wp2;go_ret;exact⟨I,H,(Ed.refl _ _ _).set g 6 _⟩
 have e:E7 m.b m.fail=(0,m.b,m.fail-1):=by unfold E7;rw[AC b,AC i,AC j,AC n,AC k]
 rw[e];have H:Hid (CP (w.c a 6 (.a (m.fail-1))) d c a L {m with b:=m.b,fail:=m.fail-1}):=(EM.field h 6 (m.fail-1) _ _ _ _ I).q _ I I I I I;have q:(w.c a 6 (.a (m.fail-1))).g a 6 (.a (m.fail-1)):=EM.t H;have s:0<m.fail:=U;generalize m.b=l at *;generalize m.fail=f at *;go_enter func190,ntmps190;go_wp2;go_ret;exact⟨I,H,(Ed.refl _ _ _).set g 6 _⟩
def JP(m:M)(b p:Int):Option Du:=
 if m.b≠0/\hasB m b=true/\0<=p/\p<(m.d:Int)then some (pad (m.c b.toNat p.toNat))else none
def Xa:Option Du->Ending
 | none=>.a (.tuple #[.string ⟨#[]⟩,.bool false])
 | some l=>.a (.tuple #[.string (X l),.bool true])
theorem x7(w:Z)(o f g:Nat)(L:Loc)(m:M)(b p:Int)(z:WF m)(h:CP w o f g L m):Calls prog 132 #[.c g,.a b,.a p] w λe w'=>e=Xa (JP m b p)/\Below w.heap.size w w':=by
 have d:=J (XB w o f g L m b h);have c0:=EM.c0 h;have c1:=EM.c1 h;have c4:=EM.c4 h;by_cases c:m.b=0
 .have e:JP m b p=none:=by unfold JP;rw[AC (λh=>h.1 c)]
  rw[e];have x:(m.b==0)=true:=EU c;clear h e c;go_enter func132,ntmps132;go_wp2;go_ret2;exact⟨I,AP _ _⟩
 have x:(m.b==0)=false:=EU c;cases a:hasB m b with
 |false=>
  have e:JP m b p=none:=by unfold JP;rw[AC (λh=>by rw[a]at h;exact absurd h.2.1 EB)]
  rw[e];rw[a]at d;clear h e c a;go_enter func132,ntmps132;go_wp2_with fail;refine d.o.l ?_;rintro e j ⟨rfl,rfl⟩;go_wp2;go_ret2;exact⟨I,AP _ _⟩
 |true=>
  rw[a]at d;by_cases l:p<0
  .have e:JP m b p=none:=by unfold JP;rw[AC (λh=>by omega)]
   rw[e];have y:decide (p<0)=true:=EU l;clear h e c a;go_enter func132,ntmps132;go_wp2_with fail;refine d.o.l ?_;rintro e j ⟨rfl,rfl⟩;go_wp2;go_ret2;exact⟨I,AP _ _⟩
  have y:decide (p<0)=false:=EU l;by_cases k:(m.d:Int)<=p
  .have e:JP m b p=none:=by unfold JP;rw[AC (λh=>by omega)]
   rw[e];have u:decide ((m.d:Int)<=p)=true:=EU k;clear h e c a;go_enter func132,ntmps132;go_wp2_with fail;refine d.o.l ?_;rintro e j ⟨rfl,rfl⟩;go_wp2;go_ret2;exact⟨I,AP _ _⟩
  have u:decide ((m.d:Int)<=p)=false:=EU k;have e:JP m b p=some (pad (m.c b.toNat p.toNat)):=by unfold JP;rw[AD ⟨c,a,by omega,by omega⟩]
  rw[e];obtain⟨i,rfl⟩:=As (SP a).1;obtain⟨q,rfl⟩:=As (by omega:0<=p);have f:i<m.a:=Dz ((SP a).2);have n:q<m.d:=U;have B:=h.data.cell f;have v:=(h.e i f).cell n;have r:=z.c i q f n;have t:=J (vC (m.c i q) r);clear h e c a;simp only[id,Int.toNat_natCast]at v |-;generalize C:X (m.c i q)=A at *;go_enter func132,ntmps132;go_wp2_with fail;refine d.o.l ?_;rintro e j ⟨rfl,rfl⟩;go_wp2_with fail;refine(t.o _).l ?_;rintro e _ ⟨rfl,s⟩;go_wp2;go_ret2;exact⟨I,s⟩
def G8(m:M)(i p:Nat)(s:Du):M:={m with c:=λa b=>if a=i/\b=p then s else m.c a b}
def GX(m:M)(i v:Nat):M:={m with g:=λa=>if a=i then v else m.g a}
def Lc(m:M)(i:Nat)(v:Bool):M:={m with e:=λa=>if a=i then v else m.e a}
def LL(m:M)(b p:Int)(s:Du):Prop:=IE m b=false/\p=(m.g b.toNat:Int)/\p<(m.d:Int)/\s.length=64
def tick(m:M):M:={m with b:=(E7 m.b m.fail).2.1,fail:=(E7 m.b m.fail).2.2}
def Gk(m:M)(i p:Nat)(s:Du):Bool×M:=
 if(E7 m.b m.fail).1=0 then(true,GX (G8 (tick m) i p s) i (p+1))
 else if(E7 m.b m.fail).1=1 then(false,GX (Lc (G8 (tick m) i p (s.take m.part.toNat)) i true) i (p+1))
 else if(E7 m.b m.fail).1=2 then(false,GX (G8 (tick m) i p (s.take m.cut.toNat)) i (p+1))
 else(false,tick m)
theorem jU{m:M}(h:WF m):WF (tick m):=by have:=oQ m.b m.fail h.MH h.Ln h.n h.o;exact⟨h.d,h.a,h.e,h.b,h.g,h.c,this.2.2.1,this.2.2.2.1,this.2.2.2.2.1,this.2.2.2.2.2,h.h,h.f,h.j,h.k⟩
theorem UA(a fail:Int):(E7 a fail).1=0\/(E7 a fail).1=1\/(E7 a fail).1=2\/(E7 a fail).1=3:=by
 unfold E7
 repeat' split
 all_goals simp
theorem Uw{m:M}{b:Int}(h:IE m b=false):∃i:Nat,b=(i:Int)/\i<m.a/\m.e i=false:=by unfold IE at h;rw[Bool.or_eq_false_iff]at h;have a:=SP (m:=m) (b:=b) (EU h.1);obtain⟨i,rfl⟩:=As a.1;exact⟨i,I,by omega,by simpa using h.2⟩
theorem qN(w:Z)(n k g:Nat)(L:Loc)(m:M)(b p:Int)(s:Du)(z:s.length<=140737488351232)(h:CP w n k g L m)(f:¬LL m b p s):Calls prog 242 #[.c g,.a b,.a p,.string (X s)] w λe w'=>e=.a (.bool false)/\w'=w:=by
 have a:=J (KA w n k g L m b h);have c0:=EM.c0 h;have c2:=EM.c2 h;have o:=EF s;cases d:IE m b with
 |true=>rw[d]at a;clear h f;go_enter func242,ntmps242;go_wp2_with fail;refine a.o.l ?_;rintro e j ⟨rfl,rfl⟩;go_wp2;go_ret;exact⟨I,I⟩
 |false=>
  rw[d]at a;obtain⟨i,rfl,q,_⟩:=Uw d;have x:=h.next.cell q;by_cases c:p=(m.g i:Int)
  .have u:(p != (m.g i:Int))=false:=by rw[c];simp
   by_cases l:(m.d:Int)<=p
   .have r:decide ((m.d:Int)<=p)=true:=EU l;clear h f c;go_enter func242,ntmps242;go_wp2_with fail;refine a.o.l ?_;rintro e j ⟨rfl,rfl⟩;go_wp2;go_ret;exact⟨I,I⟩
   have r:decide ((m.d:Int)<=p)=false:=EU l;have y:s.length≠64:=λe=>f ⟨d,c,by omega,e⟩;have v:(((X s).size:Int) != 64)=true:=by rw[o];simp;omega
   generalize X s=t at *;clear h f c;go_enter func242,ntmps242;go_wp2_with fail;refine a.o.l ?_;rintro e j ⟨rfl,rfl⟩;go_wp2;go_ret;exact⟨I,I⟩
  have u:(p != (m.g i:Int))=true:=EU c;go_enter func242,ntmps242;go_wp2_with fail;refine a.o.l ?_;rintro e j ⟨rfl,rfl⟩;go_wp2;go_ret;exact⟨I,I⟩
theorem ue(w:Z)(k g o:Nat)(L:Loc)(m:M)(i q:Nat)(s:Du)(A:WF m)(j:s.length=64)(h:CP w k g o L m)(d:IE m (i:Nat)=false)(a:i<m.a)(H:q=m.g i)(l:q<m.d):Calls prog 242 #[.c o,.a i,.a q,.string (X s)] w λe w'=>e=.a (.bool (Gk m i q s).1)/\CP w' k g o L (Gk m i q s).2/\Ed k g w w':=by
 have C:=J (KA w k g o L m (i:Nat) h);rw[d]at C;have v:=J (Wv w k g o L m A h);have c0:=EM.c0 h;have c2:=EM.c2 h;have N:=h.next.cell a;rw[<-H]at N;have Q:(X s).size=64:=by rw[EF];exact j
 have K:=λn (_:n<=64)=>(Ka s 0 n:(X s).extract 0 n=_);obtain⟨t,T⟩:=E (X s);have u:=J T;rw[<-T]at Q K |-;have P:((t.size:Int) != 64)=false:=by rw[Q];decide
 have V:t.size<=64:=U;have S:64<=t.size:=U;change Hid _ at K;have b:((q:Int) != (q:Int))=false:=EJ;have W:decide ((m.d:Int)<=(q:Int))=false:=EL;have S:=A.j;have W:=A.k;have P:=A.h;have V:=A.f;change Hid _ at H;have G:q<=16:=Dz A.b;clear T Q d;rcases UA m.b m.fail with j|j|j|j
 .have p:Hid (Gk m i q s=(true,GX (G8 (tick m) i q s) i (q+1))):=AD j;rw[j]at v;clear j;go_enter func242,ntmps242;go_wp2_with fail;refine C.o.l ?_;rintro e B ⟨rfl,rfl⟩;go_wp2_with fail;refine v.o.l ?_;rintro e f ⟨rfl,b,r⟩;have d1:=EM.c1 b;have d2:=EM.c2 b;have D:=b.data.cell a;have F:=(b.e i a).cell l;have T:=(b.e i a).frozen q;have d:CP (f.setCell ⟨L.rw i,q,none⟩ (.string t)) k g o L (G8 (tick m) i q s):=by have:=EM.KE b i q a l s;rw[u.o];exact this
  have e2:=EM.c2 d;have G:=d.next.cell a;have y:=d.next.frozen i;have u:CP ((f.setCell ⟨L.rw i,q,none⟩ (.string t)).setCell (O L.c i) (.a ((q+1:Nat):Int))) k g o L (GX (G8 (tick m) i q s) i (q+1)):=EM.p d i (q+1);have R:Ed k g B ((f.setCell ⟨L.rw i,q,none⟩ (.string t)).setCell (O L.c i) (.a ((q+1:Nat):Int))):=(r.set (h.k i a) q _).set h.h i _;have c:(f.setCell ⟨L.rw i,q,none⟩ (.string t)).cell? (O L.c i)=some (.a q):=by rw[G];show some (Value.int .i64 ((m.g i:Nat):Int))=_;rw[<-H.o]
  change Hid _ at u R;clear h d b r G N c0 c2;simp only[id,tick,G8]at d1 d2 D F e2;rw[show((q+1:Nat):Int)=(q:Int)+1 by omega]at u R;go_wp2;go_ret;refine⟨Ku (by rw[p.o]),?_,R⟩;rw[p.o];exact u
 .have p:Hid (Gk m i q s=(false,GX (Lc (G8 (tick m) i q (s.take m.part.toNat)) i true) i (q+1))):=by unfold Gk;rw[j];exact I
  rw[j]at v;clear j;go_enter func242,ntmps242;go_wp2_with fail;refine C.o.l ?_;rintro e B ⟨rfl,rfl⟩;go_wp2_with fail;refine v.o.l ?_;rintro e f ⟨rfl,b,r⟩;obtain⟨c,x⟩:∃n:Nat,m.part=(n:Int):=As S;have A:c<=63:=U;have d1:=EM.c1 b;have Q:=EM.c7 b;have D:=b.data.cell a;have F:=(b.e i a).cell l;have T:=(b.e i a).frozen q;have d:CP (f.setCell ⟨L.rw i,q,none⟩ (.string (t.extract 0 c))) k g o L (G8 (tick m) i q (s.take c)):=by have:=EM.KE b i q a l (s.take c);rw[K.o c U];exact this
  have e3:=EM.c3 d;have eb:=d.b.cell a;have y:=d.b.frozen i;have u:CP ((f.setCell ⟨L.rw i,q,none⟩ (.string (t.extract 0 c))).setCell (O L.a i) (.bool true)) k g o L (Lc (G8 (tick m) i q (s.take c)) i true):=EM.QQ d i true;have f2:=EM.c2 u;have G:=u.next.cell a;have fz:=u.next.frozen i;have z:CP (((f.setCell ⟨L.rw i,q,none⟩ (.string (t.extract 0 c))).setCell (O L.a i) (.bool true)).setCell (O L.c i) (.a ((q+1:Nat):Int))) k g o L (GX (Lc (G8 (tick m) i q (s.take c)) i true) i (q+1)):=EM.p u i (q+1);have y:Ed k g B (((f.setCell ⟨L.rw i,q,none⟩ (.string (t.extract 0 c))).setCell (O L.a i) (.bool true)).setCell (O L.c i) (.a ((q+1:Nat):Int))):=((r.set (h.k i a) q _).set h.o i _).set h.h i _;have R:((f.setCell ⟨L.rw i,q,none⟩ (.string (t.extract 0 c))).setCell (O L.a i) (.bool true)).cell? (O L.c i)=some (.a q):=by rw[G];show some (Value.int .i64 ((m.g i:Nat):Int))=_;rw[<-H.o]
  change Hid _ at z y x;clear h d b r u G N c0 c2 S W P V;simp only[id,tick,G8,Lc]at d1 Q D F e3 eb f2;rw[x.o]at Q;rw[show((q+1:Nat):Int)=(q:Int)+1 by omega]at z y;have u:(c:Int)<=(t.size:Int):=U;go_wp2;go_region;go_wp2;go_ret;refine⟨Ku (by rw[p.o]),?_,y.o.drew⟩;rw[p.o,x.o];exact EM.drew z
 .have p:Hid (Gk m i q s=(false,GX (G8 (tick m) i q (s.take m.cut.toNat)) i (q+1))):=by unfold Gk;rw[j];exact I
  rw[j]at v;clear j;go_enter func242,ntmps242;go_wp2_with fail;refine C.o.l ?_;rintro e B ⟨rfl,rfl⟩;go_wp2_with fail;refine v.o.l ?_;rintro e f ⟨rfl,b,r⟩;obtain⟨c,x⟩:∃n:Nat,m.cut=(n:Int):=As P;have A:c<=63:=U;have d1:=EM.c1 b;have d5:=EM.j b;have D:=b.data.cell a;have F:=(b.e i a).cell l;have T:=(b.e i a).frozen q;have d:CP (f.setCell ⟨L.rw i,q,none⟩ (.string (t.extract 0 c))) k g o L (G8 (tick m) i q (s.take c)):=by have:=EM.KE b i q a l (s.take c);rw[K.o c U];exact this
  have f2:=EM.c2 d;have G:=d.next.cell a;have fz:=d.next.frozen i;have z:CP ((f.setCell ⟨L.rw i,q,none⟩ (.string (t.extract 0 c))).setCell (O L.c i) (.a ((q+1:Nat):Int))) k g o L (GX (G8 (tick m) i q (s.take c)) i (q+1)):=EM.p d i (q+1);have y:Ed k g B ((f.setCell ⟨L.rw i,q,none⟩ (.string (t.extract 0 c))).setCell (O L.c i) (.a ((q+1:Nat):Int))):=(r.set (h.k i a) q _).set h.h i _;have R:(f.setCell ⟨L.rw i,q,none⟩ (.string (t.extract 0 c))).cell? (O L.c i)=some (.a q):=by rw[G];show some (Value.int .i64 ((m.g i:Nat):Int))=_;rw[<-H.o]
  change Hid _ at z y x;clear h d b r G N c0 c2 S W P V;simp only[id,tick,G8]at d1 d5 D F f2;rw[x.o]at d5;rw[show((q+1:Nat):Int)=(q:Int)+1 by omega]at z y;have u:(c:Int)<=(t.size:Int):=U;go_wp2;go_region;go_wp2;go_ret;refine⟨Ku (by rw[p.o]),?_,y.o.drew⟩;rw[p.o,x.o];exact EM.drew z
 have p:Hid (Gk m i q s=(false,tick m)):=by unfold Gk;rw[j];exact I
 rw[j]at v;clear j;go_enter func242,ntmps242;go_wp2_with fail;refine C.o.l ?_;rintro e B ⟨rfl,rfl⟩;go_wp2_with fail;refine v.o.l ?_;rintro e f ⟨rfl,b,r⟩;change Hid _ at b;go_wp2;go_ret;refine⟨Ku (by rw[p.o]),?_,r⟩;rw[p.o];exact b
def Is(m:M)(i n:Nat):M:={m with c:=λa b=>if a=i/\b<n then[]else m.c a b}
theorem jq(m:M)(i:Nat):Is m i 0=m:=by
 unfold Is;have:(λa b=>if a=i/\b<0 then[]else m.c a b)=m.c:=by funext a b;rw[AC U]
 rw[this]
theorem lH(m:M)(i k:Nat):G8 (Is m i k) i k []=Is m i (k+1):=by
 unfold G8 Is;have:(λa b=>if a=i/\b=k then[]else if a=i/\b<k then[]else m.c a b)=(λa b=>if a=i/\b<k+1 then[]else m.c a b):=by
  funext a b;by_cases e:a=i
  .by_cases e2:b=k
   .rw[AD ⟨e,e2⟩,AD ⟨e,by omega⟩]
   rw[AC (λh=>e2 h.2)];by_cases e3:b<k
   .rw[AD ⟨e,e3⟩,AD ⟨e,by omega⟩]
   rw[AC (λh=>e3 h.2),AC (λh=>e3 U)]
  rw[AC (λh=>e h.1),AC (λh=>e h.1),AC (λh=>e h.1)]
 show({m with c:=_}:M)=_;rw[<-this]
theorem oH(m:M)(i a b:Nat):GX (GX m i a) i b=GX m i b:=by
 unfold GX;have:(λx=>if x=i then b else if x=i then a else m.g x)=λx=>if x=i then b else m.g x:=by
  funext x;by_cases e:x=i
  .rw[AD e,AD e]
  rw[AC e,AC e,AC e]
 show({m with g:=_}:M)=_;rw[<-this]
def Jc(m:M)(i:Nat):Bool×M:=
 if(E7 m.b m.fail).1=0 then(true,GX (Is (tick m) i m.d) i 0)
 else if(E7 m.b m.fail).1=1 then(false,Lc (tick m) i true)
 else if(E7 m.b m.fail).1=2 then(false,GX (Is (tick m) i (m.cut.toNat%m.d)) i m.d)
 else(false,tick m)
theorem mD:X []={data:=#[]}:=rfl
theorem vJ(w:Z)(p c r:Nat)(L:Loc)(m:M)(i:Nat)(G:WF m)(h:CP w p c r L m)(b:IE m (i:Nat)=false)(a:i<m.a)(l:c<=w.heap.size):Calls prog 125 #[.c r,.a i] w λe w'=>e=.a (.bool (Jc m i).1)/\CP w' p c r L (Jc m i).2/\Ed p c w w':=by
 have A:=J (KA w p c r L m (i:Nat) h);rw[b]at A;have u:=J (Wv w p c r L m G h);have an:=G.h;have ax:=G.f;have d:=G.e;have f:=G.b;have z:=J h;clear b h;rcases UA m.b m.fail with d|d|d|d
 .have o:Hid (Jc m i=(true,GX (Is (tick m) i m.d) i 0)):=AD d;rw[d]at u;clear d;go_enter func125,ntmps125;go_wp2_with fail;refine A.o.l ?_;rintro e H ⟨rfl,rfl⟩;go_wp2_with fail;refine u.o.l ?_;rintro e y ⟨rfl,f,g⟩;have x:=g.size;have R:c<=y.s:=AG l x;have d0:=EM.c0 f;have q:=J f;clear f;simp only[tick]at d0;go_wp2;go_loopw [7] (λj wr=>∃k:Nat,k<=m.d/\j=.a k/\CP wr p c r L (Is (tick m) i k)/\Ed p c H wr) (λj _=>m.d-(intOf j).toNat)
  case atStart=>exact⟨0,by omega,I,by rw[jq];exact q.o,g⟩
  clear g;obtain⟨k,d,rfl,b,s⟩:=hrel;by_cases am:k<m.d
  .have d1:=EM.c1 b;have V:=b.data.cell a;have G:=(b.e i a).cell (show k<m.d by omega);have dz:=(b.e i a).frozen k;have au:k<m.d:=U;have C:CP (wr.setCell ⟨L.rw i,k,none⟩ (.string (X (id [])))) p c r L (Is (tick m) i (k+1)):=by have:=EM.KE b i k a (by omega:k<m.d) [];rw[<-lH];exact this
   have F:=s.set (z.o.k i a) k (.string (X (id [])));have B:=J C;have D:=J F;clear b s C F;simp only[Is,tick]at d1 V G;try rw[mD]at B D
   go_wp2;go_roundw
   case rel=>exact⟨k+1,by omega,by go_num,B.o,D.o⟩
   case measure=>simp[intOf];omega
  have S:m.d=k:=U;subst S;have d2:=EM.c2 b;have W:=b.next.cell a;have df:=b.next.frozen i;have t:CP (wr.c L.c i (.a ((0:Nat):Int))) p c r L (GX (Is (tick m) i m.d) i 0):=EM.p b i 0;have v:=s.set z.o.h i (.a ((0:Nat):Int));have K:=J t;have P:=J v;clear t v b s;simp only[Is,tick]at d2 W;rw[show((0:Nat):Int)=0 from I]at K P;go_wp2;go_ret;refine⟨Ku (by rw[o.o]),?_,P.o⟩;rw[o.o];exact K.o
 .have o:Hid (Jc m i=(false,Lc (tick m) i true)):=by unfold Jc;rw[d];exact I
  rw[d]at u;clear d;go_enter func125,ntmps125;go_wp2_with fail;refine A.o.l ?_;rintro e H ⟨rfl,rfl⟩;go_wp2_with fail;refine u.o.l ?_;rintro e y ⟨rfl,f,g⟩;have x:=g.size;have R:c<=y.s:=AG l x;have d0:=EM.c0 f;have q:=J f;clear f;simp only[tick]at d0;have d3:=EM.c3 q.o;have Q:=q.o.b.cell a;have df:=q.o.b.frozen i;have K:=J (EM.QQ q.o i true);have P:=J (g.set z.o.o i (.bool true));clear g;simp only[tick]at d3 Q;go_wp2;go_ret;refine⟨Ku (by rw[o.o]),?_,P.o⟩;rw[o.o];exact K.o
 .have o:Hid (Jc m i=(false,GX (Is (tick m) i (m.cut.toNat%m.d)) i m.d)):=by unfold Jc;rw[d];exact I
  rw[d]at u;clear d;go_enter func125,ntmps125;go_wp2_with fail;refine A.o.l ?_;rintro e H ⟨rfl,rfl⟩;go_wp2_with fail;refine u.o.l ?_;rintro e y ⟨rfl,f,g⟩;have x:=g.size;have R:c<=y.s:=AG l x;have d0:=EM.c0 f;have q:=J f;clear f;simp only[tick]at d0;obtain⟨Q,T⟩:∃n:Nat,m.cut=(n:Int):=As an;have d5:=EM.j q.o;simp only[tick]at d5;rw[T]at d5 o;simp only[Int.toNat_natCast]at o;clear an ax;have K:(m.d:Int)≠0:=U;have K:((m.d:Int)==0)=false:=EL;have am:Q%m.d<m.d:=BU _ U;have K:Hid ((Q:Int)%(m.d:Int)=((Q%m.d:Nat):Int)):=I;have P:=J T;clear T;go_wp2;go_region;go_wp2;rw[K.o];generalize T:Q%m.d=N at *;have K:=J T;clear T;have T:=J (EM.drew q.o);have v:=g.drew;clear q g;go_loopw [7] (λj wr=>∃k:Nat,k<=N/\j=.a k/\CP wr p c r L (Is (tick m) i k)/\Ed p c H wr) (λj _=>N-(intOf j).toNat)
  case atStart=>exact⟨0,by omega,I,by rw[jq];exact T.o,v⟩
  clear v;obtain⟨k,d,rfl,b,s⟩:=hrel;by_cases am:k<N
  .have d1:=EM.c1 b;have V:=b.data.cell a;have G:=(b.e i a).cell (show k<m.d by omega);have dz:=(b.e i a).frozen k;have au:k<m.d:=U;have C:CP (wr.setCell ⟨L.rw i,k,none⟩ (.string (X (id [])))) p c r L (Is (tick m) i (k+1)):=by have:=EM.KE b i k a (by omega:k<m.d) [];rw[<-lH];exact this
   have F:=s.set (z.o.k i a) k (.string (X (id [])));have B:=J C;have D:=J F;clear b s C F;simp only[Is,tick]at d1 V G;try rw[mD]at B D
   go_wp2;go_roundw
   case rel=>exact⟨k+1,by omega,by go_num,B.o,D.o⟩
   case measure=>simp[intOf];omega
  have S:N=k:=U;subst S;have d2:=EM.c2 b;have W:=b.next.cell a;have df:=b.next.frozen i;have t:CP (wr.c L.c i (.a ((0:Nat):Int))) p c r L (GX (Is (tick m) i N) i 0):=EM.p b i 0;have v:=s.set z.o.h i (.a ((0:Nat):Int));have r:=EM.c2 t;have p:=EM.c0 t;have B:=t.next.cell a;have D:=t.next.frozen i;have a:=EM.p t i m.d;have T:=v.set z.o.h i (.a (m.d:Int));have C:=J a;have F:=J T;clear t v b s a T;simp only[Is,GX,tick]at d2 W p r B;rw[show((0:Nat):Int)=0 from I]at C F r p B D;go_wp2;go_region;go_wp2;go_ret;refine⟨Ku (by rw[o.o]),?_,F.o.drew⟩;rw[o.o,<-oH _ i 0 m.d];exact EM.drew C.o
 have o:Hid (Jc m i=(false,tick m)):=by unfold Jc;rw[d];exact I
 rw[d]at u;clear d;go_enter func125,ntmps125;go_wp2_with fail;refine A.o.l ?_;rintro e H ⟨rfl,rfl⟩;go_wp2_with fail;refine u.o.l ?_;rintro e y ⟨rfl,f,g⟩;have x:=g.size;have R:c<=y.s:=AG l x;have d0:=EM.c0 f;have q:=J f;clear f;simp only[tick]at d0;go_wp2;go_ret;refine⟨Ku (by rw[o.o]),?_,g⟩;rw[o.o];exact q.o
end Y
end Go.Proofs.YtodmdkhdbfbfgaaGreatDoor
