/- Lemmas. -/
import Derived.Deep.RegionHeld3
import Derived.OrdersIn
import Derived.Test.YtodmdkhdbfbfgaaGreatDoorProg
import Derived.Laws.Rows
import Derived.Laws.BitsLemmas
import Derived.Below
import Derived.RowKit
import Derived.WalkKit
import Derived.WalkSpells
import Derived.WalkLawsBesides
import Derived.Deep.QuietTactic
import Derived.BigQuiet
import Derived.Outline
import Derived.Deep.OwnRows
import Derived.Laws.BytesArg
import Derived.Laws.CopyOwn
import Derived.Lib.Strings
import Derived.Lib.AppendStr
set_option linter.unusedVariables false
set_option linter.unusedSimpArgs false
set_option maxRecDepth 100000
set_option maxHeartbeats 8000000
open Go.Proofs.Tryz
theorem Go.RowKit.Hid.o{p:Prop}(h:Hid p):p:=h
theorem Go.Shut.o{p:Prop}(h:Shut p):p:=h.out
abbrev Go.D7:=World
abbrev Go.D8:=List UInt8
abbrev Go.AB:=@Nat.le_refl
abbrev Go.AC:=@if_neg
abbrev Go.AD:=@List.getElem?_eq_getElem
abbrev Go.AE:=@if_pos
abbrev Go.AF:=@Nat.le_trans
abbrev Go.AG:=@Go.cell_of_row
abbrev Go.AH:=@Go.RowKit.Below.heap_setCell
abbrev Go.AI:=@List.getD_eq_getElem?_getD
abbrev Go.AJ:=@Go.World.cell?_of_block
abbrev Go.AK:=@Go.heap_setCell_same
abbrev Go.AM:=@Go.RowKit.Below.refl
abbrev Go.AN:=@List.length_append
abbrev Go.AO:=@Go.RowKit.Below.heap_alloc
abbrev Go.AP:=@List.getElem?_eq_some_iff
abbrev Go.AQ:=@Go.heap_alloc_new
abbrev Go.AR:=@Nat.lt_of_lt_of_le
abbrev Go.AT:=@List.take_of_length_le
abbrev Go.AU:=@Nat.zero_le
abbrev Go.AV:=@congrArg
abbrev Go.AW:=@Bool.and_eq_true_iff
abbrev Go.AX:=@List.drop_eq_getElem_cons
abbrev Go.AY:=@List.length_cons
abbrev Go.Ab:=@List.mem_of_getElem?
abbrev Go.Ad:=@List.getElem?_append_right
abbrev Go.Ae:=@List.length_take
abbrev Go.Af:=@Bool.and_eq_true
abbrev Go.Ah:=@List.take_add_one
abbrev Go.Ai:=@Go.info_parts
abbrev Go.Aj:=@Go.World.block_lt_of_cell?
abbrev Go.Ak:=@List.getElem?_take_of_lt
abbrev Go.Al:=@Go.frozen_of_row
abbrev Go.Am:=@List.mem_map
abbrev Go.An:=@List.mem_append
abbrev Go.Ao:=@Nat.zero_add
abbrev Go.Ap:=@List.append_assoc
abbrev Go.Aq:=@List.map_append
abbrev Go.As:=@List.mem_cons
abbrev Go.Av:=@Go.IntKind.wrap_i64
abbrev Go.Aw:=@List.getElem?_eq_none
abbrev Go.Ax:=@List.getElem?_append_left
abbrev Go.Ay:=@Int.eq_ofNat_of_zero_le
abbrev Go.Az:=@Array.getElem?_eq_some_iff
abbrev Go.BB:=@List.all_eq_true
abbrev Go.BC:=@List.mem_filter
abbrev Go.BD:=@Nat.pow_le_pow_right
abbrev Go.BG:=@Nat.mul_comm
abbrev Go.BH:=@List.nil_append
abbrev Go.BI:=@beq_eq_false_iff_ne
abbrev Go.BJ:=@decide_eq_true_eq
abbrev Go.BK:=@List.size_toArray
abbrev Go.BL:=@UInt8.toNat_inj
abbrev Go.BM:=@Nat.mod_lt
abbrev Go.BN:=@List.length_eq_zero_iff
abbrev Go.BO:=@Go.AllReadyIn.cons
abbrev Go.BQ:=@List.getElem?_map
abbrev Go.BR:=@List.cons_append
abbrev Go.BS:=@Bool.false_eq_true
abbrev Go.BU:=@List.map_congr_left
abbrev Go.BX:=@Int.tdiv_eq_ediv_of_nonneg
abbrev Go.BY:=@Array.replicate_zero
abbrev Go.BZ:=@Array.replicate_succ
abbrev Go.B0:=@List.range_succ
abbrev Go.B7:=@List.length_nil
abbrev Go.B9:=@List.append_toArray
abbrev Go.Ba:=@Nat.mul_le_mul_right
abbrev Go.Bb:=@List.map_cons
abbrev Go.Bc:=@decide_eq_false
abbrev Go.Bd:=@Int.toNat_natCast
abbrev Go.Be:=@List.setIfInBounds_toArray
abbrev Go.Bf:=@List.eq_nil_of_length_eq_zero
abbrev Go.Bh:=@Go.wpAnyH_take
abbrev Go.Bi:=@Nat.mod_eq_of_lt
abbrev Go.Bj:=@List.push_toArray
abbrev Go.Bl:=@List.getElem_of_mem
abbrev Go.Bn:=@List.length_map
abbrev Go.Bo:=@List.length_drop
abbrev Go.Bp:=@List.getElem_mem
abbrev Go.Bq:=@List.any_eq_true
abbrev Go.Br:=@Nat.add_zero
abbrev Go.Bt:=@List.length_pos_iff
abbrev Go.Bu:=@List.contains_iff_mem
abbrev Go.Bv:=@Array.getElem?_toList
abbrev Go.Bw:=@UInt8.toNat_ofNat'
abbrev Go.Bx:=@getElem!_pos
abbrev Go.By:=@Nat.pow_succ
abbrev Go.Bz:=@Int.toNat_of_nonneg
abbrev Go.CA:=@List.getLast?_eq_some_getLast
abbrev Go.CB:=@List.set_append_right
abbrev Go.CC:=@Option.isSome_iff_exists
abbrev Go.CD:=@List.append_nil
abbrev Go.CE:=@List.pairwise_mergeSort
abbrev Go.CF:=@List.mem_cons_of_mem
abbrev Go.CG:=@List.nodup_append
abbrev Go.CH:=@List.mem_range
abbrev Go.CI:=@List.mergeSort_perm
abbrev Go.CK:=@Go.AllReadyH.cons
abbrev Go.CL:=@List.pairwise_iff_getElem
abbrev Go.CM:=@Nat.lt_or_ge
abbrev Go.CN:=@Nat.le_of_lt
abbrev Go.CQ:=@Go.wpAnyIn_ready
abbrev Go.CR:=@of_decide_eq_true
abbrev Go.CS:=@Nat.le_succ_of_le
abbrev Go.CT:=@List.pairwise_map
abbrev Go.CU:=@List.flatten_cons
abbrev Go.CV:=@Go.AllReadyIn.nil
abbrev Go.CX:=@List.drop_eq_nil_of_le
abbrev Go.CY:=@Nat.mul_assoc
abbrev Go.CZ:=@List.take_length
abbrev Go.C0:=@List.countP_cons
abbrev Go.C6:=@if_false
abbrev Go.C7:=@List.getElem?_drop
abbrev Go.Ca:=@List.take_append_drop
abbrev Go.Cc:=@List.getLastD_eq_getLast?
abbrev Go.Cd:=@List.exists_mem_of_ne_nil
abbrev Go.Ce:=@Nat.min_eq_left
abbrev Go.Cf:=@Nat.le_of_eq
abbrev Go.Cg:=@Nat.add_mul
abbrev Go.Ch:=@List.map_map
abbrev Go.Ci:=@List.Perm.eq_of_pairwise
abbrev Go.Cl:=@Array.length_toList
abbrev Go.Cm:=@decide_eq_true
abbrev Go.Cn:=@Nat.mul_le_mul
abbrev Go.Cp:=@Nat.le_succ
abbrev Go.Cq:=@Nat.sub_zero
abbrev Go.Cr:=@Nat.div_div_eq_div_mul
abbrev Go.Cs:=@Nat.add_sub_cancel
abbrev Go.Ct:=@List.map_nil
abbrev Go.Cu:=@List.filter_append
abbrev Go.Cx:=@Nat.add_assoc
abbrev Go.Cy:=@List.ext_getElem?
abbrev Go.DA:=@Nat.pow_pos
abbrev Go.DB:=@List.mem_iff_getElem
abbrev Go.DE:=@List.getElem?_range
abbrev Go.DF:=@List.take_append_getElem
abbrev Go.DH:=@Bool.or_eq_true
abbrev Go.DI:=@beq_iff_eq
abbrev Go.DJ:=@Nat.eq_zero_or_pos
abbrev Go.DK:=@List.pairwise_cons
abbrev Go.DM:=@Array.size_append
abbrev Go.DO:=@List.length_filter_le
abbrev Go.DP:=@List.countP_mono_left
abbrev Go.DR:=@List.mem_reverse
abbrev Go.DS:=@Nat.one_mul
abbrev Go.DT:=@Nat.mul_one
abbrev Go.DU:=@List.getElem?_set_ne
abbrev Go.DX:=@Option.some.inj
abbrev Go.DY:=@Nat.max_eq_left
abbrev Go.DZ:=@Go.AllReadyH.nil
abbrev Go.D4:=@Nat.mul_le_mul_left
abbrev Go.D5:=@Nat.sub_self
namespace Go.Proofs.YtodmdkhdbfbfgaaGreatDoor
theorem Jj{P:Program}{f:FuncId}{a:Array Value}{w:D7}{r:Ending}{K:Ending->D7->Prop}(h:Calls P f a w fun e w'=>e=r/\w'=w)(k:K r w):Calls P f a w K:=h.mono (by rintro _ _ ⟨rfl,rfl⟩;exact k)
theorem Jq{A:Type _}(a:A):∃x,x=a:=⟨a,rfl⟩
theorem zP(l:List Value)(d:_)(i:Nat)(v:Value):Act.put ⟨l.toArray,d⟩ (some i) v=⟨(l.set i v).toArray,d⟩:=by simp[Act.put]
theorem tk{P:Program}{ops:Array Oper}{Q:Exit->Act->D7->Prop}{md:Region.Mode}{S:D7->Prop}(i:Nat)(oi:Oper)(v:Value){fuel:Nat}{listed:Array Bool}{a:Act}{w:D7}(hi:ops[i]? = some oi)(hy:∀w,S w->(execOp a.eval oi).run P w=.ok (.value v) w)(hS:S w)(h:wpAnyH P md ops Q S fuel (listed.setIfInBounds i true) (a.put oi.dst v) w)
 (hc:(Region.noSelect ops&&Region.free md ops listed i&&(Region.ready md ops listed).contains i&&Region.wanted oi (yielded ops a.tmps))=true:=by kernel_rfl) (hQ:∀c a w,Q (.panic c) (a.put oi.dst v) w->Q (.panic c) a w:=by exact λ_ _ _ h=>h):wpAnyH P md ops Q S (fuel+1) listed a w:=by
 simp only[Af]at hc
 exact Bh hi hc.1.1.1 hc.1.1.2 hc.1.2 hQ (Or.inl ⟨hc.2,hy⟩) hS h
theorem rd{P:Program}{ops:Array Oper}{Q:Exit->Act->D7->Prop}{md:Region.Mode}{S:D7->Prop}(i:Nat){o:Oper}{fuel:Nat}{listed:Array Bool}{a:Act}{w:D7}(ho:ops[i]? = some o)
 (h:∀K':Act->D7->Prop,Shut (∀a w,S w->(S w->wpAnyH P md ops Q S fuel (listed.setIfInBounds i true) a w)->K' a w)->if Region.wanted o (yielded ops a.tmps)=true then Oper.wp P o a w K' Q else K' (a.put o.dst undef) w) (hr:Region.ready md ops listed=[i]:=by kernel_rfl):wpAnyH P md ops Q S (fuel+1) listed a w:=
 wpAnyH_ready hr (by simp) (CK ho h DZ)
theorem IC{F:Fence}{n:Nat}{P:Program}{ops:Array Oper}{Q:Exit->Act->D7->Prop}{md:Region.Mode}(i:Nat){o:Oper}{fuel:Nat}{listed:Array Bool}{a:Act}{w:D7}(hr:Region.ready md ops listed=[i])(ho:ops[i]? = some o)
 (h:∀K':Act->D7->Prop,(∀a w,wpAnyIn F n P md ops Q fuel (listed.setIfInBounds i true) a w->K' a w)->if Region.wanted o (yielded ops a.tmps)=true then Oper.wpIn F n P o a w K' Q else(∀f,o.about P w a.eval=some f->F.fn f)/\K' (a.put o.dst undef) w):wpAnyIn F n P md ops Q (fuel+1) listed a w:=
 CQ hr (by simp) (BO ho h CV)
end Go.Proofs.YtodmdkhdbfbfgaaGreatDoor
namespace Go
theorem Dv{w:D7}{g:Nat}{t:TypeId}{l:List Value}{fr:Nat × Nat}{v:Value}(k:Nat)(h:w.heap[g]? = some (.cells (List.toArray l) t fr))(hv:l[k]? = some v:=by rfl):w.cell? ⟨g,k,none⟩=some v:=by
 rw[AG w g k _ t fr h];simpa using hv
theorem Zx{w:D7}{g:Nat}{t:TypeId}{l:List Value}{fr:Nat × Nat}{v:Value}(k:Nat)(h:w.heap[g]? = some (.cells (List.toArray l) t fr))(hv:l[k]? = some v:=by rfl):w.drew.cell? ⟨g,k,none⟩=some v:=Dv (w:=w.drew) k h hv
theorem FU{w:D7}{g:Nat}{t:TypeId}{a:Array Value}(k:Nat)(h:w.heap[g]? = some (.cells a t (0,0))):w.frozen? ⟨g,k,none⟩=false:=Al w g k _ t h
theorem K5{W w:D7}{o:Obj}{z:Nat}(h:W=w.alloc o)(hz:w.heap.size=z:=by rfl):W.heap[z]? = some o:=by rw[h,<-hz];exact AQ _ _
theorem L0{W w:D7}{o:Obj}{z:Nat}(h:W=w.alloc o)(hz:w.heap.size=z:=by rfl):W.heap.size=z+1:=by rw[h,<-hz];simp
theorem zW{x:Int}(h:-9223372036854775808<=x:=by omega)(h2:x<=9223372036854775807:=by omega):IntKind.i64.wrap x=x:=by rw[Av];omega
end Go
namespace Go.RowKit
theorem KD{W w:D7}{o:Obj}(h:W=w.alloc o):Below w.heap.size w W:=by rw[h];exact(AM _ w).alloc (AB _) _
theorem Nu{w:D7}{o:Obj}:Below w.heap.size w (w.alloc o):=(AM _ w).alloc (AB _) _
theorem Below.zA{B:Nat}{a w:D7}{o:Obj}(h:Below B a w)(hB:B<=w.heap.size:=by first | exact AB _ | omega | (simp;omega)):Below B a (w.alloc o):=h.alloc hB o
theorem Below.zS{B:Nat}{a w:D7}{p:Addr}{u:Value}(h:Below B a w)(hp:B<=p.block:=by first | exact AB _ | omega | (simp;omega)):Below B a (w.setCell p u):=h.setCell hp u
theorem Below.zM{B B':Nat}{w w':D7}(h:Below B w w')(hB:B'<=B:=by omega):Below B' w w':=h.mono hB
theorem Below.zK{B:Nat}{w w':D7}(h:Below B w w')(k:Nat)(hk:k<B:=by omega):w'.heap[k]? = w.heap[k]? := h.block k hk
theorem Lh{w:D7}{o:Obj}{k:Nat}(h:k<w.heap.size:=by omega):(w.alloc o).heap[k]? = w.heap[k]? := AO w o k h
end Go.RowKit
namespace Go.Proofs.YtodmdkhdbfbfgaaGreatDoor
namespace S1.Pk
def wt(x:Int):Int:=if 0<x then 2^(12 - x).toNat else 0
def sumTo(z:Nat->Int):Nat->Int
 | 0=>0
 | k+1=>sumTo z k+wt (z k)
def cnt(z:Nat->Int)(d:Nat):Nat->Nat
 | 0=>0
 | k+1=>cnt z d k+if z k=(d:Int)then 1 else 0
def Is(z:Nat->Int)(n:Nat):Nat->Nat
 | 0=>0
 | d+1=>2*Is z n d+cnt z (d+1) n
def num(z:Nat->Int)(n s:Nat):Nat:=2*Is z n ((z s).toNat - 1)+cnt z (z s).toNat s
def part(z:Nat->Int)(d:Nat):Nat->Nat
 | 0=>0
 | k+1=>part z d k+if 1<=z k/\z k<=(d:Int)then 2^(12 - (z k).toNat)else 0
theorem TV(z:Nat->Int)(d n:Nat):cnt z d n<=n:=by
 induction n with
 | zero=>simp[cnt]
 | succ n ih=>simp only[cnt];split<;>omega
theorem cnt_mono(z:Nat->Int)(d:Nat){s n:Nat}(h:s<=n):cnt z d s<=cnt z d n:=by
 induction n with
 | zero=>have:s=0:=by omega
         subst this;exact AB _
 | succ n ih =>
   by_cases e:s=n+1
   ·subst e;exact AB _
   have:=ih (by omega)
   simp only[cnt];omega
theorem cnt_lt(z:Nat->Int)(d:Nat){s n:Nat}(h:s<n)(hz:z s=d):cnt z d s<cnt z d n:=by
 have h1:cnt z d (s+1)=cnt z d s+1:=by simp[cnt,hz]
 have:=cnt_mono z d (show s+1<=n by omega)
 omega
theorem iZ(z:Nat->Int)(n:Nat):part z 0 n=0:=by
 induction n with
 | zero=>rfl
 | succ n ih=>simp only[part,ih];rw[AC (by omega)]
theorem pV(z:Nat->Int)(d n:Nat):part z (d+1) n=part z d n+cnt z (d+1) n*2^(12 - (d+1)):=by
 induction n with
 | zero=>simp[part,cnt]
 | succ n ih =>
   simp only[part,cnt,ih];by_cases e:z n=((d+1:Nat):Int)
   ·rw[AE (by omega),AC (by omega),AE e,e,Bd,Cg];omega
   rw[AC e];by_cases e2:1<=z n/\z n<=(d:Int)
   ·rw[AE (by omega),AE e2];simp;omega
   rw[AC (by omega),AC e2];simp
theorem nU(z:Nat->Int)(n d:Nat)(hd:d<=12):Is z n d*2^(12 - d)=part z d n:=by
 induction d with
 | zero=>simp[Is,iZ]
 | succ d ih =>
   have h:=ih (by omega);rw[pV,<-h,Is,Cg];have e:2^(12 - d)=2*2^(12 - (d+1)):=by
    rw[show 12 - d=(12 - (d+1))+1 by omega,By];omega
   rw[e,BG 2 (Is z n d),CY]
theorem SE(z:Nat->Int){d e:Nat}(n:Nat)(h:d<=e):part z d n<=part z e n:=by
 induction n with
 | zero=>simp[part]
 | succ n ih =>
   simp only[part];by_cases h1:1<=z n/\z n<=(d:Int)
   ·rw[AE h1,AE (by omega)];omega
   rw[AC h1];omega
theorem rk(z:Nat->Int)(n:Nat)(h:∀k,k<n->0<=z k/\z k<=12):sumTo z n=(part z 12 n:Nat):=by
 induction n with
 | zero=>simp[sumTo,part]
 | succ n ih =>
   have hn:=h n (by omega);simp only[sumTo,part,ih (λk hk=>h k (by omega)),wt];by_cases e:0<z n
   ·rw[AE e,AE (by omega)]
    have:(12 - z n).toNat=12 - (z n).toNat:=by omega
    rw[this];simp
   rw[AC e,AC (by omega)];simp
theorem rz(z:Nat->Int)(n:Nat)(h:∀k,k<n->0<=z k/\z k<=12):0<=sumTo z n/\sumTo z n<=2048*n:=by
 induction n with
 | zero=>simp[sumTo]
 | succ n ih =>
   have hn:=h n (by omega);have hi:=ih (λk hk=>h k (by omega));have hw:0<=wt (z n)/\wt (z n)<=2048:=by
    unfold wt
    split
    ·have:(12 - z n).toNat<=11:=by omega
     have h2:=BD (show 0<2 by omega) this;have h3:((2:Int)^(12 - z n).toNat)=((2^(12 - z n).toNat:Nat):Int):=by simp
     rw[h3]
     generalize 2^(12 - z n).toNat=p at h2
     omega
    omega
   simp only[sumTo];omega
structure Fits (z:Nat->Int) (n:Nat):Prop where
 QW:∀k,k<n->0<=z k/\z k<=12
 sum:sumTo z n<=4096
theorem eY(z:Nat->Int)(n d:Nat)(hf:Fits z n)(hd:d<=12):Is z n d<=2^d:=by
 have h1:=nU z n d hd;have h2:=SE z n hd;have h3:=rk z n hf.QW;have h4:=hf.sum;have h5:part z 12 n<=4096:=by omega
 have h6:Is z n d*2^(12 - d)<=2^d*2^(12 - d):=by
  rw[<-Nat.pow_add,show d+(12 - d)=12 by omega];simp;omega
 exact Nat.le_of_mul_le_mul_right h6 (Nat.two_pow_pos _)
theorem US(z:Nat->Int)(n s:Nat)(h1:1<=z s)(hs:s<n):num z n s<Is z n (z s).toNat:=by
 obtain⟨d,hd⟩:∃d:Nat,(z s).toNat=d+1:=⟨(z s).toNat - 1,by omega⟩
 have:=cnt_lt z (z s).toNat hs (by omega)
 unfold num;rw[hd]at this ⊢;simp only[Is,Cs];omega
theorem QP(z:Nat->Int)(n s:Nat)(hf:Fits z n)(hs:s<n)(h1:1<=z s):num z n s<2^(z s).toNat:=by
 have h:=US z n s h1 hs
 have:=hf.QW s hs
 have:=eY z n (z s).toNat hf (by omega)
 omega
theorem lC(z:Nat->Int)(n d e:Nat):Is z n d*2^e<=Is z n (d+e):=by
 induction e with
 | zero=>simp
 | succ e ih =>
   rw[By,<-CY,<-Cx,Is];omega
theorem fW(z:Nat->Int)(n s t:Nat)(hs:s<n)(ht:t<n)(hst:s≠t)(h1:1<=z s)(h2:z s<=z t) :
 num z n s≠num z n t/2^((z t).toNat - (z s).toNat):=by
 by_cases e:z s=z t
 ·rw[e,D5,Nat.pow_zero,Nat.div_one];unfold num;rw[e];rcases Nat.lt_or_gt_of_ne hst with h | h
  ·have:=cnt_lt z (z t).toNat h (by omega);omega
  have:=cnt_lt z (z t).toNat h (by omega);omega
 have a1:=US z n s h1 hs;obtain⟨q,hq⟩:∃q:Nat,(z t).toNat=(z s).toNat+q+1:=⟨(z t).toNat - (z s).toNat - 1,by omega⟩;have a0:Is z n (z s).toNat*2^(q+1)<=num z n t:=by
  have h:=lC z n (z s).toNat q;unfold num;rw[hq,Cs,By,<-CY];omega
 rw[show(z t).toNat - (z s).toNat=q+1 by omega]
 have:Is z n (z s).toNat<=num z n t/2^(q+1):=(Nat.le_div_iff_mul_le (Nat.two_pow_pos _)).2 a0
 omega
end S1.Pk
namespace S1
open Go.RowKit
variable {w w':D7} {n b:Nat} {z:Nat->Int} {t:TypeId} {p q:Addr}
theorem jK(n:Int):bits .and .i64 n 1=n%2:=by
 have h1:(BitVec.ofInt 64 1).toNat=2^1 - 1:=by decide
 have key:(BitVec.ofInt 64 n &&& BitVec.ofInt 64 1).toNat=(n%((2^64:Nat):Int)).toNat%2^1:=by
  rw[BitVec.toNat_and,BitVec.toNat_ofInt,h1,Nat.and_two_pow_sub_one_eq_mod]
 show IntKind.i64.wrap ((BitVec.ofInt 64 n &&& BitVec.ofInt 64 1).toNat:Nat)=n%2;rw[key,Av];omega
def IntsIn(w:D7)(a:Option Addr)(n:Nat)(z:Nat->Int):Prop:=
 0<n->∃b off,a=some ⟨b,off,none⟩/\∀k,k<n->w.cell? ⟨b,off+k,none⟩=some (.int .i64 (z k))
theorem IntsIn.below{a:Option Addr}(h:IntsIn w a n z)(hb:Below w.heap.size w w'):IntsIn w' a n z:=by
 intro hn;obtain⟨b,off,rfl,hc⟩:=h hn;refine⟨b,off,rfl,λk hk => ?_⟩;rw[hb.cell (p:=⟨b,off+k,none⟩) (Aj w _ (hc k hk))];exact hc k hk
theorem Mc{f:Nat->Value}{B:Nat}(h:w.rowIs b t n f)(hb:Below B w w')(hlt:b<B):w'.rowIs b t n f:=
 h.of_block (hb.block b hlt)
theorem Yc(h:w.rowIs b t n (λj=>.int .i64 (z j))):IntsIn w (some ⟨b,0,none⟩) n z:=
 λ_=>⟨b,0,rfl,λk hk=>by rw[Ao];exact h.cell hk⟩
theorem Ws(v:Value)(h:q.block≠p.block):(w.setCell p v).cell? q=w.cell? q:=AJ (AH w p v _ h)
theorem Xn(v:Value)(h:q.block≠p.block):(w.setCell p v).frozen? q=w.frozen? q:=World.frozen?_of_block (AH w p v _ h)
theorem KH{k:IntKind}{a b:Int}(h:a=b):Ending.returned (.int k a)=.returned (.int k b):=by rw[h]
theorem Ir{a b:Bool}(h:a=b):Ending.returned (.bool a)=.returned (.bool b):=by rw[h]
def D9(l:D8):ByteArray:=⟨l.toArray⟩
theorem Dd(l:D8):(D9 l).size=l.length:=by simp[D9,ByteArray.size]
theorem qJ{P:Program}(t e:TypeId)(z x y:Value)(bytes:Nat)(ht:P.underlying t=some (.slice e))(hinfo:(P.info? e).map (λi=>(i.zero,i.size,i.bytes))=some (some z,2,bytes))(hz1:z.cells=#[x,y])
 (kl kc:IntKind) (n:Nat) (hbytes:bytes*n<=281474976710656) (h63:n<=9223372036854775807) (w:D7) :
 (Instr.makeSlice t (.int kl (n:Int)) (.int kc (n:Int))).run P w=.ok (.slice (some ⟨w.heap.size,0,none⟩) n n) (w.alloc (.cells (madeCells #[x,y] (n*2)) e)):=by
 obtain⟨i,hi,hz,hs,hb⟩:=Ai hinfo;have a0:(i.bytes:Int)*(n:Int)<=281474976710656:=by
  have h:((i.bytes*n:Nat):Int)<=281474976710656:=by rw[hb];omega
  rwa[Int.natCast_mul]at h
 have hr:=run_make (P:=P) w t e i z ht hi hz kl kc n n (by omega) (Int.le_refl _) a0 (by omega);simp only[Bd,hs,hz1]at hr;exact hr
theorem pL(w:D7)(x y:Value)(n:Nat)(t:TypeId):(w.alloc (.cells (madeCells #[x,y] (n*2)) t)).rowIs w.heap.size t (n*2) (λj=>if j%2=0 then x else y):=
 ⟨_,AQ _ _,size_madeCells _ _,λi hi=>by
  have:i%2=0\/i%2=1:=by omega
  rcases this with h | h<;>simp[madeCells,hi,h]⟩
end S1
namespace S1
open Go.RowKit Pk
theorem Fz:(prog.info? 5).map (λi=>(i.zero,i.size,i.bytes))=some (some (.int .u8 0),1,1):=by kernel_rfl
theorem eP(z:Nat->Int)(k:Nat)(n:Nat)(hn:n<=288)(hk:k<n)(hr:∀j,j<k->0<=z j/\z j<=12)(h:0<=z k/\z k<=12)(hp:0<z k) :
 wrap64 (sumTo z k+wrap64 (2^(12 - z k).toNat))=sumTo z (k+1):=by
 have hb:=rz z k hr;have h1:(12 - z k).toNat<=11:=by omega
 have h2:=BD (show 0<2 by omega) h1;have h3:((2:Int)^(12 - z k).toNat)=((2^(12 - z k).toNat:Nat):Int):=by simp
 simp only[sumTo,wt,AE hp];rw[h3]
 generalize 2^(12 - z k).toNat=p at h2
 unfold wrap64;omega
theorem fL(z:Nat->Int)(k:Nat)(hp:z k<=0):sumTo z k=sumTo z (k+1):=by
 simp only[sumTo,wt,AC (show ¬0<z k by omega)];omega
theorem mA(a:Option Addr)(n cap:Nat)(z:Nat->Int)(w:D7)(hn:n<=288)(hz:IntsIn w a n z)(m:Nat)(hm:m<n)(hbad:¬(0<=z m/\z m<=12))(hg:∀j,j<m->0<=z j/\z j<=12) :
 Calls prog 259 #[.slice a n cap] w λe w'=>e=.returned (.int .i64 1)/\w'=w:=by
 obtain⟨b,off,rfl,hc⟩:=hz (by omega);have Hg:Hid (∀j,j<m->0<=z j/\z j<=12):=hg;clear hg;have a1:Hid (¬(0<=z m/\z m<=12)):=hbad;clear hbad;have Hc:Hid (∀k,k<n->w.cell? { block:=b,off:=off+k }=some (Value.int IntKind.i64 (z k))):=hc;clear hc;go_enter func259,ntmps259
 go_wp2
 go_loop [3,11] (λs i=>∃k:Nat,k<=m/\i=.int .i64 k/\s=.int .i64 (sumTo z k)) (λ_ i=>n - (intOf i).toNat)
 case atStart=>exact⟨0,AU _,rfl,rfl⟩
 case round =>
  obtain⟨k,hk,rfl,rfl⟩:=hrel;have a2:k<n:=by omega
  have a4:=Hc.o k a2;by_cases a0:k=m
  ·have hb:z k<0\/12<z k:=by have:=a1.o;rw[a0];omega
   clear a0;rcases hb with hb | hb
   ·go_wp2;go_ret
    exact⟨rfl,rfl⟩
   have h0:¬z k<0:=by omega
   go_wp2;go_ret
   exact⟨rfl,rfl⟩
  have a3:=Hg.o k (by omega);have Hl:Hid (k<m):=(by omega:k<m);clear a0;have h0:¬z k<0:=by omega
  have h1:¬12<z k:=by omega
  by_cases hp:0<z k
  ·go_wp2
   go_round
   case rel=>exact⟨k+1,Hl.o,by go_num,by rw[eP z k n hn a2 (λj hj=>Hg.o j (Nat.lt_trans hj Hl.o)) a3 hp]⟩
   case measure=>simp[intOf];omega
  go_wp2
  go_round
  case rel=>exact⟨k+1,Hl.o,by go_num,by rw[fL z k (by omega)]⟩
  case measure=>simp[intOf];omega
theorem XE(a:Option Addr)(n cap:Nat)(z:Nat->Int)(w:D7)(hn:n<=288)(hz:IntsIn w a n z)(hg:∀j,j<n->0<=z j/\z j<=12) :
 Calls prog 259 #[.slice a n cap] w λe w'=>e=.returned (.int .i64 (if 4096<sumTo z n then 2 else 0))/\w'=w:=by
 have Hg:Hid (∀j,j<n->0<=z j/\z j<=12):=hg;clear hg;go_enter func259,ntmps259
 go_wp2
 go_loop [3,11] (λs i=>∃k:Nat,k<=n/\i=.int .i64 k/\s=.int .i64 (sumTo z k)) (λ_ i=>n - (intOf i).toNat)
 case atStart=>exact⟨0,AU _,rfl,rfl⟩
 case round =>
  obtain⟨k,hk,rfl,rfl⟩:=hrel;by_cases a0:k<n
  ·obtain⟨b,off,rfl,hc⟩:=hz (by omega);have a3:=hc k a0;clear hc hz;have a1:=Hg.o k a0;have h0:¬z k<0:=by omega
   have h1:¬12<z k:=by omega
   by_cases hp:0<z k
   ·go_wp2
    go_round
    case rel=>exact⟨k+1,by omega,by go_num,by rw[eP z k n hn a0 (λj hj=>Hg.o j (by omega)) a1 hp]⟩
    case measure=>simp[intOf];omega
   go_wp2
   go_round
   case rel=>exact⟨k+1,by omega,by go_num,by rw[fL z k (by omega)]⟩
   case measure=>simp[intOf];omega
  have a2:k=n:=by omega
  subst a2;by_cases hs:4096<sumTo z k
  ·go_wp2;go_ret
   exact⟨rfl,rfl⟩
  go_wp2;go_ret
  exact⟨rfl,rfl⟩
theorem QB:(prog.info? 284).map (λi=>(i.zero,i.size,i.bytes))=some (some (.agg #[.int .i64 0,.int .i64 0]),2,16):=by kernel_rfl
def Fh(z:Nat->Int)(n d k j:Nat):Value:=
 if 1<=z (j/2)/\(z (j/2)<d\/(z (j/2)=d/\j/2<k))then(if j%2=0 then .int .i64 (num z n (j/2))else .int .i64 (z (j/2)))else .int .i64 0
theorem TC{α:Type}{c d:Prop}[Decidable c][Decidable d](h:c↔d)(x y:α):(if c then x else y)=if d then x else y:=by
 by_cases hc:c
 ·rw[AE hc,AE (h.1 hc)]
 rw[AC hc,AC (λhd=>hc (h.2 hd))]
theorem Se{z:Nat->Int}{n d k j:Nat}(h:1<=z (j/2)/\(z (j/2)<d\/(z (j/2)=d/\j/2<k))) :
 Fh z n d k j=if j%2=0 then .int .i64 (num z n (j/2))else .int .i64 (z (j/2)):=AE h
theorem UY{z:Nat->Int}{n d k j:Nat}(h:¬(1<=z (j/2)/\(z (j/2)<d\/(z (j/2)=d/\j/2<k)))) :
 Fh z n d k j=.int .i64 0:=AC h
theorem om(z:Nat->Int)(n j:Nat):(if j%2=0 then Value.int .i64 0 else .int .i64 0)=Fh z n 1 0 j:=by
 rw[UY (by omega)]
 split<;>rfl
theorem jF(z:Nat->Int)(n d j:Nat)(hj:j<n*2):Fh z n d n j=Fh z n (d+1) 0 j:=by
 unfold Fh;exact TC (by omega) _ _
theorem qO(z:Nat->Int)(n d k j:Nat)(h:z k≠(d:Int)):Fh z n d k j=Fh z n d (k+1) j:=by
 unfold Fh;by_cases e:j/2=k
 ·rw[e];exact TC (by omega) _ _
 exact TC (by omega) _ _
theorem jX(z:Nat->Int)(n d k j:Nat)(h:z k=((d+1:Nat):Int)) :
 (if j=k*2+1 then Value.int .i64 ((d+1:Nat):Int)else if j=k*2 then .int .i64 ((2*Is z n d+cnt z (d+1) k:Nat):Int)else Fh z n (d+1) k j)=Fh z n (d+1) (k+1) j:=by
 by_cases e:j=k*2+1
 ·rw[AE e];have e1:j/2=k:=by omega
  rw[Se (by rw[e1];omega),e1,AC (by omega),h]
 rw[AC e];by_cases e2:j=k*2
 ·rw[AE e2];have e1:j/2=k:=by omega
  rw[Se (by rw[e1];omega),e1,AE (by omega)];unfold num;rw[h,Bd,Cs]
 rw[AC e2];have e1:j/2≠k:=by omega
 unfold Fh;exact TC (by omega) _ _
theorem ix{w:D7}{b:Nat}{t:TypeId}{n:Nat}{f:Nat->Value}(h:w.rowIs b t n f)(i:Nat)(u v:Value) :
 ((w.setCell ⟨b,i,none⟩ u).setCell ⟨b,i+1,none⟩ v).rowIs b t n (λj=>if j=i+1 then v else if j=i then u else f j):=(h.set i u).set (i+1) v
theorem lf(a:Option Addr)(n cap:Nat)(z:Nat->Int)(w:D7)(hn:n<=288)(hz:IntsIn w a n z)(hf:Fits z n) :
 Calls prog 248 #[.slice a n cap] w λe w'=>e=.returned (.slice (some ⟨w.heap.size,0,none⟩) n n)/\Below w.heap.size w w'/\w'.rowIs w.heap.size 284 (n*2) (Fh z n 13 0):=by
 have ad:=qJ (P:=prog) 275 284 (.agg #[.int .i64 0,.int .i64 0]) (.int .i64 0) (.int .i64 0) 16 underlying275 QB rfl .i64 .i64 n (by omega) (by omega);go_enter func248,ntmps248
 go_wp2
 go_loopw [4,5] (λx i wr=>∃d:Nat,d<=12/\i=.int .i64 (d+1:Nat)/\x=.int .i64 (Is z n d)/\Below w.heap.size w wr/\wr.rowIs w.heap.size 284 (n*2) (Fh z n (d+1) 0)) (λ_ i _=>13 - (intOf i).toNat)
 case atStart =>
  refine⟨0,by omega,rfl,rfl,(AM _ _).alloc (AB _) _,?_⟩;exact(pL w (.int .i64 0) (.int .i64 0) n 284).congr λj _=>om z n j
 case round =>
  obtain⟨d,hd,rfl,rfl,a1,a0⟩:=hrel;by_cases aa:d<12
  ·have a5:Is z n d<=4096:=AF (eY z n d hf hd) (BD (by omega) hd);go_wp2
   go_loopw [4,19] (λx i wr=>∃k:Nat,k<=n/\i=.int .i64 k/\x=.int .i64 (2*Is z n d+cnt z (d+1) k:Nat)/\Below w.heap.size w wr/\wr.rowIs w.heap.size 284 (n*2) (Fh z n (d+1) k)) (λ_ i _=>n - (intOf i).toNat)
   case atStart=>exact⟨0,by omega,rfl,by simp[cnt,Int.mul_comm],a1,a0⟩
   clear a1 a0;obtain⟨k,hk,rfl,rfl,a1,a0⟩:=hrel;by_cases a2:k<n
   ·obtain⟨b,off,rfl,hc⟩:=hz (by omega);have ae:wr.cell? { block:=b,off:=off+k }=some (Value.int IntKind.i64 (z k)):=by
     rw[a1.cell (p:=⟨b,off+k,none⟩) (Aj w _ (hc k a2))];exact hc k a2
    have ac:cnt z (d+1) k<=k:=TV _ _ _;clear hc hz;by_cases he:z k=((d+1:Nat):Int)
    ·have a9:=a0.frozen (k*2);have af:=a0.frozen (k*2+1);obtain⟨v0,a7⟩:∃v,wr.cell? ⟨w.heap.size,k*2,none⟩=some v:=⟨_,a0.cell (by omega)⟩;obtain⟨v1,a8⟩:∃v,wr.cell? ⟨w.heap.size,k*2+1,none⟩=some v:=⟨_,a0.cell (by omega)⟩;have a6:(z k==(d:Int)+1)=true:=by rw[he];simp
     have He:Hid (z k=((d+1:Nat):Int)):=he;clear he;go_wp2;go_roundw
     case rel =>
      refine⟨k+1,by omega,by go_num,?_,(a1.setCell (AB _) _).setCell (AB _) _,?_⟩
      ·have:cnt z (d+1) (k+1)=cnt z (d+1) k+1:=by simp only[cnt];rw[AE He.o]
       rw[this];go_num
      exact(ix a0 (k*2) _ _).congr λj _=>jX z n d k j He.o
     case measure=>simp[intOf];omega
    have a6:(z k==(d:Int)+1)=false:=by simpa using he
    have He:Hid (z k≠((d+1:Nat):Int)):=he;clear he;go_wp2;go_roundw
    case rel =>
     refine⟨k+1,by omega,by go_num,?_,a1,?_⟩
     ·have:cnt z (d+1) (k+1)=cnt z (d+1) k:=by simp only[cnt];rw[AC He.o,Br]
      rw[this]
     exact a0.congr λj _=>qO z n (d+1) k j He.o
    case measure=>simp[intOf];omega
   have a4:k=n:=by omega
   have Hk:Hid (k=n):=a4;clear a4;go_wp2;go_roundw
   case rel =>
    refine⟨d+1,by omega,by go_num,by rw[Is,Hk.o],a1,?_⟩;rw[Hk.o]at a0;exact a0.congr λj hj=>jF z n (d+1) j hj
   case measure=>simp[intOf];omega
  have a3:d=12:=by omega
  subst a3;go_wp2;go_ret
  exact⟨rfl,a1,a0⟩
def QF(z:Nat->Int)(n s:Nat):Nat:=if 1<=z s then num z n s else 0
theorem jv(z:Nat->Int)(n s:Nat)(hf:Fits z n)(hs:s<n):Fh z n 13 0 (s*2)=.int .i64 (QF z n s)/\Fh z n 13 0 (s*2+1)=.int .i64 ((z s).toNat:Nat):=by
 have:=hf.QW s hs
 have e0:s*2/2=s:=by omega
 have e1:(s*2+1)/2=s:=by omega
 unfold QF;by_cases h:1<=z s
 ·rw[Se (by rw[e0];omega),Se (by rw[e1];omega),e0,e1,AE (show s*2%2=0 by omega),AC (show ¬(s*2+1)%2=0 by omega),AE h,Bz (by omega)];exact⟨rfl,rfl⟩
 rw[UY (by rw[e0];omega),UY (by rw[e1];omega),AC h,show(z s).toNat=0 by omega];exact⟨rfl,rfl⟩
theorem JK:(prog.info? 9).map (λi=>(i.zero,i.size,i.bytes))=some (some (.string ⟨#[]⟩),1,16):=by kernel_rfl
end S1
namespace S1
open Go.RowKit
variable {w w':D7} {g B n:Nat} {a:Option Addr}
theorem Kl:(prog.info? 40).map (λi=>(i.zero,i.size,i.bytes))=some (some (.slice none 0 0),1,24):=by kernel_rfl
def Kf(w:D7)(a:Option Addr)(n:Nat)(f:Nat->ByteArray):Prop:=
 0<n->∃b off,a=some ⟨b,off,none⟩/\∀k,k<n->w.cell? ⟨b,off+k,none⟩=some (.string (f k))
def Dj(w:D7)(B:Nat)(mk:Value)(a:Option Addr)(n:Nat):Prop:=
 0<n->∃g cur,a=some ⟨g,0,none⟩/\B<=g/\w.heap[g]? = some (.cells cur 9 (0,0))/\∀j,j<n->cur[j]? = some mk
theorem lt_of_heap{o:Obj}(h:w.heap[g]? = some o):g<w.heap.size:=(Az.1 h).1
theorem Dj.below{mk:Value}(h:Dj w B mk a n)(hb:Below w.heap.size w w'):Dj w' B mk a n:=by
 intro hn;obtain⟨g,a0,rfl,hg,hh,hc⟩:=h hn;exact⟨g,a0,rfl,hg,(hb.block g (lt_of_heap hh)).trans hh,hc⟩
theorem Dj.grown{mk:Value}{row:Option Nat}(h:Dj w B mk a n)(hg:w.grownBy w' row)(hne:∀g cur,row=some g->w.heap[g]? ≠ some (.cells cur 9 (0,0))):Dj w' B mk a n:=by
 intro hn;obtain⟨g,cur,rfl,hB,hh,hc⟩:=h hn;refine⟨g,cur,rfl,hB,(hg.block g (lt_of_heap hh) (λe=>hne g cur e.symm hh)).trans hh,hc⟩
theorem Dj.cell{mk:Value}(h:Dj w B mk a n)(hn:0<n):∃g,a=some ⟨g,0,none⟩/\∀j,j<n->w.cell? ⟨g,j,none⟩=some mk:=by
 obtain⟨g,a0,rfl,hB,hh,hc⟩:=h hn;exact⟨g,rfl,λj hj=>by rw[AG w g j a0 9 (0,0) hh,hc j hj]⟩
theorem Mj{base:Nat}{e:TypeId}{size:Nat}{v:Value}{xs:List Value}(h:w.ownsRow base e size v n xs)(hg:v.ownBlock=some g) :
 ∃cur cap,v=.slice (some ⟨g,0,none⟩) n cap/\base<=g/\w.heap[g]? = some (.cells cur e (0,0))/\cur.toList.take (n*size)=xs:=by
 rcases h.2 with⟨rfl,_⟩ | ⟨g',cap,cur,rfl,hb,hh,h1,h2,h3,h4⟩
 ·simp[Value.ownBlock]at hg
 simp[Value.ownBlock]at hg;subst hg;exact⟨cur,cap,rfl,hb,hh,h4⟩
def Marks(w:D7)(B:Nat)(v:Value)(n:Nat)(mk:Value):Prop:=
 ∃(O co:Nat) (A:Nat->Option Addr) (C:Nat->Nat),v=.slice (some ⟨O,0,none⟩) 4 co/\B<=O/\∀p,p<4->w.cell? ⟨O,p,none⟩=some (.slice (A p) (n+p) (C p))/\Dj w B mk (A p) (n+p)
end S1
namespace S1
open Go.RowKit Pk
theorem gr(z:Nat->Int)(n:Nat):(∀j,j<n->0<=z j/\z j<=12)\/∃q,q<n/\¬(0<=z q/\z q<=12)/\∀j,j<q->0<=z j/\z j<=12:=by
 induction n with
 | zero=>exact .inl λj hj=>absurd hj (by omega)
 | succ n ih =>
   rcases ih with h | ⟨q,hq,hb,hg⟩
   ·by_cases hn:0<=z n/\z n<=12
    ·refine .inl λj hj => ?_
     by_cases e:j=n
     ·subst e;exact hn
     exact h j (by omega)
    exact .inr ⟨n,by omega,hn,h⟩
   exact .inr ⟨q,by omega,hb,hg⟩
end S1
namespace S1.Pk
def M1(f:Nat->Nat):Nat->Nat
 | 0=>0
 | d+1=>2*M1 f d+f d
def bt(s:D8)(i:Nat):Nat:=(s.getD (i/8) 0).toNat/2^(7 - i%8)%2
def val(s:D8)(p d:Nat):Nat:=M1 (λi=>bt s (p+i)) d
theorem TM(s:D8)(i:Nat):bt s i<2:=BM _ (by omega)
theorem sC(f:Nat->Nat)(hf:∀i,f i<2)(d:Nat):M1 f d<2^d:=by
 induction d with
 | zero=>simp[M1]
 | succ d ih=>have:=hf d;simp only[M1,By];omega
theorem Qb(s:D8)(p d:Nat):val s p d<2^d:=sC _ (λi=>TM s _) d
theorem pR(s:D8)(p:Nat):val s p 0=0:=rfl
theorem Me(s:D8)(p d:Nat):val s p (d+1)=2*val s p d+bt s (p+d):=rfl
theorem nP(s:D8)(p:Nat):val s p 1=bt s p:=by simp[val,M1]
theorem ZC(s:D8)(p d e:Nat):val s p (d+e)/2^e=val s p d:=by
 induction e with
 | zero=>simp
 | succ e ih =>
   rw[<-Cx,Me,By,BG (2^e) 2,<-Cr]
   have:=TM s (p+(d+e))
   rw[show(2*val s p (d+e)+bt s (p+(d+e)))/2=val s p (d+e) by omega,ih]
def upd(z:Nat->Int)(p:Nat)(x:Int):Nat->Int:=λj=>if j=p then x else z j
def EZ(s:D8):Nat->Nat->Nat->(Nat->Int)->Option ((Nat->Int) × Nat)
 | 0,p,pos,z=>if p=288 then some (z,pos)else none
 | f+1,p,pos,z =>
   if p=288 then some (z,pos)
   else if 8*s.length<pos+4 then none
   else if val s pos 4≠0 then EZ s f (p+1) (pos+4) (upd z p (val s pos 4))
   else if 8*s.length<pos+9 then none
   else if 288<p+1+val s (pos+4) 5 then none
   else EZ s f (p+1+val s (pos+4) 5) (pos+9) z
theorem YU(s:D8)(f pos:Nat)(z:Nat->Int):EZ s f 288 pos z=some (z,pos):=by
 cases f<;>simp[EZ]
theorem mB(s:D8)(f p pos:Nat)(z:Nat->Int)(hp:p<288)(hf:288<=p+f)(h:8*s.length<pos+4):EZ s f p pos z=none:=by
 cases f with
 | zero=>omega
 | succ f=>rw[EZ,AC (by omega),AE h]
theorem fO(s:D8)(f p pos:Nat)(z:Nat->Int)(hp:p<288)(h:¬8*s.length<pos+4)(hv:val s pos 4≠0) :
 EZ s (f+1) p pos z=EZ s f (p+1) (pos+4) (upd z p (val s pos 4)):=by
 rw[EZ,AC (by omega),AC h,AE hv]
theorem lu(s:D8)(f p pos:Nat)(z:Nat->Int)(hp:p<288)(h:¬8*s.length<pos+4)(hv:val s pos 4=0)(h2:8*s.length<pos+9) :
 EZ s (f+1) p pos z=none:=by
 rw[EZ,AC (by omega),AC h,AC (by omega),AE h2]
theorem lT(s:D8)(f p pos:Nat)(z:Nat->Int)(hp:p<288)(h:¬8*s.length<pos+4)(hv:val s pos 4=0)(h2:¬8*s.length<pos+9)(h3:288<p+1+val s (pos+4) 5) :
 EZ s (f+1) p pos z=none:=by
 rw[EZ,AC (by omega),AC h,AC (by omega),AC h2,AE h3]
theorem XQ(s:D8)(f p pos:Nat)(z:Nat->Int)(hp:p<288)(h:¬8*s.length<pos+4)(hv:val s pos 4=0)(h2:¬8*s.length<pos+9)(h3:¬288<p+1+val s (pos+4) 5) :
 EZ s (f+1) p pos z=EZ s f (p+1+val s (pos+4) 5) (pos+9) z:=by
 rw[EZ,AC (by omega),AC h,AC (by omega),AC h2,AC h3]
def hit(s:D8)(z:Nat->Int)(pos i:Nat):Bool:=
 decide (1<=z i)&&(decide (pos+(z i).toNat<=8*s.length)&&decide (num z 288 i=val s pos (z i).toNat))
theorem Ob(s:D8)(z:Nat->Int)(pos i:Nat):hit s z pos i=true↔1<=z i/\pos+(z i).toNat<=8*s.length/\num z 288 i=val s pos (z i).toNat:=by
 simp[hit,Af]
def Gw(s:D8)(z:Nat->Int)(pos:Nat):Nat->Option Nat
 | 0=>none
 | n+1=>match Gw s z pos n with
   | some i=>some i
   | none=>if hit s z pos n then some n else none
theorem Xz(s:D8)(z:Nat->Int)(pos n:Nat)(h:∀i,i<n->hit s z pos i=false):Gw s z pos n=none:=by
 induction n with
 | zero=>rfl
 | succ n ih =>
   rw[Gw,ih (λi hi=>h i (by omega))];simp[h n (by omega)]
theorem sq(s:D8)(z:Nat->Int)(pos n i:Nat)(hi:i<n)(hh:hit s z pos i=true)(h:∀j,j<i->hit s z pos j=false):Gw s z pos n=some i:=by
 induction n with
 | zero=>omega
 | succ n ih =>
   by_cases e:i=n
   ·subst e;rw[Gw,Xz s z pos i h];simp[hh]
   rw[Gw,ih (by omega)]
theorem nX(s:D8)(z:Nat->Int)(pos i j:Nat)(hi:i<288)(hj:j<288)(h1:hit s z pos i=true)(h2:hit s z pos j=true):i=j:=by
 rw[Ob]at h1 h2;by_cases e:i=j
 ·exact e
 exfalso
 rcases Int.le_total (z i) (z j)with hle | hle
 ·refine fW z 288 i j hi hj e h1.1 hle ?_;rw[h2.2.2,h1.2.2]
  have:=ZC s pos (z i).toNat ((z j).toNat - (z i).toNat)
  rw[show(z i).toNat+((z j).toNat - (z i).toNat)=(z j).toNat by omega]at this;exact this.symm
 refine fW z 288 j i hj hi (λh=>e h.symm) h2.1 hle ?_;rw[h2.2.2,h1.2.2]
 have:=ZC s pos (z j).toNat ((z i).toNat - (z j).toNat)
 rw[show(z j).toNat+((z i).toNat - (z j).toNat)=(z i).toNat by omega]at this;exact this.symm
theorem Rl(s:D8)(z:Nat->Int)(pos i:Nat)(hi:i<288)(hh:hit s z pos i=true):Gw s z pos 288=some i:=by
 refine sq s z pos 288 i hi hh λj hj => ?_
 cases hb:hit s z pos j with
 | false=>rfl
 | true=>have:=nX s z pos i j hi (by omega) hh hb;omega
def Li(out:D8)(back:Nat):Nat->D8
 | 0=>out
 | k+1=>Li out back k++[(Li out back k).getD ((Li out back k).length - back) 0]
theorem Tp(out:D8)(back k:Nat):(Li out back k).length=out.length+k:=by
 induction k with
 | zero=>rfl
 | succ k ih=>simp[Li,ih];omega
def EX(s:D8)(z:Nat->Int)(N size:Nat):Nat->D8->Nat->Option (D8 × Nat)
 | 0,out,pos=>if size<=out.length then some (out,pos)else none
 | f+1,out,pos =>
   if size<=out.length then some (out,pos)
   else match Gw s z pos N with
    | none=>none
    | some i =>
      if i<256 then EX s z N size f (out++[UInt8.ofNat i]) (pos+(z i).toNat)
      else if 8*s.length<pos+(z i).toNat+12 then none
      else if out.length<val s (pos+(z i).toNat) 12+1\/size<out.length+(i - 253)then none
      else EX s z N size f (Li out (val s (pos+(z i).toNat) 12+1) (i - 253)) (pos+(z i).toNat+12)
theorem Xw(s:D8)(z:Nat->Int)(N size f:Nat)(out:D8)(pos:Nat)(h:size<=out.length):EX s z N size f out pos=some (out,pos):=by
 cases f<;>simp[EX,h]
theorem kN(s:D8)(z:Nat->Int)(N size f:Nat)(out:D8)(pos:Nat)(h:out.length<size)(hs:Gw s z pos N=none):EX s z N size f out pos=none:=by
 cases f with
 | zero=>rw[EX,AC (by omega)]
 | succ f=>rw[EX,AC (by omega),hs]
theorem Wh(s:D8)(z:Nat->Int)(N size f:Nat)(out:D8)(pos i:Nat)(h:out.length<size)(hs:Gw s z pos N=some i)(hi:i<256) :
 EX s z N size (f+1) out pos=EX s z N size f (out++[UInt8.ofNat i]) (pos+(z i).toNat):=by
 rw[EX,AC (by omega),hs];simp[hi]
theorem nh(s:D8)(z:Nat->Int)(N size f:Nat)(out:D8)(pos i:Nat)(h:out.length<size)(hs:Gw s z pos N=some i)(hi:¬i<256)(h2:8*s.length<pos+(z i).toNat+12) :
 EX s z N size (f+1) out pos=none:=by
 rw[EX,AC (by omega),hs];simp[hi,h2]
theorem j7(s:D8)(z:Nat->Int)(N size f:Nat)(out:D8)(pos i:Nat)(h:out.length<size)(hs:Gw s z pos N=some i)(hi:¬i<256)(h2:¬8*s.length<pos+(z i).toNat+12)
 (h3:out.length<val s (pos+(z i).toNat) 12+1\/size<out.length+(i - 253)):EX s z N size (f+1) out pos=none:=by
 rw[EX,AC (by omega),hs];simp only[AC hi,AC h2,AE h3]
theorem Yb(s:D8)(z:Nat->Int)(N size f:Nat)(out:D8)(pos i:Nat)(h:out.length<size)(hs:Gw s z pos N=some i)(hi:¬i<256)(h2:¬8*s.length<pos+(z i).toNat+12)
 (h3:¬(out.length<val s (pos+(z i).toNat) 12+1\/size<out.length+(i - 253))) :
 EX s z N size (f+1) out pos=EX s z N size f (Li out (val s (pos+(z i).toNat) 12+1) (i - 253)) (pos+(z i).toNat+12):=by
 rw[EX,AC (by omega),hs];simp only[AC hi,AC h2,AC h3]
def NG(z:Nat->Int):Nat->Bool
 | 0=>true
 | n+1=>NG z n&&decide (0<=z n/\z n<=12)
theorem lp(z:Nat->Int)(n:Nat):NG z n=true↔∀k,k<n->0<=z k/\z k<=12:=by
 induction n with
 | zero=>simp[NG]
 | succ n ih =>
   rw[NG,Af,ih]
   constructor
   ·intro⟨h1,h2⟩ k hk;by_cases e:k=n
    ·subst e;simpa using h2
    exact h1 k (by omega)
   intro h;exact⟨λk hk=>h k (by omega),by simpa using h n (by omega)⟩
def JO(z:Nat->Int)(n:Nat):Bool:=NG z n&&decide (sumTo z n<=4096)
theorem Vd(z:Nat->Int)(n:Nat):JO z n=true↔Fits z n:=by
 rw[JO,Af,lp]
 constructor
 ·intro⟨h1,h2⟩;exact⟨h1,by simpa using h2⟩
 intro h;exact⟨h.QW,by simpa using h.sum⟩
def GL(s:D8)(N size:Nat):Option D8:=
 match EZ s N 0 0 (λ_=>0)with
 | none=>none
 | some (z,pos) =>
   if JO z N=false then none
   else match EX s z N size size [] pos with
    | none=>none
    | some (out,p)=>if 8*s.length - p<8/\val s p (8*s.length - p)=0 then some out else none
theorem lV(s:D8)(N size:Nat)(h:EZ s N 0 0 (λ_=>0)=none):GL s N size=none:=by
 unfold GL;rw[h]
theorem pz(s:D8)(N size:Nat)(z:Nat->Int)(pos:Nat)(h:EZ s N 0 0 (λ_=>0)=some (z,pos))(hf:JO z N=false):GL s N size=none:=by
 unfold GL;rw[h];simp[hf]
theorem rY(s:D8)(N size:Nat)(z:Nat->Int)(pos:Nat)(h:EZ s N 0 0 (λ_=>0)=some (z,pos))(hf:JO z N=true)(hd:EX s z N size size [] pos=none):GL s N size=none:=by
 unfold GL;rw[h];simp[hf,hd]
theorem Yv(s:D8)(N size:Nat)(z:Nat->Int)(pos p:Nat)(out:D8)(h:EZ s N 0 0 (λ_=>0)=some (z,pos))(hf:JO z N=true)(hd:EX s z N size size [] pos=some (out,p)) :
 GL s N size=if 8*s.length - p<8/\val s p (8*s.length - p)=0 then some out else none:=by
 unfold GL;rw[h];simp[hf,hd]
def Gq(N:Nat)(t:D8):Option D8:=
 match t with
 | []=>none
 | c :: r =>
   if c=0 then(if r.length<=4000 then some r else none)
   else if c=1 then
    (if r.length<2 then none
     else if 256*(r.getD 0 0).toNat+(r.getD 1 0).toNat<1\/4000<256*(r.getD 0 0).toNat+(r.getD 1 0).toNat then none
     else GL (r.drop 2) N (256*(r.getD 0 0).toNat+(r.getD 1 0).toNat))
   else none
theorem Pv(N:Nat)(c:UInt8)(r:D8):Gq N (c :: r) =
 if c=0 then(if r.length<=4000 then some r else none)
 else if c=1 then
  (if r.length<2 then none
   else if 256*(r.getD 0 0).toNat+(r.getD 1 0).toNat<1\/4000<256*(r.getD 0 0).toNat+(r.getD 1 0).toNat then none
   else GL (r.drop 2) N (256*(r.getD 0 0).toNat+(r.getD 1 0).toNat))
 else none:=rfl
theorem qN(N:Nat)(c:UInt8)(r:D8)(h0:c≠0)(h1:c≠1):Gq N (c :: r)=none:=by rw[Pv,AC h0,AC h1]
theorem lA(N:Nat)(r:D8)(h:4000<r.length):Gq N (0 :: r)=none:=by
 rw[Pv,AE rfl,AC (by omega)]
theorem Xv(N:Nat)(r:D8)(h:r.length<=4000):Gq N (0 :: r)=some r:=by
 rw[Pv,AE rfl,AE h]
theorem mc(N:Nat)(r:D8)(h:r.length<2):Gq N (1 :: r)=none:=by
 rw[Pv,AC (by decide),AE rfl,AE h]
theorem mT(N:Nat)(r:D8)(h:¬r.length<2)(h2:256*(r.getD 0 0).toNat+(r.getD 1 0).toNat<1\/4000<256*(r.getD 0 0).toNat+(r.getD 1 0).toNat):Gq N (1 :: r)=none:=by
 rw[Pv,AC (by decide),AE rfl,AC h,AE h2]
theorem YT(N:Nat)(r:D8)(h:¬r.length<2)(h2:¬(256*(r.getD 0 0).toNat+(r.getD 1 0).toNat<1\/4000<256*(r.getD 0 0).toNat+(r.getD 1 0).toNat)) :
 Gq N (1 :: r)=GL (r.drop 2) N (256*(r.getD 0 0).toNat+(r.getD 1 0).toNat):=by
 rw[Pv,AC (by decide),AE rfl,AC h,AC h2]
end S1.Pk
namespace S1
open Go.RowKit Pk
theorem PL(l:D8):Lib.strCells (D9 l)=l.map λb=>Value.int .u8 b.toNat:=by
 unfold Lib.strCells;rfl
theorem strOfNums_bytes(l:D8):strOfNums (l.map λb=>(b.toNat:Int))=D9 l:=by
 unfold strOfNums D9;rw[Ch]
 congr 2
 conv=>rhs;rw[<-List.map_id l]
 apply BU
 intro b _;simp
theorem GY{w:D7}{base:Nat}{v:Value}{n:Nat}{l:D8}(h:w.ownsRow base 5 1 v n (Lib.strCells (D9 l))):(convert 111 9 v).run prog w=.ok (.string (D9 l)) w:=by
 have hl:l.length=n:=by have:=h.1;rw[PL]at this;simpa using this
 rcases h.2 with⟨rfl,rfl⟩ | ⟨g,cap,cur,rfl,hb,hh,h1,h2,h3,h4⟩
 ·obtain rfl:l=[]:=Bf hl;exact run_convert_bytes_nil (P:=prog) w 111 5 underlying111 underlying5 0 0 9 underlying9
 have hc:=run_convert_bytes_arg (P:=prog) w 111 5 underlying111 underlying5 g 0 n cap (l.map λb=>(b.toNat:Int)) (by simpa using hl) (λi hi=>by
  rw[Ao,h.cellAt i (by omega),PL]
  have:i<l.length:=by omega
  simp[this]) 9 underlying9
 rw[strOfNums_bytes]at hc;exact hc
theorem MP(s:D8)(k:Nat)(h:k<(D9 s).size):(D9 s)[k]'h=s.getD k 0:=by
 have h':k<s.length:=by rw[Dd]at h;exact h
 show s.toArray[k]=_;simp[List.getD,h']
theorem Jb(l:D8)(a b:Nat):(D9 l).extract a b=D9 ((l.drop a).take (b - a)):=by
 rw[Lib.extract_eq];rfl
end S1
namespace S1
open Go.RowKit Pk
structure M where
 nb:Nat
 np:Nat
 pg:Nat->Nat->D8
 nx:Nat->Nat
 bd:Nat->Bool
 Da:Int
 cut:Int
 fail:Int
 part:Int
structure WF (m:M):Prop where
 KZ:4<=m.nb
 Iu:m.nb<=32
 Md:4<=m.np
 Jv:m.np<=16
 nx:∀i,i<m.nb->m.nx i<=m.np
 pg:∀i p,i<m.nb->p<m.np->(m.pg i p).length<=64
 KA:-1<=m.Da
 Js:m.Da<=1073741825
 Ia:-1<=m.fail
 Ic:m.fail<=1073741824
 KM:0<=m.cut
 KV:m.cut<=63
 I8:0<=m.part
 Io:m.part<=63
def Rw(w:D7)(b:Nat)(t:TypeId)(n:Nat)(f:Nat->Value):Prop:=∃cur,w.heap[b]? = some (.cells cur t (0,0))/\∀i,i<n->cur[i]? = some (f i)
namespace Rw
variable {w w':D7} {b:Nat} {t:TypeId} {n:Nat} {f g:Nat->Value}
theorem cell(h:Rw w b t n f){i:Nat}(hi:i<n):w.cell? ⟨b,i,none⟩=some (f i):=by
 obtain⟨c,hb,hc⟩:=h;rw[AG w b i c t (0,0) hb,hc i hi]
theorem frozen(h:Rw w b t n f)(i:Nat):w.frozen? ⟨b,i,none⟩=false:=by
 obtain⟨c,hb,_⟩:=h;exact Al w b i c t hb
theorem lt(h:Rw w b t n f):b<w.heap.size:=by obtain⟨c,hb,_⟩:=h;exact lt_of_heap hb
theorem congr(h:Rw w b t n f)(e:∀i,i<n->f i=g i):Rw w b t n g:=by
 obtain⟨c,hb,hc⟩:=h;exact⟨c,hb,λi hi=>by rw[hc i hi,e i hi]⟩
theorem of_block(h:Rw w b t n f)(e:w'.heap[b]? = w.heap[b]?):Rw w' b t n f:=by
 obtain⟨c,hb,hc⟩:=h;exact⟨c,e.trans hb,hc⟩
theorem set(h:Rw w b t n f)(i:Nat)(v:Value):Rw (w.setCell ⟨b,i,none⟩ v) b t n (λj=>if j=i then v else f j):=by
 obtain⟨c,hb,hc⟩:=h;refine⟨_,AK w b i c t v hb,λj hj => ?_⟩;rw[Array.getElem?_setIfInBounds];have hl:j<c.size:=by
  rcases CM j c.size with h | h
  ·exact h
  have:=hc j hj;rw[Array.getElem?_eq_none h]at this;cases this
 by_cases e:i=j
 ·subst e;rw[AE rfl,AE hl];simp
 rw[AC e,hc j hj];show some (f j)=some (if j=i then v else f j);rw[AC (λh=>e h.symm)]
end Rw
theorem LW{w:D7}{b:Nat}{t:TypeId}{n:Nat}{f:Nat->Value}(h:w.rowIs b t n f):Rw w b t n f:=by
 obtain⟨c,h1,_,h3⟩:=h;exact⟨c,h1,h3⟩
theorem TZ{w:D7}{base:Nat}{e:TypeId}{v:Value}{n:Nat}{f:Nat->Value}(h:w.ownsRow base e 1 v n ((List.range n).map f))(hn:0<n):∃g c,v=.slice (some ⟨g,0,none⟩) n c/\base<=g/\Rw w g e n f:=by
 rcases h.2 with⟨_,h0⟩ | ⟨g,cap,cur,rfl,hb,hh,h1,h2,h3,h4⟩
 ·omega
 refine⟨g,cap,rfl,hb,cur,hh,λi hi => ?_⟩
 have:=AV (λl:List Value=>l[i]?) h4
 simpa[hi]using this
structure Dr (lo hi:Nat) (w w':D7):Prop where
 os:w'.os=w.os
 tape:w'.tape=w.tape
 output:w'.output=w.output
 size:w.heap.size<=w'.heap.size
 block:∀k,k<w.heap.size->¬(lo<=k/\k<hi)->w'.heap[k]? = w.heap[k]?
namespace Dr
variable {lo hi:Nat} {a b c:D7}
theorem refl(lo hi:Nat)(w:D7):Dr lo hi w w:=⟨rfl,rfl,rfl,AB _,λ_ _ _=>rfl⟩
theorem trans(h:Dr lo hi a b)(k:Dr lo hi b c):Dr lo hi a c:=
 ⟨k.os.trans h.os,k.tape.trans h.tape,k.output.trans h.output,AF h.size k.size,λi hi' hn=>(k.block i (AR hi' h.size) hn).trans (h.block i hi' hn)⟩
theorem of_below(h:Below a.heap.size a b):Dr lo hi a b:=⟨h.os,h.tape,h.output,h.size,λk hk _=>h.block k hk⟩
theorem drewN(h:Dr lo hi a b)(q:Nat):Dr lo hi a (b.drewN q):=h.trans ⟨rfl,rfl,rfl,AB _,λ_ _ _=>rfl⟩
theorem drew(h:Dr lo hi a b):Dr lo hi a b.drew:=h.trans ⟨rfl,rfl,rfl,AB _,λ_ _ _=>rfl⟩
theorem set(h:Dr lo hi a b){g:Nat}(hg:lo<=g/\g<hi)(o:Nat)(v:Value):Dr lo hi a (b.setCell ⟨g,o,none⟩ v):=
 h.trans ⟨rfl,rfl,rfl,by simp,λk _ hn=>AH b ⟨g,o,none⟩ v k (λe=>hn (by rw[e];exact hg))⟩
theorem below(h:Dr lo hi a b){B:Nat}(hB:B<=lo)(hs:B<=a.heap.size):Below B a b:=
 ⟨h.os,h.tape,h.output,h.size,λk hk=>h.block k (by omega) (by omega)⟩
end Dr
structure Loc where
 db:Nat
 nk:Nat
 bk:Nat
 rw:Nat->Nat
 cd:Nat
 cn:Nat
 ck:Nat
 cr:Nat->Nat
structure Db (w:D7) (lo hi cb:Nat) (T:TypeId) (L:Loc) (m:M) (enc:D8->D8) (g4 g5 g6 g7:Int):Prop where
 Fg:lo<=cb/\cb<hi
 Kp:lo<=L.db/\L.db<hi
 I0:lo<=L.nk/\L.nk<hi
 GW:lo<=L.bk/\L.bk<hi
 Kq:∀i,i<m.nb->lo<=L.rw i/\L.rw i<hi
 inj:∀i j,i<m.nb->j<m.nb->L.rw i=L.rw j->i=j
 hT:T≠40/\T≠3/\T≠4/\T≠9
 st:w.heap[cb]? = some (.cells #[.int .i64 m.np,.slice (some ⟨L.db,0,none⟩) m.nb L.cd,.slice (some ⟨L.nk,0,none⟩) m.nb L.cn,.slice (some ⟨L.bk,0,none⟩) m.nb L.ck,.int .i64 g4,.int .i64 g5,.int .i64 g6,.int .i64 g7] T (0,0))
 data:Rw w L.db 40 m.nb (λi=>.slice (some ⟨L.rw i,0,none⟩) m.np (L.cr i))
 next:Rw w L.nk 3 m.nb (λi=>.int .i64 (m.nx i:Nat))
 bad:Rw w L.bk 4 m.nb (λi=>.bool (m.bd i))
 Ey:∀i,i<m.nb->Rw w (L.rw i) 9 m.np (λp=>.string (D9 (enc (m.pg i p))))
theorem LO{w:D7}{i j:Nat}{c c':Array Value}{t t':TypeId}{f f':Nat × Nat}(h:w.heap[i]? = some (.cells c t f))(h':w.heap[j]? = some (.cells c' t' f'))(hne:t≠t'):i≠j:=by
 intro e;subst e;rw[h]at h';simp at h';exact hne h'.2.1
theorem Rw.other{w:D7}{b:Nat}{t:TypeId}{n:Nat}{f:Nat->Value}(h:Rw w b t n f){g o:Nat}(hne:b≠g)(v:Value):Rw (w.setCell ⟨g,o,none⟩ v) b t n f:=
 h.of_block (AH w ⟨g,o,none⟩ v b hne)
namespace Db
variable {w w':D7} {lo hi cb:Nat} {T:TypeId} {L:Loc} {m:M} {enc:D8->D8} {g4 g5 g6 g7:Int}
theorem Dn(h:Db w lo hi cb T L m enc g4 g5 g6 g7)(e:∀k,lo<=k->k<hi->w'.heap[k]? = w.heap[k]?):Db w' lo hi cb T L m enc g4 g5 g6 g7:=
 ⟨h.Fg,h.Kp,h.I0,h.GW,h.Kq,h.inj,h.hT,(e cb h.Fg.1 h.Fg.2).trans h.st,h.data.of_block (e _ h.Kp.1 h.Kp.2),h.next.of_block (e _ h.I0.1 h.I0.2),h.bad.of_block (e _ h.GW.1 h.GW.2),
  λi hi'=>(h.Ey i hi').of_block (e _ (h.Kq i hi').1 (h.Kq i hi').2)⟩
theorem below(h:Db w lo hi cb T L m enc g4 g5 g6 g7){B:Nat}(hB:hi<=B)(hb:Below B w w'):Db w' lo hi cb T L m enc g4 g5 g6 g7:=
 h.Dn λk h1 h2=>hb.block k (by omega)
theorem drewN(h:Db w lo hi cb T L m enc g4 g5 g6 g7)(q:Nat):Db (w.drewN q) lo hi cb T L m enc g4 g5 g6 g7:=h.Dn λk _ _=>rfl
theorem drew(h:Db w lo hi cb T L m enc g4 g5 g6 g7):Db w.drew lo hi cb T L m enc g4 g5 g6 g7:=h.Dn λk _ _=>rfl
theorem c0(h:Db w lo hi cb T L m enc g4 g5 g6 g7):w.cell? ⟨cb,0,none⟩=some (.int .i64 m.np):=by rw[AG w cb 0 _ T (0,0) h.st];rfl
theorem c1(h:Db w lo hi cb T L m enc g4 g5 g6 g7):w.cell? ⟨cb,1,none⟩=some (.slice (some ⟨L.db,0,none⟩) m.nb L.cd):=by rw[AG w cb 1 _ T (0,0) h.st];rfl
theorem c2(h:Db w lo hi cb T L m enc g4 g5 g6 g7):w.cell? ⟨cb,2,none⟩=some (.slice (some ⟨L.nk,0,none⟩) m.nb L.cn):=by rw[AG w cb 2 _ T (0,0) h.st];rfl
theorem c3(h:Db w lo hi cb T L m enc g4 g5 g6 g7):w.cell? ⟨cb,3,none⟩=some (.slice (some ⟨L.bk,0,none⟩) m.nb L.ck):=by rw[AG w cb 3 _ T (0,0) h.st];rfl
theorem c4(h:Db w lo hi cb T L m enc g4 g5 g6 g7):w.cell? ⟨cb,4,none⟩=some (.int .i64 g4):=by rw[AG w cb 4 _ T (0,0) h.st];rfl
theorem c5(h:Db w lo hi cb T L m enc g4 g5 g6 g7):w.cell? ⟨cb,5,none⟩=some (.int .i64 g5):=by rw[AG w cb 5 _ T (0,0) h.st];rfl
theorem c6(h:Db w lo hi cb T L m enc g4 g5 g6 g7):w.cell? ⟨cb,6,none⟩=some (.int .i64 g6):=by rw[AG w cb 6 _ T (0,0) h.st];rfl
theorem c7(h:Db w lo hi cb T L m enc g4 g5 g6 g7):w.cell? ⟨cb,7,none⟩=some (.int .i64 g7):=by rw[AG w cb 7 _ T (0,0) h.st];rfl
theorem fz(h:Db w lo hi cb T L m enc g4 g5 g6 g7)(k:Nat):w.frozen? ⟨cb,k,none⟩=false:=Al w cb k _ T h.st
theorem field(h:Db w lo hi cb T L m enc g4 g5 g6 g7)(k:Nat)(v:Int)(h4 g5' g6' g7':Int)
 (he:(#[.int .i64 m.np,.slice (some ⟨L.db,0,none⟩) m.nb L.cd,.slice (some ⟨L.nk,0,none⟩) m.nb L.cn,.slice (some ⟨L.bk,0,none⟩) m.nb L.ck,.int .i64 g4,.int .i64 g5,.int .i64 g6,.int .i64 g7]:Array Value).setIfInBounds k (.int .i64 v)=#[.int .i64 m.np,.slice (some ⟨L.db,0,none⟩) m.nb L.cd,.slice (some ⟨L.nk,0,none⟩) m.nb L.cn,.slice (some ⟨L.bk,0,none⟩) m.nb L.ck,.int .i64 h4,.int .i64 g5',.int .i64 g6',.int .i64 g7']) :
 Db (w.setCell ⟨cb,k,none⟩ (.int .i64 v)) lo hi cb T L m enc h4 g5' g6' g7':=by
 have a1:=AK w cb k _ T (.int .i64 v) h.st;rw[he]at a1;obtain⟨cd,a3,_⟩:=h.data;obtain⟨cn,a4,_⟩:=h.next;obtain⟨ck,a5,_⟩:=h.bad;refine⟨h.Fg,h.Kp,h.I0,h.GW,h.Kq,h.inj,h.hT,a1,h.data.other (LO a3 h.st (λe=>h.hT.1 e.symm)) _,h.next.other (LO a4 h.st (λe=>h.hT.2.1 e.symm)) _,h.bad.other (LO a5 h.st (λe=>h.hT.2.2.1 e.symm)) _,λi a0 => ?_⟩;obtain⟨cp,a2,_⟩:=h.Ey i a0;exact(h.Ey i a0).other (LO a2 h.st (λe=>h.hT.2.2.2 e.symm)) _
theorem re(h:Db w lo hi cb T L m enc g4 g5 g6 g7)(m':M)(e1:m'.nb=m.nb)(e2:m'.np=m.np)(e3:m'.pg=m.pg)(e4:m'.nx=m.nx)(e5:m'.bd=m.bd):Db w lo hi cb T L m' enc g4 g5 g6 g7:=by
 obtain⟨nb,np,pg,nx,bd,_,_,_,_⟩:=m;obtain⟨a1,a3,a4,a2,a0,_,_,_,_⟩:=m';simp only at e1 e2 e3 e4 e5;subst e1 e2 e3 e4 e5;exact⟨h.Fg,h.Kp,h.I0,h.GW,h.Kq,h.inj,h.hT,h.st,h.data,h.next,h.bad,h.Ey⟩
theorem ID(h:Db w lo hi cb T L m enc g4 g5 g6 g7)(i p:Nat)(hi':i<m.nb)(hp:p<m.np)(s:D8) :
 Db (w.setCell ⟨L.rw i,p,none⟩ (.string (D9 (enc s)))) lo hi cb T L { m with pg:=λa b=>if a=i/\b=p then s else m.pg a b } enc g4 g5 g6 g7:=by
 obtain⟨cp,a0,_⟩:=h.Ey i hi';obtain⟨cd,a3,_⟩:=h.data;obtain⟨cn,a2,_⟩:=h.next;obtain⟨ck,a1,_⟩:=h.bad;refine⟨h.Fg,h.Kp,h.I0,h.GW,h.Kq,h.inj,h.hT,(AH w _ _ cb (LO h.st a0 h.hT.2.2.2)).trans h.st,h.data.other (LO a3 a0 (by decide)) _,h.next.other (LO a2 a0 (by decide)) _,h.bad.other (LO a1 a0 (by decide)) _,λj hj => ?_⟩;by_cases e:j=i
 ·subst e;refine((h.Ey j hi').set p _).congr λq hq => ?_
  show _=Value.string (D9 (enc (if j=j/\q=p then s else m.pg j q)));by_cases e2:q=p
  ·rw[AE e2,AE ⟨rfl,e2⟩]
  rw[AC e2,AC (λh=>e2 h.2)]
 refine((h.Ey j hj).other (λhe=>e (h.inj j i hj hi' he)) _).congr λq hq => ?_
 show _=Value.string (D9 (enc (if j=i/\q=p then s else m.pg j q)));rw[AC (λh=>e h.1)]
theorem IQ(h:Db w lo hi cb T L m enc g4 g5 g6 g7)(i v:Nat) :
 Db (w.setCell ⟨L.nk,i,none⟩ (.int .i64 v)) lo hi cb T L { m with nx:=λa=>if a=i then v else m.nx a } enc g4 g5 g6 g7:=by
 obtain⟨cd,a3,_⟩:=h.data;obtain⟨cn,a0,_⟩:=h.next;obtain⟨ck,a1,_⟩:=h.bad;refine⟨h.Fg,h.Kp,h.I0,h.GW,h.Kq,h.inj,h.hT,(AH w _ _ cb (LO h.st a0 h.hT.2.1)).trans h.st,h.data.other (LO a3 a0 (by decide)) _,(h.next.set i _).congr λj _ => ?_,h.bad.other (LO a1 a0 (by decide)) _,λj hj => ?_⟩
 ·show _=Value.int .i64 ((if j=i then v else m.nx j:Nat):Int);by_cases e:j=i
  ·rw[AE e,AE e]
  rw[AC e,AC e]
 obtain⟨cp,a2,_⟩:=h.Ey j hj;exact(h.Ey j hj).other (LO a2 a0 (by decide)) _
theorem Nh(h:Db w lo hi cb T L m enc g4 g5 g6 g7)(i:Nat)(v:Bool) :
 Db (w.setCell ⟨L.bk,i,none⟩ (.bool v)) lo hi cb T L { m with bd:=λa=>if a=i then v else m.bd a } enc g4 g5 g6 g7:=by
 obtain⟨cd,a3,_⟩:=h.data;obtain⟨cn,a2,_⟩:=h.next;obtain⟨ck,a0,_⟩:=h.bad;refine⟨h.Fg,h.Kp,h.I0,h.GW,h.Kq,h.inj,h.hT,(AH w _ _ cb (LO h.st a0 h.hT.2.2.1)).trans h.st,h.data.other (LO a3 a0 (by decide)) _,h.next.other (LO a2 a0 (by decide)) _,(h.bad.set i _).congr λj _ => ?_,λj hj => ?_⟩
 ·show _=Value.bool (if j=i then v else m.bd j);by_cases e:j=i
  ·rw[AE e,AE e]
  rw[AC e,AC e]
 obtain⟨cp,a1,_⟩:=h.Ey j hj;exact(h.Ey j hj).other (LO a1 a0 (by decide)) _
end Db
def pad(l:D8):D8:=l++List.replicate (64 - l.length) 255
def CP(w:D7)(lo hi cb:Nat)(L:Loc)(m:M):Prop:=Db w lo hi cb 74 L m id m.Da m.cut m.fail m.part
end S1
namespace S1
open Go.RowKit Pk
variable {w:D7} {v:Value} {n:Nat} {l:D8}
theorem fp{base:Nat}(h:w.ownsRow base 5 1 v n (Lib.strCells (D9 l)))(hn:0<n) :
 ∃g cap,v=.slice (some ⟨g,0,none⟩) n cap/\∀j,j<n->w.cell? ⟨g,j,none⟩=some (.int .u8 (l.getD j 0).toNat):=by
 have hl:l.length=n:=by have:=h.1;rw[PL]at this;simpa using this
 rcases h.2 with⟨rfl,rfl⟩ | ⟨g,cap,cur,rfl,hb,hh,h1,h2,h3,h4⟩
 ·omega
 refine⟨g,cap,rfl,λj hj => ?_⟩;rw[h.cellAt j (by omega),PL]
 have:j<l.length:=by omega
 simp[List.getD,this]
theorem Nr{base:Nat}(h:w.ownsRow base 5 1 v n (Lib.strCells (D9 l))):l.length=n/\∃a c,v=.slice a n c:=by
 have hl:l.length=n:=by have:=h.1;rw[PL]at this;simpa using this
 rcases h.2 with⟨rfl,rfl⟩ | ⟨g,cap,cur,rfl,hb,hh,h1,h2,h3,h4⟩
 ·exact⟨hl,_,_,rfl⟩
 exact⟨hl,_,_,rfl⟩
theorem XJ(l:D8)(b:UInt8):Lib.strCells (D9 l)++[Value.int .u8 b.toNat]=Lib.strCells (D9 (l++[b])):=by
 rw[PL,PL,Aq];rfl
theorem JQ:(prog.info? 3).map (λi=>(i.zero,i.size,i.bytes))=some (some (.int .i64 0),1,8):=by kernel_rfl
theorem ir{w:D7}{base:Nat}{v:Value}{k:Nat}{zs:Nat->Int}(h:w.ownsRow base 3 1 v k ((List.range k).map λj=>Value.int .i64 (zs j))) :
 ∃a cap,v=.slice a k cap/\IntsIn w a k zs:=by
 obtain⟨hl,h⟩:=h;rcases h with⟨rfl,rfl⟩ | ⟨g,cap,cur,rfl,hg,hh,hk,hm,hs,ht⟩
 ·exact⟨none,0,rfl,λh=>absurd h (by omega)⟩
 refine⟨_,cap,rfl,λ_=>⟨g,0,rfl,λj hj => ?_⟩⟩;have a0:w.ownsRow base 3 1 (.slice (some ⟨g,0,none⟩) k cap) k ((List.range k).map λj=>Value.int .i64 (zs j)):=⟨hl,.inr ⟨g,cap,cur,rfl,hg,hh,hk,hm,hs,ht⟩⟩;rw[Ao,a0.cellAt j (by omega)];simp[hj]
variable {p:Nat} {s:D8} {R:Option ((Nat->Int) × Nat)} {z:Nat->Int}
theorem Jy{p:Prop}(h:p):Hid p:=h
def lenOf:Value->Nat
 | .slice _ n _=>n
 | _=>0
def Fa(s:D8)(R:Option ((Nat->Int) × Nat))(p pos:Nat)(z:Nat->Int):Prop:=
 (p<=288/\pos<=8*s.length/\(∀j,p<=j->z j=0)/\∃f,288<=p+f/\EZ s f p pos z=R)\/(288<p/\p<=320/\R=none)
theorem fk{pos:Nat}(h:Fa s R p pos z)(hp:p<288)(h4:¬8*s.length<pos+4)(hv:val s pos 4≠0) :
 Fa s R (p+1) (pos+4) (upd z p (val s pos 4)):=by
 rcases h with⟨_,hpos,hz,f,hf,hR⟩ | ⟨h,_⟩
 ·refine .inl ⟨by omega,by omega,λj hj => ?_,?_⟩
  ·unfold upd;rw[AC (by omega)];exact hz j (by omega)
  obtain⟨g,rfl⟩:∃g,f=g+1:=⟨f - 1,by omega⟩;exact⟨g,by omega,by rw[<-hR,fO s g p pos z hp h4 hv]⟩
 omega
theorem kJ{pos:Nat}(h:Fa s R p pos z)(hp:p<288)(h4:¬8*s.length<pos+4)(hv:val s pos 4=0)(h9:¬8*s.length<pos+9) :
 Fa s R (p+1+val s (pos+4) 5) (pos+9) z:=by
 have a1:=Qb s (pos+4) 5;rcases h with⟨_,hpos,hz,f,hf,hR⟩ | ⟨h,_⟩
 ·obtain⟨g,rfl⟩:∃g,f=g+1:=⟨f - 1,by omega⟩;by_cases a0:288<p+1+val s (pos+4) 5
  ·refine .inr ⟨a0,by omega,?_⟩;rw[<-hR,lT s g p pos z hp h4 hv h9 a0]
  refine .inl ⟨by omega,by omega,λj hj=>hz j (by omega),g,by omega,?_⟩;rw[<-hR,XQ s g p pos z hp h4 hv h9 a0]
 omega
theorem kW{pos:Nat}(h:Fa s R p pos z)(hp:p<288)(h4:8*s.length<pos+4):R=none:=by
 rcases h with⟨_,hpos,hz,f,hf,hR⟩ | ⟨h,_⟩
 ·rw[<-hR,mB s f p pos z hp hf h4]
 omega
theorem jb{pos:Nat}(h:Fa s R p pos z)(hp:p<288)(h4:¬8*s.length<pos+4)(hv:val s pos 4=0)(h9:8*s.length<pos+9):R=none:=by
 rcases h with⟨_,hpos,hz,f,hf,hR⟩ | ⟨h,_⟩
 ·obtain⟨g,rfl⟩:∃g,f=g+1:=⟨f - 1,by omega⟩;rw[<-hR,lu s g p pos z hp h4 hv h9]
 omega
theorem od{pos:Nat}(h:Fa s R 288 pos z):R=some (z,pos)/\pos<=8*s.length:=by
 rcases h with⟨_,hpos,hz,f,hf,hR⟩ | ⟨h,_⟩
 ·rw[<-hR,YU];exact⟨rfl,hpos⟩
 omega
theorem qK{pos:Nat}(h:Fa s R p pos z)(hp:p<288):pos<=8*s.length/\∀j,p<=j->z j=0:=by
 rcases h with⟨_,hpos,hz,_⟩ | ⟨h,_⟩
 ·exact⟨hpos,hz⟩
 omega
def PW:Option D8->Ending
 | none=>.returned (.tuple #[.string ⟨#[]⟩,.int .i64 2])
 | some l=>.returned (.tuple #[.string (D9 l),.int .i64 0])
end S1
end Go.Proofs.YtodmdkhdbfbfgaaGreatDoor
