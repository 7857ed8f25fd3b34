/- Lemmas. -/
import Derived.Deep.RegionHeld3
import Derived.OrdersIn
import Derived.Test.YtodmdkhdbfbfgaaGreatDoorProg
import Derived.RowKit
import Derived.WalkKit
import Derived.WalkSpells
import Derived.WalkLawsBesides
import Derived.Deep.QuietTactic
import Derived.BigQuiet
import Derived.Outline
import Derived.Deep.OwnRows
import Derived.Laws.BytesArg
import Derived.Laws.BitsLemmas
import Derived.Laws.CopyOwn
import Derived.Lib.Strings
import Derived.Lib.AppendStr
set_option linter.unusedVariables false
set_option linter.unusedSimpArgs false
set_option maxRecDepth 100000
set_option maxHeartbeats 8000000
namespace Go.Proofs.YtodmdkhdbfbfgaaGreatDoor
theorem zP (l:List Value) (d:_) (i:Nat) (v:Value):Act.put ⟨l.toArray,d⟩ (some i) v=⟨(l.set i v).toArray,d⟩:=by simp [Act.put]
theorem tk {P:Program} {ops:Array Oper} {Q:Exit→Act→World→Prop} {md:Region.Mode} {S:World→Prop} (i:Nat) (oi:Oper) (v:Value) {fuel:Nat} {listed:Array Bool} {a:Act} {w:World} (hi:ops[i]? = some oi) (hy:∀ w,S w→(execOp a.eval oi).run P w=.ok (.value v) w) (hS:S w) (h:wpAnyH P md ops Q S fuel (listed.setIfInBounds i true) (a.put oi.dst v) w)
 (hc:(Region.noSelect ops&&Region.free md ops listed i&&(Region.ready md ops listed).contains i&&Region.wanted oi (yielded ops a.tmps))=true:=by kernel_rfl) (hQ:∀ c a w,Q (.panic c) (a.put oi.dst v) w→Q (.panic c) a w:=by exact fun _ _ _ h=>h):wpAnyH P md ops Q S (fuel+1) listed a w:=by
 simp only [Bool.and_eq_true] at hc
 exact wpAnyH_take hi hc.1.1.1 hc.1.1.2 hc.1.2 hQ (Or.inl ⟨hc.2,hy⟩) hS h
theorem rd {P:Program} {ops:Array Oper} {Q:Exit→Act→World→Prop} {md:Region.Mode} {S:World→Prop} (i:Nat) {o:Oper} {fuel:Nat} {listed:Array Bool} {a:Act} {w:World} (ho:ops[i]? = some o)
 (h:∀ K':Act→World→Prop,Shut (∀ a w,S w→(S w→wpAnyH P md ops Q S fuel (listed.setIfInBounds i true) a w)→K' a w)→if Region.wanted o (yielded ops a.tmps)=true then Oper.wp P o a w K' Q else K' (a.put o.dst undef) w) (hr:Region.ready md ops listed=[i]:=by kernel_rfl):wpAnyH P md ops Q S (fuel+1) listed a w:=
 wpAnyH_ready hr (by simp) (AllReadyH.cons ho h AllReadyH.nil)
theorem rdI {F:Fence} {n:Nat} {P:Program} {ops:Array Oper} {Q:Exit→Act→World→Prop} {md:Region.Mode} (i:Nat) {o:Oper} {fuel:Nat} {listed:Array Bool} {a:Act} {w:World} (hr:Region.ready md ops listed=[i]) (ho:ops[i]? = some o)
 (h:∀ K':Act→World→Prop,(∀ a w,wpAnyIn F n P md ops Q fuel (listed.setIfInBounds i true) a w→K' a w)→if Region.wanted o (yielded ops a.tmps)=true then Oper.wpIn F n P o a w K' Q else (∀ f,o.about P w a.eval=some f→F.fn f)∧K' (a.put o.dst undef) w):wpAnyIn F n P md ops Q (fuel+1) listed a w:=
 wpAnyIn_ready hr (by simp) (AllReadyIn.cons ho h AllReadyIn.nil)
end Go.Proofs.YtodmdkhdbfbfgaaGreatDoor
namespace Go.Proofs.YtodmdkhdbfbfgaaGreatDoor.S1.Pk
def wt (x:Int):Int:=if 0<x then 2^(12 - x).toNat else 0
def sumTo (z:Nat→Int):Nat→Int
 | 0=>0
 | k+1=>sumTo z k+wt (z k)
def cnt (z:Nat→Int) (d:Nat):Nat→Nat
 | 0=>0
 | k+1=>cnt z d k+if z k=(d:Int) then 1 else 0
def aft (z:Nat→Int) (n:Nat):Nat→Nat
 | 0=>0
 | d+1=>2*aft z n d+cnt z (d+1) n
def num (z:Nat→Int) (n s:Nat):Nat:=2*aft z n ((z s).toNat - 1)+cnt z (z s).toNat s
def part (z:Nat→Int) (d:Nat):Nat→Nat
 | 0=>0
 | k+1=>part z d k+if 1≤z k∧z k≤(d:Int) then 2^(12 - (z k).toNat) else 0
theorem qgX (z:Nat→Int) (d n:Nat):cnt z d n≤n:=by
 induction n with
 | zero=>simp [cnt]
 | succ n ih=>simp only [cnt];split<;>omega
theorem cnt_mono (z:Nat→Int) (d:Nat) {s n:Nat} (h:s≤n):cnt z d s≤cnt z d n:=by
 induction n with
 | zero=>have:s=0:=by omega
         subst this;exact Nat.le_refl _
 | succ n ih =>
   by_cases e:s=n+1
   ·subst e;exact Nat.le_refl _
   have:=ih (by omega)
   simp only [cnt];omega
theorem cnt_lt (z:Nat→Int) (d:Nat) {s n:Nat} (h:s<n) (hz:z s=d):cnt z d s<cnt z d n:=by
 have h1:cnt z d (s+1)=cnt z d s+1:=by simp [cnt,hz]
 have:=cnt_mono z d (show s+1≤n by omega)
 omega
theorem qku (z:Nat→Int) (n:Nat):part z 0 n=0:=by
 induction n with
 | zero=>rfl
 | succ n ih=>simp only [part,ih];rw [if_neg (by omega)]
theorem qkc (z:Nat→Int) (d n:Nat):part z (d+1) n=part z d n+cnt z (d+1) n*2^(12 - (d+1)):=by
 induction n with
 | zero=>simp [part,cnt]
 | succ n ih =>
   simp only [part,cnt,ih];by_cases e:z n=((d+1:Nat):Int)
   ·rw [if_pos (by omega),if_neg (by omega),if_pos e,e,Int.toNat_natCast,Nat.add_mul];omega
   rw [if_neg e];by_cases e2:1≤z n∧z n≤(d:Int)
   ·rw [if_pos (by omega),if_pos e2];simp;omega
   rw [if_neg (by omega),if_neg e2];simp
theorem qkO (z:Nat→Int) (n d:Nat) (hd:d≤12):aft z n d*2^(12 - d)=part z d n:=by
 induction d with
 | zero=>simp [aft,qku]
 | succ d ih =>
   have h:=ih (by omega);rw [qkc,←h,aft,Nat.add_mul];have e:2^(12 - d)=2*2^(12 - (d+1)):=by
    rw [show 12 - d=(12 - (d+1))+1 by omega,Nat.pow_succ];omega
   rw [e,Nat.mul_comm 2 (aft z n d),Nat.mul_assoc]
theorem qiI (z:Nat→Int) {d e:Nat} (n:Nat) (h:d≤e):part z d n≤part z e n:=by
 induction n with
 | zero=>simp [part]
 | succ n ih =>
   simp only [part];by_cases h1:1≤z n∧z n≤(d:Int)
   ·rw [if_pos h1,if_pos (by omega)];omega
   rw [if_neg h1];omega
theorem qij (z:Nat→Int) (n:Nat) (h:∀ k,k<n→0≤z k∧z k≤12):sumTo z n=(part z 12 n:Nat):=by
 induction n with
 | zero=>simp [sumTo,part]
 | succ n ih =>
   have hn:=h n (by omega);simp only [sumTo,part,ih (fun k hk=>h k (by omega)),wt];by_cases e:0<z n
   ·rw [if_pos e,if_pos (by omega)]
    have:(12 - z n).toNat=12 - (z n).toNat:=by omega
    rw [this];simp
   rw [if_neg e,if_neg (by omega)];simp
theorem qfK (z:Nat→Int) (n:Nat) (h:∀ k,k<n→0≤z k∧z k≤12):0≤sumTo z n∧sumTo z n≤2048*n:=by
 induction n with
 | zero=>simp [sumTo]
 | succ n ih =>
   have hn:=h n (by omega);have hi:=ih (fun k hk=>h k (by omega));have hw:0≤wt (z n)∧wt (z n)≤2048:=by
    unfold wt
    split
    ·have:(12 - z n).toNat≤11:=by omega
     have h2:=Nat.pow_le_pow_right (show 0<2 by omega) this;have h3:((2:Int)^(12 - z n).toNat)=((2^(12 - z n).toNat:Nat):Int):=by simp
     rw [h3]
     generalize 2^(12 - z n).toNat=p at h2
     omega
    omega
   simp only [sumTo];omega
structure Fits (z:Nat→Int) (n:Nat):Prop where
 rng:∀ k,k<n→0≤z k∧z k≤12
 sum:sumTo z n≤4096
theorem qmm (z:Nat→Int) (n d:Nat) (hf:Fits z n) (hd:d≤12):aft z n d≤2^d:=by
 have h1:=qkO z n d hd;have h2:=qiI z n hd;have h3:=qij z n hf.rng;have h4:=hf.sum;have h5:part z 12 n≤4096:=by omega
 have h6:aft z n d*2^(12 - d)≤2^d*2^(12 - d):=by
  rw [←Nat.pow_add,show d+(12 - d)=12 by omega];simp;omega
 exact Nat.le_of_mul_le_mul_right h6 (Nat.two_pow_pos _)
theorem qb5 (z:Nat→Int) (n s:Nat) (h1:1≤z s) (hs:s<n):num z n s<aft z n (z s).toNat:=by
 obtain ⟨d,hd⟩:∃ d:Nat,(z s).toNat=d+1:=⟨(z s).toNat - 1,by omega⟩
 have:=cnt_lt z (z s).toNat hs (by omega)
 unfold num;rw [hd] at this ⊢;simp only [aft,Nat.add_sub_cancel];omega
theorem qdN (z:Nat→Int) (n s:Nat) (hf:Fits z n) (hs:s<n) (h1:1≤z s):num z n s<2^(z s).toNat:=by
 have h:=qb5 z n s h1 hs
 have:=hf.rng s hs
 have:=qmm z n (z s).toNat hf (by omega)
 omega
theorem qjU (z:Nat→Int) (n d e:Nat):aft z n d*2^e≤aft z n (d+e):=by
 induction e with
 | zero=>simp
 | succ e ih =>
   rw [Nat.pow_succ,←Nat.mul_assoc,←Nat.add_assoc,aft];omega
theorem qd9 (z:Nat→Int) (n s t:Nat) (hs:s<n) (ht:t<n) (hst:s≠t) (h1:1≤z s) (h2:z s≤z t) :
 num z n s≠num z n t/2^((z t).toNat - (z s).toNat):=by
 by_cases e:z s=z t
 ·rw [e,Nat.sub_self,Nat.pow_zero,Nat.div_one];unfold num;rw [e];rcases Nat.lt_or_gt_of_ne hst with h | h
  ·have:=cnt_lt z (z t).toNat h (by omega);omega
  have:=cnt_lt z (z t).toNat h (by omega);omega
 have hlt:=qb5 z n s h1 hs;obtain ⟨q,hq⟩:∃ q:Nat,(z t).toNat=(z s).toNat+q+1:=⟨(z t).toNat - (z s).toNat - 1,by omega⟩;have hge:aft z n (z s).toNat*2^(q+1)≤num z n t:=by
  have h:=qjU z n (z s).toNat q;unfold num;rw [hq,Nat.add_sub_cancel,Nat.pow_succ,←Nat.mul_assoc];omega
 rw [show (z t).toNat - (z s).toNat=q+1 by omega]
 have:aft z n (z s).toNat≤num z n t/2^(q+1):=(Nat.le_div_iff_mul_le (Nat.two_pow_pos _)).2 hge
 omega
end Go.Proofs.YtodmdkhdbfbfgaaGreatDoor.S1.Pk
namespace Go.Proofs.YtodmdkhdbfbfgaaGreatDoor.S1
open Go.RowKit
theorem ql2 (n:Int):bits .and .i64 n 1=n%2:=by
 have h1:(BitVec.ofInt 64 1).toNat=2^1 - 1:=by decide
 have key:(BitVec.ofInt 64 n &&& BitVec.ofInt 64 1).toNat=(n%((2^64:Nat):Int)).toNat%2^1:=by
  rw [BitVec.toNat_and,BitVec.toNat_ofInt,h1,Nat.and_two_pow_sub_one_eq_mod]
 show IntKind.i64.wrap ((BitVec.ofInt 64 n &&& BitVec.ofInt 64 1).toNat:Nat)=n%2;rw [key,IntKind.wrap_i64];omega
def IntsIn (w:World) (a:Option Addr) (n:Nat) (z:Nat→Int):Prop:=
 0<n→∃ b off,a=some ⟨b,off,none⟩∧∀ k,k<n→w.cell? ⟨b,off+k,none⟩=some (.int .i64 (z k))
theorem IntsIn.below {w w':World} {a:Option Addr} {n:Nat} {z:Nat→Int} (h:IntsIn w a n z) (hb:Below w.heap.size w w'):IntsIn w' a n z:=by
 intro hn;obtain ⟨b,off,rfl,hc⟩:=h hn;refine ⟨b,off,rfl,fun k hk => ?_⟩;rw [hb.cell (p:=⟨b,off+k,none⟩) (World.block_lt_of_cell? w _ (hc k hk))];exact hc k hk
theorem qam {w w':World} {b:Nat} {t:TypeId} {n:Nat} {f:Nat→Value} {B:Nat} (h:w.rowIs b t n f) (hb:Below B w w') (hlt:b<B):w'.rowIs b t n f:=
 h.of_block (hb.block b hlt)
theorem qd2 {w:World} {b:Nat} {t:TypeId} {n:Nat} {z:Nat→Int} (h:w.rowIs b t n (fun j=>.int .i64 (z j))):IntsIn w (some ⟨b,0,none⟩) n z:=
 fun _=>⟨b,0,rfl,fun k hk=>by rw [Nat.zero_add];exact h.cell hk⟩
theorem qbz {w:World} {p q:Addr} (v:Value) (h:q.block≠p.block):(w.setCell p v).cell? q=w.cell? q:=World.cell?_of_block (Below.heap_setCell w p v _ h)
theorem qbk {w:World} {p q:Addr} (v:Value) (h:q.block≠p.block):(w.setCell p v).frozen? q=w.frozen? q:=World.frozen?_of_block (Below.heap_setCell w p v _ h)
theorem qax {k:IntKind} {a b:Int} (h:a=b):Ending.returned (.int k a)=.returned (.int k b):=by rw [h]
theorem qah {a b:Bool} (h:a=b):Ending.returned (.bool a)=.returned (.bool b):=by rw [h]
def txt (l:List UInt8):ByteArray:=⟨l.toArray⟩
theorem qaa (l:List UInt8):(txt l).size=l.length:=by simp [txt,ByteArray.size]
theorem qe7 {P:Program} (t e:TypeId) (z x y:Value) (bytes:Nat) (ht:P.underlying t=some (.slice e)) (hinfo:(P.info? e).map (fun i=>(i.zero,i.size,i.bytes))=some (some z,2,bytes)) (hz1:z.cells=#[x,y])
 (kl kc:IntKind) (n:Nat) (hbytes:bytes*n≤281474976710656) (h63:n≤9223372036854775807) (w:World) :
 (Instr.makeSlice t (.int kl (n:Int)) (.int kc (n:Int))).run P w=.ok (.slice (some ⟨w.heap.size,0,none⟩) n n) (w.alloc (.cells (madeCells #[x,y] (n*2)) e)):=by
 obtain ⟨i,hi,hz,hs,hb⟩:=info_parts hinfo;have hb':(i.bytes:Int)*(n:Int)≤281474976710656:=by
  have h:((i.bytes*n:Nat):Int)≤281474976710656:=by rw [hb];omega
  rwa [Int.natCast_mul] at h
 have hr:=run_make (P:=P) w t e i z ht hi hz kl kc n n (by omega) (Int.le_refl _) hb' (by omega);simp only [Int.toNat_natCast,hs,hz1] at hr;exact hr
theorem qdD (w:World) (x y:Value) (n:Nat) (t:TypeId):(w.alloc (.cells (madeCells #[x,y] (n*2)) t)).rowIs w.heap.size t (n*2) (fun j=>if j%2=0 then x else y):=
 ⟨_,heap_alloc_new _ _,size_madeCells _ _,fun i hi=>by
  have:i%2=0∨i%2=1:=by omega
  rcases this with h | h<;>simp [madeCells,hi,h]⟩
end Go.Proofs.YtodmdkhdbfbfgaaGreatDoor.S1
namespace Go.Proofs.YtodmdkhdbfbfgaaGreatDoor.S1
open Go.RowKit Pk
theorem Tryz.info5:(Tryz.prog.info? 5).map (fun i=>(i.zero,i.size,i.bytes))=some (some (.int .u8 0),1,1):=by kernel_rfl
theorem qco (z:Nat→Int) (k:Nat) (n:Nat) (hn:n≤288) (hk:k<n) (hr:∀ j,j<k→0≤z j∧z j≤12) (h:0≤z k∧z k≤12) (hp:0<z k) :
 wrap64 (sumTo z k+wrap64 (2^(12 - z k).toNat))=sumTo z (k+1):=by
 have hb:=qfK z k hr;have h1:(12 - z k).toNat≤11:=by omega
 have h2:=Nat.pow_le_pow_right (show 0<2 by omega) h1;have h3:((2:Int)^(12 - z k).toNat)=((2^(12 - z k).toNat:Nat):Int):=by simp
 simp only [sumTo,wt,if_pos hp];rw [h3]
 generalize 2^(12 - z k).toNat=p at h2
 unfold wrap64;omega
theorem qb1 (z:Nat→Int) (k:Nat) (hp:z k≤0):sumTo z k=sumTo z (k+1):=by
 simp only [sumTo,wt,if_neg (show ¬0<z k by omega)];omega
theorem qjQ (a:Option Addr) (n cap:Nat) (z:Nat→Int) (w:World) (hn:n≤288) (hz:IntsIn w a n z) (m:Nat) (hm:m<n) (hbad:¬(0≤z m∧z m≤12)) (hg:∀ j,j<m→0≤z j∧z j≤12) :
 Calls Tryz.prog 259 #[.slice a n cap] w fun e w'=>e=.returned (.int .i64 1)∧w'=w:=by
 obtain ⟨b,off,rfl,hc⟩:=hz (by omega);have Hg:Hid (∀ j,j<m→0≤z j∧z j≤12):=hg;clear hg;have Hbad:Hid (¬(0≤z m∧z m≤12)):=hbad;clear hbad;have Hc:Hid (∀ k,k<n→w.cell? { block:=b,off:=off+k }=some (Value.int IntKind.i64 (z k))):=hc;clear hc;go_enter Tryz.func259,Tryz.ntmps259
 go_wp2
 go_loop [3,11] (fun s i=>∃ k:Nat,k≤m∧i=.int .i64 k∧s=.int .i64 (sumTo z k)) (fun _ i=>n - (intOf i).toNat)
 case atStart=>exact ⟨0,Nat.zero_le _,rfl,rfl⟩
 case round =>
  obtain ⟨k,hk,rfl,rfl⟩:=hrel;have hlt:k<n:=by omega
  have hck:=Hc.out k hlt;by_cases hkm:k=m
  ·have hb:z k<0∨12<z k:=by have:=Hbad.out;rw [hkm];omega
   clear hkm;rcases hb with hb | hb
   ·go_wp2;go_ret
    exact ⟨rfl,rfl⟩
   have h0:¬z k<0:=by omega
   go_wp2;go_ret
   exact ⟨rfl,rfl⟩
  have hkg:=Hg.out k (by omega);have Hl:Hid (k<m):=(by omega:k<m);clear hkm;have h0:¬z k<0:=by omega
  have h1:¬12<z k:=by omega
  by_cases hp:0<z k
  ·go_wp2
   go_round
   case rel=>exact ⟨k+1,Hl.out,by go_num,by rw [qco z k n hn hlt (fun j hj=>Hg.out j (Nat.lt_trans hj Hl.out)) hkg hp]⟩
   case measure=>simp [intOf];omega
  go_wp2
  go_round
  case rel=>exact ⟨k+1,Hl.out,by go_num,by rw [qb1 z k (by omega)]⟩
  case measure=>simp [intOf];omega
theorem qfO (a:Option Addr) (n cap:Nat) (z:Nat→Int) (w:World) (hn:n≤288) (hz:IntsIn w a n z) (hg:∀ j,j<n→0≤z j∧z j≤12) :
 Calls Tryz.prog 259 #[.slice a n cap] w fun e w'=>e=.returned (.int .i64 (if 4096<sumTo z n then 2 else 0))∧w'=w:=by
 have Hg:Hid (∀ j,j<n→0≤z j∧z j≤12):=hg;clear hg;go_enter Tryz.func259,Tryz.ntmps259
 go_wp2
 go_loop [3,11] (fun s i=>∃ k:Nat,k≤n∧i=.int .i64 k∧s=.int .i64 (sumTo z k)) (fun _ i=>n - (intOf i).toNat)
 case atStart=>exact ⟨0,Nat.zero_le _,rfl,rfl⟩
 case round =>
  obtain ⟨k,hk,rfl,rfl⟩:=hrel;by_cases hlt:k<n
  ·obtain ⟨b,off,rfl,hc⟩:=hz (by omega);have hck:=hc k hlt;clear hc hz;have hkg:=Hg.out k hlt;have h0:¬z k<0:=by omega
   have h1:¬12<z k:=by omega
   by_cases hp:0<z k
   ·go_wp2
    go_round
    case rel=>exact ⟨k+1,by omega,by go_num,by rw [qco z k n hn hlt (fun j hj=>Hg.out j (by omega)) hkg hp]⟩
    case measure=>simp [intOf];omega
   go_wp2
   go_round
   case rel=>exact ⟨k+1,by omega,by go_num,by rw [qb1 z k (by omega)]⟩
   case measure=>simp [intOf];omega
  have hkn:k=n:=by omega
  subst hkn;by_cases hs:4096<sumTo z k
  ·go_wp2;go_ret
   exact ⟨rfl,rfl⟩
  go_wp2;go_ret
  exact ⟨rfl,rfl⟩
theorem Tryz.info59:(Tryz.prog.info? 284).map (fun i=>(i.zero,i.size,i.bytes))=some (some (.agg #[.int .i64 0,.int .i64 0]),2,16):=by kernel_rfl
def cellA (z:Nat→Int) (n d k j:Nat):Value:=
 if 1≤z (j/2)∧(z (j/2)<d∨(z (j/2)=d∧j/2<k)) then (if j%2=0 then .int .i64 (num z n (j/2)) else .int .i64 (z (j/2))) else .int .i64 0
theorem qeh {α:Type} {c d:Prop} [Decidable c] [Decidable d] (h:c↔d) (x y:α):(if c then x else y)=if d then x else y:=by
 by_cases hc:c
 ·rw [if_pos hc,if_pos (h.1 hc)]
 rw [if_neg hc,if_neg (fun hd=>hc (h.2 hd))]
theorem qb0 {z:Nat→Int} {n d k j:Nat} (h:1≤z (j/2)∧(z (j/2)<d∨(z (j/2)=d∧j/2<k))) :
 cellA z n d k j=if j%2=0 then .int .i64 (num z n (j/2)) else .int .i64 (z (j/2)):=if_pos h
theorem qdt {z:Nat→Int} {n d k j:Nat} (h:¬(1≤z (j/2)∧(z (j/2)<d∨(z (j/2)=d∧j/2<k)))) :
 cellA z n d k j=.int .i64 0:=if_neg h
theorem qf1 (z:Nat→Int) (n j:Nat):(if j%2=0 then Value.int .i64 0 else .int .i64 0)=cellA z n 1 0 j:=by
 rw [qdt (by omega)]
 split<;>rfl
theorem qhq (z:Nat→Int) (n d j:Nat) (hj:j<n*2):cellA z n d n j=cellA z n (d+1) 0 j:=by
 unfold cellA;exact qeh (by omega) _ _
theorem qh9 (z:Nat→Int) (n d k j:Nat) (h:z k≠(d:Int)):cellA z n d k j=cellA z n d (k+1) j:=by
 unfold cellA;by_cases e:j/2=k
 ·rw [e];exact qeh (by omega) _ _
 exact qeh (by omega) _ _
theorem qjO (z:Nat→Int) (n d k j:Nat) (h:z k=((d+1:Nat):Int)) :
 (if j=k*2+1 then Value.int .i64 ((d+1:Nat):Int) else if j=k*2 then .int .i64 ((2*aft z n d+cnt z (d+1) k:Nat):Int) else cellA z n (d+1) k j)=cellA z n (d+1) (k+1) j:=by
 by_cases e:j=k*2+1
 ·rw [if_pos e];have e1:j/2=k:=by omega
  rw [qb0 (by rw [e1];omega),e1,if_neg (by omega),h]
 rw [if_neg e];by_cases e2:j=k*2
 ·rw [if_pos e2];have e1:j/2=k:=by omega
  rw [qb0 (by rw [e1];omega),e1,if_pos (by omega)];unfold num;rw [h,Int.toNat_natCast,Nat.add_sub_cancel]
 rw [if_neg e2];have e1:j/2≠k:=by omega
 unfold cellA;exact qeh (by omega) _ _
theorem qkx {w:World} {b:Nat} {t:TypeId} {n:Nat} {f:Nat→Value} (h:w.rowIs b t n f) (i:Nat) (u v:Value) :
 ((w.setCell ⟨b,i,none⟩ u).setCell ⟨b,i+1,none⟩ v).rowIs b t n (fun j=>if j=i+1 then v else if j=i then u else f j):=(h.set i u).set (i+1) v
theorem qhL (a:Option Addr) (n cap:Nat) (z:Nat→Int) (w:World) (hn:n≤288) (hz:IntsIn w a n z) (hf:Fits z n) :
 Calls Tryz.prog 248 #[.slice a n cap] w fun e w'=>e=.returned (.slice (some ⟨w.heap.size,0,none⟩) n n)∧Below w.heap.size w w'∧w'.rowIs w.heap.size 284 (n*2) (cellA z n 13 0):=by
 have hmk:=qe7 (P:=Tryz.prog) 275 284 (.agg #[.int .i64 0,.int .i64 0]) (.int .i64 0) (.int .i64 0) 16 Tryz.underlying275 Tryz.info59 rfl .i64 .i64 n (by omega) (by omega);go_enter Tryz.func248,Tryz.ntmps248
 go_wp2
 go_loopw [4,5] (fun x i wr=>∃ d:Nat,d≤12∧i=.int .i64 (d+1:Nat)∧x=.int .i64 (aft z n d)∧Below w.heap.size w wr∧wr.rowIs w.heap.size 284 (n*2) (cellA z n (d+1) 0)) (fun _ i _=>13 - (intOf i).toNat)
 case atStart =>
  refine ⟨0,by omega,rfl,rfl,(Below.refl _ _).alloc (Nat.le_refl _) _,?_⟩;exact (qdD w (.int .i64 0) (.int .i64 0) n 284).congr fun j _=>qf1 z n j
 case round =>
  obtain ⟨d,hd,rfl,rfl,hbel,hrow⟩:=hrel;by_cases hlt:d<12
  ·have haft:aft z n d≤4096:=Nat.le_trans (qmm z n d hf hd) (Nat.pow_le_pow_right (by omega) hd);go_wp2
   go_loopw [4,19] (fun x i wr=>∃ k:Nat,k≤n∧i=.int .i64 k∧x=.int .i64 (2*aft z n d+cnt z (d+1) k:Nat)∧Below w.heap.size w wr∧wr.rowIs w.heap.size 284 (n*2) (cellA z n (d+1) k)) (fun _ i _=>n - (intOf i).toNat)
   case atStart=>exact ⟨0,by omega,rfl,by simp [cnt,Int.mul_comm],hbel,hrow⟩
   clear hbel hrow;obtain ⟨k,hk,rfl,rfl,hbel,hrow⟩:=hrel;by_cases hlt2:k<n
   ·obtain ⟨b,off,rfl,hc⟩:=hz (by omega);have hck:wr.cell? { block:=b,off:=off+k }=some (Value.int IntKind.i64 (z k)):=by
     rw [hbel.cell (p:=⟨b,off+k,none⟩) (World.block_lt_of_cell? w _ (hc k hlt2))];exact hc k hlt2
    have hkc:cnt z (d+1) k≤k:=qgX _ _ _;clear hc hz;by_cases he:z k=((d+1:Nat):Int)
    ·have hf0:=hrow.frozen (k*2);have hf1:=hrow.frozen (k*2+1);obtain ⟨v0,hc0⟩:∃ v,wr.cell? ⟨w.heap.size,k*2,none⟩=some v:=⟨_,hrow.cell (by omega)⟩;obtain ⟨v1,hc1⟩:∃ v,wr.cell? ⟨w.heap.size,k*2+1,none⟩=some v:=⟨_,hrow.cell (by omega)⟩;have heb:(z k==(d:Int)+1)=true:=by rw [he];simp
     have He:Hid (z k=((d+1:Nat):Int)):=he;clear he;go_wp2;go_roundw
     case rel =>
      refine ⟨k+1,by omega,by go_num,?_,(hbel.setCell (Nat.le_refl _) _).setCell (Nat.le_refl _) _,?_⟩
      ·have:cnt z (d+1) (k+1)=cnt z (d+1) k+1:=by simp only [cnt];rw [if_pos He.out]
       rw [this];go_num
      exact (qkx hrow (k*2) _ _).congr fun j _=>qjO z n d k j He.out
     case measure=>simp [intOf];omega
    have heb:(z k==(d:Int)+1)=false:=by simpa using he
    have He:Hid (z k≠((d+1:Nat):Int)):=he;clear he;go_wp2;go_roundw
    case rel =>
     refine ⟨k+1,by omega,by go_num,?_,hbel,?_⟩
     ·have:cnt z (d+1) (k+1)=cnt z (d+1) k:=by simp only [cnt];rw [if_neg He.out,Nat.add_zero]
      rw [this]
     exact hrow.congr fun j _=>qh9 z n (d+1) k j He.out
    case measure=>simp [intOf];omega
   have hkn:k=n:=by omega
   have Hk:Hid (k=n):=hkn;clear hkn;go_wp2;go_roundw
   case rel =>
    refine ⟨d+1,by omega,by go_num,by rw [aft,Hk.out],hbel,?_⟩;rw [Hk.out] at hrow;exact hrow.congr fun j hj=>qhq z n (d+1) j hj
   case measure=>simp [intOf];omega
  have hd12:d=12:=by omega
  subst hd12;go_wp2;go_ret
  exact ⟨rfl,hbel,hrow⟩
def numz (z:Nat→Int) (n s:Nat):Nat:=if 1≤z s then num z n s else 0
theorem qky (z:Nat→Int) (n s:Nat) (hf:Fits z n) (hs:s<n):cellA z n 13 0 (s*2)=.int .i64 (numz z n s)∧cellA z n 13 0 (s*2+1)=.int .i64 ((z s).toNat:Nat):=by
 have:=hf.rng s hs
 have e0:s*2/2=s:=by omega
 have e1:(s*2+1)/2=s:=by omega
 unfold numz;by_cases h:1≤z s
 ·rw [qb0 (by rw [e0];omega),qb0 (by rw [e1];omega),e0,e1,if_pos (show s*2%2=0 by omega),if_neg (show ¬(s*2+1)%2=0 by omega),if_pos h,Int.toNat_of_nonneg (by omega)];exact ⟨rfl,rfl⟩
 rw [qdt (by rw [e0];omega),qdt (by rw [e1];omega),if_neg h,show (z s).toNat=0 by omega];exact ⟨rfl,rfl⟩
theorem Tryz.info9:(Tryz.prog.info? 9).map (fun i=>(i.zero,i.size,i.bytes))=some (some (.string ⟨#[]⟩),1,16):=by kernel_rfl
end Go.Proofs.YtodmdkhdbfbfgaaGreatDoor.S1
namespace Go.Proofs.YtodmdkhdbfbfgaaGreatDoor.S1
open Go.RowKit
theorem Tryz.info23:(Tryz.prog.info? 40).map (fun i=>(i.zero,i.size,i.bytes))=some (some (.slice none 0 0),1,24):=by kernel_rfl
theorem lt_of_heap {w:World} {g:Nat} {o:Obj} (h:w.heap[g]? = some o):g<w.heap.size:=(Array.getElem?_eq_some_iff.1 h).1
theorem qfP {w:World} {base:Nat} {e:TypeId} {size:Nat} {v:Value} {n:Nat} {xs:List Value} {g:Nat} (h:w.ownsRow base e size v n xs) (hg:v.ownBlock=some g) :
 ∃ cur cap,v=.slice (some ⟨g,0,none⟩) n cap∧base≤g∧w.heap[g]? = some (.cells cur e (0,0))∧cur.toList.take (n*size)=xs:=by
 rcases h.2 with ⟨rfl,_⟩ | ⟨g',cap,cur,rfl,hb,hh,h1,h2,h3,h4⟩
 ·simp [Value.ownBlock] at hg
 simp [Value.ownBlock] at hg;subst hg;exact ⟨cur,cap,rfl,hb,hh,h4⟩
end Go.Proofs.YtodmdkhdbfbfgaaGreatDoor.S1
namespace Go.Proofs.YtodmdkhdbfbfgaaGreatDoor.S1
open Go.RowKit Pk
theorem qiD (z:Nat→Int) (n:Nat):(∀ j,j<n→0≤z j∧z j≤12)∨∃ q,q<n∧¬(0≤z q∧z q≤12)∧∀ j,j<q→0≤z j∧z j≤12:=by
 induction n with
 | zero=>exact .inl fun j hj=>absurd hj (by omega)
 | succ n ih =>
   rcases ih with h | ⟨q,hq,hb,hg⟩
   ·by_cases hn:0≤z n∧z n≤12
    ·refine .inl fun j hj => ?_
     by_cases e:j=n
     ·subst e;exact hn
     exact h j (by omega)
    exact .inr ⟨n,by omega,hn,h⟩
   exact .inr ⟨q,by omega,hb,hg⟩
end Go.Proofs.YtodmdkhdbfbfgaaGreatDoor.S1
namespace Go.Proofs.YtodmdkhdbfbfgaaGreatDoor.S1.Pk
def valF (f:Nat→Nat):Nat→Nat
 | 0=>0
 | d+1=>2*valF f d+f d
def bt (s:List UInt8) (i:Nat):Nat:=(s.getD (i/8) 0).toNat/2^(7 - i%8)%2
def val (s:List UInt8) (p d:Nat):Nat:=valF (fun i=>bt s (p+i)) d
theorem qkQ (s:List UInt8) (i:Nat):bt s i<2:=Nat.mod_lt _ (by omega)
theorem qm4 (f:Nat→Nat) (hf:∀ i,f i<2) (d:Nat):valF f d<2^d:=by
 induction d with
 | zero=>simp [valF]
 | succ d ih=>have:=hf d;simp only [valF,Nat.pow_succ];omega
theorem qdW (s:List UInt8) (p d:Nat):val s p d<2^d:=qm4 _ (fun i=>qkQ s _) d
theorem qlW (s:List UInt8) (p:Nat):val s p 0=0:=rfl
theorem qaD (s:List UInt8) (p d:Nat):val s p (d+1)=2*val s p d+bt s (p+d):=rfl
theorem qm5 (s:List UInt8) (p:Nat):val s p 1=bt s p:=by simp [val,valF]
theorem qfz (s:List UInt8) (p d e:Nat):val s p (d+e)/2^e=val s p d:=by
 induction e with
 | zero=>simp
 | succ e ih =>
   rw [←Nat.add_assoc,qaD,Nat.pow_succ,Nat.mul_comm (2^e) 2,←Nat.div_div_eq_div_mul]
   have:=qkQ s (p+(d+e))
   rw [show (2*val s p (d+e)+bt s (p+(d+e)))/2=val s p (d+e) by omega,ih]
def upd (z:Nat→Int) (p:Nat) (x:Int):Nat→Int:=fun j=>if j=p then x else z j
def lensF (s:List UInt8):Nat→Nat→Nat→(Nat→Int)→Option ((Nat→Int) × Nat)
 | 0,p,pos,z=>if p=288 then some (z,pos) else none
 | f+1,p,pos,z =>
   if p=288 then some (z,pos)
   else if 8*s.length<pos+4 then none
   else if val s pos 4≠0 then lensF s f (p+1) (pos+4) (upd z p (val s pos 4))
   else if 8*s.length<pos+9 then none
   else if 288<p+1+val s (pos+4) 5 then none
   else lensF s f (p+1+val s (pos+4) 5) (pos+9) z
theorem qeb (s:List UInt8) (f pos:Nat) (z:Nat→Int):lensF s f 288 pos z=some (z,pos):=by
 cases f<;>simp [lensF]
theorem qf3 (s:List UInt8) (f p pos:Nat) (z:Nat→Int) (hp:p<288) (hf:288≤p+f) (h:8*s.length<pos+4):lensF s f p pos z=none:=by
 cases f with
 | zero=>omega
 | succ f=>rw [lensF,if_neg (by omega),if_pos h]
theorem qfy (s:List UInt8) (f p pos:Nat) (z:Nat→Int) (hp:p<288) (h:¬8*s.length<pos+4) (hv:val s pos 4≠0) :
 lensF s (f+1) p pos z=lensF s f (p+1) (pos+4) (upd z p (val s pos 4)):=by
 rw [lensF,if_neg (by omega),if_neg h,if_pos hv]
theorem qe4 (s:List UInt8) (f p pos:Nat) (z:Nat→Int) (hp:p<288) (h:¬8*s.length<pos+4) (hv:val s pos 4=0) (h2:8*s.length<pos+9) :
 lensF s (f+1) p pos z=none:=by
 rw [lensF,if_neg (by omega),if_neg h,if_neg (by omega),if_pos h2]
theorem qh0 (s:List UInt8) (f p pos:Nat) (z:Nat→Int) (hp:p<288) (h:¬8*s.length<pos+4) (hv:val s pos 4=0) (h2:¬8*s.length<pos+9) (h3:288<p+1+val s (pos+4) 5) :
 lensF s (f+1) p pos z=none:=by
 rw [lensF,if_neg (by omega),if_neg h,if_neg (by omega),if_neg h2,if_pos h3]
theorem qfB (s:List UInt8) (f p pos:Nat) (z:Nat→Int) (hp:p<288) (h:¬8*s.length<pos+4) (hv:val s pos 4=0) (h2:¬8*s.length<pos+9) (h3:¬288<p+1+val s (pos+4) 5) :
 lensF s (f+1) p pos z=lensF s f (p+1+val s (pos+4) 5) (pos+9) z:=by
 rw [lensF,if_neg (by omega),if_neg h,if_neg (by omega),if_neg h2,if_neg h3]
def hit (s:List UInt8) (z:Nat→Int) (pos i:Nat):Bool:=
 decide (1≤z i)&&(decide (pos+(z i).toNat≤8*s.length)&&decide (num z 288 i=val s pos (z i).toNat))
theorem qbm (s:List UInt8) (z:Nat→Int) (pos i:Nat):hit s z pos i=true↔1≤z i∧pos+(z i).toNat≤8*s.length∧num z 288 i=val s pos (z i).toNat:=by
 simp [hit,Bool.and_eq_true]
def symF (s:List UInt8) (z:Nat→Int) (pos:Nat):Nat→Option Nat
 | 0=>none
 | n+1=>match symF s z pos n with
   | some i=>some i
   | none=>if hit s z pos n then some n else none
theorem qe2 (s:List UInt8) (z:Nat→Int) (pos n:Nat) (h:∀ i,i<n→hit s z pos i=false):symF s z pos n=none:=by
 induction n with
 | zero=>rfl
 | succ n ih =>
   rw [symF,ih (fun i hi=>h i (by omega))];simp [h n (by omega)]
theorem qj3 (s:List UInt8) (z:Nat→Int) (pos n i:Nat) (hi:i<n) (hh:hit s z pos i=true) (h:∀ j,j<i→hit s z pos j=false):symF s z pos n=some i:=by
 induction n with
 | zero=>omega
 | succ n ih =>
   by_cases e:i=n
   ·subst e;rw [symF,qe2 s z pos i h];simp [hh]
   rw [symF,ih (by omega)]
theorem qhP (s:List UInt8) (z:Nat→Int) (pos i j:Nat) (hi:i<288) (hj:j<288) (h1:hit s z pos i=true) (h2:hit s z pos j=true):i=j:=by
 rw [qbm] at h1 h2;by_cases e:i=j
 ·exact e
 exfalso
 rcases Int.le_total (z i) (z j) with hle | hle
 ·refine qd9 z 288 i j hi hj e h1.1 hle ?_;rw [h2.2.2,h1.2.2]
  have:=qfz s pos (z i).toNat ((z j).toNat - (z i).toNat)
  rw [show (z i).toNat+((z j).toNat - (z i).toNat)=(z j).toNat by omega] at this;exact this.symm
 refine qd9 z 288 j i hj hi (fun h=>e h.symm) h2.1 hle ?_;rw [h2.2.2,h1.2.2]
 have:=qfz s pos (z j).toNat ((z i).toNat - (z j).toNat)
 rw [show (z j).toNat+((z i).toNat - (z j).toNat)=(z i).toNat by omega] at this;exact this.symm
theorem qbH (s:List UInt8) (z:Nat→Int) (pos i:Nat) (hi:i<288) (hh:hit s z pos i=true):symF s z pos 288=some i:=by
 refine qj3 s z pos 288 i hi hh fun j hj => ?_
 cases hb:hit s z pos j with
 | false=>rfl
 | true=>have:=qhP s z pos i j hi (by omega) hh hb;omega
def cpy (out:List UInt8) (back:Nat):Nat→List UInt8
 | 0=>out
 | k+1=>cpy out back k++[(cpy out back k).getD ((cpy out back k).length - back) 0]
theorem qcf (out:List UInt8) (back k:Nat):(cpy out back k).length=out.length+k:=by
 induction k with
 | zero=>rfl
 | succ k ih=>simp [cpy,ih];omega
def dataF (s:List UInt8) (z:Nat→Int) (N size:Nat):Nat→List UInt8→Nat→Option (List UInt8 × Nat)
 | 0,out,pos=>if size≤out.length then some (out,pos) else none
 | f+1,out,pos =>
   if size≤out.length then some (out,pos)
   else match symF s z pos N with
    | none=>none
    | some i =>
      if i<256 then dataF s z N size f (out++[UInt8.ofNat i]) (pos+(z i).toNat)
      else if 8*s.length<pos+(z i).toNat+12 then none
      else if out.length<val s (pos+(z i).toNat) 12+1∨size<out.length+(i - 253) then none
      else dataF s z N size f (cpy out (val s (pos+(z i).toNat) 12+1) (i - 253)) (pos+(z i).toNat+12)
theorem qdQ (s:List UInt8) (z:Nat→Int) (N size f:Nat) (out:List UInt8) (pos:Nat) (h:size≤out.length):dataF s z N size f out pos=some (out,pos):=by
 cases f<;>simp [dataF,h]
theorem qgw (s:List UInt8) (z:Nat→Int) (N size f:Nat) (out:List UInt8) (pos:Nat) (h:out.length<size) (hs:symF s z pos N=none):dataF s z N size f out pos=none:=by
 cases f with
 | zero=>rw [dataF,if_neg (by omega)]
 | succ f=>rw [dataF,if_neg (by omega),hs]
theorem qdM (s:List UInt8) (z:Nat→Int) (N size f:Nat) (out:List UInt8) (pos i:Nat) (h:out.length<size) (hs:symF s z pos N=some i) (hi:i<256) :
 dataF s z N size (f+1) out pos=dataF s z N size f (out++[UInt8.ofNat i]) (pos+(z i).toNat):=by
 rw [dataF,if_neg (by omega),hs];simp [hi]
theorem qgB (s:List UInt8) (z:Nat→Int) (N size f:Nat) (out:List UInt8) (pos i:Nat) (h:out.length<size) (hs:symF s z pos N=some i) (hi:¬i<256) (h2:8*s.length<pos+(z i).toNat+12) :
 dataF s z N size (f+1) out pos=none:=by
 rw [dataF,if_neg (by omega),hs];simp [hi,h2]
theorem qjh (s:List UInt8) (z:Nat→Int) (N size f:Nat) (out:List UInt8) (pos i:Nat) (h:out.length<size) (hs:symF s z pos N=some i) (hi:¬i<256) (h2:¬8*s.length<pos+(z i).toNat+12)
 (h3:out.length<val s (pos+(z i).toNat) 12+1∨size<out.length+(i - 253)):dataF s z N size (f+1) out pos=none:=by
 rw [dataF,if_neg (by omega),hs];simp only [if_neg hi,if_neg h2,if_pos h3]
theorem qdK (s:List UInt8) (z:Nat→Int) (N size f:Nat) (out:List UInt8) (pos i:Nat) (h:out.length<size) (hs:symF s z pos N=some i) (hi:¬i<256) (h2:¬8*s.length<pos+(z i).toNat+12)
 (h3:¬(out.length<val s (pos+(z i).toNat) 12+1∨size<out.length+(i - 253))) :
 dataF s z N size (f+1) out pos=dataF s z N size f (cpy out (val s (pos+(z i).toNat) 12+1) (i - 253)) (pos+(z i).toNat+12):=by
 rw [dataF,if_neg (by omega),hs];simp only [if_neg hi,if_neg h2,if_neg h3]
def rngB (z:Nat→Int):Nat→Bool
 | 0=>true
 | n+1=>rngB z n&&decide (0≤z n∧z n≤12)
theorem qkF (z:Nat→Int) (n:Nat):rngB z n=true↔∀ k,k<n→0≤z k∧z k≤12:=by
 induction n with
 | zero=>simp [rngB]
 | succ n ih =>
   rw [rngB,Bool.and_eq_true,ih]
   constructor
   ·intro ⟨h1,h2⟩ k hk;by_cases e:k=n
    ·subst e;simpa using h2
    exact h1 k (by omega)
   intro h;exact ⟨fun k hk=>h k (by omega),by simpa using h n (by omega)⟩
def fitsB (z:Nat→Int) (n:Nat):Bool:=rngB z n&&decide (sumTo z n≤4096)
theorem qds (z:Nat→Int) (n:Nat):fitsB z n=true↔Fits z n:=by
 rw [fitsB,Bool.and_eq_true,qkF]
 constructor
 ·intro ⟨h1,h2⟩;exact ⟨h1,by simpa using h2⟩
 intro h;exact ⟨h.rng,by simpa using h.sum⟩
def bodyF (s:List UInt8) (N size:Nat):Option (List UInt8):=
 match lensF s N 0 0 (fun _=>0) with
 | none=>none
 | some (z,pos) =>
   if fitsB z N=false then none
   else match dataF s z N size size [] pos with
    | none=>none
    | some (out,p)=>if 8*s.length - p<8∧val s p (8*s.length - p)=0 then some out else none
theorem qhs (s:List UInt8) (N size:Nat) (h:lensF s N 0 0 (fun _=>0)=none):bodyF s N size=none:=by
 unfold bodyF;rw [h]
theorem qgl (s:List UInt8) (N size:Nat) (z:Nat→Int) (pos:Nat) (h:lensF s N 0 0 (fun _=>0)=some (z,pos)) (hf:fitsB z N=false):bodyF s N size=none:=by
 unfold bodyF;rw [h];simp [hf]
theorem qft (s:List UInt8) (N size:Nat) (z:Nat→Int) (pos:Nat) (h:lensF s N 0 0 (fun _=>0)=some (z,pos)) (hf:fitsB z N=true) (hd:dataF s z N size size [] pos=none):bodyF s N size=none:=by
 unfold bodyF;rw [h];simp [hf,hd]
theorem qdV (s:List UInt8) (N size:Nat) (z:Nat→Int) (pos p:Nat) (out:List UInt8) (h:lensF s N 0 0 (fun _=>0)=some (z,pos)) (hf:fitsB z N=true) (hd:dataF s z N size size [] pos=some (out,p)) :
 bodyF s N size=if 8*s.length - p<8∧val s p (8*s.length - p)=0 then some out else none:=by
 unfold bodyF;rw [h];simp [hf,hd]
def unpF (N:Nat) (t:List UInt8):Option (List UInt8):=
 match t with
 | []=>none
 | c :: r =>
   if c=0 then (if r.length≤4000 then some r else none)
   else if c=1 then
    (if r.length<2 then none
     else if 256*(r.getD 0 0).toNat+(r.getD 1 0).toNat<1∨4000<256*(r.getD 0 0).toNat+(r.getD 1 0).toNat then none
     else bodyF (r.drop 2) N (256*(r.getD 0 0).toNat+(r.getD 1 0).toNat))
   else none
theorem qaY (N:Nat) (c:UInt8) (r:List UInt8):unpF N (c :: r) =
 if c=0 then (if r.length≤4000 then some r else none)
 else if c=1 then
  (if r.length<2 then none
   else if 256*(r.getD 0 0).toNat+(r.getD 1 0).toNat<1∨4000<256*(r.getD 0 0).toNat+(r.getD 1 0).toNat then none
   else bodyF (r.drop 2) N (256*(r.getD 0 0).toNat+(r.getD 1 0).toNat))
 else none:=rfl
theorem qhp (N:Nat) (c:UInt8) (r:List UInt8) (h0:c≠0) (h1:c≠1):unpF N (c :: r)=none:=by rw [qaY,if_neg h0,if_neg h1]
theorem qj5 (N:Nat) (r:List UInt8) (h:4000<r.length):unpF N (0 :: r)=none:=by
 rw [qaY,if_pos rfl,if_neg (by omega)]
theorem qdR (N:Nat) (r:List UInt8) (h:r.length≤4000):unpF N (0 :: r)=some r:=by
 rw [qaY,if_pos rfl,if_pos h]
theorem qhS (N:Nat) (r:List UInt8) (h:r.length<2):unpF N (1 :: r)=none:=by
 rw [qaY,if_neg (by decide),if_pos rfl,if_pos h]
theorem qjW (N:Nat) (r:List UInt8) (h:¬r.length<2) (h2:256*(r.getD 0 0).toNat+(r.getD 1 0).toNat<1∨4000<256*(r.getD 0 0).toNat+(r.getD 1 0).toNat):unpF N (1 :: r)=none:=by
 rw [qaY,if_neg (by decide),if_pos rfl,if_neg h,if_pos h2]
theorem qfe (N:Nat) (r:List UInt8) (h:¬r.length<2) (h2:¬(256*(r.getD 0 0).toNat+(r.getD 1 0).toNat<1∨4000<256*(r.getD 0 0).toNat+(r.getD 1 0).toNat)) :
 unpF N (1 :: r)=bodyF (r.drop 2) N (256*(r.getD 0 0).toNat+(r.getD 1 0).toNat):=by
 rw [qaY,if_neg (by decide),if_pos rfl,if_neg h,if_neg h2]
end Go.Proofs.YtodmdkhdbfbfgaaGreatDoor.S1.Pk
namespace Go.Proofs.YtodmdkhdbfbfgaaGreatDoor.S1
open Go.RowKit Pk
theorem qaw (l:List UInt8):Lib.strCells (txt l)=l.map fun b=>Value.int .u8 b.toNat:=by
 unfold Lib.strCells;rfl
theorem strOfNums_bytes (l:List UInt8):strOfNums (l.map fun b=>(b.toNat:Int))=txt l:=by
 unfold strOfNums txt;rw [List.map_map]
 congr 2
 conv=>rhs;rw [←List.map_id l]
 apply List.map_congr_left
 intro b _;simp
theorem conv_own {w:World} {base:Nat} {v:Value} {n:Nat} {l:List UInt8} (h:w.ownsRow base 5 1 v n (Lib.strCells (txt l))):(convert 111 9 v).run Tryz.prog w=.ok (.string (txt l)) w:=by
 have hl:l.length=n:=by have:=h.1;rw [qaw] at this;simpa using this
 rcases h.2 with ⟨rfl,rfl⟩ | ⟨g,cap,cur,rfl,hb,hh,h1,h2,h3,h4⟩
 ·obtain rfl:l=[]:=List.eq_nil_of_length_eq_zero hl;exact run_convert_bytes_nil (P:=Tryz.prog) w 111 5 Tryz.underlying111 Tryz.underlying5 0 0 9 Tryz.underlying9
 have hc:=run_convert_bytes_arg (P:=Tryz.prog) w 111 5 Tryz.underlying111 Tryz.underlying5 g 0 n cap (l.map fun b=>(b.toNat:Int)) (by simpa using hl) (fun i hi=>by
  rw [Nat.zero_add,h.cellAt i (by omega),qaw]
  have:i<l.length:=by omega
  simp [this]) 9 Tryz.underlying9
 rw [strOfNums_bytes] at hc;exact hc
theorem qaR (s:List UInt8) (k:Nat) (h:k<(txt s).size):(txt s)[k]'h=s.getD k 0:=by
 have h':k<s.length:=by rw [qaa] at h;exact h
 show s.toArray[k]=_;simp [List.getD,h']
theorem qae (l:List UInt8) (a b:Nat):(txt l).extract a b=txt ((l.drop a).take (b - a)):=by
 rw [Lib.extract_eq];rfl
end Go.Proofs.YtodmdkhdbfbfgaaGreatDoor.S1
namespace Go.Proofs.YtodmdkhdbfbfgaaGreatDoor.S1
open Go.RowKit Pk
structure M where
 nb:Nat
 np:Nat
 pg:Nat→Nat→List UInt8
 nx:Nat→Nat
 bd:Nat→Bool
 life:Int
 cut:Int
 fail:Int
 part:Int
structure WF (m:M):Prop where
 nb1:4≤m.nb
 nb2:m.nb≤32
 np1:4≤m.np
 np2:m.np≤16
 nx:∀ i,i<m.nb→m.nx i≤m.np
 pg:∀ i p,i<m.nb→p<m.np→(m.pg i p).length≤64
 life1:-1≤m.life
 life2:m.life≤1073741825
 fail1:-1≤m.fail
 fail2:m.fail≤1073741824
 cut1:0≤m.cut
 cut2:m.cut≤63
 part1:0≤m.part
 part2:m.part≤63
def Rw (w:World) (b:Nat) (t:TypeId) (n:Nat) (f:Nat→Value):Prop:=∃ cur,w.heap[b]? = some (.cells cur t (0,0))∧∀ i,i<n→cur[i]? = some (f i)
namespace Rw
variable {w w':World} {b:Nat} {t:TypeId} {n:Nat} {f g:Nat→Value}
theorem cell (h:Rw w b t n f) {i:Nat} (hi:i<n):w.cell? ⟨b,i,none⟩=some (f i):=by
 obtain ⟨c,hb,hc⟩:=h;rw [cell_of_row w b i c t (0,0) hb,hc i hi]
theorem frozen (h:Rw w b t n f) (i:Nat):w.frozen? ⟨b,i,none⟩=false:=by
 obtain ⟨c,hb,_⟩:=h;exact frozen_of_row w b i c t hb
theorem lt (h:Rw w b t n f):b<w.heap.size:=by obtain ⟨c,hb,_⟩:=h;exact lt_of_heap hb
theorem congr (h:Rw w b t n f) (e:∀ i,i<n→f i=g i):Rw w b t n g:=by
 obtain ⟨c,hb,hc⟩:=h;exact ⟨c,hb,fun i hi=>by rw [hc i hi,e i hi]⟩
theorem of_block (h:Rw w b t n f) (e:w'.heap[b]? = w.heap[b]?):Rw w' b t n f:=by
 obtain ⟨c,hb,hc⟩:=h;exact ⟨c,e.trans hb,hc⟩
theorem set (h:Rw w b t n f) (i:Nat) (v:Value):Rw (w.setCell ⟨b,i,none⟩ v) b t n (fun j=>if j=i then v else f j):=by
 obtain ⟨c,hb,hc⟩:=h;refine ⟨_,heap_setCell_same w b i c t v hb,fun j hj => ?_⟩;rw [Array.getElem?_setIfInBounds];have hl:j<c.size:=by
  rcases Nat.lt_or_ge j c.size with h | h
  ·exact h
  have:=hc j hj;rw [Array.getElem?_eq_none h] at this;cases this
 by_cases e:i=j
 ·subst e;rw [if_pos rfl,if_pos hl];simp
 rw [if_neg e,hc j hj];show some (f j)=some (if j=i then v else f j);rw [if_neg (fun h=>e h.symm)]
end Rw
theorem rowIs_rw {w:World} {b:Nat} {t:TypeId} {n:Nat} {f:Nat→Value} (h:w.rowIs b t n f):Rw w b t n f:=by
 obtain ⟨c,h1,_,h3⟩:=h;exact ⟨c,h1,h3⟩
theorem qg7 {w:World} {base:Nat} {e:TypeId} {v:Value} {n:Nat} {f:Nat→Value} (h:w.ownsRow base e 1 v n ((List.range n).map f)) (hn:0<n):∃ g c,v=.slice (some ⟨g,0,none⟩) n c∧base≤g∧Rw w g e n f:=by
 rcases h.2 with ⟨_,h0⟩ | ⟨g,cap,cur,rfl,hb,hh,h1,h2,h3,h4⟩
 ·omega
 refine ⟨g,cap,rfl,hb,cur,hh,fun i hi => ?_⟩
 have:=congrArg (fun l:List Value=>l[i]?) h4
 simpa [hi] using this
structure Only (lo hi:Nat) (w w':World):Prop where
 os:w'.os=w.os
 tape:w'.tape=w.tape
 output:w'.output=w.output
 size:w.heap.size≤w'.heap.size
 block:∀ k,k<w.heap.size→¬(lo≤k∧k<hi)→w'.heap[k]? = w.heap[k]?
namespace Only
variable {lo hi:Nat} {a b c:World}
theorem refl (lo hi:Nat) (w:World):Only lo hi w w:=⟨rfl,rfl,rfl,Nat.le_refl _,fun _ _ _=>rfl⟩
theorem trans (h:Only lo hi a b) (k:Only lo hi b c):Only lo hi a c:=
 ⟨k.os.trans h.os,k.tape.trans h.tape,k.output.trans h.output,Nat.le_trans h.size k.size,fun i hi' hn=>(k.block i (Nat.lt_of_lt_of_le hi' h.size) hn).trans (h.block i hi' hn)⟩
theorem of_below (h:Below a.heap.size a b):Only lo hi a b:=⟨h.os,h.tape,h.output,h.size,fun k hk _=>h.block k hk⟩
theorem drew (h:Only lo hi a b):Only lo hi a b.drew:=h.trans ⟨rfl,rfl,rfl,Nat.le_refl _,fun _ _ _=>rfl⟩
theorem set (h:Only lo hi a b) {g:Nat} (hg:lo≤g∧g<hi) (o:Nat) (v:Value):Only lo hi a (b.setCell ⟨g,o,none⟩ v):=
 h.trans ⟨rfl,rfl,rfl,by simp,fun k _ hn=>Below.heap_setCell b ⟨g,o,none⟩ v k (fun e=>hn (by rw [e];exact hg))⟩
theorem below (h:Only lo hi a b) {B:Nat} (hB:B≤lo) (hs:B≤a.heap.size):Below B a b:=
 ⟨h.os,h.tape,h.output,h.size,fun k hk=>h.block k (by omega) (by omega)⟩
end Only
structure Loc where
 db:Nat
 nk:Nat
 bk:Nat
 rw:Nat→Nat
 cd:Nat
 cn:Nat
 ck:Nat
 cr:Nat→Nat
structure MemX (w:World) (lo hi cb:Nat) (T:TypeId) (L:Loc) (m:M) (enc:List UInt8→List UInt8) (g4 g5 g6 g7:Int):Prop where
 hcb:lo≤cb∧cb<hi
 hdb:lo≤L.db∧L.db<hi
 hnk:lo≤L.nk∧L.nk<hi
 hbk:lo≤L.bk∧L.bk<hi
 hrw:∀ i,i<m.nb→lo≤L.rw i∧L.rw i<hi
 inj:∀ i j,i<m.nb→j<m.nb→L.rw i=L.rw j→i=j
 hT:T≠40∧T≠3∧T≠4∧T≠9
 st:w.heap[cb]? = some (.cells #[.int .i64 (m.np:Nat),.slice (some ⟨L.db,0,none⟩) m.nb L.cd,.slice (some ⟨L.nk,0,none⟩) m.nb L.cn,.slice (some ⟨L.bk,0,none⟩) m.nb L.ck,.int .i64 g4,.int .i64 g5,.int .i64 g6,.int .i64 g7] T (0,0))
 data:Rw w L.db 40 m.nb (fun i=>.slice (some ⟨L.rw i,0,none⟩) m.np (L.cr i))
 next:Rw w L.nk 3 m.nb (fun i=>.int .i64 (m.nx i:Nat))
 bad:Rw w L.bk 4 m.nb (fun i=>.bool (m.bd i))
 page:∀ i,i<m.nb→Rw w (L.rw i) 9 m.np (fun p=>.string (txt (enc (m.pg i p))))
theorem qag {w:World} {i j:Nat} {c c':Array Value} {t t':TypeId} {f f':Nat × Nat} (h:w.heap[i]? = some (.cells c t f)) (h':w.heap[j]? = some (.cells c' t' f')) (hne:t≠t'):i≠j:=by
 intro e;subst e;rw [h] at h';simp at h';exact hne h'.2.1
theorem Rw.other {w:World} {b:Nat} {t:TypeId} {n:Nat} {f:Nat→Value} (h:Rw w b t n f) {g o:Nat} (hne:b≠g) (v:Value):Rw (w.setCell ⟨g,o,none⟩ v) b t n f:=
 h.of_block (Below.heap_setCell w ⟨g,o,none⟩ v b hne)
namespace MemX
variable {w w':World} {lo hi cb:Nat} {T:TypeId} {L:Loc} {m:M} {enc:List UInt8→List UInt8} {g4 g5 g6 g7:Int}
theorem of_blocks (h:MemX w lo hi cb T L m enc g4 g5 g6 g7) (e:∀ k,lo≤k→k<hi→w'.heap[k]? = w.heap[k]?):MemX w' lo hi cb T L m enc g4 g5 g6 g7:=
 ⟨h.hcb,h.hdb,h.hnk,h.hbk,h.hrw,h.inj,h.hT,(e cb h.hcb.1 h.hcb.2).trans h.st,h.data.of_block (e _ h.hdb.1 h.hdb.2),h.next.of_block (e _ h.hnk.1 h.hnk.2),h.bad.of_block (e _ h.hbk.1 h.hbk.2),
  fun i hi'=>(h.page i hi').of_block (e _ (h.hrw i hi').1 (h.hrw i hi').2)⟩
theorem below (h:MemX w lo hi cb T L m enc g4 g5 g6 g7) {B:Nat} (hB:hi≤B) (hb:Below B w w'):MemX w' lo hi cb T L m enc g4 g5 g6 g7:=
 h.of_blocks fun k h1 h2=>hb.block k (by omega)
theorem drewN (h:MemX w lo hi cb T L m enc g4 g5 g6 g7) (q:Nat):MemX (w.drewN q) lo hi cb T L m enc g4 g5 g6 g7:=h.of_blocks fun k _ _=>rfl
theorem drew (h:MemX w lo hi cb T L m enc g4 g5 g6 g7):MemX w.drew lo hi cb T L m enc g4 g5 g6 g7:=h.of_blocks fun k _ _=>rfl
theorem c0 (h:MemX w lo hi cb T L m enc g4 g5 g6 g7):w.cell? ⟨cb,0,none⟩=some (.int .i64 (m.np:Nat)):=by rw [cell_of_row w cb 0 _ T (0,0) h.st];rfl
theorem c1 (h:MemX w lo hi cb T L m enc g4 g5 g6 g7):w.cell? ⟨cb,1,none⟩=some (.slice (some ⟨L.db,0,none⟩) m.nb L.cd):=by rw [cell_of_row w cb 1 _ T (0,0) h.st];rfl
theorem c2 (h:MemX w lo hi cb T L m enc g4 g5 g6 g7):w.cell? ⟨cb,2,none⟩=some (.slice (some ⟨L.nk,0,none⟩) m.nb L.cn):=by rw [cell_of_row w cb 2 _ T (0,0) h.st];rfl
theorem c3 (h:MemX w lo hi cb T L m enc g4 g5 g6 g7):w.cell? ⟨cb,3,none⟩=some (.slice (some ⟨L.bk,0,none⟩) m.nb L.ck):=by rw [cell_of_row w cb 3 _ T (0,0) h.st];rfl
theorem c4 (h:MemX w lo hi cb T L m enc g4 g5 g6 g7):w.cell? ⟨cb,4,none⟩=some (.int .i64 g4):=by rw [cell_of_row w cb 4 _ T (0,0) h.st];rfl
theorem c5 (h:MemX w lo hi cb T L m enc g4 g5 g6 g7):w.cell? ⟨cb,5,none⟩=some (.int .i64 g5):=by rw [cell_of_row w cb 5 _ T (0,0) h.st];rfl
theorem c6 (h:MemX w lo hi cb T L m enc g4 g5 g6 g7):w.cell? ⟨cb,6,none⟩=some (.int .i64 g6):=by rw [cell_of_row w cb 6 _ T (0,0) h.st];rfl
theorem c7 (h:MemX w lo hi cb T L m enc g4 g5 g6 g7):w.cell? ⟨cb,7,none⟩=some (.int .i64 g7):=by rw [cell_of_row w cb 7 _ T (0,0) h.st];rfl
theorem fz (h:MemX w lo hi cb T L m enc g4 g5 g6 g7) (k:Nat):w.frozen? ⟨cb,k,none⟩=false:=frozen_of_row w cb k _ T h.st
theorem field (h:MemX w lo hi cb T L m enc g4 g5 g6 g7) (k:Nat) (v:Int) (h4 g5' g6' g7':Int)
 (he:(#[.int .i64 (m.np:Nat),.slice (some ⟨L.db,0,none⟩) m.nb L.cd,.slice (some ⟨L.nk,0,none⟩) m.nb L.cn,.slice (some ⟨L.bk,0,none⟩) m.nb L.ck,.int .i64 g4,.int .i64 g5,.int .i64 g6,.int .i64 g7]:Array Value).setIfInBounds k (.int .i64 v)=#[.int .i64 (m.np:Nat),.slice (some ⟨L.db,0,none⟩) m.nb L.cd,.slice (some ⟨L.nk,0,none⟩) m.nb L.cn,.slice (some ⟨L.bk,0,none⟩) m.nb L.ck,.int .i64 h4,.int .i64 g5',.int .i64 g6',.int .i64 g7']) :
 MemX (w.setCell ⟨cb,k,none⟩ (.int .i64 v)) lo hi cb T L m enc h4 g5' g6' g7':=by
 have hst:=heap_setCell_same w cb k _ T (.int .i64 v) h.st;rw [he] at hst;obtain ⟨cd,hcd,_⟩:=h.data;obtain ⟨cn,hcn,_⟩:=h.next;obtain ⟨ck,hck,_⟩:=h.bad;refine ⟨h.hcb,h.hdb,h.hnk,h.hbk,h.hrw,h.inj,h.hT,hst,h.data.other (qag hcd h.st (fun e=>h.hT.1 e.symm)) _,h.next.other (qag hcn h.st (fun e=>h.hT.2.1 e.symm)) _,h.bad.other (qag hck h.st (fun e=>h.hT.2.2.1 e.symm)) _,fun i hi' => ?_⟩;obtain ⟨cp,hcp,_⟩:=h.page i hi';exact (h.page i hi').other (qag hcp h.st (fun e=>h.hT.2.2.2 e.symm)) _
theorem re (h:MemX w lo hi cb T L m enc g4 g5 g6 g7) (m':M) (e1:m'.nb=m.nb) (e2:m'.np=m.np) (e3:m'.pg=m.pg) (e4:m'.nx=m.nx) (e5:m'.bd=m.bd):MemX w lo hi cb T L m' enc g4 g5 g6 g7:=by
 obtain ⟨nb,np,pg,nx,bd,_,_,_,_⟩:=m;obtain ⟨nb',np',pg',nx',bd',_,_,_,_⟩:=m';simp only at e1 e2 e3 e4 e5;subst e1 e2 e3 e4 e5;exact ⟨h.hcb,h.hdb,h.hnk,h.hbk,h.hrw,h.inj,h.hT,h.st,h.data,h.next,h.bad,h.page⟩
theorem setPage (h:MemX w lo hi cb T L m enc g4 g5 g6 g7) (i p:Nat) (hi':i<m.nb) (hp:p<m.np) (s:List UInt8) :
 MemX (w.setCell ⟨L.rw i,p,none⟩ (.string (txt (enc s)))) lo hi cb T L { m with pg:=fun a b=>if a=i∧b=p then s else m.pg a b } enc g4 g5 g6 g7:=by
 obtain ⟨cp,hcp,_⟩:=h.page i hi';obtain ⟨cd,hcd,_⟩:=h.data;obtain ⟨cn,hcn,_⟩:=h.next;obtain ⟨ck,hck,_⟩:=h.bad;refine ⟨h.hcb,h.hdb,h.hnk,h.hbk,h.hrw,h.inj,h.hT,(Below.heap_setCell w _ _ cb (qag h.st hcp h.hT.2.2.2)).trans h.st,h.data.other (qag hcd hcp (by decide)) _,h.next.other (qag hcn hcp (by decide)) _,h.bad.other (qag hck hcp (by decide)) _,fun j hj => ?_⟩;by_cases e:j=i
 ·subst e;refine ((h.page j hi').set p _).congr fun q hq => ?_
  show _=Value.string (txt (enc (if j=j∧q=p then s else m.pg j q)));by_cases e2:q=p
  ·rw [if_pos e2,if_pos ⟨rfl,e2⟩]
  rw [if_neg e2,if_neg (fun h=>e2 h.2)]
 refine ((h.page j hj).other (fun he=>e (h.inj j i hj hi' he)) _).congr fun q hq => ?_
 show _=Value.string (txt (enc (if j=i∧q=p then s else m.pg j q)));rw [if_neg (fun h=>e h.1)]
theorem setNx (h:MemX w lo hi cb T L m enc g4 g5 g6 g7) (i v:Nat) :
 MemX (w.setCell ⟨L.nk,i,none⟩ (.int .i64 (v:Nat))) lo hi cb T L { m with nx:=fun a=>if a=i then v else m.nx a } enc g4 g5 g6 g7:=by
 obtain ⟨cd,hcd,_⟩:=h.data;obtain ⟨cn,hcn,_⟩:=h.next;obtain ⟨ck,hck,_⟩:=h.bad;refine ⟨h.hcb,h.hdb,h.hnk,h.hbk,h.hrw,h.inj,h.hT,(Below.heap_setCell w _ _ cb (qag h.st hcn h.hT.2.1)).trans h.st,h.data.other (qag hcd hcn (by decide)) _,(h.next.set i _).congr fun j _ => ?_,h.bad.other (qag hck hcn (by decide)) _,fun j hj => ?_⟩
 ·show _=Value.int .i64 ((if j=i then v else m.nx j:Nat):Int);by_cases e:j=i
  ·rw [if_pos e,if_pos e]
  rw [if_neg e,if_neg e]
 obtain ⟨cp,hcp,_⟩:=h.page j hj;exact (h.page j hj).other (qag hcp hcn (by decide)) _
theorem setBd (h:MemX w lo hi cb T L m enc g4 g5 g6 g7) (i:Nat) (v:Bool) :
 MemX (w.setCell ⟨L.bk,i,none⟩ (.bool v)) lo hi cb T L { m with bd:=fun a=>if a=i then v else m.bd a } enc g4 g5 g6 g7:=by
 obtain ⟨cd,hcd,_⟩:=h.data;obtain ⟨cn,hcn,_⟩:=h.next;obtain ⟨ck,hck,_⟩:=h.bad;refine ⟨h.hcb,h.hdb,h.hnk,h.hbk,h.hrw,h.inj,h.hT,(Below.heap_setCell w _ _ cb (qag h.st hck h.hT.2.2.1)).trans h.st,h.data.other (qag hcd hck (by decide)) _,h.next.other (qag hcn hck (by decide)) _,(h.bad.set i _).congr fun j _ => ?_,fun j hj => ?_⟩
 ·show _=Value.bool (if j=i then v else m.bd j);by_cases e:j=i
  ·rw [if_pos e,if_pos e]
  rw [if_neg e,if_neg e]
 obtain ⟨cp,hcp,_⟩:=h.page j hj;exact (h.page j hj).other (qag hcp hck (by decide)) _
end MemX
def pad (l:List UInt8):List UInt8:=l++List.replicate (64 - l.length) 255
def CP (w:World) (lo hi cb:Nat) (L:Loc) (m:M):Prop:=MemX w lo hi cb 74 L m id m.life m.cut m.fail m.part
end Go.Proofs.YtodmdkhdbfbfgaaGreatDoor.S1
namespace Go.Proofs.YtodmdkhdbfbfgaaGreatDoor.S1
open Go.RowKit Pk
theorem qlL {w:World} {base:Nat} {v:Value} {n:Nat} {l:List UInt8} (h:w.ownsRow base 5 1 v n (Lib.strCells (txt l))) (hn:0<n) :
 ∃ g cap,v=.slice (some ⟨g,0,none⟩) n cap∧∀ j,j<n→w.cell? ⟨g,j,none⟩=some (.int .u8 (l.getD j 0).toNat):=by
 have hl:l.length=n:=by have:=h.1;rw [qaw] at this;simpa using this
 rcases h.2 with ⟨rfl,rfl⟩ | ⟨g,cap,cur,rfl,hb,hh,h1,h2,h3,h4⟩
 ·omega
 refine ⟨g,cap,rfl,fun j hj => ?_⟩;rw [h.cellAt j (by omega),qaw]
 have:j<l.length:=by omega
 simp [List.getD,this]
theorem qej {w:World} {base:Nat} {v:Value} {n:Nat} {l:List UInt8} (h:w.ownsRow base 5 1 v n (Lib.strCells (txt l))):l.length=n∧∃ a c,v=.slice a n c:=by
 have hl:l.length=n:=by have:=h.1;rw [qaw] at this;simpa using this
 rcases h.2 with ⟨rfl,rfl⟩ | ⟨g,cap,cur,rfl,hb,hh,h1,h2,h3,h4⟩
 ·exact ⟨hl,_,_,rfl⟩
 exact ⟨hl,_,_,rfl⟩
theorem qbP (l:List UInt8) (b:UInt8):Lib.strCells (txt l)++[Value.int .u8 b.toNat]=Lib.strCells (txt (l++[b])):=by
 rw [qaw,qaw,List.map_append];rfl
theorem Tryz.info3:(Tryz.prog.info? 3).map (fun i=>(i.zero,i.size,i.bytes))=some (some (.int .i64 0),1,8):=by kernel_rfl
theorem ql4 {w:World} {base:Nat} {v:Value} {k:Nat} {zs:Nat→Int} (h:w.ownsRow base 3 1 v k ((List.range k).map fun j=>Value.int .i64 (zs j))) :
 ∃ a cap,v=.slice a k cap∧IntsIn w a k zs:=by
 obtain ⟨hl,h⟩:=h;rcases h with ⟨rfl,rfl⟩ | ⟨g,cap,cur,rfl,hg,hh,hk,hm,hs,ht⟩
 ·exact ⟨none,0,rfl,fun h=>absurd h (by omega)⟩
 refine ⟨_,cap,rfl,fun _=>⟨g,0,rfl,fun j hj => ?_⟩⟩;have hown:w.ownsRow base 3 1 (.slice (some ⟨g,0,none⟩) k cap) k ((List.range k).map fun j=>Value.int .i64 (zs j)):=⟨hl,.inr ⟨g,cap,cur,rfl,hg,hh,hk,hm,hs,ht⟩⟩;rw [Nat.zero_add,hown.cellAt j (by omega)];simp [hj]
theorem hidI {p:Prop} (h:p):Hid p:=h
def lenOf:Value→Nat
 | .slice _ n _=>n
 | _=>0
def LensAt (s:List UInt8) (R:Option ((Nat→Int) × Nat)) (p pos:Nat) (z:Nat→Int):Prop:=
 (p≤288∧pos≤8*s.length∧(∀ j,p≤j→z j=0)∧∃ f,288≤p+f∧lensF s f p pos z=R)∨(288<p∧p≤320∧R=none)
theorem qhA {s:List UInt8} {R:Option ((Nat→Int) × Nat)} {p pos:Nat} {z:Nat→Int} (h:LensAt s R p pos z) (hp:p<288) (h4:¬8*s.length<pos+4) (hv:val s pos 4≠0) :
 LensAt s R (p+1) (pos+4) (upd z p (val s pos 4)):=by
 rcases h with ⟨_,hpos,hz,f,hf,hR⟩ | ⟨h,_⟩
 ·refine .inl ⟨by omega,by omega,fun j hj => ?_,?_⟩
  ·unfold upd;rw [if_neg (by omega)];exact hz j (by omega)
  obtain ⟨g,rfl⟩:∃ g,f=g+1:=⟨f - 1,by omega⟩;exact ⟨g,by omega,by rw [←hR,qfy s g p pos z hp h4 hv]⟩
 omega
theorem qiu {s:List UInt8} {R:Option ((Nat→Int) × Nat)} {p pos:Nat} {z:Nat→Int} (h:LensAt s R p pos z) (hp:p<288) (h4:¬8*s.length<pos+4) (hv:val s pos 4=0) (h9:¬8*s.length<pos+9) :
 LensAt s R (p+1+val s (pos+4) 5) (pos+9) z:=by
 have h32:=qdW s (pos+4) 5;rcases h with ⟨_,hpos,hz,f,hf,hR⟩ | ⟨h,_⟩
 ·obtain ⟨g,rfl⟩:∃ g,f=g+1:=⟨f - 1,by omega⟩;by_cases hov:288<p+1+val s (pos+4) 5
  ·refine .inr ⟨hov,by omega,?_⟩;rw [←hR,qh0 s g p pos z hp h4 hv h9 hov]
  refine .inl ⟨by omega,by omega,fun j hj=>hz j (by omega),g,by omega,?_⟩;rw [←hR,qfB s g p pos z hp h4 hv h9 hov]
 omega
theorem qfJ {s:List UInt8} {R:Option ((Nat→Int) × Nat)} {p pos:Nat} {z:Nat→Int} (h:LensAt s R p pos z) (hp:p<288) (h4:8*s.length<pos+4):R=none:=by
 rcases h with ⟨_,hpos,hz,f,hf,hR⟩ | ⟨h,_⟩
 ·rw [←hR,qf3 s f p pos z hp hf h4]
 omega
theorem qer {s:List UInt8} {R:Option ((Nat→Int) × Nat)} {p pos:Nat} {z:Nat→Int} (h:LensAt s R p pos z) (hp:p<288) (h4:¬8*s.length<pos+4) (hv:val s pos 4=0) (h9:8*s.length<pos+9):R=none:=by
 rcases h with ⟨_,hpos,hz,f,hf,hR⟩ | ⟨h,_⟩
 ·obtain ⟨g,rfl⟩:∃ g,f=g+1:=⟨f - 1,by omega⟩;rw [←hR,qe4 s g p pos z hp h4 hv h9]
 omega
theorem qig {s:List UInt8} {R:Option ((Nat→Int) × Nat)} {pos:Nat} {z:Nat→Int} (h:LensAt s R 288 pos z):R=some (z,pos)∧pos≤8*s.length:=by
 rcases h with ⟨_,hpos,hz,f,hf,hR⟩ | ⟨h,_⟩
 ·rw [←hR,qeb];exact ⟨rfl,hpos⟩
 omega
theorem qip {s:List UInt8} {R:Option ((Nat→Int) × Nat)} {p pos:Nat} {z:Nat→Int} (h:LensAt s R p pos z) (hp:p<288):pos≤8*s.length∧∀ j,p≤j→z j=0:=by
 rcases h with ⟨_,hpos,hz,_⟩ | ⟨h,_⟩
 ·exact ⟨hpos,hz⟩
 omega
end Go.Proofs.YtodmdkhdbfbfgaaGreatDoor.S1
