/- Lemmas. -/
import Derived.Test.YtodmdkhdbfbfgabGreatDoorM46
set_option linter.unusedVariables false
set_option linter.unusedSimpArgs false
set_option maxRecDepth 100000
set_option maxHeartbeats 8000000
namespace Go.Proofs.YtodmdkhdbfbfgabGreatDoor.S1
open Go.RowKit Pk
def cntS (l:List (Nat × Nat)) (i:Nat):Nat:=sumL (fun s=>if s.1=i then 1 else 0) l
theorem qnG (l:List (Nat × Nat)) (i:Nat):cntS l i≤l.length:=by
 unfold cntS
 induction l with
 | nil=>exact Nat.le_refl _
 | cons x l ih=>simp only [sumL,List.length_cons];split<;>omega
theorem qji (l:List (Nat × Nat)) (k i:Nat) (h:k<l.length):cntS (l.take (k+1)) i=cntS (l.take k) i+if (l.getD k (0,0)).1=i then 1 else 0:=by
 unfold cntS;rw [List.take_add_one,List.getElem?_eq_getElem h,qaA,List.getD_eq_getElem?_getD,List.getElem?_eq_getElem h];simp [sumL]
theorem qhs (l:List (Nat × Nat)) (i:Nat):0<cntS l i↔∃ s∈l,s.1=i:=by
 unfold cntS
 induction l with
 | nil=>simp [sumL]
 | cons x l ih =>
   simp only [sumL,List.mem_cons,exists_eq_or_imp];by_cases e:x.1=i
   ·simp [e];omega
   simp only [if_neg e,Nat.zero_add,ih]
   constructor
   ·intro h;exact .inr h
   rintro (h | h)
   ·exact absurd h e
   exact h
theorem qmy (f g:Nat→Nat) (k:Nat):sumW (fun i=>f i+g i) k=sumW f k+sumW g k:=by
 induction k with
 | zero=>rfl
 | succ k ih=>simp only [sumW];rw [ih];omega
theorem qmR (x k:Nat):sumW (fun i=>if x=i then 1 else 0) k=if x<k then 1 else 0:=by
 induction k with
 | zero=>simp [sumW]
 | succ k ih =>
   simp only [sumW];rw [ih];by_cases e:x=k
   ·subst e;simp
   by_cases h:x<k
   ·rw [if_pos h,if_neg e,if_pos (by omega)]
   rw [if_neg h,if_neg e,if_neg (by omega)]
theorem qlR (l:List (Nat × Nat)) (h:∀ s∈l,s.1<288):sumW (cntS l) 288=l.length:=by
 induction l with
 | nil =>
   have:sumW (cntS []) 288=sumW (fun _=>0) 288:=qbG _ _ _ fun i _=>rfl
   rw [this]
   have:∀ k,sumW (fun _=>0) k=0:=fun k=>by induction k with
    | zero=>rfl
    | succ k ih=>simp only [sumW];omega
   rw [this];rfl
 | cons x l ih =>
   have e:sumW (cntS (x :: l)) 288=sumW (fun i=>(if x.1=i then 1 else 0)+cntS l i) 288:=qbG _ _ _ fun i _=>rfl
   rw [e,qmy,qmR,if_pos (h x (by simp)),ih (fun s hs=>h s (by simp [hs]))];simp;omega
theorem qil {w:World} {b n:Nat} {f:Nat→Nat} (h:w.rowIs b 3 n (fun j=>.int .i64 (f j:Nat))) (hn:n≤maxLen):w.ownsRow 0 3 1 (.slice (some ⟨b,0,none⟩) n n) n (intsV ((List.range n).map f)):=by
 obtain ⟨c,hb,hs,hc⟩:=h;refine ⟨by simp [intsV],.inr ⟨b,n,c,rfl,Nat.zero_le _,hb,Nat.le_refl _,hn,by omega,?_⟩⟩;rw [List.take_of_length_le (by simp;omega)];unfold intsV;rw [List.map_map]
 apply List.ext_getElem?
 intro i;by_cases hi:i<n
 ·rw [List.getElem?_map,List.getElem?_range hi]
  have:=hc i hi
  simpa using this
 rw [List.getElem?_eq_none (by simp;omega),List.getElem?_eq_none (by simp;omega)]
theorem qcr (f:Nat→Nat) (n i:Nat) (h:i<n):((List.range n).map f).getD i 0=f i:=by
 rw [List.getD_eq_getElem?_getD,List.getElem?_map,List.getElem?_range h];rfl
theorem qg7 (w:World) (sb cnt cap:Nat) (l:List (Nat × Nat)) (hl:l.length=cnt) (hc:cnt≤4000) (hsy:∀ s∈l,s.1<288) (hown:w.ownsRow 0 240 2 (.slice (some ⟨sb,0,none⟩) cnt cap) cnt (qan l)) :
 Calls Tryz.prog 173 #[.slice (some ⟨sb,0,none⟩) cnt cap] w fun e w'=>e=.returned (.slice (some ⟨w.heap.size,0,none⟩) 288 288)∧w'.rowIs w.heap.size 3 288 (fun j=>.int .i64 (cntS l j:Nat))∧Below w.heap.size w w':=by
 obtain ⟨M,hM⟩:∃ M,M=madeCells #[Value.int .i64 0] 288:=⟨_,rfl⟩;have hmk:∀ W:World,(Instr.makeSlice 22 (.int .i64 288) (.int .i64 288)).run Tryz.prog W=.ok (.slice (some ⟨W.heap.size,0,none⟩) 288 288) (W.alloc (.cells M 3)):=fun W=>by
  rw [hM];exact run_make_row' (P:=Tryz.prog) 22 3 (.int .i64 0) 8 Tryz.underlying22 Tryz.info3 rfl .i64 .i64 288 (by omega) (by omega) W
 have Hrow0:Hid ((w.alloc (.cells M 3)).rowIs w.heap.size 3 288 (fun j=>.int .i64 (cntS (l.take 0) j:Nat))):=by rw [hM];exact World.rowIs_made w (.int .i64 0) 288 3
 clear hM;have hsb:=(hown.lt sb rfl).2;have Hcell:Hid (∀ i,i<cnt→w.cell? ⟨sb,i*2,none⟩=some (.int .i64 ((l.getD i (0,0)).1:Nat))∧w.cell? ⟨sb,i*2+1,none⟩=some (.int .i64 ((l.getD i (0,0)).2:Nat))):=fun i hi=>by
  rw [hown.cellAt (i*2) (by omega),hown.cellAt (i*2+1) (by omega),Nat.mul_comm i 2];exact qcc l i (by omega)
 have Hsy:=hidI hsy;have Hl:=hidI hl;clear hown hsy hl;go_enter Tryz.func173,Tryz.ntmps173
 go_wp2;clear hmk
 go_loopw [9] (fun i wr=>∃ k:Nat,i=.int .i64 (k:Nat)∧k≤cnt∧Hid (wr.rowIs w.heap.size 3 288 (fun j=>.int .i64 (cntS (l.take k) j:Nat)))∧Hid (Below w.heap.size w wr)) (fun i _=>cnt - (intOf i).toNat)
 case atStart=>exact ⟨0,rfl,by omega,Hrow0,(Below.refl _ w).alloc (Nat.le_refl _) _⟩
 case round =>
  clear Hrow0;obtain ⟨k,rfl,hk,Hrow,Hbel⟩:=hrel;by_cases hlt:k<cnt
  ·obtain ⟨c1,c2⟩:=Hcell.out k hlt;have hkl:k<l.length:=by have:=Hl.out;omega
   have hmem:l.getD k (0,0)∈l:=by
    rw [List.getD_eq_getElem?_getD,List.getElem?_eq_getElem hkl];exact List.getElem_mem hkl
   have hs288:=Hsy.out _ hmem;obtain ⟨s,hs⟩:∃ s,s=(l.getD k (0,0)).1:=⟨_,rfl⟩;obtain ⟨b,hb⟩:∃ b,b=(l.getD k (0,0)).2:=⟨_,rfl⟩;rw [←hs] at c1 hs288;rw [←hb] at c2;have x1:wr.cell? ⟨sb,k*2,none⟩=some (.int .i64 (s:Nat)):=by rw [Hbel.out.cell (p:=⟨sb,k*2,none⟩) hsb];exact c1
   have x2:wr.cell? ⟨sb,k*2+1,none⟩=some (.int .i64 (b:Nat)):=by rw [Hbel.out.cell (p:=⟨sb,k*2+1,none⟩) hsb];exact c2
   have hszr:=Hbel.out.size;have hrow:=Hrow.out.alloc (.cells #[.int .i64 (s:Nat),.int .i64 (b:Nat)] 240);have y1:=hrow.cell (i:=s) hs288;have yf:=hrow.frozen s;obtain ⟨x,hx⟩:∃ x,x=cntS (l.take k) s:=⟨_,rfl⟩;have hxk:x≤4000:=by
    rw [hx];have:=qnG (l.take k) s;rw [List.length_take] at this;omega
   rw [←hx] at y1;have hset:=hrow.set s (.int .i64 ((x:Int)+1));have Hrow2:Hid (((wr.alloc (.cells #[.int .i64 (s:Nat),.int .i64 (b:Nat)] 240)).setCell ⟨w.heap.size,s,none⟩ (.int .i64 ((x:Int)+1))).rowIs w.heap.size 3 288 (fun j=>.int .i64 (cntS (l.take (k+1)) j:Nat))):=hset.congr fun j _=>by
    rw [qji l k j hkl,←hs];by_cases e:j=s
    ·subst e;rw [if_pos rfl,if_pos rfl,hx];rfl
    rw [if_neg e,if_neg (fun h=>e h.symm)];rfl
   have Hbel2:Hid (Below w.heap.size w ((wr.alloc (.cells #[.int .i64 (s:Nat),.int .i64 (b:Nat)] 240)).setCell ⟨w.heap.size,s,none⟩ (.int .i64 ((x:Int)+1)))):=(Hbel.out.alloc hszr _).setCell (p:=⟨w.heap.size,s,none⟩) (Nat.le_refl _) _;clear hset hrow hs hb hx hmem c1 c2 Hrow Hbel;go_wp2;go_roundw
   case rel=>exact ⟨k+1,by go_num,by omega,Hrow2,Hbel2⟩
   case measure=>simp [intOf];omega
  have hkc:k=cnt:=by omega
  subst hkc;have htk:l.take k=l:=List.take_of_length_le (by have:=Hl.out;omega);rw [htk] at Hrow;clear htk;go_wp2;go_ret
  exact ⟨rfl,Hrow.out,Hbel.out⟩
theorem qj9 (M K:Nat) (hK:K=M+12) (S:List Nat) (ln:Nat→Nat) (h:∀ i∈S,ln i≤12) (hk:sumL (fun i=>2^(K - ln i)) S≤2^K):sumL (fun i=>2^(12 - ln i)) S≤4096:=by
 have e:sumL (fun i=>2^(K - ln i)) S=2^M*sumL (fun i=>2^(12 - ln i)) S:=by
  rw [←qeH];refine qbN fun i hi => ?_
  rw [←Nat.pow_add]
  congr 1
  have:=h i hi;omega
 have e2:2^K=2^M*4096:=by rw [hK,Nat.pow_add]
 rw [e,e2] at hk;exact Nat.le_of_mul_le_mul_left hk (Nat.pow_pos (by omega))
theorem qmB (S:List Nat) (ln:Nat→Nat) (h:∀ i∈S,ln i≤12) (hk:sumL (fun i=>2^(288 - ln i)) S≤2^288):sumL (fun i=>2^(12 - ln i)) S≤4096:=
 qj9 276 288 rfl S ln h hk
theorem qip (ln c:Nat→Nat) (k:Nat) (h:∀ i,i<k→(0<ln i↔0<c i)):sumTo (fun i=>(ln i:Int)) k=(sumL (fun i=>2^(12 - ln i)) (symsTo c k):Nat):=by
 induction k with
 | zero=>rfl
 | succ k ih =>
   have h1:=ih (fun i hi=>h i (by omega));have h2:=h k (by omega);rw [sumTo,h1];unfold wt;by_cases e:0<c k
   ·rw [qcC c k e,qaA,if_pos (by have:=h2.2 e;omega)];simp only [sumL,Nat.add_zero]
    have:((12:Int) - (ln k:Int)).toNat=12 - ln k:=by omega
    rw [this];simp
   rw [qdl c k (by omega),if_neg (by have:¬0<ln k:=fun hh=>e (h2.1 hh);omega)];omega
theorem qnY (ln c:Nat→Nat) (h1:∀ i,i<288→(0<ln i↔0<c i)) (h2:∀ i,ln i≤12) (hk:sumL (fun i=>2^(288 - ln i)) (symsTo c 288)≤2^288):Fits (fun i=>(ln i:Int)) 288:=by
 refine ⟨fun k _=>⟨by omega,by have:=h2 k;omega⟩,?_⟩;rw [qip ln c 288 h1]
 have:=qmB (symsTo c 288) ln (fun i _=>h2 i) hk
 omega
theorem qnv (ln c:Nat→Nat) (k:Nat) (h:∀ i,i<k→(0<ln i↔0<c i)):nz (fun i=>(ln i:Int)) k=(symsTo c k).length:=by
 induction k with
 | zero=>rfl
 | succ k ih =>
   have h2:=h k (by omega);rw [nz,ih (fun i hi=>h i (by omega))];by_cases e:0<c k
   ·rw [qcC c k e,if_neg (by have:=h2.2 e;omega)];simp
   rw [qdl c k (by omega),if_pos (by have:¬0<ln k:=fun hh=>e (h2.1 hh);omega)];rfl
theorem qmv (l:List Nat) (hn:l.Nodup) (a b c:Nat) (h:∀ x∈l,x=a∨x=b∨x=c):l.length≤3:=by
 match l,hn,h with
 | [],_,_=>simp
 | [_],_,_=>simp
 | [_,_],_,_=>simp
 | [_,_,_],_,_=>simp
 | p :: q :: r :: s :: t,hn,h =>
   exfalso
   simp only [List.nodup_cons,List.mem_cons,not_or] at hn;have h1:=h p (by simp);have h2:=h q (by simp);have h3:=h r (by simp);have h4:=h s (by simp);omega
def sbits (ln:Nat→Nat) (s:Nat × Nat):Nat:=ln s.1+if s.1<256 then 0 else 12
theorem qgC (ln:Nat→Nat) (l:List (Nat × Nat)) (h:∀ s∈l,ln s.1≤2):sumL (sbits ln) l≤2*litS l+14*cpS l:=by
 unfold litS cpS
 induction l with
 | nil=>simp [sumL]
 | cons x l ih =>
   have h1:=h x (by simp);have h2:=ih (fun s hs=>h s (by simp [hs]));simp only [sumL,sbits] at h2 ⊢
   split<;>omega
theorem qiP {n c pos len:Nat} {l:List (Nat × Nat)} {ln:Nat→Nat} (hn:0<n) (has:AS n c n l) (h1:∀ i,i<288→(0<ln i↔0<cntS l i)) (h2:∀ i,ln i≤1∨ln i+1≤(symsTo (cntS l) 288).length)
 (hpos:pos≤24+13*nz (fun i=>(ln i:Int)) 288+90+sumL (sbits ln) l) (hlen:8*len<pos+8):len≤40+n/16:=by
 have key:∀ x,(∀ s∈l,s.1=c∨s.1=287∨s.1=x)→litS l≤3→34*cpS l≤n+33→len≤40+n/16:=fun x hx hlit hcp=>by
  have h3:(symsTo (cntS l) 288).length≤3:=qmv _ (qcH _ _) c 287 x fun y hy=>by
   have:=((qeg _ _ _).1 hy).2
   obtain ⟨s,hs,rfl⟩:=(qhs l y).1 this;exact hx s hs
  have h4:=qgC ln l fun s _=>by have:=h2 s.1;omega
  rw [qnv ln (cntS l) 288 h1] at hpos;omega
 cases has with
 | start h _=>omega
 | run a b e f=>exact key c (fun s hs=>(f s hs).elim .inl (fun h=>.inr (.inl h))) (by omega) (by omega)
 | rest x a b e f=>exact key x f (by omega) (by omega)
theorem qhx (s:List UInt8) (k:Nat):val s (8*k) 8=(s.getD k 0).toNat:=by
 have hb:∀ j,j<8→bt s (8*k+j)=(s.getD k 0).toNat/2^(7 - j)%2:=fun j hj=>by
  unfold bt;rw [show (8*k+j)/8=k by omega,show (8*k+j)%8=j by omega]
 have hx:=(s.getD k 0).toNat_lt;simp only [qaF,qlQ];rw [hb 7 (by omega),hb 6 (by omega),hb 5 (by omega),hb 4 (by omega),hb 3 (by omega),hb 2 (by omega),hb 1 (by omega),hb 0 (by omega)];simp only [Nat.sub_self,Nat.sub_zero]
 generalize (s.getD k 0).toNat=x at *
 simp only [show (2:Nat)^0=1 from rfl,show (2:Nat)^(7 - 6)=2 from rfl,show (2:Nat)^(7 - 5)=4 from rfl,show (2:Nat)^(7 - 4)=8 from rfl,show (2:Nat)^(7 - 3)=16 from rfl,show (2:Nat)^(7 - 2)=32 from rfl,show (2:Nat)^(7 - 1)=64 from rfl,show (2:Nat)^7=128 from rfl];omega
theorem qgP {b T:List UInt8} {pos k:Nat} (h:Ag b T pos) (hk:8*k+8≤pos):T.getD k 0=b.getD k 0:=by
 apply UInt8.toNat_inj.1
 rw [←qhx,←qhx];exact h.val _ _ hk
theorem qoq {d T:List UInt8} {z:Nat→Int} {p1 p2:Nat} {b:List UInt8} (h0:0<d.length) (hd:d.length≤4000) (hb:b=[1,UInt8.ofNat (d.length/256),UInt8.ofNat (d.length%256)]) (hag:Ag b T 24) (h24:24≤p2) (hf:Fits z 288) (hw:Wr T p2) (hl:lensF (T.drop 3) 288 0 0 (fun _=>0)=some (z,p1 - 24)) (hdt:dataF (T.drop 3) z 288 d.length d.length [] (p1 - 24)=some (d,p2 - 24)) :
 unpF 288 T=some d:=by
 have hlen:=hag.len;have e0:=qgP (k:=0) hag (by omega);have e1:=qgP (k:=1) hag (by omega);have e2:=qgP (k:=2) hag (by omega);have hbody:=qkH h24 hf hw hl hdt;subst hb;simp only [List.length_cons,List.length_nil] at hlen
 match T,hlen,e0,e1,e2,hbody with
 | t0 :: t1 :: t2 :: r,_,e0,e1,e2,hbody =>
   simp at e0 e1 e2;subst e0;have hh:256*t1.toNat+t2.toNat=d.length:=by
    rw [e1,e2,UInt8.toNat_ofNat',UInt8.toNat_ofNat'];omega
   rw [qgl 288 (t1 :: t2 :: r) (by simp) (by show ¬(256*t1.toNat+t2.toNat<1∨4000<256*t1.toNat+t2.toNat);omega)];simp only [List.getD_cons_zero,List.getD_cons_succ,List.drop_succ_cons,List.drop_zero] at hbody ⊢;rw [hh];exact hbody
theorem qoD (w:World) (B g:Nat) (b:List UInt8) (pos n k:Nat) (hB:B≤w.heap.size) (hb:0<b.length) (hp:pos≤400000) (hk:k≤12) (hn:n<2^k) (h:BW w B g b pos) :
 Calls Tryz.prog 176 #[.pointer (some ⟨g,0,none⟩),.int .i64 (n:Nat),.int .i64 (k:Nat)] w fun e w'=>e=.returned (.tuple #[])∧∃ b',BW w' B g b' (pos+k)∧Ag b b' pos∧val b' pos k=n∧Below B w w'∧Keeps 240 w w':=by
 have Hn:=hidI hn;have Hh:=hidI h;have hn12:n<4096:=by
  have:=Nat.pow_le_pow_right (show 0<2 by omega) hk
  omega
 clear hn h;obtain ⟨i0,hi,hz0,hz1',hz2⟩:=info_parts Tryz.info5;go_enter Tryz.func176,Tryz.ntmps176
 go_wp2
 go_loopw [6] (fun i wr=>∃ j:Nat,j≤k∧i=.int .i64 ((k:Int) - 1 - (j:Int))∧∃ c,BW wr B g c (pos+j)∧Ag b c pos∧val c pos j=n/2^(k - j)∧Below B w wr∧Hid (Keeps 240 w wr)) (fun i _=>(intOf i+1).toNat)
 case atStart =>
  refine ⟨0,by omega,by go_num,b,Hh.out,Ag.refl _ _,?_,Below.refl _ _,Keeps.refl _ _⟩;rw [Nat.sub_zero,Nat.div_eq_of_lt Hn.out];rfl
 case round =>
  clear Hh;obtain ⟨j,hj,rfl,c,hc,hag,hv,hbel,Hkp⟩:=hrel;by_cases hlt:j<k
  ·obtain ⟨v,hst,hown⟩:=hc.st;have hwr:=hc.wr;have hg:=hc.hg;have hcl:0<c.length:=Nat.lt_of_lt_of_le hb hag.len;have Hwr:=hidI hwr;have Hv:=hidI hv;have Hag:=hidI hag;have hlo:=hwr.lo;have hhi:=hwr.hi;obtain ⟨r,cap,rfl,hr⟩:=qgq hown hcl;clear hc hwr hv hag;have hz1:decide (0≤(k:Int) - 1 - (j:Int))=true:=by simp;omega
   by_cases h0:pos+j=8*c.length
   ·have h80:8*c.length - (pos+j)=0:=by omega
    rw [h80] at hst;have x0:wr.cell? ⟨g,0,none⟩=some (.slice (some ⟨r,0,none⟩) c.length cap):=by rw [cell_of_row wr g 0 _ 237 (0,0) hst];rfl
    have x1:wr.cell? ⟨g,1,none⟩=some (.int .i64 0):=by rw [cell_of_row wr g 1 _ 237 (0,0) hst];rfl
    have hwB:B≤wr.heap.size:=Nat.le_trans hB hbel.size;have hcb:c.length≤100000:=by omega
    have Hst:=hidI hst;have Hbel:=hidI hbel;clear hst hbel h80;go_wp2_with (at_builtin;refine wpList_append_lies _ rfl (.tmp 22) (.tmp 23) 50 rfl B 5 i0 (.int .u8 0) 1 1 Tryz.underlying50 hi hz0 hz1' hz2 rfl (by decide) (.slice (some ⟨r,0,none⟩) c.length cap) c.length _ rfl (hown.alloc _) ⟨wr.heap.size,0,none⟩ 1 1 [.int .u8 0] rfl rfl (cell_one_new _ _ _) (by intro u hu;simp at hu;subst hu;rfl) (by omega) (by unfold maxLen;omega) (by omega) (by simp;omega) (wr.heap.size+1) (by simp) ?_);intro r2 cap2 w2 hown2 hgrow hat hlt2;have hst1:=(((Keeps.refl 237 wr).alloc _).grown (hown.alloc _) (by decide) hgrow).block Hst.out;have Hbel1:Hid (Below B w w2):=(Hbel.out.alloc hwB _).grown hgrow (by simp;omega) (fun q hq=>(hown.lt q hq).1);have hown2:w2.ownsRow B 5 1 (.slice (some ⟨r2,0,none⟩) (c++[0]).length cap2) (c++[0]).length ((c++[(0:UInt8)]).map fun (y:UInt8)=>.int .u8 (y.toNat:Nat)):=by
     rw [List.length_append,List.map_append];exact hown2
    have hr2:B≤r2:=(hown2.lt r2 rfl).1;have y0:w2.cell? ⟨g,0,none⟩=some (.slice (some ⟨r,0,none⟩) c.length cap):=by rw [cell_of_row w2 g 0 _ 237 (0,0) hst1];rfl
    have yf0:=frozen_of_row w2 g 0 _ 237 hst1;have hst2:=heap_setCell_same w2 g 0 _ 237 (.slice (some ⟨r2,0,none⟩) (c.length+1) cap2) hst1;have y1:(w2.setCell ⟨g,0,none⟩ (.slice (some ⟨r2,0,none⟩) (c.length+1) cap2)).cell? ⟨g,1,none⟩=some (.int .i64 0):=by rw [cell_of_row _ g 1 _ 237 (0,0) hst2];rfl
    have yf1:=frozen_of_row _ g 1 _ 237 hst2;have hst3:=heap_setCell_same _ g 1 _ 237 (.int .i64 8) hst2;have z1:((w2.setCell ⟨g,0,none⟩ (.slice (some ⟨r2,0,none⟩) (c.length+1) cap2)).setCell ⟨g,1,none⟩ (.int .i64 8)).cell? ⟨g,1,none⟩=some (.int .i64 8):=by rw [cell_of_row _ g 1 _ 237 (0,0) hst3];rfl
    have zf1:=frozen_of_row _ g 1 _ 237 hst3;have hst4:=heap_setCell_same _ g 1 _ 237 (.int .i64 7) hst3;have hgr:g≠r2:=by
     intro e;subst e;obtain ⟨_,_,hk⟩:=Lib.ownsRow_kind hown2 g rfl;rw [hst1] at hk;simp at hk
    have hgv:(Value.slice (some ⟨r2,0,none⟩) (c++[0]).length cap2).ownBlock≠some g:=by simp [Value.ownBlock];exact fun e=>hgr e.symm
    have hown4:=ownsRow_setCell_other (a:=⟨g,1,none⟩) (ownsRow_setCell_other (a:=⟨g,1,none⟩) (ownsRow_setCell_other (a:=⟨g,0,none⟩) hown2 hgv (.slice (some ⟨r2,0,none⟩) (c.length+1) cap2)) hgv (.int .i64 8)) hgv (.int .i64 7);have Hbel4:=hidI (((Hbel1.out.setCell (p:=⟨g,0,none⟩) hg (.slice (some ⟨r2,0,none⟩) (c.length+1) cap2)).setCell (p:=⟨g,1,none⟩) hg (.int .i64 8)).setCell (p:=⟨g,1,none⟩) hg (.int .i64 7));have hs4:(c++[0]).length=c.length+1:=by simp
    have v0:(((w2.setCell ⟨g,0,none⟩ (.slice (some ⟨r2,0,none⟩) (c.length+1) cap2)).setCell ⟨g,1,none⟩ (.int .i64 8)).setCell ⟨g,1,none⟩ (.int .i64 7)).cell? ⟨g,0,none⟩=some (.slice (some ⟨r2,0,none⟩) (c.length+1) cap2):=by rw [cell_of_row _ g 0 _ 237 (0,0) hst4];rfl
    have v1:(((w2.setCell ⟨g,0,none⟩ (.slice (some ⟨r2,0,none⟩) (c.length+1) cap2)).setCell ⟨g,1,none⟩ (.int .i64 8)).setCell ⟨g,1,none⟩ (.int .i64 7)).cell? ⟨g,1,none⟩=some (.int .i64 7):=by rw [cell_of_row _ g 1 _ 237 (0,0) hst4];rfl
    have vr:(((w2.setCell ⟨g,0,none⟩ (.slice (some ⟨r2,0,none⟩) (c.length+1) cap2)).setCell ⟨g,1,none⟩ (.int .i64 8)).setCell ⟨g,1,none⟩ (.int .i64 7)).cell? ⟨r2,c.length,none⟩=some (.int .u8 0):=by
     rw [hown4.cellAt c.length (by simp),List.map_append,List.getElem?_append_right (by simp)];simp
    have vf:=hown4.frozenAt c.length;have Hkp4:Hid (Keeps 240 w (((w2.setCell ⟨g,0,none⟩ (.slice (some ⟨r2,0,none⟩) (c.length+1) cap2)).setCell ⟨g,1,none⟩ (.int .i64 8)).setCell ⟨g,1,none⟩ (.int .i64 7))):=(((Hkp.out.trans (((Keeps.refl 240 wr).alloc _).grown (hown.alloc _) (by decide) hgrow)).set hst1 (by decide)).set hst2 (by decide)).set hst3 (by decide);have Hst4:Hid ((((w2.setCell ⟨g,0,none⟩ (.slice (some ⟨r2,0,none⟩) (c.length+1) cap2)).setCell ⟨g,1,none⟩ (.int .i64 8)).setCell ⟨g,1,none⟩ (.int .i64 7)).heap[g]? = some (.cells #[.slice (some ⟨r2,0,none⟩) (c++[0]).length cap2,.int .i64 ((7:Nat):Int)] 237 (0,0))):=by
     show _=_;rw [hst4,hs4];rfl
    have Hown4:=hidI hown4;clear hst1 hst2 hst3 hst4 hown hown2 hown4 hgrow hat x0 x1 Hst Hbel Hbel1 hs4;go_wp2;go_region;have hor:bits BinOp.or IntKind.u8 0 (bits BinOp.and IntKind.i64 ((n:Int)/2^(k - 1 - j)) 1%256*128%256)=((0+n/2^(k - 1 - j)%2*2^7:Nat):Int):=by
     have h1:=qeX n k j 7 (by omega);rw [show (2:Int)^7=128 by decide] at h1;rw [h1];exact qhm 0 _ 7 (by omega) (Nat.mod_lt _ (by omega)) (by omega) (by simp)
    rw [hor];have hz:∀ i,pos+j≤i→bt (c++[0]) i=0:=fun i hi=>qk5 c i (by omega)
    obtain ⟨c',hbw,ha,hbt,hcl'⟩:=qhF (c:=c++[0]) (p:=pos+j) (q:=7) (x:=n/2^(k - 1 - j)%2) (y:=0+n/2^(k - 1 - j)%2*2^7) hg Hst4.out Hown4.out (by simp;omega) (by simp;omega) hz (Nat.mod_lt _ (by omega)) (by simp;omega) (by simp);rw [show (c++[(0:UInt8)]).length - 1=c.length by simp] at hbw;have hbel2:=Hbel4.out.setCell (p:=⟨r2,c.length,none⟩) hr2 (.int .u8 ((0+n/2^(k - 1 - j)%2*2^7:Nat):Int));have hkp5:Keeps 240 w ((((w2.setCell ⟨g,0,none⟩ (.slice (some ⟨r2,0,none⟩) (c.length+1) cap2)).setCell ⟨g,1,none⟩ (.int .i64 8)).setCell ⟨g,1,none⟩ (.int .i64 7)).setCell ⟨r2,c.length,none⟩ (.int .u8 ((0+n/2^(k - 1 - j)%2*2^7:Nat):Int))):=by
     obtain ⟨x5,f5,hk5⟩:=Lib.ownsRow_kind Hown4.out r2 rfl;exact Hkp4.out.set hk5 (by decide)
    have ha2:Ag c c' pos:=⟨by rw [hcl'];simp,fun i hi=>by rw [ha.bit i (by omega),qcd c [0] i (by omega)]⟩;have hvv:val c' pos j=val c pos j:=by
     rw [ha.val pos j (by omega)];have hab:Ag c (c++[0]) (8*c.length):=⟨by simp,fun i hi=>qcd c [0] i hi⟩;exact hab.val pos j (by omega)
    have hv2:val c' pos (j+1)=n/2^(k - (j+1)):=by
     rw [qaF,hbt,hvv,Hv.out];exact qcX n k j hlt
    generalize ((((w2.setCell ⟨g,0,none⟩ (.slice (some ⟨r2,0,none⟩) (c.length+1) cap2)).setCell ⟨g,1,none⟩ (.int .i64 8)).setCell ⟨g,1,none⟩ (.int .i64 7)).setCell ⟨r2,c.length,none⟩ (.int .u8 ((0+n/2^(k - 1 - j)%2*2^7:Nat):Int)))=W2 at *
    have Hend:Hid (BW W2.drew B g c' (pos+(j+1))∧Ag b c' pos∧val c' pos (j+1)=n/2^(k - (j+1))∧Below B w W2.drew∧Hid (Keeps 240 w W2.drew)):=⟨⟨hbw.hg,hbw.st,hbw.wr⟩,Hag.out.trans ha2 (Nat.le_refl _),hv2,hbel2.drew,hkp5.drew⟩;clear y0 yf0 y1 yf1 z1 zf1 v0 v1 vr vf hbw ha hbt hv2 hbel2 hor Hst4 Hown4 Hbel4 Hkp4 hkp5 Hkp;go_wp2;go_roundw
    case rel=>exact ⟨j+1,by omega,by go_num,c',Hend.out⟩
    case measure=>simp [intOf];omega
   obtain ⟨q,hq⟩:∃ q,8*c.length - (pos+j)=q+1:=⟨8*c.length - (pos+j) - 1,by omega⟩;rw [hq] at hst;have hqb:q≤6:=by omega
   have x0:wr.cell? ⟨g,0,none⟩=some (.slice (some ⟨r,0,none⟩) c.length cap):=by rw [cell_of_row wr g 0 _ 237 (0,0) hst];rfl
   have x1:wr.cell? ⟨g,1,none⟩=some (.int .i64 ((q+1:Nat):Int)):=by rw [cell_of_row wr g 1 _ 237 (0,0) hst];rfl
   have f1:=frozen_of_row wr g 1 _ 237 hst;have hne:(((q+1:Nat):Int)==0)=false:=by simp;omega
   have hst2:=heap_setCell_same wr g 1 _ 237 (.int .i64 (q:Nat)) hst;have y0:(wr.setCell ⟨g,1,none⟩ (.int .i64 (q:Nat))).cell? ⟨g,0,none⟩=some (.slice (some ⟨r,0,none⟩) c.length cap):=by rw [cell_of_row _ g 0 _ 237 (0,0) hst2];rfl
   have y1:(wr.setCell ⟨g,1,none⟩ (.int .i64 (q:Nat))).cell? ⟨g,1,none⟩=some (.int .i64 (q:Nat)):=by rw [cell_of_row _ g 1 _ 237 (0,0) hst2];rfl
   have hgr:g≠r:=by
    intro e;subst e;obtain ⟨_,_,hk⟩:=Lib.ownsRow_kind hown g rfl;rw [hst] at hk;simp at hk
   obtain ⟨u,hu⟩:∃ u,u=(c.getD (c.length - 1) 0).toNat:=⟨_,rfl⟩;have yr:(wr.setCell ⟨g,1,none⟩ (.int .i64 (q:Nat))).cell? ⟨r,c.length - 1,none⟩=some (.int .u8 (u:Nat)):=by
    rw [qbQ _ (fun e=>hgr e.symm),hown.cellAt (c.length - 1) (by omega),hu,List.getElem?_map,List.getD_eq_getElem?_getD,List.getElem?_eq_getElem (by omega)];rfl
   have fr:(wr.setCell ⟨g,1,none⟩ (.int .i64 (q:Nat))).frozen? ⟨r,c.length - 1,none⟩=false:=by
    rw [qbt _ (fun e=>hgr e.symm)];exact hown.frozenAt (c.length - 1)
   have hu256:u<256:=by rw [hu];exact UInt8.toNat_lt _
   have Hu:=hidI hu;have Hq:=hidI hq;have Hst:=hidI hst;have Hst2:=hidI hst2;have Hown:=hidI hown;have Hbel:=hidI hbel;clear hst hst2 hown hbel hu hq;rw [show ((q+1:Nat):Int)=(q:Int)+1 by omega] at x1 hne;go_wp2;go_region;rw [qeX n k j q (by omega),qhm u (n/2^(k - 1 - j)%2) q (by omega) (Nat.mod_lt _ (by omega)) hu256 (by
    have:=(qkS c (pos+j) 0 (by omega) (by omega) Hwr.out.zero (by omega)).1
    rw [Hq.out] at this;rw [Hu.out];exact this)]
   have hown2:(wr.setCell ⟨g,1,none⟩ (.int .i64 (q:Nat))).ownsRow B 5 1 (.slice (some ⟨r,0,none⟩) c.length cap) c.length (c.map fun c=>.int .u8 (c.toNat:Nat)):=ownsRow_setCell_other Hown.out (by simp [Value.ownBlock];exact fun e=>hgr e.symm) _;obtain ⟨c',hbw,ha,hbt,hcl'⟩:=qhF (p:=pos+j) (q:=q) (x:=n/2^(k - 1 - j)%2) (y:=u+n/2^(k - 1 - j)%2*2^q) hg Hst2.out hown2 (by omega) (by omega) Hwr.out.zero (Nat.mod_lt _ (by omega)) (by have:=Hq.out;omega) (by rw [Hu.out]);have hbel2:=(Hbel.out.setCell (p:=⟨g,1,none⟩) hg (.int .i64 (q:Nat))).setCell (p:=⟨r,c.length - 1,none⟩) hr (.int .u8 ((u+n/2^(k - 1 - j)%2*2^q:Nat):Int));have hkp5:Keeps 240 w ((wr.setCell ⟨g,1,none⟩ (.int .i64 (q:Nat))).setCell ⟨r,c.length - 1,none⟩ (.int .u8 ((u+n/2^(k - 1 - j)%2*2^q:Nat):Int))):=by
    obtain ⟨x5,f5,hk5⟩:=Lib.ownsRow_kind hown2 r rfl;exact (Hkp.out.set Hst.out (by decide)).set hk5 (by decide)
   have hv2:val c' pos (j+1)=n/2^(k - (j+1)):=by
    rw [qaF,hbt,ha.val pos j (by omega),Hv.out];exact qcX n k j hlt
   generalize ((wr.setCell ⟨g,1,none⟩ (.int .i64 (q:Nat))).setCell ⟨r,c.length - 1,none⟩ (.int .u8 ((u+n/2^(k - 1 - j)%2*2^q:Nat):Int)))=W2 at *
   have Hend:Hid (BW W2.drew B g c' (pos+(j+1))∧Ag b c' pos∧val c' pos (j+1)=n/2^(k - (j+1))∧Below B w W2.drew∧Hid (Keeps 240 w W2.drew)):=⟨⟨hbw.hg,hbw.st,hbw.wr⟩,Hag.out.trans ha (by omega),hv2,hbel2.drew,hkp5.drew⟩;clear x0 x1 f1 y0 y1 yr fr hbw ha hbt hv2 hbel2 hown2 hkp5 Hkp Hst;go_wp2;go_roundw
   case rel=>exact ⟨j+1,by omega,by go_num,c',Hend.out⟩
   case measure=>simp [intOf];omega
  have hjk:j=k:=by omega
  subst hjk;have hz1:decide (0≤(j:Int) - 1 - (j:Int))=false:=by simp;omega
  have Hc:=hidI hc;have Hag:=hidI hag;have Hv:=hidI hv;have Hbel:=hidI hbel;clear hc hag hv hbel;go_wp2;go_end0
  refine ⟨rfl,c,Hc.out,Hag.out,?_,Hbel.out,Hkp.out⟩
  have:=Hv.out
  rw [Nat.sub_self,Nat.pow_zero,Nat.div_one] at this;exact this
end Go.Proofs.YtodmdkhdbfbfgabGreatDoor.S1
namespace Go.Proofs.YtodmdkhdbfbfgabGreatDoor.S1.Pk
def flt (z:Nat→Int) (d k:Nat):List Nat:=(List.range k).filter fun i=>decide (z i=(d:Int))
def symL (z:Nat→Int) (n:Nat):Nat→List Nat
 | 0=>[]
 | d+1=>symL z n d++flt z (d+1) n
theorem qfa (z:Nat→Int) (d k:Nat) (h:z k=(d:Int)):flt z d (k+1)=flt z d k++[k]:=by
 unfold flt;rw [List.range_succ,List.filter_append];simp [h]
theorem qez (z:Nat→Int) (d k:Nat) (h:z k≠(d:Int)):flt z d (k+1)=flt z d k:=by
 unfold flt;rw [List.range_succ,List.filter_append];simp [h]
theorem qbI (z:Nat→Int) (d k:Nat):(flt z d k).length=cnt z d k:=by
 induction k with
 | zero=>rfl
 | succ k ih =>
   by_cases h:z k=(d:Int)
   ·rw [qfa z d k h,List.length_append,ih];simp [cnt,h]
   rw [qez z d k h,ih];simp [cnt,h]
theorem qnq (z:Nat→Int) (d k i:Nat) (hi:i<k) (h:z i=(d:Int)):(flt z d k)[cnt z d i]? = some i:=by
 induction k with
 | zero=>omega
 | succ k ih =>
   by_cases e:i=k
   ·subst e;rw [qfa z d i h,List.getElem?_append_right (by rw [qbI];omega),qbI];simp
   have hlt:=cnt_lt z d (show i<k by omega) h;by_cases h2:z k=(d:Int)
   ·rw [qfa z d k h2,List.getElem?_append_left (by rw [qbI];exact hlt)];exact ih (by omega)
   rw [qez z d k h2];exact ih (by omega)
theorem rank (z:Nat→Int) (d n r:Nat) (h:r<cnt z d n):∃ i,i<n∧z i=(d:Int)∧cnt z d i=r:=by
 induction n with
 | zero=>simp [cnt] at h
 | succ n ih =>
   by_cases e:z n=(d:Int)
   ·by_cases h2:r<cnt z d n
    ·obtain ⟨i,h3,h4,h5⟩:=ih h2;exact ⟨i,by omega,h4,h5⟩
    refine ⟨n,by omega,e,?_⟩;simp [cnt,e] at h;omega
   have:r<cnt z d n:=by simpa [cnt,e] using h
   obtain ⟨i,h3,h4,h5⟩:=ih this;exact ⟨i,by omega,h4,h5⟩
theorem qcV (z:Nat→Int) (n d:Nat):(symL z n (d+1)).length=(symL z n d).length+cnt z (d+1) n:=by
 rw [symL,List.length_append,qbI]
theorem qlD (z:Nat→Int) (n d D r:Nat) (hd:d+1≤D) (hr:r<cnt z (d+1) n):(symL z n D)[(symL z n d).length+r]? = (flt z (d+1) n)[r]? := by
 induction D with
 | zero=>omega
 | succ D ih =>
   by_cases e:d=D
   ·subst e;rw [symL,List.getElem?_append_right (by omega),Nat.add_sub_cancel_left]
   rw [symL,List.getElem?_append_left,ih (by omega)];have h1:(symL z n (d+1)).length≤(symL z n D).length:=by
    have:d+1≤D:=by omega
    clear ih e hd
    induction D with
    | zero=>omega
    | succ D ih =>
      by_cases e:d+1=D+1
      ·rw [e];exact Nat.le_refl _
      have:=ih (by omega);rw [qcV z n D];omega
   rw [qcV] at h1;omega
theorem qcD (z:Nat→Int) (n d:Nat):(symL z n d).length≤d*n:=by
 induction d with
 | zero=>simp [symL]
 | succ d ih=>rw [qcV];have:=qhG z (d+1) n;rw [Nat.add_mul];omega
theorem found (s:List UInt8) (z:Nat→Int) (pos d:Nat) (hd:d+1≤12) (hlo:2*aft z 288 d≤val s pos (d+1)) (hhi:val s pos (d+1) - 2*aft z 288 d<cnt z (d+1) 288) (hp:pos+(d+1)≤8*s.length) :
 ∃ i,i<288∧(symL z 288 12)[(symL z 288 d).length+(val s pos (d+1) - 2*aft z 288 d)]? = some i∧hit s z pos i=true∧(z i).toNat=d+1:=by
 obtain ⟨i,hi,hz,hc⟩:=rank z (d+1) 288 _ hhi;have hzn:(z i).toNat=d+1:=by omega
 refine ⟨i,hi,?_,?_,hzn⟩
 ·rw [qlD z 288 d 12 _ hd hhi,←hc];exact qnq z (d+1) 288 i hi hz
 rw [qbB];refine ⟨by omega,by omega,?_⟩;unfold num;rw [hzn,Nat.add_sub_cancel,hc];omega
theorem miss (s:List UInt8) (z:Nat→Int) (pos d i:Nat) (hi:i<288) (hz:z i=((d:Nat):Int)) (h:aft z 288 d≤val s pos d):hit s z pos i=false:=by
 rw [←Bool.not_eq_true,qbB];intro ⟨h1,h2,h3⟩
 have:=qcs z 288 i h1 hi
 rw [hz,Int.toNat_natCast] at this h3;omega
end Go.Proofs.YtodmdkhdbfbfgabGreatDoor.S1.Pk
