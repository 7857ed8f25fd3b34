/- Lemmas. -/
import Derived.Deep.AppendLies
import Derived.BigRegion
import Derived.Lib.OwnKind
import Derived.Test.YtodmdkhdbfbfgaaGreatDoorM05
set_option linter.unusedVariables false
set_option linter.unusedSimpArgs false
set_option maxRecDepth 100000
set_option maxHeartbeats 8000000
namespace Go.Proofs
open Go.RowKit Go.Sort Go.Shelf
shelf_lay_g Lays.n125 Nm 125 at Tryz 118 as Tryz.bitLenA
namespace YtodmdkhdbfbfgaaGreatDoor.S1
theorem lenU (n:Nat) (hn:n≤1000000) (w:World):Calls Tryz.prog 118 #[.int .u64 (n:Nat)] w fun e w'=>e=.returned (.int .i64 (bitsLen n:Nat))∧w'=w:=by
 have h:=Any.bits_Len Tryz.bitLenA (n:Int) w (by omega) (by omega)
 rwa [Int.toNat_natCast,bitLen_eq _ (by omega)] at h
theorem qeB {n:Nat} (h:n≤1000000):bitsLen n≤100:=by
 have:=(bitsLen_le_iff n 20).2 (by omega)
 omega
theorem sortU (blk off cap:Nat) (d:Array Int) (w:World) (hH:HoldsU w blk off d) (hblk:blk<w.heap.size) (hsz:d.size≤1000000) :
 Calls Tryz.prog 255 #[.slice (some ⟨blk,off,none⟩) d.size cap] w fun e w'=>e=.returned (.tuple #[])∧SrtP w blk off 0 d.size d w':=by
 obtain ⟨n,hn⟩:∃ n,n=d.size:=⟨_,rfl⟩;obtain ⟨L,hL⟩:∃ L,L=bitsLen n:=⟨_,rfl⟩;have C1:=hidI (lenU n (by omega) w);rw [←hL] at C1;have C2:=hidI (pdqU (d.size - 0+1) blk off cap 0 d.size L d w (by omega) hH hblk (by omega) (Nat.le_refl _) hsz (by rw [hL];exact qeB (by omega)) (Or.inl rfl));rw [←hn] at C2 ⊢;rw [←hn] at hsz;clear hn hL hH;go_enter Tryz.func255,Tryz.ntmps255
 go_wp2_with (first
  | (go_at_call 118;refine C1.out.mono ?_;rintro e w' ⟨rfl,rfl⟩)
  | (go_at_call 292;refine C2.out.mono ?_;rintro e w' ⟨rfl,hw⟩))
 go_end0
 exact ⟨rfl,hw⟩
end YtodmdkhdbfbfgaaGreatDoor.S1
end Go.Proofs
namespace Go.Proofs.YtodmdkhdbfbfgaaGreatDoor.S1
open Go.RowKit Pk Go.Shelf
attribute [local go_sem] Oper.semAt_some
def encU (x:Nat):Value:=.int .u32 (x:Nat)
theorem Tryz.info88:(Tryz.prog.info? 88).map (fun i=>(i.zero,i.size,i.bytes))=some (some (.int .u32 0),1,4):=by kernel_rfl
theorem qin (n:Nat) (hn:1≤n) (w:World) (B g cap:Nat) (xs:List Nat) (n₀:Nat) (S:Nat→Prop) (hB:B<n₀) (hg:g<n₀) (hSg:S g) (hlen:xs.length≤100000) (hb:w.cell? ⟨B,0,none⟩=some (.slice (some ⟨g,0,none⟩) xs.length cap)) (cur:Array Value) (hrow:w.heap[g]? = some (.cells cur 88 (0,0))) (hc:cur.toList.take xs.length=xs.map encU) :
 SeqRow Fence.wide n Tryz.prog 256 #[.pointer (some ⟨B,0,none⟩)] (fun x=>#[encU x]) xs n₀ S w:=by
 intro l J W hW hY h0;have hbW:W.cell? ⟨B,0,none⟩=some (.slice (some ⟨g,0,none⟩) xs.length cap):=by rw [hW.cell (p:=⟨B,0,none⟩) hB];exact hb
 have hcur:∀ k (h:k<xs.length),cur[k]? = some (encU xs[k]):=by
  intro k h;have h2:(cur.toList.take xs.length)[k]? = some (encU xs[k]):=by rw [hc];simp [h]
  rw [List.getElem?_take_of_lt h] at h2;simpa using h2
 have hrowW:W.heap[g]? = some (.cells cur 88 (0,0)):=(hW.block g hg).trans hrow;clear hb hrow hc;refine callsIn_of_wp Tryz.func256 rfl trivial ?_ rfl;simp only [Tryz.ntmps256,List.size_toArray,List.length_cons,List.length_nil,Nat.reduceAdd,Nat.reduceSub,Array.replicate_succ,Array.replicate_zero,List.push_toArray,List.append_toArray,List.nil_append,List.cons_append];gi_wp2
 gi_loopw [7] (fun i wr=>∃ k:Nat,k≤xs.length∧i=.int .i64 (k:Nat)∧J (xs.take k) wr∧Hid (Keep S W wr)) (fun i _=>xs.length - (intOf i).toNat)
 case atStart=>exact ⟨0,Nat.zero_le _,rfl,by simpa using h0,hidI (fun _ _=>rfl)⟩
 case round =>
  obtain ⟨k,hk,rfl,hJ,HB⟩:=hrel;by_cases hlt:k<xs.length
  ·have hcell:wr.cell? ⟨g,k,none⟩=some (.int .u32 (xs[k]:Nat)):=by
    rw [cell_of_row wr g k _ 88 (0,0) ((HB.out g hSg).trans hrowW)];exact hcur k hlt
   obtain ⟨fn,tmps,assign,body,hyy,hR⟩:=hY (xs.take k) xs[k] wr hJ (by rw [List.take_append_getElem hlt];exact List.take_prefix _ _);unfold encU at hyy;have HR:=hidI hR;have i1:((k:Nat):Int)<(xs.length:Nat):=by omega
   have i2:(0:Int)≤(k:Nat):=by omega
   obtain ⟨x,hx⟩:∃ x,x=xs[k]:=⟨_,rfl⟩;have Hx:=hidI hx;rw [←hx] at hcell hyy;clear hR hx hJ;gi_wp2_with gi_in;refine HR.out.mono ?_;rintro e W4 ⟨rfl,hJ4,hB4⟩;have HB4:=hidI (HB.out.trans hB4);have HJ4:=hidI hJ4;clear hJ4 hB4 HR hyy hcell;gi_wp2;go_roundw
   case rel=>exact ⟨k+1,by omega,rfl,by rw [←List.take_append_getElem hlt];exact HJ4.out,HB4⟩
   case measure=>simp [intOf];omega
  have hke:k=xs.length:=by omega
  subst hke;have i1:¬((xs.length:Nat):Int)<(xs.length:Nat):=by omega
  gi_wp2;go_end0
  exact ⟨⟨_,rfl⟩,by simpa using hJ⟩
theorem qhu (n:Nat) (p:Option Addr) (k c:Nat) (w:World) :
 CallsIn Fence.wide n Tryz.prog 204 #[.slice p k c] w fun e w'=>e=.returned (.func (.func 256) #[] #[.pointer (some ⟨w.heap.size,0,none⟩)])∧w'=w.alloc (.cells #[.slice p k c] 201):=by
 refine callsIn_of_wp Tryz.func204 rfl trivial ?_ rfl;simp only [Tryz.ntmps204,List.size_toArray,List.length_cons,List.length_nil,Nat.reduceAdd,Nat.reduceSub,Array.replicate_succ,Array.replicate_zero,List.push_toArray,List.append_toArray,List.nil_append,List.cons_append];gi_wp2;go_ret
 exact ⟨rfl,rfl⟩
def ApU (w:World) (bx:Nat) (pre:List Nat) (W:World):Prop:=∃ v,W.heap[bx]? = some (.cells #[v] 201 (0,0))∧W.ownsRow (bx+1) 88 1 v pre.length (pre.map encU)∧Below bx w W∧(v=.slice none 0 0↔pre=[])
theorem ApU.grown {w:World} {bx:Nat} {pre:List Nat} {W W':World} {row:Option Nat} (h:ApU w bx pre W) (hg:W.grownBy W' row) (hr:∀ r,row=some r→bx+1≤r∧∃ o:Obj,W.heap[r]? = some o∧o.isCells=false) (hw:w.heap.size=bx):ApU w bx pre W':=by
 obtain ⟨v,h1,h2,h3,h4⟩:=h;refine ⟨v,(hg.block bx (lt_of_heap h1) (fun e=>by have:=(hr bx e.symm).1;omega)).trans h1,?_,h3.grown hg (by have:=h3.size;omega) (fun k e=>by have:=(hr k e).1;omega),h4⟩;refine ⟨h2.1,?_⟩;rcases h2.2 with h5 | ⟨g,cap,cur,e,h5,h6,h7⟩
 ·exact .inl h5
 exact .inr ⟨g,cap,cur,e,h5,(hg.block g (lt_of_heap h6) (fun e'=>by
  obtain ⟨_,o,ho,hc⟩:=hr g e'.symm;rw [h6] at ho;cases ho
  cases hc)).trans h6,h7⟩
theorem qee (n:Nat) (hn:2≤n) (g:Nat) (lb:Array Value) (eg:∀ args w,(callFunc g args).run Tryz.prog w=.ok (.enter g args) w) (xs:List Nat) (hN:xs.length≤100000) (w:World) (n₀:Nat) (S:Nat→Prop) (hn₀:n₀≤w.heap.size) (hS:∀ k,S k→k<w.heap.size) (hseq:SeqRow Fence.wide (n - 1) Tryz.prog g lb (fun x=>#[encU x]) xs n₀ S w) :
 CallsIn Fence.wide n Tryz.prog 291 #[.slice none 0 0,.func (.func g) #[] lb] w fun e w'=>∃ v:Value,e=.returned v∧w'.ownsRow w.heap.size 88 1 v xs.length (xs.map encU)∧(v=.slice none 0 0↔xs=[])∧Below w.heap.size w w':=by
 obtain ⟨i0,hi,hz0,hz1,hz2⟩:=info_parts Tryz.info88;refine callsIn_of_wp_marks Tryz.func291 rfl trivial ?_ rfl;simp only [Tryz.ntmps291,List.size_toArray,List.length_cons,List.length_nil,Nat.reduceAdd,Nat.reduceSub,Array.replicate_succ,Array.replicate_zero,List.push_toArray,List.append_toArray,List.nil_append,List.cons_append];gi_wp2;obtain ⟨W0,hW0⟩:∃ W0,W0=w.alloc (.cells #[.slice none 0 0] 201):=⟨_,rfl⟩;have hs0:W0.heap.size=w.heap.size+1:=by rw [hW0];simp
 have hv0:W0.heap[w.heap.size]? = some (.cells #[.slice none 0 0] 201 (0,0)):=by rw [hW0];exact heap_alloc_new _ _
 have hb0:Below w.heap.size w W0:=by rw [hW0];exact (Below.refl _ w).alloc (Nat.le_refl _) _
 rw [←hW0];refine qbi rfl (by omega) (gf:=g) (lb:=lb) rfl trivial eg (hseq.later (hb0.mono hn₀)) (by omega) (fun k hk=>by have:=hS k hk;omega) (fun _=>rfl) (ApU w w.heap.size)
  (fun s A C row hs hg hr=>hs.grown hg (fun r e=>⟨by have:=(hr r e).1;omega,(hr r e).2⟩) rfl)
  ⟨_,hv0,World.ownsRow_nil _ _ _ _,hb0,by simp⟩
  (fun x W=>{ tmps:=#[.slice none 0 0,.func (.func g) #[] lb,.pointer (some ⟨w.heap.size,0,none⟩),undef,.slice none 0 0,encU x,.func (.func g) #[] lb,encU x,undef,undef,undef,undef,undef],defers:=[] })
  (fun x W=>W) (fun x W=>Below.refl _ W) (fun pre x W h=>h) ?assign ?body ?done
 case assign =>
  intro l x W K hK;unfold encU at hK ⊢;gi_wp2;exact hK
 case body =>
  intro l pre x W V hV hI hpre hWs hVs;have hpl:pre.length<xs.length:=by have:=hpre.length_le;simp at this;omega
  obtain ⟨v,hv,hrow,hbl,hnil⟩:=hI;have hbV:w.heap.size<V.heap.size:=lt_of_heap hv;obtain ⟨hc2,hf2⟩:=cell_of_box_a hv;have ne_of:∀ {j:Nat} {o:Obj},V.heap[j]? = some o→(∀ cur,o≠.cells cur 88 (0,0))→some j≠v.ownBlock:=fun hj hno=>by
   rcases ownsRow_ne_a hrow hj hno with e | e
   ·rw [e];simp
   exact fun e'=>e e'.symm
  unfold encU;gi_wp2_with (first
   | (gi_at_builtin;refine wpListIn_append_own _ rfl _ _ 201 rfl (w.heap.size+1) 88 i0 _ 1 4 Tryz.underlying201 hi hz0 hz1 hz2 rfl (by decide) _ _ _ rfl (hrow.alloc _) ⟨V.heap.size,0,none⟩ 1 1 [.int .u32 (x:Nat)] rfl rfl (cell_one_new _ _ _) (by simp [Value.oneCell']) (by simp [maxLen];omega) (by omega) (by simp;omega) ?_
      intro v' w3 hown' hg3 hnil3;have hv3:w3.heap[w.heap.size]? = some (.cells #[v] 201 (0,0)):=(hg3.block w.heap.size (by simp;omega) (ne_of hv (fun cur e=>by cases e))).trans ((Below.heap_alloc _ _ w.heap.size hbV).trans hv);obtain ⟨hc3,hf3⟩:=cell_of_box_a hv3;obtain ⟨g',cap',cur',rfl,hbase',hgb',hr1,hr2,hr3,hr4⟩:∃ g' cap' cur',v'=.slice (some ⟨g',0,none⟩) (pre.length+1) cap'∧w.heap.size+1≤g'∧w3.heap[g']? = some (.cells cur' 88 (0,0))∧pre.length+1≤cap'∧cap'≤maxLen∧cur'.size=cap'*1∧cur'.toList.take ((pre.length+1)*1)=pre.map encU++[.int .u32 (x:Nat)]:=by
       rcases hown'.2 with ⟨_,h0⟩ | h'
       ·exact absurd h0 (by omega)
       exact h'
      go_frame)
   | gi_round_op_a)
  have hg3':(V.alloc (.cells #[.int .u32 (x:Nat)] 88)).grownBy w3 v.ownBlock:=hg3;obtain ⟨w4,hw4⟩:∃ w4,w3.setCell ⟨w.heap.size,0,none⟩ (.slice (some ⟨g',0,none⟩) (pre.length+1) cap')=w4:=⟨_,rfl⟩;rw [hw4];have hg4:w3.grownBy w4 (some w.heap.size):=by rw [←hw4];exact grownBy_setCell0_a _ _ _
  have hv4:w4.heap[w.heap.size]? = some (.cells #[.slice (some ⟨g',0,none⟩) (pre.length+1) cap'] 201 (0,0)):=by rw [←hw4];exact heap_setCell_box_a _ hv3
  have hrow4:=hown'.kept hg4 (ownsRow_ne_a hown' hv3 (fun cur e=>by cases e));have hb3':Below w.heap.size V w3:=((Below.refl _ V).alloc (by omega) _).grown hg3' (by simp;omega) (fun k e=>by have:=(hrow.lt k e).1;omega);have hb4':Below w.heap.size V w4:=hb3'.grown hg4 (by have:=hg3'.size;simp at this;omega) (fun k e=>by cases e;omega);refine ⟨?_,Keep.of_below hb4' hS,⟨_,hv4,by simpa [encU] using hrow4,hbl.trans hb4',by simp⟩⟩;refine ((KeepsOthers.alloc _ (.cells #[.int .u32 (x:Nat)] 88)).from _).trans (KeepsFrom.trans (?_:KeepsFrom _ _ w3) (KeepsFrom.of_grownBy hg4 (fun j e=>by cases e;omega)));exact ⟨hg3'.size,fun k o hB hk ho=>(hg3'.block k (lt_of_heap hk) (fun e=>by
   rcases hrow.2 with ⟨e',_⟩ | ⟨q,cap,cur,e',_,hq,_⟩
   ·rw [e'] at e;cases e
   rw [e'] at e;simp [Value.ownBlock] at e;subst e;rw [Below.heap_alloc _ _ _ (lt_of_heap hq),hq] at hk;cases hk
   cases ho)).trans hk⟩
 case done =>
  intro D W hD hI hK;obtain ⟨v,hv,hrow,hbl,hnil⟩:=hI;obtain ⟨hc3,hf3⟩:=cell_of_box_a hv;gi_wp2;refine ⟨by simp,.inl ⟨_,_,rfl,run_takeDeferred hK,?_⟩⟩;exact ⟨_,results_tmp rfl _ _ _,v,rfl,(ownsRow_base_a hrow (by omega)).kept (grownBy_putObj_a _ _ _) (ownsRow_ne_a hrow hK (fun cur e=>by cases e)),hnil,hbl.grown (grownBy_putObj_a _ _ _) hbl.size (fun k e=>by cases e;omega)⟩
theorem qgE (n:Nat) (hn:3≤n) (g:Nat) (lb:Array Value) (eg:∀ args w,(callFunc g args).run Tryz.prog w=.ok (.enter g args) w) (xs:List Nat) (hN:xs.length≤100000) (w:World) (n₀:Nat) (S:Nat→Prop) (hn₀:n₀≤w.heap.size) (hS:∀ k,S k→k<w.heap.size) (hseq:SeqRow Fence.wide (n - 1 - 1) Tryz.prog g lb (fun x=>#[encU x]) xs n₀ S w) :
 CallsIn Fence.wide n Tryz.prog 254 #[.func (.func g) #[] lb] w fun e w'=>∃ v:Value,e=.returned v∧w'.ownsRow w.heap.size 88 1 v xs.length (xs.map encU)∧(v=.slice none 0 0↔xs=[])∧Below w.heap.size w w':=by
 refine callsIn_of_wp Tryz.func254 rfl trivial ?_ rfl;simp only [Tryz.ntmps254,List.size_toArray,List.length_cons,List.length_nil,Nat.reduceAdd,Nat.reduceSub,Array.replicate_succ,Array.replicate_zero,List.push_toArray,List.append_toArray,List.nil_append,List.cons_append];gi_wp2_with fail;refine ⟨trivial,fun _=>by omega,(qee (n - 1) (by omega) g lb eg xs hN _ n₀ S hn₀ hS hseq).mono ?_⟩;rintro e w' ⟨v,rfl,hrow,hnil,hb⟩;gi_wp2;go_ret
 exact ⟨v,rfl,hrow,hnil,hb⟩
end Go.Proofs.YtodmdkhdbfbfgaaGreatDoor.S1
namespace Go.Proofs.YtodmdkhdbfbfgaaGreatDoor.S1
open Go.RowKit Go.Sort
def ints (xs:List Nat):Array Int:=(xs.map (fun x:Nat=>(x:Int))).toArray
theorem qa6 (xs:List Nat):(ints xs).size=xs.length:=by simp [ints]
theorem qkM (xs:List Nat) {j:Nat} (h:j<xs.length):(ints xs)[j]! = (xs[j]:Int):=by simp [ints,h]
theorem qe5 {w:World} {g:Nat} {cur:Array Value} {e:TypeId} {xs:List Nat} (hb:w.heap[g]? = some (.cells cur e (0,0))) (ht:cur.toList.take xs.length=xs.map encU):HoldsU w g 0 (ints xs):=by
 intro j hj;rw [qa6] at hj;refine ⟨?_,by simp [World.frozen?,hb]⟩;have h1:(cur.toList.take xs.length)[j]? = (xs.map encU)[j]? := by rw [ht]
 rw [List.getElem?_take_of_lt hj,Array.getElem?_toList] at h1;rw [qkM xs hj];simp only [World.cell?,hb,Nat.zero_add];rw [h1];simp [hj,encU]
theorem qjD {w w':World} {g:Nat} {d:Array Int} {cur:Array Value} {e:TypeId} {fr:Nat × Nat} (hb:w.heap[g]? = some (.cells cur e fr)) (h:AtU w g 0 d w'):w'.heap[g]? = some (.cells (putCells (Value.int .u32) 0 d cur) e fr)∧Below g w w'∧w.grownBy w' (some g):=by
 obtain ⟨n,os,rfl⟩:=h;have hg:g<w.heap.size:=(Array.getElem?_eq_some_iff.1 hb).1;have hother:∀ k,k<w.heap.size→some k≠some g→(grow (putRow (Value.int .u32) (Sort.ahead w n) g 0 d) os).heap[k]? = w.heap[k]? := fun k hk hne=>by
  rw [heap_grow_old _ _ (by simpa using hk)]
  have:g≠k:=fun e=>hne (by rw [e])
  simp [putRow,mapBlock,Sort.ahead,Array.getElem?_modify,this]
 refine ⟨?_,⟨rfl,rfl,rfl,by simp,fun k hk=>hother k (by omega) (by simp;omega)⟩,⟨rfl,rfl,rfl,by simp,hother⟩⟩;rw [heap_grow_old _ _ (by simpa using hg)];simp [putRow,mapBlock,Sort.ahead,Array.getElem?_modify,hb,onCells]
theorem qks (cur:Array Value) (ys:List Nat) (h:ys.length≤cur.size):(putCells (Value.int .u32) 0 (ints ys) cur).toList.take ys.length=ys.map encU:=by
 apply List.ext_getElem?
 intro j;by_cases hj:j<ys.length
 ·rw [List.getElem?_take_of_lt hj,Array.getElem?_toList];simp [putCells,hj,ints,encU,show j<cur.size by omega]
 rw [List.getElem?_take_eq_none (by omega),List.getElem?_eq_none (by simp;omega)]
abbrev Asc (ys:List Nat):Prop:=ys.Pairwise (·≤·)
theorem qlP {xs:List Nat} {d':Array Int} (hp:PermIn 0 (ints xs).size (ints xs) d') (hs:SortedIn ltInt 0 (ints xs).size d'):∃ ys:List Nat,d'=ints ys∧ys.Perm xs∧Asc ys:=by
 have hsz:d'.size=xs.length:=by rw [hp.1,qa6]
 have hpl:d'.toList.Perm (xs.map (fun x:Nat=>(x:Int))):=by
  have:=hp.2.2
  have e1:(d'.extract 0 (ints xs).size).toList=d'.toList:=by rw [←hp.1];simp
  have e2:((ints xs).extract 0 (ints xs).size).toList=xs.map (fun x:Nat=>(x:Int)):=by
   have:((ints xs).extract 0 (ints xs).size)=ints xs:=by simp
   rw [this,ints]
  rwa [e1,e2] at this
 have hall:∀ z∈d'.toList,((z.toNat:Nat):Int)=z:=fun z hz=>by
  obtain ⟨x,_,rfl⟩:=List.mem_map.1 (hpl.mem_iff.1 hz);simp
 refine ⟨d'.toList.map Int.toNat,?_,?_,?_⟩
 ·apply Array.ext'
  simp only [ints,List.map_map]
  conv=>lhs;rw [←List.map_id d'.toList]
  exact List.map_congr_left (fun z hz=>(hall z hz).symm)
 ·have:=hpl.map Int.toNat
  simpa [List.map_map,Function.comp_def] using this
 rw [Asc,List.pairwise_iff_getElem];intro i j hi hj hij;simp only [List.length_map,Array.length_toList] at hi hj;have h:=hs i j (Nat.zero_le _) hij (by rw [qa6];omega);rw [getElem!_pos d' j hj,getElem!_pos d' i hi] at h;simp only [ltInt,decide_eq_false_iff_not,Int.not_lt] at h;simp only [List.getElem_map,Array.getElem_toList];omega
def SdP (w:World) (xs:List Nat) (e:Ending) (w':World):Prop:=∃ (v:Value) (ys:List Nat),e=.returned v∧ys.Perm xs∧Asc ys∧w'.ownsRow w.heap.size 88 1 v ys.length (ys.map encU)∧Below w.heap.size w w'
theorem qh1 (n:Nat) (hn:4≤n) (g:Nat) (lb:Array Value) (eg:∀ args w,(callFunc g args).run Tryz.prog w=.ok (.enter g args) w) (xs:List Nat) (hx:xs≠[]) (hN:xs.length≤100000) (w:World) (n₀:Nat) (S:Nat→Prop) (hn₀:n₀≤w.heap.size) (hS:∀ k,S k→k<w.heap.size) (hseq:SeqRow Fence.wide (n - 1 - 1 - 1) Tryz.prog g lb (fun x=>#[encU x]) xs n₀ S w) :
 CallsIn Fence.wide n Tryz.prog 203 #[.func (.func g) #[] lb] w fun e w'=>SdP w xs e w':=by
 refine callsIn_of_wp Tryz.func203 rfl trivial ?_ rfl;simp only [Tryz.ntmps203,List.size_toArray,List.length_cons,List.length_nil,Nat.reduceAdd,Nat.reduceSub,Array.replicate_succ,Array.replicate_zero,List.push_toArray,List.append_toArray,List.nil_append,List.cons_append];gi_wp2_with fail;refine ⟨trivial,fun _=>by omega,(qgE (n - 1) (by omega) g lb eg xs hN _ n₀ S hn₀ hS hseq).mono ?_⟩;rintro e w1 ⟨v,rfl,hrow,hnil,hb⟩;rcases hrow.2 with ⟨h0,_⟩ | ⟨g',cap',cur',rfl,hbase',hgb',hr1,hr2,hr3,hr4⟩
 ·exact absurd (hnil.1 h0) hx
 rw [Nat.mul_one] at hr4 hr3;have hc:=sortU g' 0 cap' (ints xs) w1 (qe5 hgb' hr4) (Array.getElem?_eq_some_iff.1 hgb').1 (by rw [qa6];omega);rw [qa6] at hc;gi_wp2_with fail;refine ⟨trivial,fun _=>by omega,(callsIn_wide.2 hc).mono ?_⟩;rintro e w2 ⟨rfl,d',hp,hs,hA⟩;rw [←qa6] at hp hs;obtain ⟨ys,rfl,hperm,hasc⟩:=qlP hp hs;obtain ⟨hblk,hbel,-⟩:=qjD hgb' hA;have hlen:=hperm.length_eq;gi_wp2;go_ret
 show SdP w xs _ _;refine ⟨.slice (some ⟨g',0,none⟩) xs.length cap',ys,rfl,hperm,hasc,⟨by simp,.inr ⟨g',cap',_,by rw [hlen],hbase',hblk,by omega,hr2,by simp [putCells,hr3],by rw [Nat.mul_one];exact qks cur' ys (by omega)⟩⟩,hb.trans (hbel.mono hbase')⟩
end Go.Proofs.YtodmdkhdbfbfgaaGreatDoor.S1
namespace Go.Proofs.YtodmdkhdbfbfgaaGreatDoor.S1.Pk
structure Wr (b:List UInt8) (pos:Nat):Prop where
 lo:pos≤8*b.length
 hi:8*b.length<pos+8
 zero:∀ i,pos≤i→bt b i=0
structure Ag (b f:List UInt8) (pos:Nat):Prop where
 len:b.length≤f.length
 bit:∀ i,i<pos→bt f i=bt b i
theorem Ag.refl (b:List UInt8) (pos:Nat):Ag b b pos:=⟨Nat.le_refl _,fun _ _=>rfl⟩
theorem Ag.trans {a b c:List UInt8} {p q:Nat} (h:Ag a b p) (k:Ag b c q) (hpq:p≤q):Ag a c p:=⟨Nat.le_trans h.len k.len,fun i hi=>(k.bit i (by omega)).trans (h.bit i hi)⟩
theorem Ag.mono {a b:List UInt8} {p q:Nat} (h:Ag a b q) (hpq:p≤q):Ag a b p:=⟨h.len,fun i hi=>h.bit i (by omega)⟩
theorem Ag.val {b f:List UInt8} {pos:Nat} (h:Ag b f pos) (p d:Nat) (hp:p+d≤pos):val f p d=val b p d:=by
 induction d with
 | zero=>rfl
 | succ d ih=>rw [qaD,qaD,ih (by omega),h.bit _ (by omega)]
theorem qkP (c x r:Nat) (hc:c<256) (hx:x<2) (hr:r<8) (hz:∀ j,r≤j→j<8→c/2^(7 - j)%2=0) :
 c%2^(8 - r)=0∧c+x*2^(7 - r)<256∧∀ j,j<8→(c+x*2^(7 - r))/2^(7 - j)%2=if j<r then c/2^(7 - j)%2 else if j=r then x else 0:=by
 have hm:c%2^(8 - r)=0:=by
  have key:∀ k,k≤8 - r→c%2^k=0:=by
   intro k
   induction k with
   | zero=>intro _;simp [Nat.mod_one]
   | succ k ih =>
     intro hk;have h1:=ih (by omega);have h2:=hz (7 - k) (by omega) (by omega);rw [show 7 - (7 - k)=k by omega] at h2;rw [Nat.pow_succ,Nat.mod_mul,h1,h2];simp
  exact key _ (Nat.le_refl _)
 obtain ⟨q,hq⟩:∃ q,c=2^(8 - r)*q:=⟨c/2^(8 - r),by have:=Nat.div_add_mod c (2^(8 - r));omega⟩;have hp:(2:Nat)^(8 - r)=2^(7 - r)*2:=by rw [←Nat.pow_succ];congr 1;omega
 have hc2:c+x*2^(7 - r)=2^(7 - r)*(2*q+x):=by rw [hq,hp,Nat.mul_add,Nat.mul_assoc,Nat.mul_comm x]
 have h256:(256:Nat)=2^(7 - r)*2^(r+1):=by rw [←Nat.pow_add,show 7 - r+(r+1)=8 by omega]
 have hq2:2*q<2^(r+1):=by
  have:2^(7 - r)*(2*q)<2^(7 - r)*2^(r+1):=by rw [←h256,←Nat.mul_assoc,←hp,←hq];exact hc
  exact Nat.lt_of_mul_lt_mul_left this
 have he:2^(r+1)%2=0:=by rw [Nat.pow_succ];omega
 refine ⟨hm,?_,fun j hj => ?_⟩
 ·rw [hc2,h256];exact (Nat.mul_lt_mul_left (Nat.pow_pos (by omega))).2 (by omega)
 rw [hc2];by_cases h1:j≤r
 ·have e:(2:Nat)^(7 - j)=2^(7 - r)*2^(r - j):=by rw [←Nat.pow_add];congr 1;omega
  rw [e,Nat.mul_div_mul_left _ _ (Nat.pow_pos (by omega))];by_cases h2:j=r
  ·subst h2;simp;omega
  rw [if_pos (by omega),hq,hp,Nat.mul_assoc,Nat.mul_div_mul_left _ _ (Nat.pow_pos (by omega))];rw [show r - j=(r - j - 1)+1 by omega,Nat.pow_succ,Nat.mul_comm (2^(r - j - 1)) 2,←Nat.div_div_eq_div_mul,←Nat.div_div_eq_div_mul];rw [show (2*q+x)/2=q by omega,show 2*q/2=q by omega]
 rw [if_neg (by omega),if_neg (by omega)];have e:(2:Nat)^(7 - r)=2^(7 - j)*2^(j - r):=by rw [←Nat.pow_add];congr 1;omega
 rw [e,Nat.mul_assoc,Nat.mul_div_cancel_left _ (Nat.pow_pos (by omega)),show j - r=(j - r - 1)+1 by omega,Nat.pow_succ,Nat.mul_comm (2^(j - r - 1)) 2,Nat.mul_assoc,Nat.mul_mod_right]
theorem qbZ (b e:List UInt8) (i:Nat) (h:i<8*b.length):bt (b++e) i=bt b i:=by
 unfold bt;rw [List.getD_eq_getElem?_getD,List.getElem?_append_left (by omega),List.getD_eq_getElem?_getD]
theorem qmg (b:List UInt8) (i:Nat) (h:8*b.length≤i):bt b i=0:=by
 unfold bt;rw [List.getD_eq_getElem?_getD,List.getElem?_eq_none (by omega)];simp
theorem qkt (b:List UInt8) (i:Nat) (h:8*b.length≤i):bt (b++[0]) i=0:=by
 by_cases e:i<8*b.length+8
 ·unfold bt;rw [List.getD_eq_getElem?_getD,List.getElem?_append_right (by omega),show i/8 - b.length=0 by omega];simp
 exact qmg _ _ (by simp;omega)
theorem qkk (b:List UInt8) (pos x:Nat) (h1:pos<8*b.length) (h2:8*b.length≤pos+8) (hz:∀ i,pos≤i→bt b i=0) (hx:x<2) :
 (b.getD (b.length - 1) 0).toNat%2^(8*b.length - pos)=0∧(b.getD (b.length - 1) 0).toNat+x*2^(8*b.length - pos - 1)<256 ∧
 ∀ c':UInt8,c'.toNat=(b.getD (b.length - 1) 0).toNat+x*2^(8*b.length - pos - 1)→Wr (b.set (b.length - 1) c') (pos+1)∧Ag b (b.set (b.length - 1) c') pos∧bt (b.set (b.length - 1) c') pos=x:=by
 have hl:pos/8=b.length - 1:=by omega
 have hb:=qkP (b.getD (b.length - 1) 0).toNat x (pos%8) (UInt8.toNat_lt _) hx (by omega) (fun j hj hj8=>by
  have:=hz (8*(b.length - 1)+j) (by omega)
  unfold bt at this;rw [show (8*(b.length - 1)+j)/8=b.length - 1 by omega,show (8*(b.length - 1)+j)%8=j by omega] at this;exact this)
 rw [show 8 - pos%8=8*b.length - pos by omega,show 7 - pos%8=8*b.length - pos - 1 by omega] at hb;obtain ⟨hb1,hb2,hb3⟩:=hb;refine ⟨hb1,hb2,fun c' hc' => ?_⟩;have key:∀ i,bt (b.set (b.length - 1) c') i=if i<pos then bt b i else if i=pos then x else 0:=by
  intro i;by_cases hi:i/8=b.length - 1
  ·have e:(b.set (b.length - 1) c').getD (i/8) 0=c':=by
    rw [hi,List.getD_eq_getElem?_getD,List.getElem?_set_self (by omega)];rfl
   have:=hb3 (i%8) (by omega)
   unfold bt;rw [e,hc',this,hi];by_cases g1:i<pos
   ·rw [if_pos (by omega),if_pos g1]
   rw [if_neg (by omega),if_neg g1];by_cases g2:i=pos
   ·rw [if_pos (by omega),if_pos g2]
   rw [if_neg (by omega),if_neg g2]
  have e:(b.set (b.length - 1) c').getD (i/8) 0=b.getD (i/8) 0:=by
   rw [List.getD_eq_getElem?_getD,List.getElem?_set_ne (fun h=>hi h.symm),List.getD_eq_getElem?_getD]
  have e2:bt (b.set (b.length - 1) c') i=bt b i:=by unfold bt;rw [e]
  rw [e2];by_cases g1:i<pos
  ·rw [if_pos g1]
  rw [if_neg g1,if_neg (by omega)];exact hz i (by omega)
 refine ⟨⟨by rw [List.length_set];omega,by rw [List.length_set];omega,fun i hi=>by rw [key,if_neg (by omega),if_neg (by omega)]⟩,⟨by rw [List.length_set];exact Nat.le_refl _,fun i hi=>by rw [key,if_pos hi]⟩,by rw [key,if_neg (by omega),if_pos rfl]⟩
theorem qcB (n k j:Nat) (hj:j<k):2*(n/2^(k - j))+n/2^(k - 1 - j)%2=n/2^(k - (j+1)):=by
 rw [show k - j=(k - 1 - j)+1 by omega,show k - (j+1)=k - 1 - j by omega,Nat.pow_succ,←Nat.div_div_eq_div_mul];omega
end Go.Proofs.YtodmdkhdbfbfgaaGreatDoor.S1.Pk
namespace Go.Proofs.YtodmdkhdbfbfgaaGreatDoor.S1
open Go.RowKit Pk
def put {α:Type} (f:Nat→α) (p:Nat) (x:α):Nat→α:=fun j=>if j=p then x else f j
def Keeps (t:TypeId) (w w':World):Prop:=∀ (k:Nat) (c:Array Value) (fz:Nat × Nat),w.heap[k]? = some (.cells c t fz)→w'.heap[k]? = w.heap[k]?
namespace Keeps
variable {t:TypeId} {a b c w w':World}
theorem refl (t:TypeId) (w:World):Keeps t w w:=fun _ _ _ _=>rfl
theorem trans (h:Keeps t a b) (k:Keeps t b c):Keeps t a c:=fun i x f e=>(k i x f ((h i x f e).trans e)).trans (h i x f e)
theorem drew (h:Keeps t a b):Keeps t a b.drew:=h
theorem alloc (h:Keeps t a b) (o:Obj):Keeps t a (b.alloc o):=h.trans fun k _ _ e=>Below.heap_alloc b o k (lt_of_heap e)
theorem below (h:Keeps t a b) (hb:Below b.heap.size b c):Keeps t a c:=h.trans fun k _ _ e=>hb.block k (lt_of_heap e)
theorem set (h:Keeps t a b) {g o:Nat} {v:Value} {x:Array Value} {T:TypeId} {f:Nat × Nat} (hg:b.heap[g]? = some (.cells x T f)) (hT:T≠t):Keeps t a (b.setCell ⟨g,o,none⟩ v):=
 h.trans fun k _ _ e=>Below.heap_setCell b ⟨g,o,none⟩ v k (qag e hg (fun h=>hT h.symm))
theorem grown (h:Keeps t a b) {base n:Nat} {e:TypeId} {v:Value} {xs:List Value} (hown:b.ownsRow base e 1 v n xs) (he:e≠t) (hg:b.grownBy c v.ownBlock):Keeps t a c:=by
 refine h.trans fun k x f hk=>hg.block k (lt_of_heap hk) ?_
 rcases hown.2 with ⟨rfl,_⟩ | ⟨g,cap,cur,rfl,_,hh,_⟩
 ·simp [Value.ownBlock]
 intro e2;simp [Value.ownBlock] at e2;subst e2;rw [hk] at hh;simp at hh;exact he hh.2.1.symm
theorem block (h:Keeps t w w') {k:Nat} {x:Array Value} {f:Nat × Nat} (e:w.heap[k]? = some (.cells x t f)):w'.heap[k]? = some (.cells x t f):=(h k x f e).trans e
theorem rw (h:Keeps t w w') {g n:Nat} {f:Nat→Value} (r:Rw w g t n f):Rw w' g t n f:=by
 obtain ⟨c,hb,hc⟩:=r;exact ⟨c,h.block hb,hc⟩
theorem own (h:Keeps t w w') {base n:Nat} {v:Value} {xs:List Value} (o:w.ownsRow base t 1 v n xs):w'.ownsRow base t 1 v n xs:=by
 refine ⟨o.1,?_⟩;rcases o.2 with h1 | ⟨g,cap,cur,h1,h2,h3,h4⟩
 ·exact .inl h1
 exact .inr ⟨g,cap,cur,h1,h2,h.block h3,h4⟩
end Keeps
theorem Rw.news {w:World} {b n:Nat} {t:TypeId} {f:Nat→Value} (h:Rw w b t n f):∀ j u,((List.range n).map f)[j]? = some u→w.cell? ((⟨b,0,none⟩:Addr).add j)=some u:=by
 intro j u hu;have hj:j<n:=by
  rcases Nat.lt_or_ge j n with h | h
  ·exact h
  rw [List.getElem?_eq_none (by simpa using h)] at hu;cases hu
 have hadd:(⟨b,0,none⟩:Addr).add j=⟨b,j,none⟩:=by unfold Addr.add;split<;>simp_all
 rw [hadd,h.cell hj,←hu];simp [hj]
theorem qiC (n:Nat) (f:Nat→Value) (x:Value):(List.range n).map f++[x]=(List.range (n+1)).map (put f n x):=by
 rw [List.range_succ,List.map_append]
 congr 1
 ·apply List.map_congr_left
  intro i hi
  have:i<n:=by simpa using hi
  show f i=put f n x i;unfold put;rw [if_neg (by omega)]
 simp [put]
structure Data (w:World) (base:Nat) (v:Value) (k np:Nat) (rw cr:Nat→Nat) (pg:Nat→Nat→List UInt8):Prop where
 own:w.ownsRow base 40 1 v k ((List.range k).map fun i=>.slice (some ⟨rw i,0,none⟩) np (cr i))
 row:∀ i,i<k→base≤rw i∧Rw w (rw i) 9 np (fun p=>.string (txt (pg i p)))
 inj:∀ i j,i<k→j<k→rw i=rw j→i=j
namespace Data
variable {w w':World} {base:Nat} {v v':Value} {k np:Nat} {rw cr:Nat→Nat} {pg:Nat→Nat→List UInt8}
theorem nil (w:World) (base np:Nat) (rw cr:Nat→Nat) (pg:Nat→Nat→List UInt8):Data w base (.slice none 0 0) 0 np rw cr pg:=
 ⟨World.ownsRow_nil _ _ _ _,fun i h=>by omega,fun i j h=>by omega⟩
theorem keep (h:Data w base v k np rw cr pg) (k9:Keeps 9 w w') (k23:Keeps 40 w w'):Data w' base v k np rw cr pg:=
 ⟨k23.own h.own,fun i hi=>⟨(h.row i hi).1,k9.rw (h.row i hi).2⟩,h.inj⟩
theorem push (h:Data w base v k np rw cr pg) (k9:Keeps 9 w w') {r c:Nat} {f:Nat→List UInt8} (hr:base≤r) (hnew:w.heap.size≤r) (hrw:Rw w' r 9 np (fun p=>.string (txt (f p))))
 (ho:w'.ownsRow base 40 1 v' (k+1) ((List.range k).map (fun i=>.slice (some ⟨rw i,0,none⟩) np (cr i))++[.slice (some ⟨r,0,none⟩) np c])):Data w' base v' (k+1) np (put rw k r) (put cr k c) (put pg k f):=by
 have hlt:∀ i,i<k→rw i<w.heap.size:=fun i hi=>(h.row i hi).2.lt
 refine ⟨?_,fun i hi => ?_,fun i j hi hj e => ?_⟩
 ·rw [qiC] at ho
  have:(List.range (k+1)).map (put (fun i=>Value.slice (some ⟨rw i,0,none⟩) np (cr i)) k (.slice (some ⟨r,0,none⟩) np c))=(List.range (k+1)).map (fun i=>Value.slice (some ⟨put rw k r i,0,none⟩) np (put cr k c i)):=by
   apply List.map_congr_left
   intro i _;unfold put;by_cases e:i=k
   ·rw [if_pos e,if_pos e,if_pos e]
   rw [if_neg e,if_neg e,if_neg e]
  rw [this] at ho;exact ho
 ·by_cases e:i=k
  ·unfold put;rw [if_pos e,if_pos e];exact ⟨hr,hrw⟩
  unfold put;rw [if_neg e,if_neg e]
  have:=h.row i (by omega)
  exact ⟨this.1,k9.rw this.2⟩
 unfold put at e;by_cases e1:i=k
 ·by_cases e2:j=k
  ·omega
  rw [if_pos e1,if_neg e2] at e
  have:=hlt j (by omega)
  omega
 by_cases e2:j=k
 ·rw [if_neg e1,if_pos e2] at e
  have:=hlt i (by omega)
  omega
 rw [if_neg e1,if_neg e2] at e;exact h.inj i j (by omega) (by omega) e
end Data
theorem MemX.built {w:World} {base g:Nat} {T:TypeId} {m:M} {enc:List UInt8→List UInt8} {dv nv bv:Value} {rw cr:Nat→Nat} {pg:Nat→Nat→List UInt8} {g4 g5 g6 g7:Int} (hn:0<m.nb)
 (hT:T≠40∧T≠3∧T≠4∧T≠9) (hg:base≤g)
 (hst:w.heap[g]? = some (.cells #[.int .i64 (m.np:Nat),dv,nv,bv,.int .i64 g4,.int .i64 g5,.int .i64 g6,.int .i64 g7] T (0,0)))
 (hd:Data w base dv m.nb m.np rw cr pg) (hp:∀ i p,i<m.nb→p<m.np→pg i p=enc (m.pg i p))
 (hnx:w.ownsRow base 3 1 nv m.nb ((List.range m.nb).map fun i=>.int .i64 (m.nx i:Nat)))
 (hbd:w.ownsRow base 4 1 bv m.nb ((List.range m.nb).map fun i=>.bool (m.bd i))) :
 ∃ L,MemX w base w.heap.size g T L m enc g4 g5 g6 g7:=by
 obtain ⟨db,cd,rfl,hdb,hdr⟩:=qg7 hd.own hn;obtain ⟨nk,cn,rfl,hnk,hnr⟩:=qg7 hnx hn;obtain ⟨bk,ck,rfl,hbk,hbr⟩:=qg7 hbd hn;refine ⟨⟨db,nk,bk,rw,cd,cn,ck,cr⟩,⟨hg,lt_of_heap hst⟩,⟨hdb,hdr.lt⟩,⟨hnk,hnr.lt⟩,⟨hbk,hbr.lt⟩,fun i hi=>⟨(hd.row i hi).1,(hd.row i hi).2.lt⟩,hd.inj,hT,hst,hdr,hnr,hbr,fun i hi => ?_⟩;exact (hd.row i hi).2.congr fun p hpp=>by rw [hp i p hi hpp]
end Go.Proofs.YtodmdkhdbfbfgaaGreatDoor.S1
namespace Go.Proofs.YtodmdkhdbfbfgaaGreatDoor.S1
open Go.RowKit Pk
structure BW (w:World) (B g:Nat) (b:List UInt8) (pos:Nat):Prop where
 hg:B≤g
 st:∃ v,w.heap[g]? = some (.cells #[v,.int .i64 ((8*b.length - pos:Nat):Int)] 279 (0,0))∧w.ownsRow B 5 1 v b.length (b.map fun c=>.int .u8 (c.toNat:Nat))
 wr:Wr b pos
theorem qfW {w:World} {B n:Nat} {e:TypeId} {v:Value} {xs:List Value} (h:w.ownsRow B e 1 v n xs) (hn:0<n):∃ r cap,v=.slice (some ⟨r,0,none⟩) n cap∧B≤r:=by
 obtain ⟨r,cap,h1,h2,_⟩:=h.form hn;exact ⟨r,cap,h1,h2⟩
theorem qhk (u x q:Nat) (hq:q≤7) (hx:x<2) (hu:u<256) (hm:u%2^(q+1)=0):bits .or .u8 (u:Int) ((x*2^q:Nat):Int)=((u+x*2^q:Nat):Int):=by
 have h1:x*2^q<2^(q+1):=by
  rw [Nat.pow_succ]
  have:=Nat.pow_pos (n:=q) (show 0<2 by omega)
  have:x*2^q≤1*2^q:=Nat.mul_le_mul_right _ (by omega)
  omega
 have h2:2^(q+1)≤2^8:=Nat.pow_le_pow_right (by omega) (by omega);rw [bits_join .u8 8 (by decide) wraps_u8 (q+1) (u:Int) ((x*2^q:Nat):Int) (by omega) (by exact_mod_cast hm) (by omega) (by omega) (by exact_mod_cast h1) (by omega)];omega
theorem qeD (n k j q:Nat) (hq:q≤7):bits BinOp.and IntKind.i64 ((n:Int)/2^(k - 1 - j)) 1%256*2^q%256=((n/2^(k - 1 - j)%2*2^q:Nat):Int):=by
 rw [ql2];have h:((n:Int)/2^(k - 1 - j))=((n/2^(k - 1 - j):Nat):Int):=by simp
 rw [h];have h2:(2:Nat)^q≤2^7:=Nat.pow_le_pow_right (by omega) hq;have h3:((2:Int)^q)=((2^q:Nat):Int):=by simp
 rw [h3]
 generalize n/2^(k - 1 - j)=y
 generalize 2^q=p at *
 have h4:y%2=0∨y%2=1:=by omega
 rcases h4 with h4 | h4
 ·rw [h4];have:(y:Int)%2=0:=by omega
  rw [this];simp
 rw [h4];have:(y:Int)%2=1:=by omega
 rw [this];simp;omega
theorem qgW {W:World} {B g r cap:Nat} {c:List UInt8} {p q x y:Nat} (hg:B≤g) (hst:W.heap[g]? = some (.cells #[.slice (some ⟨r,0,none⟩) c.length cap,.int .i64 (q:Nat)] 279 (0,0))) (hown:W.ownsRow B 5 1 (.slice (some ⟨r,0,none⟩) c.length cap) c.length (c.map fun c=>.int .u8 (c.toNat:Nat)))
 (h1:p<8*c.length) (h2:8*c.length≤p+8) (hz:∀ i,p≤i→bt c i=0) (hx:x<2) (hq:8*c.length - p - 1=q) (hy:y=(c.getD (c.length - 1) 0).toNat+x*2^q) :
 ∃ c',BW (W.setCell ⟨r,c.length - 1,none⟩ (.int .u8 (y:Nat))) B g c' (p+1)∧Ag c c' p∧bt c' p=x∧c'.length=c.length:=by
 obtain ⟨_,hlt,hset⟩:=qkk c p x h1 h2 hz hx;rw [hq] at hlt hset;have hy2:(UInt8.ofNat y).toNat=y:=by rw [UInt8.toNat_ofNat'];omega
 obtain ⟨hw,ha,hb⟩:=hset (UInt8.ofNat y) (by rw [hy2,hy]);have hlen:(c.set (c.length - 1) (UInt8.ofNat y)).length=c.length:=List.length_set ..;have hgr:g≠r:=by
  intro e;subst e;obtain ⟨_,_,hk⟩:=Lib.ownsRow_kind hown g rfl;rw [hst] at hk;simp at hk
 refine ⟨_,⟨hg,⟨.slice (some ⟨r,0,none⟩) c.length cap,?_,?_⟩,hw⟩,ha,hb,hlen⟩
 ·rw [hlen,show 8*c.length - (p+1)=q by omega];rw [Below.heap_setCell W ⟨r,c.length - 1,none⟩ _ g hgr];exact hst
 have:=(hown.stored (c.length - 1) (.int .u8 (y:Nat))).1
 rw [hlen];rw [List.map_set,hy2];exact this
theorem qko (w:World) (B g:Nat) (b:List UInt8) (pos n k:Nat) (hB:B≤w.heap.size) (hb:0<b.length) (hp:pos≤400000) (hk:k≤12) (hn:n<2^k) (h:BW w B g b pos) :
 Calls Tryz.prog 250 #[.pointer (some ⟨g,0,none⟩),.int .i64 (n:Nat),.int .i64 (k:Nat)] w fun e w'=>e=.returned (.tuple #[])∧∃ b',BW w' B g b' (pos+k)∧Ag b b' pos∧val b' pos k=n∧Below B w w':=by
 have Hn:=hidI hn;have Hh:=hidI h;have hn12:n<4096:=by
  have:=Nat.pow_le_pow_right (show 0<2 by omega) hk
  omega
 clear hn h;obtain ⟨i0,hi,hz0,hz1',hz2⟩:=info_parts Tryz.info5;go_enter Tryz.func250,Tryz.ntmps250
 go_wp2
 go_loopw [6] (fun i wr=>∃ j:Nat,j≤k∧i=.int .i64 ((k:Int) - 1 - (j:Int))∧∃ c,BW wr B g c (pos+j)∧Ag b c pos∧val c pos j=n/2^(k - j)∧Below B w wr) (fun i _=>(intOf i+1).toNat)
 case atStart =>
  refine ⟨0,by omega,by go_num,b,Hh.out,Ag.refl _ _,?_,Below.refl _ _⟩;rw [Nat.sub_zero,Nat.div_eq_of_lt Hn.out];rfl
 case round =>
  clear Hh;obtain ⟨j,hj,rfl,c,hc,hag,hv,hbel⟩:=hrel;by_cases hlt:j<k
  ·obtain ⟨v,hst,hown⟩:=hc.st;have hwr:=hc.wr;have hg:=hc.hg;have hcl:0<c.length:=Nat.lt_of_lt_of_le hb hag.len;have Hwr:=hidI hwr;have Hv:=hidI hv;have Hag:=hidI hag;have hlo:=hwr.lo;have hhi:=hwr.hi;obtain ⟨r,cap,rfl,hr⟩:=qfW hown hcl;clear hc hwr hv hag;have hz1:decide (0≤(k:Int) - 1 - (j:Int))=true:=by simp;omega
   by_cases h0:pos+j=8*c.length
   ·have h80:8*c.length - (pos+j)=0:=by omega
    rw [h80] at hst;have x0:wr.cell? ⟨g,0,none⟩=some (.slice (some ⟨r,0,none⟩) c.length cap):=by rw [cell_of_row wr g 0 _ 279 (0,0) hst];rfl
    have x1:wr.cell? ⟨g,1,none⟩=some (.int .i64 0):=by rw [cell_of_row wr g 1 _ 279 (0,0) hst];rfl
    have hwB:B≤wr.heap.size:=Nat.le_trans hB hbel.size;have hcb:c.length≤100000:=by omega
    have Hst:=hidI hst;have Hbel:=hidI hbel;clear hst hbel h80;go_wp2_with (at_builtin;refine wpList_append_lies _ rfl (.tmp 22) (.tmp 23) 111 rfl B 5 i0 (.int .u8 0) 1 1 Tryz.underlying111 hi hz0 hz1' hz2 rfl (by decide) (.slice (some ⟨r,0,none⟩) c.length cap) c.length _ rfl (hown.alloc _) ⟨wr.heap.size,0,none⟩ 1 1 [.int .u8 0] rfl rfl (cell_one_new _ _ _) (by intro u hu;simp at hu;subst hu;rfl) (by omega) (by unfold maxLen;omega) (by omega) (by simp;omega) (wr.heap.size+1) (by simp) ?_);intro r2 cap2 w2 hown2 hgrow hat hlt2;have hst1:=(((Keeps.refl 279 wr).alloc _).grown (hown.alloc _) (by decide) hgrow).block Hst.out;have Hbel1:Hid (Below B w w2):=(Hbel.out.alloc hwB _).grown hgrow (by simp;omega) (fun q hq=>(hown.lt q hq).1);have hown2:w2.ownsRow B 5 1 (.slice (some ⟨r2,0,none⟩) (c++[0]).length cap2) (c++[0]).length ((c++[(0:UInt8)]).map fun (y:UInt8)=>.int .u8 (y.toNat:Nat)):=by
     rw [List.length_append,List.map_append];exact hown2
    have hr2:B≤r2:=(hown2.lt r2 rfl).1;have y0:w2.cell? ⟨g,0,none⟩=some (.slice (some ⟨r,0,none⟩) c.length cap):=by rw [cell_of_row w2 g 0 _ 279 (0,0) hst1];rfl
    have yf0:=frozen_of_row w2 g 0 _ 279 hst1;have hst2:=heap_setCell_same w2 g 0 _ 279 (.slice (some ⟨r2,0,none⟩) (c.length+1) cap2) hst1;have y1:(w2.setCell ⟨g,0,none⟩ (.slice (some ⟨r2,0,none⟩) (c.length+1) cap2)).cell? ⟨g,1,none⟩=some (.int .i64 0):=by rw [cell_of_row _ g 1 _ 279 (0,0) hst2];rfl
    have yf1:=frozen_of_row _ g 1 _ 279 hst2;have hst3:=heap_setCell_same _ g 1 _ 279 (.int .i64 8) hst2;have z1:((w2.setCell ⟨g,0,none⟩ (.slice (some ⟨r2,0,none⟩) (c.length+1) cap2)).setCell ⟨g,1,none⟩ (.int .i64 8)).cell? ⟨g,1,none⟩=some (.int .i64 8):=by rw [cell_of_row _ g 1 _ 279 (0,0) hst3];rfl
    have zf1:=frozen_of_row _ g 1 _ 279 hst3;have hst4:=heap_setCell_same _ g 1 _ 279 (.int .i64 7) hst3;have hgr:g≠r2:=by
     intro e;subst e;obtain ⟨_,_,hk⟩:=Lib.ownsRow_kind hown2 g rfl;rw [hst1] at hk;simp at hk
    have hgv:(Value.slice (some ⟨r2,0,none⟩) (c++[0]).length cap2).ownBlock≠some g:=by simp [Value.ownBlock];exact fun e=>hgr e.symm
    have hown4:=ownsRow_setCell_other (a:=⟨g,1,none⟩) (ownsRow_setCell_other (a:=⟨g,1,none⟩) (ownsRow_setCell_other (a:=⟨g,0,none⟩) hown2 hgv (.slice (some ⟨r2,0,none⟩) (c.length+1) cap2)) hgv (.int .i64 8)) hgv (.int .i64 7);have Hbel4:=hidI (((Hbel1.out.setCell (p:=⟨g,0,none⟩) hg (.slice (some ⟨r2,0,none⟩) (c.length+1) cap2)).setCell (p:=⟨g,1,none⟩) hg (.int .i64 8)).setCell (p:=⟨g,1,none⟩) hg (.int .i64 7));have hs4:(c++[0]).length=c.length+1:=by simp
    have v0:(((w2.setCell ⟨g,0,none⟩ (.slice (some ⟨r2,0,none⟩) (c.length+1) cap2)).setCell ⟨g,1,none⟩ (.int .i64 8)).setCell ⟨g,1,none⟩ (.int .i64 7)).cell? ⟨g,0,none⟩=some (.slice (some ⟨r2,0,none⟩) (c.length+1) cap2):=by rw [cell_of_row _ g 0 _ 279 (0,0) hst4];rfl
    have v1:(((w2.setCell ⟨g,0,none⟩ (.slice (some ⟨r2,0,none⟩) (c.length+1) cap2)).setCell ⟨g,1,none⟩ (.int .i64 8)).setCell ⟨g,1,none⟩ (.int .i64 7)).cell? ⟨g,1,none⟩=some (.int .i64 7):=by rw [cell_of_row _ g 1 _ 279 (0,0) hst4];rfl
    have vr:(((w2.setCell ⟨g,0,none⟩ (.slice (some ⟨r2,0,none⟩) (c.length+1) cap2)).setCell ⟨g,1,none⟩ (.int .i64 8)).setCell ⟨g,1,none⟩ (.int .i64 7)).cell? ⟨r2,c.length,none⟩=some (.int .u8 0):=by
     rw [hown4.cellAt c.length (by simp),List.map_append,List.getElem?_append_right (by simp)];simp
    have vf:=hown4.frozenAt c.length;have Hst4:Hid ((((w2.setCell ⟨g,0,none⟩ (.slice (some ⟨r2,0,none⟩) (c.length+1) cap2)).setCell ⟨g,1,none⟩ (.int .i64 8)).setCell ⟨g,1,none⟩ (.int .i64 7)).heap[g]? = some (.cells #[.slice (some ⟨r2,0,none⟩) (c++[0]).length cap2,.int .i64 ((7:Nat):Int)] 279 (0,0))):=by
     show _=_;rw [hst4,hs4];rfl
    have Hown4:=hidI hown4;clear hst1 hst2 hst3 hst4 hown hown2 hown4 hgrow hat x0 x1 Hst Hbel Hbel1 hs4;go_wp2;go_region;have hor:bits BinOp.or IntKind.u8 0 (bits BinOp.and IntKind.i64 ((n:Int)/2^(k - 1 - j)) 1%256*128%256)=((0+n/2^(k - 1 - j)%2*2^7:Nat):Int):=by
     have h1:=qeD n k j 7 (by omega);rw [show (2:Int)^7=128 by decide] at h1;rw [h1];exact qhk 0 _ 7 (by omega) (Nat.mod_lt _ (by omega)) (by omega) (by simp)
    rw [hor];have hz:∀ i,pos+j≤i→bt (c++[0]) i=0:=fun i hi=>qkt c i (by omega)
    obtain ⟨c',hbw,ha,hbt,hcl'⟩:=qgW (c:=c++[0]) (p:=pos+j) (q:=7) (x:=n/2^(k - 1 - j)%2) (y:=0+n/2^(k - 1 - j)%2*2^7) hg Hst4.out Hown4.out (by simp;omega) (by simp;omega) hz (Nat.mod_lt _ (by omega)) (by simp;omega) (by simp);rw [show (c++[(0:UInt8)]).length - 1=c.length by simp] at hbw;have hbel2:=Hbel4.out.setCell (p:=⟨r2,c.length,none⟩) hr2 (.int .u8 ((0+n/2^(k - 1 - j)%2*2^7:Nat):Int));have ha2:Ag c c' pos:=⟨by rw [hcl'];simp,fun i hi=>by rw [ha.bit i (by omega),qbZ c [0] i (by omega)]⟩;have hvv:val c' pos j=val c pos j:=by
     rw [ha.val pos j (by omega)];have hab:Ag c (c++[0]) (8*c.length):=⟨by simp,fun i hi=>qbZ c [0] i hi⟩;exact hab.val pos j (by omega)
    have hv2:val c' pos (j+1)=n/2^(k - (j+1)):=by
     rw [qaD,hbt,hvv,Hv.out];exact qcB n k j hlt
    generalize ((((w2.setCell ⟨g,0,none⟩ (.slice (some ⟨r2,0,none⟩) (c.length+1) cap2)).setCell ⟨g,1,none⟩ (.int .i64 8)).setCell ⟨g,1,none⟩ (.int .i64 7)).setCell ⟨r2,c.length,none⟩ (.int .u8 ((0+n/2^(k - 1 - j)%2*2^7:Nat):Int)))=W2 at *
    have Hend:Hid (BW W2.drew B g c' (pos+(j+1))∧Ag b c' pos∧val c' pos (j+1)=n/2^(k - (j+1))∧Below B w W2.drew):=⟨⟨hbw.hg,hbw.st,hbw.wr⟩,Hag.out.trans ha2 (Nat.le_refl _),hv2,hbel2.drew⟩;clear y0 yf0 y1 yf1 z1 zf1 v0 v1 vr vf hbw ha hbt hv2 hbel2 hor Hst4 Hown4 Hbel4;go_wp2;go_roundw
    case rel=>exact ⟨j+1,by omega,by go_num,c',Hend.out⟩
    case measure=>simp [intOf];omega
   obtain ⟨q,hq⟩:∃ q,8*c.length - (pos+j)=q+1:=⟨8*c.length - (pos+j) - 1,by omega⟩;rw [hq] at hst;have hqb:q≤6:=by omega
   have x0:wr.cell? ⟨g,0,none⟩=some (.slice (some ⟨r,0,none⟩) c.length cap):=by rw [cell_of_row wr g 0 _ 279 (0,0) hst];rfl
   have x1:wr.cell? ⟨g,1,none⟩=some (.int .i64 ((q+1:Nat):Int)):=by rw [cell_of_row wr g 1 _ 279 (0,0) hst];rfl
   have f1:=frozen_of_row wr g 1 _ 279 hst;have hne:(((q+1:Nat):Int)==0)=false:=by simp;omega
   have hst2:=heap_setCell_same wr g 1 _ 279 (.int .i64 (q:Nat)) hst;have y0:(wr.setCell ⟨g,1,none⟩ (.int .i64 (q:Nat))).cell? ⟨g,0,none⟩=some (.slice (some ⟨r,0,none⟩) c.length cap):=by rw [cell_of_row _ g 0 _ 279 (0,0) hst2];rfl
   have y1:(wr.setCell ⟨g,1,none⟩ (.int .i64 (q:Nat))).cell? ⟨g,1,none⟩=some (.int .i64 (q:Nat)):=by rw [cell_of_row _ g 1 _ 279 (0,0) hst2];rfl
   have hgr:g≠r:=by
    intro e;subst e;obtain ⟨_,_,hk⟩:=Lib.ownsRow_kind hown g rfl;rw [hst] at hk;simp at hk
   obtain ⟨u,hu⟩:∃ u,u=(c.getD (c.length - 1) 0).toNat:=⟨_,rfl⟩;have yr:(wr.setCell ⟨g,1,none⟩ (.int .i64 (q:Nat))).cell? ⟨r,c.length - 1,none⟩=some (.int .u8 (u:Nat)):=by
    rw [qbz _ (fun e=>hgr e.symm),hown.cellAt (c.length - 1) (by omega),hu,List.getElem?_map,List.getD_eq_getElem?_getD,List.getElem?_eq_getElem (by omega)];rfl
   have fr:(wr.setCell ⟨g,1,none⟩ (.int .i64 (q:Nat))).frozen? ⟨r,c.length - 1,none⟩=false:=by
    rw [qbk _ (fun e=>hgr e.symm)];exact hown.frozenAt (c.length - 1)
   have hu256:u<256:=by rw [hu];exact UInt8.toNat_lt _
   have Hu:=hidI hu;have Hq:=hidI hq;have Hst2:=hidI hst2;have Hown:=hidI hown;have Hbel:=hidI hbel;clear hst hst2 hown hbel hu hq;rw [show ((q+1:Nat):Int)=(q:Int)+1 by omega] at x1 hne;go_wp2;go_region;rw [qeD n k j q (by omega),qhk u (n/2^(k - 1 - j)%2) q (by omega) (Nat.mod_lt _ (by omega)) hu256 (by
    have:=(qkk c (pos+j) 0 (by omega) (by omega) Hwr.out.zero (by omega)).1
    rw [Hq.out] at this;rw [Hu.out];exact this)]
   have hown2:(wr.setCell ⟨g,1,none⟩ (.int .i64 (q:Nat))).ownsRow B 5 1 (.slice (some ⟨r,0,none⟩) c.length cap) c.length (c.map fun c=>.int .u8 (c.toNat:Nat)):=ownsRow_setCell_other Hown.out (by simp [Value.ownBlock];exact fun e=>hgr e.symm) _;obtain ⟨c',hbw,ha,hbt,hcl'⟩:=qgW (p:=pos+j) (q:=q) (x:=n/2^(k - 1 - j)%2) (y:=u+n/2^(k - 1 - j)%2*2^q) hg Hst2.out hown2 (by omega) (by omega) Hwr.out.zero (Nat.mod_lt _ (by omega)) (by have:=Hq.out;omega) (by rw [Hu.out]);have hbel2:=(Hbel.out.setCell (p:=⟨g,1,none⟩) hg (.int .i64 (q:Nat))).setCell (p:=⟨r,c.length - 1,none⟩) hr (.int .u8 ((u+n/2^(k - 1 - j)%2*2^q:Nat):Int));have hv2:val c' pos (j+1)=n/2^(k - (j+1)):=by
    rw [qaD,hbt,ha.val pos j (by omega),Hv.out];exact qcB n k j hlt
   generalize ((wr.setCell ⟨g,1,none⟩ (.int .i64 (q:Nat))).setCell ⟨r,c.length - 1,none⟩ (.int .u8 ((u+n/2^(k - 1 - j)%2*2^q:Nat):Int)))=W2 at *
   have Hend:Hid (BW W2.drew B g c' (pos+(j+1))∧Ag b c' pos∧val c' pos (j+1)=n/2^(k - (j+1))∧Below B w W2.drew):=⟨⟨hbw.hg,hbw.st,hbw.wr⟩,Hag.out.trans ha (by omega),hv2,hbel2.drew⟩;clear x0 x1 f1 y0 y1 yr fr hbw ha hbt hv2 hbel2 hown2;go_wp2;go_roundw
   case rel=>exact ⟨j+1,by omega,by go_num,c',Hend.out⟩
   case measure=>simp [intOf];omega
  have hjk:j=k:=by omega
  subst hjk;have hz1:decide (0≤(j:Int) - 1 - (j:Int))=false:=by simp;omega
  have Hc:=hidI hc;have Hag:=hidI hag;have Hv:=hidI hv;have Hbel:=hidI hbel;clear hc hag hv hbel;go_wp2;go_end0
  refine ⟨rfl,c,Hc.out,Hag.out,?_,Hbel.out⟩
  have:=Hv.out
  rw [Nat.sub_self,Nat.pow_zero,Nat.div_one] at this;exact this
end Go.Proofs.YtodmdkhdbfbfgaaGreatDoor.S1
namespace Go.Proofs.YtodmdkhdbfbfgaaGreatDoor.S1.Pk
theorem qkg (f:List UInt8) (k i:Nat):bt (f.drop k) i=bt f (8*k+i):=by
 unfold bt;rw [List.getD_eq_getElem?_getD,List.getD_eq_getElem?_getD,List.getElem?_drop,show k+i/8=(8*k+i)/8 by omega,show (8*k+i)%8=i%8 by omega]
theorem qbr (f:List UInt8) (k p d:Nat):val (f.drop k) p d=val f (8*k+p) d:=by
 induction d with
 | zero=>rfl
 | succ d ih=>rw [qaD,qaD,ih,qkg,Nat.add_assoc]
def zp (z:Nat→Int) (p:Nat):Nat→Int:=fun j=>if j<p then z j else 0
theorem qmN (z:Nat→Int):zp z 0=fun _=>0:=by funext j;simp [zp]
theorem qnl (z:Nat→Int) (n:Nat) (h:∀ i,n≤i→z i=0):zp z n=z:=by
 funext j;unfold zp;split
 ·rfl
 exact (h j (by omega)).symm
theorem qnb (z:Nat→Int) (p:Nat):upd (zp z p) p (z p)=zp z (p+1):=by
 funext j;unfold upd zp
 by_cases e:j=p
 ·subst e;simp
 rw [if_neg e];by_cases h:j<p
 ·rw [if_pos h,if_pos (by omega)]
 rw [if_neg h,if_neg (by omega)]
theorem qnt (z:Nat→Int) (p k:Nat) (h:∀ i,i<k→z (p+i)=0):zp z p=zp z (p+k):=by
 funext j;unfold zp
 by_cases h1:j<p
 ·rw [if_pos h1,if_pos (by omega)]
 rw [if_neg h1];by_cases h2:j<p+k
 ·rw [if_pos h2]
  have:=h (j - p) (by omega)
  rw [show p+(j - p)=j by omega] at this;exact this.symm
 rw [if_neg h2]
theorem qlQ {b b':List UInt8} {z:Nat→Int} {p pos F:Nat} (hp:p<288) (h24:24≤pos) (hz:1≤z p) (hlen:pos+4≤8*b'.length) (hv:val b' pos 4=(z p).toNat) (hag:Ag b b' pos)
 (R:List UInt8→Option ((Nat→Int) × Nat)) (h:∀ f,Ag b f pos→R f=lensF (f.drop 3) (F+1) p (pos - 24) (zp z p)) :
 ∀ f,Ag b' f (pos+4)→R f=lensF (f.drop 3) F (p+1) (pos+4 - 24) (zp z (p+1)):=by
 intro f hf;rw [h f (hag.trans (hf.mono (by omega)) (Nat.le_refl _))];have hl:(f.drop 3).length=f.length - 3:=List.length_drop ..;have hfl:=hf.len;have hv2:val (f.drop 3) (pos - 24) 4=(z p).toNat:=by rw [qbr,show 8*3+(pos - 24)=pos by omega,hf.val pos 4 (by omega),hv]
 rw [qfy _ _ _ _ _ hp (by omega) (by omega),hv2,show ((z p).toNat:Int)=z p by omega,qnb,show pos - 24+4=pos+4 - 24 by omega]
theorem qlf {b b':List UInt8} {z:Nat→Int} {p pos F k:Nat} (hp:p+k<288) (h24:24≤pos) (hz:∀ i,i<k+1→z (p+i)=0) (hlen:pos+9≤8*b'.length) (hv:val b' pos 4=0) (hv2:val b' (pos+4) 5=k) (hag:Ag b b' pos)
 (R:List UInt8→Option ((Nat→Int) × Nat)) (h:∀ f,Ag b f pos→R f=lensF (f.drop 3) (F+1) p (pos - 24) (zp z p)) :
 ∀ f,Ag b' f (pos+9)→R f=lensF (f.drop 3) F (p+1+k) (pos+9 - 24) (zp z (p+1+k)):=by
 intro f hf;rw [h f (hag.trans (hf.mono (by omega)) (Nat.le_refl _))];have hl:(f.drop 3).length=f.length - 3:=List.length_drop ..;have hfl:=hf.len;have hv3:val (f.drop 3) (pos - 24) 4=0:=by rw [qbr,show 8*3+(pos - 24)=pos by omega,hf.val pos 4 (by omega),hv]
 have hv4:val (f.drop 3) (pos - 24+4) 5=k:=by rw [qbr,show 8*3+(pos - 24+4)=pos+4 by omega,hf.val (pos+4) 5 (by omega),hv2]
 rw [qfB _ _ _ _ _ (by omega) (by omega) hv3 (by omega) (by omega),hv4,qnt z p (k+1) hz,show p+(k+1)=p+1+k by omega,show pos - 24+9=pos+9 - 24 by omega]
def nz (z:Nat→Int):Nat→Nat
 | 0=>0
 | p+1=>nz z p+if z p=0 then 0 else 1
theorem qnh (z:Nat→Int) (p k:Nat) (h:∀ i,i<k→z (p+i)=0):nz z (p+k)=nz z p:=by
 induction k with
 | zero=>rfl
 | succ k ih=>rw [←Nat.add_assoc,nz,ih (fun i hi=>h i (by omega)),if_pos (h k (by omega))];rfl
theorem qng (z:Nat→Int) (p:Nat):nz z p≤p:=by
 induction p with
 | zero=>exact Nat.le_refl _
 | succ p ih=>unfold nz;split<;>omega
def slen (s:Nat × Nat):Nat:=if s.1<256 then 1 else s.1 - 253
structure okStep (d:List UInt8) (at_:Nat) (s:Nat × Nat):Prop where
 lt:s.1<288
 fit:at_+slen s≤d.length
 byte:s.1<256→(d.getD at_ 0).toNat=s.1
 copy:¬s.1<256→1≤s.2∧s.2≤4096∧s.2≤at_∧∀ i,i<s.1 - 253→d.getD (at_+i) 0=d.getD (at_+i - s.2) 0
theorem qbA (d:List UInt8) (n:Nat) (h:n<d.length):d.take (n+1)=d.take n++[d.getD n 0]:=by
 rw [List.take_add_one,List.getD_eq_getElem?_getD,List.getElem?_eq_getElem h];rfl
theorem qlE (d:List UInt8) (a back k:Nat) (hb:1≤back) (hba:back≤a) (hk:a+k≤d.length) (h:∀ i,i<k→d.getD (a+i) 0=d.getD (a+i - back) 0):cpy (d.take a) back k=d.take (a+k):=by
 induction k with
 | zero=>rfl
 | succ k ih =>
   rw [cpy,ih (by omega) (fun i hi=>h i (by omega)),←Nat.add_assoc,qbA d (a+k) (by omega),List.length_take,Nat.min_eq_left (by omega),h k (by omega)]
   congr 2
   rw [List.getD_eq_getElem?_getD,List.getElem?_take_of_lt (by omega),List.getD_eq_getElem?_getD]
theorem qgV {f:List UInt8} {z:Nat→Int} {pos i:Nat} (hi:i<288) (hz:1≤z i) (hl:pos+(z i).toNat≤8*f.length) (hv:val f pos (z i).toNat=num z 288 i):symF f z pos 288=some i:=
 qbH f z pos i hi ((qbm f z pos i).2 ⟨hz,hl,hv.symm⟩)
theorem qiU {b b':List UInt8} {z:Nat→Int} {d:List UInt8} {a pos F i:Nat} (h24:24≤pos) (hi:i<256) (hz:1≤z i) (ha:a<d.length) (hd:(d.getD a 0).toNat=i) (hlen:pos+(z i).toNat≤8*b'.length) (hv:val b' pos (z i).toNat=num z 288 i) (hag:Ag b b' pos)
 (R:List UInt8→Option (List UInt8 × Nat)) (h:∀ f,Ag b f pos→R f=dataF (f.drop 3) z 288 d.length (F+1) (d.take a) (pos - 24)) :
 ∀ f,Ag b' f (pos+(z i).toNat)→R f=dataF (f.drop 3) z 288 d.length F (d.take (a+1)) (pos+(z i).toNat - 24):=by
 intro f hf;rw [h f (hag.trans (hf.mono (by omega)) (Nat.le_refl _))];have hl:(f.drop 3).length=f.length - 3:=List.length_drop ..;have hfl:=hf.len;have hs:symF (f.drop 3) z (pos - 24) 288=some i:=qgV (by omega) hz (by omega) (by rw [qbr,show 8*3+(pos - 24)=pos by omega,hf.val pos _ (by omega),hv]);rw [qdM _ _ _ _ _ _ _ i (by rw [List.length_take];omega) hs hi,qbA d a ha,show pos - 24+(z i).toNat=pos+(z i).toNat - 24 by omega];rw [←hd,UInt8.ofNat_toNat]
theorem qkj {b b':List UInt8} {z:Nat→Int} {d:List UInt8} {a pos F i back:Nat} (h24:24≤pos) (hi:¬i<256) (hi2:i<288) (hz:1≤z i) (ha:a+(i - 253)≤d.length) (hb:1≤back) (hb2:back≤a) (hd:∀ j,j<i - 253→d.getD (a+j) 0=d.getD (a+j - back) 0) (hlen:pos+(z i).toNat+12≤8*b'.length) (hv:val b' pos (z i).toNat=num z 288 i) (hv2:val b' (pos+(z i).toNat) 12=back - 1) (hag:Ag b b' pos)
 (R:List UInt8→Option (List UInt8 × Nat)) (h:∀ f,Ag b f pos→R f=dataF (f.drop 3) z 288 d.length (F+1) (d.take a) (pos - 24)) :
 ∀ f,Ag b' f (pos+(z i).toNat+12)→R f=dataF (f.drop 3) z 288 d.length F (d.take (a+(i - 253))) (pos+(z i).toNat+12 - 24):=by
 intro f hf;rw [h f (hag.trans (hf.mono (by omega)) (Nat.le_refl _))];have hl:(f.drop 3).length=f.length - 3:=List.length_drop ..;have hfl:=hf.len;have hs:symF (f.drop 3) z (pos - 24) 288=some i:=qgV (by omega) hz (by omega) (by rw [qbr,show 8*3+(pos - 24)=pos by omega,hf.val pos _ (by omega),hv]);have hv3:val (f.drop 3) (pos - 24+(z i).toNat) 12=back - 1:=by rw [qbr,show 8*3+(pos - 24+(z i).toNat)=pos+(z i).toNat by omega,hf.val _ 12 (by omega),hv2]
 have hlt:(d.take a).length=a:=by rw [List.length_take];omega
 rw [qdK _ _ _ _ _ _ _ i (by omega) hs hi (by omega) (by rw [hv3,hlt];omega),hv3,show back - 1+1=back by omega,qlE d a back _ hb hb2 ha hd,show pos - 24+(z i).toNat+12=pos+(z i).toNat+12 - 24 by omega]
theorem qi8 (s:List UInt8) (p k:Nat) (h:∀ i,p≤i→bt s i=0):val s p k=0:=by
 induction k with
 | zero=>rfl
 | succ k ih=>rw [qaD,ih,h _ (by omega)]
theorem qj6 {T d:List UInt8} {z:Nat→Int} {p1 p2:Nat} (h24:24≤p2) (hf:Fits z 288) (hw:Wr T p2) (hl:lensF (T.drop 3) 288 0 0 (fun _=>0)=some (z,p1 - 24)) (hd:dataF (T.drop 3) z 288 d.length d.length [] (p1 - 24)=some (d,p2 - 24)) :
 bodyF (T.drop 3) 288 d.length=some d:=by
 have hl3:(T.drop 3).length=T.length - 3:=List.length_drop ..;have hlo:=hw.lo;have hhi:=hw.hi;rw [qdV _ _ _ z (p1 - 24) (p2 - 24) d hl ((qds z 288).2 hf) hd,if_pos];refine ⟨by omega,qi8 _ _ _ fun i hi => ?_⟩;rw [qkg];exact hw.zero _ (by omega)
end Go.Proofs.YtodmdkhdbfbfgaaGreatDoor.S1.Pk
