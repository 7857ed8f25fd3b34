/- Lemmas and contracts for full. -/
import Derived.Deep.AppendLies
import Derived.RangeFuncGives
import Derived.RangeFuncSeq
import Derived.Sort.MapsRangeIn
import Derived.Shelf.Abstract
import Derived.OwnWalkIn
import Derived.TacticsInMore
import Derived.LoopNIn
import Derived.LoopIn
import Derived.Test.YtodmdkhdbfbfgabGreatDoorM27
import Derived.Test.YtodmdkhdbfbfgabGreatDoorM00
import Derived.Test.YtodmdkhdbfbfgabGreatDoorM04
import Derived.Test.YtodmdkhdbfbfgabGreatDoorM17
import Derived.Test.YtodmdkhdbfbfgabGreatDoorM09
set_option maxRecDepth 100000
set_option maxHeartbeats 8000000
namespace Go.Proofs.YtodmdkhdbfbfgabGreatDoor
open Go.RowKit Go.Nt
set_option linter.unusedVariables false
def mtOf (l:List It) (p:Bs):Int × Int:=l.foldl (fun s y=>if y.path=p then (y.mode,y.time) else s) (0,0)
theorem mt_take {l:List It} {p:Bs} {k:Nat} {x:It} (h:l[k]? = some x):mtOf (l.take (k+1)) p=if x.path=p then (x.mode,x.time) else mtOf (l.take k) p:=by
 rw [List.take_add_one,h]
 unfold mtOf
 rw [List.foldl_append]
 rfl
def putK (l:List It) (p d:Bs):List It:=wo l p++[⟨p,false,d,(mtOf l p).1,(mtOf l p).2⟩]
theorem own_base {w:World} {B B':Nat} {e:TypeId} {size:Nat} {v:Value} {n:Nat} {xs:List Value} (h:w.ownsRow B e size v n xs) (hb:B'≤B):w.ownsRow B' e size v n xs:=by
 refine ⟨h.1,?_⟩
 rcases h.2 with h2 | ⟨g,cap,cur,h3,h4,h5⟩
 ·exact .inl h2
 ·exact .inr ⟨g,cap,cur,h3,Nat.le_trans hb h4,h5⟩
def PutBox (w:World) (r:Nat) (P D:ByteArray) (mt:Int × Int):Prop:=w.heap[r]? = some (.cells #[.string P,.bool false,.string D,.int .i64 mt.1,.int .i64 mt.2] 53 (0,0))
theorem PutBox.set {w:World} {r:Nat} {P D:ByteArray} {mt:Int × Int} (h:PutBox w r P D mt) (m t:Int):PutBox ((w.setCell ⟨r,3,none⟩ (.int .i64 m)).setCell ⟨r,4,none⟩ (.int .i64 t)) r P D (m,t):=by
 have h1:=heap_setCell_same w r 3 _ 53 (.int .i64 m) h
 have h2:=heap_setCell_same _ r 4 _ 53 (.int .i64 t) h1
 exact h2
theorem kput_any (a:Option Addr) (c:Nat) (l:List It) (p d:Bs) (w:World) (ha:ItsIn w a l) (hn:l.length≤1000) :
 Calls Tryz.prog 25 #[.slice a l.length c,.string (txt p),.string (txt d)] w fun e w'=>∃ v,e=.returned v∧w'.ownsRow w.heap.size 53 5 v (putK l p d).length (its (putK l p d))∧Below w.heap.size w w':=by
 obtain ⟨i0,hi,hz0,hz1,hz2⟩:=info_parts Tryz.info24
 obtain ⟨N,hN⟩:∃ N,N=l.length:=⟨_,rfl⟩
 rw [←hN] at hn ⊢
 have HN:=hidI hN
 have Ha:=hidI ha
 obtain ⟨P,hP⟩:∃ P,P=txt p:=⟨_,rfl⟩
 obtain ⟨D,hD⟩:∃ D,D=txt d:=⟨_,rfl⟩
 rw [←hP,←hD]
 have HP:=hidI hP
 have HD:=hidI hD
 clear hN ha hP hD
 go_enter Tryz.func25,Tryz.ntmps25
 go_wp2
 obtain ⟨W0,hW0⟩:∃ W0,W0=w.alloc (.cells #[.string P,.bool false,.string D,.int .i64 0,.int .i64 0] 53):=⟨_,rfl⟩
 rw [←hW0]
 have HB0:Hid (Below w.heap.size w W0):=hidI (by rw [hW0];exact (Below.refl _ w).alloc (Nat.le_refl _) _)
 have HP0:Hid (PutBox W0 w.heap.size P D (0,0)):=hidI (by rw [hW0];exact heap_alloc_new w _)
 obtain ⟨r,hr⟩:∃ r,r=w.heap.size:=⟨_,rfl⟩
 rw [←hr] at HB0 HP0 ⊢
 have Hr:=hidI hr
 clear hW0 hr
 go_loopw [7,9] (fun v i wr=>∃ k:Nat,k≤N∧i=.int .i64 k∧Hid (PutBox wr r P D (mtOf (l.take k) p))∧Hid (wr.ownsRow (r+1) 53 5 v (wo (l.take k) p).length (its (wo (l.take k) p)))∧Hid (Below r w wr)) (fun _ i _=>N - (intOf i).toNat)
 case atStart=>exact ⟨0,Nat.zero_le _,rfl,HP0,hidI (World.ownsRow_nil _ _ _ _),HB0⟩
 case round =>
  clear HB0 HP0 W0
  obtain ⟨k,hk,rfl,HX,HO,HB⟩:=hrel
  obtain ⟨aL,cL,rfl,hits⟩:=own_in HO.out
  clear hits
  have hrlt:r<wr.heap.size:=lt_of_heap HX.out
  by_cases hlt:k<N
  ·have hkl:k<l.length:=by have:=HN.out;omega
   obtain ⟨b1,o1,rfl,h1⟩:=(Ha.out.below (by rw [←Hr.out];exact HB.out)) (fun h=>by rw [h] at hkl;simp at hkl)
   obtain ⟨x,hx⟩:∃ x,l[k]? = some x:=⟨_,List.getElem?_eq_getElem hkl⟩
   obtain ⟨x0,x1,x2,x3,x4⟩:=h1 k x hx
   have Hw:=hidI (wo_take (p:=p) hx)
   have Hm:=hidI (mt_take (p:=p) hx)
   obtain ⟨L,hL⟩:∃ L,L=(wo (l.take k) p).length:=⟨_,rfl⟩
   have hL9:L≤1000:=by have:=wo_len (l.take k) p;rw [List.length_take] at this;omega
   rw [←hL] at HO ⊢
   have HL:=hidI hL
   obtain ⟨X,hX⟩:∃ X,X=txt x.path:=⟨_,rfl⟩
   rw [←hX] at x0
   have HXp:=hidI hX
   have hb1:b1<r:=by
    obtain ⟨b',o',e,h'⟩:=Ha.out (fun h=>by rw [h] at hkl;simp at hkl)
    cases e
    rw [Hr.out]
    exact World.block_lt_of_cell? w _ (h' k x hx).1
   clear hkl h1 hx hL hX
   by_cases e:x.path=p
   ·have hc2:(X.toList==P.toList)=true:=by rw [HXp.out,HP.out,txt_toList,txt_toList];simp [e]
    rw [if_pos e,List.append_nil] at Hw
    rw [if_pos e] at Hm
    clear e
    obtain ⟨mt,hmt⟩:∃ mt,mt=mtOf (l.take k) p:=⟨_,rfl⟩
    rw [←hmt] at HX
    have y3:wr.cell? ⟨r,3,none⟩=some (.int .i64 mt.1):=by rw [cell_of_row wr r 3 _ 53 (0,0) HX.out];rfl
    have y4:wr.cell? ⟨r,4,none⟩=some (.int .i64 mt.2):=by rw [cell_of_row wr r 4 _ 53 (0,0) HX.out];rfl
    have f3:=frozen_of_row wr r 3 _ 53 HX.out
    have f4:=frozen_of_row wr r 4 _ 53 HX.out
    have HX2:=hidI (HX.out.set x.mode x.time)
    rw [←Hm.out] at HX2
    have HO2:Hid (((wr.setCell ⟨r,3,none⟩ (.int .i64 x.mode)).setCell ⟨r,4,none⟩ (.int .i64 x.time)).ownsRow (r+1) 53 5 (.slice aL L cL) L (its (wo (l.take k) p))):=hidI (ownsRow_setCell_below (ownsRow_setCell_below HO.out (a:=⟨r,3,none⟩) (Nat.lt_succ_self r) _) (a:=⟨r,4,none⟩) (Nat.lt_succ_self r) _)
    have HB2:=hidI ((HB.out.setCell (p:=⟨r,3,none⟩) (Nat.le_refl _) (.int .i64 x.mode)).setCell (p:=⟨r,4,none⟩) (Nat.le_refl _) (.int .i64 x.time))
    clear hmt HO HX HB
    go_wp2
    go_roundw
    case rel=>exact ⟨k+1,by omega,by go_num,HX2,hidI (by rw [Hw.out,←HL.out];exact HO2.out),HB2⟩
    case measure=>simp [intOf];omega
   ·have hc2:(X.toList==P.toList)=false:=by rw [HXp.out,HP.out,txt_toList,txt_toList];simp [e]
    rw [if_neg e] at Hw
    rw [if_neg e] at Hm
    clear e
    go_wp2_with (at_builtin;refine wpList_append_own _ rfl (.tmp 38) (.tmp 43) 42 rfl (r+1) 53 i0 _ 5 56 Tryz.underlying42 hi hz0 hz1 hz2 rfl (by decide) _ _ _ rfl (HO.out.alloc _) ⟨wr.heap.size,0,none⟩ 1 1 (itl x) rfl ?e1 ?e2 ?e3 ?e4 ?e5 ?e6 ?_)
    case e1=>rfl
    case e2 =>
     intro j v hv
     rw [addr_add]
     have h:=(boxed_at wr x).cell hv
     unfold boxed at h
     rw [HXp.out]
     simpa using h
    case e3=>intro v hv;exact its_one_cell (l:=[x]) v (by rw [its_one];exact hv)
    case e4=>unfold maxLen;omega
    case e5=>omega
    case e6=>simp;omega
    intro v4 w4 hown4 hgrow4 _
    have hb4:Below r w w4:=(HB.out.alloc (by omega) _).grown hgrow4 (by simp;omega) (fun q hq=>by have:=(HO.out.lt q hq).1;omega)
    have HX4:Hid (PutBox w4 r P D (mtOf (l.take (k+1)) p)):=hidI (by
     rw [Hm.out]
     unfold PutBox
     rw [hgrow4.block r (by simp;omega) (fun h=>by have:=(HO.out.lt r h.symm).1;omega),Below.heap_alloc wr _ r hrlt]
     exact HX.out)
    have HO4:Hid (w4.ownsRow (r+1) 53 5 v4 (wo (l.take (k+1)) p).length (its (wo (l.take (k+1)) p))):=hidI (by rw [Hw.out,its_append,its_one,List.length_append,←HL.out];exact hown4)
    have HB4:=hidI hb4
    clear hown4 hgrow4 hb4
    go_wp2
    go_roundw
    case rel=>exact ⟨k+1,by omega,by go_num,HX4,HO4,HB4⟩
    case measure=>simp [intOf];omega
  ·have hkN:k=N:=by omega
   subst hkN
   have HX2:Hid (PutBox wr r P D (mtOf l p)):=hidI (by have h:=HX.out;rwa [HN.out,List.take_length] at h)
   have HO2:Hid (wr.ownsRow (r+1) 53 5 (.slice aL (wo (l.take k) p).length cL) (wo l p).length (its (wo l p))):=hidI (by have h:=HO.out;rw [HN.out,List.take_length] at h ⊢;exact h)
   have e1:(wo (l.take k) p).length=(wo l p).length:=by rw [HN.out,List.take_length]
   rw [e1] at HO2 ⊢
   have hL9:(wo l p).length≤1000:=by have:=wo_len l p;have:=HN.out;omega
   obtain ⟨L,hL⟩:∃ L,L=(wo l p).length:=⟨_,rfl⟩
   rw [←hL] at HO2 hL9 ⊢
   have HL:=hidI hL
   obtain ⟨m,hm⟩:∃ m,m=(mtOf l p).1:=⟨_,rfl⟩
   obtain ⟨t,ht⟩:∃ t,t=(mtOf l p).2:=⟨_,rfl⟩
   have HX3:Hid (wr.heap[r]? = some (.cells #[.string P,.bool false,.string D,.int .i64 m,.int .i64 t] 53 (0,0))):=hidI (by rw [hm,ht];exact HX2.out)
   have HR:Hid (putK l p d=wo l p++[⟨p,false,d,m,t⟩]):=hidI (by rw [hm,ht];rfl)
   have y0:wr.cell? ⟨r,0,none⟩=some (.string P):=by rw [cell_of_row wr r 0 _ 53 (0,0) HX3.out];rfl
   have y1:wr.cell? ⟨r,1,none⟩=some (.bool false):=by rw [cell_of_row wr r 1 _ 53 (0,0) HX3.out];rfl
   have y2:wr.cell? ⟨r,2,none⟩=some (.string D):=by rw [cell_of_row wr r 2 _ 53 (0,0) HX3.out];rfl
   have y3:wr.cell? ⟨r,3,none⟩=some (.int .i64 m):=by rw [cell_of_row wr r 3 _ 53 (0,0) HX3.out];rfl
   have y4:wr.cell? ⟨r,4,none⟩=some (.int .i64 t):=by rw [cell_of_row wr r 4 _ 53 (0,0) HX3.out];rfl
   clear hL hm ht e1 HO HX HX2
   go_wp2_with (at_builtin;refine wpList_append_own _ rfl (.tmp 45) (.tmp 47) 42 rfl (r+1) 53 i0 _ 5 56 Tryz.underlying42 hi hz0 hz1 hz2 rfl (by decide) _ _ _ rfl (HO2.out.alloc _) ⟨wr.heap.size,0,none⟩ 1 1 [.string P,.bool false,.string D,.int .i64 m,.int .i64 t] rfl ?e1 ?e2 ?e3 ?e4 ?e5 ?e6 ?_)
   case e1=>rfl
   case e2=>exact World.news_of_block (heap_alloc_new wr _)
   case e3=>intro u hu;simp at hu;rcases hu with rfl | rfl | rfl | rfl | rfl<;>rfl
   case e4=>unfold maxLen;omega
   case e5=>omega
   case e6=>simp;omega
   intro v4 w4 hown4 hgrow4 _
   have HB4:Hid (Below w.heap.size w w4):=hidI (by rw [←Hr.out];exact (HB.out.alloc (by omega) _).grown hgrow4 (by simp;omega) (fun q hq=>by have:=(HO2.out.lt q hq).1;omega))
   have HO4:Hid (w4.ownsRow w.heap.size 53 5 v4 (putK l p d).length (its (putK l p d))):=hidI (by
    refine own_base (B:=r+1) ?_ (by rw [←Hr.out];omega)
    rw [HR.out,its_append,its_one,List.length_append,←HL.out]
    have h:=hown4
    rw [HP.out,HD.out] at h
    exact h)
   clear hown4 hgrow4
   go_wp2
   go_ret
   exact ⟨_,rfl,HO4.out,HB4.out⟩
end Go.Proofs.YtodmdkhdbfbfgabGreatDoor
namespace Go.Proofs.YtodmdkhdbfbfgabGreatDoor
open Go.RowKit Go.Nt
set_option linter.unusedVariables false
set_option linter.unusedSimpArgs false
def nm (i:Nat):Bs:=[102,UInt8.ofNat (97+i/26),UInt8.ofNat (97+i%26)]
theorem nm_inj:∀ i,i<40→∀ j,j<40→nm i=nm j→i=j:=by decide
theorem nm_ok:∀ i,i<40→okPath (nm i)=true:=by decide
theorem nm_flat:∀ i,i<40→(nm i).contains 47=false:=by decide
theorem flat_get {p:Bs} (h:p.contains 47=false) (i:Nat):p.getD i 0≠47:=fun e=>by
 by_cases hi:i<p.length
 ·rw [List.getD_eq_getElem?_getD,List.getElem?_eq_getElem hi] at e
  have:p.contains 47=true:=List.contains_iff_mem.2 (by have:=List.getElem_mem hi;simp at e;rw [e] at this;exact this)
  rw [h] at this;cases this
 ·rw [List.getD_eq_getElem?_getD,List.getElem?_eq_none (by omega)] at e;cases e
theorem flat_par {p:Bs} (h:p.contains 47=false):par p=[]:=par_none fun i _=>flat_get h i
theorem flat_enter (l:List It) {p:Bs} (h:p.contains 47=false):enterE l p=0:=by
 have key:∀ n k,enterAt l p n k=0:=by
  intro n
  induction n with
  | zero=>exact fun _=>rfl
  | succ n ih=>intro k;rw [enterAt,if_neg (flat_get h k)];exact ih _
 exact key _ _
theorem flat_reach (l:List It) {p:Bs} (h:p.contains 47=false) (ho:okPath p=true):reachE l p=0:=by
 unfold reachE
 rw [if_pos ho,flat_enter l h]
theorem flat_in {q p:Bs} (h:q.contains 47=false):inB q p=false:=by
 cases e:inB q p with
 | false=>rfl
 | true =>
   obtain ⟨r,hr⟩:=List.isPrefixOf_iff_prefix.1 e
   have:q.contains 47=true:=List.contains_iff_mem.2 (by rw [←hr];simp)
   rw [h] at this;cases this
structure FT (k:Nat) (l:List It):Prop where
 item:∀ x∈l,∃ j d,j<k∧d.length≤4000∧x=(⟨nm j,false,d,0,0⟩:It)
 nodup:(l.map (·.path)).Nodup
 len:l.length≤k
 most:k≤40
theorem nm_item {j:Nat} (hj:j<40) {d:Bs} (hd:d.length≤4000):okItem ⟨nm j,false,d,0,0⟩=true:=by
 unfold okItem
 simp [nm_ok j hj,hd]
theorem FT.flat {k:Nat} {l:List It} (h:FT k l) {x:It} (hx:x∈l):x.path.contains 47=false:=by
 obtain ⟨j,d,hj,_,rfl⟩:=h.item x hx
 exact nm_flat j (by have:=h.most;omega)
theorem FT.ok {k:Nat} {l:List It} (h:FT k l) {x:It} (hx:x∈l):okItem x=true:=by
 obtain ⟨j,d,hj,hd,rfl⟩:=h.item x hx
 exact nm_item (by have:=h.most;omega) hd
theorem FT.tree {k:Nat} {l:List It} (h:FT k l):TreeP l:=
 ⟨by have:=h.len;have:=h.most;omega,fun x hx=>h.ok hx,h.nodup,fun x hx=>.inl (flat_par (h.flat hx))⟩
theorem FT.no {k:Nat} {l:List It} (h:FT k l) (hk:k<40):∀ y∈l,y.path≠nm k:=fun y hy e=>by
 obtain ⟨j,d,hj,_,rfl⟩:=h.item y hy
 have:=nm_inj j (by omega) k hk e
 omega
theorem FT.putE {k:Nat} {l:List It} (h:FT k l) (hk:k<40) {d:Bs} (hd:d.length≤4000):putE l (nm k) d=0:=by
 have hn:=at_none.2 (h.no hk)
 have hl:=h.len
 unfold YtodmdkhdbfbfgabGreatDoor.putE
 rw [if_pos (flat_reach l (nm_flat k hk) (nm_ok k hk)),hn]
 exact if_neg (by omega)
theorem FT.putI {k:Nat} {l:List It} (h:FT k l) (hk:k<40) (d:Bs):setIt l (putI l (nm k) d)=l++[⟨nm k,false,d,0,0⟩]:=by
 have hn:=at_none.2 (h.no hk)
 have e:Go.Proofs.YtodmdkhdbfbfgabGreatDoor.putI l (nm k) d=⟨nm k,false,d,0,0⟩:=by
  unfold YtodmdkhdbfbfgabGreatDoor.putI
  rw [hn]
 rw [e]
 exact at_snoc (h.no hk)
theorem FT.more {k:Nat} {l:List It} (h:FT k l) (hk:k<40):FT (k+1) l:=
 ⟨fun x hx=>by obtain ⟨j,d,hj,hd,e⟩:=h.item x hx;exact ⟨j,d,by omega,hd,e⟩,h.nodup,by have:=h.len;omega,by omega⟩
theorem FT.put {k:Nat} {l:List It} (h:FT k l) (hk:k<40) {d:Bs} (hd:d.length≤4000):FT (k+1) (l++[⟨nm k,false,d,0,0⟩]):=by
 refine ⟨fun x hx => ?_,?_,by have:=h.len;simp;omega,by omega⟩
 ·rcases List.mem_append.1 hx with hx | hx
  ·obtain ⟨j,d,hj,hd,e⟩:=h.item x hx;exact ⟨j,d,by omega,hd,e⟩
  ·rw [List.mem_singleton.1 hx];exact ⟨k,d,by omega,hd,rfl⟩
 ·rw [List.map_append,List.nodup_append]
  refine ⟨h.nodup,by simp,fun a ha b hb e => ?_⟩
  obtain ⟨y,hy,rfl⟩:=List.mem_map.1 ha
  simp at hb
  exact h.no hk y hy (e.trans hb)
theorem mt_none {l:List It} {p:Bs} (h:∀ y∈l,y.path≠p):mtOf l p=(0,0):=by
 unfold mtOf
 induction l with
 | nil=>rfl
 | cons y l ih =>
   rw [List.foldl_cons,if_neg (h y (by simp))]
   exact ih fun z hz=>h z (by simp [hz])
theorem wo_none {l:List It} {p:Bs} (h:∀ y∈l,y.path≠p):wo l p=l:=by
 unfold wo
 rw [List.filter_eq_self]
 intro y hy
 simp [h y hy]
theorem FT.putK {k:Nat} {l now:List It} (h:FT k l) (hp:l.Perm now) (hk:k<40) (d:Bs):putK now (nm k) d=now++[⟨nm k,false,d,0,0⟩]:=by
 have hn:∀ y∈now,y.path≠nm k:=fun y hy=>h.no hk y (hp.mem_iff.2 hy)
 unfold YtodmdkhdbfbfgabGreatDoor.putK
 rw [wo_none hn,mt_none hn]
theorem perm_same {l now:List It} (h:l.Perm now):sameB now (inOrder l)=true:=by
 unfold sameB
 rw [Bool.and_eq_true,decide_eq_true_eq,order_length,List.all_eq_true]
 exact ⟨h.length_eq.symm,fun x hx=>decide_eq_true (order_mem.2 (h.mem_iff.2 hx))⟩
theorem FT.removeE {k:Nat} {l:List It} (h:FT k l) {x:It} (hx:x∈l):removeE l x.path=0:=by
 have hf:=h.flat hx
 have ho:okPath x.path=true:=by
  obtain ⟨j,d,hj,_,rfl⟩:=h.item x hx
  exact nm_ok j (by have:=h.most;omega)
 have hfind:findE l x.path=0:=by
  unfold findE
  rw [if_pos (flat_reach l hf ho),at_mem h.nodup hx]
  rfl
 unfold YtodmdkhdbfbfgabGreatDoor.removeE
 rw [if_pos hfind,if_neg]
 intro ha
 obtain ⟨q,hq,hi⟩:=List.any_eq_true.1 ha
 obtain ⟨y,hy,rfl⟩:=List.mem_map.1 hq
 rw [flat_in (h.flat hy)] at hi
 cases hi
theorem FT.drop {k:Nat} {l:List It} (h:FT k l) (p:Bs):FT k (l.filter fun y=>decide (y.path≠p)):=
 ⟨fun x hx=>h.item x (List.mem_filter.1 hx).1,filter_nodup h.nodup _,Nat.le_trans (List.length_filter_le _ _) h.len,h.most⟩
theorem perm_drop {l now:List It} {i:Nat} {x:It} (hn:(now.map (·.path)).Nodup) (hx:now[i]? = some x) (h:l.Perm (now.drop i)):(l.filter fun y=>decide (y.path≠x.path)).Perm (now.drop (i+1)):=by
 have hi:i<now.length:=(List.getElem?_eq_some_iff.1 hx).1
 have e:now.drop i=x :: now.drop (i+1):=by
  rw [List.drop_eq_getElem_cons hi]
  congr 1
  rw [List.getElem?_eq_getElem hi] at hx
  exact Option.some.inj hx
 have h1:=h.filter fun y=>decide (y.path≠x.path)
 rw [e,List.filter_cons_of_neg (by simp)] at h1
 have hnd:((now.drop i).map (·.path)).Nodup:=by rw [List.map_drop];exact hn.sublist (List.drop_sublist _ _)
 rw [e,List.map_cons,List.nodup_cons] at hnd
 have h2:(now.drop (i+1)).filter (fun y=>decide (y.path≠x.path))=now.drop (i+1):=by
  rw [List.filter_eq_self]
  intro y hy
  have:y.path≠x.path:=fun e=>hnd.1 (List.mem_map.2 ⟨y,hy,e⟩)
  simp [this]
 rw [h2] at h1
 exact h1
theorem last_room {u:Bs→Option Bs} {nb np:Nat} (h1:4≤nb) (h2:nb≤32) (h3:4≤np) (h4:np≤16) {p d t:Bs} (hp:p.length=1) (hd:d.length=4*(nb*np) - 17) (ht:IsText u (inOrder [⟨p,false,d,0,0⟩]) t):pagesN t.length≤nb/2*np:=by
 have h5:=isText_len ht
 have e:inOrder [(⟨p,false,d,0,0⟩:It)]=[⟨p,false,d,0,0⟩]:=by simp [inOrder]
 rw [e] at h5
 have e2:weigh [(⟨p,false,d,0,0⟩:It)]=16+p.length+d.length:=by simp [weigh]
 rw [e2,hp,hd] at h5
 have h16:16≤nb*np:=Nat.mul_le_mul h1 h3
 have h6:t.length≤4*(nb*np)+1:=by omega
 have h7:nb≤nb/2*3:=by omega
 have h8:nb*np≤nb/2*3*np:=Nat.mul_le_mul_right _ h7
 have h9:nb/2*3*np=3*(nb/2*np):=by rw [Nat.mul_comm (nb/2) 3,Nat.mul_assoc]
 have h10:8≤nb/2*np:=Nat.mul_le_mul (show 2≤nb/2 by omega) h3
 unfold pagesN
 omega
theorem z_ok:okPath [122]=true:=by decide
theorem z_put {d:Bs} (hd:d.length≤4000):putE [] [122] d=0:=by
 unfold putE
 rw [if_pos (flat_reach [] (by decide) z_ok)]
 exact if_neg (by simp;omega)
theorem z_set (d:Bs):setIt [] (putI [] [122] d)=[⟨[122],false,d,0,0⟩]:=rfl
theorem z_read (d:Bs):fileE [(⟨[122],false,d,0,0⟩:It)] [122]=0∧(fileN [(⟨[122],false,d,0,0⟩:It)] [122]).data=d:=by
 have hf:findE [(⟨[122],false,d,0,0⟩:It)] [122]=0:=by
  unfold findE
  rw [if_pos (flat_reach _ (by decide) z_ok)]
  rfl
 have ha:at? [(⟨[122],false,d,0,0⟩:It)] [122]=some ⟨[122],false,d,0,0⟩:=rfl
 refine ⟨?_,?_⟩
 ·unfold fileE
  rw [if_pos hf,ha]
  rfl
 ·unfold fileN fileE
  rw [if_pos hf,ha]
  rfl
def RowK (w:World) (T:Nat→Prop) (v:Value) (l:List It):Prop:=w.ownsRow 0 53 5 v l.length (its l)∧∀ g,v.ownBlock=some g→¬T g
theorem RowK.none (w:World) (T:Nat→Prop):RowK w T (.slice none 0 0) []:=⟨⟨rfl,.inl ⟨rfl,rfl⟩⟩,fun g hg=>by cases hg⟩
theorem RowK.blocks {w w':World} {T T':Nat→Prop} {v:Value} {l:List It} (h:RowK w T v l) (e:∀ g,g<w.heap.size→¬T g→w'.heap[g]? = w.heap[g]?) (hT:∀ k,T' k→T k∨w.heap.size≤k):RowK w' T' v l:=by
 obtain ⟨⟨h1,h2⟩,h3⟩:=h
 rcases h2 with ⟨rfl,h0⟩ | ⟨g,cap,cur,rfl,a1,a2,a3⟩
 ·exact ⟨⟨h1,.inl ⟨rfl,h0⟩⟩,fun g hg=>by cases hg⟩
 ·have hng:=h3 g rfl
  have hlt:=lt_of_heap a2
  refine ⟨⟨h1,.inr ⟨g,cap,cur,rfl,a1,(e g hlt hng).trans a2,a3⟩⟩,fun g' hg' ht => ?_⟩
  cases hg'
  rcases hT g ht with h | h
  ·exact hng h
  ·omega
theorem RowK.fm {w w':World} {T T':Nat→Prop} {v:Value} {l:List It} (h:RowK w T v l) (hF:S1.Fm T w w') (hT:∀ k,T' k→T k∨w.heap.size≤k):RowK w' T' v l:=h.blocks (fun g hg hn=>hF.block g hg hn) hT
theorem RowK.below {w w':World} {T:Nat→Prop} {v:Value} {l:List It} (h:RowK w T v l) (hb:Below w.heap.size w w'):RowK w' T v l:=h.blocks (fun g hg _=>hb.block g hg) fun k hk=>.inl hk
theorem RowK.new {w w':World} {T:Nat→Prop} {v:Value} {l:List It} (h:w'.ownsRow w.heap.size 53 5 v l.length (its l)) (hT:∀ k,T k→k<w.heap.size):RowK w' T v l:=by
 refine ⟨own_base h (Nat.zero_le _),fun g hg ht => ?_⟩
 obtain ⟨_,⟨rfl,_⟩ | ⟨g',cap,cur,rfl,a1,_⟩⟩:=h
 ·cases hg
 ·have e:g'=g:=Option.some.inj hg
  have:=hT g ht
  omega
end Go.Proofs.YtodmdkhdbfbfgabGreatDoor
namespace Go.Proofs.YtodmdkhdbfbfgabGreatDoor.S1
open Go.RowKit Pk
set_option linter.unusedVariables false
def anyOf:Value→Option (DataW Value × List MemPlace):=fun v=>some (.held v,[])
theorem anyOf_inv {v u:Value} {ps:List MemPlace} (h:anyOf v=some (.held u,ps)):v=u:=by
 unfold anyOf at h;simp at h;exact h.1
theorem zero201 (w:World):(zeroValue 161).run Tryz.prog w=.ok (.slice none 0 0) w:=by kernel_rfl
theorem make200 (w:World):(Instr.makeMap 160 none).run Tryz.prog w=.ok (.map (some w.heap.size)) (w.alloc (.map #[] 0)):=by
 simp [Instr.makeMap,Result.andThen]
theorem look200_none {w:World} {g n:Nat} (h:w.ownsMap Tryz.prog 3 anyOf g n (.map [])) {b:Nat} (hb:b≤1000000):(Instr.lookup 160 (.map (some g)) (.int .i64 (b:Nat)) false).run Tryz.prog w=.ok (.slice none 0 0) w:=by
 obtain ⟨v',ps',h3,h4⟩:=h.lookup law3 Tryz.underlying160 (zero201 w) (show anyOf (.slice none 0 0)=some (.held (.slice none 0 0),[]) from rfl) (key3 hb)
 rw [Maps.atKey_of_not_has rfl] at h4
 rw [anyOf_inv h4] at h3
 exact h3
theorem store200 {w:World} {g n:Nat} (h:w.ownsMap Tryz.prog 3 anyOf g n (.map [])) {b:Nat} (hb:b≤1000000) (hn:n≤1000000) (v:Value) :
 ∃ w',(Instr.mapUpdate 160 (.map (some g)) (.int .i64 (b:Nat)) v).run Tryz.prog w=.ok () w'∧w'.ownsMap Tryz.prog 3 anyOf g (n+1) (.map [(.int .i64 (b:Nat),.held v)])∧w.mapTurned w' g:=by
 obtain ⟨w',h1,h2,h3⟩:=h.store law3 Tryz.underlying160 (by unfold maxLen;omega) (key3 hb) (show anyOf v=some (.held v,[]) from rfl)
 exact ⟨w',h1,h2,h3⟩
theorem look200_some {w:World} {g n:Nat} {b:Nat} {v:Value} (h:w.ownsMap Tryz.prog 3 anyOf g n (.map [(.int .i64 (b:Nat),.held v)])) (hb:b≤1000000):(Instr.lookup 160 (.map (some g)) (.int .i64 (b:Nat)) false).run Tryz.prog w=.ok v w:=by
 obtain ⟨v',ps',h3,h4⟩:=h.lookup law3 Tryz.underlying160 (zero201 w) (show anyOf (.slice none 0 0)=some (.held (.slice none 0 0),[]) from rfl) (key3 hb)
 have:(DataW.map [(Lit.int .i64 (b:Nat),DataW.held v)]:DataW Value).atKey (.int .i64 (b:Nat)) (.held (.slice none 0 0))=.held v:=by
  simp [DataW.atKey,Lit.sameKey]
 rw [this] at h4
 rw [anyOf_inv h4] at h3
 exact h3
theorem owns_block {w w':World} {T:TypeId} {H:Type} {R:Value→Option (DataW H × List MemPlace)} {g n:Nat} {D:DataW H} (h:w.ownsMap Tryz.prog T R g n D) (hb:w'.heap[g]? = w.heap[g]?):w'.ownsMap Tryz.prog T R g n D:=by
 obtain ⟨es,clock,h1,h2⟩:=h
 exact ⟨es,clock,hb.trans h1,h2⟩
end Go.Proofs.YtodmdkhdbfbfgabGreatDoor.S1
namespace Go.Proofs.YtodmdkhdbfbfgabGreatDoor
open Go.RowKit
set_option linter.unusedVariables false
def givesPost {α:Type} (B:Nat) (I:List α→World→Prop) (xs:List α) (W:World):Exit→Act→World→Prop
 | .normal,_,W'=>KeepsFrom B W W'∧I xs W'∧KeepsWalks W W'
 | _,_,_=>False
variable {F:Fence} {n:Nat} {P:Program}
theorem wpIn_rangeGives {α:Type} {g:Operand} {ps:Array Tmp} {assign body:Code} {Q:Exit→Act→World→Prop} {a:Act} {w:World}
 (hro:F.round=none) (h1:1≤n) {gf:Nat} {lb:Array Value} (hg:a.eval g=.func (.func gf) #[] lb) (hFg:F.fn gf) (eg:∀ args w,(callFunc gf args).run P w=.ok (.enter gf args) w)
 {enc:α→Value} {S:List α→Prop} {N:Nat} (hseq:SeqGives F (n - 1) P gf lb enc S N w) (hps:ps.size=1)
 (I:List α→World→Prop) (hI:OwnFrom w.heap.size I) (hIa:AbidesFrom w.heap.size I) (h0:I [] w) (a₁:α→World→Act) (as1:α→World→World)
 (has1:∀ x W,Below W.heap.size W (as1 x W)) (has2:∀ pre x W,I pre W→I pre (as1 x W)) (has3:∀ x W,KeepsWalks W (as1 x W))
 (hassign:∀ (l:Nat) (x:α) (W:World) (K:Act→World→Prop),K (a₁ x W) (as1 x W) →
   assign.wpIn (F.inRound l) (n - 1 - 1) P (Exit.then K (fun _ _ _=>False)) { tmps:=(ps.zip #[enc x]).foldl (fun t (p,v)=>t.setIfInBounds p v) a.tmps,defers:=[] } W)
 (hbody:∀ (l:Nat) (pre:List α) (x:α) (W V:World),(∀ k,W.heap.size≤k→k<(as1 x W).heap.size→V.heap[k]? = (as1 x W).heap[k]?)→I pre V→pre.length<N→w.heap.size≤W.heap.size→(as1 x W).heap.size≤V.heap.size→body.wpIn (F.inRound l) (n - 1 - 1) P (givesPost w.heap.size I (pre++[x]) V) (a₁ x W) V)
 (hdone:∀ (D:Nat) (xs:List α) (W:World),S xs→w.heap.size≤D→I xs W→W.heap[D]? = some (.deferred (some []))→Q .normal { a with defers:={ target:=.collected D,args:=#[] } :: a.defers } W) :
 (Code.rangeFunc g ps assign body).wpIn F n P Q a w:=by
 refine wpIn_rangeFunc fun fn hfn => ?_
 rw [hro]
 obtain ⟨r,hr⟩:∃ r:LoopState→Option Code→Loop,r=fun st pe=>{ state:=st,pending:=pe,fn,tmps:=a.tmps,params:=ps,assign,body,defers:=w.heap.size }:=⟨_,rfl⟩
 obtain ⟨V,hV⟩:∃ V,V=(w.alloc (.deferred (some []))).alloc (.loop (r .ready none)):=⟨_,rfl⟩
 have hL:LoopAt w (r .ready none) V:=by
  rw [hV]
  refine ⟨?_,(Below.heap_alloc _ _ _ (by simp)).trans (World.alloc_heap_new w _)⟩
  have:=World.alloc_heap_new (w.alloc (.deferred (some []))) (.loop (r .ready none))
  rwa [World.size_alloc] at this
 have hIV:I [] V:=by rw [hV];exact hI.alloc _ (hI.alloc _ h0)
 have hBV:Below w.heap.size w V:=by rw [hV];exact ((Below.refl _ w).alloc (Nat.le_refl _) _).alloc (by simp) _
 have hsV:V.heap.size=w.heap.size+2:=by rw [hV];simp
 refine ⟨w.heap.size+1,[{ target:=.collected w.heap.size,args:=#[] }],V,{ target:=.fn (.func gf) lb,args:=#[.func (.yield (w.heap.size+1)) #[] #[]] },V,gf,
  #[.func (.yield (w.heap.size+1)) #[] #[]]++lb,V,?_,?_,?_,?_,fun _=>h1,?_⟩
 ·rw [hV,hr];exact run_enterLoop_outer _ _ _ _ _
 ·simp only [resolve,hg]
  simp [go_sem]
 ·intro f' hf';simp [Target.leads] at hf';subst hf';exact hFg
 ·simp [invoke,go_sem,eg]
 refine (hseq (w.heap.size+1) (fun pre W=>I pre W∧LoopAt w (r .ready none) W) V hBV (fun s A B row h hg' hrow=>⟨hIa s A B row h.1 hg' (fun k e=>⟨by have:=(hrow k e).1;omega,(hrow k e).2⟩),?_⟩) ?_ ⟨hIV,hL⟩).mono ?_
 ·refine ⟨(hg'.block _ (Array.getElem?_eq_some_iff.1 h.2.1).1 (fun e=>by have:=(hrow _ e.symm).1;omega)).trans h.2.1,(hg'.block _ (Array.getElem?_eq_some_iff.1 h.2.2).1 (fun e=>by have:=(hrow _ e.symm).1;omega)).trans h.2.2⟩
 ·rintro pre x W ⟨hi,hl⟩ hpre
  have hlt:=(Array.getElem?_eq_some_iff.1 hl.1).1
  have hy:=run_yield (P:=P) (args:=#[enc x]) hl.1 (by rw [hr];simp [hps])
  rw [hr] at hy
  have hla:LoopAt w (r .ready none) (as1 x W):=⟨((has1 x W).block _ hlt).trans hl.1,((has1 x W).block _ (by omega)).trans hl.2⟩
  have hsz:=(has1 x W).size
  refine ⟨fn,_,assign,body,hy,roundIn_of_wpIn hfn (hassign _ x W _ ⟨_,run_beginRound hla.1 (by rw [hr]),?_⟩)⟩
  clear hy
  have hl2:LoopAt w { r .ready none with state:=.busy } ((as1 x W).putObj (w.heap.size+1) (.loop { r .ready none with state:=.busy })):=hla.turn _
  have hb2:Below w.heap.size (as1 x W) ((as1 x W).putObj (w.heap.size+1) (.loop { r .ready none with state:=.busy })):=belowK_b (w:=w) (Nat.le_refl _) (as1 x W) _ _ _ (by omega) hla.1 rfl rfl
  refine wpIn_mono (hbody _ pre x W _ (fun k h1 h2=>World.putObj_heap_other (by omega)) (hI.putObj _ (has2 pre x W hi) (by omega) hla.1 rfl) hpre (by omega) hb2.size) ?_
  rintro e a3 W3 hp
  cases e with
  | normal =>
    obtain ⟨hk,hi3,hkw⟩:=hp
    have hl3:=hl2.kept hk
    have he:=run_endRound (P:=P) none hl3.1
    rw [hr] at he
    refine ⟨_,_,he,rfl,⟨hI.putObj _ hi3 (by omega) hl3.1 rfl,?_⟩,?_⟩
    ·have:=hl3.turn (r .ready none)
     rw [hr] at this ⊢
     exact this
    ·exact (((has3 x W).trans (KeepsWalks.putObj _ hla.1 rfl)).trans hkw).trans (KeepsWalks.putObj _ hl3.1 rfl)
  | ret=>exact hp.elim
  | exit id=>exact hp.elim
  | goto t=>exact hp.elim
  | panic ch=>exact hp.elim
  | outgrown=>exact hp.elim
 ·rintro e W2 ⟨⟨v,rfl⟩,xs,hS,hi,hl⟩
  exact ⟨none,_,by have:=run_endLoop (P:=P) hl.1 (by rw [hr];simp);rw [hr] at this;exact this,hdone _ xs _ hS (Nat.le_refl _) (hI.putObj _ hi (by omega) hl.1 rfl) ((World.putObj_heap_other (by omega)).trans hl.2)⟩
end Go.Proofs.YtodmdkhdbfbfgabGreatDoor
namespace Go.Proofs.YtodmdkhdbfbfgabGreatDoor.S1
open Go.RowKit Pk Go.Shelf
set_option linter.unusedVariables false
set_option linter.unusedSimpArgs false
attribute [local go_sem] Oper.semAt_some
def encLb (x:Nat × Nat):Value:=.agg #[.int .i64 (x.1:Nat),.int .u32 (x.2:Nat)]
def okLb (x:Nat × Nat):Prop:=x.1≤1000000∧x.2≤4294967295
structure LbCame {H:Type} (D:DataW H) (left:Lit→Bool) (xs:List (Nat × Nat)):Prop where
 nd:xs.Nodup
 ok:∀ x∈xs,okLb x
 mem:∀ x,okLb x→(x∈xs↔Maps.has D (lk x.1 x.2)=true∧left (lk x.1 x.2)=false)
theorem keysL_gives {H:Type} {R:Value→Option (DataW H × List MemPlace)} (n:Nat) (hn:1≤n) (Bm b nn:Nat) (D0:DataW H) (w:World) (hBm:Bm<w.heap.size) (hm:w.cell? ⟨Bm,0,none⟩=some (.map (some b))) (hown:w.ownsMap Tryz.prog 74 R b nn D0) (hk:∀ kl,Maps.has D0 kl=true→∃ x,okLb x∧kl=lk x.1 x.2) :
 SeqGives Fence.wide n Tryz.prog 95 #[.pointer (some ⟨Bm,0,none⟩)] encLb (fun xs=>xs.Nodup∧(∀ x∈xs,okLb x)∧∀ x,okLb x→(x∈xs↔Maps.has D0 (lk x.1 x.2)=true)) (Maps.size D0) w:=by
 intro l J W hbW hJ hY h0
 have hmW:W.cell? ⟨Bm,0,none⟩=some (.map (some b)):=by rw [hbW.cell (p:=⟨Bm,0,none⟩) hBm];exact hm
 have hownW:W.ownsMap Tryz.prog 74 R b nn D0:=by
  have hl:=hown.lt
  obtain ⟨es,clock,h1,h2⟩:=hown
  exact ⟨es,clock,(hbW.block b hl).trans h1,h2⟩
 clear hm hown
 refine callsIn_of_wp Tryz.func95 rfl trivial ?_ rfl
 simp only [Tryz.ntmps95,List.size_toArray,List.length_cons,List.length_nil,Nat.reduceAdd,Nat.reduceSub,Array.replicate_succ,Array.replicate_zero,List.push_toArray,List.append_toArray,List.nil_append,List.cons_append]
 gi_wp2_with (first | (gi_at_range;refine wpListIn_range_own _ rfl _ 105 rfl 74 78 law90 Tryz.underlying105 _ b nn _ rfl hownW ?_;intro w0 hrg0 hg0 hs0) | gi_in)
 go_frame
 have hsz0:=hs0
 gi_loopw [3] (fun _ wr=>∃ (left:Lit→Bool) (cnt:Nat) (xs:List (Nat × Nat)),wr.ranges Tryz.prog 74 R b W.heap.size nn D0 left cnt∧LbCame D0 left xs∧xs.length+cnt≤Maps.size D0∧J xs wr∧W.heap.size<wr.heap.size)
  (fun _ wr=>wr.rangeLeft b W.heap.size)
 case atStart =>
  exact ⟨_,_,[],hrg0,⟨List.nodup_nil,fun x hx=>(by cases hx),fun x hx=>⟨fun h=>(by cases h),fun h=>(by rw [h.1] at h;cases h.2)⟩⟩,by simp,hJ [] W w0 none h0 hg0 (fun r e=>by cases e),by omega⟩
 case round =>
  obtain ⟨left,cnt,xs,hrg,hC,hlen,hJs,hsw⟩:=hrel
  gi_wp2_with (first | (gi_at_next;refine wpListIn_next_ranges _ rfl _ rfl 74 law90 R id id (fun key kl hk=>⟨key,rfl⟩) (fun v _ _=>⟨v,rfl⟩) b W.heap.size nn _ _ _ rfl hrg ?_ ?_) | gi_in)
  ·intro _ hl0
   gi_wp2
   go_end0
   exact ⟨⟨_,rfl⟩,xs,⟨hC.nd,hC.ok,fun x hx=>⟨fun h=>((hC.mem x hx).1 h).1,fun h=>(hC.mem x hx).2 ⟨h,hl0 _⟩⟩⟩,hJs⟩
  ·intro x cv kl yd yp w2 cnt2 hkey hlk hv hat hrg2 hlt hg2 hs2 hen
   have hhas:Maps.has D0 kl=true:=Maps.has_true_of_atKey hat
   obtain ⟨y,hy,rfl⟩:=hk kl hhas
   have hx:x=encLb y:=law90.inj (hkey.trans rfl) (key90 hy.1 hy.2)
   subst hx
   have hJ2:J xs w2:=hJ xs wr w2 (some W.heap.size) hJs hg2 (fun r e=>by cases e;exact ⟨Nat.le_refl _,hrg.iter_walk⟩)
   obtain ⟨W3,hW3⟩:∃ W3,W3=w2.alloc (.cells #[.int .i64 (y.1:Nat),.int .u32 (y.2:Nat)] 74):=⟨_,rfl⟩
   obtain ⟨kb,hkb⟩:∃ kb,kb=w2.heap.size:=⟨_,rfl⟩
   have hr3:W3.heap[kb]? = some (.cells #[.int .i64 (y.1:Nat),.int .u32 (y.2:Nat)] 74 (0,0)):=by rw [hW3,hkb];exact heap_alloc_new _ _
   have c0:W3.cell? ⟨kb,0,none⟩=some (.int .i64 (y.1:Nat)):=by rw [cell_of_row W3 kb 0 _ 74 (0,0) hr3];rfl
   have c1:W3.cell? ⟨kb,1,none⟩=some (.int .u32 (y.2:Nat)):=by rw [cell_of_row W3 kb 1 _ 74 (0,0) hr3];rfl
   have hJ3:J xs W3:=hJ xs w2 W3 none hJ2 (by rw [hW3];exact World.grownBy_alloc w2 _ none) (fun r e=>by cases e)
   have hrg3:W3.ranges Tryz.prog 74 R b W.heap.size nn D0 (fun z=>left z && !z.sameKey (lk y.1 y.2)) cnt2:=by rw [hW3];exact hrg2.alloc _
   obtain ⟨fn,tmps,assign,body,hyy,hR⟩:=hY xs y W3 hJ3 (by omega)
   have hsz3:W.heap.size<W3.heap.size:=by rw [hW3];simp;omega
   have HJ:Hid True:=hidI trivial
   have Hrg3:=hidI hrg3
   have Hrg:=hidI hrg
   have HW3:=hidI hW3
   have Hkb:=hidI hkb
   have HR:=hidI hR
   have Hlk:=hidI hlk
   have Hhas:=hidI hhas
   try simp only [id] at hen
   unfold encLb at hen hyy
   try simp only [id]
   unfold encLb
   clear hW3 hkb hr3 hat hv hkey hlk hg2 hs2 hrg2 hrg hrg3 hhas hJ2 hJs hR
   gi_wp2_with (first | (rw [←HW3.out,←Hkb.out]) | gi_in)
   refine HR.out.mono ?_
   rintro e W4 ⟨rfl,hJ4,hk4⟩
   have hrg4:=Hrg3.out.of_walks hk4
   have Hrg4:=hidI hrg4
   have Hsz4:Hid (W.heap.size<W4.heap.size):=hidI (Nat.lt_of_lt_of_le hsz3 hk4.size)
   have HJ4:=hidI hJ4
   clear hrg4 hJ4 hk4 HR hyy hen c0 c1
   gi_wp2
   go_roundw
   case rel =>
    have hlk:=Hlk.out
    refine ⟨_,cnt2,xs++[y],Hrg4.out,⟨?_,?_,?_⟩,by simp;omega,HJ4.out,Hsz4.out⟩
    ·rw [List.nodup_append]
     refine ⟨hC.nd,by simp,fun a ha c hc => ?_⟩
     simp at hc
     subst hc
     rintro rfl
     have:=((hC.mem _ hy).1 ha).2
     rw [hlk] at this
     cases this
    ·intro z hz
     rcases List.mem_append.1 hz with hz | hz
     ·exact hC.ok z hz
     ·simp at hz;subst hz;exact hy
    ·intro z hz
     by_cases e:z=y
     ·subst e
      have hs:Lit.sameKey (lk z.1 z.2) (lk z.1 z.2)=true:=by simp [Lit.sameKey,lk]
      refine ⟨fun _=>⟨Hhas.out,by rw [hs];simp⟩,fun _=>by simp⟩
     ·have hs:Lit.sameKey (lk z.1 z.2) (lk y.1 y.2)=false:=Maps.sameKey_ne (fun h=>e (by have:=lk_inj hz.1 hz.2 hy.1 hy.2 h;exact Prod.ext this.1 this.2))
      rw [hs]
      simp only [Bool.not_false,Bool.and_true]
      rw [←hC.mem z hz]
      simp [e]
   case measure=>rw [Hrg4.out.left_eq,Hrg.out.left_eq];exact hlt
end Go.Proofs.YtodmdkhdbfbfgabGreatDoor.S1
