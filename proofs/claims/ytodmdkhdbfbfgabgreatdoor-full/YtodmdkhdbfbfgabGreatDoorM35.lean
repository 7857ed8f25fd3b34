/- Lemmas and contracts for full. -/
import Derived.Maps.RangeWalk
import Derived.Deep.AppendLies
import Derived.Test.YtodmdkhdbfbfgabGreatDoorM29
import Derived.Test.YtodmdkhdbfbfgabGreatDoorM33
import Derived.Test.YtodmdkhdbfbfgabGreatDoorM12
import Derived.Test.YtodmdkhdbfbfgabGreatDoorM34
import Derived.Test.YtodmdkhdbfbfgabGreatDoorM00
set_option maxRecDepth 100000
set_option maxHeartbeats 8000000
namespace Go.Proofs.YtodmdkhdbfbfgabGreatDoor.S1
open Go.RowKit Pk Go.Shelf
open Go.Nt (Fp lookF hasL hasL_iff FpOk lookF_some scanF recF txtF inF endF)
set_option linter.unusedVariables false
set_option linter.unusedSimpArgs false
attribute [local go_sem] Oper.semAt_some
def rv (ps:List Fp) (b r ib:Nat):Value:=.agg #[.string (txt (txtF ps)),.int .i64 (b:Nat),.int .u32 (r:Nat),.map (some ib),.int .i64 (endF ps:Nat)]
def rcs (ps:List Fp) (b r ib:Nat):List Value:=[.string (txt (txtF ps)),.int .i64 (b:Nat),.int .u32 (r:Nat),.map (some ib),.int .i64 (endF ps:Nat)]
def RecsP (ps:List Fp) (b r:Nat) (w:World) (e:Ending) (w':World):Prop:=
 ∃ v ib n,e=.returned v∧w'.ownsRow w.heap.size 78 5 v 1 (rcs ps b r ib)∧w.heap.size≤ib∧n≤100000∧BlAt w' ib n (inF ps)∧Below w.heap.size w w'
def StR (w:World) (left:Lit→Bool) (z0 gm b r:Nat) (ps:List Fp):Prop:=
 (w.ownsMap Tryz.prog 74 anyOf gm 0 (.map [])∧left (lk b r)=true)∨∃ ib n,w.ownsMap Tryz.prog 74 anyOf gm 1 (.map [(lk b r,.held (rv ps b r ib))])∧left (lk b r)=false∧z0≤ib∧n≤100000∧BlAt w ib n (inF ps)
theorem Tryz.info94:(Tryz.prog.info? 78).map (fun i=>(i.zero,i.size,i.bytes))=some (some (.agg #[.string ⟨#[]⟩,.int .i64 0,.int .u32 0,.map none,.int .i64 0]),5,48):=by kernel_rfl
structure RcI (w:World) (z0 gm q7 b r ib n:Nat) (ps:List Fp) (pre:List (Nat × (Nat × Nat))) (W:World):Prop where
 box:∃ v,W.heap[q7]? = some (.cells #[v] 70 (0,0))∧(pre=[]→v=.slice none 0 0)∧(pre≠[]→W.ownsRow z0 78 5 v 1 (rcs ps b r ib))
 mp:W.ownsMap Tryz.prog 74 anyOf gm 1 (.map [(lk b r,.held (rv ps b r ib))])
 mb:W.heap[gm+1]? = some (.cells #[.map (some gm)] 105 (0,0))
 bl:BlAt W ib n (inF ps)
 be:Below z0 w W
theorem RcI.grown {w:World} {z0 gm q7 b r ib n:Nat} {ps:List Fp} {pre:List (Nat × (Nat × Nat))} {W W':World} {row:Option Nat} {B:Nat} (h:RcI w z0 gm q7 b r ib n ps pre W) (h1:z0≤B) (h2:gm+1<B) (h3:q7<B) (h4:ib<B) (h5:z0≤W.heap.size) (hg:W.grownBy W' row) (hr:∀ r,row=some r→B≤r∧∃ o:Obj,W.heap[r]? = some o∧o.isCells=false):RcI w z0 gm q7 b r ib n ps pre W':=by
 have low:∀ k,k<B→k<W.heap.size→W'.heap[k]? = W.heap[k]? := fun k hk hl=>hg.block k hl (fun e=>by have:=(hr k e.symm).1;omega)
 obtain ⟨⟨v,hv1,hv2,hv3⟩,hmp,hmb,hbl,hbe⟩:=h
 refine ⟨⟨v,(low q7 h3 (lt_of_heap hv1)).trans hv1,hv2,fun hp => ?_⟩,owns_block hmp (low gm (by omega) hmp.lt),(low _ h2 (lt_of_heap hmb)).trans hmb,hbl.of_block (low ib h4 hbl.lt),hbe.grown hg h5 (fun k e=>by have:=(hr k e).1;omega)⟩
 have h2:=hv3 hp
 refine ⟨h2.1,?_⟩
 rcases h2.2 with h5 | ⟨g,cap,cur,e,h5,h6,h7⟩
 ·exact .inl h5
 ·exact .inr ⟨g,cap,cur,e,h5,(hg.block g (lt_of_heap h6) (fun e'=>by
   obtain ⟨_,o,ho,hc⟩:=hr g e'.symm
   rw [h6] at ho
   cases ho
   cases hc)).trans h6,h7⟩
theorem stepIn_append {F:Fence} {n:Nat} {P:Program} {ops:Array Oper} {o:Oper} {a:Act} {w:World} {K:Act→World→Prop} {Q:Exit→Act→World→Prop} {E:Prop} (hgd:o.guard=none) (s x:Operand) (t:TypeId)
 (ho:o.op=.call { callee:=.builtin .append,args:=#[s,x],argTypes:=#[t,t] }) (vs vx:Value) (hs:a.eval s=vs) (hx:a.eval x=vx)
 (v':Value) (w':World) (hr:(Builtin.append_ #[t,t] o.type #[vs,vx]).run P w=.ok v' w') (h:K (a.put o.dst v') w') :
 if Region.wanted o (yielded ops a.tmps)=true then Oper.wpIn F n P o a w K Q else E:=by
 have hw:Region.wanted o (yielded ops a.tmps)=true:=by simp [Region.wanted,hgd]
 rw [if_pos hw]
 unfold Oper.wpIn
 refine ⟨by simp [Oper.about,ho,resolve,Target.leads,Sem.run_pure],?_⟩
 rw [Oper.semAt_plain F _ _ (by rw [ho];intro c hc';cases hc')]
 simp [execOp,ho,resolve,invoke,builtin,hs,hx,hr,Result.andThen]
 exact h
theorem records1 (w:World) (lo hi cb:Nat) (L:Loc) (m:M) (hw:WF m) (h:CP w lo hi cb L m) (hsz:hi≤w.heap.size) (hlf:m.life≠0) (l:List Fp) (hl:scanF (pgs m) m.np m.nb=l) (b r:Nat) (hb:b≤1000000) (hr:r≤4294967295) (hone:∀ x y,hasL l x y=(x==b&&y==r)) (ps:List Fp) (hps:recF l b r=some ps) (hok:∀ f∈l,FpOk f∧f.blk<1000) :
 CallsIn Fence.wide 20 Tryz.prog 34 #[.pointer (some ⟨cb,0,none⟩)] w fun e w'=>RecsP ps b r w e w':=by
 obtain ⟨i0,hi0,hz0,hz1,hz2⟩:=info_parts Tryz.info94
 have hcount:m.nb*m.np≤100000:=by
  have h1:=hw.nb2
  have h2:=hw.np2
  calc m.nb*m.np≤32*16:=Nat.mul_le_mul (by omega) (by omega)
   _≤100000:=by omega
 have A:=hidI (find_any w lo hi cb L m hw h hsz hlf)
 obtain ⟨z0,hz⟩:∃ z0,z0=w.heap.size:=⟨_,rfl⟩
 have Hz:=hidI hz
 have Hl:=hidI hl
 have Hh:=hidI h
 have Hone:=hidI hone
 have Hps:=hidI hps
 have Hok:=hidI hok
 unfold RecsP
 rw [←hz]
 clear hl hz h hone hps hok
 refine callsIn_of_wp_marks Tryz.func34 rfl trivial ?_ rfl
 simp only [Tryz.ntmps34,List.size_toArray,List.length_cons,List.length_nil,Nat.reduceAdd,Nat.reduceSub,Array.replicate_succ,Array.replicate_zero,List.push_toArray,List.append_toArray,List.nil_append,List.cons_append]
 gi_wp2_with fail
 refine ⟨trivial,(callsIn_wide.2 A.out).mono ?_⟩
 rintro e w1 ⟨rfl,hF1,hb1⟩
 rw [←Hz.out] at hF1 hb1 ⊢
 rw [Hl.out] at hF1
 have HF1:=hidI hF1
 have Hb1:=hidI hb1
 obtain ⟨gm,hgm⟩:∃ gm,gm=w1.heap.size:=⟨_,rfl⟩
 have hgz:z0<gm:=by rw [hgm];exact hF1.lt
 obtain ⟨W2,hW2⟩:∃ W2,W2=w1.alloc (.map #[] 0):=⟨_,rfl⟩
 obtain ⟨W3,hW3⟩:∃ W3,W3=W2.alloc (.cells #[.map (some gm)] 105):=⟨_,rfl⟩
 have s2:W2.heap.size=gm+1:=by rw [hW2,hgm];simp
 have s3:W3.heap.size=gm+2:=by rw [hW3];simp [s2]
 have hmk:=make137 w1
 rw [←hW2,←hgm] at hmk
 have o2:W2.ownsMap Tryz.prog 74 anyOf gm 0 (.map []):=by rw [hW2,hgm];exact World.ownsMap_made w1 _ _ _
 have b3:Below gm w1 W3:=by rw [hW3,hW2,hgm];exact ((Below.refl _ w1).alloc (Nat.le_refl _) _).alloc (by simp) _
 have o3:W3.ownsMap Tryz.prog 74 anyOf gm 0 (.map []):=owns_block o2 (by rw [hW3];exact Below.heap_alloc _ _ _ (by omega))
 have hr3:W3.heap[gm+1]? = some (.cells #[.map (some gm)] 105 (0,0)):=by rw [hW3,←s2];exact heap_alloc_new _ _
 have hF3:FAt W3 z0 (m.nb*m.np) (lookF l):=hF1.of_block (b3.block z0 hgz)
 have B:=hidI (labels_any W3 z0 (m.nb*m.np) l hF3 hcount (fun f hf=>(Hok.out f hf).1))
 have HW2:=hidI hW2
 have HW3:=hidI hW3
 have Hgm:=hidI hgm
 have Hs2:=hidI s2
 have Hs3:=hidI s3
 have Ho3:=hidI o3
 have Hr3:=hidI hr3
 have HF3:=hidI hF3
 have Hb3:=hidI (hb1.trans (b3.mono (Nat.le_of_lt hgz)))
 clear hF1 hb1 hgm hW2 hW3 s2 s3 o2 o3 b3 hr3 hF3 A HF1
 gi_wp2_with (first | (rw [←HW3.out,Hs2.out]) | fail)
 refine ⟨trivial,(callsIn_wide.2 B.out).mono ?_⟩
 rintro e w4 ⟨rfl,hL4,hb4⟩
 rw [Hs3.out] at hL4 hb4 ⊢
 obtain ⟨D,ho4,hh4,hk4⟩:=hL4
 have hD1:Maps.has D (lk b r)=true:=by rw [hh4 b r hb hr,Hone.out];simp
 have hDk:∀ kl,Maps.has D kl=true→kl=lk b r:=fun kl hk=>by
  obtain ⟨x,y,h1,h2,rfl⟩:=hk4 kl hk
  rw [hh4 x y h1 h2,Hone.out] at hk
  simp at hk
  rw [hk.1,hk.2]
 have HDk:=hidI hDk
 have hgl4:=ho4.lt
 have Ho4:=hidI (owns_block (w':=w4) Ho3.out (hb4.block gm (by omega)))
 have Hr4:=hidI ((hb4.block (gm+1) (by omega)).trans Hr3.out)
 have HF4:=hidI (HF3.out.of_block (hb4.block z0 (by omega)))
 have Hb4:=hidI (Hb3.out.trans (hb4.mono (by omega)))
 clear hh4 hk4 hb4 hDk B
 gi_wp2_with (first | (gi_at_range;refine wpListIn_range_own _ rfl _ 107 rfl 74 183 law90 Tryz.underlying107 _ (gm+2) _ D rfl ho4 ?_;intro w5 hrg0 hg0 hs0') | gi_in)
 go_frame
 obtain ⟨rr,hrr⟩:∃ rr,rr=w4.heap.size:=⟨_,rfl⟩
 have Ho5:=hidI (owns_block (w':=w5) Ho4.out (hg0.block gm (by omega) (fun e=>by cases e)))
 have Hr5:=hidI ((hg0.block (gm+1) (by omega) (fun e=>by cases e)).trans Hr4.out)
 have HF5:=hidI (HF4.out.of_block (hg0.block z0 (by omega) (fun e=>by cases e)))
 have Hb5:=hidI (Hb4.out.grown hg0 (by omega) (fun k e=>by cases e))
 rw [←hrr] at hrg0 hs0' hgl4 ⊢
 have Hrg0:=hidI hrg0
 have HD1:=hidI hD1
 clear hrg0 hrr hg0 ho4 Ho4 Hr4 HF4 Hb4 hD1 hmk HW2 HW3 Ho3 Hr3 HF3 Hb3 Hb1
 gi_loopw [17] (fun _ wx=>∃ (left:Lit→Bool) (cnt:Nat),wx.ranges Tryz.prog 74 unitElem (gm+2) rr 100000 D left cnt∧Hid (StR wx left z0 gm b r ps)∧Hid (FAt wx z0 (m.nb*m.np) (lookF l))∧Hid (wx.heap[gm+1]? = some (.cells #[.map (some gm)] 105 (0,0)))∧Hid (Below z0 w wx)∧rr<wx.heap.size)
  (fun _ wx=>wx.rangeLeft (gm+2) rr)
 case atStart=>exact ⟨_,_,Hrg0.out,hidI (.inl ⟨Ho5.out,HD1.out⟩),HF5,Hr5,Hb5,by omega⟩
 case round =>
  clear Hrg0 Ho5 Hr5 HF5 Hb5
  obtain ⟨left,cnt,hrg,HS,HF,HR,HB,hrx⟩:=hrel
  gi_wp2_with (first | (gi_at_next;refine wpListIn_next_ranges _ rfl _ rfl 74 law90 unitElem id id (fun key kl hk=>⟨key,rfl⟩) (fun v _ _=>⟨v,rfl⟩) (gm+2) rr 100000 _ _ _ rfl hrg ?_ ?_) | gi_in)
  ·intro _ hl0
   obtain ⟨ib,n7,homap,_,hzib,hn7,hBl7⟩:∃ ib n,wr.ownsMap Tryz.prog 74 anyOf gm 1 (.map [(lk b r,.held (rv ps b r ib))])∧left (lk b r)=false∧z0≤ib∧n≤100000∧BlAt wr ib n (inF ps):=by
    rcases HS.out with ⟨_,h2⟩ | h2
    ·rw [hl0] at h2;cases h2
    ·exact h2
   obtain ⟨W7,hW7⟩:∃ W7,W7=wr.alloc (.cells #[.slice none 0 0] 70):=⟨_,rfl⟩
   obtain ⟨q7,hq7⟩:∃ q7,q7=wr.heap.size:=⟨_,rfl⟩
   have s7:W7.heap.size=q7+1:=by rw [hW7,hq7];simp
   have up7:∀ k,k<q7→W7.heap[k]? = wr.heap[k]? := fun k hk=>by rw [hW7];exact Below.heap_alloc _ _ _ (by omega)
   have hr7:W7.heap[q7]? = some (.cells #[.slice none 0 0] 70 (0,0)):=by rw [hW7,hq7];exact heap_alloc_new _ _
   have hib7:ib<q7:=by have:=hBl7.lt;omega
   have hmp7:W7.ownsMap Tryz.prog 74 anyOf gm 1 (.map [(lk b r,.held (rv ps b r ib))]):=owns_block homap (up7 gm (by omega))
   have hmb7:W7.heap[gm+1]? = some (.cells #[.map (some gm)] 105 (0,0)):=(up7 _ (by omega)).trans HR.out
   have k7:W7.cell? ⟨gm+1,0,none⟩=some (.map (some gm)):=by rw [cell_of_row W7 (gm+1) 0 _ 105 (0,0) hmb7];rfl
   have hI7:RcI w z0 gm q7 b r ib n7 ps [] W7:=⟨⟨_,hr7,fun _=>rfl,fun h=>absurd rfl h⟩,hmp7,hmb7,hBl7.of_block (up7 ib hib7),by rw [hW7];exact HB.out.alloc (by omega) _⟩
   have HI7:=hidI hI7
   have hrq:rr<q7:=by omega
   have HW7:=hidI hW7
   have Hq7:=hidI hq7
   have Hs7:=hidI s7
   clear hrg HS HF HR HB hW7 hq7 up7 hr7 hmp7 hmb7 hI7 homap hBl7 s7 hl0
   gi_wp2_with (first | (rw [←HW7.out,←Hq7.out]) | fail)
   refine ⟨trivial,(callsIn_wide.2 (keysL_any (some gm) W7)).mono ?_⟩
   rintro e w8 ⟨rfl,hw8⟩
   rw [Hs7.out]
   have s8:w8.heap.size=q7+2:=by rw [hw8];simp [Hs7.out]
   have b8:Below (q7+1) W7 w8:=by rw [hw8];exact (Below.refl _ _).alloc (by rw [Hs7.out];omega) _
   have c8:w8.cell? ⟨q7+1,0,none⟩=some (.map (some gm)):=by rw [hw8,←Hs7.out];simp
   have hseq8:=keysL_gives 17 (by omega) (q7+1) gm 1 _ w8 (by omega) c8 (owns_block (w':=w8) HI7.out.mp (b8.block gm (by omega))) (fun kl hk=>⟨(b,r),⟨hb,hr⟩,by
    by_cases e:lk b r=kl
    ·exact e.symm
    ·simp [Maps.has,Maps.sameKey_ne e] at hk⟩)
   have C8:=hidI (collectL_in 19 (by omega) 95 _ (enters_of Tryz.func95 (by kernel_rfl) rfl) _ _ (by simp [Maps.size]) w8 hseq8)
   have Hb8:=hidI b8
   have Hs8:=hidI s8
   clear hseq8 b8 s8 c8 hw8 k7
   gi_wp2_with fail
   refine ⟨trivial,C8.out.mono ?_⟩
   rintro e w9 ⟨v9,xs,rfl,⟨hnd,hoks,hmem⟩,hrow9,hnil9,hb9⟩
   have hxs:xs=[(b,r)]:=by
    have hin:(b,r)∈xs:=(hmem (b,r) ⟨hb,hr⟩).2 (by simp [Maps.has,Lit.sameKey,lk])
    have hall:∀ x∈xs,x=(b,r):=fun x hx=>by
     have:=(hmem x (hoks x hx)).1 hx
     by_cases e:lk b r=lk x.1 x.2
     ·have:=lk_inj hb hr (hoks x hx).1 (hoks x hx).2 e
      exact Prod.ext this.1.symm this.2.symm
     ·simp [Maps.has,Maps.sameKey_ne e] at this
    cases xs with
    | nil=>cases hin
    | cons a xs =>
      have ha:=hall a (by simp)
      subst ha
      cases xs with
      | nil=>rfl
      | cons a' xs =>
        have ha':=hall a' (by simp)
        subst ha'
        simp at hnd
   subst hxs
   rcases hrow9.2 with ⟨_,h0⟩ | ⟨g9,cap9,cur9,rfl,q1,q2,q3,q4,q5,q6⟩
   ·simp at h0
   have e9:cur9[0]? = some (.int .i64 (b:Nat))∧cur9[1]? = some (.int .u32 (r:Nat)):=by
    rcases hc:cur9.toList with _ | ⟨a1,_ | ⟨a2,l2⟩⟩
    ·rw [hc] at q6;simp [lbs] at q6
    ·rw [hc] at q6;simp [lbs] at q6
    ·rw [hc] at q6
     simp [lbs] at q6
     rw [←Array.getElem?_toList,←Array.getElem?_toList,hc]
     simp [q6.1,q6.2]
   have C9:=hidI (inTurn1 w9 g9 cap9 b r cur9 q2 e9.1 e9.2 hb hr)
   have hb79:Below (q7+1) W7 w9:=Hb8.out.trans (hb9.mono (by rw [Hs8.out];omega))
   have s9:q7+2≤w9.heap.size:=by have:=hb9.size;rw [Hs8.out] at this;exact this
   have Hb9:=hidI hb79
   clear hnd hoks hmem hrow9 hnil9 hb9 q1 q2 q3 q4 q5 q6 e9 hb79 C8 Hb8
   simp only [List.length_cons,List.length_nil,Nat.zero_add]
   gi_wp2_with fail
   refine ⟨trivial,(callsIn_wide.2 C9.out).mono ?_⟩
   rintro e w10 ⟨v10,rfl,hrow10,hb10⟩
   rcases hrow10.2 with ⟨_,h0⟩ | ⟨g10,cap10,cur10,rfl,q1,q2,q3,q4,q5,q6⟩
   ·omega
   have e10:cur10[0]? = some (.int .i64 (b:Nat))∧cur10[1]? = some (.int .u32 (r:Nat)):=by
    rcases hc:cur10.toList with _ | ⟨a1,_ | ⟨a2,l2⟩⟩
    ·rw [hc] at q6;simp [lbs] at q6
    ·rw [hc] at q6;simp [lbs] at q6
    ·rw [hc] at q6
     simp [lbs] at q6
     rw [←Array.getElem?_toList,←Array.getElem?_toList,hc]
     simp [q6.1,q6.2]
   have hb7a:Below (q7+1) W7 w10:=Hb9.out.trans (hb10.mono (by omega))
   have s10:q7+2≤w10.heap.size:=by have:=hb10.size;omega
   have hgl10:=lt_of_heap q2
   have k0:w10.cell? ⟨g10,0,none⟩=some (.int .i64 (b:Nat)):=by rw [cell_of_row w10 g10 0 _ 74 (0,0) q2];exact e10.1
   have k1:w10.cell? ⟨g10,1,none⟩=some (.int .u32 (r:Nat)):=by rw [cell_of_row w10 g10 1 _ 74 (0,0) q2];exact e10.2
   have Hb10:=hidI hb7a
   clear hrow10 hb10 q1 q2 q3 q4 q5 q6 e10 hb7a C9 Hb9 s9
   gi_wp2_with fail
   refine ⟨trivial,(callsIn_wide.2 (backward_any (some ⟨g10,0,none⟩) 1 cap10 w10)).mono ?_⟩
   rintro e w11 ⟨rfl,hw11⟩
   have s11:w11.heap.size=w10.heap.size+1:=by rw [hw11];simp
   have b11:Below w10.heap.size w10 w11:=by rw [hw11];exact (Below.refl _ _).alloc (Nat.le_refl _) _
   have c11:w11.cell? ⟨w10.heap.size,0,none⟩=some (.slice (some ⟨g10,0,none⟩) 1 cap10):=by rw [hw11];simp
   have k0':w11.cell? ⟨g10,0,none⟩=some (.int .i64 (b:Nat)):=by rw [b11.cell (p:=⟨g10,0,none⟩) hgl10];exact k0
   have k1':w11.cell? ⟨g10,1,none⟩=some (.int .u32 (r:Nat)):=by rw [b11.cell (p:=⟨g10,1,none⟩) hgl10];exact k1
   have hseq:=backward1_row 19 (by omega) w11 w10.heap.size g10 cap10 b r w11.heap.size (fun _=>False) (by omega) (by omega) c11 k0' k1'
   have hb711:Below (q7+1) W7 w11:=Hb10.out.trans (b11.mono (by omega))
   have hI11:RcI w z0 gm q7 b r ib n7 ps [] w11:=by
    have h7:=HI7.out
    obtain ⟨⟨v,hv1,hv2,hv3⟩,hmp,hmb,hbl,hbe⟩:=h7
    exact ⟨⟨v,(hb711.block q7 (by omega)).trans hv1,hv2,fun h=>absurd rfl h⟩,owns_block hmp (hb711.block gm (by omega)),(hb711.block _ (by omega)).trans hmb,hbl.of_block (hb711.block ib (by omega)),hbe.trans (hb711.mono (by omega))⟩
   clear hw11 b11 c11 k0 k1 k0' k1' HI7 Hb10 hb711
   gi_wp2_with fail
   refine wpIn_rangeRow rfl (by omega) (gf:=90) (lb:=#[.pointer (some ⟨w10.heap.size,0,none⟩)]) rfl trivial (enters_of Tryz.func90 (by kernel_rfl) rfl) hseq (Nat.le_refl _) (fun _ h=>h.elim) (fun _=>rfl) (RcI w z0 gm q7 b r ib n7 ps)
    (fun s A C row hs hg hr=>hs.grown (B:=w11.heap.size) (by omega) (by omega) (by omega) (by omega) (by have:=hs.mp.lt;omega) hg hr) hI11
    (fun x W=>{ tmps:=#[.pointer (some ⟨cb,0,none⟩),undef,.slice none 0 0,.map (some z0),.pointer (some ⟨gm+1,0,none⟩),u5,u6,u7,.pointer (some ⟨q7,0,none⟩),undef,.pointer (some ⟨W.heap.size,0,none⟩),.pointer (some ⟨cb,0,none⟩),.map (some z0),.map (some gm),.map (some z0),.map (some (gm+2)),.pointer (some ⟨rr,0,none⟩),.tuple #[.bool false],.bool false,u19,u20,u21,u22,u23,u24,u25,u26,u27,u28,u29,u30,.map (some gm),.func (.func 95) #[] #[.pointer (some ⟨q7+1,0,none⟩)],.slice (some ⟨g9,0,none⟩) 1 cap9,.slice (some ⟨g10,0,none⟩) 1 cap10,.func (.func 90) #[] #[.pointer (some ⟨w10.heap.size,0,none⟩)],.int .i64 (x.1:Nat),.agg #[.int .i64 (x.2.1:Nat),.int .u32 (x.2.2:Nat)],undef,undef,undef,undef,undef,undef,undef],defers:=[] }) (fun x W=>W.alloc (.cells #[.int .i64 (x.2.1:Nat),.int .u32 (x.2.2:Nat)] 74)) (fun x W=>(Below.refl _ W).alloc (Nat.le_refl _) _) ?has2 ?assign ?body ?done
   case has2=>exact fun pre x W hs=>hs.grown (B:=w11.heap.size) (by omega) (by omega) (by omega) (by omega) (by have:=hs.mp.lt;omega) (World.grownBy_alloc W _ none) (fun r e=>by cases e)
   case assign =>
    intro l x W K hK
    unfold encIL
    gi_wp2
    exact hK
   case body =>
    intro l pre x W V hV hI hpre hWs hVs
    obtain ⟨rfl,rfl⟩:pre=[]∧x=(0,(b,r)):=by
     cases pre with
     | nil=>exact ⟨rfl,by simpa using hpre⟩
     | cons a l=>have:=hpre.length_le;simp at this
    obtain ⟨⟨v,hv1,hv2,_⟩,hmp,hmb,hbl,hbe⟩:=hI
    have hvn:=hv2 rfl
    subst hvn
    have hqV:q7<V.heap.size:=lt_of_heap hv1
    have hgV:gm+1<V.heap.size:=lt_of_heap hmb
    dsimp only at hV hVs ⊢
    obtain ⟨kb,hkb⟩:∃ kb,kb=W.heap.size:=⟨_,rfl⟩
    have hx0:V.heap[kb]? = some (.cells #[.int .i64 (b:Nat),.int .u32 (r:Nat)] 74 (0,0)):=by
     rw [hkb,hV _ (Nat.le_refl _) (by simp)]
     exact heap_alloc_new _ _
    rw [←hkb]
    obtain ⟨X,hX⟩:∃ X,X=txt (txtF ps):=⟨_,rfl⟩
    obtain ⟨E,hE⟩:∃ E,E=endF ps:=⟨_,rfl⟩
    have a8:V.drew.cell? ⟨q7,0,none⟩=some (.slice none 0 0):=by rw [cell_of_row V.drew q7 0 _ 70 (0,0) hv1];rfl
    have a4:V.drew.cell? ⟨gm+1,0,none⟩=some (.map (some gm)):=by rw [cell_of_row V.drew (gm+1) 0 _ 105 (0,0) hmb];rfl
    have ab:V.drew.cell? ⟨kb,0,none⟩=some (.int .i64 (b:Nat)):=by rw [cell_of_row V.drew kb 0 _ 74 (0,0) hx0];rfl
    have ar:V.drew.cell? ⟨kb,1,none⟩=some (.int .u32 (r:Nat)):=by rw [cell_of_row V.drew kb 1 _ 74 (0,0) hx0];rfl
    have alk:(Instr.lookup 105 (.map (some gm)) (.agg #[.int .i64 (b:Nat),.int .u32 (r:Nat)]) false).run Tryz.prog V.drew=.ok (.agg #[.string X,.int .i64 (b:Nat),.int .u32 (r:Nat),.map (some ib),.int .i64 (E:Nat)]) V.drew:=by
     rw [hX,hE];exact look137 (owns_block (w':=V.drew) hmp rfl) hb hr
    obtain ⟨V2,hV2⟩:∃ V2,V2=(V.alloc (.cells #[.string X,.int .i64 (b:Nat),.int .u32 (r:Nat),.map (some ib),.int .i64 (E:Nat)] 78)).drew:=⟨_,rfl⟩
    have s2':V2.heap.size=V.heap.size+1:=by rw [hV2];show (V.alloc _).heap.size=_;simp
    have up2:∀ k,k<V.heap.size→V2.heap[k]? = V.heap[k]? := fun k hk=>by rw [hV2];exact Below.heap_alloc V _ k hk
    have hr2:V2.heap[V.heap.size]? = some (.cells #[.string X,.int .i64 (b:Nat),.int .u32 (r:Nat),.map (some ib),.int .i64 (E:Nat)] 78 (0,0)):=by rw [hV2];exact heap_alloc_new _ _
    have a8':V2.cell? ⟨q7,0,none⟩=some (.slice none 0 0):=by rw [cell_of_row V2 q7 0 _ 70 (0,0) ((up2 q7 (by omega)).trans hv1)];rfl
    obtain ⟨v3,w3,hap,hown3,hg3,hnil3,hat3⟩:=run_append_own_at (P:=Tryz.prog) V2 z0 70 70 78 i0 _ 5 48 Tryz.underlying70 hi0 hz0 hz1 hz2 rfl (by decide) (.slice none 0 0) 0 [] (World.ownsRow_nil _ _ _ _) ⟨V.heap.size,0,none⟩ 1 1 [.string X,.int .i64 (b:Nat),.int .u32 (r:Nat),.map (some ib),.int .i64 (E:Nat)] rfl (World.news_of_block (cs:=#[.string X,.int .i64 (b:Nat),.int .u32 (r:Nat),.map (some ib),.int .i64 (E:Nat)]) hr2) (by simp [Value.oneCell']) (by simp [maxLen]) (by omega) (by omega)
    replace hg3:V2.grownBy w3 none:=hg3
    have hv3:w3.heap[q7]? = some (.cells #[.slice none 0 0] 70 (0,0)):=(hg3.block q7 (by omega) (fun e=>by cases e)).trans ((up2 q7 (by omega)).trans hv1)
    obtain ⟨a8'',f8⟩:=cell_of_box_a hv3
    rcases hown3.2 with ⟨_,h0⟩ | ⟨g3,cap3,cur3,rfl,q1,q2,q3,q4,q5,q6⟩
    ·omega
    obtain ⟨w4,hw4⟩:∃ w4,w4=w3.setCell ⟨q7,0,none⟩ (.slice (some ⟨g3,0,none⟩) (0+1) cap3):=⟨_,rfl⟩
    have hg4:w3.grownBy w4 (some q7):=by rw [hw4];exact grownBy_setCell0_a _ _ _
    have s3':V2.heap.size≤w3.heap.size:=hg3.size
    have up4:∀ k,k≠q7→k<V.heap.size→w4.heap[k]? = V.heap[k]? := fun k hk hl=>(hg4.block k (by omega) (fun e=>by cases e;exact hk rfl)).trans ((hg3.block k (by omega) (fun e=>by cases e)).trans (up2 k hl))
    have hfin:∀ a,rowPost w11.heap.size (fun _=>False) (RcI w z0 gm q7 b r ib n7 ps) ([]++[(0,(b,r))]) V .normal a w4:=fun a=>by
     refine ⟨?_,fun k h=>h.elim,⟨⟨_,by rw [hw4];exact heap_setCell_box_a _ hv3,fun h=>by simp at h,fun _ => ?_⟩,owns_block hmp (up4 gm (by omega) (by omega)),(up4 _ (by omega) (by omega)).trans hmb,hbl.of_block (up4 ib (by omega) hbl.lt),?_⟩⟩
     ·refine KeepsFrom.trans (?_:KeepsFrom _ V V2) (KeepsFrom.trans (?_:KeepsFrom _ V2 w3) (KeepsFrom.of_grownBy hg4 (fun j e=>by cases e;omega)))
      ·exact ⟨by omega,fun k o _ hk _=>(up2 k (lt_of_heap hk)).trans hk⟩
      ·exact ⟨hg3.size,fun k o _ hk _=>(hg3.block k (lt_of_heap hk) (fun e=>by cases e)).trans hk⟩
     ·have:=hown3.kept hg4 (ownsRow_ne_a hown3 hv3 (fun cur e=>by cases e))
      unfold rcs
      rw [←hX,←hE]
      simpa using this
     ·have hb2:Below z0 w V2:=by rw [hV2];exact (hbe.alloc (by omega) _).drew
      exact (hb2.grown hg3 (by omega) (fun k e=>by cases e)).grown hg4 (by omega) (fun k e=>by cases e;omega)
    simp only [Nat.zero_add] at hap hw4
    have HV2:=hidI hV2
    have HW4:=hidI hw4
    clear hV hkb hx0 hv1 hv2 hmp hmb hbl hbe hX hE up2 hr2 hown3 hg3 hnil3 hat3 hv3 q1 q2 q3 q4 q5 q6 hg4 s3' up4 hgV s2' hV2 hw4 hqV
    gi_wp2_with fail
    refine wpIn_region_any (by kernel_rfl) ?_
    refine wpAnyIn_ready (rs:=[0,1,2]) (by kernel_rfl) (by simp) ?_
    refine AllReadyIn.cons rfl (fun K hK => ?_) (AllReadyIn.cons rfl (fun K hK => ?_) (AllReadyIn.cons rfl (fun K hK => ?_) (AllReadyIn.nil)))
    ·go_simp
     refine hK _ _ ?_
     clear hK K
     refine wpAnyIn_ready (rs:=[1,2]) (by kernel_rfl) (by simp) ?_
     refine AllReadyIn.cons rfl (fun K hK => ?_) (AllReadyIn.cons rfl (fun K hK => ?_) (AllReadyIn.nil))
     ·go_simp
      refine hK _ _ ?_
      clear hK K
      refine rdI 2 (by kernel_rfl) rfl (fun K hK => ?_)
      ·go_simp
       refine hK _ _ ?_
       clear hK K
       refine rdI 3 (by kernel_rfl) rfl (fun K hK => ?_)
       ·go_simp
        refine hK _ _ ?_
        clear hK K
        refine rdI 4 (by kernel_rfl) rfl (fun K hK => ?_)
        ·go_simp
         refine hK _ _ ?_
         rw [←HV2.out]
         clear hK K
         refine rdI 5 (by kernel_rfl) rfl (fun K hK => ?_)
         ·refine stepIn_append rfl _ _ 70 rfl (.slice none 0 0) (.slice (some ⟨V.heap.size,0,none⟩) 1 1) rfl rfl _ _ hap (hK _ _ ?_)
          simp only [Act.put,List.setIfInBounds_toArray,List.set]
          clear hK K
          refine rdI 6 (by kernel_rfl) rfl (fun K hK => ?_)
          ·go_simp
           refine hK _ _ ?_
           rw [←HW4.out]
           clear hK K
           refine wpAnyIn_done (by kernel_rfl) ?_ _
           exact hfin { tmps:=#[],defers:=[] }
     ·go_simp
      refine hK _ _ ?_
      clear hK K
      refine rdI 1 (by kernel_rfl) rfl (fun K hK => ?_)
      ·go_simp
       refine hK _ _ ?_
       clear hK K
       refine rdI 3 (by kernel_rfl) rfl (fun K hK => ?_)
       ·go_simp
        refine hK _ _ ?_
        clear hK K
        refine rdI 4 (by kernel_rfl) rfl (fun K hK => ?_)
        ·go_simp
         refine hK _ _ ?_
         rw [←HV2.out]
         clear hK K
         refine rdI 5 (by kernel_rfl) rfl (fun K hK => ?_)
         ·refine stepIn_append rfl _ _ 70 rfl (.slice none 0 0) (.slice (some ⟨V.heap.size,0,none⟩) 1 1) rfl rfl _ _ hap (hK _ _ ?_)
          simp only [Act.put,List.setIfInBounds_toArray,List.set]
          clear hK K
          refine rdI 6 (by kernel_rfl) rfl (fun K hK => ?_)
          ·go_simp
           refine hK _ _ ?_
           rw [←HW4.out]
           clear hK K
           refine wpAnyIn_done (by kernel_rfl) ?_ _
           exact hfin { tmps:=#[],defers:=[] }
    ·go_simp
     refine hK _ _ ?_
     clear hK K
     refine wpAnyIn_ready (rs:=[0,2]) (by kernel_rfl) (by simp) ?_
     refine AllReadyIn.cons rfl (fun K hK => ?_) (AllReadyIn.cons rfl (fun K hK => ?_) (AllReadyIn.nil))
     ·go_simp
      refine hK _ _ ?_
      clear hK K
      refine rdI 2 (by kernel_rfl) rfl (fun K hK => ?_)
      ·go_simp
       refine hK _ _ ?_
       clear hK K
       refine rdI 3 (by kernel_rfl) rfl (fun K hK => ?_)
       ·go_simp
        refine hK _ _ ?_
        clear hK K
        refine rdI 4 (by kernel_rfl) rfl (fun K hK => ?_)
        ·go_simp
         refine hK _ _ ?_
         rw [←HV2.out]
         clear hK K
         refine rdI 5 (by kernel_rfl) rfl (fun K hK => ?_)
         ·refine stepIn_append rfl _ _ 70 rfl (.slice none 0 0) (.slice (some ⟨V.heap.size,0,none⟩) 1 1) rfl rfl _ _ hap (hK _ _ ?_)
          simp only [Act.put,List.setIfInBounds_toArray,List.set]
          clear hK K
          refine rdI 6 (by kernel_rfl) rfl (fun K hK => ?_)
          ·go_simp
           refine hK _ _ ?_
           rw [←HW4.out]
           clear hK K
           refine wpAnyIn_done (by kernel_rfl) ?_ _
           exact hfin { tmps:=#[],defers:=[] }
     ·go_simp
      refine hK _ _ ?_
      clear hK K
      refine wpAnyIn_ready (rs:=[0,3]) (by kernel_rfl) (by simp) ?_
      refine AllReadyIn.cons rfl (fun K hK => ?_) (AllReadyIn.cons rfl (fun K hK => ?_) (AllReadyIn.nil))
      ·go_simp
       refine hK _ _ ?_
       clear hK K
       refine rdI 3 (by kernel_rfl) rfl (fun K hK => ?_)
       ·go_simp
        refine hK _ _ ?_
        clear hK K
        refine rdI 4 (by kernel_rfl) rfl (fun K hK => ?_)
        ·go_simp
         refine hK _ _ ?_
         rw [←HV2.out]
         clear hK K
         refine rdI 5 (by kernel_rfl) rfl (fun K hK => ?_)
         ·refine stepIn_append rfl _ _ 70 rfl (.slice none 0 0) (.slice (some ⟨V.heap.size,0,none⟩) 1 1) rfl rfl _ _ hap (hK _ _ ?_)
          simp only [Act.put,List.setIfInBounds_toArray,List.set]
          clear hK K
          refine rdI 6 (by kernel_rfl) rfl (fun K hK => ?_)
          ·go_simp
           refine hK _ _ ?_
           rw [←HW4.out]
           clear hK K
           refine wpAnyIn_done (by kernel_rfl) ?_ _
           exact hfin { tmps:=#[],defers:=[] }
      ·go_simp
       refine hK _ _ ?_
       clear hK K
       refine wpAnyIn_ready (rs:=[0,4]) (by kernel_rfl) (by simp) ?_
       refine AllReadyIn.cons rfl (fun K hK => ?_) (AllReadyIn.cons rfl (fun K hK => ?_) (AllReadyIn.nil))
       ·go_simp
        refine hK _ _ ?_
        clear hK K
        refine rdI 4 (by kernel_rfl) rfl (fun K hK => ?_)
        ·go_simp
         refine hK _ _ ?_
         rw [←HV2.out]
         clear hK K
         refine rdI 5 (by kernel_rfl) rfl (fun K hK => ?_)
         ·refine stepIn_append rfl _ _ 70 rfl (.slice none 0 0) (.slice (some ⟨V.heap.size,0,none⟩) 1 1) rfl rfl _ _ hap (hK _ _ ?_)
          simp only [Act.put,List.setIfInBounds_toArray,List.set]
          clear hK K
          refine rdI 6 (by kernel_rfl) rfl (fun K hK => ?_)
          ·go_simp
           refine hK _ _ ?_
           rw [←HW4.out]
           clear hK K
           refine wpAnyIn_done (by kernel_rfl) ?_ _
           exact hfin { tmps:=#[],defers:=[] }
       ·go_simp
        refine hK _ _ ?_
        rw [←HV2.out]
        clear hK K
        refine rdI 0 (by kernel_rfl) rfl (fun K hK => ?_)
        ·go_simp
         refine hK _ _ ?_
         clear hK K
         refine rdI 5 (by kernel_rfl) rfl (fun K hK => ?_)
         ·refine stepIn_append rfl _ _ 70 rfl (.slice none 0 0) (.slice (some ⟨V.heap.size,0,none⟩) 1 1) rfl rfl _ _ hap (hK _ _ ?_)
          simp only [Act.put,List.setIfInBounds_toArray,List.set]
          clear hK K
          refine rdI 6 (by kernel_rfl) rfl (fun K hK => ?_)
          ·go_simp
           refine hK _ _ ?_
           rw [←HW4.out]
           clear hK K
           refine wpAnyIn_done (by kernel_rfl) ?_ _
           exact hfin { tmps:=#[],defers:=[] }
    ·go_simp
     refine hK _ _ ?_
     clear hK K
     refine wpAnyIn_ready (rs:=[0,1]) (by kernel_rfl) (by simp) ?_
     refine AllReadyIn.cons rfl (fun K hK => ?_) (AllReadyIn.cons rfl (fun K hK => ?_) (AllReadyIn.nil))
     ·go_simp
      refine hK _ _ ?_
      clear hK K
      refine rdI 1 (by kernel_rfl) rfl (fun K hK => ?_)
      ·go_simp
       refine hK _ _ ?_
       clear hK K
       refine rdI 3 (by kernel_rfl) rfl (fun K hK => ?_)
       ·go_simp
        refine hK _ _ ?_
        clear hK K
        refine rdI 4 (by kernel_rfl) rfl (fun K hK => ?_)
        ·go_simp
         refine hK _ _ ?_
         rw [←HV2.out]
         clear hK K
         refine rdI 5 (by kernel_rfl) rfl (fun K hK => ?_)
         ·refine stepIn_append rfl _ _ 70 rfl (.slice none 0 0) (.slice (some ⟨V.heap.size,0,none⟩) 1 1) rfl rfl _ _ hap (hK _ _ ?_)
          simp only [Act.put,List.setIfInBounds_toArray,List.set]
          clear hK K
          refine rdI 6 (by kernel_rfl) rfl (fun K hK => ?_)
          ·go_simp
           refine hK _ _ ?_
           rw [←HW4.out]
           clear hK K
           refine wpAnyIn_done (by kernel_rfl) ?_ _
           exact hfin { tmps:=#[],defers:=[] }
     ·go_simp
      refine hK _ _ ?_
      clear hK K
      refine wpAnyIn_ready (rs:=[0,3]) (by kernel_rfl) (by simp) ?_
      refine AllReadyIn.cons rfl (fun K hK => ?_) (AllReadyIn.cons rfl (fun K hK => ?_) (AllReadyIn.nil))
      ·go_simp
       refine hK _ _ ?_
       clear hK K
       refine rdI 3 (by kernel_rfl) rfl (fun K hK => ?_)
       ·go_simp
        refine hK _ _ ?_
        clear hK K
        refine rdI 4 (by kernel_rfl) rfl (fun K hK => ?_)
        ·go_simp
         refine hK _ _ ?_
         rw [←HV2.out]
         clear hK K
         refine rdI 5 (by kernel_rfl) rfl (fun K hK => ?_)
         ·refine stepIn_append rfl _ _ 70 rfl (.slice none 0 0) (.slice (some ⟨V.heap.size,0,none⟩) 1 1) rfl rfl _ _ hap (hK _ _ ?_)
          simp only [Act.put,List.setIfInBounds_toArray,List.set]
          clear hK K
          refine rdI 6 (by kernel_rfl) rfl (fun K hK => ?_)
          ·go_simp
           refine hK _ _ ?_
           rw [←HW4.out]
           clear hK K
           refine wpAnyIn_done (by kernel_rfl) ?_ _
           exact hfin { tmps:=#[],defers:=[] }
      ·go_simp
       refine hK _ _ ?_
       clear hK K
       refine wpAnyIn_ready (rs:=[0,4]) (by kernel_rfl) (by simp) ?_
       refine AllReadyIn.cons rfl (fun K hK => ?_) (AllReadyIn.cons rfl (fun K hK => ?_) (AllReadyIn.nil))
       ·go_simp
        refine hK _ _ ?_
        clear hK K
        refine rdI 4 (by kernel_rfl) rfl (fun K hK => ?_)
        ·go_simp
         refine hK _ _ ?_
         rw [←HV2.out]
         clear hK K
         refine rdI 5 (by kernel_rfl) rfl (fun K hK => ?_)
         ·refine stepIn_append rfl _ _ 70 rfl (.slice none 0 0) (.slice (some ⟨V.heap.size,0,none⟩) 1 1) rfl rfl _ _ hap (hK _ _ ?_)
          simp only [Act.put,List.setIfInBounds_toArray,List.set]
          clear hK K
          refine rdI 6 (by kernel_rfl) rfl (fun K hK => ?_)
          ·go_simp
           refine hK _ _ ?_
           rw [←HW4.out]
           clear hK K
           refine wpAnyIn_done (by kernel_rfl) ?_ _
           exact hfin { tmps:=#[],defers:=[] }
       ·go_simp
        refine hK _ _ ?_
        rw [←HV2.out]
        clear hK K
        refine rdI 0 (by kernel_rfl) rfl (fun K hK => ?_)
        ·go_simp
         refine hK _ _ ?_
         clear hK K
         refine rdI 5 (by kernel_rfl) rfl (fun K hK => ?_)
         ·refine stepIn_append rfl _ _ 70 rfl (.slice none 0 0) (.slice (some ⟨V.heap.size,0,none⟩) 1 1) rfl rfl _ _ hap (hK _ _ ?_)
          simp only [Act.put,List.setIfInBounds_toArray,List.set]
          clear hK K
          refine rdI 6 (by kernel_rfl) rfl (fun K hK => ?_)
          ·go_simp
           refine hK _ _ ?_
           rw [←HW4.out]
           clear hK K
           refine wpAnyIn_done (by kernel_rfl) ?_ _
           exact hfin { tmps:=#[],defers:=[] }
   case done =>
    intro D W hD hI hK
    obtain ⟨⟨v,hv1,_,hv3⟩,hmp,hmb,hbl,hbe⟩:=hI
    have hrow:=hv3 (by simp)
    obtain ⟨hc3,hf3⟩:=cell_of_box_a hv1
    rcases hrow.2 with ⟨_,h0⟩ | ⟨g3,cap3,cur3,rfl,_⟩
    ·omega
    gi_wp2
    refine ⟨by simp,.inl ⟨_,_,rfl,run_takeDeferred hK,?_⟩⟩
    exact ⟨_,results_tmp rfl _ _ _,_,ib,n7,rfl,hrow.kept (grownBy_putObj_a _ _ _) (ownsRow_ne_a hrow hK (fun cur e=>by cases e)),hzib,hn7,hbl.of_block (World.putObj_heap_other (by omega)),hbe.grown (grownBy_putObj_a _ _ _) (by have:=hmp.lt;omega) (fun k e=>by cases e;omega)⟩
  ·intro x cv kl yd yp w2 cnt2 hkey hlk hv hat hrg2 hlt2 hg2 hs2 hen
   have hhas:Maps.has D kl=true:=Maps.has_true_of_atKey hat
   obtain rfl:=HDk.out kl hhas
   have hx:x=lv b r:=law90.inj (hkey.trans rfl) (key90 hb hr)
   subst hx
   have hrr2:rr<w2.heap.size:=by omega
   have hne2:∀ k,k≠rr→k<wr.heap.size→w2.heap[k]? = wr.heap[k]? := fun k hk hlt=>hg2.block k hlt (fun e=>by cases e;exact hk rfl)
   have ho2:w2.ownsMap Tryz.prog 74 anyOf gm 0 (.map []):=by
    rcases HS.out with ⟨h1,h2⟩ | ⟨ib,n',h1,h2,_⟩
    ·exact owns_block h1 (hne2 gm (by omega) (by omega))
    ·rw [h2] at hlk;cases hlk
   have hF2:FAt w2 z0 (m.nb*m.np) (lookF l):=HF.out.of_block (hne2 z0 (by omega) (by omega))
   have hR2:w2.heap[gm+1]? = some (.cells #[.map (some gm)] 105 (0,0)):=(hne2 (gm+1) (by omega) (by omega)).trans HR.out
   have hB2:Below z0 w w2:=HB.out.grown hg2 (by omega) (fun q hq=>by cases hq;omega)
   obtain ⟨kb,hkb⟩:∃ kb,kb=w2.heap.size:=⟨_,rfl⟩
   obtain ⟨W3',hW3⟩:∃ W3',W3'=w2.alloc (.cells #[.int .i64 (b:Nat),.int .u32 (r:Nat)] 74):=⟨_,rfl⟩
   have s3:W3'.heap.size=kb+1:=by rw [hW3,hkb];simp
   have hr3:W3'.heap[kb]? = some (.cells #[.int .i64 (b:Nat),.int .u32 (r:Nat)] 74 (0,0)):=by rw [hW3,hkb];exact heap_alloc_new _ _
   have c0:W3'.cell? ⟨kb,0,none⟩=some (.int .i64 (b:Nat)):=by rw [cell_of_row W3' kb 0 _ 74 (0,0) hr3];rfl
   have c1:W3'.cell? ⟨kb,1,none⟩=some (.int .u32 (r:Nat)):=by rw [cell_of_row W3' kb 1 _ 74 (0,0) hr3];rfl
   have up3:∀ k,k<kb→W3'.heap[k]? = w2.heap[k]? := fun k hk=>by rw [hW3];exact Below.heap_alloc _ _ _ (by omega)
   have hF3:=hF2.of_block (up3 z0 (by omega))
   have A:=hidI (record_any W3' z0 (m.nb*m.np) l b r hF3 Hok.out hb hr)
   have Hrg2:Hid (W3'.ranges Tryz.prog 74 unitElem (gm+2) rr 100000 D (fun z=>left z && !z.sameKey (lk b r)) cnt2):=hidI (by rw [hW3];exact hrg2.alloc _)
   have Hrg:=hidI hrg
   have Hlt2:=hidI hlt2
   have HW3:=hidI hW3
   have Hkb:=hidI hkb
   have Hs3':=hidI s3
   have Hup3:=hidI up3
   have Ho2:=hidI ho2
   have HF2:=hidI hF3
   have HR2:=hidI ((up3 (gm+1) (by omega)).trans hR2)
   have HB2:Hid (Below z0 w W3'):=hidI (by rw [hW3];exact hB2.alloc (by omega) _)
   have hkr:rr<kb:=by omega
   have Hr3':=hidI hr3
   clear hrg hrg2 hg2 hs2 hlt2 hat hv hkey hlk hhas hne2 ho2 hF2 hR2 hB2 hkb hW3 s3 hr3 up3 hF3 HS HF HR HB
   try simp only [id] at hen
   unfold lv at hen
   try simp only [id]
   unfold lv at A ⊢
   gi_wp2_with (first | (rw [←HW3.out,←Hkb.out]) | gi_in)
   refine ⟨trivial,(callsIn_wide.2 A.out).mono ?_⟩
   rintro e w4' ⟨hb4,hcase⟩
   rcases hcase with ⟨ps',ib,n',hps',rfl,hib,hn',hBl⟩ | ⟨hno,_⟩
   ·have hpp:ps'=ps:=by have:=Hps.out;rw [hps'] at this;exact Option.some.inj this
    subst hpp
    rw [Hs3'.out] at hb4 hib
    have hgb4:kb+1≤w4'.heap.size:=by have:=hb4.size;rw [Hs3'.out] at this;exact this
    obtain ⟨X,hX⟩:∃ X,X=txt (txtF ps'):=⟨_,rfl⟩
    obtain ⟨E,hE⟩:∃ E,E=endF ps':=⟨_,rfl⟩
    obtain ⟨W5',hW5⟩:∃ W5',W5'=w4'.alloc (.cells #[.string X,.int .i64 (b:Nat),.int .u32 (r:Nat),.map (some ib),.int .i64 (E:Nat)] 78):=⟨_,rfl⟩
    obtain ⟨q5,hq5⟩:∃ q5,q5=w4'.heap.size:=⟨_,rfl⟩
    have s5:W5'.heap.size=q5+1:=by rw [hW5,hq5];simp
    have up5:∀ k,k≤kb→W5'.heap[k]? = W3'.heap[k]? := fun k hk=>by rw [hW5];exact (Below.heap_alloc _ _ _ (by omega)).trans (hb4.block k (by omega))
    have hr5:W5'.heap[q5]? = some (.cells #[.string X,.int .i64 (b:Nat),.int .u32 (r:Nat),.map (some ib),.int .i64 (E:Nat)] 78 (0,0)):=by rw [hW5,hq5];exact heap_alloc_new _ _
    have d0:W5'.cell? ⟨q5,0,none⟩=some (.string X):=by rw [cell_of_row W5' q5 0 _ 78 (0,0) hr5];rfl
    have d1:W5'.cell? ⟨q5,1,none⟩=some (.int .i64 (b:Nat)):=by rw [cell_of_row W5' q5 1 _ 78 (0,0) hr5];rfl
    have d2:W5'.cell? ⟨q5,2,none⟩=some (.int .u32 (r:Nat)):=by rw [cell_of_row W5' q5 2 _ 78 (0,0) hr5];rfl
    have d3:W5'.cell? ⟨q5,3,none⟩=some (.map (some ib)):=by rw [cell_of_row W5' q5 3 _ 78 (0,0) hr5];rfl
    have d4:W5'.cell? ⟨q5,4,none⟩=some (.int .i64 (E:Nat)):=by rw [cell_of_row W5' q5 4 _ 78 (0,0) hr5];rfl
    have e0:W5'.cell? ⟨kb,0,none⟩=some (.int .i64 (b:Nat)):=(World.cell?_of_block (up5 kb (Nat.le_refl _))).trans c0
    have e1:W5'.cell? ⟨kb,1,none⟩=some (.int .u32 (r:Nat)):=(World.cell?_of_block (up5 kb (Nat.le_refl _))).trans c1
    have e2:W5'.cell? ⟨gm+1,0,none⟩=some (.map (some gm)):=by rw [cell_of_row W5' (gm+1) 0 _ 105 (0,0) ((up5 (gm+1) (by omega)).trans HR2.out)];rfl
    have o5:W5'.ownsMap Tryz.prog 74 anyOf gm 0 (.map []):=owns_block (owns_block (w':=W3') Ho2.out (Hup3.out gm (by omega))) (up5 gm (by omega))
    obtain ⟨w6,hu,o6,hm6⟩:=store137 o5 hb hr (by omega) (rv ps' b r ib)
    have hg6:=hm6.grown
    have up6:∀ k,k≠gm→k<W5'.heap.size→w6.heap[k]? = W5'.heap[k]? := fun k hk hlt=>hg6.block k hlt (fun e=>by cases e;exact hk rfl)
    unfold rv lv at hu
    rw [←hX,←hE] at hu
    have hb35:Below (kb+1) W3' W5':=by rw [hW5];exact hb4.alloc hgb4 _
    have HB6:Hid (Below z0 w w6):=hidI ((HB2.out.trans (hb35.mono (by omega))).grown hg6 (by omega) (fun k e=>by cases e;omega))
    have hrg6:w6.ranges Tryz.prog 74 unitElem (gm+2) rr 100000 D (fun z=>left z && !z.sameKey (lk b r)) cnt2:=by
     have hgb:W3'.grownBy W5' none:=⟨hb35.os,hb35.tape,hb35.output,hb35.size,fun k hk _=>hb35.block k (by rw [Hs3'.out] at hk;exact hk)⟩
     exact (Hrg2.out.kept hgb (by simp) (by simp)).kept hg6 (by simp) (by simp;omega)
    have hsl:(left (lk b r) && !(lk b r).sameKey (lk b r))=false:=by
     have hs:Lit.sameKey (lk b r) (lk b r)=true:=by simp [Lit.sameKey,lk]
     rw [hs];simp
    have HS6:Hid (StR w6 (fun z=>left z && !z.sameKey (lk b r)) z0 gm b r ps'):=hidI (.inr ⟨ib,n',o6,hsl,by omega,hn',hBl.of_block ((up6 ib (by omega) (by have:=hBl.lt;omega)).trans (by rw [hW5];exact Below.heap_alloc _ _ _ hBl.lt))⟩)
    have HF6:Hid (FAt w6 z0 (m.nb*m.np) (lookF l)):=hidI (HF2.out.of_block ((up6 z0 (by omega) (by omega)).trans (up5 z0 (by omega))))
    have HR6:Hid (w6.heap[gm+1]? = some (.cells #[.map (some gm)] 105 (0,0))):=hidI ((up6 (gm+1) (by omega) (by omega)).trans ((up5 (gm+1) (by omega)).trans HR2.out))
    have hr6:rr<w6.heap.size:=by have:=hg6.size;omega
    have Hrg6:=hidI hrg6
    have HW5:=hidI hW5
    have Hq5:=hidI hq5
    rw [←hX,←hE]
    clear hX hE hb4 hBl hW5 hq5 up5 hr5 o5 o6 hm6 hg6 up6 hb35 hrg6 hsl hps' HB2 HF2 HR2 Ho2 Hup3 Hr3' A hen s5
    gi_wp2_with (first | (rw [←HW5.out,←Hq5.out]) | gi_in)
    go_roundw
    case rel=>exact ⟨_,cnt2,Hrg6.out,HS6,HF6,HR6,HB6,hr6⟩
    case measure=>rw [Hrg6.out.left_eq,Hrg.out.left_eq];exact Hlt2.out
   ·rw [Hps.out] at hno;cases hno
end Go.Proofs.YtodmdkhdbfbfgabGreatDoor.S1
