/- Lemmas. -/
import Derived.Test.YtodmdkhdbfbfgaaGreatDoorM12
set_option linter.unusedVariables false
set_option linter.unusedSimpArgs false
set_option maxRecDepth 100000
set_option maxHeartbeats 8000000
namespace Go.Proofs.YtodmdkhdbfbfgaaGreatDoor.S1
open Go.RowKit Pk Go.Shelf
theorem qm0 (w:World):Calls Tryz.prog 84 #[.slice none 0 0] w fun e w'=>e=.returned (.slice none 0 0)∧Below w.heap.size w w':=by
 obtain ⟨z0,hz⟩:∃ z0,z0=w.heap.size:=⟨_,rfl⟩;obtain ⟨W1,hW1⟩:∃ W1,W1=w.alloc (.map #[] 0):=⟨_,rfl⟩;have s1:W1.heap.size=z0+1:=by rw [hW1,hz];simp
 have b1:Below z0 w W1:=by rw [hW1,hz];exact (Below.refl _ w).alloc (Nat.le_refl _) _
 have hmk:=qjg w;rw [←hW1,←hz] at hmk;have HN1:Hid (NAt W1 (z0+1) z0 0 (fun _=>[])):=hidI (by rw [hW1,hz];exact NAt.made w);have HW1:=hidI hW1;have Hz:=hidI hz;have Hs1:=hidI s1;have HB1:=hidI b1;rw [←hz];clear hW1 hz s1 b1;go_enter Tryz.func84,Tryz.ntmps84
 go_wp2_with (first | (rw [←HW1.out,←Hz.out]) | fail);refine wp_loop_rounds 1 ?_;rw [rounds_succ];go_wp2_with fail;refine (qeN (some z0) W1).mono ?_;rintro e w6 ⟨rfl,hw6⟩;have hs6:w6.heap.size=z0+2:=by rw [hw6];simp [Hs1.out]
 have hb6:Below W1.heap.size W1 w6:=by rw [hw6];exact (Below.refl _ _).alloc (Nat.le_refl _) _
 have hc6:w6.cell? ⟨W1.heap.size,0,none⟩=some (.map (some z0)):=by rw [hw6];simp
 have HN6:=HN1.out.below hb6 (Nat.le_refl _);have B6:=hidI (HN6.keys (Bm:=W1.heap.size) (fun b h=>absurd rfl h) (by omega) (by rw [Hs1.out];omega) hc6);have HB6:Hid (Below z0 w w6):=hidI (HB1.out.trans (hb6.mono (by rw [Hs1.out];omega)));have Hs6:=hidI hs6;clear hb6 hc6 hw6 hs6 HN6 hmk;go_wp2_with fail;refine B6.out.mono ?_;rintro e w7 ⟨v7,ks,rfl,-,-,hmem,-,hrow7,hb7⟩;have hks:ks=[]:=List.eq_nil_iff_forall_not_mem.2 (fun b hb=>absurd rfl ((hmem b).1 hb));subst hks;have HB7:Hid (Below z0 w w7):=hidI (HB6.out.trans (hb7.mono (by rw [Hs6.out];omega)));rcases hrow7.2 with ⟨rfl,_⟩ | ⟨g7,cap7,cur7,rfl,_⟩
 all_goals
  clear hrow7 hb7 hmem B6;go_wp2_with fail;refine wp_loop_rounds 1 ?_;rw [rounds_succ];go_wp2_with fail;go_ret
  exact ⟨rfl,HB7.out⟩
theorem qi7 (n:Nat) (hn:1≤n) (w:World) (B:Nat) (n₀:Nat) (S:Nat→Prop) (hB:B<n₀) (hb:w.cell? ⟨B,0,none⟩=some (.slice none 0 0)) :
 SeqRow Fence.wide n Tryz.prog 138 #[.pointer (some ⟨B,0,none⟩)] encIL [] n₀ S w:=by
 intro l J W hW hY h0;have hbW:W.cell? ⟨B,0,none⟩=some (.slice none 0 0):=by rw [hW.cell (p:=⟨B,0,none⟩) hB];exact hb
 have H0:=hidI h0;clear hb h0 hY hW;refine callsIn_of_wp Tryz.func138 rfl trivial ?_ rfl;simp only [Tryz.ntmps138,List.size_toArray,List.length_cons,List.length_nil,Nat.reduceAdd,Nat.reduceSub,Array.replicate_succ,Array.replicate_zero,List.push_toArray,List.append_toArray,List.nil_append,List.cons_append];gi_wp2
 gi_loopw [3] (fun i wr=>i=.int .i64 (-1)∧wr=W) (fun _ _=>0)
 case atStart=>exact ⟨rfl,rfl⟩
 case round =>
  obtain ⟨rfl,rfl⟩:=hrel;gi_wp2;go_end0
  exact ⟨⟨_,rfl⟩,H0.out⟩
end Go.Proofs.YtodmdkhdbfbfgaaGreatDoor.S1
namespace Go.Proofs.YtodmdkhdbfbfgaaGreatDoor.S1
open Go.RowKit Pk Go.Shelf
open Go.Nt (Fp lookF hasL hasL_iff FpOk qaq scanF recF txtF inF endF)
attribute [local go_sem] Oper.semAt_some
def RcsA (l:List Fp) (w:World) (e:Ending) (w':World):Prop:=∃ (v:Value) (ord:List (Nat × Nat)) (ib nb:Nat→Nat→Nat),e=.returned v∧TurnOf l ord∧ord.length≤100000*100000∧w'.ownsRow w.heap.size 94 5 v ord.length (rcl l ib ord.reverse) ∧
 (∀ x∈ord,recF l x.1 x.2=some (psOf l x.1 x.2)∧w.heap.size≤ib x.1 x.2∧nb x.1 x.2≤100000∧BlAt w' (ib x.1 x.2) (nb x.1 x.2) (inF (psOf l x.1 x.2)))∧Below w.heap.size w w'
theorem recordsA (w:World) (lo hi cb:Nat) (L:Loc) (m:M) (hw:WF m) (h:CP w lo hi cb L m) (hsz:hi≤w.heap.size) (hlf:m.life≠0) (l:List Fp) (hl:scanF (pgs m) m.np m.nb=l) (hok:∀ f∈l,FpOk f∧f.blk<1000) :
 CallsIn Fence.wide 20 Tryz.prog 45 #[.pointer (some ⟨cb,0,none⟩)] w fun e w'=>RcsA l w e w':=by
 obtain ⟨i0,hi0,hz0,hz1,hz2⟩:=info_parts Tryz.info94;have hcount:m.nb*m.np≤100000:=by
  have h1:=hw.nb2;have h2:=hw.np2
  calc m.nb*m.np≤32*16:=Nat.mul_le_mul (by omega) (by omega)
   _≤100000:=by omega
 have A:=hidI (qgI w lo hi cb L m hw h hsz hlf);obtain ⟨z0,hz⟩:∃ z0,z0=w.heap.size:=⟨_,rfl⟩;have Hz:=hidI hz;have Hl:=hidI hl;have Hh:=hidI h;have Hok:=hidI hok;unfold RcsA;rw [←hz];clear hl hz h hok;refine callsIn_of_wp_marks Tryz.func45 rfl trivial ?_ rfl;simp only [Tryz.ntmps45,List.size_toArray,List.length_cons,List.length_nil,Nat.reduceAdd,Nat.reduceSub,Array.replicate_succ,Array.replicate_zero,List.push_toArray,List.append_toArray,List.nil_append,List.cons_append];gi_wp2_with fail;refine ⟨trivial,(callsIn_wide.2 A.out).mono ?_⟩;rintro e w1 ⟨rfl,hF1,hb1⟩;rw [←Hz.out] at hF1 hb1 ⊢;rw [Hl.out] at hF1;have HF1:=hidI hF1;have Hb1:=hidI hb1;obtain ⟨gm,hgm⟩:∃ gm,gm=w1.heap.size:=⟨_,rfl⟩;have hgz:z0<gm:=by rw [hgm];exact hF1.lt
 obtain ⟨W2,hW2⟩:∃ W2,W2=w1.alloc (.map #[] 0):=⟨_,rfl⟩;obtain ⟨W3,hW3⟩:∃ W3,W3=W2.alloc (.cells #[.map (some gm)] 137):=⟨_,rfl⟩;have s2:W2.heap.size=gm+1:=by rw [hW2,hgm];simp
 have s3:W3.heap.size=gm+2:=by rw [hW3];simp [s2]
 have hmk:=qmK w1;rw [←hW2,←hgm] at hmk;have o2:W2.ownsMap Tryz.prog 90 anyOf gm 0 (.map []):=by rw [hW2,hgm];exact World.ownsMap_made w1 _ _ _
 have b3:Below gm w1 W3:=by rw [hW3,hW2,hgm];exact ((Below.refl _ w1).alloc (Nat.le_refl _) _).alloc (by simp) _
 have o3:W3.ownsMap Tryz.prog 90 anyOf gm 0 (.map []):=qbc o2 (by rw [hW3];exact Below.heap_alloc _ _ _ (by omega));have hr3:W3.heap[gm+1]? = some (.cells #[.map (some gm)] 137 (0,0)):=by rw [hW3,←s2];exact heap_alloc_new _ _
 have hF3:FAt W3 z0 (m.nb*m.np) (lookF l):=hF1.of_block (b3.block z0 hgz);have B:=hidI (qdY W3 z0 (m.nb*m.np) l hF3 hcount (fun f hf=>(Hok.out f hf).1));have HW2:=hidI hW2;have HW3:=hidI hW3;have Hgm:=hidI hgm;have Hs2:=hidI s2;have Hs3:=hidI s3;have Ho3:=hidI o3;have Hr3:=hidI hr3;have HF3:=hidI hF3;have Hb3:=hidI (hb1.trans (b3.mono (Nat.le_of_lt hgz)));clear hF1 hb1 hgm hW2 hW3 s2 s3 o2 o3 b3 hr3 hF3 A HF1;gi_wp2_with (first | (rw [←HW3.out,Hs2.out]) | fail);refine ⟨trivial,(callsIn_wide.2 B.out).mono ?_⟩;rintro e w4 ⟨rfl,hL4,hb4⟩;rw [Hs3.out] at hL4 hb4 ⊢;obtain ⟨D,ho4,hh4,hk4⟩:=hL4;have HD4:Hid (∀ b n,b≤1000000→n≤4294967295→Maps.has D (lk b n)=hasL l b n):=hidI hh4;have HDk:Hid (∀ kl,Maps.has D kl=true→∃ x y,x≤1000000∧y≤4294967295∧kl=lk x y):=hidI (fun kl hk=>by
  obtain ⟨x,y,h1,h2,rfl⟩:=hk4 kl hk;exact ⟨x,y,h1,h2,rfl⟩)
 have hDsz:Maps.size D≤100000:=ho4.size_le;have hgl4:=ho4.lt;have Ho4:=hidI (qbc (w':=w4) Ho3.out (hb4.block gm (by omega)));have Hr4:=hidI ((hb4.block (gm+1) (by omega)).trans Hr3.out);have HF4:=hidI (HF3.out.of_block (hb4.block z0 (by omega)));have Hb4:=hidI (Hb3.out.trans (hb4.mono (by omega)));clear hh4 hk4 hb4 B;gi_wp2_with (first | (gi_at_range;refine wpListIn_range_own _ rfl _ 130 rfl 90 243 law90 Tryz.underlying130 _ (gm+2) _ D rfl ho4 ?_;intro w5 hrg0 hg0 hs0') | gi_in)
 go_frame
 obtain ⟨rr,hrr⟩:∃ rr,rr=w4.heap.size:=⟨_,rfl⟩;have Ho5:=hidI (qbc (w':=w5) Ho4.out (hg0.block gm (by omega) (fun e=>by cases e)));have Hr5:=hidI ((hg0.block (gm+1) (by omega) (fun e=>by cases e)).trans Hr4.out);have HF5:=hidI (HF4.out.of_block (hg0.block z0 (by omega) (fun e=>by cases e)));have Hb5:=hidI (Hb4.out.grown hg0 (by omega) (fun k e=>by cases e));rw [←hrr] at hrg0 hs0' hgl4 ⊢;have Hrg0:=hidI hrg0;clear hrg0 hrr hg0 ho4 Ho4 Hr4 HF4 Hb4 hmk HW2 HW3 Ho3 Hr3 HF3 Hb3 Hb1
 gi_loopw [17] (fun _ wx=>∃ (left:Lit→Bool) (cnt n:Nat),wx.ranges Tryz.prog 90 unitElem (gm+2) rr 100000 D left cnt∧n+cnt≤100000∧Hid (StW wx left (rr+1) gm n l (Maps.has D))∧Hid (FAt wx z0 (m.nb*m.np) (lookF l))∧Hid (wx.heap[gm+1]? = some (.cells #[.map (some gm)] 137 (0,0)))∧Hid (Below z0 w wx)∧rr<wx.heap.size)
  (fun _ wx=>wx.rangeLeft (gm+2) rr)
 case atStart=>exact ⟨_,_,0,Hrg0.out,by simpa using hDsz,hidI ⟨_,_,_,_,WM.made l Ho5.out,fun b r _ _=>by cases Maps.has D (lk b r)<;>simp⟩,HF5,Hr5,Hb5,by omega⟩
 case round =>
  clear Hrg0 Ho5 Hr5 HF5 Hb5;obtain ⟨left,cnt,n6,hrg,hncnt,HS,HF,HR,HB,hrx⟩:=hrel;gi_wp2_with (first | (gi_at_next;refine wpListIn_next_ranges _ rfl _ rfl 90 law90 unitElem id id (fun key kl hk=>⟨key,rfl⟩) (fun v _ _=>⟨v,rfl⟩) (gm+2) rr 100000 _ _ _ rfl hrg ?_ ?_) | gi_in)
  ·intro _ hl0;obtain ⟨DW,S,ib,nb,hwm,hSe⟩:=HS.out;have hS2:∀ b r,b≤1000000→r≤4294967295→S b r=wholeF l b r:=fun b r h1 h2=>by
    rw [hSe b r h1 h2,hl0,HD4.out b r h1 h2];unfold wholeF;simp
   have HS2:=hidI hS2;obtain ⟨W7,hW7⟩:∃ W7,W7=wr.alloc (.cells #[.slice none 0 0] 86):=⟨_,rfl⟩;obtain ⟨q7,hq7⟩:∃ q7,q7=wr.heap.size:=⟨_,rfl⟩;have s7:W7.heap.size=q7+1:=by rw [hW7,hq7];simp
   have up7:∀ k,k<q7→W7.heap[k]? = wr.heap[k]? := fun k hk=>by rw [hW7];exact Below.heap_alloc _ _ _ (by omega)
   have hr7:W7.heap[q7]? = some (.cells #[.slice none 0 0] 86 (0,0)):=by rw [hW7,hq7];exact heap_alloc_new _ _
   have hib7:∀ b r,S b r=true→ib b r<q7:=fun b r h=>by have:=(hwm.recs b r h).2.2.2.2.2.2.lt;omega
   have hmb7:W7.heap[gm+1]? = some (.cells #[.map (some gm)] 137 (0,0)):=(up7 _ (by omega)).trans HR.out;have hwm7:WM W7 (rr+1) gm n6 l DW S ib nb:=hwm.kept (fun k _ hl=>up7 k (by omega));have k7:W7.cell? ⟨gm+1,0,none⟩=some (.map (some gm)):=by rw [cell_of_row W7 (gm+1) 0 _ 137 (0,0) hmb7];rfl
   have Hr7:=hidI hr7;have hI7:RcJ w z0 gm q7 (rr+1) 0 n6 l DW S ib nb [] W7:=⟨⟨_,hr7,World.ownsRow_nil _ _ _ _⟩,hwm7,hib7,hmb7,by rw [hW7];exact HB.out.alloc (by omega) _⟩;have HI7:=hidI hI7;have hrq:rr<q7:=by omega
   have HW7:=hidI hW7;have Hq7:=hidI hq7;have Hs7:=hidI s7;clear hrg HS HF HR HB hW7 hq7 up7 hr7 hmb7 hI7 hwm hwm7 s7 hl0 hSe hS2;gi_wp2_with (first | (rw [←HW7.out,←Hq7.out]) | fail);refine ⟨trivial,(callsIn_wide.2 (qjf (some gm) W7)).mono ?_⟩;rintro e w8 ⟨rfl,hw8⟩;rw [Hs7.out];have s8:w8.heap.size=q7+2:=by rw [hw8];simp [Hs7.out]
   have b8:Below (q7+1) W7 w8:=by rw [hw8];exact (Below.refl _ _).alloc (by rw [Hs7.out];omega) _
   have c8:w8.cell? ⟨q7+1,0,none⟩=some (.map (some gm)):=by rw [hw8,←Hs7.out];simp
   have hwm8:WM w8 (rr+1) gm n6 l DW S ib nb:=HI7.out.wm.kept2 HI7.out.lo (fun k hk hl=>b8.block k (by omega));have hseq8:=qf9 17 (by omega) (q7+1) gm n6 _ w8 (by omega) c8 hwm8.own (fun kl hk=>by
    obtain ⟨b,r,h1,h2,e⟩:=hwm8.keys kl hk;exact ⟨(b,r),⟨h1,h2⟩,e⟩)
   have C8:=hidI (qgr 19 (by omega) 143 _ (enters_of Tryz.func143 (by kernel_rfl) rfl) _ _ (Nat.le_trans hwm8.own.size_le (by omega)) w8 hseq8);have Hhas:=hidI hwm8.has;have Hb8:=hidI b8;have Hs8:=hidI s8;have Ho8:=hidI hwm8.own;clear hseq8 b8 s8 c8 hw8 hwm8;gi_wp2_with fail;refine ⟨trivial,C8.out.mono ?_⟩;rintro e w9 ⟨v9,xs,rfl,⟨hnd,hoks,hmem⟩,hrow9,hnil9,hb9⟩;by_cases hxe:xs=[]
   ·have hv9:=hnil9.2 hxe;subst hxe;subst hv9;have hno:∀ b r,b≤1000000→r≤4294967295→wholeF l b r=false:=fun b r h1 h2=>by
     rw [←HS2.out b r h1 h2,←Hhas.out b r h1 h2];cases hh:Maps.has DW (lk b r) with
     | false=>rfl
     | true=>have:=(hmem (b,r) ⟨h1,h2⟩).2 hh;cases this
    have HT:Hid (TurnOf l []):=hidI ⟨[],[],fun _=>[],List.nodup_nil,fun x=>⟨fun h=>(by cases h),fun ⟨h1,h2,h3⟩=>(by rw [hno x.1 x.2 h1 h2] at h3;cases h3)⟩,by simp [Asc],List.nodup_nil,by simp [numsOf],fun b hb=>(by cases hb),rfl⟩;have hb79:Below (q7+1) W7 w9:=Hb8.out.trans (hb9.mono (by rw [Hs8.out];omega));have s9:q7+2≤w9.heap.size:=by have:=hb9.size;rw [Hs8.out] at this;exact this
    have Hb9:=hidI hb79;clear hnd hoks hmem hrow9 hnil9 hb9 hb79 C8 Hb8 hno;gi_wp2_with fail;refine ⟨trivial,(callsIn_wide.2 (qm0 w9)).mono ?_⟩;rintro e w10 ⟨rfl,hb10⟩;have hb7a:Below (q7+1) W7 w10:=Hb9.out.trans (hb10.mono (by omega));have s10:q7+2≤w10.heap.size:=by have:=hb10.size;omega
    have Hb10:=hidI hb7a;clear hb10 hb7a Hb9 s9;gi_wp2_with fail;refine ⟨trivial,(callsIn_wide.2 (qcr none 0 0 w10)).mono ?_⟩;rintro e w11 ⟨rfl,hw11⟩;have s11:w11.heap.size=w10.heap.size+1:=by rw [hw11];simp
    have b11:Below w10.heap.size w10 w11:=by rw [hw11];exact (Below.refl _ _).alloc (Nat.le_refl _) _
    have c11:w11.cell? ⟨w10.heap.size,0,none⟩=some (.slice none 0 0):=by rw [hw11];simp
    have hseq:=qi7 19 (by omega) w11 w10.heap.size w11.heap.size (fun k=>k=w10.heap.size) (by omega) c11;have hb711:Below (q7+1) W7 w11:=Hb10.out.trans (b11.mono (by omega));obtain ⟨z11,hz11⟩:∃ z11,z11=w11.heap.size:=⟨_,rfl⟩;have hI11:RcJ w z0 gm q7 (rr+1) z11 n6 l DW S ib nb [] w11:=by
     obtain ⟨⟨v,hv1,hv3⟩,hwm,hlo,hmb,hbe⟩:=HI7.out;exact ⟨⟨_,(hb711.block q7 (by omega)).trans Hr7.out,World.ownsRow_nil _ _ _ _⟩,hwm.kept2 hlo (fun k hk hl=>hb711.block k (by omega)),hlo,(hb711.block _ (by omega)).trans hmb,hbe.trans (hb711.mono (by omega))⟩
    have Hz11:=hidI hz11;clear hw11 b11 c11 k7 HI7 Hb10 hb711 hz11;gi_wp2_with fail;refine qbi rfl (by omega) (gf:=138) (lb:=#[.pointer (some ⟨w10.heap.size,0,none⟩)]) rfl trivial (enters_of Tryz.func138 (by kernel_rfl) rfl) hseq (Nat.le_refl _) (fun k h=>by omega) (fun _=>rfl) (RcJ w z0 gm q7 (rr+1) z11 n6 l DW S ib nb)
     (fun s A C row hs hg hr=>hs.grown (B:=w11.heap.size) (by omega) (by omega) (by omega) (by have:=hs.wm.own.lt;omega) hg hr) hI11
     (fun x W=>{ tmps:=#[.pointer (some ⟨cb,0,none⟩),undef,.slice none 0 0,.map (some z0),.pointer (some ⟨gm+1,0,none⟩),u5,u6,u7,.pointer (some ⟨q7,0,none⟩),undef,.pointer (some ⟨W.heap.size,0,none⟩),.pointer (some ⟨cb,0,none⟩),.map (some z0),.map (some gm),.map (some z0),.map (some (gm+2)),.pointer (some ⟨rr,0,none⟩),.tuple #[.bool false],.bool false,u19,u20,u21,u22,u23,u24,u25,u26,u27,u28,u29,u30,.map (some gm),.func (.func 143) #[] #[.pointer (some ⟨q7+1,0,none⟩)],.slice none 0 0,.slice none 0 0,.func (.func 138) #[] #[.pointer (some ⟨w10.heap.size,0,none⟩)],.int .i64 (x.1:Nat),.agg #[.int .i64 (x.2.1:Nat),.int .u32 (x.2.2:Nat)],undef,undef,undef,undef,undef,undef,undef],defers:=[] }) (fun x W=>W.alloc (.cells #[.int .i64 (x.2.1:Nat),.int .u32 (x.2.2:Nat)] 90)) (fun x W=>(Below.refl _ W).alloc (Nat.le_refl _) _) ?nas ?nassign ?nbody ?ndone
    case nas=>exact fun pre x W hs=>hs.grown (B:=w11.heap.size) (by omega) (by omega) (by omega) (by have:=hs.wm.own.lt;omega) (World.grownBy_alloc W _ none) (fun r e=>by cases e)
    case nassign =>
     intro l x W K hK;unfold encIL;gi_wp2;exact hK
    case nbody =>
     intro l0 pre x W V hV hI hpre hWs hVs
     have:=hpre.length_le
     simp at this
    intro D' W hD hI hK;obtain ⟨⟨v,hv1,hv3⟩,hwm,hlo,hmb,hbe⟩:=hI;obtain ⟨hc3,hf3⟩:=cell_of_box_a hv1;have hz11V:z0≤z11:=by have:=Hz11.out;omega
    rcases hv3.2 with ⟨rfl,_⟩ | ⟨g3,cap3,cur3,rfl,_⟩
    all_goals
     gi_wp2;refine ⟨by simp,.inl ⟨_,_,rfl,run_takeDeferred hK,?_⟩⟩;exact ⟨_,results_tmp rfl _ _ _,_,[],ib,nb,rfl,HT.out,by simp,ownsRow_base_a (hv3.kept (grownBy_putObj_a _ _ _) (ownsRow_ne_a hv3 hK (fun cur e=>by cases e))) hz11V,fun x hx=>(by cases hx),hbe.grown (grownBy_putObj_a _ _ _) (by have:=hwm.own.lt;omega) (fun k e=>by cases e;omega)⟩
   obtain ⟨⟨b0,r0⟩,hin0⟩:=List.exists_mem_of_ne_nil _ hxe;have hxne:=hxe;have hxl:xs.length≤100000:=Nat.le_trans (qmp Ho8.out hnd hoks (fun x hx=>(hmem x (hoks x hx)).1 hx)) (by omega);have hxm:∀ x,x∈xs↔(x.1≤1000000∧x.2≤4294967295∧wholeF l x.1 x.2=true):=fun x=>by
    constructor
    ·intro hx;have h1:=hoks x hx;have h2:=(hmem x h1).1 hx;rw [Hhas.out x.1 x.2 h1.1 h1.2,HS2.out x.1 x.2 h1.1 h1.2] at h2;exact ⟨h1.1,h1.2,h2⟩
    rintro ⟨h1,h2,h3⟩;exact (hmem x ⟨h1,h2⟩).2 (by rw [Hhas.out x.1 x.2 h1 h2,HS2.out x.1 x.2 h1 h2];exact h3)
   rcases hrow9.2 with ⟨h0,_⟩ | ⟨g9,cap9,cur9,rfl,q1,q2,q3,q4,q5,q6⟩
   ·exact absurd (hnil9.1 h0) hxne
   have C9:=hidI (qmv w9 g9 cap9 cur9 xs q2 q6 hxne hxl (fun x hx=>(hxm x).1 hx |>.elim fun a b=>⟨a,b.1⟩));obtain ⟨nx,hnx⟩:∃ nx,nx=xs.length:=⟨_,rfl⟩;rw [←hnx] at C9 ⊢;have hb79:Below (q7+1) W7 w9:=Hb8.out.trans (hb9.mono (by rw [Hs8.out];omega));have s9:q7+2≤w9.heap.size:=by have:=hb9.size;rw [Hs8.out] at this;exact this
   have Hb9:=hidI hb79;have Hxm:=hidI hxm;have Hnd:=hidI hnd;have Hin0:=hidI hin0;have Hxl:Hid (xs.length≤100000):=hidI hxl;clear hnd hoks hmem hrow9 hnil9 hb9 q1 q2 q3 q4 q5 q6 hb79 C8 Hb8 hxm hin0 hnx hxl hxne hxe;gi_wp2_with fail;refine ⟨trivial,(callsIn_wide.2 C9.out).mono ?_⟩;rintro e w10 ⟨v10,ks,rs,rfl,hasc,hndk,hmemk,hrs,hrow10,hb10⟩;obtain ⟨ord,hord⟩:∃ ord,ord=ks.flatMap (fun b=>lbOf b (rs b)):=⟨_,rfl⟩;rw [←hord] at hrow10;have HT:Hid (TurnOf l ord):=hidI ⟨xs,ks,rs,Hnd.out,Hxm.out,hasc,hndk,hmemk,hrs,hord⟩;have hone:ord≠[]:=fun e=>by
    have h1:r0∈numsOf xs b0:=List.mem_map.2 ⟨(b0,r0),List.mem_filter.2 ⟨Hin0.out,by simp⟩,rfl⟩;have h2:b0∈ks:=(hmemk b0).2 (fun e'=>by rw [e'] at h1;cases h1);obtain ⟨ys,hp,_,er⟩:=hrs b0 h2;have h3:0<ys.length:=List.length_pos_of_mem (hp.mem_iff.2 h1);have h4:(rs b0).length=ys.length:=by rw [er];simp;omega
    have h5:ord.length=0:=by rw [e];rfl
    cases hr:rs b0 with
    | nil=>rw [hr] at h4;simp at h4;omega
    | cons y l' =>
      have:(b0,y)∈ord:=by rw [hord];exact List.mem_flatMap.2 ⟨b0,h2,List.mem_map.2 ⟨y,by rw [hr];simp,rfl⟩⟩
      rw [e] at this;cases this
   have hol:ord.length≤100000*100000:=by
    have h1:ks.length≤100000:=by
     have:=nodup_le ks (xs.map (·.1)) hndk (fun b hb=>by
      obtain ⟨x,hx⟩:=List.exists_mem_of_ne_nil _ ((hmemk b).1 hb);unfold numsOf at hx;obtain ⟨y,hy,rfl⟩:=List.mem_map.1 hx
      have:=List.mem_filter.1 hy
      exact List.mem_map.2 ⟨y,this.1,by simpa using this.2⟩)
     rw [List.length_map] at this
     have:=Hxl.out
     omega
    have h2:=qmH ks (fun b=>lbOf b (rs b)) 100000 (fun b hb=>by
     obtain ⟨ys,hp,_,er⟩:=hrs b hb;have e1:(rs b).length=ys.length:=by rw [er];simp;omega
     have e2:=hp.length_eq;have e3:=qfl xs b
     have:=Hxl.out
     simp only [lbOf,List.length_map];omega)
    rw [hord];exact Nat.le_trans h2 (Nat.mul_le_mul_right _ h1)
   rcases hrow10.2 with ⟨_,h0⟩ | ⟨g10,cap10,cur10,rfl,q1,q2,q3,q4,q5,q6⟩
   ·exact absurd (List.length_eq_zero_iff.1 h0) hone
   have hb7a:Below (q7+1) W7 w10:=Hb9.out.trans (hb10.mono (by omega));have s10:q7+2≤w10.heap.size:=by have:=hb10.size;omega
   have hgl10:=lt_of_heap q2;have hg10q:q7<g10:=by omega
   have Hb10:=hidI hb7a;obtain ⟨no,hno⟩:∃ no,no=ord.length:=⟨_,rfl⟩;have Hno:=hidI hno;rw [←hno];clear hasc hndk hmemk hrs hord Hnd Hin0 Hxm hrow10 hb10 q1 q3 q4 q5 hb7a C9 Hb9 s9 hno;gi_wp2_with fail;refine ⟨trivial,(callsIn_wide.2 (qcr (some ⟨g10,0,none⟩) no cap10 w10)).mono ?_⟩;rintro e w11 ⟨rfl,hw11⟩;have s11:w11.heap.size=w10.heap.size+1:=by rw [hw11];simp
   have b11:Below w10.heap.size w10 w11:=by rw [hw11];exact (Below.refl _ _).alloc (Nat.le_refl _) _
   have c11:w11.cell? ⟨w10.heap.size,0,none⟩=some (.slice (some ⟨g10,0,none⟩) ord.length cap10):=by rw [hw11,Hno.out];simp
   have hseq:=qjq 19 (by omega) w11 w10.heap.size g10 cap10 ord w11.heap.size (fun k=>k=w10.heap.size∨k=g10) (by omega) (by omega) (.inl rfl) (.inr rfl) hol c11 cur10 ((b11.block g10 hgl10).trans q2) q6;have hb711:Below (q7+1) W7 w11:=Hb10.out.trans (b11.mono (by omega));obtain ⟨z11,hz11⟩:∃ z11,z11=w11.heap.size:=⟨_,rfl⟩;have hI11:RcJ w z0 gm q7 (rr+1) z11 n6 l DW S ib nb [] w11:=by
    obtain ⟨⟨v,hv1,hv3⟩,hwm,hlo,hmb,hbe⟩:=HI7.out;exact ⟨⟨_,(hb711.block q7 (by omega)).trans Hr7.out,World.ownsRow_nil _ _ _ _⟩,hwm.kept2 hlo (fun k hk hl=>hb711.block k (by omega)),hlo,(hb711.block _ (by omega)).trans hmb,hbe.trans (hb711.mono (by omega))⟩
   have Hz11:=hidI hz11;clear hw11 b11 c11 k7 HI7 Hb10 hb711 q2 q6 hz11;gi_wp2_with fail;refine qbi rfl (by omega) (gf:=138) (lb:=#[.pointer (some ⟨w10.heap.size,0,none⟩)]) rfl trivial (enters_of Tryz.func138 (by kernel_rfl) rfl) hseq (Nat.le_refl _) (fun k h=>by rcases h with h | h<;>omega) (fun _=>rfl) (RcJ w z0 gm q7 (rr+1) z11 n6 l DW S ib nb)
    (fun s A C row hs hg hr=>hs.grown (B:=w11.heap.size) (by omega) (by omega) (by omega) (by have:=hs.wm.own.lt;omega) hg hr) hI11
    (fun x W=>{ tmps:=#[.pointer (some ⟨cb,0,none⟩),undef,.slice none 0 0,.map (some z0),.pointer (some ⟨gm+1,0,none⟩),u5,u6,u7,.pointer (some ⟨q7,0,none⟩),undef,.pointer (some ⟨W.heap.size,0,none⟩),.pointer (some ⟨cb,0,none⟩),.map (some z0),.map (some gm),.map (some z0),.map (some (gm+2)),.pointer (some ⟨rr,0,none⟩),.tuple #[.bool false],.bool false,u19,u20,u21,u22,u23,u24,u25,u26,u27,u28,u29,u30,.map (some gm),.func (.func 143) #[] #[.pointer (some ⟨q7+1,0,none⟩)],.slice (some ⟨g9,0,none⟩) nx cap9,.slice (some ⟨g10,0,none⟩) no cap10,.func (.func 138) #[] #[.pointer (some ⟨w10.heap.size,0,none⟩)],.int .i64 (x.1:Nat),.agg #[.int .i64 (x.2.1:Nat),.int .u32 (x.2.2:Nat)],undef,undef,undef,undef,undef,undef,undef],defers:=[] }) (fun x W=>W.alloc (.cells #[.int .i64 (x.2.1:Nat),.int .u32 (x.2.2:Nat)] 90)) (fun x W=>(Below.refl _ W).alloc (Nat.le_refl _) _) ?has2 ?assign ?body ?done
   case has2=>exact fun pre x W hs=>hs.grown (B:=w11.heap.size) (by omega) (by omega) (by omega) (by have:=hs.wm.own.lt;omega) (World.grownBy_alloc W _ none) (fun r e=>by cases e)
   case assign =>
    intro l x W K hK;unfold encIL;gi_wp2;exact hK
   case body =>
    intro l0 pre x W V hV hI hpre hWs hVs;obtain ⟨i',b,r⟩:=x;have hSx:S b r=true:=by
     have h1:(i',b,r)∈bw ord:=hpre.subset (by simp);have h2:(b,r)∈ord:=by
      have:=List.mem_map_of_mem (f:=(·.2)) h1
      rw [qmn] at this;exact List.mem_reverse.1 this
     have h3:=HT.out.mem h2;rw [HS2.out b r h3.1 h3.2.1];exact h3.2.2
    have hpl:pre.length≤100000*100000:=by
     have:=hpre.length_le
     rw [qbF] at this;simp at this;omega
    obtain ⟨⟨v,hv1,hvr⟩,hwm,hlo,hmb,hbe⟩:=hI;obtain ⟨hb,hr,-,-,hri,-,-⟩:=hwm.recs b r hSx;have hlox:=hlo b r hSx;have hqV:q7<V.heap.size:=lt_of_heap hv1;have hgV:gm+1<V.heap.size:=lt_of_heap hmb;dsimp only at hV hVs ⊢;obtain ⟨kb,hkb⟩:∃ kb,kb=W.heap.size:=⟨_,rfl⟩;have hx0:V.heap[kb]? = some (.cells #[.int .i64 (b:Nat),.int .u32 (r:Nat)] 90 (0,0)):=by
     rw [hkb,hV _ (Nat.le_refl _) (by simp)];exact heap_alloc_new _ _
    rw [←hkb];obtain ⟨X,hX⟩:∃ X,X=txt (txtF (psOf l b r)):=⟨_,rfl⟩;obtain ⟨E,hE⟩:∃ E,E=endF (psOf l b r):=⟨_,rfl⟩;obtain ⟨IB,hIB⟩:∃ IB,IB=ib b r:=⟨_,rfl⟩;have a8:V.drew.cell? ⟨q7,0,none⟩=some v:=by rw [cell_of_row V.drew q7 0 _ 86 (0,0) hv1];rfl
    have a4:V.drew.cell? ⟨gm+1,0,none⟩=some (.map (some gm)):=by rw [cell_of_row V.drew (gm+1) 0 _ 137 (0,0) hmb];rfl
    have ab:V.drew.cell? ⟨kb,0,none⟩=some (.int .i64 (b:Nat)):=by rw [cell_of_row V.drew kb 0 _ 90 (0,0) hx0];rfl
    have ar:V.drew.cell? ⟨kb,1,none⟩=some (.int .u32 (r:Nat)):=by rw [cell_of_row V.drew kb 1 _ 90 (0,0) hx0];rfl
    have alk:(Instr.lookup 137 (.map (some gm)) (.agg #[.int .i64 (b:Nat),.int .u32 (r:Nat)]) false).run Tryz.prog V.drew=.ok (.agg #[.string X,.int .i64 (b:Nat),.int .u32 (r:Nat),.map (some IB),.int .i64 (E:Nat)]) V.drew:=by
     rw [hX,hE,hIB];exact (hwm.kept2 (w':=V.drew) hlo (fun _ _ _=>rfl)).look hSx
    obtain ⟨V2,hV2⟩:∃ V2,V2=(V.alloc (.cells #[.string X,.int .i64 (b:Nat),.int .u32 (r:Nat),.map (some IB),.int .i64 (E:Nat)] 94)).drew:=⟨_,rfl⟩;have s2':V2.heap.size=V.heap.size+1:=by rw [hV2];show (V.alloc _).heap.size=_;simp
    have up2:∀ k,k<V.heap.size→V2.heap[k]? = V.heap[k]? := fun k hk=>by rw [hV2];exact Below.heap_alloc V _ k hk
    have hr2:V2.heap[V.heap.size]? = some (.cells #[.string X,.int .i64 (b:Nat),.int .u32 (r:Nat),.map (some IB),.int .i64 (E:Nat)] 94 (0,0)):=by rw [hV2];exact heap_alloc_new _ _
    have a8':V2.cell? ⟨q7,0,none⟩=some v:=by rw [cell_of_row V2 q7 0 _ 86 (0,0) ((up2 q7 (by omega)).trans hv1)];rfl
    have g02:V.grownBy V2 none:=by rw [hV2];exact ⟨rfl,rfl,rfl,by simp,fun k hk _=>Below.heap_alloc V _ k hk⟩
    have hvr2:V2.ownsRow z11 94 5 v pre.length (rcl l ib (pre.map (·.2))):=hvr.kept g02 (by cases v.ownBlock<;>simp);have hVs':W.heap.size+1≤V.heap.size:=by simpa using hVs
    have hz11V:z11≤V2.heap.size:=by have:=Hz11.out;omega
    obtain ⟨v3,w3,hap,hown3,hg3,hnil3,hat3⟩:=run_append_own_at (P:=Tryz.prog) V2 z11 86 86 94 i0 _ 5 48 Tryz.underlying86 hi0 hz0 hz1 hz2 rfl (by decide) v pre.length _ hvr2 ⟨V.heap.size,0,none⟩ 1 1 [.string X,.int .i64 (b:Nat),.int .u32 (r:Nat),.map (some IB),.int .i64 (E:Nat)] rfl (World.news_of_block (cs:=#[.string X,.int .i64 (b:Nat),.int .u32 (r:Nat),.map (some IB),.int .i64 (E:Nat)]) hr2) (by simp [Value.oneCell']) (by unfold maxLen;omega) (by omega) hz11V;have hvb:∀ k,v.ownBlock=some k→z11≤k:=fun k e=>(hvr.lt k e).1
    have hz11q:w10.heap.size+1=z11:=by have:=Hz11.out;omega
    have hv3:w3.heap[q7]? = some (.cells #[v] 86 (0,0)):=(hg3.block q7 (by omega) (fun e=>by have:=hvb q7 e.symm;omega)).trans ((up2 q7 (by omega)).trans hv1);obtain ⟨a8'',f8⟩:=cell_of_box_a hv3;rcases hown3.2 with ⟨_,h0⟩ | ⟨g3,cap3,cur3,rfl,q1,q2,q3,q4,q5,q6⟩
    ·omega
    obtain ⟨np,hnp⟩:∃ np,np=pre.length+1:=⟨_,rfl⟩;rw [←hnp] at hap hown3;obtain ⟨w4,hw4⟩:∃ w4,w4=w3.setCell ⟨q7,0,none⟩ (.slice (some ⟨g3,0,none⟩) np cap3):=⟨_,rfl⟩;have hg4:w3.grownBy w4 (some q7):=by rw [hw4];exact grownBy_setCell0_a _ _ _
    have s3':V2.heap.size≤w3.heap.size:=hg3.size;have up4:∀ k,k≠q7→k<z11→k<V.heap.size→w4.heap[k]? = V.heap[k]? := fun k hk hz hl=>(hg4.block k (by omega) (fun e=>by cases e;exact hk rfl)).trans ((hg3.block k (by omega) (fun e=>by have:=hvb k e.symm;omega)).trans (up2 k hl))
    have hfin:∀ a,qiP w11.heap.size (fun k=>k=w10.heap.size∨k=g10) (RcJ w z0 gm q7 (rr+1) z11 n6 l DW S ib nb) (pre++[(i',b,r)]) V .normal a w4:=fun a=>by
     refine ⟨?_,fun k h => ?_,⟨⟨_,by rw [hw4];exact heap_setCell_box_a _ hv3,?_⟩,hwm.kept2 hlo (fun k hk hl=>up4 k (by omega) (by omega) hl),hlo,(up4 _ (by omega) (by omega) (by omega)).trans hmb,?_⟩⟩
     ·refine KeepsFrom.trans (?_:KeepsFrom _ V V2) (KeepsFrom.trans (?_:KeepsFrom _ V2 w3) (KeepsFrom.of_grownBy hg4 (fun j e=>by cases e;omega)))
      ·exact ⟨by omega,fun k o _ hk _=>(up2 k (lt_of_heap hk)).trans hk⟩
      exact ⟨hg3.size,fun k o _ hk hoc=>(hg3.block k (lt_of_heap hk) (fun e=>by
       rcases hvr2.2 with ⟨e2,_⟩ | ⟨g',cap',cur',e2,_,e3,_⟩
       ·rw [e2] at e;cases e
       rw [e2] at e;cases e;rw [hk] at e3;cases e3;cases hoc)).trans hk⟩
     ·exact up4 k (by rcases h with h | h<;>omega) (by rcases h with h | h<;>omega) (by rcases h with h | h<;>omega)
     ·have:=hown3.kept hg4 (ownsRow_ne_a hown3 hv3 (fun cur e=>by cases e))
      rw [List.map_append,List.map_singleton,qlI,List.length_append,List.length_singleton,←hnp];unfold rcs;rw [←hX,←hE,←hIB];exact this
     have hb2:Below z0 w V2:=by rw [hV2];exact (hbe.alloc (by omega) _).drew
     exact (hb2.grown hg3 (by omega) (fun k e=>by have:=hvb k e;omega)).grown hg4 (by omega) (fun k e=>by cases e;omega)
    have HV2:=hidI hV2;have HW4:=hidI hw4;clear hV hkb hx0 hv1 hvr hvr2 hwm hlo hmb hbe hX hE hIB up2 hr2 hown3 hg3 hnil3 hat3 hv3 q1 q2 q3 q4 q5 q6 hg4 s3' up4 hgV s2' hV2 hw4 hqV g02 hvb hnp hpre hSx;gi_wp2_with fail;refine wpIn_region_any (by kernel_rfl) ?_;refine wpAnyIn_ready (rs:=[0,1,2]) (by kernel_rfl) (by simp) ?_;refine AllReadyIn.cons rfl (fun K hK => ?_) (AllReadyIn.cons rfl (fun K hK => ?_) (AllReadyIn.cons rfl (fun K hK => ?_) (AllReadyIn.nil)))
    ·go_simp;refine hK _ _ ?_;clear hK K;refine wpAnyIn_ready (rs:=[1,2]) (by kernel_rfl) (by simp) ?_;refine AllReadyIn.cons rfl (fun K hK => ?_) (AllReadyIn.cons rfl (fun K hK => ?_) (AllReadyIn.nil))
     focus
      go_simp;refine hK _ _ ?_;clear hK K;refine wpAnyIn_ready (rs:=[2]) (by kernel_rfl) (by simp) ?_
     rotate_left
     focus
      go_simp;refine hK _ _ ?_;clear hK K;refine wpAnyIn_ready (rs:=[1]) (by kernel_rfl) (by simp) ?_
     rotate_left
     all_goals
      refine AllReadyIn.cons rfl (fun K hK => ?_) (AllReadyIn.nil)
      ·go_simp;refine hK _ _ ?_;clear hK K;refine rdI 3 (by kernel_rfl) rfl (fun K hK => ?_)
       ·go_simp;refine hK _ _ ?_;clear hK K;refine rdI 4 (by kernel_rfl) rfl (fun K hK => ?_)
        ·go_simp;refine hK _ _ ?_;rw [←HV2.out];clear hK K;refine rdI 5 (by kernel_rfl) rfl (fun K hK => ?_)
         ·refine qan rfl _ _ 86 rfl v (.slice (some ⟨V.heap.size,0,none⟩) 1 1) rfl rfl _ _ hap (hK _ _ ?_);simp only [Act.put,List.setIfInBounds_toArray,List.set];clear hK K;refine rdI 6 (by kernel_rfl) rfl (fun K hK => ?_)
          ·go_simp;refine hK _ _ ?_;rw [←HW4.out];clear hK K;refine wpAnyIn_done (by kernel_rfl) ?_ _;exact hfin { tmps:=#[],defers:=[] }
    ·go_simp;refine hK _ _ ?_;clear hK K;refine wpAnyIn_ready (rs:=[0,2]) (by kernel_rfl) (by simp) ?_;refine AllReadyIn.cons rfl (fun K hK => ?_) (AllReadyIn.cons rfl (fun K hK => ?_) (AllReadyIn.nil))
     ·go_simp;refine hK _ _ ?_;clear hK K;refine rdI 2 (by kernel_rfl) rfl (fun K hK => ?_)
      ·go_simp;refine hK _ _ ?_;clear hK K;refine rdI 3 (by kernel_rfl) rfl (fun K hK => ?_)
       ·go_simp;refine hK _ _ ?_;clear hK K;refine rdI 4 (by kernel_rfl) rfl (fun K hK => ?_)
        ·go_simp;refine hK _ _ ?_;rw [←HV2.out];clear hK K;refine rdI 5 (by kernel_rfl) rfl (fun K hK => ?_)
         ·refine qan rfl _ _ 86 rfl v (.slice (some ⟨V.heap.size,0,none⟩) 1 1) rfl rfl _ _ hap (hK _ _ ?_);simp only [Act.put,List.setIfInBounds_toArray,List.set];clear hK K;refine rdI 6 (by kernel_rfl) rfl (fun K hK => ?_)
          ·go_simp;refine hK _ _ ?_;rw [←HW4.out];clear hK K;refine wpAnyIn_done (by kernel_rfl) ?_ _;exact hfin { tmps:=#[],defers:=[] }
     go_simp;refine hK _ _ ?_;clear hK K;refine wpAnyIn_ready (rs:=[0,3]) (by kernel_rfl) (by simp) ?_;refine AllReadyIn.cons rfl (fun K hK => ?_) (AllReadyIn.cons rfl (fun K hK => ?_) (AllReadyIn.nil))
     ·go_simp;refine hK _ _ ?_;clear hK K;refine rdI 3 (by kernel_rfl) rfl (fun K hK => ?_)
      ·go_simp;refine hK _ _ ?_;clear hK K;refine rdI 4 (by kernel_rfl) rfl (fun K hK => ?_)
       ·go_simp;refine hK _ _ ?_;rw [←HV2.out];clear hK K;refine rdI 5 (by kernel_rfl) rfl (fun K hK => ?_)
        ·refine qan rfl _ _ 86 rfl v (.slice (some ⟨V.heap.size,0,none⟩) 1 1) rfl rfl _ _ hap (hK _ _ ?_);simp only [Act.put,List.setIfInBounds_toArray,List.set];clear hK K;refine rdI 6 (by kernel_rfl) rfl (fun K hK => ?_)
         ·go_simp;refine hK _ _ ?_;rw [←HW4.out];clear hK K;refine wpAnyIn_done (by kernel_rfl) ?_ _;exact hfin { tmps:=#[],defers:=[] }
     go_simp;refine hK _ _ ?_;clear hK K;refine wpAnyIn_ready (rs:=[0,4]) (by kernel_rfl) (by simp) ?_;refine AllReadyIn.cons rfl (fun K hK => ?_) (AllReadyIn.cons rfl (fun K hK => ?_) (AllReadyIn.nil))
     ·go_simp;refine hK _ _ ?_;clear hK K;refine rdI 4 (by kernel_rfl) rfl (fun K hK => ?_)
      ·go_simp;refine hK _ _ ?_;rw [←HV2.out];clear hK K;refine rdI 5 (by kernel_rfl) rfl (fun K hK => ?_)
       ·refine qan rfl _ _ 86 rfl v (.slice (some ⟨V.heap.size,0,none⟩) 1 1) rfl rfl _ _ hap (hK _ _ ?_);simp only [Act.put,List.setIfInBounds_toArray,List.set];clear hK K;refine rdI 6 (by kernel_rfl) rfl (fun K hK => ?_)
        ·go_simp;refine hK _ _ ?_;rw [←HW4.out];clear hK K;refine wpAnyIn_done (by kernel_rfl) ?_ _;exact hfin { tmps:=#[],defers:=[] }
     go_simp;refine hK _ _ ?_;rw [←HV2.out];clear hK K;refine rdI 0 (by kernel_rfl) rfl (fun K hK => ?_)
     ·go_simp;refine hK _ _ ?_;clear hK K;refine rdI 5 (by kernel_rfl) rfl (fun K hK => ?_)
      ·refine qan rfl _ _ 86 rfl v (.slice (some ⟨V.heap.size,0,none⟩) 1 1) rfl rfl _ _ hap (hK _ _ ?_);simp only [Act.put,List.setIfInBounds_toArray,List.set];clear hK K;refine rdI 6 (by kernel_rfl) rfl (fun K hK => ?_)
       ·go_simp;refine hK _ _ ?_;rw [←HW4.out];clear hK K;refine wpAnyIn_done (by kernel_rfl) ?_ _;exact hfin { tmps:=#[],defers:=[] }
    go_simp;refine hK _ _ ?_;clear hK K;refine wpAnyIn_ready (rs:=[0,1]) (by kernel_rfl) (by simp) ?_;refine AllReadyIn.cons rfl (fun K hK => ?_) (AllReadyIn.cons rfl (fun K hK => ?_) (AllReadyIn.nil))
    ·go_simp;refine hK _ _ ?_;clear hK K;refine rdI 1 (by kernel_rfl) rfl (fun K hK => ?_)
     ·go_simp;refine hK _ _ ?_;clear hK K;refine rdI 3 (by kernel_rfl) rfl (fun K hK => ?_)
      ·go_simp;refine hK _ _ ?_;clear hK K;refine rdI 4 (by kernel_rfl) rfl (fun K hK => ?_)
       ·go_simp;refine hK _ _ ?_;rw [←HV2.out];clear hK K;refine rdI 5 (by kernel_rfl) rfl (fun K hK => ?_)
        ·refine qan rfl _ _ 86 rfl v (.slice (some ⟨V.heap.size,0,none⟩) 1 1) rfl rfl _ _ hap (hK _ _ ?_);simp only [Act.put,List.setIfInBounds_toArray,List.set];clear hK K;refine rdI 6 (by kernel_rfl) rfl (fun K hK => ?_)
         ·go_simp;refine hK _ _ ?_;rw [←HW4.out];clear hK K;refine wpAnyIn_done (by kernel_rfl) ?_ _;exact hfin { tmps:=#[],defers:=[] }
    go_simp;refine hK _ _ ?_;clear hK K;refine wpAnyIn_ready (rs:=[0,3]) (by kernel_rfl) (by simp) ?_;refine AllReadyIn.cons rfl (fun K hK => ?_) (AllReadyIn.cons rfl (fun K hK => ?_) (AllReadyIn.nil))
    ·go_simp;refine hK _ _ ?_;clear hK K;refine rdI 3 (by kernel_rfl) rfl (fun K hK => ?_)
     ·go_simp;refine hK _ _ ?_;clear hK K;refine rdI 4 (by kernel_rfl) rfl (fun K hK => ?_)
      ·go_simp;refine hK _ _ ?_;rw [←HV2.out];clear hK K;refine rdI 5 (by kernel_rfl) rfl (fun K hK => ?_)
       ·refine qan rfl _ _ 86 rfl v (.slice (some ⟨V.heap.size,0,none⟩) 1 1) rfl rfl _ _ hap (hK _ _ ?_);simp only [Act.put,List.setIfInBounds_toArray,List.set];clear hK K;refine rdI 6 (by kernel_rfl) rfl (fun K hK => ?_)
        ·go_simp;refine hK _ _ ?_;rw [←HW4.out];clear hK K;refine wpAnyIn_done (by kernel_rfl) ?_ _;exact hfin { tmps:=#[],defers:=[] }
    go_simp;refine hK _ _ ?_;clear hK K;refine wpAnyIn_ready (rs:=[0,4]) (by kernel_rfl) (by simp) ?_;refine AllReadyIn.cons rfl (fun K hK => ?_) (AllReadyIn.cons rfl (fun K hK => ?_) (AllReadyIn.nil))
    ·go_simp;refine hK _ _ ?_;clear hK K;refine rdI 4 (by kernel_rfl) rfl (fun K hK => ?_)
     ·go_simp;refine hK _ _ ?_;rw [←HV2.out];clear hK K;refine rdI 5 (by kernel_rfl) rfl (fun K hK => ?_)
      ·refine qan rfl _ _ 86 rfl v (.slice (some ⟨V.heap.size,0,none⟩) 1 1) rfl rfl _ _ hap (hK _ _ ?_);simp only [Act.put,List.setIfInBounds_toArray,List.set];clear hK K;refine rdI 6 (by kernel_rfl) rfl (fun K hK => ?_)
       ·go_simp;refine hK _ _ ?_;rw [←HW4.out];clear hK K;refine wpAnyIn_done (by kernel_rfl) ?_ _;exact hfin { tmps:=#[],defers:=[] }
    go_simp;refine hK _ _ ?_;rw [←HV2.out];clear hK K;refine rdI 0 (by kernel_rfl) rfl (fun K hK => ?_)
    ·go_simp;refine hK _ _ ?_;clear hK K;refine rdI 5 (by kernel_rfl) rfl (fun K hK => ?_)
     ·refine qan rfl _ _ 86 rfl v (.slice (some ⟨V.heap.size,0,none⟩) 1 1) rfl rfl _ _ hap (hK _ _ ?_);simp only [Act.put,List.setIfInBounds_toArray,List.set];clear hK K;refine rdI 6 (by kernel_rfl) rfl (fun K hK => ?_)
      ·go_simp;refine hK _ _ ?_;rw [←HW4.out];clear hK K;refine wpAnyIn_done (by kernel_rfl) ?_ _;exact hfin { tmps:=#[],defers:=[] }
   intro D' W hD hI hK;obtain ⟨⟨v,hv1,hv3⟩,hwm,hlo,hmb,hbe⟩:=hI;rw [qmn,qbF] at hv3;obtain ⟨hc3,hf3⟩:=cell_of_box_a hv1;rcases hv3.2 with ⟨_,h0⟩ | ⟨g3,cap3,cur3,rfl,_⟩
   ·exact absurd (List.length_eq_zero_iff.1 h0) hone
   have hz11V:z0≤z11:=by have:=Hz11.out;omega
   gi_wp2;refine ⟨by simp,.inl ⟨_,_,rfl,run_takeDeferred hK,?_⟩⟩;refine ⟨_,results_tmp rfl _ _ _,_,ord,ib,nb,rfl,HT.out,hol,ownsRow_base_a (hv3.kept (grownBy_putObj_a _ _ _) (ownsRow_ne_a hv3 hK (fun cur e=>by cases e))) hz11V,fun x hx => ?_,hbe.grown (grownBy_putObj_a _ _ _) (by have:=hwm.own.lt;omega) (fun k e=>by cases e;omega)⟩;have h3:=HT.out.mem hx;obtain ⟨g1,g2,g3',g4,g5,g6,g7⟩:=hwm.recs x.1 x.2 (by rw [HS2.out x.1 x.2 h3.1 h3.2.1];exact h3.2.2);exact ⟨g3',by omega,g6,g7.of_block (World.putObj_heap_other (by have:=hlo x.1 x.2 (by rw [HS2.out x.1 x.2 h3.1 h3.2.1];exact h3.2.2);omega))⟩
  intro x cv kl yd yp w2 cnt2 hkey hlk hv hat hrg2 hlt2 hg2 hs2 hen;have hhas:Maps.has D kl=true:=Maps.has_true_of_atKey hat;obtain ⟨b,r,hb,hr,rfl⟩:=HDk.out kl hhas;have hx:x=lv b r:=law90.inj (hkey.trans rfl) (key90 hb hr);subst hx;have hrr2:rr<w2.heap.size:=by omega
  have hne2:∀ k,k≠rr→k<wr.heap.size→w2.heap[k]? = wr.heap[k]? := fun k hk hlt=>hg2.block k hlt (fun e=>by cases e;exact hk rfl)
  obtain ⟨DW,S,ib,nb,hwm,hSe⟩:=HS.out;have hwm2:WM w2 (rr+1) gm n6 l DW S ib nb:=hwm.kept (fun k hk hl=>hne2 k (by omega) hl);have hcnt:n6+1+cnt2≤100000:=by omega
  have hF2:FAt w2 z0 (m.nb*m.np) (lookF l):=HF.out.of_block (hne2 z0 (by omega) (by omega));have hR2:w2.heap[gm+1]? = some (.cells #[.map (some gm)] 137 (0,0)):=(hne2 (gm+1) (by omega) (by omega)).trans HR.out;have hB2:Below z0 w w2:=HB.out.grown hg2 (by omega) (fun q hq=>by cases hq;omega);obtain ⟨kb,hkb⟩:∃ kb,kb=w2.heap.size:=⟨_,rfl⟩;obtain ⟨W3',hW3⟩:∃ W3',W3'=w2.alloc (.cells #[.int .i64 (b:Nat),.int .u32 (r:Nat)] 90):=⟨_,rfl⟩;have s3:W3'.heap.size=kb+1:=by rw [hW3,hkb];simp
  have hr3:W3'.heap[kb]? = some (.cells #[.int .i64 (b:Nat),.int .u32 (r:Nat)] 90 (0,0)):=by rw [hW3,hkb];exact heap_alloc_new _ _
  have c0:W3'.cell? ⟨kb,0,none⟩=some (.int .i64 (b:Nat)):=by rw [cell_of_row W3' kb 0 _ 90 (0,0) hr3];rfl
  have c1:W3'.cell? ⟨kb,1,none⟩=some (.int .u32 (r:Nat)):=by rw [cell_of_row W3' kb 1 _ 90 (0,0) hr3];rfl
  have up3:∀ k,k<kb→W3'.heap[k]? = w2.heap[k]? := fun k hk=>by rw [hW3];exact Below.heap_alloc _ _ _ (by omega)
  have hF3:=hF2.of_block (up3 z0 (by omega));have A:=hidI (qhz W3' z0 (m.nb*m.np) l b r hF3 Hok.out hb hr);have Hrg2:Hid (W3'.ranges Tryz.prog 90 unitElem (gm+2) rr 100000 D (fun z=>left z && !z.sameKey (lk b r)) cnt2):=hidI (by rw [hW3];exact hrg2.alloc _);have Hrg:=hidI hrg;have Hlt2:=hidI hlt2;have HW3:=hidI hW3;have Hkb:=hidI hkb;have Hs3':=hidI s3;have Hup3:=hidI up3;have Hwm2:=hidI hwm2;have HSe:=hidI hSe;have Hhs:=hidI hhas;have HF2:=hidI hF3;have HR2:=hidI ((up3 (gm+1) (by omega)).trans hR2);have HB2:Hid (Below z0 w W3'):=hidI (by rw [hW3];exact hB2.alloc (by omega) _);have hkr:rr<kb:=by omega
  have Hr3':=hidI hr3;clear hrg hrg2 hg2 hs2 hlt2 hat hv hkey hlk hhas hne2 hwm hwm2 hSe hF2 hR2 hB2 hkb hW3 s3 hr3 up3 hF3 HS HF HR HB
  try simp only [id] at hen
  unfold lv at hen
  try simp only [id]
  unfold lv at A ⊢;gi_wp2_with (first | (rw [←HW3.out,←Hkb.out]) | gi_in);refine ⟨trivial,(callsIn_wide.2 A.out).mono ?_⟩;rintro e w4' ⟨hb4,hcase⟩;have hcomb:∀ S':Nat→Nat→Bool,(∀ x y,x≤1000000→y≤4294967295→S' x y=((x==b&&y==r&&(recF l b r).isSome)||S x y))→∀ x y,x≤1000000→y≤4294967295→S' x y=(Maps.has D (lk x y) && !(left (lk x y) && !(lk x y).sameKey (lk b r))&&(recF l x y).isSome):=fun S' hS' x y h1 h2=>by
   rw [hS' x y h1 h2,HSe.out x y h1 h2];by_cases e:x=b∧y=r
   ·obtain ⟨rfl,rfl⟩:=e;have hs:Lit.sameKey (lk x y) (lk x y)=true:=by simp [Lit.sameKey,lk]
    rw [hs,Hhs.out];cases (recF l x y).isSome<;>simp
   have hne:lk x y≠lk b r:=fun h'=>e (qd4 h1 h2 hb hr h')
   rw [Maps.sameKey_ne hne]
   have:(x==b&&y==r)=false:=by simpa using fun h1 h2=>e ⟨h1,h2⟩
   rw [this];simp
  have Hcomb:=hidI hcomb;clear hcomb;rw [Hs3'.out] at hb4 hcase;have hgb4:kb+1≤w4'.heap.size:=by have:=hb4.size;rw [Hs3'.out] at this;exact this
  rcases hcase with ⟨ps',ii,n',hps',rfl,hib,hn',hBl⟩ | ⟨hno,X,y,z,q,k,rfl⟩
  ·obtain ⟨X,hX⟩:∃ X,X=txt (txtF ps'):=⟨_,rfl⟩;obtain ⟨E,hE⟩:∃ E,E=endF ps':=⟨_,rfl⟩;obtain ⟨W5',hW5⟩:∃ W5',W5'=w4'.alloc (.cells #[.string X,.int .i64 (b:Nat),.int .u32 (r:Nat),.map (some ii),.int .i64 (E:Nat)] 94):=⟨_,rfl⟩;obtain ⟨q5,hq5⟩:∃ q5,q5=w4'.heap.size:=⟨_,rfl⟩;have s5:W5'.heap.size=q5+1:=by rw [hW5,hq5];simp
   have up5:∀ k,k≤kb→W5'.heap[k]? = W3'.heap[k]? := fun k hk=>by rw [hW5];exact (Below.heap_alloc _ _ _ (by omega)).trans (hb4.block k (by omega))
   have hr5:W5'.heap[q5]? = some (.cells #[.string X,.int .i64 (b:Nat),.int .u32 (r:Nat),.map (some ii),.int .i64 (E:Nat)] 94 (0,0)):=by rw [hW5,hq5];exact heap_alloc_new _ _
   have d0:W5'.cell? ⟨q5,0,none⟩=some (.string X):=by rw [cell_of_row W5' q5 0 _ 94 (0,0) hr5];rfl
   have d1:W5'.cell? ⟨q5,1,none⟩=some (.int .i64 (b:Nat)):=by rw [cell_of_row W5' q5 1 _ 94 (0,0) hr5];rfl
   have d2:W5'.cell? ⟨q5,2,none⟩=some (.int .u32 (r:Nat)):=by rw [cell_of_row W5' q5 2 _ 94 (0,0) hr5];rfl
   have d3:W5'.cell? ⟨q5,3,none⟩=some (.map (some ii)):=by rw [cell_of_row W5' q5 3 _ 94 (0,0) hr5];rfl
   have d4:W5'.cell? ⟨q5,4,none⟩=some (.int .i64 (E:Nat)):=by rw [cell_of_row W5' q5 4 _ 94 (0,0) hr5];rfl
   have e0:W5'.cell? ⟨kb,0,none⟩=some (.int .i64 (b:Nat)):=(World.cell?_of_block (up5 kb (Nat.le_refl _))).trans c0;have e1:W5'.cell? ⟨kb,1,none⟩=some (.int .u32 (r:Nat)):=(World.cell?_of_block (up5 kb (Nat.le_refl _))).trans c1;have e2:W5'.cell? ⟨gm+1,0,none⟩=some (.map (some gm)):=by rw [cell_of_row W5' (gm+1) 0 _ 137 (0,0) ((up5 (gm+1) (by omega)).trans HR2.out)];rfl
   have hkbs:=Hkb.out;have hwm5:WM W5' (rr+1) gm n6 l DW S ib nb:=Hwm2.out.kept (fun k hk hl=>(up5 k (by omega)).trans (Hup3.out k (by omega)));have hBl5:BlAt W5' ii n' (inF ps'):=hBl.of_block (by rw [hW5];exact Below.heap_alloc _ _ _ hBl.lt);obtain ⟨w6,D6,ib6,nb6,hu,hwm6,hm6⟩:=hwm5.store hb hr hps' (i:=ii) (k:=n') (by omega) hn' hBl5 (by omega) (by omega);have hg6:=hm6.grown;have up6:∀ k,k≠gm→k<W5'.heap.size→w6.heap[k]? = W5'.heap[k]? := fun k hk hlt=>hg6.block k hlt (fun e=>by cases e;exact hk rfl)
   unfold rv lv at hu;rw [←hX,←hE] at hu;have hb35:Below (kb+1) W3' W5':=by rw [hW5];exact hb4.alloc hgb4 _
   have HB6:Hid (Below z0 w w6):=hidI ((HB2.out.trans (hb35.mono (by omega))).grown hg6 (by omega) (fun k e=>by cases e;omega));have hrg6:w6.ranges Tryz.prog 90 unitElem (gm+2) rr 100000 D (fun z=>left z && !z.sameKey (lk b r)) cnt2:=by
    have hgb:W3'.grownBy W5' none:=⟨hb35.os,hb35.tape,hb35.output,hb35.size,fun k hk _=>hb35.block k (by rw [Hs3'.out] at hk;exact hk)⟩;exact (Hrg2.out.kept hgb (by simp) (by simp)).kept hg6 (by simp) (by simp;omega)
   have HS6:Hid (StW w6 (fun z=>left z && !z.sameKey (lk b r)) (rr+1) gm (n6+1) l (Maps.has D)):=hidI ⟨D6,_,ib6,nb6,hwm6,Hcomb.out _ (fun x y _ _=>by rw [hps'];simp)⟩;have HF6:Hid (FAt w6 z0 (m.nb*m.np) (lookF l)):=hidI (HF2.out.of_block ((up6 z0 (by omega) (by omega)).trans (up5 z0 (by omega))));have HR6:Hid (w6.heap[gm+1]? = some (.cells #[.map (some gm)] 137 (0,0))):=hidI ((up6 (gm+1) (by omega) (by omega)).trans ((up5 (gm+1) (by omega)).trans HR2.out));have hr6:rr<w6.heap.size:=by have:=hg6.size;omega
   have Hrg6:=hidI hrg6;have HW5:=hidI hW5;have Hq5:=hidI hq5;rw [←hX,←hE];clear hX hE hb4 hBl hBl5 hW5 hq5 up5 hr5 hwm5 hwm6 hm6 hg6 up6 hb35 hrg6 hps' HB2 HF2 HR2 Hwm2 Hup3 Hr3' A hen s5 hkbs;gi_wp2_with (first | (rw [←HW5.out,←Hq5.out]) | gi_in);go_roundw
   case rel=>exact ⟨_,cnt2,n6+1,Hrg6.out,hcnt,HS6,HF6,HR6,HB6,hr6⟩
   case measure=>rw [Hrg6.out.left_eq,Hrg.out.left_eq];exact Hlt2.out
  obtain ⟨W5',hW5⟩:∃ W5',W5'=w4'.alloc (.cells #[.string X,.int .i64 y,.int .u32 z,.map q,.int .i64 k] 94):=⟨_,rfl⟩;obtain ⟨q5,hq5⟩:∃ q5,q5=w4'.heap.size:=⟨_,rfl⟩;have s5:W5'.heap.size=q5+1:=by rw [hW5,hq5];simp
  have up5:∀ k,k≤kb→W5'.heap[k]? = W3'.heap[k]? := fun k hk=>by rw [hW5];exact (Below.heap_alloc _ _ _ (by omega)).trans (hb4.block k (by omega))
  have hkbs:=Hkb.out;have hwm5:WM W5' (rr+1) gm n6 l DW S ib nb:=Hwm2.out.kept (fun k hk hl=>(up5 k (by omega)).trans (Hup3.out k (by omega)));have hb35:Below (kb+1) W3' W5':=by rw [hW5];exact hb4.alloc hgb4 _
  have HB6:Hid (Below z0 w W5'):=hidI (HB2.out.trans (hb35.mono (by omega)));have hrg6:W5'.ranges Tryz.prog 90 unitElem (gm+2) rr 100000 D (fun z=>left z && !z.sameKey (lk b r)) cnt2:=by
   have hgb:W3'.grownBy W5' none:=⟨hb35.os,hb35.tape,hb35.output,hb35.size,fun k hk _=>hb35.block k (by rw [Hs3'.out] at hk;exact hk)⟩;exact Hrg2.out.kept hgb (by simp) (by simp)
  have HS6:Hid (StW W5' (fun z=>left z && !z.sameKey (lk b r)) (rr+1) gm n6 l (Maps.has D)):=hidI ⟨DW,S,ib,nb,hwm5,Hcomb.out _ (fun x y _ _=>by rw [hno];simp)⟩;have HF6:Hid (FAt W5' z0 (m.nb*m.np) (lookF l)):=hidI (HF2.out.of_block (up5 z0 (by omega)));have HR6:Hid (W5'.heap[gm+1]? = some (.cells #[.map (some gm)] 137 (0,0))):=hidI ((up5 (gm+1) (by omega)).trans HR2.out);have hr6:rr<W5'.heap.size:=by omega
  have Hrg6:=hidI hrg6;have HW5:=hidI hW5;have Hq5:=hidI hq5;clear hb4 hW5 hq5 up5 hwm5 hb35 hrg6 hno HB2 HF2 HR2 Hwm2 Hup3 Hr3' A hen s5 hkbs;gi_wp2_with (first | (rw [←HW5.out,←Hq5.out]) | gi_in);go_roundw
  case rel=>exact ⟨_,cnt2,n6,Hrg6.out,by omega,HS6,HF6,HR6,HB6,hr6⟩
  case measure=>rw [Hrg6.out.left_eq,Hrg.out.left_eq];exact Hlt2.out
end Go.Proofs.YtodmdkhdbfbfgaaGreatDoor.S1
namespace Go.Proofs.YtodmdkhdbfbfgaaGreatDoor.S1
open Go.RowKit Pk
theorem qit {P:Program} {c:Code} {Q:Exit→Act→World→Prop} {a:Act} {w:World} {F:Act} {W:World} (reg:c.wp P (NoPanic fun e a' w'=>e=.normal∧a'=F∧w'=W) a w) (cont:Q .normal F W):c.wp P Q a w:=by
 refine Code.wp_mono (fun e a' w' h => ?_) reg;cases e with
 | panic c=>exact (h:False).elim
 | normal =>
   obtain ⟨_,h2,h3⟩:Exit.normal=Exit.normal∧a'=F∧w'=W:=h;rw [h2,h3];exact cont
 | _ =>
   have h':=NoPanic.imp _ _ _ h;obtain ⟨h1,_,_⟩:=h';cases h1
structure Lv where
 nb:Nat
 nn:Nat
 tk:Option Nat
def LogAt (w:World) (lb cb:Nat) (lv:Lv) (kv qv:Option Nat) (b p:Nat):Prop:=w.heap[lb]? = some (.cells #[.pointer (some ⟨cb,0,none⟩),.int .i64 (lv.nb:Nat),.int .u32 (lv.nn:Nat),.map kv,.map lv.tk,.map qv,.int .i64 (b:Nat),.int .i64 (p:Nat)] 132 (0,0))
namespace LogAt
variable {w:World} {lb cb:Nat} {lv:Lv} {kv qv:Option Nat} {b p:Nat}
theorem lt (h:LogAt w lb cb lv kv qv b p):lb<w.heap.size:=lt_of_heap h
theorem of_block {w':World} (h:LogAt w lb cb lv kv qv b p) (e:w'.heap[lb]? = w.heap[lb]?):LogAt w' lb cb lv kv qv b p:=e.trans h
theorem c0 (h:LogAt w lb cb lv kv qv b p):w.cell? ⟨lb,0,none⟩=some (.pointer (some ⟨cb,0,none⟩)):=by rw [cell_of_row w lb 0 _ 132 (0,0) h];rfl
theorem n0 (h:LogAt w lb cb lv kv qv b p):w.cell? ⟨lb,1,none⟩=some (.int .i64 (lv.nb:Nat)):=by rw [cell_of_row w lb 1 _ 132 (0,0) h];rfl
theorem n1 (h:LogAt w lb cb lv kv qv b p):w.cell? ⟨lb,2,none⟩=some (.int .u32 (lv.nn:Nat)):=by rw [cell_of_row w lb 2 _ 132 (0,0) h];rfl
theorem c2 (h:LogAt w lb cb lv kv qv b p):w.cell? ⟨lb,3,none⟩=some (.map kv):=by rw [cell_of_row w lb 3 _ 132 (0,0) h];rfl
theorem t4 (h:LogAt w lb cb lv kv qv b p):w.cell? ⟨lb,4,none⟩=some (.map lv.tk):=by rw [cell_of_row w lb 4 _ 132 (0,0) h];rfl
theorem c3 (h:LogAt w lb cb lv kv qv b p):w.cell? ⟨lb,5,none⟩=some (.map qv):=by rw [cell_of_row w lb 5 _ 132 (0,0) h];rfl
theorem c4 (h:LogAt w lb cb lv kv qv b p):w.cell? ⟨lb,6,none⟩=some (.int .i64 (b:Nat)):=by rw [cell_of_row w lb 6 _ 132 (0,0) h];rfl
theorem c5 (h:LogAt w lb cb lv kv qv b p):w.cell? ⟨lb,7,none⟩=some (.int .i64 (p:Nat)):=by rw [cell_of_row w lb 7 _ 132 (0,0) h];rfl
theorem fz (h:LogAt w lb cb lv kv qv b p) (k:Nat):w.frozen? ⟨lb,k,none⟩=false:=frozen_of_row w lb k _ 132 h
theorem set2 (h:LogAt w lb cb lv kv qv b p) (x:Option Nat):LogAt (w.setCell ⟨lb,3,none⟩ (.map x)) lb cb lv x qv b p:=heap_setCell_same w lb 3 _ 132 (.map x) h
theorem setT (h:LogAt w lb cb lv kv qv b p) (x:Option Nat):LogAt (w.setCell ⟨lb,4,none⟩ (.map x)) lb cb ⟨lv.nb,lv.nn,x⟩ kv qv b p:=heap_setCell_same w lb 4 _ 132 (.map x) h
theorem set4 (h:LogAt w lb cb lv kv qv b p) (x:Nat):LogAt (w.setCell ⟨lb,6,none⟩ (.int .i64 (x:Nat))) lb cb lv kv qv x p:=heap_setCell_same w lb 6 _ 132 _ h
theorem set5 (h:LogAt w lb cb lv kv qv b p) (x:Nat):LogAt (w.setCell ⟨lb,7,none⟩ (.int .i64 (x:Nat))) lb cb lv kv qv b x:=heap_setCell_same w lb 7 _ 132 _ h
end LogAt
def Apart (v:Option Nat) (lo hi lb:Nat):Prop:=∀ g,v=some g→g≠lb∧¬(lo≤g∧g<hi)
theorem BlV.of_blocks {w w':World} {v:Option Nat} {n:Nat} {S:Nat→Bool} (h:BlV w v n S) (e:∀ g,v=some g→g<w.heap.size→w'.heap[g]? = w.heap[g]?):BlV w' v n S:=by
 rcases h with ⟨rfl,h⟩ | ⟨b,rfl,h⟩
 ·exact .inl ⟨rfl,h⟩
 exact .inr ⟨b,rfl,h.of_block (e b rfl h.lt)⟩
structure LogM (w:World) (lo hi cb lb:Nat) (L:Loc) (lv:Lv) (kv qv:Option Nat) (nk nq:Nat) (m:M) (K Q:Nat→Bool) (b p:Nat):Prop where
 log:LogAt w lb cb lv kv qv b p
 chip:CP w lo hi cb L m
 wf:WF m
 kept:BlV w kv nk K
 clean:BlV w qv nq Q
 ak:Apart kv lo hi lb
 aq:Apart qv lo hi lb
 kq:∀ g,kv=some g→qv≠some g
 al:¬(lo≤lb∧lb<hi)
 sz:hi≤w.heap.size
def LogS (lo hi lb:Nat) (kv qv:Option Nat) (k:Nat):Prop:=(lo≤k∧k<hi)∨k=lb∨kv=some k∨qv=some k
namespace LogM
variable {w w':World} {lo hi cb lb:Nat} {L:Loc} {lv:Lv} {kv qv:Option Nat} {nk nq:Nat} {m m':M} {K Q:Nat→Bool} {b p:Nat}
theorem of_blocks (h:LogM w lo hi cb lb L lv kv qv nk nq m K Q b p) (hs:hi≤w'.heap.size) (e:∀ k,LogS lo hi lb kv qv k→k<w.heap.size→w'.heap[k]? = w.heap[k]?):LogM w' lo hi cb lb L lv kv qv nk nq m K Q b p:=
 ⟨h.log.of_block (e lb (.inr (.inl rfl)) h.log.lt),MemX.of_blocks h.chip fun k h1 h2=>e k (.inl ⟨h1,h2⟩) (Nat.lt_of_lt_of_le h2 h.sz),h.wf,h.kept.of_blocks fun g hg hl=>e g (.inr (.inr (.inl hg))) hl,h.clean.of_blocks fun g hg hl=>e g (.inr (.inr (.inr hg))) hl,h.ak,h.aq,h.kq,h.al,hs⟩
theorem new (h:LogM w lo hi cb lb L lv kv qv nk nq m K Q b p) (hb:Below w.heap.size w w'):LogM w' lo hi cb lb L lv kv qv nk nq m K Q b p:=
 h.of_blocks (Nat.le_trans h.sz hb.size) fun k _ hk=>hb.block k hk
theorem drew (h:LogM w lo hi cb lb L lv kv qv nk nq m K Q b p):LogM w.drew lo hi cb lb L lv kv qv nk nq m K Q b p:=h.of_blocks h.sz fun k _ hk=>rfl
theorem field (h:LogM w lo hi cb lb L lv kv qv nk nq m K Q b p) {o:Nat} {x:Value} {lv':Lv} {b' p':Nat} (hl:LogAt (w.setCell ⟨lb,o,none⟩ x) lb cb lv' kv qv b' p'):LogM (w.setCell ⟨lb,o,none⟩ x) lo hi cb lb L lv' kv qv nk nq m K Q b' p':=by
 have e:∀ k,k≠lb→(w.setCell ⟨lb,o,none⟩ x).heap[k]? = w.heap[k]? := fun k hk=>Below.heap_setCell w ⟨lb,o,none⟩ x k hk
 exact ⟨hl,MemX.of_blocks h.chip fun k h1 h2=>e k (fun e'=>h.al (by subst e';exact ⟨h1,h2⟩)),h.wf,h.kept.of_blocks fun g hg _=>e g (h.ak g hg).1,h.clean.of_blocks fun g hg _=>e g (h.aq g hg).1,h.ak,h.aq,h.kq,h.al,by have:=h.sz;simpa using this⟩
theorem set4 (h:LogM w lo hi cb lb L lv kv qv nk nq m K Q b p) (x:Nat):LogM (w.setCell ⟨lb,6,none⟩ (.int .i64 (x:Nat))) lo hi cb lb L lv kv qv nk nq m K Q x p:=h.field (h.log.set4 x)
theorem set5 (h:LogM w lo hi cb lb L lv kv qv nk nq m K Q b p) (x:Nat):LogM (w.setCell ⟨lb,7,none⟩ (.int .i64 (x:Nat))) lo hi cb lb L lv kv qv nk nq m K Q b x:=h.field (h.log.set5 x)
theorem turn (h:LogM w lo hi cb lb L lv kv qv nk nq m K Q b p) (hc:CP w' lo hi cb L m') (hw:WF m') (ho:Only lo hi w w'):LogM w' lo hi cb lb L lv kv qv nk nq m' K Q b p:=
 ⟨h.log.of_block (ho.block lb h.log.lt h.al),hc,hw,h.kept.of_blocks fun g hg hl=>ho.block g hl (h.ak g hg).2,h.clean.of_blocks fun g hg hl=>ho.block g hl (h.aq g hg).2,h.ak,h.aq,h.kq,h.al,Nat.le_trans h.sz ho.size⟩
theorem qset {g:Nat} (h:LogM w lo hi cb lb L lv kv (some g) nk nq m K Q b p) {nq':Nat} {Q':Nat→Bool} (hq:BlAt w' g nq' Q') (hm:w.mapTurned w' g):LogM w' lo hi cb lb L lv kv (some g) nk nq' m K Q' b p:=by
 have e:∀ k,k<w.heap.size→k≠g→w'.heap[k]? = w.heap[k]? := fun k hk hn=>hm.grown.block k hk (fun e=>by cases e;exact hn rfl)
 have hg:=h.aq g rfl;exact ⟨h.log.of_block (e lb h.log.lt (fun e=>hg.1 e.symm)),MemX.of_blocks h.chip fun k h1 h2=>e k (Nat.lt_of_lt_of_le h2 h.sz) (fun e'=>hg.2 (by subst e';exact ⟨h1,h2⟩)),h.wf,h.kept.of_blocks fun g' hg' hl=>e g' hl (fun e'=>h.kq g' hg' (by rw [e'])),.inr ⟨g,rfl,hq⟩,h.ak,h.aq,h.kq,h.al,Nat.le_trans h.sz hm.grown.size⟩
theorem del (h:LogM w lo hi cb lb L lv kv qv nk nq m K Q b p) {i:Nat} (hi':i≤1000000):∃ V,(Builtin.delete_ #[92,3] 0 #[.map qv,.int .i64 (i:Nat)]).run Tryz.prog w=.ok (.tuple #[]) V∧LogM V lo hi cb lb L lv kv qv nk nq m K (fun j => !(j==i)&&Q j) b p∧Fm (LogS lo hi lb kv qv) w V:=by
 rcases h.clean with ⟨rfl,hn⟩ | ⟨g,rfl,hg⟩
 ·refine ⟨w,Maps.drop_nil law3 Tryz.underlying92 (key3 hi') 0,⟨h.log,h.chip,h.wf,h.kept,.inl ⟨rfl,fun j=>by simp [hn j]⟩,h.ak,h.aq,h.kq,h.al,h.sz⟩,Fm.refl _ _⟩
 obtain ⟨V,h1,h2,h3⟩:=hg.drop hi' 0;exact ⟨V,h1,h.qset h2 h3,(Fm.refl _ _).map (fun _=>.inr (.inr (.inr rfl))) h3⟩
end LogM
def openF (m:M) (K Q:Nat→Bool) (b:Nat):Bool × M × (Nat→Bool) × Nat:=
 if K ((b+1)%m.nb) then (false,m,Q,m.np)
 else if Q ((b+1)%m.nb) then (true,m,(fun j => !(j==(b+1)%m.nb)&&Q j),0)
 else if (eraA m (((b+1)%m.nb:Nat):Int)).1 then (true,(eraA m (((b+1)%m.nb:Nat):Int)).2,(fun j => !(j==(b+1)%m.nb)&&Q j),0)
 else (false,(eraA m (((b+1)%m.nb:Nat):Int)).2,Q,m.np)
end Go.Proofs.YtodmdkhdbfbfgaaGreatDoor.S1
