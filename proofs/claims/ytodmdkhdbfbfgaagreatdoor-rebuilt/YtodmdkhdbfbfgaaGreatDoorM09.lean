/- Lemmas. -/
import Derived.Test.YtodmdkhdbfbfgaaGreatDoorM08
set_option linter.unusedVariables false
set_option linter.unusedSimpArgs false
set_option maxRecDepth 100000
set_option maxHeartbeats 8000000
namespace Go.Proofs.YtodmdkhdbfbfgaaGreatDoor.S1
open Go.RowKit Pk Go.Shelf Go.Sort Go.Maps
def numsOf (ls:List (Nat × Nat)) (b:Nat):List Nat:=(ls.filter (fun x=>x.1==b)).map (·.2)
theorem qfZ (ls:List (Nat × Nat)) (x:Nat × Nat) (c:Nat):numsOf (ls++[x]) c=if c=x.1 then numsOf ls x.1++[x.2] else numsOf ls c:=by
 unfold numsOf;rw [List.filter_append,List.map_append];by_cases h:c=x.1
 ·subst h;simp
 have:(x.1==c)=false:=by simpa using fun e=>h e.symm
 simp [this,h]
theorem qkm (ls:List (Nat × Nat)) {i:Nat} (h:i<ls.length):(lbs ls)[i*2]? = some (.int .i64 (ls[i].1:Nat))∧(lbs ls)[i*2+1]? = some (.int .u32 (ls[i].2:Nat)):=by
 induction ls generalizing i with
 | nil=>simp at h
 | cons x l ih =>
   have e:lbs (x :: l)=.int .i64 (x.1:Nat) :: .int .u32 (x.2:Nat) :: lbs l:=by simp [lbs]
   rw [e];cases i with
   | zero=>exact ⟨rfl,rfl⟩
   | succ i =>
     have:=ih (i:=i) (by simpa using h)
     rw [show (i+1)*2=i*2+1+1 by omega];simpa using this
theorem qfl (ls:List (Nat × Nat)) (b:Nat):(numsOf ls b).length≤ls.length:=by
 unfold numsOf;rw [List.length_map];exact List.length_filter_le _ _
def lbOf (b:Nat) (ys:List Nat):List (Nat × Nat):=ys.map (fun y=>(b,y))
def TurnP (w:World) (ls:List (Nat × Nat)) (e:Ending) (w':World):Prop:=∃ (v:Value) (ks:List Nat) (rs:Nat→List Nat),e=.returned v∧Asc ks∧ks.Nodup∧(∀ b,b∈ks↔numsOf ls b≠[]) ∧
 (∀ b∈ks,∃ ys,ys.Perm (numsOf ls b)∧Asc ys∧rs b=ys.drop (firstG ys)++ys.take (firstG ys))∧w'.ownsRow w.heap.size 90 2 v (ks.flatMap (fun b=>lbOf b (rs b))).length (lbs (ks.flatMap (fun b=>lbOf b (rs b))))∧Below w.heap.size w w'
def LkP (W:World) (z g n b:Nat) (N:Nat→List Nat) (v:Value):Prop:=W.ownsRow z 88 1 v (N b).length ((N b).map encU)∧∀ (w1:World) (g' cap x:Nat),W.grownBy w1 v.ownBlock→w1.ownsRow z 88 1 (.slice (some ⟨g',0,none⟩) ((N b).length+1) cap) ((N b).length+1) ((N b).map encU++[.int .u32 (x:Nat)])→(∀ y∈N b,y≤4294967295)→x≤4294967295→(N b).length≤n→(v.ownBlock=some g'∨g'=W.heap.size) →
 ∃ w2,(Instr.mapUpdate 200 (.map (some g)) (.int .i64 (b:Int)) (.slice (some ⟨g',0,none⟩) ((N b).length+1) cap)).run Tryz.prog w1=.ok () w2∧NAt w2 z g (n+1) (fun c=>if c=b then N b++[x] else N c)∧w1.grownBy w2 (some g)
theorem qmf {w W:World} {z g n b:Nat} {N:Nat→List Nat} {v:Value} (hrow:w.ownsRow z 88 1 v (N b).length ((N b).map encU)) (hb:NBack w z g n b N v) (hg:w.grownBy W none):LkP W z g n b N v:=by
 have hgv:w.grownBy W v.ownBlock:=⟨hg.os,hg.tape,hg.output,hg.size,fun k hk _=>hg.block k hk (by simp)⟩;refine ⟨hrow.kept hg (by cases v.ownBlock<;>simp),fun w1 g' cap x h1 h2 h3 h4 h5 h6 => ?_⟩;refine hb w1 _ (N b++[x]) (hgv.trans h1) (by simpa [encU] using h2) (by simp) (fun y hy => ?_) (by simp;omega) ?_
 ·rcases List.mem_append.1 hy with h | h
  ·exact h3 y h
  simp at h;omega
 rcases h6 with h | h
 ·exact Or.inl h.symm
 exact Or.inr ⟨g',rfl,by have:=hg.size;omega⟩
theorem qmv (w:World) (g0 cap:Nat) (cur:Array Value) (ls:List (Nat × Nat)) (hg0:w.heap[g0]? = some (.cells cur 90 (0,0))) (hcur:cur.toList.take (ls.length*2)=lbs ls) (hne:ls≠[]) (hbig:ls.length≤100000) (hok:∀ x∈ls,x.1≤1000000∧x.2≤4294967295) :
 Calls Tryz.prog 84 #[.slice (some ⟨g0,0,none⟩) ls.length cap] w fun e w'=>TurnP w ls e w':=by
 obtain ⟨i0,hi,hz0,hz1,hz2⟩:=info_parts Tryz.info88;obtain ⟨j0,hj,hy0,hy1,hy2⟩:=info_parts Tryz.info90;have hgl:=lt_of_heap hg0;obtain ⟨z0,hz⟩:∃ z0,z0=w.heap.size:=⟨_,rfl⟩;obtain ⟨W1,hW1⟩:∃ W1,W1=w.alloc (.map #[] 0):=⟨_,rfl⟩;have s1:W1.heap.size=z0+1:=by rw [hW1,hz];simp
 have b1:Below z0 w W1:=by rw [hW1,hz];exact (Below.refl _ w).alloc (Nat.le_refl _) _
 have hmk:=qjg w;rw [←hW1,←hz] at hmk;have HN1:Hid (NAt W1 (z0+1) z0 0 (fun _=>[])):=hidI (by rw [hW1,hz];exact NAt.made w);obtain ⟨nl,hnl⟩:∃ nl,nl=ls.length:=⟨_,rfl⟩;have hnlb:nl≤100000:=by omega
 have HCur:Hid (∀ W,Below z0 w W→∀ i,(h:i<ls.length)→W.cell? ⟨g0,i*2,none⟩=some (.int .i64 (ls[i].1:Nat))∧W.cell? ⟨g0,i*2+1,none⟩=some (.int .u32 (ls[i].2:Nat))):=hidI (fun W hb i h=>by
  have hr:=(hb.block g0 (by omega)).trans hg0;have e:∀ k,k<ls.length*2→cur[k]? = (lbs ls)[k]? := fun k hk=>by
   rw [←hcur,List.getElem?_take_of_lt hk,Array.getElem?_toList]
  rw [cell_of_row W g0 _ _ 90 (0,0) hr,cell_of_row W g0 _ _ 90 (0,0) hr,e _ (by omega),e _ (by omega)];exact qkm ls h)
 have HW1:=hidI hW1;have Hz:=hidI hz;have Hs1:=hidI s1;have HB1:=hidI b1;have Hnl:=hidI hnl;have Hok:=hidI hok;rw [←hnl];clear hg0 hW1 hz s1 b1 hnl hcur hbig hok;go_enter Tryz.func84,Tryz.ntmps84
 go_wp2_with (first | (rw [←HW1.out,←Hz.out]) | fail)
 go_loopg [14] nl (fun k s14 wr=>∃ (i n:Nat),s14=.int .i64 (i:Nat)∧i≤nl∧nl - i≤k∧n≤i∧Hid (NAt wr (z0+1) z0 n (numsOf (ls.take i)))∧Hid (Below z0 w wr)∧z0+1≤wr.heap.size)
 case atStart=>exact ⟨0,0,rfl,by omega,by omega,by omega,HN1,HB1,by have:=Hs1.out;omega⟩
 case round =>
  clear hmk;obtain ⟨i,n,rfl,hil,hk,hni,HN,HB,hsz⟩:=hrel;by_cases hlt:i<nl
  ·have hlt':((i:Nat):Int)<(nl:Nat):=by omega
   have hil':i<ls.length:=by have:=Hnl.out;omega
   obtain ⟨b,hbe⟩:∃ b,b=(ls[i]).1:=⟨_,rfl⟩;obtain ⟨r,hre⟩:∃ r,r=(ls[i]).2:=⟨_,rfl⟩;have hb:b≤1000000:=by rw [hbe];exact (Hok.out _ (List.getElem_mem hil')).1
   have hr:r≤4294967295:=by rw [hre];exact (Hok.out _ (List.getElem_mem hil')).2
   obtain ⟨c0,c1⟩:=HCur.out wr HB.out i hil';rw [←hbe] at c0;rw [←hre] at c1;have HT:Hid (ls.take (i+1)=ls.take i++[(b,r)]):=hidI (by rw [List.take_add_one,List.getElem?_eq_getElem hil',hbe,hre];rfl);clear hbe hre;obtain ⟨q,hq⟩:∃ q,q=wr.heap.size:=⟨_,rfl⟩;obtain ⟨W2,hW2⟩:∃ W2,W2=wr.alloc (.cells #[.int .i64 (b:Nat),.int .u32 (r:Nat)] 90):=⟨_,rfl⟩;have s2:W2.heap.size=q+1:=by rw [hW2,hq];simp
   have b2:Below z0 w W2:=by rw [hW2];exact HB.out.alloc (by omega) _
   have gw2:wr.grownBy W2 none:=by rw [hW2];exact World.grownBy_alloc wr _ none
   have hr2:W2.heap[q]? = some (.cells #[.int .i64 (b:Nat),.int .u32 (r:Nat)] 90 (0,0)):=by rw [hW2,hq];exact heap_alloc_new _ _
   have k0:W2.drew.cell? ⟨q,0,none⟩=some (.int .i64 (b:Nat)):=by rw [World.cell?_of_block (w:=W2) (w':=W2.drew) rfl,cell_of_row W2 q 0 _ 90 (0,0) hr2];rfl
   have k1:W2.drew.cell? ⟨q,1,none⟩=some (.int .u32 (r:Nat)):=by rw [World.cell?_of_block (w:=W2) (w':=W2.drew) rfl,cell_of_row W2 q 1 _ 90 (0,0) hr2];rfl
   have HN2:Hid (NAt W2.drew (z0+1) z0 n (numsOf (ls.take i))):=hidI (HN.out.below (B:=wr.heap.size) (by rw [hW2];exact ((Below.refl _ wr).alloc (Nat.le_refl _) _).drew) (Nat.le_refl _));obtain ⟨W3,hW3⟩:∃ W3,W3=(W2.alloc (.cells #[.int .u32 (r:Nat)] 88)).drew:=⟨_,rfl⟩;have s3:W3.heap.size=q+2:=by rw [hW3];show (W2.alloc _).heap.size=_;simp [s2]
   have b3:Below z0 w W3:=by rw [hW3];exact (b2.alloc (by omega) _).drew
   have hr3:W3.heap[q+1]? = some (.cells #[.int .u32 (r:Nat)] 88 (0,0)):=by rw [hW3,←s2];exact heap_alloc_new _ _
   have up3:∀ k,k<q+1→W3.heap[k]? = W2.heap[k]? := fun k hk=>by rw [hW3];exact Below.heap_alloc W2 _ k (by omega)
   have g23:W2.drew.grownBy W3 none:=by rw [hW3];exact ⟨rfl,rfl,rfl,by simp,fun k hk _=>Below.heap_alloc W2 _ k (by simpa using hk)⟩
   have m0:W3.cell? ⟨q,0,none⟩=some (.int .i64 (b:Nat)):=by rw [cell_of_row W3 q 0 _ 90 (0,0) ((up3 _ (by omega)).trans hr2)];rfl
   have m1:W3.cell? ⟨q,1,none⟩=some (.int .u32 (r:Nat)):=by rw [cell_of_row W3 q 1 _ 90 (0,0) ((up3 _ (by omega)).trans hr2)];rfl
   have HN3:Hid (NAt W3 (z0+1) z0 n (numsOf (ls.take i))):=hidI (HN2.out.below (B:=W2.drew.heap.size) ⟨g23.os,g23.tape,g23.output,g23.size,fun k hk=>g23.block k hk (by simp)⟩ (Nat.le_refl _));have Hr2q:Hid (W3.heap[q]? = some (.cells #[.int .i64 (b:Nat),.int .u32 (r:Nat)] 90 (0,0))):=hidI ((up3 _ (by omega)).trans hr2);have HW2:=hidI hW2;have HW3:=hidI hW3;have Hs2:=hidI s2;have Hs3:=hidI s3;have HB3:=hidI b3;have Hr3:=hidI hr3;have Hg23:=hidI g23;have Hqs:=hidI hq;have Hnr:Hid (∀ y∈numsOf (ls.take i) b,y≤4294967295):=hidI (fun y hy=>by
    unfold numsOf at hy;obtain ⟨x,hx,rfl⟩:=List.mem_map.1 hy;exact (Hok.out x (List.mem_of_mem_take (List.mem_filter.1 hx).1)).2)
   have hzq:z0+1≤q:=by omega
   clear hW2 hW3 s2 s3 b2 b3 hr2 hr3 up3 g23 gw2 hq;go_wp2_with (first | (rw [←HW2.out,←Hqs.out]) | fail);refine wp_region_held_drew (S:=fun V=>V.cell? ⟨q,0,none⟩=some (.int .i64 (b:Nat))∧V.cell? ⟨q,1,none⟩=some (.int .u32 (r:Nat))) (by kernel_rfl) ⟨k0,k1⟩ (fun hHeld => ?_);refine tk 0 ⟨some 18,.move (.tmp 3),_,_,_,none⟩ (.map (some z0)) rfl (fun w h=>by go_simp) hHeld ?_;simp only [zP,List.set];refine tk 1 ⟨some 19,.fieldAddr 90 (.tmp 5) 0,_,_,_,none⟩ (.pointer (some ⟨q,0,none⟩)) rfl (fun w h=>by go_simp) hHeld ?_;simp only [zP,List.set];refine tk 2 ⟨some 20,.load 3 (.tmp 19),_,_,_,none⟩ (.int .i64 (b:Nat)) rfl (fun w h=>by go_simp) hHeld ?_;simp only [zP,List.set]
   refine tk 3 ⟨some 21,.move (.tmp 3),_,_,_,none⟩ (.map (some z0)) rfl (fun w h=>by go_simp) hHeld ?_;simp only [zP,List.set];refine tk 4 ⟨some 22,.fieldAddr 90 (.tmp 5) 0,_,_,_,none⟩ (.pointer (some ⟨q,0,none⟩)) rfl (fun w h=>by go_simp) hHeld ?_;simp only [zP,List.set];refine tk 5 ⟨some 23,.load 3 (.tmp 22),_,_,_,none⟩ (.int .i64 (b:Nat)) rfl (fun w h=>by go_simp) hHeld ?_;simp only [zP,List.set];refine tk 7 ⟨some 25,.fieldAddr 90 (.tmp 5) 1,_,_,_,none⟩ (.pointer (some ⟨q,1,none⟩)) rfl (fun w h=>by go_simp) hHeld ?_;simp only [zP,List.set]
   refine tk 8 ⟨some 26,.load 88 (.tmp 25),_,_,_,none⟩ (.int .u32 (r:Nat)) rfl (fun w h=>by go_simp) hHeld ?_;simp only [zP,List.set];refine wpAnyH_ready (rs:=[6,9]) (by kernel_rfl) (by simp) ?_;refine AllReadyH.cons rfl (fun K hK => ?_) (AllReadyH.cons rfl (fun K hK => ?_) AllReadyH.nil)
   case' refine_1 =>
    obtain ⟨v,hlk,hrow,hle,hback⟩:=HN2.out.look hb (by omega);have HL:Hid (LkP W3 (z0+1) z0 n b (numsOf (ls.take i)) v):=hidI (qmf hrow hback Hg23.out);go_simp;refine hK.out _ _ ⟨k0,k1⟩ (fun hHeld => ?_);clear hK K hlk hback hrow;refine rd 9 rfl (fun K hK => ?_);go_simp;refine hK.out _ _ (by rw [←HW3.out];exact ⟨m0,m1⟩) (fun hHeld => ?_);rw [←HW3.out] at hHeld ⊢;simp only [Hs2.out];clear hK K
   case' refine_2 =>
    obtain ⟨v,hlk,hrow,hle,hback⟩:=HN3.out.look hb (by omega);have HL:Hid (LkP W3 (z0+1) z0 n b (numsOf (ls.take i)) v):=hidI (qmf hrow hback ⟨rfl,rfl,rfl,Nat.le_refl _,fun _ _ _=>rfl⟩);go_simp;refine hK.out _ _ (by rw [←HW3.out];exact ⟨m0,m1⟩) (fun hHeld => ?_);rw [←HW3.out] at hHeld ⊢;simp only [Hs2.out];clear hK K;refine rd 6 rfl (fun K hK => ?_);go_simp;refine hK.out _ _ ⟨m0,m1⟩ (fun hHeld => ?_);clear hK K hlk hback hrow
   all_goals
    refine rd 10 rfl (fun K hK => ?_);refine step_append_lies _ rfl _ _ 201 rfl (z0+1) 88 i0 (.int .u32 0) 1 4 Tryz.underlying201 hi hz0 hz1 hz2 rfl (by decide) v _ _ rfl HL.out.1 ⟨q+1,0,none⟩ 1 1 [.int .u32 (r:Nat)] rfl rfl ?q1 ?q2 (by omega) (by unfold maxLen;omega) (by omega) (by rw [Hs3.out];omega) _ rfl ?_
    case q1=>exact World.news_of_block (cs:=#[.int .u32 (r:Nat)]) Hr3.out
    case q2=>simp [Value.oneCell']
    intro g4 cap4 w4 hown4 hg4 hat4 hlt4;obtain ⟨w5,hu,o5,hg5⟩:=HL.out.2 w4 g4 cap4 r hg4 hown4 Hnr.out hr hle (hat4.imp id (fun h=>h));have hvz:∀ k,v.ownBlock=some k→z0+1≤k∧k≠q:=fun k e=>⟨(HL.out.1.lt k e).1,fun e'=>by
     rcases HL.out.1.2 with ⟨e2,_⟩ | ⟨g',cap',cur',e2,_,e3,_⟩
     ·rw [e2] at e;cases e
     rw [e2] at e;cases e;dsimp only at e';rw [e',Hr2q.out] at e3;cases e3⟩
    have up4:w4.heap[q]? = W3.heap[q]? := hg4.block q (by rw [Hs3.out];omega) (fun e=>(hvz q e.symm).2 rfl);have n0:w4.cell? ⟨q,0,none⟩=some (.int .i64 (b:Nat)):=(World.cell?_of_block up4).trans m0;have n1:w4.cell? ⟨q,1,none⟩=some (.int .u32 (r:Nat)):=(World.cell?_of_block up4).trans m1;refine hK.out _ _ ⟨n0,n1⟩ (fun hHeld => ?_);clear hK K;simp only [Act.put];refine rd 11 rfl (fun K hK => ?_);go_simp;have s4:=hg4.size;have s4':q+2≤w4.heap.size:=by rw [Hs3.out] at s4;exact s4
    have p0:w5.cell? ⟨q,0,none⟩=some (.int .i64 (b:Nat)):=(World.cell?_of_block (hg5.block q (by omega) (fun e=>by simp at e;omega))).trans n0;have p1:w5.cell? ⟨q,1,none⟩=some (.int .u32 (r:Nat)):=(World.cell?_of_block (hg5.block q (by omega) (fun e=>by simp at e;omega))).trans n1;have HB5:Hid (Below z0 w w5):=hidI ((HB3.out.grown hg4 (by rw [Hs3.out];omega) (fun k e=>by have:=(hvz k e).1;omega)).grown hg5 (by omega) (fun k e=>by cases e;exact Nat.le_refl _));have HN5:Hid (NAt w5 (z0+1) z0 (n+1) (numsOf (ls.take (i+1)))):=hidI (by
     rw [HT.out];have e:numsOf (ls.take i++[(b,r)])=fun c=>if c=b then numsOf (ls.take i) b++[r] else numsOf (ls.take i) c:=by funext c;exact qfZ _ _ c
     rw [e];exact o5)
    have hz5:z0+1≤w5.heap.size:=by have:=hg5.size;omega
    refine hK.out _ _ ⟨p0,p1⟩ (fun hHeld => ?_);clear hK K hHeld;refine wpAnyH_done (by kernel_rfl) ?_ _;go_wp2_with fail;go_roundg (nl - (i+1))
    case measure=>omega
    case rel=>exact ⟨i+1,n+1,by go_num,by omega,by omega,by omega,HN5,HB5,hz5⟩
  have hlt':¬((i:Nat):Int)<(nl:Nat):=by omega
  have HNN:Hid (NAt wr (z0+1) z0 n (numsOf ls)):=hidI (by have:=HN.out;rw [List.take_of_length_le (by have:=Hnl.out;omega)] at this;exact this);clear HN HN1;go_wp2_with fail;refine (qeN (some z0) wr).mono ?_;rintro e w6 ⟨rfl,hw6⟩;have hs6:w6.heap.size=wr.heap.size+1:=by rw [hw6];simp
  have hb6:Below wr.heap.size wr w6:=by rw [hw6];exact (Below.refl _ _).alloc (Nat.le_refl _) _
  have hc6:w6.cell? ⟨wr.heap.size,0,none⟩=some (.map (some z0)):=by rw [hw6];simp
  have HN6:Hid (NAt w6 (z0+1) z0 n (numsOf ls)):=hidI (HNN.out.below hb6 (Nat.le_refl _));have hNb:∀ b,numsOf ls b≠[]→b≤1000000:=fun b h=>by
   obtain ⟨x,hx⟩:=List.exists_mem_of_ne_nil _ h;unfold numsOf at hx;obtain ⟨y,hy,rfl⟩:=List.mem_map.1 hx
   have:=List.mem_filter.1 hy
   have e:y.1=b:=by simpa using this.2
   rw [←e];exact (Hok.out y this.1).1
  have B6:=hidI (HN6.out.keys (Bm:=wr.heap.size) hNb (by omega) (by omega) hc6);have HB6:Hid (Below z0 w w6):=hidI (HB.out.trans (hb6.mono (by omega)));obtain ⟨z5,hz5e⟩:∃ z5,z5=wr.heap.size:=⟨_,rfl⟩;rw [←hz5e] at B6;simp only [←hz5e];have HNb:=hidI hNb;have Hs6:Hid (z0+1≤w6.heap.size):=hidI (by omega);clear hb6 hc6 hw6 hs6 hz5e hNb;go_wp2_with fail;refine B6.out.mono ?_;rintro e w7 ⟨v7,ks,rfl,hasc,hnd,hmem,hkl,hrow7,hb7⟩;have hks:ks≠[]:=fun e=>by
   obtain ⟨x,hx⟩:=List.exists_mem_of_ne_nil _ hne
   have:x.1∈ks:=(hmem x.1).2 (fun e=>by
    have:x.2∈numsOf ls x.1:=List.mem_map.2 ⟨x,List.mem_filter.2 ⟨hx,by simp⟩,rfl⟩
    rw [e] at this;cases this)
   rw [e] at this;cases this
  rcases hrow7.2 with ⟨_,h0⟩ | ⟨g7,cap7,cur7,rfl,q1,q2,q3,q4,q5,q6⟩
  ·exact absurd (List.length_eq_zero_iff.1 h0) hks
  rw [Nat.mul_one] at q6;obtain ⟨nk,hnk⟩:∃ nk,nk=ks.length:=⟨_,rfl⟩;obtain ⟨z7,hz7⟩:∃ z7,z7=w7.heap.size:=⟨_,rfl⟩;have hg7:g7<z7:=by rw [hz7];exact lt_of_heap q2
  have HB7:Hid (Below z0 w w7):=hidI (HB6.out.trans (hb7.mono (by have:=Hs6.out;omega)));have HN7:Hid (NAt w7 (z0+1) z0 n (numsOf ls)):=hidI (HN6.out.below hb7 (Nat.le_refl _));have hz07:z0+1≤z7:=by have:=Hs6.out;have:=hb7.size;omega
  have HK7:Hid (∀ W,Below z7 w7 W→∀ j,(h:j<ks.length)→W.cell? ⟨g7,j,none⟩=some (.int .i64 (ks[j]:Nat))):=hidI (fun W hb j h=>by
   rw [cell_of_row W g7 j _ 3 (0,0) ((hb.block g7 hg7).trans q2),←Array.getElem?_toList]
   have:(cur7.toList.take ks.length)[j]? = (ks.map (fun k:Nat=>Value.int .i64 (k:Int)))[j]? := by rw [q6]
   rw [List.getElem?_take_of_lt h] at this;rw [this];simp [h])
  have hnkb:nk≤100000:=by omega
  have Hnd:=hidI hnd;have Hmem:=hidI hmem;have Hnk:=hidI hnk;have Hz7:=hidI hz7;have Hasc:=hidI hasc;rw [←hnk];clear hrow7 hb7 q1 q2 q3 q4 q5 q6 B6 hnd hmem hnk hz7 hasc hks HN6 HB6 HNN HB;go_wp2_with fail
  go_loopg [6,34] nk (fun k s6 s34 wx=>∃ (j:Nat) (rs:Nat→List Nat) (v:Value),v=s6∧s34=.int .i64 (j:Nat)∧j≤nk∧nk - j≤k∧Hid (∀ b∈ks.take j,∃ ys,ys.Perm (numsOf ls b)∧Asc ys∧rs b=ys.drop (firstG ys)++ys.take (firstG ys)) ∧
   Hid (wx.ownsRow z7 90 2 v ((ks.take j).flatMap (fun b=>lbOf b (rs b))).length (lbs ((ks.take j).flatMap (fun b=>lbOf b (rs b)))))∧Hid (Below z7 w7 wx)∧((ks.take j).flatMap (fun b=>lbOf b (rs b))).length≤j*100000)
  case atStart=>exact ⟨0,fun _=>[],_,rfl,rfl,by omega,by omega,hidI (by simp),hidI (by simpa [lbs] using World.ownsRow_nil w7 z7 90 2),hidI (Below.refl _ _),by simp⟩
  obtain ⟨j,rs,v6,rfl,rfl,hjl,hk,HR,HO,HBx,hol⟩:=hrel;by_cases hlt2:j<nk
  ·have hlt2':((j:Nat):Int)<(nk:Nat):=by omega
   have hjk:j<ks.length:=by have:=Hnk.out;omega
   obtain ⟨b,hbe⟩:∃ b,b=ks[j]:=⟨_,rfl⟩;have ck:=HK7.out wr HBx.out j hjk;rw [←hbe] at ck;have hbk:b∈ks:=by rw [hbe];exact List.getElem_mem hjk
   have hNne:=(Hmem.out b).1 hbk;have hb:b≤1000000:=HNb.out b hNne;have hbn:b∉ks.take j:=fun h=>by
    rw [List.mem_take_iff_getElem] at h;obtain ⟨i',hi',e⟩:=h;exact List.pairwise_iff_getElem.1 Hnd.out i' j (by omega) hjk (by omega) (e.trans hbe)
   have HT2:Hid (ks.take (j+1)=ks.take j++[b]):=hidI (by rw [List.take_add_one,List.getElem?_eq_getElem hjk,hbe];rfl);have HNx:=HN7.out.below HBx.out (by rw [Hz7.out];exact Nat.le_refl _);obtain ⟨vb,hlk,hrow,hle,-⟩:=HNx.look hb (by omega);rcases hrow.2 with ⟨_,h0⟩ | ⟨g4,cap4,cur4,rfl,p1,p2,p3,p4,p5,p6⟩
   ·exact absurd (List.length_eq_zero_iff.1 h0) hNne
   rw [Nat.mul_one] at p6;have hmb:(numsOf ls b).length≤100000:=by have:=qfl ls b;have:=Hnl.out;omega
   have A7:=hidI (roundU wr g4 cap4 cur4 (numsOf ls b) p2 p6 hNne hmb (fun y hy=>by
    unfold numsOf at hy;obtain ⟨x,hx,rfl⟩:=List.mem_map.1 hy;exact (Hok.out x (List.mem_filter.1 hx).1).2))
   obtain ⟨m,hm⟩:∃ m,m=(numsOf ls b).length:=⟨_,rfl⟩;rw [←hm] at hlk A7;have Hm:Hid (m=(numsOf ls b).length∧m≤100000∧0<m):=hidI ⟨hm,by omega,by rw [hm];exact List.length_pos_iff.2 hNne⟩;have hz7x:z7≤wr.heap.size:=by rw [Hz7.out];exact HBx.out.size
   obtain ⟨ord,hord⟩:∃ ord,ord=(ks.take j).flatMap (fun b=>lbOf b (rs b)):=⟨_,rfl⟩;rw [←hord] at HO hol;have Hord:=hidI hord;clear hrow p1 p2 p3 p4 p5 p6 hm hbe hle hmb hord HNx hNne;go_wp2_with fail;refine A7.out.mono ?_;rintro e w8 ⟨v8,ys,rfl,hperm,hasc8,hrow8,hb8⟩;obtain ⟨rot,hrot⟩:∃ rot,rot=ys.drop (firstG ys)++ys.take (firstG ys):=⟨_,rfl⟩;rw [←hrot] at hrow8;have hrl:rot.length=ys.length:=by rw [hrot];simp;omega
   have hyl:ys.length=m:=by rw [hperm.length_eq,Hm.out.1]
   have hm1:=Hm.out.2;rcases hrow8.2 with ⟨_,h0⟩ | ⟨g8,cap8,cur8,rfl,q1,q2,q3,q4,q5,q6⟩
   ·omega
   rw [Nat.mul_one] at q6;have HK8:Hid (∀ W:World,W.heap[g8]? = some (.cells cur8 88 (0,0))→∀ t,t<m→W.cell? ⟨g8,t,none⟩=some (.int .u32 (rot[t]! : Nat))):=hidI (fun W hb t h=>by
    rw [cell_of_row W g8 t _ 88 (0,0) hb,←Array.getElem?_toList]
    have:(cur8.toList.take ys.length)[t]? = (rot.map encU)[t]? := by rw [q6]
    rw [List.getElem?_take_of_lt (by omega)] at this;rw [this,getElem!_pos rot t (by omega)];simp [show t<rot.length by omega,encU])
   have HB8:Hid (Below z7 w7 w8):=hidI (HBx.out.trans (hb8.mono hz7x));have HO8:Hid (w8.ownsRow z7 90 2 v6 (ord++lbOf b (rot.take 0)).length (lbs (ord++lbOf b (rot.take 0)))):=hidI (by
    have:=HO.out.kept (below_grown hb8 (Nat.le_refl _)) (by cases v6.ownBlock<;>simp)
    simpa [lbOf] using this)
   have HG8:=hidI q2;have HY:Hid (∃ ys,ys.Perm (numsOf ls b)∧Asc ys∧rot=ys.drop (firstG ys)++ys.take (firstG ys)):=hidI ⟨ys,hperm,hasc8,hrot⟩;rw [hyl] at hrl ⊢;have Hrl:=hidI hrl;clear hrow8 hb8 q1 q2 q3 q4 q5 q6 hlk ck A7 hperm hasc8 hrot hrl HO;go_wp2_with fail
   go_loopg [6,43] m (fun k s6 s43 wx=>∃ (t:Nat) (v:Value),v=s6∧s43=.int .i64 (t:Nat)∧t≤m∧m - t≤k∧Hid (wx.ownsRow z7 90 2 v (ord++lbOf b (rot.take t)).length (lbs (ord++lbOf b (rot.take t))))∧Hid (Below z7 w7 wx)∧Hid (wx.heap[g8]? = some (.cells cur8 88 (0,0))))
   case atStart=>exact ⟨0,v6,rfl,rfl,by omega,by omega,HO8,HB8,HG8⟩
   clear HO8 HB8 HG8;obtain ⟨t,v,rfl,rfl,htm,hkt,HOt,HBt,HGt⟩:=hrel;by_cases hlt3:t<m
   ·have hlt3':((t:Nat):Int)<(m:Nat):=by omega
    have ct:=HK8.out wr HGt.out t hlt3;obtain ⟨y,hy⟩:∃ y,y=rot[t]! := ⟨_,rfl⟩;rw [←hy] at ct;have HT3:Hid (ord++lbOf b (rot.take (t+1))=(ord++lbOf b (rot.take t))++[(b,y)]):=hidI (by
     have:=Hrl.out
     have h:t<rot.length:=by omega
     have e:rot.take (t+1)=rot.take t++[y]:=by rw [List.take_add_one,List.getElem?_eq_getElem h,hy,getElem!_pos rot t h];rfl
     rw [e];simp [lbOf])
    obtain ⟨ot,hot⟩:∃ ot,ot=ord++lbOf b (rot.take t):=⟨_,rfl⟩;rw [←hot] at HOt HT3;have hotl:ot.length≤100000*100000+100000:=by
     have:(lbOf b (rot.take t)).length≤t:=by simp [lbOf];omega
     have h2:j*100000≤100000*100000:=Nat.mul_le_mul_right _ (by omega);rw [hot,List.length_append];omega
    have hz7t:z7≤wr.heap.size:=by rw [Hz7.out];exact HBt.out.size
    clear hy hot;go_wp2_with (at_builtin;refine wpList_append_own _ rfl _ _ 144 rfl z7 90 j0 (.agg #[.int .i64 0,.int .u32 0]) 2 16 Tryz.underlying144 hj hy0 hy1 hy2 rfl (by decide) _ _ _ rfl (HOt.out.alloc _) ⟨wr.heap.size,0,none⟩ 1 1 [.int .i64 (b:Nat),.int .u32 (y:Nat)] rfl rfl ?q1 ?q2 ?q3 ?q4 ?q5 ?_)
    case q1=>exact World.news_of_block (cs:=#[.int .i64 (b:Nat),.int .u32 (y:Nat)]) (heap_alloc_new _ _)
    case q2=>simp [Value.oneCell']
    case q3=>unfold maxLen;omega
    case q4=>omega
    case q5=>simp;omega
    intro v9 w9 hown9 hg9 hnil9;have HB9:Hid (Below z7 w7 w9):=hidI ((HBt.out.alloc hz7t _).grown hg9 (by simp;omega) (fun k e=>(HOt.out.lt k e).1));have HO9:Hid (w9.ownsRow z7 90 2 v9 (ot++[(b,y)]).length (lbs (ot++[(b,y)]))):=hidI (by rw [qhb];simpa using hown9);have HG9:Hid (w9.heap[g8]? = some (.cells cur8 88 (0,0))):=hidI (by
     have h8:=lt_of_heap HGt.out;refine (hg9.block g8 (by simp;omega) (fun e => ?_)).trans ((Below.heap_alloc wr _ g8 h8).trans HGt.out);rcases HOt.out.2 with ⟨e2,_⟩ | ⟨g',cap',cur',e2,_,e3,_⟩
     ·rw [e2] at e;cases e
     rw [e2] at e;cases e;rw [HGt.out] at e3;cases e3)
    rw [←HT3.out] at HO9;clear hown9 hg9 hnil9;go_wp2_with fail;go_roundg (m - (t+1))
    case measure=>omega
    case rel=>exact ⟨t+1,v9,rfl,by go_num,by omega,by omega,HO9,HB9,HG9⟩
   have hlt3':¬((t:Nat):Int)<(m:Nat):=by omega
   have HOe:Hid (wr.ownsRow z7 90 2 v (ord++lbOf b rot).length (lbs (ord++lbOf b rot))):=hidI (by
    have:=HOt.out
    rw [List.take_of_length_le (by have:=Hrl.out;omega)] at this;exact this)
   go_wp2_with fail;go_roundg (nk - (j+1))
   case measure=>omega
   have e:(ks.take (j+1)).flatMap (fun c=>lbOf c (if c=b then rot else rs c))=ord++lbOf b rot:=by
    rw [HT2.out,List.flatMap_append,Hord.out]
    congr 1
    ·rw [List.flatMap_def,List.flatMap_def]
     congr 1
     exact List.map_congr_left (fun c hc=>by rw [if_neg (fun e=>hbn (by rw [←e];exact hc))])
    simp
   refine ⟨j+1,fun c=>if c=b then rot else rs c,v,rfl,by go_num,by omega,by omega,hidI (fun c hc => ?_),hidI (by rw [e];exact HOe.out),HBt,?_⟩
   ·by_cases hcb:c=b
    ·subst hcb;dsimp only;rw [if_pos rfl];exact HY.out
    rw [HT2.out] at hc;dsimp only;rw [if_neg hcb];rcases List.mem_append.1 hc with h | h
    ·exact HR.out c h
    simp at h;exact absurd h hcb
   rw [e,List.length_append]
   have:(lbOf b rot).length=m:=by simp [lbOf,Hrl.out]
   have h2:(j+1)*100000=j*100000+100000:=by omega
   omega
  have hlt2':¬((j:Nat):Int)<(nk:Nat):=by omega
  have HE:Hid (ks.take j=ks):=hidI (List.take_of_length_le (by have:=Hnk.out;omega));rw [HE.out] at HR HO;go_wp2_with fail;go_ret
  unfold TurnP;rw [←Hz.out];refine ⟨v6,ks,rs,rfl,Hasc.out,Hnd.out,Hmem.out,HR.out,?_,HB7.out.trans (HBx.out.mono (by omega))⟩;exact ownsRow_base_a HO.out (by omega)
end Go.Proofs.YtodmdkhdbfbfgaaGreatDoor.S1
namespace Go.Proofs.YtodmdkhdbfbfgaaGreatDoor.S1
open Go.RowKit Pk Go.Shelf
def bw (ls:List (Nat × Nat)):List (Nat × (Nat × Nat)):=(List.range ls.length).map (fun k=>(ls.length - 1 - k,ls[ls.length - 1 - k]!))
theorem qbF (ls:List (Nat × Nat)):(bw ls).length=ls.length:=by simp [bw]
theorem qmj (ls:List (Nat × Nat)) {k:Nat} (h:k<(bw ls).length):(bw ls)[k]=(ls.length - 1 - k,ls[ls.length - 1 - k]!):=by simp [bw]
theorem qmn (ls:List (Nat × Nat)):(bw ls).map (·.2)=ls.reverse:=by
 apply List.ext_getElem
 ·simp [bw]
 intro k h1 h2;simp [bw] at h1;rw [List.getElem_map,qmj,List.getElem_reverse];simp only;rw [getElem!_pos ls _ (by omega)]
theorem qjq (n:Nat) (hn:1≤n) (w:World) (B g cap:Nat) (ls:List (Nat × Nat)) (n₀:Nat) (S:Nat→Prop) (hB:B<n₀) (hg:g<n₀) (hSB:S B) (hSg:S g) (hlen:ls.length≤100000*100000) (hb:w.cell? ⟨B,0,none⟩=some (.slice (some ⟨g,0,none⟩) ls.length cap)) (cur:Array Value) (hrow:w.heap[g]? = some (.cells cur 90 (0,0))) (hc:cur.toList.take (ls.length*2)=lbs ls) :
 SeqRow Fence.wide n Tryz.prog 138 #[.pointer (some ⟨B,0,none⟩)] encIL (bw ls) n₀ S w:=by
 intro l J W hW hY h0;have hbW:W.cell? ⟨B,0,none⟩=some (.slice (some ⟨g,0,none⟩) ls.length cap):=by rw [hW.cell (p:=⟨B,0,none⟩) hB];exact hb
 have hrowW:W.heap[g]? = some (.cells cur 90 (0,0)):=(hW.block g hg).trans hrow;have HCur:Hid (∀ V:World,V.heap[g]? = some (.cells cur 90 (0,0))→∀ i,(h:i<ls.length)→V.cell? ⟨g,i*2,none⟩=some (.int .i64 (ls[i].1:Nat))∧V.cell? ⟨g,i*2+1,none⟩=some (.int .u32 (ls[i].2:Nat))):=hidI (fun V hr i h=>by
  have e:∀ k,k<ls.length*2→cur[k]? = (lbs ls)[k]? := fun k hk=>by
   rw [←hc,List.getElem?_take_of_lt hk,Array.getElem?_toList]
  rw [cell_of_row V g _ _ 90 (0,0) hr,cell_of_row V g _ _ 90 (0,0) hr,e _ (by omega),e _ (by omega)];exact qkm ls h)
 obtain ⟨m,hm⟩:∃ m,m=ls.length:=⟨_,rfl⟩;have Hm:=hidI hm;have hmb:m≤100000*100000:=by omega
 rw [←hm] at hbW;have HRW:=hidI hrowW;have HBW:Hid (∀ V:World,Keep S W V→V.cell? ⟨B,0,none⟩=some (.slice (some ⟨g,0,none⟩) m cap)):=hidI (fun V hV=>by rw [World.cell?_of_block (hV B hSB)];exact hbW);clear hb hrow hc hm hrowW;refine callsIn_of_wp Tryz.func138 rfl trivial ?_ rfl;simp only [Tryz.ntmps138,List.size_toArray,List.length_cons,List.length_nil,Nat.reduceAdd,Nat.reduceSub,Array.replicate_succ,Array.replicate_zero,List.push_toArray,List.append_toArray,List.nil_append,List.cons_append];gi_wp2
 gi_loopw [3] (fun i wr=>∃ p:Nat,p≤m∧i=.int .i64 ((p:Nat) - 1)∧J ((bw ls).take (m - p)) wr∧Hid (Keep S W wr)) (fun i _=>(intOf i+1).toNat)
 case atStart=>exact ⟨m,Nat.le_refl _,rfl,by simpa using h0,hidI (fun _ _=>rfl)⟩
 case round =>
  clear hbW;obtain ⟨p1,hp1,rfl,hJ,HK⟩:=hrel;by_cases hlt:0<p1
  ·obtain ⟨p,hp⟩:∃ p,p1=p+1:=⟨p1 - 1,by omega⟩;subst hp;have ep:(((p+1:Nat):Int) - 1)=(p:Nat):=by omega
   rw [ep];have hpl:p<ls.length:=by have:=Hm.out;omega
   obtain ⟨c0,c1⟩:=HCur.out wr ((HK.out g hSg).trans HRW.out) p hpl;obtain ⟨b,hb⟩:∃ b,b=(ls[p]).1:=⟨_,rfl⟩;obtain ⟨r,hr⟩:∃ r,r=(ls[p]).2:=⟨_,rfl⟩;have hcB:=HBW.out wr HK.out;have hkb:m - (p+1)<(bw ls).length:=by have:=Hm.out;rw [qbF];omega
   have hget:(bw ls)[m - (p+1)]=(p,(b,r)):=by
    have hm:=Hm.out;rw [qmj];have e:ls.length - 1 - (m - (p+1))=p:=by omega
    rw [e,getElem!_pos ls p hpl,hb,hr]
   obtain ⟨fn,tmps,assign,body,hyy,hR⟩:=hY ((bw ls).take (m - (p+1))) (p,(b,r)) wr hJ (by rw [←hget,List.take_append_getElem hkb];exact List.take_prefix _ _);unfold encIL at hyy;have HR:=hidI hR;have HT:Hid ((bw ls).take (m - p)=(bw ls).take (m - (p+1))++[(p,(b,r))]):=hidI (by
    rw [←hget,List.take_append_getElem hkb]
    congr 1
    omega)
   rw [←hb] at c0;rw [←hr] at c1;have i1:((p:Nat):Int)<(m:Nat):=by omega
   have i2:(0:Int)≤(p:Nat):=by omega
   clear hR hJ hget hb hr ep;gi_wp2_with gi_in;refine HR.out.mono ?_;rintro e W4 ⟨rfl,hJ4,hB4⟩;have HB4:=hidI (HK.out.trans hB4);have HJ4:=hidI hJ4;clear hJ4 hB4 HR hyy c0 c1 hcB;gi_wp2;go_roundw
   case rel=>exact ⟨p,by omega,rfl,by rw [HT.out];exact HJ4.out,HB4⟩
   case measure=>simp [intOf]
  have hp0:p1=0:=by omega
  subst hp0;have HJ:=hidI hJ;clear hJ;gi_wp2;go_end0
  exact ⟨⟨_,rfl⟩,by
   have:=HJ.out
   rw [Nat.sub_zero,List.take_of_length_le (by rw [qbF,←Hm.out];exact Nat.le_refl _)] at this;exact this⟩
end Go.Proofs.YtodmdkhdbfbfgaaGreatDoor.S1
namespace Go.Proofs.YtodmdkhdbfbfgaaGreatDoor.S1
open Go.RowKit Pk
structure Fm (S:Nat→Prop) (w w':World):Prop where
 os:w'.os=w.os
 tape:w'.tape=w.tape
 output:w'.output=w.output
 size:w.heap.size≤w'.heap.size
 block:∀ k,k<w.heap.size→¬S k→w'.heap[k]? = w.heap[k]?
namespace Fm
variable {S T:Nat→Prop} {a b c:World}
theorem refl (S:Nat→Prop) (w:World):Fm S w w:=⟨rfl,rfl,rfl,Nat.le_refl _,fun _ _ _=>rfl⟩
theorem trans (h:Fm S a b) (k:Fm S b c):Fm S a c:=
 ⟨k.os.trans h.os,k.tape.trans h.tape,k.output.trans h.output,Nat.le_trans h.size k.size,fun i hi hn=>(k.block i (Nat.lt_of_lt_of_le hi h.size) hn).trans (h.block i hi hn)⟩
theorem mono (h:Fm S a b) (e:∀ k,k<a.heap.size→S k→T k):Fm T a b:=⟨h.os,h.tape,h.output,h.size,fun k hk hn=>h.block k hk (fun hs=>hn (e k hk hs))⟩
theorem of_below {B:Nat} (h:Below B a b) (hB:∀ k,B≤k→k<a.heap.size→S k):Fm S a b:=
 ⟨h.os,h.tape,h.output,h.size,fun k hk hn=>h.block k (by
  rcases Nat.lt_or_ge k B with h1 | h1
  ·exact h1
  exact absurd (hB k h1 hk) hn)⟩
theorem of_new (h:Below a.heap.size a b):Fm S a b:=of_below h fun k h1 h2=>absurd h1 (by omega)
theorem of_only {lo hi:Nat} (h:Only lo hi a b) (e:∀ k,lo≤k→k<hi→S k):Fm S a b:=
 ⟨h.os,h.tape,h.output,h.size,fun k hk hn=>h.block k hk (fun hs=>hn (e k hs.1 hs.2))⟩
theorem only {lo hi:Nat} (h:Fm S a b) (e:∀ k,k<a.heap.size→S k→lo≤k∧k<hi):Only lo hi a b:=
 ⟨h.os,h.tape,h.output,h.size,fun k hk hn=>h.block k hk (fun hs=>hn (e k hk hs))⟩
theorem below {B:Nat} (h:Fm S a b) (e:∀ k,S k→B≤k) (hB:B≤a.heap.size):Below B a b:=
 ⟨h.os,h.tape,h.output,h.size,fun k hk=>h.block k (by omega) (fun hs=>by have:=e k hs;omega)⟩
theorem drew (h:Fm S a b):Fm S a b.drew:=h.trans ⟨rfl,rfl,rfl,Nat.le_refl _,fun _ _ _=>rfl⟩
theorem alloc (h:Fm S a b) (o:Obj):Fm S a (b.alloc o):=h.trans ⟨rfl,rfl,rfl,by simp,fun k hk _=>Below.heap_alloc b o k hk⟩
theorem set (h:Fm S a b) {g:Nat} (hg:g<a.heap.size→S g) (o:Nat) (v:Value):Fm S a (b.setCell ⟨g,o,none⟩ v):=
 ⟨h.os,h.tape,h.output,by have:=h.size;simpa using this,fun k hk hn=>(Below.heap_setCell b ⟨g,o,none⟩ v k (fun e=>hn (by have e':k=g:=e;subst e';exact hg hk))).trans (h.block k hk hn)⟩
theorem map (h:Fm S a b) {g:Nat} (hg:g<a.heap.size→S g) (hm:b.mapTurned c g):Fm S a c:=
 ⟨hm.grown.os.trans h.os,hm.grown.tape.trans h.tape,hm.grown.output.trans h.output,Nat.le_trans h.size hm.grown.size,fun k hk hn=>(hm.grown.block k (Nat.lt_of_lt_of_le hk h.size) (fun e=>by cases e;exact hn (hg hk))).trans (h.block k hk hn)⟩
end Fm
theorem make92 (w:World):(Instr.makeMap 92 none).run Tryz.prog w=.ok (.map (some w.heap.size)) (w.alloc (.map #[] 0)):=by
 simp [Instr.makeMap,Result.andThen]
def mayE (m:M) (n:Nat):Int:=if m.life=0 then 10 else if roomP m<Go.Nt.pagesN n then 9 else 0
theorem qjA (w:World) (lo hi cb:Nat) (L:Loc) (m:M) (t:List UInt8) (hw:WF m) (h:CP w lo hi cb L m) (ht:t.length≤1000000000) :
 Calls Tryz.prog 74 #[.pointer (some ⟨cb,0,none⟩),.string (txt t)] w fun e w'=>e=.returned (.int .i64 (mayE m t.length))∧w'=w:=by
 have HD:=hidI (dead_any w lo hi cb L m h);have HP:=hidI (pagesOf_any t w ht);have HR:=hidI (qk5 w lo hi cb L m hw h);obtain ⟨X,hX⟩:∃ X,X=txt t:=⟨_,rfl⟩;rw [←hX] at HP ⊢;by_cases h0:m.life=0
 ·have e:mayE m t.length=10:=by unfold mayE;rw [if_pos h0]
  have hb:(m.life==0)=true:=beq_iff_eq.2 h0;rw [e];rw [hb] at HD;clear h hw hX e hb h0;go_enter Tryz.func74,Tryz.ntmps74
  go_wp2_with (go_at_call 25;refine HD.out.mono ?_;rintro e w' ⟨rfl,hw⟩;have hw':=hw.symm;subst hw';clear hw);go_ret
  exact ⟨rfl,rfl⟩
 have hb:(m.life==0)=false:=beq_eq_false_iff_ne.2 h0;rw [hb] at HD;have e:mayE m t.length=if roomP m<Go.Nt.pagesN t.length then 9 else 0:=by unfold mayE;rw [if_neg h0]
 rw [e];obtain ⟨p,hp⟩:∃ p,p=Go.Nt.pagesN t.length:=⟨_,rfl⟩;obtain ⟨r,hr⟩:∃ r,r=roomP m:=⟨_,rfl⟩;rw [←hp] at HP ⊢;rw [←hr] at HR ⊢;clear h hw hX e hb h0 hp hr;by_cases hlt:r<p
 focus
  have hlt':(r:Int)<(p:Int):=by omega
  rw [if_pos hlt]
 rotate_left
 focus
  have hlt':¬(r:Int)<(p:Int):=by omega
  rw [if_neg hlt]
 rotate_left
 all_goals
  go_enter Tryz.func74,Tryz.ntmps74
  go_wp2_with (first | (go_at_call 25;refine HD.out.mono ?_;rintro e w' ⟨rfl,hw⟩;have hw':=hw.symm;subst hw';clear hw) | (go_at_call 123;refine HP.out.mono ?_;rintro e w' ⟨rfl,hw⟩;have hw':=hw.symm;subst hw';clear hw) | (go_at_call 124;refine HR.out.mono ?_;rintro e w' ⟨rfl,hw⟩;have hw':=hw.symm;subst hw';clear hw));go_ret
  exact ⟨rfl,rfl⟩
theorem qjE (m:M) (b:Int):(eraA m b).2.nb=m.nb:=by
 unfold eraA eraF
 repeat' split
 all_goals rfl
theorem qje (m:M) (b:Int):(eraA m b).2.np=m.np:=by
 unfold eraA eraF
 repeat' split
 all_goals rfl
theorem qg6 (m:M) (b p:Int) (s:List UInt8):(progA m b p s).2.nb=m.nb:=by
 unfold progA progF
 repeat' split
 all_goals rfl
theorem qcG (m:M) (b p:Int) (s:List UInt8):(progA m b p s).2.np=m.np:=by
 unfold progA progF
 repeat' split
 all_goals rfl
def eraAll (m:M):Nat→M × (Nat→Bool)
 | 0=>(m,fun _=>false)
 | k+1=>((eraA (eraAll m k).1 (k:Nat)).2,if (eraA (eraAll m k).1 (k:Nat)).1 then (fun j=>j==k||(eraAll m k).2 j) else (eraAll m k).2)
theorem qe1 (m:M):∀ k,(eraAll m k).1.nb=m.nb
 | 0=>rfl
 | k+1=>by rw [eraAll];exact (qjE _ _).trans (qe1 m k)
theorem qdr {m:M} (h:WF m):∀ k,WF (eraAll m k).1
 | 0=>h
 | k+1=>by rw [eraAll];exact qeE (qdr h k) _
theorem qjH (w:World) (lo hi cb:Nat) (L:Loc) (m:M) (hw:WF m) (h:CP w lo hi cb L m) (hsz:hi≤w.heap.size) :
 Calls Tryz.prog 75 #[.pointer (some ⟨cb,0,none⟩)] w fun e w'=>e=.returned (.map (some w.heap.size))∧CP w' lo hi cb L (eraAll m m.nb).1∧BlAt w' w.heap.size m.nb (eraAll m m.nb).2∧Only lo hi w w':=by
 have h32:=hw.nb2;obtain ⟨W0,hW0⟩:∃ W0,W0=w.alloc (.map #[] 0):=⟨_,rfl⟩;have hbW:Below w.heap.size w W0:=by rw [hW0];exact (Below.refl _ w).alloc (Nat.le_refl _) _
 have hC0:CP W0 lo hi cb L m:=MemX.below h hsz hbW;have hS0:BlAt W0 w.heap.size 0 (fun _=>false):=by rw [hW0];exact qgk w
 have HBl:=hidI (qaP W0 lo hi cb L m hC0);have HC0:=hidI hC0;have HS0:=hidI hS0;have HO0:Hid (Only lo hi w W0):=hidI (Only.of_below hbW);have HW0:=hidI hW0;have HW:=hidI hw;have hmk:=make92 w;rw [←hW0] at hmk;obtain ⟨g,hg⟩:∃ g,g=w.heap.size:=⟨_,rfl⟩;rw [←hg] at HS0 hsz hmk ⊢;have Hg:=hidI hg;obtain ⟨nb,hnb⟩:∃ nb,nb=m.nb:=⟨_,rfl⟩;rw [←hnb] at HBl h32 ⊢;have Hnb:=hidI hnb;clear h hw hbW hC0 hS0 hW0 hnb hg;go_enter Tryz.func75,Tryz.ntmps75
 go_wp2_with fail;refine HBl.out.mono ?_;rintro e w' ⟨rfl,hw⟩;have hw':=hw.symm;subst hw';clear hw;go_wp2_with fail
 go_loopw [8] (fun i wr=>∃ k:Nat,k≤nb∧i=.int .i64 k∧Hid (CP wr lo hi cb L (eraAll m k).1)∧Hid (BlAt wr g k (eraAll m k).2)∧Hid (Only lo hi w wr)) (fun i _=>nb - (intOf i).toNat)
 case atStart=>exact ⟨0,Nat.zero_le _,rfl,HC0,HS0,HO0⟩
 case round =>
  clear HC0 HS0 HO0 HW0 HBl;obtain ⟨k,hk,rfl,HC,HS,HO⟩:=hrel;have hgs:g<wr.heap.size:=HS.out.lt;by_cases hlt:k<nb
  ·have A:=hidI (qi5 wr lo hi cb L (eraAll m k).1 (k:Nat) (qdr HW.out k) HC.out (by omega));obtain ⟨r,hr⟩:∃ r,r=(eraA (eraAll m k).1 (k:Nat)).1:=⟨_,rfl⟩;have Hst:Hid (eraAll m (k+1)=((eraA (eraAll m k).1 (k:Nat)).2,if r then (fun j=>j==k||(eraAll m k).2 j) else (eraAll m k).2)):=hidI (by rw [hr];rfl);rw [←hr] at A;clear hr;go_wp2_with fail;refine A.out.mono ?_;rintro e w1 ⟨rfl,hC1,hO1⟩;have hS1:BlAt w1 g k (eraAll m k).2:=HS.out.of_block (hO1.block g hgs (by omega));have HC1:Hid (CP w1 lo hi cb L (eraAll m (k+1)).1):=hidI (by rw [Hst.out];exact hC1);have HO1:=hidI (HO.out.trans hO1);have hgs1:=Nat.lt_of_lt_of_le hgs hO1.size;have HS1:=hidI hS1;clear A hC1 hO1 HC HS HO hS1;cases r with
   | true =>
     have A2:=hidI (qeL g k k _ w1 HS1.out (by omega) (by omega));go_wp2_with fail;refine A2.out.mono ?_;rintro e V ⟨rfl,hSV,hmV⟩;have HCV:Hid (CP V lo hi cb L (eraAll m (k+1)).1):=hidI (MemX.of_blocks HC1.out fun j _ h2=>hmV.grown.block j (by omega) (fun e=>by cases e;omega));have HSV:Hid (BlAt V g (k+1) (eraAll m (k+1)).2):=hidI (by rw [Hst.out];exact hSV);have HOV:Hid (Only lo hi w V):=hidI ⟨hmV.grown.os.trans HO1.out.os,hmV.grown.tape.trans HO1.out.tape,hmV.grown.output.trans HO1.out.output,Nat.le_trans HO1.out.size hmV.grown.size,fun j hj hn=>(hmV.grown.block j (Nat.lt_of_lt_of_le hj HO1.out.size) (fun e=>by cases e;have:=Hg.out;omega)).trans (HO1.out.block j hj hn)⟩;clear hSV hmV HS1 HC1 HO1 A2;go_wp2;go_roundw
     case rel=>exact ⟨k+1,by omega,by go_num,HCV,HSV,HOV⟩
     case measure=>simp [intOf];omega
   | false =>
     have HSV:Hid (BlAt w1 g (k+1) (eraAll m (k+1)).2):=hidI (by rw [Hst.out];exact HS1.out.mono (by omega));go_wp2;go_roundw
     case rel=>exact ⟨k+1,by omega,by go_num,HC1,HSV,HO1⟩
     case measure=>simp [intOf];omega
  have hkn:k=nb:=by omega
  subst hkn;go_wp2;go_ret
  exact ⟨rfl,HC.out,HS.out,HO.out⟩
end Go.Proofs.YtodmdkhdbfbfgaaGreatDoor.S1
namespace Go.Proofs.YtodmdkhdbfbfgaaGreatDoor
open Go.RowKit Go.Nt
theorem qmc {w:World} {base:Nat} {e:TypeId} {size:Nat} {v:Value} {n:Nat} {xs:List Value} (h:w.ownsRow base e size v (n+1) xs):∃ g cap,v=.slice (some ⟨g,0,none⟩) (n+1) cap:=by
 rcases h.2 with ⟨_,h0⟩ | ⟨g,cap,cur,rfl,_⟩
 ·exact absurd h0 (by omega)
 exact ⟨g,cap,rfl⟩
end Go.Proofs.YtodmdkhdbfbfgaaGreatDoor
namespace Go.Proofs.YtodmdkhdbfbfgaaGreatDoor
open Go.RowKit Go.Nt
def isOf (t:TypeId):Obj→Bool
 | .cells _ t' _=>t'==t
 | _=>false
structure But (t:TypeId) (w w':World):Prop where
 size:w.heap.size≤w'.heap.size
 block:∀ (k:Nat) (o:Obj),w.heap[k]? = some o→isOf t o=false→w'.heap[k]? = some o
namespace But
variable {t:TypeId} {a b c:World}
theorem refl (t:TypeId) (w:World):But t w w:=⟨Nat.le_refl _,fun _ _ h _=>h⟩
theorem trans (h:But t a b) (k:But t b c):But t a c:=⟨Nat.le_trans h.size k.size,fun i o e n=>k.block i o (h.block i o e n) n⟩
theorem alloc (h:But t a b) (o:Obj):But t a (b.alloc o):=h.trans ⟨by simp,fun k _ e _=>(Below.heap_alloc b o k (lt_of_heap e)).trans e⟩
theorem below (h:But t a b) (hb:Below b.heap.size b c):But t a c:=h.trans ⟨hb.size,fun k _ e _=>(hb.block k (lt_of_heap e)).trans e⟩
theorem grown (h:But t a b) {base n s:Nat} {v:Value} {xs:List Value} (hown:b.ownsRow base t s v n xs) (hg:b.grownBy c v.ownBlock):But t a c:=by
 refine h.trans ⟨hg.size,fun k o e hn=>(hg.block k (lt_of_heap e) (fun he => ?_)).trans e⟩;rcases hown.2 with ⟨rfl,_⟩ | ⟨g,cap,cur,rfl,_,hh,_⟩
 ·simp [Value.ownBlock] at he
 simp [Value.ownBlock] at he;subst he;rw [hh] at e;cases e
 simp [isOf] at hn
theorem cells (h:But t a b) {k:Nat} {x:Array Value} {t':TypeId} {f:Nat × Nat} (e:a.heap[k]? = some (.cells x t' f)) (hne:t'≠t):b.heap[k]? = some (.cells x t' f):=
 h.block k _ e (by simp [isOf,hne])
end But
end Go.Proofs.YtodmdkhdbfbfgaaGreatDoor
namespace Go.Proofs.YtodmdkhdbfbfgaaGreatDoor
open Go.RowKit Go.Nt
def bv (l:Bs):List Value:=l.map fun b=>Value.int .u8 b.toNat
theorem qaS (l:Bs):(bv l).length=l.length:=by simp [bv]
theorem qaI (a b:Bs):bv (a++b)=bv a++bv b:=by simp [bv]
theorem qfU (l:Bs):Lib.strCells (txt l)=bv l:=rfl
theorem Tryz.info5:(Tryz.prog.info? 5).map (fun i=>(i.zero,i.size,i.bytes))=some (some (.int .u8 0),1,1):=by kernel_rfl
theorem qbU (n:Int) (h₀:0≤n) (h₁:n<2^62):IntKind.i64.wrap n=n:=by rw [IntKind.wrap_i64];omega
theorem or15 (n:Int) (h0:0≤n) (h1:n≤4095):bits .or .i64 n 32768=n+32768:=by
 obtain ⟨k,rfl⟩:=Int.eq_ofNat_of_zero_le h0;rw [show (32768:Int)=((32768:Nat):Int) from rfl,(bits_nat .i64 62 (by decide) qbU k 32768 (by omega) (by omega)).2]
 have:k ||| 32768=k+32768:=by
  rw [Nat.or_comm,show (32768:Nat)=2^15*1 from rfl,←Nat.two_pow_add_eq_or_of_lt (by omega:k<2^15) 1];omega
 rw [this];rfl
theorem or8 (n:Nat) (b:Nat) (hn:n<1099511627776) (hb:b<256):bits .or .i64 ((n:Int)*256) (b:Int)=((n*256+b:Nat):Int):=by
 rw [bits_join .i64 62 (by decide) qbU 8 _ _ (by omega) (by omega) (by omega) (by omega) (by omega) (by omega)];simp
def Bytes (w:World) (B:Nat) (v:Value) (l:Bs):Prop:=w.ownsRow B 5 1 v l.length (bv l)
theorem Bytes.slice {w:World} {B:Nat} {v:Value} {l:Bs} (h:Bytes w B v l):∃ a c,v=.slice a l.length c:=by
 rcases h.2 with ⟨rfl,h0⟩ | ⟨g,cap,cur,rfl,_⟩
 ·exact ⟨none,0,by rw [h0]⟩
 exact ⟨_,_,rfl⟩
theorem qg1 (k j n:Nat) (h:j<k):enc (j+1) (n/256^(k - (j+1)))=enc j (n/256^(k - j))++[UInt8.ofNat (n/256^(k - (j+1)))]:=by
 rw [enc,Nat.div_div_eq_div_mul,←Nat.pow_succ,show (k - (j+1)).succ=k - j by omega]
theorem qat (B:Nat) (v:Value) (l:Bs) (k n:Nat) (w:World) (hB:B≤w.heap.size) (hv:Bytes w B v l) (hk:k≤4) (hl:l.length≤1000000) (hn:n<1099511627776) :
 Calls Tryz.prog 130 #[v,.int .i64 k,.int .i64 n] w fun e w'=>∃ v',e=.returned v'∧Bytes w' B v' (l++enc k n)∧Below B w w'∧But 5 w w':=by
 obtain ⟨i0,hi,hz0,hz1,hz2⟩:=info_parts Tryz.info5;have Hv:=hidI hv;clear hv;go_enter Tryz.func130,Tryz.ntmps130
 go_wp2
 go_loopw [0,7] (fun b i wr=>∃ j:Nat,j≤k∧i=.int .i64 ((k:Int) - j - 1)∧Hid (Bytes wr B b (l++enc j (n/256^(k - j))))∧Hid (Below B w wr)∧Hid (But 5 w wr)) (fun _ i _=>((intOf i)+1).toNat)
 case atStart=>exact ⟨0,Nat.zero_le _,by go_num,hidI (by simpa [enc] using Hv.out),hidI (Below.refl _ _),hidI (But.refl _ _)⟩
 case round =>
  obtain ⟨j,hj,rfl,Hb,Hbel,Hbut⟩:=hrel;rcases Nat.lt_or_ge j k with hlt | hge
  ·obtain ⟨m,hm⟩:∃ m,m=k - (j+1):=⟨_,rfl⟩;have hmi:(k:Int) - j - 1=(m:Nat):=by omega
   have hm4:m≤3:=by omega
   have Hs:=hidI (qg1 k j n hlt);rw [←hm] at Hs;have Hj:=hidI hmi;have Hm:=hidI hm;rw [hmi];clear hmi hm;obtain ⟨a,c,rfl⟩:=Hb.out.slice;obtain ⟨L,hL⟩:∃ L,L=(l++enc j (n/256^(k - j))).length:=⟨_,rfl⟩;have hLl:L≤1000004:=by rw [hL,List.length_append,qab];omega
   rw [←hL] at Hb ⊢;have HL:=hidI hL;have Ho:Hid (wr.ownsRow B 5 1 (.slice a L c) L (bv (l++enc j (n/256^(k - j))))):=hidI (by have:=Hb.out;unfold Bytes at this;rwa [←hL] at this);have hsz:=Hbel.out.size;clear hL;go_wp2_with (at_builtin;refine wpList_append_own _ rfl (.tmp 14) (.tmp 20) 111 rfl B 5 i0 _ 1 1 Tryz.underlying111 hi hz0 hz1 hz2 rfl (by decide) _ _ _ rfl (Ho.out.alloc _) ⟨wr.heap.size,0,none⟩ 1 1 [.int .u8 ((n:Int)/2^(8*m)%256)] rfl rfl ?c1 ?c2 ?c3 ?c4 ?c5 ?_)
   case c1=>exact cell_one_new _ _ _
   case c2=>intro u hu;simp at hu;subst hu;rfl
   case c3=>unfold maxLen;omega
   case c4=>omega
   case c5=>simp;omega
   intro v3 w3 hown3 hgrow _;have hbel3:Below B w w3:=(Hbel.out.alloc (by omega) _).grown hgrow (by simp;omega) (fun q hq=>(Ho.out.lt q hq).1);have hbut3:But 5 w w3:=(Hbut.out.alloc _).grown (Ho.out.alloc _) hgrow;have hB3:Hid (Bytes w3 B v3 (l++enc (j+1) (n/256^(k - (j+1))))):=by
    have h1:=HL.out;have h2:=Hs.out;have h3:=Hm.out;refine hidI ?_;unfold Bytes;rw [←h3,h2,←List.append_assoc,qaI,List.length_append,←h1];have h4:bv [UInt8.ofNat (n/256^m)]=[.int .u8 ((n:Int)/2^(8*m)%256)]:=by
     simp only [bv,List.map_cons,List.map_nil,UInt8.toNat_ofNat'];rw [show (256:Nat)=2^8 from rfl,←Nat.pow_mul]
     congr 2
    rw [h4];exact hown3
   go_wp2;go_roundw
   case rel=>exact ⟨j+1,by omega,by have:=Hj.out;go_num,hB3,hidI hbel3,hidI hbut3⟩
   case measure=>simp [intOf]
  have hjk:j=k:=by omega
  subst hjk;have e1:(j:Int) - j - 1 = -1:=by omega
  rw [e1];go_wp2;go_ret
  refine ⟨_,rfl,?_,Hbel.out,Hbut.out⟩
  have:=Hb.out
  simpa using this
end Go.Proofs.YtodmdkhdbfbfgaaGreatDoor
