/- Lemmas. -/
import Derived.LoopN
import Derived.Deep.RegionLaw
import Derived.Test.YtodmdkhdbfbfgaaGreatDoorM17
set_option linter.unusedVariables false
set_option linter.unusedSimpArgs false
set_option maxRecDepth 100000
set_option maxHeartbeats 8000000
namespace Go.Proofs.YtodmdkhdbfbfgaaGreatDoor
namespace S1
open Go.RowKit Pk
open Go.Nt (Fp lookF FpOk qaq recF partF ofF txtF inF endF qcv qcj qhL qfC)
theorem FAt.keptB {w w':World} {g n b:Nat} {P:Nat→Nat→Nat→Option Fp} (h:FAt w g n P) (hk:BdKept b w w') (hne:g≠b):FAt w' g n P:=by
 obtain ⟨D,⟨es,clock,h1,h2⟩,hh⟩:=h;exact ⟨D,⟨es,clock,hk.2.2.2.2 g _ h1 hne rfl,h2⟩,hh⟩
theorem BlAt.keptB {w w':World} {g n b:Nat} {S:Nat→Bool} (h:BlAt w g n S) (hk:BdKept b w w') (hne:g≠b):BlAt w' g n S:=by
 obtain ⟨D,⟨es,clock,h1,h2⟩,hh⟩:=h;exact ⟨D,⟨es,clock,hk.2.2.2.2 g _ h1 hne rfl,h2⟩,hh⟩
theorem fld1 (W:World) (a b c d e f:Value):(Instr.field 187 (.agg #[a,b,c,d,e,f]) 0).run Tryz.prog W=.ok (.agg #[a,b,c,d,e]) W:=by
 simp [Instr.field,run_underlying Tryz.underlying187,asAgg,go_sem]
theorem fld2 (W:World) (a b c d e:Value):(Instr.field 182 (.agg #[a,b,c,d,e]) 2).run Tryz.prog W=.ok d W:=by
 simp [Instr.field,run_underlying Tryz.underlying182,asAgg,go_sem]
def RcAt (w:World) (rb ib:Nat) (X:ByteArray) (b r e:Nat):Prop:=w.heap[rb]? = some (.cells #[.string X,.int .i64 (b:Nat),.int .u32 (r:Nat),.map (some ib),.int .i64 (e:Nat)] 94 (0,0))
def RecP (l:List Fp) (b r:Nat) (w:World) (e:Ending) (w':World):Prop:=
 Below w.heap.size w w' ∧
 ((∃ ps ib n,recF l b r=some ps∧e=.returned (.tuple #[.agg #[.string (txt (txtF ps)),.int .i64 (b:Nat),.int .u32 (r:Nat),.map (some ib),.int .i64 (endF ps:Nat)],.bool true])∧w.heap.size≤ib∧n≤100000∧BlAt w' ib n (inF ps)) ∨
  (recF l b r=none∧∃ X y z q k,e=.returned (.tuple #[.agg #[.string X,.int .i64 y,.int .u32 z,.map q,.int .i64 k],.bool false])))
theorem qi3 (w:World) (g n:Nat) (l:List Fp) (b r:Nat) (hF:FAt w g n (lookF l)) (hok:∀ f∈l,FpOk f∧f.blk<1000) (hb:b≤1000000) (hr:r≤4294967295) :
 Calls Tryz.prog 82 #[.map (some g),lv b r] w fun e w'=>RecP l b r w e w':=by
 have hgl:=hF.lt;obtain ⟨z0,hz0⟩:∃ z0,z0=w.heap.size:=⟨_,rfl⟩
 -- the blocks that are laid ahead of the loop
 obtain ⟨W1,hW1⟩:∃ W1,W1=w.alloc (.cells #[.int .i64 (b:Nat),.int .u32 (r:Nat)] 90):=⟨_,rfl⟩;obtain ⟨W2,hW2⟩:∃ W2,W2=W1.alloc (.cells #[.string ⟨#[]⟩,.int .i64 0,.int .u32 0,.map none,.int .i64 0] 94):=⟨_,rfl⟩;obtain ⟨W3,hW3⟩:∃ W3,W3=W2.alloc (.map #[] 0):=⟨_,rfl⟩;obtain ⟨W4,hW4⟩:∃ W4,W4=W3.alloc (.cells #[.string ⟨#[]⟩,.int .i64 (b:Nat),.int .u32 (r:Nat),.map (some (z0+2)),.int .i64 0] 94):=⟨_,rfl⟩;obtain ⟨W5,hW5⟩:∃ W5,W5=W4.alloc (.cells #[.pointer none,.slice none 0 0] 193):=⟨_,rfl⟩;have s1:W1.heap.size=z0+1:=by rw [hW1,hz0];simp
 have s2:W2.heap.size=z0+2:=by rw [hW2];simp [s1]
 have s3:W3.heap.size=z0+3:=by rw [hW3];simp [s2]
 have s4:W4.heap.size=z0+4:=by rw [hW4];simp [s3]
 have s5:W5.heap.size=z0+5:=by rw [hW5];simp [s4]
 have b1:Below w.heap.size w W1:=by rw [hW1];exact (Below.refl _ w).alloc (Nat.le_refl _) _
 have b5:Below w.heap.size w W5:=by rw [hW5,hW4,hW3,hW2];exact (((b1.alloc (by omega) _).alloc (by simp<;>omega) _).alloc (by simp<;>omega) _).alloc (by simp<;>omega) _
 have e1:W1.heap[z0]? = some (.cells #[.int .i64 (b:Nat),.int .u32 (r:Nat)] 90 (0,0)):=by rw [hW1,hz0];exact heap_alloc_new _ _
 have up2:∀ k,k<z0+1→W2.heap[k]? = W1.heap[k]? := fun k hk=>by rw [hW2];exact Below.heap_alloc W1 _ k (by omega)
 have up3:∀ k,k<z0+2→W3.heap[k]? = W2.heap[k]? := fun k hk=>by rw [hW3];exact Below.heap_alloc W2 _ k (by omega)
 have up4:∀ k,k<z0+3→W4.heap[k]? = W3.heap[k]? := fun k hk=>by rw [hW4];exact Below.heap_alloc W3 _ k (by omega)
 have up5:∀ k,k<z0+4→W5.heap[k]? = W4.heap[k]? := fun k hk=>by rw [hW5];exact Below.heap_alloc W4 _ k (by omega)
 have f1:W5.heap[z0]? = some (.cells #[.int .i64 (b:Nat),.int .u32 (r:Nat)] 90 (0,0)):=by rw [up5 z0 (by omega),up4 z0 (by omega),up3 z0 (by omega),up2 z0 (by omega)];exact e1
 have f2:W5.heap[z0+1]? = some (.cells #[.string ⟨#[]⟩,.int .i64 0,.int .u32 0,.map none,.int .i64 0] 94 (0,0)):=by rw [up5 _ (by omega),up4 _ (by omega),up3 _ (by omega),hW2,←s1];exact heap_alloc_new _ _
 have f3:BlAt W5 (z0+2) 0 (fun _=>false):=by
  have h3:=qgO W2;rw [←hW3,s2] at h3;exact (h3.of_block (up4 _ (by omega))).of_block (up5 _ (by omega))
 have f4:RcAt W5 (z0+3) (z0+2) ⟨#[]⟩ b r 0:=by
  unfold RcAt;rw [up5 _ (by omega),hW4,←s3];exact heap_alloc_new _ _
 have f5:BdAt W5 (z0+4) []:=⟨.pointer none,.slice none 0 0,by rw [hW5,←s4];exact heap_alloc_new _ _,.inl rfl,World.ownsRow_nil _ _ _ _⟩;have f6:FAt W5 g n (lookF l):=hF.of_block (b5.block g hgl);have g10:W2.cell? ⟨z0,0,none⟩=some (.int .i64 (b:Nat)):=by rw [World.cell?_of_block (up2 z0 (by omega)),cell_of_row W1 z0 0 _ 90 (0,0) e1];rfl
 have g11:W2.cell? ⟨z0,1,none⟩=some (.int .u32 (r:Nat)):=by rw [World.cell?_of_block (up2 z0 (by omega)),cell_of_row W1 z0 1 _ 90 (0,0) e1];rfl
 have g50:W5.cell? ⟨z0,0,none⟩=some (.int .i64 (b:Nat)):=by rw [cell_of_row W5 z0 0 _ 90 (0,0) f1];rfl
 have g51:W5.cell? ⟨z0,1,none⟩=some (.int .u32 (r:Nat)):=by rw [cell_of_row W5 z0 1 _ 90 (0,0) f1];rfl
 have hmk:=make92 W2;rw [←hW3,s2] at hmk;have hlk0:=(f6.look (a:=0) hb hr (by omega)).2;unfold pv fv at hlk0;rw [show ((0:Nat):Int)=0 from rfl] at hlk0;obtain ⟨o,ho⟩:∃ o,o=ofF l b r:=⟨_,rfl⟩;have hoe:((lookF l b r 0).getD fp0).of_=o:=by rw [ho];unfold ofF;cases lookF l b r 0<;>rfl
 have ho9:o<65536:=by
  rw [ho];unfold ofF;cases hx:lookF l b r 0 with
  | none=>show 0<65536;decide
  | some f=>exact (hok f (qaq hx).1).1.o
 obtain ⟨q0,hq0⟩:∃ q0,q0=(lookF l b r 0).getD fp0:=⟨_,rfl⟩;rw [←hq0] at hlk0 hoe;rw [hoe] at hlk0;have Ho:=hidI ho;have HW1:=hidI hW1;have HW2:=hidI hW2;have HW3:=hidI hW3;have HW4:=hidI hW4;have HW5:=hidI hW5;have Hs1:=hidI s1;have Hs2:=hidI s2;have Hs3:=hidI s3;have Hs4:=hidI s4;have Hz0:=hidI hz0;have F1:=hidI f1;have F2:=hidI f2;have F3:=hidI f3;have F4:=hidI f4;have F5:=hidI f5;have F6:=hidI f6;rw [hz0.symm] at b5;have B5:=hidI b5;have Hok:=hidI hok;unfold RecP;rw [←hz0];rw [←hz0] at hgl;clear hF hz0 hW1 hW2 hW3 hW4 hW5 s1 s2 s3 s4 s5 b1 b5 e1 up2 up3 up4 up5 f1 f2 f3 f4 f5 f6 ho hq0 hok hoe;unfold lv;have hfl1:=fld1 W5 (.int .i64 (q0.bad:Nat)) (.int .u32 (q0.num:Nat)) (.int .i64 (q0.at_:Nat)) (.int .i64 (o:Nat)) (.string (txt q0.text)) (.int .i64 (q0.blk:Nat))
 have hfl2:=fld2 W5 (.int .i64 (q0.bad:Nat)) (.int .u32 (q0.num:Nat)) (.int .i64 (q0.at_:Nat)) (.int .i64 (o:Nat)) (.string (txt q0.text));go_enter Tryz.func82,Tryz.ntmps82
 go_wp2_with (first | (rw [←HW1.out,←Hz0.out]) | (rw [←HW2.out,Hs1.out]) | (rw [←HW4.out,Hs3.out]) | (rw [←HW5.out,Hs4.out]) | fail);clear g10 g11 g50 g51 hmk hlk0 hfl1 hfl2
 go_loopw [22] (fun i wr=>∃ (k n':Nat) (ps:List Fp),k≤o∧i=.int .i64 k∧n'≤k∧Hid (partF l b r o k=some ps)∧Hid (wr.heap[z0]? = some (.cells #[.int .i64 (b:Nat),.int .u32 (r:Nat)] 90 (0,0)))∧Hid (wr.heap[z0+1]? = some (.cells #[.string ⟨#[]⟩,.int .i64 0,.int .u32 0,.map none,.int .i64 0] 94 (0,0)))∧Hid (BlAt wr (z0+2) n' (inF ps))∧Hid (RcAt wr (z0+3) (z0+2) ⟨#[]⟩ b r (endF ps))∧Hid (BdAt wr (z0+4) (txtF ps))∧Hid (FAt wr g n (lookF l))∧Hid (Below z0 w wr)∧Hid ((txtF ps).length=k*51)) (fun i _=>o - (intOf i).toNat)
 case atStart=>exact ⟨0,0,[],Nat.zero_le _,rfl,Nat.le_refl _,hidI rfl,F1,F2,F3,F4,F5,F6,B5,hidI rfl⟩
 case round =>
  clear F1 F2 F3 F4 F5 F6 B5;obtain ⟨k,n',ps,hk,rfl,hn',HP,F1,F2,F3,F4,F5,F6,HB,HTl⟩:=hrel;have hz4:z0+4<wr.heap.size:=by obtain ⟨_,_,hb9,_⟩:=F5.out;exact lt_of_heap hb9
  by_cases hlt:k<o
  ·have c0:wr.cell? ⟨z0,0,none⟩=some (.int .i64 (b:Nat)):=by rw [cell_of_row wr z0 0 _ 90 (0,0) F1.out];rfl
   have c1:wr.cell? ⟨z0,1,none⟩=some (.int .u32 (r:Nat)):=by rw [cell_of_row wr z0 1 _ 90 (0,0) F1.out];rfl
   have hlk:=(F6.out.look (a:=k) hb hr (by omega)).1;unfold pv fv at hlk;obtain ⟨q,hq⟩:∃ q,q=(lookF l b r k).getD fp0:=⟨_,rfl⟩;obtain ⟨zz,hzz⟩:∃ zz,zz=(lookF l b r k).isSome:=⟨_,rfl⟩;rw [←hq,←hzz] at hlk;obtain ⟨V1,hV1⟩:∃ V1,V1=wr.alloc (.cells #[.int .i64 (q.bad:Nat),.int .u32 (q.num:Nat),.int .i64 (q.at_:Nat),.int .i64 (q.of_:Nat),.string (txt q.text),.int .i64 (q.blk:Nat)] 187):=⟨_,rfl⟩;obtain ⟨pb,hpb⟩:∃ pb,pb=wr.heap.size:=⟨_,rfl⟩;have hp1:V1.heap[pb]? = some (.cells #[.int .i64 (q.bad:Nat),.int .u32 (q.num:Nat),.int .i64 (q.at_:Nat),.int .i64 (q.of_:Nat),.string (txt q.text),.int .i64 (q.blk:Nat)] 187 (0,0)):=by rw [hV1,hpb];exact heap_alloc_new _ _
   have hbv:Below wr.heap.size wr V1:=by rw [hV1];exact (Below.refl _ wr).alloc (Nat.le_refl _) _
   have hbk:∀ j,j<wr.heap.size→V1.heap[j]? = wr.heap[j]? := fun j hj=>hbv.block j hj
   have p3:V1.cell? ⟨pb,3,none⟩=some (.int .i64 (q.of_:Nat)):=by rw [cell_of_row V1 pb 3 _ 187 (0,0) hp1];rfl
   have p4:V1.cell? ⟨pb,4,none⟩=some (.string (txt q.text)):=by rw [cell_of_row V1 pb 4 _ 187 (0,0) hp1];rfl
   have G1:=hidI ((hbk z0 (by omega)).trans F1.out);have G2:=hidI ((hbk (z0+1) (by omega)).trans F2.out);have G3:=hidI (F3.out.of_block (hbk (z0+2) (by omega)));have G4:Hid (RcAt V1 (z0+3) (z0+2) ⟨#[]⟩ b r (endF ps)):=hidI ((hbk (z0+3) (by omega)).trans F4.out);have G5:=hidI (F5.out.of_blocks (w':=V1) (.inr hbk));have G6:=hidI (F6.out.of_block (hbk g (by have:=F6.out.lt;exact this)));have G7:Hid (Below z0 w V1):=hidI (HB.out.trans (hbv.mono (by omega)));have Hq:=hidI hq;have Hzz:=hidI hzz;have HV1:=hidI hV1;have Hpb:=hidI hpb;have Hp1:=hidI hp1;have hpz:z0+4<pb:=by omega
   clear hq hzz hV1 hpb hp1 hbv hbk F1 F2 F3 F4 F5 F6 HB;by_cases hgood:zz=true∧q.of_=o
   ·obtain ⟨hzt,hqo⟩:=hgood;subst hzt;obtain ⟨f,hf⟩:∃ f,lookF l b r k=some f:=Option.isSome_iff_exists.1 Hzz.out.symm;have hqf:q=f:=by rw [Hq.out,hf];rfl
    subst hqf;have hfok:=Hok.out q (qaq hf).1;have hql:=hfok.1.t;have hblk:=hfok.2;have Hst:Hid (partF l b r o (k+1)=some (ps++[q])):=hidI (by rw [partF,HP.out,hf];simp [hqo]);have A:=hidI (qdm (z0+4) (txtF ps) q.text V1 G5.out (by rw [HTl.out];omega) (by omega));rw [show Go.Proofs.YtodmdkhdbfbfgaaGreatDoor.txt q.text=txt q.text from rfl] at A;rw [hqo] at HV1 Hp1 p3 hlk;have Hqo:=hidI hqo;clear hf hqo;go_wp2_with (first | (rw [←HV1.out,←Hpb.out]) | fail);refine A.out.mono ?_;rintro e V2 ⟨⟨rv,rfl⟩,hD2,hK2,hB2⟩;have K2:=hK2.2.2.2.2;have I1:=hidI (K2 z0 _ G1.out (by omega) rfl);have I2:=hidI (K2 (z0+1) _ G2.out (by omega) rfl);have I3:=hidI (G3.out.keptB hK2 (by omega));have I4:Hid (RcAt V2 (z0+3) (z0+2) ⟨#[]⟩ b r (endF ps)):=hidI (K2 (z0+3) _ G4.out (by omega) rfl);have I6:=hidI (G6.out.keptB hK2 (by omega));have Ip:=hidI (K2 pb _ Hp1.out (by omega) rfl)
    have I7:Hid (Below z0 w V2):=hidI (G7.out.trans (hB2.mono (by omega)));have I5:=hidI hD2;have r3:V2.cell? ⟨z0+3,3,none⟩=some (.map (some (z0+2))):=by rw [cell_of_row V2 (z0+3) 3 _ 94 (0,0) I4.out];rfl
    have p5:V2.cell? ⟨pb,5,none⟩=some (.int .i64 (q.blk:Nat)):=by rw [cell_of_row V2 pb 5 _ 187 (0,0) Ip.out];rfl
    have A2:=hidI (qeB (z0+2) n' q.blk (inF ps) V2 I3.out (by omega) (by omega));clear A hD2 hK2 hB2 K2 G1 G2 G3 G4 G5 G6 G7 p3 p4 c0 c1 hlk Hp1;go_wp2_with fail;refine A2.out.mono ?_;rintro e V3 ⟨rfl,hS3,hm3⟩;have ek:∀ j,j<V2.heap.size→j≠z0+2→V3.heap[j]? = V2.heap[j]? := fun j hj hne=>hm3.grown.block j hj (fun e=>by cases e;exact hne rfl)
    have hpl:=lt_of_heap Ip.out;have J1:=hidI ((ek z0 (lt_of_heap I1.out) (by omega)).trans I1.out);have J2:=hidI ((ek (z0+1) (lt_of_heap I2.out) (by omega)).trans I2.out);have J4:Hid (RcAt V3 (z0+3) (z0+2) ⟨#[]⟩ b r (endF ps)):=hidI ((ek (z0+3) (lt_of_heap I4.out) (by omega)).trans I4.out);have J6:=hidI (I6.out.of_block (ek g I6.out.lt (by omega)));have Jp:=hidI ((ek pb hpl (by omega)).trans Ip.out);have J5:Hid (BdAt V3 (z0+4) (txtF ps++q.text)):=hidI (by
     obtain ⟨p9,v9,h91,h92,h93⟩:=I5.out;refine ⟨p9,v9,(ek (z0+4) (lt_of_heap h91) (by omega)).trans h91,h92,h93.1,?_⟩;rcases h93.2 with h94 | ⟨g9,cap,cur,e9,hg9,h95,h96⟩
     ·exact .inl h94
     exact .inr ⟨g9,cap,cur,e9,hg9,(ek g9 (lt_of_heap h95) (by omega)).trans h95,h96⟩)
    have J3:Hid (BlAt V3 (z0+2) (n'+1) (inF (ps++[q]))):=hidI (hS3.congr fun i=>(qhL ps q i).symm);have J7:Hid (Below z0 w V3):=hidI (I7.out.trans ⟨hm3.grown.os,hm3.grown.tape,hm3.grown.output,hm3.grown.size,fun j hj=>ek j (by omega) (by omega)⟩);have p5':V3.cell? ⟨pb,5,none⟩=some (.int .i64 (q.blk:Nat)):=by rw [cell_of_row V3 pb 5 _ 187 (0,0) Jp.out];rfl
    have r4:V3.cell? ⟨z0+3,4,none⟩=some (.int .i64 (endF ps:Nat)):=by rw [cell_of_row V3 (z0+3) 4 _ 94 (0,0) J4.out];rfl
    have fz4:=frozen_of_row V3 (z0+3) 4 _ 94 J4.out;obtain ⟨V4,hV4⟩:∃ V4,V4=V3.setCell ⟨z0+3,4,none⟩ (.int .i64 (q.blk:Nat)):=⟨_,rfl⟩;have eo:∀ j,j≠z0+3→V4.heap[j]? = V3.heap[j]? := fun j hj=>by rw [hV4];exact Below.heap_setCell V3 ⟨z0+3,4,none⟩ _ j hj
    have L1:=hidI ((eo z0 (by omega)).trans J1.out);have L2:=hidI ((eo (z0+1) (by omega)).trans J2.out);have L3:=hidI (J3.out.of_block (eo (z0+2) (by omega)));have L4:Hid (RcAt V4 (z0+3) (z0+2) ⟨#[]⟩ b r (endF (ps++[q]))):=hidI (by rw [qfC,hV4];exact heap_setCell_same V3 (z0+3) 4 _ 94 _ J4.out);have L5:Hid (BdAt V4 (z0+4) (txtF (ps++[q]))):=hidI (by
     rw [qcj];obtain ⟨p9,v9,h91,h92,h93⟩:=J5.out;refine ⟨p9,v9,(eo (z0+4) (by omega)).trans h91,h92,h93.1,?_⟩;rcases h93.2 with h94 | ⟨g9,cap,cur,e9,hg9,h95,h96⟩
     ·exact .inl h94
     exact .inr ⟨g9,cap,cur,e9,hg9,(eo g9 (by omega)).trans h95,h96⟩)
    have L6:=hidI (J6.out.of_block (eo g (by omega)));have L7:Hid (Below z0 w V4):=hidI (by rw [hV4];exact J7.out.setCell (by simp<;>omega) _);have HT4:Hid ((txtF (ps++[q])).length=(k+1)*51):=hidI (by rw [qcj,List.length_append,HTl.out,hql];omega);have HV4:=hidI hV4;clear A2 hS3 hm3 ek I1 I2 I3 I4 I5 I6 I7 Ip J1 J2 J3 J4 J5 J6 J7 Jp eo hV4 r3 p5;go_wp2_with (first | (rw [←HV4.out]) | fail);go_roundw
    case rel=>exact ⟨k+1,n'+1,ps++[q],by omega,by go_num,by omega,Hst,L1,L2,L3,L4,L5,L6,L7,HT4⟩
    case measure=>simp [intOf];omega
   have HR:Hid (recF l b r=none):=hidI (by
    have h1:partF l b r o (k+1)=none:=by
     rw [partF,HP.out];cases hf:lookF l b r k with
     | none=>rfl
     | some f =>
       have hqf:q=f:=by rw [Hq.out,hf];rfl
       have hz1:zz=true:=by rw [Hzz.out,hf];rfl
       have:f.of_≠o:=fun e=>hgood ⟨hz1,by rw [hqf];exact e⟩
       simp [this]
    unfold recF;rw [←Ho.out]
    split
    ·rfl
    exact qcv (by omega) h1)
   have q20:V1.cell? ⟨z0+1,0,none⟩=some (.string ⟨#[]⟩):=by rw [cell_of_row V1 (z0+1) 0 _ 94 (0,0) G2.out];rfl
   have q21:V1.cell? ⟨z0+1,1,none⟩=some (.int .i64 0):=by rw [cell_of_row V1 (z0+1) 1 _ 94 (0,0) G2.out];rfl
   have q22:V1.cell? ⟨z0+1,2,none⟩=some (.int .u32 0):=by rw [cell_of_row V1 (z0+1) 2 _ 94 (0,0) G2.out];rfl
   have q23:V1.cell? ⟨z0+1,3,none⟩=some (.map none):=by rw [cell_of_row V1 (z0+1) 3 _ 94 (0,0) G2.out];rfl
   have q24:V1.cell? ⟨z0+1,4,none⟩=some (.int .i64 0):=by rw [cell_of_row V1 (z0+1) 4 _ 94 (0,0) G2.out];rfl
   have y0:=frozen_of_row V1 (z0+1) 0 _ 94 G2.out;have y1:=frozen_of_row V1 (z0+1) 1 _ 94 G2.out;have y2:=frozen_of_row V1 (z0+1) 2 _ 94 G2.out;have y3:=frozen_of_row V1 (z0+1) 3 _ 94 G2.out;have y4:=frozen_of_row V1 (z0+1) 4 _ 94 G2.out;have hfin:∀ (e:Ending) (V:World),Below z0 w V→e=.returned (.tuple #[.agg #[.string ⟨#[]⟩,.int .i64 0,.int .u32 0,.map none,.int .i64 0],.bool false])→(Below z0 w V∧((∃ ps ib n,recF l b r=some ps∧e=.returned (.tuple #[.agg #[.string (txt (txtF ps)),.int .i64 (b:Nat),.int .u32 (r:Nat),.map (some ib),.int .i64 (endF ps:Nat)],.bool true])∧z0≤ib∧n≤100000∧BlAt V ib n (inF ps))∨(recF l b r=none∧∃ X y z q k,e=.returned (.tuple #[.agg #[.string X,.int .i64 y,.int .u32 z,.map q,.int .i64 k],.bool false])))):=fun e V h1 h2=>⟨h1,.inr ⟨HR.out,_,_,_,_,_,h2⟩⟩
   have Hfin:=hidI hfin;clear hfin;cases zz with
   | false =>
     clear hgood;go_wp2_with (first | (rw [←HV1.out,←Hpb.out]) | fail);refine bodyPost_ret (v:=.tuple #[.agg #[.string ⟨#[]⟩,.int .i64 0,.int .u32 0,.map none,.int .i64 0],.bool false]) ?_ rfl (Hfin.out _ _ ?_ rfl)
     ·simp [results,go_sem,q20,q21,q22,q23,q24]
     exact ((((G7.out.setCell (by simp<;>omega) _).setCell (by simp<;>omega) _).setCell (by simp<;>omega) _).setCell (by simp<;>omega) _).setCell (by simp<;>omega) _
   | true =>
     have hqn:¬q.of_=o:=fun e=>hgood ⟨rfl,e⟩
     have hqi:¬(q.of_:Int)=(o:Int):=by omega
     clear hgood;go_wp2_with (first | (rw [←HV1.out,←Hpb.out]) | fail);refine bodyPost_ret (v:=.tuple #[.agg #[.string ⟨#[]⟩,.int .i64 0,.int .u32 0,.map none,.int .i64 0],.bool false]) ?_ rfl (Hfin.out _ _ ?_ rfl)
     ·simp [results,go_sem,q20,q21,q22,q23,q24]
     exact ((((G7.out.setCell (by simp<;>omega) _).setCell (by simp<;>omega) _).setCell (by simp<;>omega) _).setCell (by simp<;>omega) _).setCell (by simp<;>omega) _
  have hko:k=o:=by omega
  subst hko;have A:=hidI (Tryz.Builder_String_any_k (z0+4) (z0+4) (txtF ps) wr F5.out.lib (by omega));rw [show (⟨(txtF ps).toArray⟩:ByteArray)=txt (txtF ps) from rfl] at A;obtain ⟨X,hX⟩:∃ X,X=txt (txtF ps):=⟨_,rfl⟩;rw [←hX] at A;have HX:=hidI hX;clear hX;go_wp2_with fail;refine A.out.mono ?_;rintro e V2 ⟨rfl,_,hB2,_⟩;have I2:=(hB2.block (z0+1) (by omega)).trans F2.out;have I3:=F3.out.of_block (hB2.block (z0+2) (by omega));have I4:RcAt V2 (z0+3) (z0+2) ⟨#[]⟩ b r (endF ps):=(hB2.block (z0+3) (by omega)).trans F4.out;have I7:Below z0 w V2:=HB.out.trans (hB2.mono (by omega));have r0:V2.cell? ⟨z0+3,0,none⟩=some (.string ⟨#[]⟩):=by rw [cell_of_row V2 (z0+3) 0 _ 94 (0,0) I4];rfl
  have fz0:=frozen_of_row V2 (z0+3) 0 _ 94 I4;obtain ⟨V3,hV3⟩:∃ V3,V3=V2.setCell ⟨z0+3,0,none⟩ (.string X):=⟨_,rfl⟩;have eo:∀ j,j≠z0+3→V3.heap[j]? = V2.heap[j]? := fun j hj=>by rw [hV3];exact Below.heap_setCell V2 ⟨z0+3,0,none⟩ _ j hj
  have J4:RcAt V3 (z0+3) (z0+2) X b r (endF ps):=by rw [hV3];exact heap_setCell_same V2 (z0+3) 0 _ 94 _ I4
  have J2:=(eo (z0+1) (by omega)).trans I2;have J3:=I3.of_block (eo (z0+2) (by omega));have J7:Below z0 w V3:=by rw [hV3];exact I7.setCell (by simp<;>omega) _
  obtain ⟨ee,hee⟩:∃ ee,ee=endF ps:=⟨_,rfl⟩;rw [←hee] at J4;have Hee:=hidI hee;have t0:V3.cell? ⟨z0+3,0,none⟩=some (.string X):=by rw [cell_of_row V3 (z0+3) 0 _ 94 (0,0) J4];rfl
  have t1:V3.cell? ⟨z0+3,1,none⟩=some (.int .i64 (b:Nat)):=by rw [cell_of_row V3 (z0+3) 1 _ 94 (0,0) J4];rfl
  have t2:V3.cell? ⟨z0+3,2,none⟩=some (.int .u32 (r:Nat)):=by rw [cell_of_row V3 (z0+3) 2 _ 94 (0,0) J4];rfl
  have t3:V3.cell? ⟨z0+3,3,none⟩=some (.map (some (z0+2))):=by rw [cell_of_row V3 (z0+3) 3 _ 94 (0,0) J4];rfl
  have t4:V3.cell? ⟨z0+3,4,none⟩=some (.int .i64 (ee:Nat)):=by rw [cell_of_row V3 (z0+3) 4 _ 94 (0,0) J4];rfl
  have q20:V3.cell? ⟨z0+1,0,none⟩=some (.string ⟨#[]⟩):=by rw [cell_of_row V3 (z0+1) 0 _ 94 (0,0) J2];rfl
  have q21:V3.cell? ⟨z0+1,1,none⟩=some (.int .i64 0):=by rw [cell_of_row V3 (z0+1) 1 _ 94 (0,0) J2];rfl
  have q22:V3.cell? ⟨z0+1,2,none⟩=some (.int .u32 0):=by rw [cell_of_row V3 (z0+1) 2 _ 94 (0,0) J2];rfl
  have q23:V3.cell? ⟨z0+1,3,none⟩=some (.map none):=by rw [cell_of_row V3 (z0+1) 3 _ 94 (0,0) J2];rfl
  have q24:V3.cell? ⟨z0+1,4,none⟩=some (.int .i64 0):=by rw [cell_of_row V3 (z0+1) 4 _ 94 (0,0) J2];rfl
  have y0:=frozen_of_row V3 (z0+1) 0 _ 94 J2;have y1:=frozen_of_row V3 (z0+1) 1 _ 94 J2;have y2:=frozen_of_row V3 (z0+1) 2 _ 94 J2;have y3:=frozen_of_row V3 (z0+1) 3 _ 94 J2;have y4:=frozen_of_row V3 (z0+1) 4 _ 94 J2;have HJ3:=hidI J3;have HJ7:=hidI J7;have HV3:=hidI hV3;have hps:k=0∨recF l b r=some ps:=by
   rcases Nat.eq_zero_or_pos k with h0 | h0
   ·exact .inl h0
   right
   unfold recF;rw [←Ho.out,if_neg (by omega)];exact HP.out
  have Hps:=hidI hps;have H0:Hid (k=0→recF l b r=none):=hidI (fun h0=>by unfold recF;rw [←Ho.out,if_pos h0]);clear A hB2 I2 I3 I4 I7 eo hV3 J2 J3 J4 J7 hee hps;by_cases hk0:k=0
  ·subst hk0;go_wp2_with (first | (rw [←HV3.out]) | fail);refine bodyPost_ret (v:=.tuple #[.agg #[.string X,.int .i64 (b:Nat),.int .u32 (r:Nat),.map (some (z0+2)),.int .i64 (ee:Nat)],.bool false]) ?_ rfl ⟨?_,.inr ⟨H0.out trivial,_,_,_,_,_,rfl⟩⟩
   ·simp [results,go_sem,q20,q21,q22,q23,q24]
   exact ((((HJ7.out.setCell (by simp<;>omega) _).setCell (by simp<;>omega) _).setCell (by simp<;>omega) _).setCell (by simp<;>omega) _).setCell (by simp<;>omega) _
  have hki:(0:Int)<(k:Int):=by omega
  go_wp2_with (first | (rw [←HV3.out]) | fail);refine bodyPost_ret (v:=.tuple #[.agg #[.string X,.int .i64 (b:Nat),.int .u32 (r:Nat),.map (some (z0+2)),.int .i64 (ee:Nat)],.bool true]) ?_ rfl ⟨?_,.inl ⟨ps,z0+2,n',Hps.out.resolve_left hk0,?_,by omega,by omega,?_⟩⟩
  ·simp [results,go_sem,q20,q21,q22,q23,q24];omega
  ·exact ((((HJ7.out.setCell (by simp<;>omega) _).setCell (by simp<;>omega) _).setCell (by simp<;>omega) _).setCell (by simp<;>omega) _).setCell (by simp<;>omega) _
  ·rw [←Hee.out,←HX.out]
  exact HJ3.out.of_block (by
   refine (Below.heap_setCell _ ⟨z0+1,4,none⟩ _ _ (by simp<;>omega)).trans ?_;refine (Below.heap_setCell _ ⟨z0+1,3,none⟩ _ _ (by simp<;>omega)).trans ?_;refine (Below.heap_setCell _ ⟨z0+1,2,none⟩ _ _ (by simp<;>omega)).trans ?_;refine (Below.heap_setCell _ ⟨z0+1,1,none⟩ _ _ (by simp<;>omega)).trans ?_;exact Below.heap_setCell _ ⟨z0+1,0,none⟩ _ _ (by simp<;>omega))
end S1
namespace S1
open Go.RowKit Pk Go.Shelf
open Go.Nt (Fp lookF hasL hasL_iff FpOk qaq scanF recF txtF inF endF)
attribute [local go_sem] Oper.semAt_some
def rv (ps:List Fp) (b r ib:Nat):Value:=.agg #[.string (txt (txtF ps)),.int .i64 (b:Nat),.int .u32 (r:Nat),.map (some ib),.int .i64 (endF ps:Nat)]
def rcs (ps:List Fp) (b r ib:Nat):List Value:=[.string (txt (txtF ps)),.int .i64 (b:Nat),.int .u32 (r:Nat),.map (some ib),.int .i64 (endF ps:Nat)]
theorem Tryz.info94:(Tryz.prog.info? 94).map (fun i=>(i.zero,i.size,i.bytes))=some (some (.agg #[.string ⟨#[]⟩,.int .i64 0,.int .u32 0,.map none,.int .i64 0]),5,48):=by kernel_rfl
theorem qap {F:Fence} {n:Nat} {P:Program} {ops:Array Oper} {o:Oper} {a:Act} {w:World} {K:Act→World→Prop} {Q:Exit→Act→World→Prop} {E:Prop} (hgd:o.guard=none) (s x:Operand) (t:TypeId)
 (ho:o.op=.call { callee:=.builtin .append,args:=#[s,x],argTypes:=#[t,t] }) (vs vx:Value) (hs:a.eval s=vs) (hx:a.eval x=vx)
 (v':Value) (w':World) (hr:(Builtin.append_ #[t,t] o.type #[vs,vx]).run P w=.ok v' w') (h:K (a.put o.dst v') w') :
 if Region.wanted o (yielded ops a.tmps)=true then Oper.wpIn F n P o a w K Q else E:=by
 have hw:Region.wanted o (yielded ops a.tmps)=true:=by simp [Region.wanted,hgd]
 rw [if_pos hw];unfold Oper.wpIn;refine ⟨by simp [Oper.about,ho,resolve,Target.leads,Sem.run_pure],?_⟩;rw [Oper.semAt_plain F _ _ (by rw [ho];intro c hc';cases hc')];simp [execOp,ho,resolve,invoke,builtin,hs,hx,hr,Result.andThen];exact h
end S1
section
open Go.RowKit Go.Nt
variable {rb s n:Nat} {v:Value} {xs:List Value} {u:Bs→Option Bs}
theorem Turn.own {a b:World} (h:Turn rb a b) {x:Array Value} {T:TypeId} {f:Nat × Nat} (hrb:a.heap[rb]? = some (.cells x T f)) {base e:Nat} (ho:a.ownsRow base e s v n xs) (hne:e≠T):b.ownsRow base e s v n xs:=by
 refine ⟨ho.1,?_⟩;rcases ho.2 with ⟨rfl,h0⟩ | ⟨g,cap,cur,rfl,h1,hh,h2⟩
 ·exact .inl ⟨rfl,h0⟩
 refine .inr ⟨g,cap,cur,rfl,h1,(h.block g (lt_of_heap hh) (fun e' => ?_)).trans hh,h2⟩;subst e';rw [hrb] at hh;cases hh
 exact hne rfl
theorem RdAt.grown {w w':World} {r:Rd} (h:RdAt w rb r) {base:Nat} (hown:w.ownsRow base 39 s v n xs) (hg:w.grownBy w' v.ownBlock):RdAt w' rb r:=
 ((But.refl 39 w).grown hown hg).cells h (by decide)
theorem qe6 (k:Nat) (r:Rd):(nmb k r).2.1.length≤r.1.length:=(qbj k r).2
theorem qjf (u:Bs→Option Bs) (r:Rd):(rdItem u r).2.1.length≤r.1.length:=by
 unfold rdItem;simp only;have h1:=qe6 2 r;have h2:=qe6 4 (nmb 2 r).2;have h3:=qe6 1 (nmb 4 (nmb 2 r).2).2;have h4:=(qbj (nmb 1 (nmb 4 (nmb 2 r).2).2).1 (nmb 1 (nmb 4 (nmb 2 r).2).2).2).2;by_cases hk:32768≤(nmb 2 r).1
 ·rw [if_pos hk];simp only;omega
 rw [if_neg hk];have h5:=qe6 2 (Go.Nt.tk (nmb 1 (nmb 4 (nmb 2 r).2).2).1 (nmb 1 (nmb 4 (nmb 2 r).2).2).2).2;have h6:=(qbj (nmb 2 (Go.Nt.tk (nmb 1 (nmb 4 (nmb 2 r).2).2).1 (nmb 1 (nmb 4 (nmb 2 r).2).2).2).2).1 (nmb 2 (Go.Nt.tk (nmb 1 (nmb 4 (nmb 2 r).2).2).1 (nmb 1 (nmb 4 (nmb 2 r).2).2).2).2).2).2;simp only;omega
theorem qiH (hu:∀ t d:Bs,u t=some d→d.length≤4000) (r:Rd):(rdItem u r).1.path.length≤255∧(rdItem u r).1.data.length≤4000:=by
 unfold rdItem;simp only;have hp:(Go.Nt.tk (nmb 1 (nmb 4 (nmb 2 r).2).2).1 (nmb 1 (nmb 4 (nmb 2 r).2).2).2).1.length≤255:=by
  have h1:=(qbj (nmb 1 (nmb 4 (nmb 2 r).2).2).1 (nmb 1 (nmb 4 (nmb 2 r).2).2).2).1;have h2:=qeu 1 (nmb 4 (nmb 2 r).2).2;omega
 by_cases hk:32768≤(nmb 2 r).1
 ·rw [if_pos hk];exact ⟨hp,by simp⟩
 rw [if_neg hk];refine ⟨hp,?_⟩;simp only;cases h:u _ with
 | none=>simp
 | some d=>simpa using hu _ d h
def FromP (u:Bs→Option Bs) (t:Bs) (w:World) (e:Ending) (w':World):Prop:=
 Below w.heap.size w w' ∧
  ((e=.returned (.tuple #[.map none,.bool false])∧∀ l,parse u t=some l→isTree l=false) ∨
  ∃ l b,parse u t=some l∧isTree l=true∧e=.returned (.tuple #[.map (some b),.bool true])∧w.heap.size≤b∧TreeAt w' b l)
theorem qfE (hP:PackC u) (t:Bs) (w:World) (hml:ML w) (ht:t.length≤1000000) :
 Calls Tryz.prog 46 #[.string (txt t)] w fun e w'=>FromP u t w e w':=by
 obtain ⟨i0,hi,hz0,hz1,hz2⟩:=info_parts Tryz.info24;have hml0:=hml.lt;have Hml:=hidI hml;obtain ⟨W0,hW0⟩:∃ W0,W0=w.alloc (.cells #[.string (txt t),.bool true] 151):=⟨_,rfl⟩;have h0:RdAt W0 w.heap.size (t,true):=by rw [hW0];exact heap_alloc_new _ _
 have hB0:Below w.heap.size w W0:=by rw [hW0];exact (Below.refl _ w).alloc (Nat.le_refl _) _
 have hs0:W0.heap.size=w.heap.size+1:=by rw [hW0];simp
 have A1:=hidI (qbc w.heap.size (t,true) 1 W0 h0 (by decide) ht);obtain ⟨nr,hn⟩:∃ nr,nr=nmb 1 (t,true):=⟨_,rfl⟩;obtain ⟨m0,r0⟩:=nr;have hm0:m0<256:=by have:=qeu 1 (t,true);rw [←hn] at this;exact this
 have l0:r0.1.length≤1000000:=by have:=(qbj 1 (t,true)).2;have e:(nmb 1 (t,true)).2=(Go.Nt.tk 1 (t,true)).2:=rfl;rw [←hn] at e;rw [←e] at this;exact Nat.le_trans this ht
 rw [←hn] at A1;simp only at A1;have Hpar:Hid (parse u t=if (qaR u m0 r0 []).2.2 then some (qaR u m0 r0 []).1 else none):=hidI (by unfold parse;rw [←hn]);have HW0:=hidI hW0;have HB0:=hidI hB0;clear hml hW0 h0 hB0 hn;go_enter Tryz.func46,Tryz.ntmps46
 go_wp2_with (first | (rw [←HW0.out]) | fail);refine A1.out.mono ?_;rintro e w1 ⟨rfl,h1,t1⟩;have HB1:=hidI (HB0.out.trans (t1.below (Nat.le_refl _) (by omega)));have hs1:=t1.size;have H1:=hidI h1;clear A1 h1 t1;go_wp2
 go_loopw [5,6] (fun v i wr=>∃ (m:Nat) (r:Rd) (acc:List It),i=.int .i64 m∧m+acc.length=m0∧Hid (qaR u m0 r0 []=qaR u m r acc)∧r.1.length≤1000000∧Hid (RdAt wr w.heap.size r)∧Hid (wr.ownsRow w.heap.size 39 5 v acc.length (its acc))∧Hid (Below w.heap.size w wr)∧Hid (∀ x∈acc,x.path.length≤255∧x.data.length≤4000)) (fun _ i _=>(intOf i).toNat)
 case atStart=>exact ⟨m0,r0,[],rfl,by simp,hidI rfl,l0,H1,hidI (World.ownsRow_nil _ _ _ _),HB1,hidI (by simp)⟩
 case round =>
  obtain ⟨m,r,acc,rfl,hm,Hrd,lr,HR,HO,HB,Hfit⟩:=hrel;have hszr:=HB.out.size;have k1:=HR.out.c1;obtain ⟨fn,hfn⟩:∃ fn,fn=r.2:=⟨_,rfl⟩;rw [←hfn] at k1;have Hfn:=hidI hfn;clear hfn;obtain ⟨a2,c2,rfl,hin⟩:=qbO HO.out;obtain ⟨L,hL⟩:∃ L,L=acc.length:=⟨_,rfl⟩;rw [←hL] at HO ⊢;have hLm:m+L=m0:=by omega
  have HL:=hidI hL;have Hin:=hidI hin;clear hL hin hm;cases m with
  | zero =>
    have hend:Hid (qaR u m0 r0 []=(acc,r)):=Hrd;cases fn with
    | false =>
      go_wp2;go_ret2
      exact ⟨HB.out,.inl ⟨rfl,fun l hl=>by rw [Hpar.out,hend.out] at hl;simp only at hl;rw [←Hfn.out] at hl;cases hl⟩⟩
    | true =>
      have HN:=hidI (new_any a2 c2 acc wr (Hml.out.below HB.out hml0) Hin.out (by rw [←HL.out];omega) (fun x hx=>by have:=(Hfit.out x hx).1;omega) (fun x hx=>by have:=(Hfit.out x hx).2;omega));rw [←HL.out] at HN;have Hp:Hid (parse u t=some acc):=hidI (by rw [Hpar.out,hend.out];simp only;rw [←Hfn.out];rfl);go_wp2_with fail;refine HN.out.mono ?_;rintro e w5 ⟨hb5,⟨hno,rfl⟩ | ⟨hyes,b,rfl,hbb,hT⟩⟩
      ·have HB5:=hidI (HB.out.trans (hb5.mono hszr));clear hb5 HN;go_wp2;go_ret2
       exact ⟨HB5.out,.inl ⟨rfl,fun l hl=>by rw [Hp.out] at hl;cases hl;exact hno⟩⟩
      have HB5:=hidI (HB.out.trans (hb5.mono hszr));have HT:=hidI hT;clear hb5 HN hT;go_wp2;go_ret2
      exact ⟨HB5.out,.inr ⟨acc,b,Hp.out,hyes,rfl,by omega,HT.out⟩⟩
  | succ m =>
    cases fn with
    | false =>
      have hend:Hid (qaR u m0 r0 []=(acc,r)):=hidI (by rw [Hrd.out];show (if r.2 then _ else _)=_;rw [←Hfn.out];rfl);go_wp2;go_ret2
      exact ⟨HB.out,.inl ⟨rfl,fun l hl=>by rw [Hpar.out,hend.out] at hl;simp only at hl;rw [←Hfn.out] at hl;cases hl⟩⟩
    | true =>
      have A:=hidI (qlB hP w.heap.size r wr HR.out lr);have Hstep:Hid (qaR u m0 r0 []=qaR u m (rdItem u r).2 (acc++[(rdItem u r).1])):=hidI (by rw [Hrd.out];show (if r.2 then _ else _)=_;rw [←Hfn.out];rfl);have Hf2:=hidI (qiH hP.small r);have lr2:(rdItem u r).2.1.length≤1000000:=Nat.le_trans (qjf u r) lr;obtain ⟨x,hx⟩:∃ x,x=(rdItem u r).1:=⟨_,rfl⟩;obtain ⟨r',hr'⟩:∃ r',r'=(rdItem u r).2:=⟨_,rfl⟩;rw [←hx,←hr'] at A Hstep;rw [←hx] at Hf2;rw [←hr'] at lr2;unfold itv at A;clear hx hr' Hrd;go_wp2_with fail;refine A.out.mono ?_;rintro e w3 ⟨rfl,h3,t3⟩;have ho3:=t3.own HR.out HO.out (by decide);have hb3:=HB.out.trans (t3.below (Nat.le_refl _) (by omega));have hs3:=t3.size;have hrlt:=HR.out.lt;have HO3:=hidI ho3;have HB3:=hidI hb3;have H3:=hidI h3;clear A h3 t3 ho3 hb3 k1
      go_wp2_with (at_builtin;refine wpList_append_own _ rfl (.tmp 20) (.tmp 22) 26 rfl w.heap.size 39 i0 _ 5 56 Tryz.underlying26 hi hz0 hz1 hz2 rfl (by decide) _ _ _ rfl (HO3.out.alloc _) ⟨w3.heap.size,0,none⟩ 1 1 (itl x) rfl ?e1 ?e2 ?e3 ?e4 ?e5 ?e6 ?_)
      case e1=>rfl
      case e2 =>
       intro j v hv;rw [addr_add];have h:=(qbM w3 x).cell hv;unfold boxed at h;simpa using h
      case e3=>intro v hv;exact qa8 (l:=[x]) v (by rw [qba];exact hv)
      case e4=>unfold maxLen;omega
      case e5=>omega
      case e6=>simp;omega
      intro v4 w4 hown4 hgrow4 _;have hb4:Below w.heap.size w w4:=(HB3.out.alloc (by omega) _).grown hgrow4 (by simp;omega) (fun q hq=>(HO3.out.lt q hq).1);have h4:RdAt w4 w.heap.size r':=RdAt.grown ((Below.heap_alloc w3 _ _ (by omega)).trans H3.out) (HO3.out.alloc _) hgrow4;have HO4:Hid (w4.ownsRow w.heap.size 39 5 v4 (acc++[x]).length (its (acc++[x]))):=hidI (by rw [qa0,qba,List.length_append,←HL.out];exact hown4);have HB4:=hidI hb4;have H4:=hidI h4;clear hown4 hgrow4 hb4 h4;go_wp2;go_roundw
      case rel=>exact ⟨m,r',acc++[x],by go_num,by rw [List.length_append,←HL.out];simp;omega,Hstep,lr2,H4,HO4,HB4,hidI (fun y hy=>(List.mem_append.1 hy).elim (Hfit.out y) (fun e=>by simp at e;subst e;exact Hf2.out))⟩
      case measure=>simp [intOf]
end
section
open Go.RowKit Go.Nt
open S1 (rcs)
def MountP (ps:List Fp) (b r:Nat) (np:Nat) (cb:Nat) (tl:List It) (w:World) (e:Ending) (w':World):Prop:=
 ∃ fb lb tb ib n,e=.returned (.tuple #[.pointer (some ⟨fb,0,none⟩),.int .i64 0])∧FsAt w' fb cb lb tb∧TreeAt w' tb tl∧S1.LogAt w' lb cb ⟨b,r,none⟩ (some ib) none (endF ps) np∧n≤100000∧S1.BlAt w' ib n (inF ps)∧w.heap.size≤fb∧w.heap.size≤lb∧w.heap.size≤tb∧w.heap.size≤ib∧ib<tb∧Below w.heap.size w w'
end
namespace S1
open Go.RowKit Pk
open Go.Nt (Fp nxt pagesN splitR pageB pgOf hasL hasL_iff scanF mem_scanF readP qef qbl qe7 fpR lookF qbu)
variable {x t:List UInt8} {m0 m:M} {K S:Nat→Bool} {bn kn:Nat} {ps:List (Nat × Nat)}
theorem qdA (h:x.length<64):readP (pad x)=none:=by
 apply qef
 unfold pad;rw [List.getD_eq_getElem?_getD,List.getElem?_append_right (by omega),List.getElem?_replicate];rw [if_pos (by omega)];rfl
theorem qe4 (h:x.length=64):pad x=x:=by
 unfold pad;rw [h];simp
theorem LayI.found {left:List (List UInt8)} (h:LayI m0 K (splitR bn kn t) m S ps left) (hb:bn<256) (hn:kn<4294967296) (ho:pagesN t.length<65536) {f:Fp} (hf:f∈scanF (pgs m) m.np m.nb) :
 (∃ k i q,ps[k]? = some (i,q)∧k<pagesN t.length∧f=fpR bn kn t k i)∨f∈scanF (pgs m0) m0.np m0.nb:=by
 obtain ⟨i,p,q,hi,hp,hr,rfl⟩:=mem_scanF.1 hf;rcases h.page i p hi hp with h1 | ⟨x,hx,c,hc,e⟩ | e | e
 ·left
  obtain ⟨k,hk⟩:=List.getElem?_of_mem h1;obtain ⟨a1,a2,a3,a4,a5⟩:=h.posn k i p hk;have hkl:k<pagesN t.length:=by
   have:=(List.getElem?_eq_some_iff.1 a4).1
   rwa [Go.Nt.splitR_length] at this
  have e:m.pg i p=pageB (pgOf bn kn t k):=by
   unfold splitR at a4;rw [List.getElem?_map,List.getElem?_range hkl] at a4;simpa using a4.symm
  refine ⟨k,i,p,hk,hkl,?_⟩;have hok:=qe7 (t:=t) hb hn hkl ho;unfold pgs at hr;rw [e,qe4 (Go.Nt.pageB_length _ hok.t),qbl hok] at hr;cases hr
  rfl
 ·exfalso
  unfold pgs at hr;rw [e,qdA (by rw [List.length_take];omega)] at hr;cases hr
 ·exfalso
  unfold pgs at hr;rw [e,qdA (by decide)] at hr;cases hr
 right
 refine mem_scanF.2 ⟨i,p,q,by rw [←h.nb];exact hi,by rw [←h.np];exact hp,?_,rfl⟩;unfold pgs at hr ⊢;rw [←e];exact hr
theorem LayI.there {left:List (List UInt8)} (h:LayI m0 K (splitR bn kn t) m S ps left) (hb:bn<256) (hn:kn<4294967296) (ho:pagesN t.length<65536) {k i q:Nat} (hk:ps[k]? = some (i,q)) :
 fpR bn kn t k i∈scanF (pgs m) m.np m.nb:=by
 obtain ⟨a1,a2,a3,a4,a5⟩:=h.posn k i q hk;have hkl:k<pagesN t.length:=by
  have:=(List.getElem?_eq_some_iff.1 a4).1
  rwa [Go.Nt.splitR_length] at this
 have e:m.pg i q=pageB (pgOf bn kn t k):=by
  unfold splitR at a4;rw [List.getElem?_map,List.getElem?_range hkl] at a4;simpa using a4.symm
 have hok:=qe7 (t:=t) hb hn hkl ho;have h6:readP (pgs m i q)=some { pgOf bn kn t k with text:=(pgOf bn kn t k).text++List.replicate (51 - (pgOf bn kn t k).text.length) 0 }:=by
  unfold pgs;rw [e,qe4 (Go.Nt.pageB_length _ hok.t)];exact qbl hok
 exact mem_scanF.2 ⟨i,q,_,a1,a2,h6,rfl⟩
structure New (m:M):Prop where
 wf:WF m
 life:m.life = -1
 fail:m.fail<0
 pg:∀ i p,m.pg i p=[]
 nx:∀ i,m.nx i=0
theorem New.era (h:New m) (b:Nat) (hb:b<m.nb):eraA m (b:Nat)=(!m.bd b,m):=by
 cases hbd:m.bd b with
 | true=>exact qgz hbd
 | false =>
   have ht:tick m=m:=by
    unfold tick callF;have h1:=h.life;have h2:=h.fail;cases m
    simp only at h1 h2;subst h1;simp [h2]
   have hn:=qeV h.fail hb hbd;rcases qaZ m b with ⟨h1,_,_,_,e⟩ | ⟨h1,_⟩
   ·refine Prod.ext (by rw [h1];rfl) ?_;rw [e,ht];have h3:=h.pg;have h4:=h.nx;cases m
    simp only at h3 h4;simp only [setN,setE]
    congr 1
    ·funext a c
     split
     ·rw [h3]
     rfl
    funext a
    split
    ·rw [h4]
    rfl
   rcases hn.2.2 with h2 | h2
   ·rw [h1] at h2;cases h2
   have:=qfS h.life b
   rw [h2] at this;cases this
theorem New.eraAll {m:M} (h:New m):∀ k,k≤m.nb→S1.eraAll m k=(m,fun j=>decide (j<k) && !m.bd j)
 | 0,_=>by
   rw [S1.eraAll];refine Prod.ext rfl ?_
   funext j
   simp
 | k+1,hk=>by
   have ih:=New.eraAll h k (by omega);rw [S1.eraAll,ih];simp only [];rw [h.era k (by omega)];refine Prod.ext rfl ?_
   funext j
   simp only [];cases hb:m.bd k with
   | true =>
     simp only [Bool.not_true,Bool.false_eq_true,if_false];by_cases e:j=k
     ·subst e;simp [hb]
     have:decide (j<k+1)=decide (j<k):=by simp;omega
     rw [this]
   | false =>
     simp only [Bool.not_false,if_true];by_cases e:j=k
     ·subst e;simp [hb]
     have h1:decide (j<k+1)=decide (j<k):=by simp;omega
     have h2:(j==k)=false:=by simp [e]
     rw [h1,h2,Bool.false_or]
theorem New.scan (h:New m) (np:Nat):∀ k,scanF (pgs m) np k=[]:=by
 intro k;cases hs:scanF (pgs m) np k with
 | nil=>rfl
 | cons f fs =>
   obtain ⟨i,p,q,_,_,hr,_⟩:=mem_scanF.1 (show f∈scanF (pgs m) np k by rw [hs];simp);unfold pgs at hr;rw [h.pg,qdA (by decide)] at hr;cases hr
end S1
namespace S1
open Go.RowKit Pk
theorem Tryz.info4:(Tryz.prog.info? 4).map (fun i=>(i.zero,i.size,i.bytes))=some (some (.bool false),1,1):=by kernel_rfl
theorem copy_any (w:World) (lo hi cb:Nat) (L:Loc) (m:M) (hw:WF m) (h:CP w lo hi cb L m) (hsz:hi≤w.heap.size) :
 Calls Tryz.prog 21 #[.pointer (some ⟨cb,0,none⟩)] w fun e w'=>∃ L',e=.returned (.pointer (some ⟨w.heap.size,0,none⟩))∧CP w' w.heap.size w'.heap.size w.heap.size L' m∧Below w.heap.size w w':=by
 have c0:=MemX.c0 h;have c1:=MemX.c1 h;have c2:=MemX.c2 h;have c3:=MemX.c3 h;have c4:=MemX.c4 h;have c5:=MemX.c5 h;have c6:=MemX.c6 h;have c7:=MemX.c7 h;have hnb1:=hw.nb1;have hnb2:=hw.nb2;have hnp1:=hw.np1;have hnp2:=hw.np2;have Hh:Hid (∀ W,Below w.heap.size w W→CP W lo hi cb L m):=fun W hb=>MemX.below h hsz hb
 clear h;go_enter Tryz.func21,Tryz.ntmps21
 go_wp2;have hG:cb<w.heap.size:=Nat.lt_of_lt_of_le (Hh.out _ (Below.refl _ _)).hcb.2 hsz;have Hst0:=hidI (heap_alloc_new w (Obj.cells #[.int .i64 (m.np:Nat),.slice none 0 0,.slice (some ⟨L.nk,0,none⟩) m.nb L.cn,.slice (some ⟨L.bk,0,none⟩) m.nb L.ck,.int .i64 m.life,.int .i64 m.cut,.int .i64 m.fail,.int .i64 m.part] 74));have Hb0:=hidI ((Below.refl w.heap.size w).alloc (Nat.le_refl _) (Obj.cells #[.int .i64 (m.np:Nat),.slice none 0 0,.slice (some ⟨L.nk,0,none⟩) m.nb L.cn,.slice (some ⟨L.bk,0,none⟩) m.nb L.ck,.int .i64 m.life,.int .i64 m.cut,.int .i64 m.fail,.int .i64 m.part] 74));clear c0 c1 c2 c3 c4 c5 c6 c7;obtain ⟨i0,hi0,hz0,hz1,hz2⟩:=info_parts Tryz.info23;obtain ⟨j0,gi,gz0,gz1,gz2⟩:=info_parts Tryz.info9;obtain ⟨k0,ki,kz0,kz1,kz2⟩:=info_parts Tryz.info3;obtain ⟨l0,li,lz0,lz1,lz2⟩:=info_parts Tryz.info4;obtain ⟨G,hGe⟩:∃ G,G=w.heap.size:=⟨_,rfl⟩;rw [←hGe] at Hst0 Hb0 Hh hG hsz ⊢
 have HGe:=hidI hGe;clear hGe
 go_loopw [4] (fun x wr=>∃ k:Nat,k≤m.nb∧x=.int .i64 k∧∃ da dc rw cr,wr.heap[G]? = some (.cells #[.int .i64 (m.np:Nat),.slice da k dc,.slice (some ⟨L.nk,0,none⟩) m.nb L.cn,.slice (some ⟨L.bk,0,none⟩) m.nb L.ck,.int .i64 m.life,.int .i64 m.cut,.int .i64 m.fail,.int .i64 m.part] 74 (0,0))∧Data wr G (.slice da k dc) k m.np rw cr (fun i p=>id (m.pg i p))∧Below G w wr) (fun x _=>m.nb - (intOf x).toNat)
 case atStart=>exact ⟨0,by omega,rfl,none,0,fun _=>0,fun _=>0,Hst0.out,Data.nil _ _ _ _ _ _,Hb0.out⟩
 case round =>
  clear Hst0 Hb0;obtain ⟨k,hk,rfl,da,dc,rw,cr,hst,hdat,hbel⟩:=hrel;have hm:=Hh.out _ hbel;have c1:=MemX.c1 hm;have hGr:G<wr.heap.size:=lt_of_heap hst;by_cases hlt:k<m.nb
  ·have cd:=hm.data.cell hlt;have hrow:=hm.page k hlt;have Hst:=hidI hst;have Hdat:=hidI hdat;have Hbel:=hidI hbel;have Hm:=hidI hm;clear hst hdat hbel hm;have x0:wr.cell? ⟨G,1,none⟩=some (.slice da k dc):=by rw [cell_of_row wr G 1 _ 74 (0,0) Hst.out];rfl
   have hl0:(((List.range m.np).map fun p=>Value.string (txt (id (m.pg k p))))).length=m.np*1:=by simp
   have h1c:∀ u∈((List.range m.np).map fun p=>Value.string (txt (id (m.pg k p)))),u.oneCell'=true:=(by intro u hu;simp at hu;obtain ⟨p,_,rfl⟩:=hu;rfl);have Hrn:=hidI hrow.news;clear hrow;go_wp2_with fail;go_region_law (first
    | (refine step_append_lies _ (by rfl) _ _ _ (by rfl) G 9 j0 _ 1 16 Tryz.underlying40 gi gz0 gz1 gz2 rfl (by omega) (.slice none 0 0) 0 [] (by rfl) (World.ownsRow_nil _ _ _ _) ⟨L.rw k,0,none⟩ m.np (L.cr k) ((List.range m.np).map fun p=>Value.string (txt (id (m.pg k p)))) (by rfl) hl0 Hrn.out h1c (by omega) (by unfold maxLen;omega) (by omega) (by simp;omega) wr.heap.size (by simp) ?_;intro g cap w1 hown hgrow hat hlt1;have HgW:Hid (g=wr.heap.size):=(by rcases hat with h | h;(· simp [Value.ownBlock] at h);(· exact h));have K1:∀ t,Keeps t wr w1:=(fun t k x f e=>hgrow.block k (lt_of_heap e) (by simp [Value.ownBlock]));have hst1:=(K1 74).block Hst.out;have Hbel1:Hid (Below G w w1):=Hbel.out.drew.grown hgrow (Nat.le_of_lt hGr) (fun q hq=>by simp [Value.ownBlock] at hq);have x1:w1.cell? ⟨G,1,none⟩=some (.slice da k dc):=(by rw [cell_of_row w1 G 1 _ 74 (0,0) hst1];rfl);have x1a:∀ o,(w1.alloc o).cell? ⟨G,1,none⟩=some (.slice da k dc):=(fun o=>(World.cell?_of_block (w:=w1) (Below.heap_alloc w1 o G (World.block_lt_of_cell? w1 ⟨G,1,none⟩ x1))).trans x1);have Hown23:=hidI ((K1 40).own Hdat.out.own);have Hrw1:Hid (Rw w1 g 9 m.np (fun p=>.string (txt (id (m.pg k p))))):=(by
        have hown:w1.ownsRow G 9 1 (.slice (some ⟨g,0,none⟩) m.np cap) m.np ((List.range m.np).map fun p=>.string (txt (id (m.pg k p)))):=(by simpa using hown);obtain ⟨g',cap',hgc,_,hrw1⟩:=qhu hown (by omega);simp at hgc;obtain ⟨rfl,rfl⟩:=hgc;exact hrw1);have hgs:wr.heap.size≤w1.heap.size:=hgrow.size;have HK1:=hidI K1;have Hst1:=hidI hst1;clear hgrow hat hst1 hown K1)
    | (refine step_append_lies _ (by rfl) _ _ _ (by rfl) G 40 i0 _ 1 24 Tryz.underlying71 hi0 hz0 hz1 hz2 rfl (by omega) (.slice da k dc) k _ (by rfl) (Hown23.out.alloc _) ⟨w1.heap.size,0,none⟩ 1 1 [.slice (some ⟨g,0,none⟩) m.np cap] (by rfl) rfl (cell_one_new _ _ _) (by intro u hu;simp at hu;subst hu;rfl) (by omega) (by unfold maxLen;omega) (by omega) (by simp;omega) (w1.heap.size+1) (by simp) ?_;intro g2 cap2 w2 hown2 hgrow2 hat2 hlt2;have K2:∀ t,t≠40→Keeps t w1 w2:=(fun t ht=>((Keeps.refl t w1).alloc _).grown (Hown23.out.alloc _) (fun e=>ht e.symm) hgrow2);have hst2:=(K2 74 (by decide)).block Hst1.out;have x2:w2.cell? ⟨G,1,none⟩=some (.slice da k dc):=(by rw [cell_of_row w2 G 1 _ 74 (0,0) hst2];rfl);have f2:=frozen_of_row w2 G 1 _ 74 hst2;have Hbel2:Hid (Below G w w2):=(Hbel1.out.alloc (Nat.le_trans (Nat.le_of_lt hGr) hgs) _).grown hgrow2 (by simp;omega) (fun q hq=>(Hown23.out.lt q hq).1);have HK2:=hidI K2;have Hst2:=hidI hst2;have Hown2:=hidI hown2;clear hown2 hgrow2 hat2 K2 hst2))
   all_goals have hst3:=heap_setCell_same w2 G 1 _ 74 (.slice (some ⟨g2,0,none⟩) (k+1) cap2) Hst2.out
   all_goals have K9:Keeps 9 wr (w2.setCell ⟨G,1,none⟩ (.slice (some ⟨g2,0,none⟩) (k+1) cap2)):=((HK1.out 9).trans (HK2.out 9 (by decide))).set Hst2.out (by decide)
   all_goals have K23:Keeps 40 w2 (w2.setCell ⟨G,1,none⟩ (.slice (some ⟨g2,0,none⟩) (k+1) cap2)):=(Keeps.refl _ _).set Hst2.out (by decide)
   all_goals have K9':Keeps 9 w1 (w2.setCell ⟨G,1,none⟩ (.slice (some ⟨g2,0,none⟩) (k+1) cap2)):=(HK2.out 9 (by decide)).set Hst2.out (by decide)
   all_goals have hdat3:=Hdat.out.push K9 (r:=g) (c:=cap) (f:=fun p=>id (m.pg k p)) (by rw [HgW.out];omega) (by rw [HgW.out];omega) (K9'.rw Hrw1.out) (K23.own Hown2.out)
   all_goals have hpe:put (fun i p=>id (m.pg i p)) k (fun p=>id (m.pg k p))=fun i p=>id (m.pg i p):=(by
    funext a b
    unfold put;by_cases e:a=k
    ·rw [if_pos e,e]
    rw [if_neg e])
   all_goals rw [hpe] at hdat3
   all_goals have Hbel3:=hidI (Hbel2.out.setCell (p:=⟨G,1,none⟩) (Nat.le_refl _) (.slice (some ⟨g2,0,none⟩) (k+1) cap2))
   all_goals have Hst3:=hidI hst3
   all_goals have Hdat3:=hidI hdat3
   all_goals clear hst3 hdat3 K9 K23 K9' hpe
   all_goals go_wp2
   all_goals (go_roundw;(case rel=>exact ⟨k+1,by omega,by go_num,some ⟨g2,0,none⟩,cap2,_,_,Hst3.out,Hdat3.out,Hbel3.out⟩);(case measure=>simp [intOf];omega))
  have hke:m.nb=k:=by omega
  subst hke;have a1:=MemX.c2 hm;have Hst:=hidI hst;have Hdat:=hidI hdat;have Hbel:=hidI hbel;have hrn:=hm.next;clear hst hdat hbel hm;go_wp2_with (at_builtin;refine wpList_append_lies _ rfl _ _ 22 rfl G 3 k0 (.int .i64 0) 1 8 Tryz.underlying22 ki kz0 kz1 kz2 rfl (by decide) (.slice none 0 0) 0 [] rfl (World.ownsRow_nil _ _ _ _) ⟨L.nk,0,none⟩ m.nb L.cn ((List.range m.nb).map fun i=>.int .i64 (m.nx i:Nat)) rfl ?c0 ?c1 ?c2 ?c3 ?c4 ?c5 ?c6 wr.heap.size rfl ?_)
  case c0=>simp
  case c1=>exact hrn.news
  case c2=>intro u hu;simp at hu;obtain ⟨p,_,rfl⟩:=hu;rfl
  case c3=>omega
  case c4=>unfold maxLen;omega
  case c5=>omega
  case c6=>omega
  intro g cap w1 hown hgrow hat hlt1;have hown1:w1.ownsRow G 3 1 (.slice (some ⟨g,0,none⟩) m.nb cap) m.nb ((List.range m.nb).map fun i=>.int .i64 (m.nx i:Nat)):=(by simpa using hown);have K1:∀ t,Keeps t wr w1:=fun t k x f e=>hgrow.block k (lt_of_heap e) (by simp [Value.ownBlock])
  have hst1:=(K1 74).block Hst.out;have z2:w1.cell? ⟨G,2,none⟩=some (.slice (some ⟨L.nk,0,none⟩) m.nb L.cn):=(by rw [cell_of_row w1 G 2 _ 74 (0,0) hst1];rfl);have zf:=frozen_of_row w1 G 2 _ 74 hst1;have hstB:=heap_setCell_same w1 G 2 _ 74 (.slice (some ⟨g,0,none⟩) m.nb cap) hst1;have hownB:=((Keeps.refl 3 w1).set (o:=2) (v:=.slice (some ⟨g,0,none⟩) m.nb cap) hst1 (by decide)).own hown1;have hdatB:=Hdat.out.keep ((K1 9).set (o:=2) (v:=.slice (some ⟨g,0,none⟩) m.nb cap) hst1 (by decide)) ((K1 40).set (o:=2) (v:=.slice (some ⟨g,0,none⟩) m.nb cap) hst1 (by decide));have hbelB:Below G w (w1.setCell ⟨G,2,none⟩ (.slice (some ⟨g,0,none⟩) m.nb cap)):=(Hbel.out.grown hgrow (Nat.le_of_lt hGr) (fun q hq=>by simp [Value.ownBlock] at hq)).setCell (Nat.le_refl _) _;have HstB:=hidI hstB;have HownB:=hidI hownB;have HdatB:=hidI hdatB;have HbelB:=hidI hbelB;have hmb:=Hh.out _ hbelB;have b3:=MemX.c3 hmb
  have hrb:=hmb.bad;have hGb:G<(w1.setCell ⟨G,2,none⟩ (.slice (some ⟨g,0,none⟩) m.nb cap)).heap.size:=lt_of_heap hstB;clear hstB hownB hdatB hbelB hmb hst1 hown hown1 hgrow hat K1 Hst Hdat Hbel hrn a1;go_wp2_with (at_builtin;refine wpList_append_lies _ rfl _ _ 72 rfl G 4 l0 (.bool false) 1 1 Tryz.underlying72 li lz0 lz1 lz2 rfl (by decide) (.slice none 0 0) 0 [] rfl (World.ownsRow_nil _ _ _ _) ⟨L.bk,0,none⟩ m.nb L.ck ((List.range m.nb).map fun i=>.bool (m.bd i)) rfl ?c0 ?c1 ?c2 ?c3 ?c4 ?c5 ?c6 (w1.setCell ⟨G,2,none⟩ (.slice (some ⟨g,0,none⟩) m.nb cap)).heap.size rfl ?_)
  case c0=>simp
  case c1=>exact hrb.news
  case c2=>intro u hu;simp at hu;obtain ⟨p,_,rfl⟩:=hu;rfl
  case c3=>omega
  case c4=>unfold maxLen;omega
  case c5=>omega
  case c6=>omega
  intro g3 cap3 w3 hown hgrow hat hlt3;have hown1:w3.ownsRow G 4 1 (.slice (some ⟨g3,0,none⟩) m.nb cap3) m.nb ((List.range m.nb).map fun i=>.bool (m.bd i)):=(by simpa using hown);have K1:∀ t,Keeps t (w1.setCell ⟨G,2,none⟩ (.slice (some ⟨g,0,none⟩) m.nb cap)) w3:=fun t k x f e=>hgrow.block k (lt_of_heap e) (by simp [Value.ownBlock])
  have hst1:=(K1 74).block HstB.out;have y2:w3.cell? ⟨G,3,none⟩=some (.slice (some ⟨L.bk,0,none⟩) m.nb L.ck):=(by rw [cell_of_row w3 G 3 _ 74 (0,0) hst1];rfl);have yf:=frozen_of_row w3 G 3 _ 74 hst1;have hstD:=heap_setCell_same w3 G 3 _ 74 (.slice (some ⟨g3,0,none⟩) m.nb cap3) hst1;have hownD:=((Keeps.refl 4 w3).set (o:=3) (v:=.slice (some ⟨g3,0,none⟩) m.nb cap3) hst1 (by decide)).own hown1;have hownN:=((K1 3).set (o:=3) (v:=.slice (some ⟨g3,0,none⟩) m.nb cap3) hst1 (by decide)).own HownB.out;have hdatD:=HdatB.out.keep ((K1 9).set (o:=3) (v:=.slice (some ⟨g3,0,none⟩) m.nb cap3) hst1 (by decide)) ((K1 40).set (o:=3) (v:=.slice (some ⟨g3,0,none⟩) m.nb cap3) hst1 (by decide));have hbelD:Below G w (w3.setCell ⟨G,3,none⟩ (.slice (some ⟨g3,0,none⟩) m.nb cap3)):=(HbelB.out.grown hgrow (Nat.le_of_lt hGb) (fun q hq=>by simp [Value.ownBlock] at hq)).setCell (Nat.le_refl _) _
  have HE:=hidI (MemX.built (T:=74) (enc:=id) (g4:=m.life) (g5:=m.cut) (g6:=m.fail) (g7:=m.part) (by omega:0<m.nb) (by decide) (Nat.le_refl G) hstD hdatD (fun i p _ _=>rfl) hownN hownD);have HbelD:=hidI hbelD;clear hown1 hstD hownD hownN hdatD hbelD HstB HbelB HdatB HownB hst1 K1 hown hgrow hat z2 zf b3 hrb;go_wp2;go_ret
  obtain ⟨L',hL⟩:=HE.out;rw [←HGe.out];exact ⟨L',rfl,hL,HbelD.out⟩
end S1
section
open Go.RowKit Go.Nt
theorem qdM (l:List It):weigh (qab l)=weigh l:=((qao l).map _).sum_nat
theorem qg5 (l:List It) (p:Bs):dirAt (qab l) p=dirAt l p:=by
 unfold dirAt;rw [Bool.eq_iff_iff,List.any_eq_true,List.any_eq_true];exact ⟨fun ⟨x,hx,h⟩=>⟨x,order_mem.1 hx,h⟩,fun ⟨x,hx,h⟩=>⟨x,order_mem.2 hx,h⟩⟩
theorem TreeP.order {l:List It} (h:TreeP l):TreeP (qab l):=
 ⟨by rw [qaA];exact h.len,fun x hx=>h.ok x (order_mem.1 hx),(((qao l).map _).nodup_iff).2 h.nodup,fun x hx=>by rw [qg5];exact h.up x (order_mem.1 hx)⟩
theorem qmb {ps:List Fp} (h:∀ f∈ps,f.text.length=51):(txtF ps).length=ps.length*51:=by
 induction ps with
 | nil=>rfl
 | cons f ps ih =>
   have h1:=ih (fun g hg=>h g (by simp [hg]));have h2:=h f (by simp);unfold txtF at h1 ⊢;simp only [List.map_cons,List.flatten_cons,List.length_append,List.length_cons,h1,h2];omega
variable {l:List It} {p d:Bs}
theorem qlM:∀ p∈names,qaJ p=false→∀ q∈names,inB q p=false:=by decide
theorem qlv:∀ p∈names,∀ i,i<6→p.getD i 0=47→p.take i∈names∧qaJ (p.take i)=true:=by decide
theorem KT.reach (h:KT l) (hp:p∈names):reachE l p=0:=by
 unfold reachE;rw [if_pos (qhk p hp)];unfold enterE;refine (qa7 l p h.nodup p.length 0).2 (fun i _ hi hs => ?_);obtain ⟨h1,h2⟩:=qlv p hp i (by have:=qeT hp;omega) hs;obtain ⟨y,hy,e⟩:=h.dirs _ h1 h2;exact dirAt_iff.2 ⟨y,hy,e,by rw [(h.item y hy).2.1,e,h2]⟩
theorem KT.putE (h:KT l) (hp:p∈names) (hf:qaJ p=false) (hd:d.length≤99):putE l p d=0:=by
 have hl:=h.len;unfold YtodmdkhdbfbfgaaGreatDoor.putE;rw [if_pos (h.reach hp)];cases ha:at? l p with
 | none=>exact if_neg (by omega)
 | some x =>
   obtain ⟨h1,h2⟩:=qas ha;have h3:=(h.item x h1).2.1;rw [h2,hf] at h3;show (if x.dir=true then (6:Int) else if 4000<d.length then 8 else 0)=0;rw [h3,if_neg (by decide),if_neg (by omega)]
theorem KT.drop (h:KT l) (hf:qaJ p=false):KT (l.filter fun y=>decide (y.path≠p)):=by
 refine ⟨fun x hx=>h.item x (List.mem_filter.1 hx).1,qbt h.nodup _,fun q hq hqf => ?_⟩;obtain ⟨x,hx,e⟩:=h.dirs q hq hqf;refine ⟨x,List.mem_filter.2 ⟨hx,decide_eq_true fun e' => ?_⟩,e⟩;rw [←e,e',hf] at hqf;cases hqf
theorem qew (l:List It) (p d:Bs):(putI l p d).path=p:=by
 unfold putI;cases at? l p<;>rfl
theorem KT.put (h:KT l) (hp:p∈names) (hf:qaJ p=false) (hd:d.length≤99):KT (setIt l (putI l p d)):=by
 unfold setIt;rw [qew];unfold putI;have hno:∀ x∈l.filter (fun y=>decide (y.path≠p)),x.path≠p:=fun x hx=>of_decide_eq_true (List.mem_filter.1 hx).2
 cases ha:at? l p with
 | none=>exact (h.drop hf).add hp hf hno hd (by decide) (by decide) (by decide) (by decide)
 | some x =>
   have hx:=(h.item x (qas ha).1).2.2.2;unfold okItem at hx;simp only [Bool.and_eq_true,decide_eq_true_eq] at hx;exact (h.drop hf).add hp hf hno hd (by omega) (by omega) (by omega) (by omega)
theorem qkI {p:Bs} {v:Int × Int}:∀ (l:List It) (s:Int × Int),(∀ y∈l,y.path=p→(y.mode,y.time)=v)→(s=v∨∃ y∈l,y.path=p)→l.foldl (fun s y=>if y.path=p then (y.mode,y.time) else s) s=v
 | [],s,_,h=>by rcases h with h | ⟨y,hy,_⟩;exact h;cases hy
 | y :: l,s,hv,h=>by
   rw [List.foldl_cons];refine qkI l _ (fun z hz=>hv z (by simp [hz])) ?_;by_cases hy:y.path=p
   ·rw [if_pos hy];exact .inl (hv y (by simp) hy)
   rw [if_neg hy];rcases h with h | ⟨z,hz,e⟩
   ·exact .inl h
   rcases List.mem_cons.1 hz with rfl | hz
   ·exact absurd e hy
   exact .inr ⟨z,hz,e⟩
theorem qjz (l:List It) (p:Bs):wo l p=l.filter fun y=>decide (y.path≠p):=by
 unfold wo
 congr 1
 funext y
 simp
theorem KT.perm {now:List It} (h:KT l) (hp:l.Perm now):KT now:=
 ⟨fun x hx=>h.item x (hp.mem_iff.2 hx),(hp.map _).nodup_iff.1 h.nodup,fun p h1 h2=>by obtain ⟨x,hx,e⟩:=h.dirs p h1 h2;exact ⟨x,hp.mem_iff.1 hx,e⟩⟩
theorem KT.put_perm {now:List It} (h:KT l) (hp:l.Perm now) (p d:Bs):(setIt l (putI l p d)).Perm (putK now p d):=by
 have hk:=h.perm hp;have e:putI l p d=⟨p,false,d,(mtOf now p).1,(mtOf now p).2⟩:=by
  unfold putI;cases ha:at? l p with
  | none=>rw [qnL fun y hy=>at_none.1 ha y (hp.mem_iff.2 hy)]
  | some x =>
    obtain ⟨h1,h2⟩:=qas ha
    have:mtOf now p=(x.mode,x.time):=qkI now (0,0) (fun y hy e=>by
     have h3:=at_mem h.nodup (hp.mem_iff.2 hy);rw [e,ha] at h3;cases h3;rfl) (.inr ⟨x,hp.mem_iff.1 h1,h2⟩)
    rw [this]
 unfold setIt putK;rw [qew,qjz,e];exact (hp.filter _).append_right _
theorem KT.drop_perm {now:List It} (hp:l.Perm now) (p:Bs):(l.filter fun y=>decide (y.path≠p)).Perm (wo now p):=by
 rw [qjz];exact hp.filter _
theorem KT.there {now:List It} (h:KT l) (hp:l.Perm now) (p:Bs):(at? now p).isSome=(at? l p).isSome:=by
 cases ha:at? l p with
 | none=>rw [at_none.2 fun x hx=>at_none.1 ha x (hp.mem_iff.2 hx)]
 | some x =>
   cases hb:at? now p with
   | none=>exact absurd (qas ha).2 (at_none.1 hb x (hp.mem_iff.1 (qas ha).1))
   | some y=>rfl
theorem KT.removeE (h:KT l) (hp:p∈names) (hf:qaJ p=false):removeE l p=if (at? l p).isSome then 0 else 4:=by
 have hfind:findE l p=if (at? l p).isSome then 0 else 4:=by
  unfold findE;rw [if_pos (h.reach hp)]
 unfold YtodmdkhdbfbfgaaGreatDoor.removeE;rw [hfind];cases hs:(at? l p).isSome with
 | false=>rfl
 | true =>
   rw [if_pos rfl,if_pos rfl,if_neg];intro ha;obtain ⟨q,hq,hi⟩:=List.any_eq_true.1 ha;obtain ⟨y,hy,rfl⟩:=List.mem_map.1 hq;rw [qlM p hp hf y.path (h.item y hy).1] at hi;cases hi
theorem KT.room {u:Bs→Option Bs} (h:KT l) {t:Bs} (ht:IsText u (qab l) t):pagesN t.length≤29:=by
 have h1:=qbH ht;rw [qdM] at h1
 have:=h.weighs
 unfold pagesN;omega
end
namespace S1
open Go.RowKit Pk
open Go.Nt
theorem qi7 {m:M} (hw:WF m) {b p:Nat} {x:List UInt8} (hb:b<m.nb) (hbd:m.bd b=false) (hp:p=m.nx b) (hn:p<m.np) (hx:x.length=64) :
 (progA m (b:Nat) (p:Nat) x).1=true∨(progA m (b:Nat) (p:Nat) x).2.life=0∨(progA m (b:Nat) (p:Nat) x).2.bd b=true:=by
 rcases qaE m b p x hw with ⟨h1,_,_,_,_,_,_,e⟩ | ⟨h1,e | ⟨e,h0⟩ | ⟨_,_,_,_,_,c,_,⟨e,h0⟩ | ⟨e,h0⟩⟩⟩
 ·exact .inl h1
 ·have hm:mayP m (b:Nat) (p:Nat) x:=⟨by unfold badB hasB;simp [hb,hbd],by rw [hp];simp,by omega,hx⟩;refine .inr (.inl ?_);rw [e];unfold progA at h1 e;rw [if_pos hm] at h1 e;have h2:=congrArg M.nx e;unfold progF at h1 h2;simp only [Int.toNat_natCast] at h1 h2;rcases qaS m.life m.fail with hk | hk | hk | hk
  ·rw [if_pos hk] at h1;cases h1
  ·rw [if_neg (by rw [hk];decide),if_pos hk] at h2
   have:=congrFun h2 b
   have h3:(if b=b then p+1 else m.nx b)=m.nx b:=this;rw [if_pos rfl] at h3;omega
  ·rw [if_neg (by rw [hk];decide),if_neg (by rw [hk];decide),if_pos hk] at h2
   have:=congrFun h2 b
   have h3:(if b=b then p+1 else m.nx b)=m.nx b:=this;rw [if_pos rfl] at h3;omega
  unfold callF at hk
  repeat' split at hk
  all_goals simp at hk
  all_goals assumption
 ·refine .inr (.inl ?_);rw [e];show (callF m.life m.fail).2.1=0;rw [h0];unfold callF;simp
 ·exact .inr (.inl (by rw [e];exact h0))
 exact .inr (.inr (by rw [e];show (if b=b then true else _)=true;rw [if_pos rfl]))
theorem qeb {Q:Nat→Bool} (b:Nat):∀ (l:List (List UInt8)) (m:M) (p:Nat) (S:Nat→Bool),WF m→Rdy m Q b p→l.length+p≤m.np→(∀ x∈l,x.length=64) →
 (progL b l m p S).1=[]∨(progL b l m p S).2.1.life=0∨(progL b l m p S).2.1.bd b=true
 | [],m,p,S,_,_,_,_=>.inl rfl
 | x :: l,m,p,S,hw,hr,hl,hx=>by
   have hp:p<m.np:=by simp at hl;omega
   obtain ⟨h1,h2,h3,h4⟩:=hr.open_ hp;have hA:=qi7 hw h1 h2 h3.symm hp (hx x (by simp));have hrd:=qdK hw (x:=x) hr hp;unfold progL;rw [if_pos hp];by_cases ht:(progA m (b:Nat) (p:Nat) x).1=true
   ·rw [if_pos ht];rw [if_pos ht] at hrd;have hk:=qau b [x] m p S;have hnp:(progA m (b:Nat) (p:Nat) x).2.np=m.np:=by
     rcases qaE m b p x hw with ⟨_,_,_,_,_,_,_,e⟩ | ⟨hf,_⟩
     ·rw [e];rfl
     rw [hf] at ht;cases ht
    have hwf:WF (progA m (b:Nat) (p:Nat) x).2:=by
     have:=qbk b [x] m p S hw
     unfold progL at this;rw [if_pos hp,if_pos ht] at this;exact this
    exact qeb b l _ (p+1) _ hwf hrd (by rw [hnp];simp at hl;omega) (fun y hy=>hx y (by simp [hy]))
   rw [if_neg ht];rcases hA with h | h | h
   ·exact absurd h ht
   ·exact .inr (.inl h)
   exact .inr (.inr h)
theorem qmx {K:Nat→Bool} {s:LS} (hw:WF s.m) (h:Rdy s.m s.Q s.b s.p):Rdy (lay1 K s).m (lay1 K s).Q (lay1 K s).b (lay1 K s).p∧WF (lay1 K s).m:=by
 have h1:=qdf hw K h;have h2:=qbF hw K s.Q s.b;unfold lay1
 split
 ·exact ⟨qbz _ _ _ _ _ h2 h1,qbk _ _ _ _ _ h2⟩
 exact ⟨h1,h2⟩
theorem qfc {K:Nat→Bool}:∀ (k:Nat) (s:LS),WF s.m→Rdy s.m s.Q s.b s.p→Rdy (layN K k s).m (layN K k s).Q (layN K k s).b (layN K k s).p∧WF (layN K k s).m
 | 0,s,hw,h=>⟨h,hw⟩
 | k+1,s,hw,h=>by
   unfold layN
   split
   ·exact ⟨h,hw⟩
   have:=qmx (K:=K) hw h
   exact qfc k _ this.2 this.1
theorem qmJ {K:Nat→Bool} {s:LS} (hw:WF s.m) (h:Rdy s.m s.Q s.b s.p):Rdy (layF K s).m (layF K s).Q (layF K s).b (layF K s).p∧WF (layF K s).m:=by
 unfold layF lay0
 split
 ·exact qfc _ _ (qbk _ _ _ _ _ hw) (qbz _ _ _ _ _ hw h)
 exact qfc _ _ hw h
end S1
end Go.Proofs.YtodmdkhdbfbfgaaGreatDoor
