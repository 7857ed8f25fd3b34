/- Lemmas. -/
import Derived.LoopN
import Derived.Deep.RegionLaw
import Derived.Test.YtodmdkhdbfbfgabGreatDoorM31
set_option linter.unusedVariables false
set_option linter.unusedSimpArgs false
set_option maxRecDepth 100000
set_option maxHeartbeats 8000000
namespace Go.Proofs.YtodmdkhdbfbfgabGreatDoor.S1
open Go.RowKit Pk
open Go.Nt (Fp lookF FpOk qar recF partF ofF txtF inF endF qcx qck qhE qf2)
theorem FAt.keptB {w w':World} {g n b:Nat} {P:Nat→Nat→Nat→Option Fp} (h:FAt w g n P) (hk:BdKept b w w') (hne:g≠b):FAt w' g n P:=by
 obtain ⟨D,⟨es,clock,h1,h2⟩,hh⟩:=h;exact ⟨D,⟨es,clock,hk.2.2.2.2 g _ h1 hne rfl,h2⟩,hh⟩
theorem BlAt.keptB {w w':World} {g n b:Nat} {S:Nat→Bool} (h:BlAt w g n S) (hk:BdKept b w w') (hne:g≠b):BlAt w' g n S:=by
 obtain ⟨D,⟨es,clock,h1,h2⟩,hh⟩:=h;exact ⟨D,⟨es,clock,hk.2.2.2.2 g _ h1 hne rfl,h2⟩,hh⟩
theorem fld1 (W:World) (a b c d e f:Value):(Instr.field 146 (.agg #[a,b,c,d,e,f]) 0).run Tryz.prog W=.ok (.agg #[a,b,c,d,e]) W:=by
 simp [Instr.field,run_underlying Tryz.underlying146,asAgg,go_sem]
theorem fld2 (W:World) (a b c d e:Value):(Instr.field 141 (.agg #[a,b,c,d,e]) 2).run Tryz.prog W=.ok d W:=by
 simp [Instr.field,run_underlying Tryz.underlying141,asAgg,go_sem]
def RcAt (w:World) (rb ib:Nat) (X:ByteArray) (b r e:Nat):Prop:=w.heap[rb]? = some (.cells #[.string X,.int .i64 (b:Nat),.int .u32 (r:Nat),.map (some ib),.int .i64 (e:Nat)] 78 (0,0))
def RecP (l:List Fp) (b r:Nat) (w:World) (e:Ending) (w':World):Prop:=
 Below w.heap.size w w' ∧
 ((∃ ps ib n,recF l b r=some ps∧e=.returned (.tuple #[.agg #[.string (txt (txtF ps)),.int .i64 (b:Nat),.int .u32 (r:Nat),.map (some ib),.int .i64 (endF ps:Nat)],.bool true])∧w.heap.size≤ib∧n≤100000∧BlAt w' ib n (inF ps)) ∨
  (recF l b r=none∧∃ X y z q k,e=.returned (.tuple #[.agg #[.string X,.int .i64 y,.int .u32 z,.map q,.int .i64 k],.bool false])))
theorem qiR (w:World) (g n:Nat) (l:List Fp) (b r:Nat) (hF:FAt w g n (lookF l)) (hok:∀ f∈l,FpOk f∧f.blk<1000) (hb:b≤1000000) (hr:r≤4294967295) :
 Calls Tryz.prog 60 #[.map (some g),lv b r] w fun e w'=>RecP l b r w e w':=by
 have hgl:=hF.lt;obtain ⟨z0,hz0⟩:∃ z0,z0=w.heap.size:=⟨_,rfl⟩
 -- the blocks that are laid ahead of the loop
 obtain ⟨W1,hW1⟩:∃ W1,W1=w.alloc (.cells #[.int .i64 (b:Nat),.int .u32 (r:Nat)] 74):=⟨_,rfl⟩;obtain ⟨W2,hW2⟩:∃ W2,W2=W1.alloc (.cells #[.string ⟨#[]⟩,.int .i64 0,.int .u32 0,.map none,.int .i64 0] 78):=⟨_,rfl⟩;obtain ⟨W3,hW3⟩:∃ W3,W3=W2.alloc (.map #[] 0):=⟨_,rfl⟩;obtain ⟨W4,hW4⟩:∃ W4,W4=W3.alloc (.cells #[.string ⟨#[]⟩,.int .i64 (b:Nat),.int .u32 (r:Nat),.map (some (z0+2)),.int .i64 0] 78):=⟨_,rfl⟩;obtain ⟨W5,hW5⟩:∃ W5,W5=W4.alloc (.cells #[.pointer none,.slice none 0 0] 152):=⟨_,rfl⟩;have s1:W1.heap.size=z0+1:=by rw [hW1,hz0];simp
 have s2:W2.heap.size=z0+2:=by rw [hW2];simp [s1]
 have s3:W3.heap.size=z0+3:=by rw [hW3];simp [s2]
 have s4:W4.heap.size=z0+4:=by rw [hW4];simp [s3]
 have s5:W5.heap.size=z0+5:=by rw [hW5];simp [s4]
 have b1:Below w.heap.size w W1:=by rw [hW1];exact (Below.refl _ w).alloc (Nat.le_refl _) _
 have b5:Below w.heap.size w W5:=by rw [hW5,hW4,hW3,hW2];exact (((b1.alloc (by omega) _).alloc (by simp<;>omega) _).alloc (by simp<;>omega) _).alloc (by simp<;>omega) _
 have e1:W1.heap[z0]? = some (.cells #[.int .i64 (b:Nat),.int .u32 (r:Nat)] 74 (0,0)):=by rw [hW1,hz0];exact heap_alloc_new _ _
 have up2:∀ k,k<z0+1→W2.heap[k]? = W1.heap[k]? := fun k hk=>by rw [hW2];exact Below.heap_alloc W1 _ k (by omega)
 have up3:∀ k,k<z0+2→W3.heap[k]? = W2.heap[k]? := fun k hk=>by rw [hW3];exact Below.heap_alloc W2 _ k (by omega)
 have up4:∀ k,k<z0+3→W4.heap[k]? = W3.heap[k]? := fun k hk=>by rw [hW4];exact Below.heap_alloc W3 _ k (by omega)
 have up5:∀ k,k<z0+4→W5.heap[k]? = W4.heap[k]? := fun k hk=>by rw [hW5];exact Below.heap_alloc W4 _ k (by omega)
 have f1:W5.heap[z0]? = some (.cells #[.int .i64 (b:Nat),.int .u32 (r:Nat)] 74 (0,0)):=by rw [up5 z0 (by omega),up4 z0 (by omega),up3 z0 (by omega),up2 z0 (by omega)];exact e1
 have f2:W5.heap[z0+1]? = some (.cells #[.string ⟨#[]⟩,.int .i64 0,.int .u32 0,.map none,.int .i64 0] 78 (0,0)):=by rw [up5 _ (by omega),up4 _ (by omega),up3 _ (by omega),hW2,←s1];exact heap_alloc_new _ _
 have f3:BlAt W5 (z0+2) 0 (fun _=>false):=by
  have h3:=qgW W2;rw [←hW3,s2] at h3;exact (h3.of_block (up4 _ (by omega))).of_block (up5 _ (by omega))
 have f4:RcAt W5 (z0+3) (z0+2) ⟨#[]⟩ b r 0:=by
  unfold RcAt;rw [up5 _ (by omega),hW4,←s3];exact heap_alloc_new _ _
 have f5:BdAt W5 (z0+4) []:=⟨.pointer none,.slice none 0 0,by rw [hW5,←s4];exact heap_alloc_new _ _,.inl rfl,World.ownsRow_nil _ _ _ _⟩;have f6:FAt W5 g n (lookF l):=hF.of_block (b5.block g hgl);have g10:W2.cell? ⟨z0,0,none⟩=some (.int .i64 (b:Nat)):=by rw [World.cell?_of_block (up2 z0 (by omega)),cell_of_row W1 z0 0 _ 74 (0,0) e1];rfl
 have g11:W2.cell? ⟨z0,1,none⟩=some (.int .u32 (r:Nat)):=by rw [World.cell?_of_block (up2 z0 (by omega)),cell_of_row W1 z0 1 _ 74 (0,0) e1];rfl
 have g50:W5.cell? ⟨z0,0,none⟩=some (.int .i64 (b:Nat)):=by rw [cell_of_row W5 z0 0 _ 74 (0,0) f1];rfl
 have g51:W5.cell? ⟨z0,1,none⟩=some (.int .u32 (r:Nat)):=by rw [cell_of_row W5 z0 1 _ 74 (0,0) f1];rfl
 have hmk:=make92 W2;rw [←hW3,s2] at hmk;have hlk0:=(f6.look (a:=0) hb hr (by omega)).2;unfold pv fv at hlk0;rw [show ((0:Nat):Int)=0 from rfl] at hlk0;obtain ⟨o,ho⟩:∃ o,o=ofF l b r:=⟨_,rfl⟩;have hoe:((lookF l b r 0).getD fp0).of_=o:=by rw [ho];unfold ofF;cases lookF l b r 0<;>rfl
 have ho9:o<65536:=by
  rw [ho];unfold ofF;cases hx:lookF l b r 0 with
  | none=>show 0<65536;decide
  | some f=>exact (hok f (qar hx).1).1.o
 obtain ⟨q0,hq0⟩:∃ q0,q0=(lookF l b r 0).getD fp0:=⟨_,rfl⟩;rw [←hq0] at hlk0 hoe;rw [hoe] at hlk0;have Ho:=hidI ho;have HW1:=hidI hW1;have HW2:=hidI hW2;have HW3:=hidI hW3;have HW4:=hidI hW4;have HW5:=hidI hW5;have Hs1:=hidI s1;have Hs2:=hidI s2;have Hs3:=hidI s3;have Hs4:=hidI s4;have Hz0:=hidI hz0;have F1:=hidI f1;have F2:=hidI f2;have F3:=hidI f3;have F4:=hidI f4;have F5:=hidI f5;have F6:=hidI f6;rw [hz0.symm] at b5;have B5:=hidI b5;have Hok:=hidI hok;unfold RecP;rw [←hz0];rw [←hz0] at hgl;clear hF hz0 hW1 hW2 hW3 hW4 hW5 s1 s2 s3 s4 s5 b1 b5 e1 up2 up3 up4 up5 f1 f2 f3 f4 f5 f6 ho hq0 hok hoe;unfold lv;have hfl1:=fld1 W5 (.int .i64 (q0.bad:Nat)) (.int .u32 (q0.num:Nat)) (.int .i64 (q0.at_:Nat)) (.int .i64 (o:Nat)) (.string (txt q0.text)) (.int .i64 (q0.blk:Nat))
 have hfl2:=fld2 W5 (.int .i64 (q0.bad:Nat)) (.int .u32 (q0.num:Nat)) (.int .i64 (q0.at_:Nat)) (.int .i64 (o:Nat)) (.string (txt q0.text));go_enter Tryz.func60,Tryz.ntmps60
 go_wp2_with (first | (rw [←HW1.out,←Hz0.out]) | (rw [←HW2.out,Hs1.out]) | (rw [←HW4.out,Hs3.out]) | (rw [←HW5.out,Hs4.out]) | fail);clear g10 g11 g50 g51 hmk hlk0 hfl1 hfl2
 go_loopw [22] (fun i wr=>∃ (k n':Nat) (ps:List Fp),k≤o∧i=.int .i64 k∧n'≤k∧Hid (partF l b r o k=some ps)∧Hid (wr.heap[z0]? = some (.cells #[.int .i64 (b:Nat),.int .u32 (r:Nat)] 74 (0,0)))∧Hid (wr.heap[z0+1]? = some (.cells #[.string ⟨#[]⟩,.int .i64 0,.int .u32 0,.map none,.int .i64 0] 78 (0,0)))∧Hid (BlAt wr (z0+2) n' (inF ps))∧Hid (RcAt wr (z0+3) (z0+2) ⟨#[]⟩ b r (endF ps))∧Hid (BdAt wr (z0+4) (txtF ps))∧Hid (FAt wr g n (lookF l))∧Hid (Below z0 w wr)∧Hid ((txtF ps).length=k*51)) (fun i _=>o - (intOf i).toNat)
 case atStart=>exact ⟨0,0,[],Nat.zero_le _,rfl,Nat.le_refl _,hidI rfl,F1,F2,F3,F4,F5,F6,B5,hidI rfl⟩
 case round =>
  clear F1 F2 F3 F4 F5 F6 B5;obtain ⟨k,n',ps,hk,rfl,hn',HP,F1,F2,F3,F4,F5,F6,HB,HTl⟩:=hrel;have hz4:z0+4<wr.heap.size:=by obtain ⟨_,_,hb9,_⟩:=F5.out;exact lt_of_heap hb9
  by_cases hlt:k<o
  ·have c0:wr.cell? ⟨z0,0,none⟩=some (.int .i64 (b:Nat)):=by rw [cell_of_row wr z0 0 _ 74 (0,0) F1.out];rfl
   have c1:wr.cell? ⟨z0,1,none⟩=some (.int .u32 (r:Nat)):=by rw [cell_of_row wr z0 1 _ 74 (0,0) F1.out];rfl
   have hlk:=(F6.out.look (a:=k) hb hr (by omega)).1;unfold pv fv at hlk;obtain ⟨q,hq⟩:∃ q,q=(lookF l b r k).getD fp0:=⟨_,rfl⟩;obtain ⟨zz,hzz⟩:∃ zz,zz=(lookF l b r k).isSome:=⟨_,rfl⟩;rw [←hq,←hzz] at hlk;obtain ⟨V1,hV1⟩:∃ V1,V1=wr.alloc (.cells #[.int .i64 (q.bad:Nat),.int .u32 (q.num:Nat),.int .i64 (q.at_:Nat),.int .i64 (q.of_:Nat),.string (txt q.text),.int .i64 (q.blk:Nat)] 146):=⟨_,rfl⟩;obtain ⟨pb,hpb⟩:∃ pb,pb=wr.heap.size:=⟨_,rfl⟩;have hp1:V1.heap[pb]? = some (.cells #[.int .i64 (q.bad:Nat),.int .u32 (q.num:Nat),.int .i64 (q.at_:Nat),.int .i64 (q.of_:Nat),.string (txt q.text),.int .i64 (q.blk:Nat)] 146 (0,0)):=by rw [hV1,hpb];exact heap_alloc_new _ _
   have hbv:Below wr.heap.size wr V1:=by rw [hV1];exact (Below.refl _ wr).alloc (Nat.le_refl _) _
   have hbk:∀ j,j<wr.heap.size→V1.heap[j]? = wr.heap[j]? := fun j hj=>hbv.block j hj
   have p3:V1.cell? ⟨pb,3,none⟩=some (.int .i64 (q.of_:Nat)):=by rw [cell_of_row V1 pb 3 _ 146 (0,0) hp1];rfl
   have p4:V1.cell? ⟨pb,4,none⟩=some (.string (txt q.text)):=by rw [cell_of_row V1 pb 4 _ 146 (0,0) hp1];rfl
   have G1:=hidI ((hbk z0 (by omega)).trans F1.out);have G2:=hidI ((hbk (z0+1) (by omega)).trans F2.out);have G3:=hidI (F3.out.of_block (hbk (z0+2) (by omega)));have G4:Hid (RcAt V1 (z0+3) (z0+2) ⟨#[]⟩ b r (endF ps)):=hidI ((hbk (z0+3) (by omega)).trans F4.out);have G5:=hidI (F5.out.of_blocks (w':=V1) (.inr hbk));have G6:=hidI (F6.out.of_block (hbk g (by have:=F6.out.lt;exact this)));have G7:Hid (Below z0 w V1):=hidI (HB.out.trans (hbv.mono (by omega)));have Hq:=hidI hq;have Hzz:=hidI hzz;have HV1:=hidI hV1;have Hpb:=hidI hpb;have Hp1:=hidI hp1;have hpz:z0+4<pb:=by omega
   clear hq hzz hV1 hpb hp1 hbv hbk F1 F2 F3 F4 F5 F6 HB;by_cases hgood:zz=true∧q.of_=o
   ·obtain ⟨hzt,hqo⟩:=hgood;subst hzt;obtain ⟨f,hf⟩:∃ f,lookF l b r k=some f:=Option.isSome_iff_exists.1 Hzz.out.symm;have hqf:q=f:=by rw [Hq.out,hf];rfl
    subst hqf;have hfok:=Hok.out q (qar hf).1;have hql:=hfok.1.t;have hblk:=hfok.2;have Hst:Hid (partF l b r o (k+1)=some (ps++[q])):=hidI (by rw [partF,HP.out,hf];simp [hqo]);have A:=hidI (qdM (z0+4) (txtF ps) q.text V1 G5.out (by rw [HTl.out];omega) (by omega));rw [show Go.Proofs.YtodmdkhdbfbfgabGreatDoor.txt q.text=txt q.text from rfl] at A;rw [hqo] at HV1 Hp1 p3 hlk;have Hqo:=hidI hqo;clear hf hqo;go_wp2_with (first | (rw [←HV1.out,←Hpb.out]) | fail);refine A.out.mono ?_;rintro e V2 ⟨⟨rv,rfl⟩,hD2,hK2,hB2⟩;have K2:=hK2.2.2.2.2;have I1:=hidI (K2 z0 _ G1.out (by omega) rfl);have I2:=hidI (K2 (z0+1) _ G2.out (by omega) rfl);have I3:=hidI (G3.out.keptB hK2 (by omega));have I4:Hid (RcAt V2 (z0+3) (z0+2) ⟨#[]⟩ b r (endF ps)):=hidI (K2 (z0+3) _ G4.out (by omega) rfl);have I6:=hidI (G6.out.keptB hK2 (by omega));have Ip:=hidI (K2 pb _ Hp1.out (by omega) rfl)
    have I7:Hid (Below z0 w V2):=hidI (G7.out.trans (hB2.mono (by omega)));have I5:=hidI hD2;have r3:V2.cell? ⟨z0+3,3,none⟩=some (.map (some (z0+2))):=by rw [cell_of_row V2 (z0+3) 3 _ 78 (0,0) I4.out];rfl
    have p5:V2.cell? ⟨pb,5,none⟩=some (.int .i64 (q.blk:Nat)):=by rw [cell_of_row V2 pb 5 _ 146 (0,0) Ip.out];rfl
    have A2:=hidI (qeK (z0+2) n' q.blk (inF ps) V2 I3.out (by omega) (by omega));clear A hD2 hK2 hB2 K2 G1 G2 G3 G4 G5 G6 G7 p3 p4 c0 c1 hlk Hp1;go_wp2_with fail;refine A2.out.mono ?_;rintro e V3 ⟨rfl,hS3,hm3⟩;have ek:∀ j,j<V2.heap.size→j≠z0+2→V3.heap[j]? = V2.heap[j]? := fun j hj hne=>hm3.grown.block j hj (fun e=>by cases e;exact hne rfl)
    have hpl:=lt_of_heap Ip.out;have J1:=hidI ((ek z0 (lt_of_heap I1.out) (by omega)).trans I1.out);have J2:=hidI ((ek (z0+1) (lt_of_heap I2.out) (by omega)).trans I2.out);have J4:Hid (RcAt V3 (z0+3) (z0+2) ⟨#[]⟩ b r (endF ps)):=hidI ((ek (z0+3) (lt_of_heap I4.out) (by omega)).trans I4.out);have J6:=hidI (I6.out.of_block (ek g I6.out.lt (by omega)));have Jp:=hidI ((ek pb hpl (by omega)).trans Ip.out);have J5:Hid (BdAt V3 (z0+4) (txtF ps++q.text)):=hidI (by
     obtain ⟨p9,v9,h91,h92,h93⟩:=I5.out;refine ⟨p9,v9,(ek (z0+4) (lt_of_heap h91) (by omega)).trans h91,h92,h93.1,?_⟩;rcases h93.2 with h94 | ⟨g9,cap,cur,e9,hg9,h95,h96⟩
     ·exact .inl h94
     exact .inr ⟨g9,cap,cur,e9,hg9,(ek g9 (lt_of_heap h95) (by omega)).trans h95,h96⟩)
    have J3:Hid (BlAt V3 (z0+2) (n'+1) (inF (ps++[q]))):=hidI (hS3.congr fun i=>(qhE ps q i).symm);have J7:Hid (Below z0 w V3):=hidI (I7.out.trans ⟨hm3.grown.os,hm3.grown.tape,hm3.grown.output,hm3.grown.size,fun j hj=>ek j (by omega) (by omega)⟩);have p5':V3.cell? ⟨pb,5,none⟩=some (.int .i64 (q.blk:Nat)):=by rw [cell_of_row V3 pb 5 _ 146 (0,0) Jp.out];rfl
    have r4:V3.cell? ⟨z0+3,4,none⟩=some (.int .i64 (endF ps:Nat)):=by rw [cell_of_row V3 (z0+3) 4 _ 78 (0,0) J4.out];rfl
    have fz4:=frozen_of_row V3 (z0+3) 4 _ 78 J4.out;obtain ⟨V4,hV4⟩:∃ V4,V4=V3.setCell ⟨z0+3,4,none⟩ (.int .i64 (q.blk:Nat)):=⟨_,rfl⟩;have eo:∀ j,j≠z0+3→V4.heap[j]? = V3.heap[j]? := fun j hj=>by rw [hV4];exact Below.heap_setCell V3 ⟨z0+3,4,none⟩ _ j hj
    have L1:=hidI ((eo z0 (by omega)).trans J1.out);have L2:=hidI ((eo (z0+1) (by omega)).trans J2.out);have L3:=hidI (J3.out.of_block (eo (z0+2) (by omega)));have L4:Hid (RcAt V4 (z0+3) (z0+2) ⟨#[]⟩ b r (endF (ps++[q]))):=hidI (by rw [qf2,hV4];exact heap_setCell_same V3 (z0+3) 4 _ 78 _ J4.out);have L5:Hid (BdAt V4 (z0+4) (txtF (ps++[q]))):=hidI (by
     rw [qck];obtain ⟨p9,v9,h91,h92,h93⟩:=J5.out;refine ⟨p9,v9,(eo (z0+4) (by omega)).trans h91,h92,h93.1,?_⟩;rcases h93.2 with h94 | ⟨g9,cap,cur,e9,hg9,h95,h96⟩
     ·exact .inl h94
     exact .inr ⟨g9,cap,cur,e9,hg9,(eo g9 (by omega)).trans h95,h96⟩)
    have L6:=hidI (J6.out.of_block (eo g (by omega)));have L7:Hid (Below z0 w V4):=hidI (by rw [hV4];exact J7.out.setCell (by simp<;>omega) _);have HT4:Hid ((txtF (ps++[q])).length=(k+1)*51):=hidI (by rw [qck,List.length_append,HTl.out,hql];omega);have HV4:=hidI hV4;clear A2 hS3 hm3 ek I1 I2 I3 I4 I5 I6 I7 Ip J1 J2 J3 J4 J5 J6 J7 Jp eo hV4 r3 p5;go_wp2_with (first | (rw [←HV4.out]) | fail);go_roundw
    case rel=>exact ⟨k+1,n'+1,ps++[q],by omega,by go_num,by omega,Hst,L1,L2,L3,L4,L5,L6,L7,HT4⟩
    case measure=>simp [intOf];omega
   have HR:Hid (recF l b r=none):=hidI (by
    have h1:partF l b r o (k+1)=none:=by
     rw [partF,HP.out];cases hf:lookF l b r k with
     | none=>rfl
     | some f =>
       have hqf:q=f:=by rw [Hq.out,hf];rfl
       have hz1:zz=true:=by rw [Hzz.out,hf];rfl
       have:f.of_≠o:=fun e=>hgood ⟨hz1,by rw [hqf];exact e⟩
       simp [this]
    unfold recF;rw [←Ho.out]
    split
    ·rfl
    exact qcx (by omega) h1)
   have q20:V1.cell? ⟨z0+1,0,none⟩=some (.string ⟨#[]⟩):=by rw [cell_of_row V1 (z0+1) 0 _ 78 (0,0) G2.out];rfl
   have q21:V1.cell? ⟨z0+1,1,none⟩=some (.int .i64 0):=by rw [cell_of_row V1 (z0+1) 1 _ 78 (0,0) G2.out];rfl
   have q22:V1.cell? ⟨z0+1,2,none⟩=some (.int .u32 0):=by rw [cell_of_row V1 (z0+1) 2 _ 78 (0,0) G2.out];rfl
   have q23:V1.cell? ⟨z0+1,3,none⟩=some (.map none):=by rw [cell_of_row V1 (z0+1) 3 _ 78 (0,0) G2.out];rfl
   have q24:V1.cell? ⟨z0+1,4,none⟩=some (.int .i64 0):=by rw [cell_of_row V1 (z0+1) 4 _ 78 (0,0) G2.out];rfl
   have y0:=frozen_of_row V1 (z0+1) 0 _ 78 G2.out;have y1:=frozen_of_row V1 (z0+1) 1 _ 78 G2.out;have y2:=frozen_of_row V1 (z0+1) 2 _ 78 G2.out;have y3:=frozen_of_row V1 (z0+1) 3 _ 78 G2.out;have y4:=frozen_of_row V1 (z0+1) 4 _ 78 G2.out;have hfin:∀ (e:Ending) (V:World),Below z0 w V→e=.returned (.tuple #[.agg #[.string ⟨#[]⟩,.int .i64 0,.int .u32 0,.map none,.int .i64 0],.bool false])→(Below z0 w V∧((∃ ps ib n,recF l b r=some ps∧e=.returned (.tuple #[.agg #[.string (txt (txtF ps)),.int .i64 (b:Nat),.int .u32 (r:Nat),.map (some ib),.int .i64 (endF ps:Nat)],.bool true])∧z0≤ib∧n≤100000∧BlAt V ib n (inF ps))∨(recF l b r=none∧∃ X y z q k,e=.returned (.tuple #[.agg #[.string X,.int .i64 y,.int .u32 z,.map q,.int .i64 k],.bool false])))):=fun e V h1 h2=>⟨h1,.inr ⟨HR.out,_,_,_,_,_,h2⟩⟩
   have Hfin:=hidI hfin;clear hfin;cases zz with
   | false =>
     clear hgood;go_wp2_with (first | (rw [←HV1.out,←Hpb.out]) | fail);refine bodyPost_ret (v:=.tuple #[.agg #[.string ⟨#[]⟩,.int .i64 0,.int .u32 0,.map none,.int .i64 0],.bool false]) ?_ rfl (Hfin.out _ _ ?_ rfl)
     ·simp [results,go_sem,q20,q21,q22,q23,q24]
     exact ((((G7.out.setCell (by simp<;>omega) _).setCell (by simp<;>omega) _).setCell (by simp<;>omega) _).setCell (by simp<;>omega) _).setCell (by simp<;>omega) _
   | true =>
     have hqn:¬q.of_=o:=fun e=>hgood ⟨rfl,e⟩
     have hqi:¬(q.of_:Int)=(o:Int):=by omega
     clear hgood;go_wp2_with (first | (rw [←HV1.out,←Hpb.out]) | fail);refine bodyPost_ret (v:=.tuple #[.agg #[.string ⟨#[]⟩,.int .i64 0,.int .u32 0,.map none,.int .i64 0],.bool false]) ?_ rfl (Hfin.out _ _ ?_ rfl)
     ·simp [results,go_sem,q20,q21,q22,q23,q24]
     exact ((((G7.out.setCell (by simp<;>omega) _).setCell (by simp<;>omega) _).setCell (by simp<;>omega) _).setCell (by simp<;>omega) _).setCell (by simp<;>omega) _
  have hko:k=o:=by omega
  subst hko;have A:=hidI (Tryz.Builder_String_any_k (z0+4) (z0+4) (txtF ps) wr F5.out.lib (by omega));rw [show (⟨(txtF ps).toArray⟩:ByteArray)=txt (txtF ps) from rfl] at A;obtain ⟨X,hX⟩:∃ X,X=txt (txtF ps):=⟨_,rfl⟩;rw [←hX] at A;have HX:=hidI hX;clear hX;go_wp2_with fail;refine A.out.mono ?_;rintro e V2 ⟨rfl,_,hB2,_⟩;have I2:=(hB2.block (z0+1) (by omega)).trans F2.out;have I3:=F3.out.of_block (hB2.block (z0+2) (by omega));have I4:RcAt V2 (z0+3) (z0+2) ⟨#[]⟩ b r (endF ps):=(hB2.block (z0+3) (by omega)).trans F4.out;have I7:Below z0 w V2:=HB.out.trans (hB2.mono (by omega));have r0:V2.cell? ⟨z0+3,0,none⟩=some (.string ⟨#[]⟩):=by rw [cell_of_row V2 (z0+3) 0 _ 78 (0,0) I4];rfl
  have fz0:=frozen_of_row V2 (z0+3) 0 _ 78 I4;obtain ⟨V3,hV3⟩:∃ V3,V3=V2.setCell ⟨z0+3,0,none⟩ (.string X):=⟨_,rfl⟩;have eo:∀ j,j≠z0+3→V3.heap[j]? = V2.heap[j]? := fun j hj=>by rw [hV3];exact Below.heap_setCell V2 ⟨z0+3,0,none⟩ _ j hj
  have J4:RcAt V3 (z0+3) (z0+2) X b r (endF ps):=by rw [hV3];exact heap_setCell_same V2 (z0+3) 0 _ 78 _ I4
  have J2:=(eo (z0+1) (by omega)).trans I2;have J3:=I3.of_block (eo (z0+2) (by omega));have J7:Below z0 w V3:=by rw [hV3];exact I7.setCell (by simp<;>omega) _
  obtain ⟨ee,hee⟩:∃ ee,ee=endF ps:=⟨_,rfl⟩;rw [←hee] at J4;have Hee:=hidI hee;have t0:V3.cell? ⟨z0+3,0,none⟩=some (.string X):=by rw [cell_of_row V3 (z0+3) 0 _ 78 (0,0) J4];rfl
  have t1:V3.cell? ⟨z0+3,1,none⟩=some (.int .i64 (b:Nat)):=by rw [cell_of_row V3 (z0+3) 1 _ 78 (0,0) J4];rfl
  have t2:V3.cell? ⟨z0+3,2,none⟩=some (.int .u32 (r:Nat)):=by rw [cell_of_row V3 (z0+3) 2 _ 78 (0,0) J4];rfl
  have t3:V3.cell? ⟨z0+3,3,none⟩=some (.map (some (z0+2))):=by rw [cell_of_row V3 (z0+3) 3 _ 78 (0,0) J4];rfl
  have t4:V3.cell? ⟨z0+3,4,none⟩=some (.int .i64 (ee:Nat)):=by rw [cell_of_row V3 (z0+3) 4 _ 78 (0,0) J4];rfl
  have q20:V3.cell? ⟨z0+1,0,none⟩=some (.string ⟨#[]⟩):=by rw [cell_of_row V3 (z0+1) 0 _ 78 (0,0) J2];rfl
  have q21:V3.cell? ⟨z0+1,1,none⟩=some (.int .i64 0):=by rw [cell_of_row V3 (z0+1) 1 _ 78 (0,0) J2];rfl
  have q22:V3.cell? ⟨z0+1,2,none⟩=some (.int .u32 0):=by rw [cell_of_row V3 (z0+1) 2 _ 78 (0,0) J2];rfl
  have q23:V3.cell? ⟨z0+1,3,none⟩=some (.map none):=by rw [cell_of_row V3 (z0+1) 3 _ 78 (0,0) J2];rfl
  have q24:V3.cell? ⟨z0+1,4,none⟩=some (.int .i64 0):=by rw [cell_of_row V3 (z0+1) 4 _ 78 (0,0) J2];rfl
  have y0:=frozen_of_row V3 (z0+1) 0 _ 78 J2;have y1:=frozen_of_row V3 (z0+1) 1 _ 78 J2;have y2:=frozen_of_row V3 (z0+1) 2 _ 78 J2;have y3:=frozen_of_row V3 (z0+1) 3 _ 78 J2;have y4:=frozen_of_row V3 (z0+1) 4 _ 78 J2;have HJ3:=hidI J3;have HJ7:=hidI J7;have HV3:=hidI hV3;have hps:k=0∨recF l b r=some ps:=by
   rcases Nat.eq_zero_or_pos k with h0 | h0
   ·exact .inl h0
   right
   unfold recF;rw [←Ho.out,if_neg (by omega)];exact HP.out
  have Hps:=hidI hps;have H0:Hid (k=0→recF l b r=none):=hidI (fun h0=>by unfold recF;rw [←Ho.out,if_pos h0]);clear A hB2 I2 I3 I4 I7 eo hV3 J2 J3 J4 J7 hee hps;by_cases hk0:k=0
  ·subst hk0;go_wp2_with (first | (rw [←HV3.out]) | fail);refine bodyPost_ret (v:=.tuple #[.agg #[.string X,.int .i64 (b:Nat),.int .u32 (r:Nat),.map (some (z0+2)),.int .i64 (ee:Nat)],.bool false]) ?_ rfl ⟨?_,.inr ⟨H0.out trivial,_,_,_,_,_,rfl⟩⟩
   ·simp [results,go_sem,q20,q21,q22,q23,q24]
   exact ((((HJ7.out.setCell (by simp<;>omega) _).setCell (by simp<;>omega) _).setCell (by simp<;>omega) _).setCell (by simp<;>omega) _).setCell (by simp<;>omega) _
  have hki:(0:Int)<(k:Int):=by omega
  go_wp2_with (first | (rw [←HV3.out]) | fail);refine bodyPost_ret (v:=.tuple #[.agg #[.string X,.int .i64 (b:Nat),.int .u32 (r:Nat),.map (some (z0+2)),.int .i64 (ee:Nat)],.bool true]) ?_ rfl ⟨?_,.inl ⟨ps,z0+2,n',Hps.out.resolve_left hk0,?_,by omega,by omega,?_⟩⟩
  ·simp [results,go_sem,q20,q21,q22,q23,q24];omega
  ·exact ((((HJ7.out.setCell (by simp<;>omega) _).setCell (by simp<;>omega) _).setCell (by simp<;>omega) _).setCell (by simp<;>omega) _).setCell (by simp<;>omega) _
  ·rw [←Hee.out,←HX.out]
  exact HJ3.out.of_block (by
   refine (Below.heap_setCell _ ⟨z0+1,4,none⟩ _ _ (by simp<;>omega)).trans ?_;refine (Below.heap_setCell _ ⟨z0+1,3,none⟩ _ _ (by simp<;>omega)).trans ?_;refine (Below.heap_setCell _ ⟨z0+1,2,none⟩ _ _ (by simp<;>omega)).trans ?_;refine (Below.heap_setCell _ ⟨z0+1,1,none⟩ _ _ (by simp<;>omega)).trans ?_;exact Below.heap_setCell _ ⟨z0+1,0,none⟩ _ _ (by simp<;>omega))
end Go.Proofs.YtodmdkhdbfbfgabGreatDoor.S1
namespace Go.Proofs.YtodmdkhdbfbfgabGreatDoor.S1
open Go.RowKit Pk Go.Shelf
open Go.Nt (Fp lookF hasL hasL_iff FpOk qar scanF recF txtF inF endF)
attribute [local go_sem] Oper.semAt_some
def rv (ps:List Fp) (b r ib:Nat):Value:=.agg #[.string (txt (txtF ps)),.int .i64 (b:Nat),.int .u32 (r:Nat),.map (some ib),.int .i64 (endF ps:Nat)]
def rcs (ps:List Fp) (b r ib:Nat):List Value:=[.string (txt (txtF ps)),.int .i64 (b:Nat),.int .u32 (r:Nat),.map (some ib),.int .i64 (endF ps:Nat)]
theorem Tryz.info94:(Tryz.prog.info? 78).map (fun i=>(i.zero,i.size,i.bytes))=some (some (.agg #[.string ⟨#[]⟩,.int .i64 0,.int .u32 0,.map none,.int .i64 0]),5,48):=by kernel_rfl
theorem qap {F:Fence} {n:Nat} {P:Program} {ops:Array Oper} {o:Oper} {a:Act} {w:World} {K:Act→World→Prop} {Q:Exit→Act→World→Prop} {E:Prop} (hgd:o.guard=none) (s x:Operand) (t:TypeId)
 (ho:o.op=.call { callee:=.builtin .append,args:=#[s,x],argTypes:=#[t,t] }) (vs vx:Value) (hs:a.eval s=vs) (hx:a.eval x=vx)
 (v':Value) (w':World) (hr:(Builtin.append_ #[t,t] o.type #[vs,vx]).run P w=.ok v' w') (h:K (a.put o.dst v') w') :
 if Region.wanted o (yielded ops a.tmps)=true then Oper.wpIn F n P o a w K Q else E:=by
 have hw:Region.wanted o (yielded ops a.tmps)=true:=by simp [Region.wanted,hgd]
 rw [if_pos hw];unfold Oper.wpIn;refine ⟨by simp [Oper.about,ho,resolve,Target.leads,Sem.run_pure],?_⟩;rw [Oper.semAt_plain F _ _ (by rw [ho];intro c hc';cases hc')];simp [execOp,ho,resolve,invoke,builtin,hs,hx,hr,Result.andThen];exact h
end Go.Proofs.YtodmdkhdbfbfgabGreatDoor.S1
namespace Go.Proofs.YtodmdkhdbfbfgabGreatDoor
open Go.RowKit Go.Nt
theorem Turn.own {rb:Nat} {a b:World} (h:Turn rb a b) {x:Array Value} {T:TypeId} {f:Nat × Nat} (hrb:a.heap[rb]? = some (.cells x T f)) {base e s n:Nat} {v:Value} {xs:List Value} (ho:a.ownsRow base e s v n xs) (hne:e≠T):b.ownsRow base e s v n xs:=by
 refine ⟨ho.1,?_⟩;rcases ho.2 with ⟨rfl,h0⟩ | ⟨g,cap,cur,rfl,h1,hh,h2⟩
 ·exact .inl ⟨rfl,h0⟩
 refine .inr ⟨g,cap,cur,rfl,h1,(h.block g (lt_of_heap hh) (fun e' => ?_)).trans hh,h2⟩;subst e';rw [hrb] at hh;cases hh
 exact hne rfl
theorem RdAt.grown {w w':World} {rb:Nat} {r:Rd} (h:RdAt w rb r) {base n s:Nat} {v:Value} {xs:List Value} (hown:w.ownsRow base 53 s v n xs) (hg:w.grownBy w' v.ownBlock):RdAt w' rb r:=
 ((But.refl 53 w).grown hown hg).cells h (by decide)
theorem qe6 (k:Nat) (r:Rd):(nmb k r).2.1.length≤r.1.length:=(qbk k r).2
theorem qid (u:Bs→Option Bs) (r:Rd):(rdItem u r).2.1.length≤r.1.length:=by
 unfold rdItem;simp only;have h1:=qe6 2 r;have h2:=qe6 4 (nmb 2 r).2;have h3:=qe6 1 (nmb 4 (nmb 2 r).2).2;have h4:=(qbk (nmb 1 (nmb 4 (nmb 2 r).2).2).1 (nmb 1 (nmb 4 (nmb 2 r).2).2).2).2;by_cases hk:32768≤(nmb 2 r).1
 ·rw [if_pos hk];simp only;omega
 rw [if_neg hk];have h5:=qe6 2 (Go.Nt.tk (nmb 1 (nmb 4 (nmb 2 r).2).2).1 (nmb 1 (nmb 4 (nmb 2 r).2).2).2).2;have h6:=(qbk (nmb 2 (Go.Nt.tk (nmb 1 (nmb 4 (nmb 2 r).2).2).1 (nmb 1 (nmb 4 (nmb 2 r).2).2).2).2).1 (nmb 2 (Go.Nt.tk (nmb 1 (nmb 4 (nmb 2 r).2).2).1 (nmb 1 (nmb 4 (nmb 2 r).2).2).2).2).2).2;simp only;omega
theorem qia {u:Bs→Option Bs} (hu:∀ t d:Bs,u t=some d→d.length≤4000) (r:Rd):(rdItem u r).1.path.length≤255∧(rdItem u r).1.data.length≤4000:=by
 unfold rdItem;simp only;have hp:(Go.Nt.tk (nmb 1 (nmb 4 (nmb 2 r).2).2).1 (nmb 1 (nmb 4 (nmb 2 r).2).2).2).1.length≤255:=by
  have h1:=(qbk (nmb 1 (nmb 4 (nmb 2 r).2).2).1 (nmb 1 (nmb 4 (nmb 2 r).2).2).2).1;have h2:=qd1 1 (nmb 4 (nmb 2 r).2).2;omega
 by_cases hk:32768≤(nmb 2 r).1
 ·rw [if_pos hk];exact ⟨hp,by simp⟩
 rw [if_neg hk];refine ⟨hp,?_⟩;simp only;cases h:u _ with
 | none=>simp
 | some d=>simpa using hu _ d h
def FromP (u:Bs→Option Bs) (t:Bs) (w:World) (e:Ending) (w':World):Prop:=
 Below w.heap.size w w' ∧
  ((e=.returned (.tuple #[.map none,.bool false])∧∀ l,parse u t=some l→isTree l=false) ∨
  ∃ l b,parse u t=some l∧isTree l=true∧e=.returned (.tuple #[.map (some b),.bool true])∧w.heap.size≤b∧TreeAt w' b l)
theorem qfz {u:Bs→Option Bs} (hP:PackC u) (t:Bs) (w:World) (hml:ML w) (ht:t.length≤1000000) :
 Calls Tryz.prog 35 #[.string (txt t)] w fun e w'=>FromP u t w e w':=by
 obtain ⟨i0,hi,hz0,hz1,hz2⟩:=info_parts Tryz.info24;have hml0:=hml.lt;have Hml:=hidI hml;obtain ⟨W0,hW0⟩:∃ W0,W0=w.alloc (.cells #[.string (txt t),.bool true] 121):=⟨_,rfl⟩;have h0:RdAt W0 w.heap.size (t,true):=by rw [hW0];exact heap_alloc_new _ _
 have hB0:Below w.heap.size w W0:=by rw [hW0];exact (Below.refl _ w).alloc (Nat.le_refl _) _
 have hs0:W0.heap.size=w.heap.size+1:=by rw [hW0];simp
 have A1:=hidI (qbg w.heap.size (t,true) 1 W0 h0 (by decide) ht);obtain ⟨nr,hn⟩:∃ nr,nr=nmb 1 (t,true):=⟨_,rfl⟩;obtain ⟨m0,r0⟩:=nr;have hm0:m0<256:=by have:=qd1 1 (t,true);rw [←hn] at this;exact this
 have l0:r0.1.length≤1000000:=by have:=(qbk 1 (t,true)).2;have e:(nmb 1 (t,true)).2=(Go.Nt.tk 1 (t,true)).2:=rfl;rw [←hn] at e;rw [←e] at this;exact Nat.le_trans this ht
 rw [←hn] at A1;simp only at A1;have Hpar:Hid (parse u t=if (qaP u m0 r0 []).2.2 then some (qaP u m0 r0 []).1 else none):=hidI (by unfold parse;rw [←hn]);have HW0:=hidI hW0;have HB0:=hidI hB0;clear hml hW0 h0 hB0 hn;go_enter Tryz.func35,Tryz.ntmps35
 go_wp2_with (first | (rw [←HW0.out]) | fail);refine A1.out.mono ?_;rintro e w1 ⟨rfl,h1,t1⟩;have HB1:=hidI (HB0.out.trans (t1.below (Nat.le_refl _) (by omega)));have hs1:=t1.size;have H1:=hidI h1;clear A1 h1 t1;go_wp2
 go_loopw [5,6] (fun v i wr=>∃ (m:Nat) (r:Rd) (acc:List It),i=.int .i64 m∧m+acc.length=m0∧Hid (qaP u m0 r0 []=qaP u m r acc)∧r.1.length≤1000000∧Hid (RdAt wr w.heap.size r)∧Hid (wr.ownsRow w.heap.size 53 5 v acc.length (its acc))∧Hid (Below w.heap.size w wr)∧Hid (∀ x∈acc,x.path.length≤255∧x.data.length≤4000)) (fun _ i _=>(intOf i).toNat)
 case atStart=>exact ⟨m0,r0,[],rfl,by simp,hidI rfl,l0,H1,hidI (World.ownsRow_nil _ _ _ _),HB1,hidI (by simp)⟩
 case round =>
  obtain ⟨m,r,acc,rfl,hm,Hrd,lr,HR,HO,HB,Hfit⟩:=hrel;have hszr:=HB.out.size;have k1:=HR.out.c1;obtain ⟨fn,hfn⟩:∃ fn,fn=r.2:=⟨_,rfl⟩;rw [←hfn] at k1;have Hfn:=hidI hfn;clear hfn;obtain ⟨a2,c2,rfl,hin⟩:=qa9 HO.out;obtain ⟨L,hL⟩:∃ L,L=acc.length:=⟨_,rfl⟩;rw [←hL] at HO ⊢;have hLm:m+L=m0:=by omega
  have HL:=hidI hL;have Hin:=hidI hin;clear hL hin hm;cases m with
  | zero =>
    have hend:Hid (qaP u m0 r0 []=(acc,r)):=Hrd;cases fn with
    | false =>
      go_wp2;go_ret2
      exact ⟨HB.out,.inl ⟨rfl,fun l hl=>by rw [Hpar.out,hend.out] at hl;simp only at hl;rw [←Hfn.out] at hl;cases hl⟩⟩
    | true =>
      have HN:=hidI (new_any a2 c2 acc wr (Hml.out.below HB.out hml0) Hin.out (by rw [←HL.out];omega) (fun x hx=>by have:=(Hfit.out x hx).1;omega) (fun x hx=>by have:=(Hfit.out x hx).2;omega));rw [←HL.out] at HN;have Hp:Hid (parse u t=some acc):=hidI (by rw [Hpar.out,hend.out];simp only;rw [←Hfn.out];rfl);go_wp2_with fail;refine HN.out.mono ?_;rintro e w5 ⟨hb5,⟨hno,rfl⟩ | ⟨hyes,b,rfl,hbb,hT⟩⟩
      ·have HB5:=hidI (HB.out.trans (hb5.mono hszr));clear hb5 HN;go_wp2;go_ret2
       exact ⟨HB5.out,.inl ⟨rfl,fun l hl=>by rw [Hp.out] at hl;cases hl;exact hno⟩⟩
      have HB5:=hidI (HB.out.trans (hb5.mono hszr));have HT:=hidI hT;clear hb5 HN hT;go_wp2;go_ret2
      exact ⟨HB5.out,.inr ⟨acc,b,Hp.out,hyes,rfl,by omega,HT.out⟩⟩
  | succ m =>
    cases fn with
    | false =>
      have hend:Hid (qaP u m0 r0 []=(acc,r)):=hidI (by rw [Hrd.out];show (if r.2 then _ else _)=_;rw [←Hfn.out];rfl);go_wp2;go_ret2
      exact ⟨HB.out,.inl ⟨rfl,fun l hl=>by rw [Hpar.out,hend.out] at hl;simp only at hl;rw [←Hfn.out] at hl;cases hl⟩⟩
    | true =>
      have A:=hidI (qlY hP w.heap.size r wr HR.out lr);have Hstep:Hid (qaP u m0 r0 []=qaP u m (rdItem u r).2 (acc++[(rdItem u r).1])):=hidI (by rw [Hrd.out];show (if r.2 then _ else _)=_;rw [←Hfn.out];rfl);have Hf2:=hidI (qia hP.small r);have lr2:(rdItem u r).2.1.length≤1000000:=Nat.le_trans (qid u r) lr;obtain ⟨x,hx⟩:∃ x,x=(rdItem u r).1:=⟨_,rfl⟩;obtain ⟨r',hr'⟩:∃ r',r'=(rdItem u r).2:=⟨_,rfl⟩;rw [←hx,←hr'] at A Hstep;rw [←hx] at Hf2;rw [←hr'] at lr2;unfold itv at A;clear hx hr' Hrd;go_wp2_with fail;refine A.out.mono ?_;rintro e w3 ⟨rfl,h3,t3⟩;have ho3:=t3.own HR.out HO.out (by decide);have hb3:=HB.out.trans (t3.below (Nat.le_refl _) (by omega));have hs3:=t3.size;have hrlt:=HR.out.lt;have HO3:=hidI ho3;have HB3:=hidI hb3;have H3:=hidI h3;clear A h3 t3 ho3 hb3 k1
      go_wp2_with (at_builtin;refine wpList_append_own _ rfl (.tmp 20) (.tmp 22) 42 rfl w.heap.size 53 i0 _ 5 56 Tryz.underlying42 hi hz0 hz1 hz2 rfl (by decide) _ _ _ rfl (HO3.out.alloc _) ⟨w3.heap.size,0,none⟩ 1 1 (itl x) rfl ?e1 ?e2 ?e3 ?e4 ?e5 ?e6 ?_)
      case e1=>rfl
      case e2 =>
       intro j v hv;rw [addr_add];have h:=(qbJ w3 x).cell hv;unfold boxed at h;simpa using h
      case e3=>intro v hv;exact qa6 (l:=[x]) v (by rw [qbc];exact hv)
      case e4=>unfold maxLen;omega
      case e5=>omega
      case e6=>simp;omega
      intro v4 w4 hown4 hgrow4 _;have hb4:Below w.heap.size w w4:=(HB3.out.alloc (by omega) _).grown hgrow4 (by simp;omega) (fun q hq=>(HO3.out.lt q hq).1);have h4:RdAt w4 w.heap.size r':=RdAt.grown ((Below.heap_alloc w3 _ _ (by omega)).trans H3.out) (HO3.out.alloc _) hgrow4;have HO4:Hid (w4.ownsRow w.heap.size 53 5 v4 (acc++[x]).length (its (acc++[x]))):=hidI (by rw [qaZ,qbc,List.length_append,←HL.out];exact hown4);have HB4:=hidI hb4;have H4:=hidI h4;clear hown4 hgrow4 hb4 h4;go_wp2;go_roundw
      case rel=>exact ⟨m,r',acc++[x],by go_num,by rw [List.length_append,←HL.out];simp;omega,Hstep,lr2,H4,HO4,HB4,hidI (fun y hy=>(List.mem_append.1 hy).elim (Hfit.out y) (fun e=>by simp at e;subst e;exact Hf2.out))⟩
      case measure=>simp [intOf]
end Go.Proofs.YtodmdkhdbfbfgabGreatDoor
namespace Go.Proofs.YtodmdkhdbfbfgabGreatDoor
open Go.RowKit Go.Nt
open S1 (rcs)
def MountP (ps:List Fp) (b r:Nat) (np:Nat) (cb:Nat) (tl:List It) (w:World) (e:Ending) (w':World):Prop:=
 ∃ fb lb tb ib n,e=.returned (.tuple #[.pointer (some ⟨fb,0,none⟩),.int .i64 0])∧FsAt w' fb cb lb tb∧TreeAt w' tb tl∧S1.LogAt w' lb cb ⟨b,r,none⟩ (some ib) none (endF ps) np∧n≤100000∧S1.BlAt w' ib n (inF ps)∧w.heap.size≤fb∧w.heap.size≤lb∧w.heap.size≤tb∧w.heap.size≤ib∧ib<tb∧Below w.heap.size w w'
end Go.Proofs.YtodmdkhdbfbfgabGreatDoor
namespace Go.Proofs.YtodmdkhdbfbfgabGreatDoor.S1
open Go.RowKit Pk
open Go.Nt (Fp nxt pagesN splitR pageB pgOf hasL hasL_iff scanF mem_scanF readP qeh qbp qe9 fpR lookF qbx)
theorem qdi {x:List UInt8} (h:x.length<64):readP (pad x)=none:=by
 apply qeh
 unfold pad;rw [List.getD_eq_getElem?_getD,List.getElem?_append_right (by omega),List.getElem?_replicate];rw [if_pos (by omega)];rfl
theorem qeP {x:List UInt8} (h:x.length=64):pad x=x:=by
 unfold pad;rw [h];simp
theorem LayI.found {m0:M} {K:Nat→Bool} {bn kn:Nat} {t:List UInt8} {m:M} {S:Nat→Bool} {ps:List (Nat × Nat)} {left:List (List UInt8)} (h:LayI m0 K (splitR bn kn t) m S ps left) (hb:bn<256) (hn:kn<4294967296) (ho:pagesN t.length<65536) {f:Fp} (hf:f∈scanF (pgs m) m.np m.nb) :
 (∃ k i q,ps[k]? = some (i,q)∧k<pagesN t.length∧f=fpR bn kn t k i)∨f∈scanF (pgs m0) m0.np m0.nb:=by
 obtain ⟨i,p,q,hi,hp,hr,rfl⟩:=mem_scanF.1 hf;rcases h.page i p hi hp with h1 | ⟨x,hx,c,hc,e⟩ | e | e
 ·left
  obtain ⟨k,hk⟩:=List.getElem?_of_mem h1;obtain ⟨a1,a2,a3,a4,a5⟩:=h.posn k i p hk;have hkl:k<pagesN t.length:=by
   have:=(List.getElem?_eq_some_iff.1 a4).1
   rwa [Go.Nt.splitR_length] at this
  have e:m.pg i p=pageB (pgOf bn kn t k):=by
   unfold splitR at a4;rw [List.getElem?_map,List.getElem?_range hkl] at a4;simpa using a4.symm
  refine ⟨k,i,p,hk,hkl,?_⟩;have hok:=qe9 (t:=t) hb hn hkl ho;unfold pgs at hr;rw [e,qeP (Go.Nt.pageB_length _ hok.t),qbp hok] at hr;cases hr
  rfl
 ·exfalso
  unfold pgs at hr;rw [e,qdi (by rw [List.length_take];omega)] at hr;cases hr
 ·exfalso
  unfold pgs at hr;rw [e,qdi (by decide)] at hr;cases hr
 right
 refine mem_scanF.2 ⟨i,p,q,by rw [←h.nb];exact hi,by rw [←h.np];exact hp,?_,rfl⟩;unfold pgs at hr ⊢;rw [←e];exact hr
theorem LayI.there {m0:M} {K:Nat→Bool} {bn kn:Nat} {t:List UInt8} {m:M} {S:Nat→Bool} {ps:List (Nat × Nat)} {left:List (List UInt8)} (h:LayI m0 K (splitR bn kn t) m S ps left) (hb:bn<256) (hn:kn<4294967296) (ho:pagesN t.length<65536) {k i q:Nat} (hk:ps[k]? = some (i,q)) :
 fpR bn kn t k i∈scanF (pgs m) m.np m.nb:=by
 obtain ⟨a1,a2,a3,a4,a5⟩:=h.posn k i q hk;have hkl:k<pagesN t.length:=by
  have:=(List.getElem?_eq_some_iff.1 a4).1
  rwa [Go.Nt.splitR_length] at this
 have e:m.pg i q=pageB (pgOf bn kn t k):=by
  unfold splitR at a4;rw [List.getElem?_map,List.getElem?_range hkl] at a4;simpa using a4.symm
 have hok:=qe9 (t:=t) hb hn hkl ho;have h6:readP (pgs m i q)=some { pgOf bn kn t k with text:=(pgOf bn kn t k).text++List.replicate (51 - (pgOf bn kn t k).text.length) 0 }:=by
  unfold pgs;rw [e,qeP (Go.Nt.pageB_length _ hok.t)];exact qbp hok
 exact mem_scanF.2 ⟨i,q,_,a1,a2,h6,rfl⟩
structure New (m:M):Prop where
 wf:WF m
 life:m.life = -1
 fail:m.fail<0
 pg:∀ i p,m.pg i p=[]
 nx:∀ i,m.nx i=0
theorem New.era {m:M} (h:New m) (b:Nat) (hb:b<m.nb):eraA m (b:Nat)=(!m.bd b,m):=by
 cases hbd:m.bd b with
 | true=>exact qg3 hbd
 | false =>
   have ht:tick m=m:=by
    unfold tick callF;have h1:=h.life;have h2:=h.fail;cases m
    simp only at h1 h2;subst h1;simp [h2]
   have hn:=qeJ h.fail hb hbd;rcases qa1 m b with ⟨h1,_,_,_,e⟩ | ⟨h1,_⟩
   ·refine Prod.ext (by rw [h1];rfl) ?_;rw [e,ht];have h3:=h.pg;have h4:=h.nx;cases m
    simp only at h3 h4;simp only [setN,setE]
    congr 1
    ·funext a c
     split
     ·rw [h3]
     rfl
    funext a
    split
    ·rw [h4]
    rfl
   rcases hn.2.2 with h2 | h2
   ·rw [h1] at h2;cases h2
   have:=qfv h.life b
   rw [h2] at this;cases this
theorem New.eraAll {m:M} (h:New m):∀ k,k≤m.nb→S1.eraAll m k=(m,fun j=>decide (j<k) && !m.bd j)
 | 0,_=>by
   rw [S1.eraAll];refine Prod.ext rfl ?_
   funext j
   simp
 | k+1,hk=>by
   have ih:=New.eraAll h k (by omega);rw [S1.eraAll,ih];simp only [];rw [h.era k (by omega)];refine Prod.ext rfl ?_
   funext j
   simp only [];cases hb:m.bd k with
   | true =>
     simp only [Bool.not_true,Bool.false_eq_true,if_false];by_cases e:j=k
     ·subst e;simp [hb]
     have:decide (j<k+1)=decide (j<k):=by simp;omega
     rw [this]
   | false =>
     simp only [Bool.not_false,if_true];by_cases e:j=k
     ·subst e;simp [hb]
     have h1:decide (j<k+1)=decide (j<k):=by simp;omega
     have h2:(j==k)=false:=by simp [e]
     rw [h1,h2,Bool.false_or]
theorem New.scan {m:M} (h:New m) (np:Nat):∀ k,scanF (pgs m) np k=[]:=by
 intro k;cases hs:scanF (pgs m) np k with
 | nil=>rfl
 | cons f fs =>
   obtain ⟨i,p,q,_,_,hr,_⟩:=mem_scanF.1 (show f∈scanF (pgs m) np k by rw [hs];simp);unfold pgs at hr;rw [h.pg,qdi (by decide)] at hr;cases hr
end Go.Proofs.YtodmdkhdbfbfgabGreatDoor.S1
namespace Go.Proofs.YtodmdkhdbfbfgabGreatDoor.S1
open Go.RowKit Pk
theorem Tryz.info4:(Tryz.prog.info? 4).map (fun i=>(i.zero,i.size,i.bytes))=some (some (.bool false),1,1):=by kernel_rfl
end Go.Proofs.YtodmdkhdbfbfgabGreatDoor.S1
