/- Lemmas. -/
import Derived.LoopN
import Derived.Test.YtodmdkhdbfbfgabGreatDoorM12
import Derived.Test.YtodmdkhdbfbfgabGreatDoorM05
set_option linter.unusedVariables false
set_option linter.unusedSimpArgs false
set_option maxRecDepth 100000
set_option maxHeartbeats 8000000
namespace Go.Proofs.YtodmdkhdbfbfgabGreatDoor.S1
open Go.RowKit Pk
open Go.Nt (Fp lookF FpOk qaw recF partF ofF txtF inF endF qdX qbY qhY qfF)
theorem FAt.keptB {w w':World} {g n b:Nat} {P:Nat→Nat→Nat→Option Fp} (h:FAt w g n P) (hk:BdKept b w w') (hne:g≠b):FAt w' g n P:=by
 obtain ⟨D,⟨es,clock,h1,h2⟩,hh⟩:=h;exact ⟨D,⟨es,clock,hk.2.2.2.2 g _ h1 hne rfl,h2⟩,hh⟩
theorem BlAt.keptB {w w':World} {g n b:Nat} {S:Nat→Bool} (h:BlAt w g n S) (hk:BdKept b w w') (hne:g≠b):BlAt w' g n S:=by
 obtain ⟨D,⟨es,clock,h1,h2⟩,hh⟩:=h;exact ⟨D,⟨es,clock,hk.2.2.2.2 g _ h1 hne rfl,h2⟩,hh⟩
theorem fld1 (W:World) (a b c d e f:Value):(Instr.field 146 (.agg #[a,b,c,d,e,f]) 0).run Tryz.prog W=.ok (.agg #[a,b,c,d,e]) W:=by
 simp [Instr.field,run_underlying Tryz.underlying146,asAgg,go_sem]
theorem fld2 (W:World) (a b c d e:Value):(Instr.field 141 (.agg #[a,b,c,d,e]) 2).run Tryz.prog W=.ok d W:=by
 simp [Instr.field,run_underlying Tryz.underlying141,asAgg,go_sem]
def RcAt (w:World) (rb ib:Nat) (X:ByteArray) (b r e:Nat):Prop:=w.heap[rb]? = some (.cells #[.string X,.int .i64 (b:Nat),.int .u32 (r:Nat),.map (some ib),.int .i64 (e:Nat)] 78 (0,0))
def RecP (l:List Fp) (b r:Nat) (w:World) (e:Ending) (w':World):Prop:=
 Below w.heap.size w w' ∧
 ((∃ ps ib n,recF l b r=some ps∧e=.returned (.tuple #[.agg #[.string (txt (txtF ps)),.int .i64 (b:Nat),.int .u32 (r:Nat),.map (some ib),.int .i64 (endF ps:Nat)],.bool true])∧w.heap.size≤ib∧n≤100000∧BlAt w' ib n (inF ps)) ∨
  (recF l b r=none∧∃ X y z q k,e=.returned (.tuple #[.agg #[.string X,.int .i64 y,.int .u32 z,.map q,.int .i64 k],.bool false])))
theorem qiL (w:World) (g n:Nat) (l:List Fp) (b r:Nat) (hF:FAt w g n (lookF l)) (hok:∀ f∈l,FpOk f∧f.blk<1000) (hb:b≤1000000) (hr:r≤4294967295) :
 Calls Tryz.prog 60 #[.map (some g),lv b r] w fun e w'=>RecP l b r w e w':=by
 have hgl:=hF.lt;obtain ⟨z0,hz0⟩:∃ z0,z0=w.heap.size:=⟨_,rfl⟩
 -- the blocks that are laid ahead of the loop
 obtain ⟨W1,hW1⟩:∃ W1,W1=w.alloc (.cells #[.int .i64 (b:Nat),.int .u32 (r:Nat)] 74):=⟨_,rfl⟩;obtain ⟨W2,hW2⟩:∃ W2,W2=W1.alloc (.cells #[.string ⟨#[]⟩,.int .i64 0,.int .u32 0,.map none,.int .i64 0] 78):=⟨_,rfl⟩;obtain ⟨W3,hW3⟩:∃ W3,W3=W2.alloc (.map #[] 0):=⟨_,rfl⟩;obtain ⟨W4,hW4⟩:∃ W4,W4=W3.alloc (.cells #[.string ⟨#[]⟩,.int .i64 (b:Nat),.int .u32 (r:Nat),.map (some (z0+2)),.int .i64 0] 78):=⟨_,rfl⟩;obtain ⟨W5,hW5⟩:∃ W5,W5=W4.alloc (.cells #[.pointer none,.slice none 0 0] 152):=⟨_,rfl⟩;have s1:W1.heap.size=z0+1:=by rw [hW1,hz0];simp
 have s2:W2.heap.size=z0+2:=by rw [hW2];simp [s1]
 have s3:W3.heap.size=z0+3:=by rw [hW3];simp [s2]
 have s4:W4.heap.size=z0+4:=by rw [hW4];simp [s3]
 have s5:W5.heap.size=z0+5:=by rw [hW5];simp [s4]
 have b1:Below w.heap.size w W1:=by rw [hW1];exact (Below.refl _ w).alloc (Nat.le_refl _) _
 have b5:Below w.heap.size w W5:=by rw [hW5,hW4,hW3,hW2];exact (((b1.alloc (by omega) _).alloc (by simp<;>omega) _).alloc (by simp<;>omega) _).alloc (by simp<;>omega) _
 have e1:W1.heap[z0]? = some (.cells #[.int .i64 (b:Nat),.int .u32 (r:Nat)] 74 (0,0)):=by rw [hW1,hz0];exact heap_alloc_new _ _
 have up2:∀ k,k<z0+1→W2.heap[k]? = W1.heap[k]? := fun k hk=>by rw [hW2];exact Below.heap_alloc W1 _ k (by omega)
 have up3:∀ k,k<z0+2→W3.heap[k]? = W2.heap[k]? := fun k hk=>by rw [hW3];exact Below.heap_alloc W2 _ k (by omega)
 have up4:∀ k,k<z0+3→W4.heap[k]? = W3.heap[k]? := fun k hk=>by rw [hW4];exact Below.heap_alloc W3 _ k (by omega)
 have up5:∀ k,k<z0+4→W5.heap[k]? = W4.heap[k]? := fun k hk=>by rw [hW5];exact Below.heap_alloc W4 _ k (by omega)
 have f1:W5.heap[z0]? = some (.cells #[.int .i64 (b:Nat),.int .u32 (r:Nat)] 74 (0,0)):=by rw [up5 z0 (by omega),up4 z0 (by omega),up3 z0 (by omega),up2 z0 (by omega)];exact e1
 have f2:W5.heap[z0+1]? = some (.cells #[.string ⟨#[]⟩,.int .i64 0,.int .u32 0,.map none,.int .i64 0] 78 (0,0)):=by rw [up5 _ (by omega),up4 _ (by omega),up3 _ (by omega),hW2,←s1];exact heap_alloc_new _ _
 have f3:BlAt W5 (z0+2) 0 (fun _=>false):=by
  have h3:=qg0 W2;rw [←hW3,s2] at h3;exact (h3.of_block (up4 _ (by omega))).of_block (up5 _ (by omega))
 have f4:RcAt W5 (z0+3) (z0+2) ⟨#[]⟩ b r 0:=by
  unfold RcAt;rw [up5 _ (by omega),hW4,←s3];exact heap_alloc_new _ _
 have f5:BdAt W5 (z0+4) []:=⟨.pointer none,.slice none 0 0,by rw [hW5,←s4];exact heap_alloc_new _ _,.inl rfl,World.ownsRow_nil _ _ _ _⟩;have f6:FAt W5 g n (lookF l):=hF.of_block (b5.block g hgl);have g10:W2.cell? ⟨z0,0,none⟩=some (.int .i64 (b:Nat)):=by rw [World.cell?_of_block (up2 z0 (by omega)),cell_of_row W1 z0 0 _ 74 (0,0) e1];rfl
 have g11:W2.cell? ⟨z0,1,none⟩=some (.int .u32 (r:Nat)):=by rw [World.cell?_of_block (up2 z0 (by omega)),cell_of_row W1 z0 1 _ 74 (0,0) e1];rfl
 have g50:W5.cell? ⟨z0,0,none⟩=some (.int .i64 (b:Nat)):=by rw [cell_of_row W5 z0 0 _ 74 (0,0) f1];rfl
 have g51:W5.cell? ⟨z0,1,none⟩=some (.int .u32 (r:Nat)):=by rw [cell_of_row W5 z0 1 _ 74 (0,0) f1];rfl
 have hmk:=make92 W2;rw [←hW3,s2] at hmk;have hlk0:=(f6.look (a:=0) hb hr (by omega)).2;unfold pv fv at hlk0;rw [show ((0:Nat):Int)=0 from rfl] at hlk0;obtain ⟨o,ho⟩:∃ o,o=ofF l b r:=⟨_,rfl⟩;have hoe:((lookF l b r 0).getD fp0).of_=o:=by rw [ho];unfold ofF;cases lookF l b r 0<;>rfl
 have ho9:o<65536:=by
  rw [ho];unfold ofF;cases hx:lookF l b r 0 with
  | none=>show 0<65536;decide
  | some f=>exact (hok f (qaw hx).1).1.o
 obtain ⟨q0,hq0⟩:∃ q0,q0=(lookF l b r 0).getD fp0:=⟨_,rfl⟩;rw [←hq0] at hlk0 hoe;rw [hoe] at hlk0;have Ho:=hidI ho;have HW1:=hidI hW1;have HW2:=hidI hW2;have HW3:=hidI hW3;have HW4:=hidI hW4;have HW5:=hidI hW5;have Hs1:=hidI s1;have Hs2:=hidI s2;have Hs3:=hidI s3;have Hs4:=hidI s4;have Hz0:=hidI hz0;have F1:=hidI f1;have F2:=hidI f2;have F3:=hidI f3;have F4:=hidI f4;have F5:=hidI f5;have F6:=hidI f6;rw [hz0.symm] at b5;have B5:=hidI b5;have Hok:=hidI hok;unfold RecP;rw [←hz0];rw [←hz0] at hgl;clear hF hz0 hW1 hW2 hW3 hW4 hW5 s1 s2 s3 s4 s5 b1 b5 e1 up2 up3 up4 up5 f1 f2 f3 f4 f5 f6 ho hq0 hok hoe;unfold lv;have hfl1:=fld1 W5 (.int .i64 (q0.bad:Nat)) (.int .u32 (q0.num:Nat)) (.int .i64 (q0.at_:Nat)) (.int .i64 (o:Nat)) (.string (txt q0.text)) (.int .i64 (q0.blk:Nat))
 have hfl2:=fld2 W5 (.int .i64 (q0.bad:Nat)) (.int .u32 (q0.num:Nat)) (.int .i64 (q0.at_:Nat)) (.int .i64 (o:Nat)) (.string (txt q0.text));go_enter Tryz.func60,Tryz.ntmps60
 go_wp2_with (first | (rw [←HW1.out,←Hz0.out]) | (rw [←HW2.out,Hs1.out]) | (rw [←HW4.out,Hs3.out]) | (rw [←HW5.out,Hs4.out]) | fail);clear g10 g11 g50 g51 hmk hlk0 hfl1 hfl2
 go_loopw [22] (fun i wr=>∃ (k n':Nat) (ps:List Fp),k≤o∧i=.int .i64 k∧n'≤k∧Hid (partF l b r o k=some ps)∧Hid (wr.heap[z0]? = some (.cells #[.int .i64 (b:Nat),.int .u32 (r:Nat)] 74 (0,0)))∧Hid (wr.heap[z0+1]? = some (.cells #[.string ⟨#[]⟩,.int .i64 0,.int .u32 0,.map none,.int .i64 0] 78 (0,0)))∧Hid (BlAt wr (z0+2) n' (inF ps))∧Hid (RcAt wr (z0+3) (z0+2) ⟨#[]⟩ b r (endF ps))∧Hid (BdAt wr (z0+4) (txtF ps))∧Hid (FAt wr g n (lookF l))∧Hid (Below z0 w wr)∧Hid ((txtF ps).length=k*51)) (fun i _=>o - (intOf i).toNat)
 case atStart=>exact ⟨0,0,[],Nat.zero_le _,rfl,Nat.le_refl _,hidI rfl,F1,F2,F3,F4,F5,F6,B5,hidI rfl⟩
 case round =>
  clear F1 F2 F3 F4 F5 F6 B5;obtain ⟨k,n',ps,hk,rfl,hn',HP,F1,F2,F3,F4,F5,F6,HB,HTl⟩:=hrel;have hz4:z0+4<wr.heap.size:=by obtain ⟨_,_,hb9,_⟩:=F5.out;exact qaa hb9
  by_cases hlt:k<o
  ·have c0:wr.cell? ⟨z0,0,none⟩=some (.int .i64 (b:Nat)):=by rw [cell_of_row wr z0 0 _ 74 (0,0) F1.out];rfl
   have c1:wr.cell? ⟨z0,1,none⟩=some (.int .u32 (r:Nat)):=by rw [cell_of_row wr z0 1 _ 74 (0,0) F1.out];rfl
   have hlk:=(F6.out.look (a:=k) hb hr (by omega)).1;unfold pv fv at hlk;obtain ⟨q,hq⟩:∃ q,q=(lookF l b r k).getD fp0:=⟨_,rfl⟩;obtain ⟨zz,hzz⟩:∃ zz,zz=(lookF l b r k).isSome:=⟨_,rfl⟩;rw [←hq,←hzz] at hlk;obtain ⟨V1,hV1⟩:∃ V1,V1=wr.alloc (.cells #[.int .i64 (q.bad:Nat),.int .u32 (q.num:Nat),.int .i64 (q.at_:Nat),.int .i64 (q.of_:Nat),.string (txt q.text),.int .i64 (q.blk:Nat)] 146):=⟨_,rfl⟩;obtain ⟨pb,hpb⟩:∃ pb,pb=wr.heap.size:=⟨_,rfl⟩;have hp1:V1.heap[pb]? = some (.cells #[.int .i64 (q.bad:Nat),.int .u32 (q.num:Nat),.int .i64 (q.at_:Nat),.int .i64 (q.of_:Nat),.string (txt q.text),.int .i64 (q.blk:Nat)] 146 (0,0)):=by rw [hV1,hpb];exact heap_alloc_new _ _
   have hbv:Below wr.heap.size wr V1:=by rw [hV1];exact (Below.refl _ wr).alloc (Nat.le_refl _) _
   have hbk:∀ j,j<wr.heap.size→V1.heap[j]? = wr.heap[j]? := fun j hj=>hbv.block j hj
   have p3:V1.cell? ⟨pb,3,none⟩=some (.int .i64 (q.of_:Nat)):=by rw [cell_of_row V1 pb 3 _ 146 (0,0) hp1];rfl
   have p4:V1.cell? ⟨pb,4,none⟩=some (.string (txt q.text)):=by rw [cell_of_row V1 pb 4 _ 146 (0,0) hp1];rfl
   have G1:=hidI ((hbk z0 (by omega)).trans F1.out);have G2:=hidI ((hbk (z0+1) (by omega)).trans F2.out);have G3:=hidI (F3.out.of_block (hbk (z0+2) (by omega)));have G4:Hid (RcAt V1 (z0+3) (z0+2) ⟨#[]⟩ b r (endF ps)):=hidI ((hbk (z0+3) (by omega)).trans F4.out);have G5:=hidI (F5.out.of_blocks (w':=V1) (.inr hbk));have G6:=hidI (F6.out.of_block (hbk g (by have:=F6.out.lt;exact this)));have G7:Hid (Below z0 w V1):=hidI (HB.out.trans (hbv.mono (by omega)));have Hq:=hidI hq;have Hzz:=hidI hzz;have HV1:=hidI hV1;have Hpb:=hidI hpb;have Hp1:=hidI hp1;have hpz:z0+4<pb:=by omega
   clear hq hzz hV1 hpb hp1 hbv hbk F1 F2 F3 F4 F5 F6 HB;by_cases hgood:zz=true∧q.of_=o
   ·obtain ⟨hzt,hqo⟩:=hgood;subst hzt;obtain ⟨f,hf⟩:∃ f,lookF l b r k=some f:=Option.isSome_iff_exists.1 Hzz.out.symm;have hqf:q=f:=by rw [Hq.out,hf];rfl
    subst hqf;have hfok:=Hok.out q (qaw hf).1;have hql:=hfok.1.t;have hblk:=hfok.2;have Hst:Hid (partF l b r o (k+1)=some (ps++[q])):=hidI (by rw [partF,HP.out,hf];simp [hqo]);have A:=hidI (qdr (z0+4) (txtF ps) q.text V1 G5.out (by rw [HTl.out];omega) (by omega));rw [show Go.Proofs.YtodmdkhdbfbfgabGreatDoor.txt q.text=txt q.text from rfl] at A;rw [hqo] at HV1 Hp1 p3 hlk;have Hqo:=hidI hqo;clear hf hqo;go_wp2_with (first | (rw [←HV1.out,←Hpb.out]) | fail);refine A.out.mono ?_;rintro e V2 ⟨⟨rv,rfl⟩,hD2,hK2,hB2⟩;have K2:=hK2.2.2.2.2;have I1:=hidI (K2 z0 _ G1.out (by omega) rfl);have I2:=hidI (K2 (z0+1) _ G2.out (by omega) rfl);have I3:=hidI (G3.out.keptB hK2 (by omega));have I4:Hid (RcAt V2 (z0+3) (z0+2) ⟨#[]⟩ b r (endF ps)):=hidI (K2 (z0+3) _ G4.out (by omega) rfl);have I6:=hidI (G6.out.keptB hK2 (by omega));have Ip:=hidI (K2 pb _ Hp1.out (by omega) rfl)
    have I7:Hid (Below z0 w V2):=hidI (G7.out.trans (hB2.mono (by omega)));have I5:=hidI hD2;have r3:V2.cell? ⟨z0+3,3,none⟩=some (.map (some (z0+2))):=by rw [cell_of_row V2 (z0+3) 3 _ 78 (0,0) I4.out];rfl
    have p5:V2.cell? ⟨pb,5,none⟩=some (.int .i64 (q.blk:Nat)):=by rw [cell_of_row V2 pb 5 _ 146 (0,0) Ip.out];rfl
    have A2:=hidI (qeE (z0+2) n' q.blk (inF ps) V2 I3.out (by omega) (by omega));clear A hD2 hK2 hB2 K2 G1 G2 G3 G4 G5 G6 G7 p3 p4 c0 c1 hlk Hp1;go_wp2_with fail;refine A2.out.mono ?_;rintro e V3 ⟨rfl,hS3,hm3⟩;have ek:∀ j,j<V2.heap.size→j≠z0+2→V3.heap[j]? = V2.heap[j]? := fun j hj hne=>hm3.grown.block j hj (fun e=>by cases e;exact hne rfl)
    have hpl:=qaa Ip.out;have J1:=hidI ((ek z0 (qaa I1.out) (by omega)).trans I1.out);have J2:=hidI ((ek (z0+1) (qaa I2.out) (by omega)).trans I2.out);have J4:Hid (RcAt V3 (z0+3) (z0+2) ⟨#[]⟩ b r (endF ps)):=hidI ((ek (z0+3) (qaa I4.out) (by omega)).trans I4.out);have J6:=hidI (I6.out.of_block (ek g I6.out.lt (by omega)));have Jp:=hidI ((ek pb hpl (by omega)).trans Ip.out);have J5:Hid (BdAt V3 (z0+4) (txtF ps++q.text)):=hidI (by
     obtain ⟨p9,v9,h91,h92,h93⟩:=I5.out;refine ⟨p9,v9,(ek (z0+4) (qaa h91) (by omega)).trans h91,h92,h93.1,?_⟩;rcases h93.2 with h94 | ⟨g9,cap,cur,e9,hg9,h95,h96⟩
     ·exact .inl h94
     ·exact .inr ⟨g9,cap,cur,e9,hg9,(ek g9 (qaa h95) (by omega)).trans h95,h96⟩)
    have J3:Hid (BlAt V3 (z0+2) (n'+1) (inF (ps++[q]))):=hidI (hS3.congr fun i=>(qhY ps q i).symm);have J7:Hid (Below z0 w V3):=hidI (I7.out.trans ⟨hm3.grown.os,hm3.grown.tape,hm3.grown.output,hm3.grown.size,fun j hj=>ek j (by omega) (by omega)⟩);have p5':V3.cell? ⟨pb,5,none⟩=some (.int .i64 (q.blk:Nat)):=by rw [cell_of_row V3 pb 5 _ 146 (0,0) Jp.out];rfl
    have r4:V3.cell? ⟨z0+3,4,none⟩=some (.int .i64 (endF ps:Nat)):=by rw [cell_of_row V3 (z0+3) 4 _ 78 (0,0) J4.out];rfl
    have fz4:=frozen_of_row V3 (z0+3) 4 _ 78 J4.out;obtain ⟨V4,hV4⟩:∃ V4,V4=V3.setCell ⟨z0+3,4,none⟩ (.int .i64 (q.blk:Nat)):=⟨_,rfl⟩;have eo:∀ j,j≠z0+3→V4.heap[j]? = V3.heap[j]? := fun j hj=>by rw [hV4];exact Below.heap_setCell V3 ⟨z0+3,4,none⟩ _ j hj
    have L1:=hidI ((eo z0 (by omega)).trans J1.out);have L2:=hidI ((eo (z0+1) (by omega)).trans J2.out);have L3:=hidI (J3.out.of_block (eo (z0+2) (by omega)));have L4:Hid (RcAt V4 (z0+3) (z0+2) ⟨#[]⟩ b r (endF (ps++[q]))):=hidI (by rw [qfF,hV4];exact heap_setCell_same V3 (z0+3) 4 _ 78 _ J4.out);have L5:Hid (BdAt V4 (z0+4) (txtF (ps++[q]))):=hidI (by
     rw [qbY];obtain ⟨p9,v9,h91,h92,h93⟩:=J5.out;refine ⟨p9,v9,(eo (z0+4) (by omega)).trans h91,h92,h93.1,?_⟩;rcases h93.2 with h94 | ⟨g9,cap,cur,e9,hg9,h95,h96⟩
     ·exact .inl h94
     ·exact .inr ⟨g9,cap,cur,e9,hg9,(eo g9 (by omega)).trans h95,h96⟩)
    have L6:=hidI (J6.out.of_block (eo g (by omega)));have L7:Hid (Below z0 w V4):=hidI (by rw [hV4];exact J7.out.setCell (by simp<;>omega) _);have HT4:Hid ((txtF (ps++[q])).length=(k+1)*51):=hidI (by rw [qbY,List.length_append,HTl.out,hql];omega);have HV4:=hidI hV4;clear A2 hS3 hm3 ek I1 I2 I3 I4 I5 I6 I7 Ip J1 J2 J3 J4 J5 J6 J7 Jp eo hV4 r3 p5;go_wp2_with (first | (rw [←HV4.out]) | fail);go_roundw
    case rel=>exact ⟨k+1,n'+1,ps++[q],by omega,by go_num,by omega,Hst,L1,L2,L3,L4,L5,L6,L7,HT4⟩
    case measure=>simp [intOf];omega
   ·have HR:Hid (recF l b r=none):=hidI (by
     have h1:partF l b r o (k+1)=none:=by
      rw [partF,HP.out];cases hf:lookF l b r k with
      | none=>rfl
      | some f =>
        have hqf:q=f:=by rw [Hq.out,hf];rfl
        have hz1:zz=true:=by rw [Hzz.out,hf];rfl
        have:f.of_≠o:=fun e=>hgood ⟨hz1,by rw [hqf];exact e⟩
        simp [this]
     unfold recF;rw [←Ho.out]
     split
     ·rfl
     ·exact qdX (by omega) h1)
    have q20:V1.cell? ⟨z0+1,0,none⟩=some (.string ⟨#[]⟩):=by rw [cell_of_row V1 (z0+1) 0 _ 78 (0,0) G2.out];rfl
    have q21:V1.cell? ⟨z0+1,1,none⟩=some (.int .i64 0):=by rw [cell_of_row V1 (z0+1) 1 _ 78 (0,0) G2.out];rfl
    have q22:V1.cell? ⟨z0+1,2,none⟩=some (.int .u32 0):=by rw [cell_of_row V1 (z0+1) 2 _ 78 (0,0) G2.out];rfl
    have q23:V1.cell? ⟨z0+1,3,none⟩=some (.map none):=by rw [cell_of_row V1 (z0+1) 3 _ 78 (0,0) G2.out];rfl
    have q24:V1.cell? ⟨z0+1,4,none⟩=some (.int .i64 0):=by rw [cell_of_row V1 (z0+1) 4 _ 78 (0,0) G2.out];rfl
    have y0:=frozen_of_row V1 (z0+1) 0 _ 78 G2.out;have y1:=frozen_of_row V1 (z0+1) 1 _ 78 G2.out;have y2:=frozen_of_row V1 (z0+1) 2 _ 78 G2.out;have y3:=frozen_of_row V1 (z0+1) 3 _ 78 G2.out;have y4:=frozen_of_row V1 (z0+1) 4 _ 78 G2.out;have hfin:∀ (e:Ending) (V:World),Below z0 w V→e=.returned (.tuple #[.agg #[.string ⟨#[]⟩,.int .i64 0,.int .u32 0,.map none,.int .i64 0],.bool false])→(Below z0 w V∧((∃ ps ib n,recF l b r=some ps∧e=.returned (.tuple #[.agg #[.string (txt (txtF ps)),.int .i64 (b:Nat),.int .u32 (r:Nat),.map (some ib),.int .i64 (endF ps:Nat)],.bool true])∧z0≤ib∧n≤100000∧BlAt V ib n (inF ps))∨(recF l b r=none∧∃ X y z q k,e=.returned (.tuple #[.agg #[.string X,.int .i64 y,.int .u32 z,.map q,.int .i64 k],.bool false])))):=fun e V h1 h2=>⟨h1,.inr ⟨HR.out,_,_,_,_,_,h2⟩⟩
    have Hfin:=hidI hfin;clear hfin;cases zz with
    | false =>
      clear hgood;go_wp2_with (first | (rw [←HV1.out,←Hpb.out]) | fail);refine bodyPost_ret (v:=.tuple #[.agg #[.string ⟨#[]⟩,.int .i64 0,.int .u32 0,.map none,.int .i64 0],.bool false]) ?_ rfl (Hfin.out _ _ ?_ rfl)
      ·simp [results,go_sem,q20,q21,q22,q23,q24]
      ·exact ((((G7.out.setCell (by simp<;>omega) _).setCell (by simp<;>omega) _).setCell (by simp<;>omega) _).setCell (by simp<;>omega) _).setCell (by simp<;>omega) _
    | true =>
      have hqn:¬q.of_=o:=fun e=>hgood ⟨rfl,e⟩
      have hqi:¬(q.of_:Int)=(o:Int):=by omega
      clear hgood;go_wp2_with (first | (rw [←HV1.out,←Hpb.out]) | fail);refine bodyPost_ret (v:=.tuple #[.agg #[.string ⟨#[]⟩,.int .i64 0,.int .u32 0,.map none,.int .i64 0],.bool false]) ?_ rfl (Hfin.out _ _ ?_ rfl)
      ·simp [results,go_sem,q20,q21,q22,q23,q24]
      ·exact ((((G7.out.setCell (by simp<;>omega) _).setCell (by simp<;>omega) _).setCell (by simp<;>omega) _).setCell (by simp<;>omega) _).setCell (by simp<;>omega) _
  ·have hko:k=o:=by omega
   subst hko;have A:=hidI (Tryz.Builder_String_any_k (z0+4) (z0+4) (txtF ps) wr F5.out.lib (by omega));rw [show (⟨(txtF ps).toArray⟩:ByteArray)=txt (txtF ps) from rfl] at A;obtain ⟨X,hX⟩:∃ X,X=txt (txtF ps):=⟨_,rfl⟩;rw [←hX] at A;have HX:=hidI hX;clear hX;go_wp2_with fail;refine A.out.mono ?_;rintro e V2 ⟨rfl,_,hB2,_⟩;have I2:=(hB2.block (z0+1) (by omega)).trans F2.out;have I3:=F3.out.of_block (hB2.block (z0+2) (by omega));have I4:RcAt V2 (z0+3) (z0+2) ⟨#[]⟩ b r (endF ps):=(hB2.block (z0+3) (by omega)).trans F4.out;have I7:Below z0 w V2:=HB.out.trans (hB2.mono (by omega));have r0:V2.cell? ⟨z0+3,0,none⟩=some (.string ⟨#[]⟩):=by rw [cell_of_row V2 (z0+3) 0 _ 78 (0,0) I4];rfl
   have fz0:=frozen_of_row V2 (z0+3) 0 _ 78 I4;obtain ⟨V3,hV3⟩:∃ V3,V3=V2.setCell ⟨z0+3,0,none⟩ (.string X):=⟨_,rfl⟩;have eo:∀ j,j≠z0+3→V3.heap[j]? = V2.heap[j]? := fun j hj=>by rw [hV3];exact Below.heap_setCell V2 ⟨z0+3,0,none⟩ _ j hj
   have J4:RcAt V3 (z0+3) (z0+2) X b r (endF ps):=by rw [hV3];exact heap_setCell_same V2 (z0+3) 0 _ 78 _ I4
   have J2:=(eo (z0+1) (by omega)).trans I2;have J3:=I3.of_block (eo (z0+2) (by omega));have J7:Below z0 w V3:=by rw [hV3];exact I7.setCell (by simp<;>omega) _
   obtain ⟨ee,hee⟩:∃ ee,ee=endF ps:=⟨_,rfl⟩;rw [←hee] at J4;have Hee:=hidI hee;have t0:V3.cell? ⟨z0+3,0,none⟩=some (.string X):=by rw [cell_of_row V3 (z0+3) 0 _ 78 (0,0) J4];rfl
   have t1:V3.cell? ⟨z0+3,1,none⟩=some (.int .i64 (b:Nat)):=by rw [cell_of_row V3 (z0+3) 1 _ 78 (0,0) J4];rfl
   have t2:V3.cell? ⟨z0+3,2,none⟩=some (.int .u32 (r:Nat)):=by rw [cell_of_row V3 (z0+3) 2 _ 78 (0,0) J4];rfl
   have t3:V3.cell? ⟨z0+3,3,none⟩=some (.map (some (z0+2))):=by rw [cell_of_row V3 (z0+3) 3 _ 78 (0,0) J4];rfl
   have t4:V3.cell? ⟨z0+3,4,none⟩=some (.int .i64 (ee:Nat)):=by rw [cell_of_row V3 (z0+3) 4 _ 78 (0,0) J4];rfl
   have q20:V3.cell? ⟨z0+1,0,none⟩=some (.string ⟨#[]⟩):=by rw [cell_of_row V3 (z0+1) 0 _ 78 (0,0) J2];rfl
   have q21:V3.cell? ⟨z0+1,1,none⟩=some (.int .i64 0):=by rw [cell_of_row V3 (z0+1) 1 _ 78 (0,0) J2];rfl
   have q22:V3.cell? ⟨z0+1,2,none⟩=some (.int .u32 0):=by rw [cell_of_row V3 (z0+1) 2 _ 78 (0,0) J2];rfl
   have q23:V3.cell? ⟨z0+1,3,none⟩=some (.map none):=by rw [cell_of_row V3 (z0+1) 3 _ 78 (0,0) J2];rfl
   have q24:V3.cell? ⟨z0+1,4,none⟩=some (.int .i64 0):=by rw [cell_of_row V3 (z0+1) 4 _ 78 (0,0) J2];rfl
   have y0:=frozen_of_row V3 (z0+1) 0 _ 78 J2;have y1:=frozen_of_row V3 (z0+1) 1 _ 78 J2;have y2:=frozen_of_row V3 (z0+1) 2 _ 78 J2;have y3:=frozen_of_row V3 (z0+1) 3 _ 78 J2;have y4:=frozen_of_row V3 (z0+1) 4 _ 78 J2;have HJ3:=hidI J3;have HJ7:=hidI J7;have HV3:=hidI hV3;have hps:k=0∨recF l b r=some ps:=by
    rcases Nat.eq_zero_or_pos k with h0 | h0
    ·exact .inl h0
    ·right
     unfold recF;rw [←Ho.out,if_neg (by omega)];exact HP.out
   have Hps:=hidI hps;have H0:Hid (k=0→recF l b r=none):=hidI (fun h0=>by unfold recF;rw [←Ho.out,if_pos h0]);clear A hB2 I2 I3 I4 I7 eo hV3 J2 J3 J4 J7 hee hps;by_cases hk0:k=0
   ·subst hk0;go_wp2_with (first | (rw [←HV3.out]) | fail);refine bodyPost_ret (v:=.tuple #[.agg #[.string X,.int .i64 (b:Nat),.int .u32 (r:Nat),.map (some (z0+2)),.int .i64 (ee:Nat)],.bool false]) ?_ rfl ⟨?_,.inr ⟨H0.out trivial,_,_,_,_,_,rfl⟩⟩
    ·simp [results,go_sem,q20,q21,q22,q23,q24]
    ·exact ((((HJ7.out.setCell (by simp<;>omega) _).setCell (by simp<;>omega) _).setCell (by simp<;>omega) _).setCell (by simp<;>omega) _).setCell (by simp<;>omega) _
   ·have hki:(0:Int)<(k:Int):=by omega
    go_wp2_with (first | (rw [←HV3.out]) | fail);refine bodyPost_ret (v:=.tuple #[.agg #[.string X,.int .i64 (b:Nat),.int .u32 (r:Nat),.map (some (z0+2)),.int .i64 (ee:Nat)],.bool true]) ?_ rfl ⟨?_,.inl ⟨ps,z0+2,n',Hps.out.resolve_left hk0,?_,by omega,by omega,?_⟩⟩
    ·simp [results,go_sem,q20,q21,q22,q23,q24];omega
    ·exact ((((HJ7.out.setCell (by simp<;>omega) _).setCell (by simp<;>omega) _).setCell (by simp<;>omega) _).setCell (by simp<;>omega) _).setCell (by simp<;>omega) _
    ·rw [←Hee.out,←HX.out]
    ·exact HJ3.out.of_block (by
      refine (Below.heap_setCell _ ⟨z0+1,4,none⟩ _ _ (by simp<;>omega)).trans ?_;refine (Below.heap_setCell _ ⟨z0+1,3,none⟩ _ _ (by simp<;>omega)).trans ?_;refine (Below.heap_setCell _ ⟨z0+1,2,none⟩ _ _ (by simp<;>omega)).trans ?_;refine (Below.heap_setCell _ ⟨z0+1,1,none⟩ _ _ (by simp<;>omega)).trans ?_;exact Below.heap_setCell _ ⟨z0+1,0,none⟩ _ _ (by simp<;>omega))
end Go.Proofs.YtodmdkhdbfbfgabGreatDoor.S1
namespace Go.Proofs.YtodmdkhdbfbfgabGreatDoor.S1
open Go.RowKit Pk Go.Shelf
open Go.Nt (Fp lookF hasL hasL_iff FpOk qaw scanF recF txtF inF endF)
attribute [local go_sem] Oper.semAt_some
def rv (ps:List Fp) (b r ib:Nat):Value:=.agg #[.string (txt (txtF ps)),.int .i64 (b:Nat),.int .u32 (r:Nat),.map (some ib),.int .i64 (endF ps:Nat)]
def rcs (ps:List Fp) (b r ib:Nat):List Value:=[.string (txt (txtF ps)),.int .i64 (b:Nat),.int .u32 (r:Nat),.map (some ib),.int .i64 (endF ps:Nat)]
theorem Tryz.info94:(Tryz.prog.info? 78).map (fun i=>(i.zero,i.size,i.bytes))=some (some (.agg #[.string ⟨#[]⟩,.int .i64 0,.int .u32 0,.map none,.int .i64 0]),5,48):=by kernel_rfl
theorem qao {F:Fence} {n:Nat} {P:Program} {ops:Array Oper} {o:Oper} {a:Act} {w:World} {K:Act→World→Prop} {Q:Exit→Act→World→Prop} {E:Prop} (hgd:o.guard=none) (s x:Operand) (t:TypeId)
 (ho:o.op=.call { callee:=.builtin .append,args:=#[s,x],argTypes:=#[t,t] }) (vs vx:Value) (hs:a.eval s=vs) (hx:a.eval x=vx)
 (v':Value) (w':World) (hr:(Builtin.append_ #[t,t] o.type #[vs,vx]).run P w=.ok v' w') (h:K (a.put o.dst v') w') :
 if Region.wanted o (yielded ops a.tmps)=true then Oper.wpIn F n P o a w K Q else E:=by
 have hw:Region.wanted o (yielded ops a.tmps)=true:=by simp [Region.wanted,hgd]
 rw [if_pos hw];unfold Oper.wpIn;refine ⟨by simp [Oper.about,ho,resolve,Target.leads,Sem.run_pure],?_⟩;rw [Oper.semAt_plain F _ _ (by rw [ho];intro c hc';cases hc')];simp [execOp,ho,resolve,invoke,builtin,hs,hx,hr,Result.andThen];exact h
end Go.Proofs.YtodmdkhdbfbfgabGreatDoor.S1
namespace Go.Proofs.YtodmdkhdbfbfgabGreatDoor.S1
open Go.RowKit Pk
theorem qig {P:Program} {c:Code} {Q:Exit→Act→World→Prop} {a:Act} {w:World} {F:Act} {W:World} (reg:c.wp P (NoPanic fun e a' w'=>e=.normal∧a'=F∧w'=W) a w) (cont:Q .normal F W):c.wp P Q a w:=by
 refine Code.wp_mono (fun e a' w' h => ?_) reg;cases e with
 | panic c=>exact (h:False).elim
 | normal =>
   obtain ⟨_,h2,h3⟩:Exit.normal=Exit.normal∧a'=F∧w'=W:=h;rw [h2,h3];exact cont
 | _ =>
   have h':=NoPanic.imp _ _ _ h;obtain ⟨h1,_,_⟩:=h';cases h1
structure Lv where
 nb:Nat
 nn:Nat
 tk:Option Nat
def LogAt (w:World) (lb cb:Nat) (lv:Lv) (kv qv:Option Nat) (b p:Nat):Prop:=w.heap[lb]? = some (.cells #[.pointer (some ⟨cb,0,none⟩),.int .i64 (lv.nb:Nat),.int .u32 (lv.nn:Nat),.map kv,.map lv.tk,.map qv,.int .i64 (b:Nat),.int .i64 (p:Nat)] 124 (0,0))
namespace LogAt
variable {w:World} {lb cb:Nat} {lv:Lv} {kv qv:Option Nat} {b p:Nat}
theorem lt (h:LogAt w lb cb lv kv qv b p):lb<w.heap.size:=qaa h
theorem of_block {w':World} (h:LogAt w lb cb lv kv qv b p) (e:w'.heap[lb]? = w.heap[lb]?):LogAt w' lb cb lv kv qv b p:=e.trans h
theorem c0 (h:LogAt w lb cb lv kv qv b p):w.cell? ⟨lb,0,none⟩=some (.pointer (some ⟨cb,0,none⟩)):=by rw [cell_of_row w lb 0 _ 124 (0,0) h];rfl
theorem n0 (h:LogAt w lb cb lv kv qv b p):w.cell? ⟨lb,1,none⟩=some (.int .i64 (lv.nb:Nat)):=by rw [cell_of_row w lb 1 _ 124 (0,0) h];rfl
theorem n1 (h:LogAt w lb cb lv kv qv b p):w.cell? ⟨lb,2,none⟩=some (.int .u32 (lv.nn:Nat)):=by rw [cell_of_row w lb 2 _ 124 (0,0) h];rfl
theorem c2 (h:LogAt w lb cb lv kv qv b p):w.cell? ⟨lb,3,none⟩=some (.map kv):=by rw [cell_of_row w lb 3 _ 124 (0,0) h];rfl
theorem t4 (h:LogAt w lb cb lv kv qv b p):w.cell? ⟨lb,4,none⟩=some (.map lv.tk):=by rw [cell_of_row w lb 4 _ 124 (0,0) h];rfl
theorem c3 (h:LogAt w lb cb lv kv qv b p):w.cell? ⟨lb,5,none⟩=some (.map qv):=by rw [cell_of_row w lb 5 _ 124 (0,0) h];rfl
theorem c4 (h:LogAt w lb cb lv kv qv b p):w.cell? ⟨lb,6,none⟩=some (.int .i64 (b:Nat)):=by rw [cell_of_row w lb 6 _ 124 (0,0) h];rfl
theorem c5 (h:LogAt w lb cb lv kv qv b p):w.cell? ⟨lb,7,none⟩=some (.int .i64 (p:Nat)):=by rw [cell_of_row w lb 7 _ 124 (0,0) h];rfl
theorem fz (h:LogAt w lb cb lv kv qv b p) (k:Nat):w.frozen? ⟨lb,k,none⟩=false:=frozen_of_row w lb k _ 124 h
theorem set2 (h:LogAt w lb cb lv kv qv b p) (x:Option Nat):LogAt (w.setCell ⟨lb,3,none⟩ (.map x)) lb cb lv x qv b p:=heap_setCell_same w lb 3 _ 124 (.map x) h
theorem setT (h:LogAt w lb cb lv kv qv b p) (x:Option Nat):LogAt (w.setCell ⟨lb,4,none⟩ (.map x)) lb cb ⟨lv.nb,lv.nn,x⟩ kv qv b p:=heap_setCell_same w lb 4 _ 124 (.map x) h
theorem set4 (h:LogAt w lb cb lv kv qv b p) (x:Nat):LogAt (w.setCell ⟨lb,6,none⟩ (.int .i64 (x:Nat))) lb cb lv kv qv x p:=heap_setCell_same w lb 6 _ 124 _ h
theorem set5 (h:LogAt w lb cb lv kv qv b p) (x:Nat):LogAt (w.setCell ⟨lb,7,none⟩ (.int .i64 (x:Nat))) lb cb lv kv qv b x:=heap_setCell_same w lb 7 _ 124 _ h
end LogAt
def Apart (v:Option Nat) (lo hi lb:Nat):Prop:=∀ g,v=some g→g≠lb∧¬(lo≤g∧g<hi)
theorem BlV.of_blocks {w w':World} {v:Option Nat} {n:Nat} {S:Nat→Bool} (h:BlV w v n S) (e:∀ g,v=some g→g<w.heap.size→w'.heap[g]? = w.heap[g]?):BlV w' v n S:=by
 rcases h with ⟨rfl,h⟩ | ⟨b,rfl,h⟩
 ·exact .inl ⟨rfl,h⟩
 ·exact .inr ⟨b,rfl,h.of_block (e b rfl h.lt)⟩
structure LogM (w:World) (lo hi cb lb:Nat) (L:Loc) (lv:Lv) (kv qv:Option Nat) (nk nq:Nat) (m:M) (K Q:Nat→Bool) (b p:Nat):Prop where
 log:LogAt w lb cb lv kv qv b p
 chip:CP w lo hi cb L m
 wf:WF m
 kept:BlV w kv nk K
 clean:BlV w qv nq Q
 ak:Apart kv lo hi lb
 aq:Apart qv lo hi lb
 kq:∀ g,kv=some g→qv≠some g
 al:¬(lo≤lb∧lb<hi)
 sz:hi≤w.heap.size
def LogS (lo hi lb:Nat) (kv qv:Option Nat) (k:Nat):Prop:=(lo≤k∧k<hi)∨k=lb∨kv=some k∨qv=some k
namespace LogM
variable {w w':World} {lo hi cb lb:Nat} {L:Loc} {lv:Lv} {kv qv:Option Nat} {nk nq:Nat} {m m':M} {K Q:Nat→Bool} {b p:Nat}
theorem of_blocks (h:LogM w lo hi cb lb L lv kv qv nk nq m K Q b p) (hs:hi≤w'.heap.size) (e:∀ k,LogS lo hi lb kv qv k→k<w.heap.size→w'.heap[k]? = w.heap[k]?):LogM w' lo hi cb lb L lv kv qv nk nq m K Q b p:=
 ⟨h.log.of_block (e lb (.inr (.inl rfl)) h.log.lt),MemX.of_blocks h.chip fun k h1 h2=>e k (.inl ⟨h1,h2⟩) (Nat.lt_of_lt_of_le h2 h.sz),h.wf,h.kept.of_blocks fun g hg hl=>e g (.inr (.inr (.inl hg))) hl,h.clean.of_blocks fun g hg hl=>e g (.inr (.inr (.inr hg))) hl,h.ak,h.aq,h.kq,h.al,hs⟩
theorem new (h:LogM w lo hi cb lb L lv kv qv nk nq m K Q b p) (hb:Below w.heap.size w w'):LogM w' lo hi cb lb L lv kv qv nk nq m K Q b p:=
 h.of_blocks (Nat.le_trans h.sz hb.size) fun k _ hk=>hb.block k hk
theorem drew (h:LogM w lo hi cb lb L lv kv qv nk nq m K Q b p):LogM w.drew lo hi cb lb L lv kv qv nk nq m K Q b p:=h.of_blocks h.sz fun k _ hk=>rfl
theorem field (h:LogM w lo hi cb lb L lv kv qv nk nq m K Q b p) {o:Nat} {x:Value} {lv':Lv} {b' p':Nat} (hl:LogAt (w.setCell ⟨lb,o,none⟩ x) lb cb lv' kv qv b' p'):LogM (w.setCell ⟨lb,o,none⟩ x) lo hi cb lb L lv' kv qv nk nq m K Q b' p':=by
 have e:∀ k,k≠lb→(w.setCell ⟨lb,o,none⟩ x).heap[k]? = w.heap[k]? := fun k hk=>Below.heap_setCell w ⟨lb,o,none⟩ x k hk
 exact ⟨hl,MemX.of_blocks h.chip fun k h1 h2=>e k (fun e'=>h.al (by subst e';exact ⟨h1,h2⟩)),h.wf,h.kept.of_blocks fun g hg _=>e g (h.ak g hg).1,h.clean.of_blocks fun g hg _=>e g (h.aq g hg).1,h.ak,h.aq,h.kq,h.al,by have:=h.sz;simpa using this⟩
theorem set4 (h:LogM w lo hi cb lb L lv kv qv nk nq m K Q b p) (x:Nat):LogM (w.setCell ⟨lb,6,none⟩ (.int .i64 (x:Nat))) lo hi cb lb L lv kv qv nk nq m K Q x p:=h.field (h.log.set4 x)
theorem set5 (h:LogM w lo hi cb lb L lv kv qv nk nq m K Q b p) (x:Nat):LogM (w.setCell ⟨lb,7,none⟩ (.int .i64 (x:Nat))) lo hi cb lb L lv kv qv nk nq m K Q b x:=h.field (h.log.set5 x)
theorem turn (h:LogM w lo hi cb lb L lv kv qv nk nq m K Q b p) (hc:CP w' lo hi cb L m') (hw:WF m') (ho:Only lo hi w w'):LogM w' lo hi cb lb L lv kv qv nk nq m' K Q b p:=
 ⟨h.log.of_block (ho.block lb h.log.lt h.al),hc,hw,h.kept.of_blocks fun g hg hl=>ho.block g hl (h.ak g hg).2,h.clean.of_blocks fun g hg hl=>ho.block g hl (h.aq g hg).2,h.ak,h.aq,h.kq,h.al,Nat.le_trans h.sz ho.size⟩
theorem qset {g:Nat} (h:LogM w lo hi cb lb L lv kv (some g) nk nq m K Q b p) {nq':Nat} {Q':Nat→Bool} (hq:BlAt w' g nq' Q') (hm:w.mapTurned w' g):LogM w' lo hi cb lb L lv kv (some g) nk nq' m K Q' b p:=by
 have e:∀ k,k<w.heap.size→k≠g→w'.heap[k]? = w.heap[k]? := fun k hk hn=>hm.grown.block k hk (fun e=>by cases e;exact hn rfl)
 have hg:=h.aq g rfl;exact ⟨h.log.of_block (e lb h.log.lt (fun e=>hg.1 e.symm)),MemX.of_blocks h.chip fun k h1 h2=>e k (Nat.lt_of_lt_of_le h2 h.sz) (fun e'=>hg.2 (by subst e';exact ⟨h1,h2⟩)),h.wf,h.kept.of_blocks fun g' hg' hl=>e g' hl (fun e'=>h.kq g' hg' (by rw [e'])),.inr ⟨g,rfl,hq⟩,h.ak,h.aq,h.kq,h.al,Nat.le_trans h.sz hm.grown.size⟩
theorem del (h:LogM w lo hi cb lb L lv kv qv nk nq m K Q b p) {i:Nat} (hi':i≤1000000):∃ V,(Builtin.delete_ #[76,3] 0 #[.map qv,.int .i64 (i:Nat)]).run Tryz.prog w=.ok (.tuple #[]) V∧LogM V lo hi cb lb L lv kv qv nk nq m K (fun j => !(j==i)&&Q j) b p∧Fm (LogS lo hi lb kv qv) w V:=by
 rcases h.clean with ⟨rfl,hn⟩ | ⟨g,rfl,hg⟩
 ·refine ⟨w,Maps.drop_nil law3 Tryz.underlying76 (key3 hi') 0,⟨h.log,h.chip,h.wf,h.kept,.inl ⟨rfl,fun j=>by simp [hn j]⟩,h.ak,h.aq,h.kq,h.al,h.sz⟩,Fm.refl _ _⟩
 ·obtain ⟨V,h1,h2,h3⟩:=hg.drop hi' 0;exact ⟨V,h1,h.qset h2 h3,(Fm.refl _ _).map (fun _=>.inr (.inr (.inr rfl))) h3⟩
end LogM
def openF (m:M) (K Q:Nat→Bool) (b:Nat):Bool × M × (Nat→Bool) × Nat:=
 if K ((b+1)%m.nb) then (false,m,Q,m.np)
 else if Q ((b+1)%m.nb) then (true,m,(fun j => !(j==(b+1)%m.nb)&&Q j),0)
 else if (eraA m (((b+1)%m.nb:Nat):Int)).1 then (true,(eraA m (((b+1)%m.nb:Nat):Int)).2,(fun j => !(j==(b+1)%m.nb)&&Q j),0)
 else (false,(eraA m (((b+1)%m.nb:Nat):Int)).2,Q,m.np)
end Go.Proofs.YtodmdkhdbfbfgabGreatDoor.S1
