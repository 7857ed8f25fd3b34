/- Lemmas. -/
import Derived.Test.YtodmdkhdbfbfgaaGreatDoorM25
set_option linter.unusedVariables false
set_option linter.unusedSimpArgs false
set_option maxRecDepth 100000
set_option maxHeartbeats 8000000
namespace Go.Proofs.YtodmdkhdbfbfgaaGreatDoor.S1
open Go.RowKit Pk
theorem qgF {w:World} {B C n:Nat} {e:TypeId} {size:Nat} {v:Value} {xs:List Value} (h:w.ownsRow B e size v n xs) (hC:C≤B):w.ownsRow C e size v n xs:=by
 refine ⟨h.1,?_⟩;rcases h.2 with h1 | ⟨g,cap,cur,h1,h2,h3⟩
 ·exact .inl h1
 exact .inr ⟨g,cap,cur,h1,Nat.le_trans hC h2,h3⟩
theorem ql1 (w:World) (wb c:Nat) (wv:Nat→Nat) (W:Nat) (hW:W=sumW wv 288) (hW2:W≤1000000) (hne:0<W) (hz:∀ i,i<288→w.cell? ⟨wb,i,none⟩=some (.int .i64 (wv i:Nat))) :
 Calls Tryz.prog 280 #[.slice (some ⟨wb,0,none⟩) 288 c] w fun e w'=>∃ ln:Nat→Nat,e=.returned (.slice (some ⟨w.heap.size,0,none⟩) 288 288)∧w'.rowIs w.heap.size 3 288 (fun j=>.int .i64 (ln j:Nat))∧Below w.heap.size w w'∧(∀ i,i<288→(0<ln i↔0<wv i))∧(∀ i,288≤i→ln i=0)∧(∀ i,ln i≤1∨(Fb (ln i)≤W∧ln i+1≤(symsTo wv 288).length))∧sumL (fun i=>2^(288 - ln i)) (symsTo wv 288)≤2^288:=by
 have hwb:wb<w.heap.size:=World.block_lt_of_cell? w _ (hz 0 (by omega));obtain ⟨M,hM⟩:∃ M,M=madeCells #[Value.int .i64 0] 288:=⟨_,rfl⟩;have hmk:∀ W:World,(Instr.makeSlice 22 (.int .i64 288) (.int .i64 288)).run Tryz.prog W=.ok (.slice (some ⟨W.heap.size,0,none⟩) 288 288) (W.alloc (.cells M 3)):=fun W=>by
  rw [hM];exact run_make_row' (P:=Tryz.prog) 22 3 (.int .i64 0) 8 Tryz.underlying22 Tryz.info3 rfl .i64 .i64 288 (by omega) (by omega) W
 have hrow0:(w.alloc (.cells M 3)).rowIs w.heap.size 3 288 (fun j=>.int .i64 ((fun _=>0:Nat→Nat) j:Nat)):=by rw [hM];exact World.rowIs_made w (.int .i64 0) 288 3
 clear hM;have Hq0:Hid (QM ((w.alloc (.cells M 3)).alloc (.cells #[.slice none 0 0,.int .i64 0] 341)) (w.heap.size+1) (w.heap.size+1) [] 0):=QM.make (v:=.slice none 0 0) (n:=0) (Nat.le_refl _) (by
  have:=heap_alloc_new (w.alloc (.cells M 3)) (.cells #[.slice none 0 0,.int .i64 0] 341)
  simp only [World.size_alloc] at this;exact this) rfl (World.ownsRow_nil _ _ _ _)
 have Hl0:=hidI (hrow0.alloc (.cells #[.slice none 0 0,.int .i64 0] 341));have Hb0:Hid (Below w.heap.size w ((w.alloc (.cells M 3)).alloc (.cells #[.slice none 0 0,.int .i64 0] 341))):=((Below.refl _ w).alloc (Nat.le_refl _) _).alloc (by simp) _;have Hs0:Hid (((w.alloc (.cells M 3)).alloc (.cells #[.slice none 0 0,.int .i64 0] 341)).heap.size=w.heap.size+2):=by
  show _=_;simp
 have Hz:=hidI hz;have HW:=hidI hW;clear hrow0 hz hW;go_enter Tryz.func280,Tryz.ntmps280
 go_wp2;clear hmk
 generalize ((w.alloc (.cells M 3)).alloc (.cells #[.slice none 0 0,.int .i64 0] 341))=W0 at *
 have Hwz:Hid (∀ V,Below (w.heap.size+1) W0 V→∀ i,i<288→V.cell? ⟨wb,i,none⟩=some (.int .i64 (wv i:Nat))):=fun V hV i hi=>by
  rw [hV.cell (p:=⟨wb,i,none⟩) (by simp;omega),Hb0.out.cell (p:=⟨wb,i,none⟩) (by simp;omega)];exact Hz.out i hi
 have hB0:w.heap.size+1≤W0.heap.size:=by have:=Hs0.out;omega
 go_loopw [21] (fun i wr=>∃ k pu:Nat,∃ es G,i=.int .i64 (k:Nat)∧k≤288∧pu≤k∧es.length≤k∧Hid (JS 288 wr (w.heap.size+1) (w.heap.size+1) es pu G (fun _=>0) (fun _=>0) (symsTo wv k) (sumW wv k))∧Hid (Fr (w.heap.size+1) W0 wr)) (fun i _=>288 - (intOf i).toNat)
 case atStart=>exact ⟨0,0,[],fun _=>[],rfl,by omega,by omega,by simp,⟨Hq0.out,by intro i h1 h2;simp at h2,by intro e he;simp at he,JI.start _ _⟩,Fr.refl _ _⟩
 case round =>
  clear Hq0;obtain ⟨k,pu,es,G,rfl,hk,hpu,hes,Hj,Hf⟩:=hrel;by_cases hlt:k<288
  ·have x0:=Hwz.out _ Hf.out.bel k hlt;have hBr:=Hf.out.size hB0;by_cases h0:wv k=0
   ·have Hj2:Hid (JS 288 wr (w.heap.size+1) (w.heap.size+1) es pu G (fun _=>0) (fun _=>0) (symsTo wv (k+1)) (sumW wv (k+1))):=by
     have h:=Hj.out;rw [qdz wv k h0,sumW,h0];exact h
    rw [h0] at x0;clear Hj h0;go_wp2;go_roundw
    case rel=>exact ⟨k+1,pu,es,G,by go_num,by omega,by omega,by omega,Hj2,Hf⟩
    case measure=>simp [intOf];omega
   obtain ⟨y,hy⟩:∃ y,y=wv k:=⟨_,rfl⟩;have Hy:=hidI hy;rw [←hy] at x0 h0;have hy0:(0:Int)<(y:Int):=by omega
   clear hy;have hqn:=Hj.out.q.of (w':=wr.alloc (.cells #[.int .i64 (k:Nat)] 3)) (fun j hj=>Below.heap_alloc _ _ j hj);have hfn:=Hf.out.alloc hBr (.cells #[.int .i64 (k:Nat)] 3);have Hput:=hidI (qnd _ (w.heap.size+1) (w.heap.size+1) es pu y wr.heap.size 1 1 (by simp;omega) (by omega) (by omega) Hj.out.h hqn);have Hgn:Hid (GM (wr.alloc (.cells #[.int .i64 (k:Nat)] 3)) (w.heap.size+1) es G):=Hj.out.g.fr (K:=0) ((Keeps.refl 3 wr).alloc _);have Hon:=hidI (qm7 wr (w.heap.size+1) k hBr);have Hfn:=hidI hfn;have Hnew:Hid (∀ e∈es,e.b≠wr.heap.size):=fun e he=>Nat.ne_of_lt (Hj.out.g.lt he)
   have Hjj:=hidI Hj.out.j;clear hqn hfn Hj;go_wp2_with fail;refine Hput.out.mono ?_;rintro e w2 ⟨rfl,es2,hp,hh,hq,hf⟩;have Hj2:Hid (JS 288 w2 (w.heap.size+1) (w.heap.size+1) es2 (pu+1) (fun b=>if b=wr.heap.size then [k] else G b) (fun _=>0) (fun _=>0) (symsTo wv (k+1)) (sumW wv (k+1))):=by
    rw [qcg wv k (by have:=Hy.out;omega),sumW,←Hy.out];exact ⟨hq,hh,(GM.cons (c:=⟨y,pu,wr.heap.size,1,1⟩) (Hgn.out.fr (K:=0) hf.ints) (hf.ints.own Hon.out) Hnew.out).perm hp,(JI.one Hjj.out ⟨y,pu,wr.heap.size,1,1⟩ k (by omega) Hnew.out).perm hp⟩
   have Hf2:=hidI (Hfn.out.trans hf);have hl2:es2.length≤k+1:=by rw [hp.length_eq];simp;omega
   clear Hput Hgn Hon Hfn Hnew Hjj hp hh hq hf x0;go_wp2;go_roundw
   case rel=>exact ⟨k+1,pu+1,es2,_,by go_num,by omega,by omega,hl2,Hj2,Hf2⟩
   case measure=>simp [intOf];omega
  have hk288:k=288:=by omega
  subst hk288;go_wp2;have Hl1:=hidI (qam Hl0.out Hf.out.bel (by omega));have Hb1:=hidI (Hb0.out.trans (Hf.out.bel.mono (by omega)));have hsz1:=Hf.out.size hB0;have hpe:pu+es.length≤576:=by omega
  have HN:=hidI (qct wv 288);have HL:=hidI (qeg wv 288);have Hmem:=hidI (qd7 wv 288);have Hj1:Hid (JS 288 wr (w.heap.size+1) (w.heap.size+1) es pu G (fun _=>0) (fun _=>0) (symsTo wv 288) W):=by
   rw [HW.out];exact Hj
  clear Hf Hj Hl0 Hb0 Hwz Hz Hs0 hB0 HW hes hpu hwb
  generalize hSe:symsTo wv 288=S at *
  generalize hlb:w.heap.size=lb at *
  have HSe:=hidI hSe;have Hlb:=hidI hlb;clear hSe hlb
  go_loopw [] (fun wr=>∃ pu:Nat,∃ es G D ln,pu+es.length≤576∧lb+1≤wr.heap.size∧Hid (JS 288 wr (lb+1) (lb+1) es pu G D ln S W)∧Hid (wr.rowIs lb 3 288 (fun j=>.int .i64 (ln j:Nat)))∧Hid (Below lb w wr)) (fun wr=>qlen wr (lb+1))
  case atStart=>exact ⟨pu,es,G,_,_,hpe,hsz1,Hj1,Hl1,Hb1⟩
  clear Hj1 Hl1 Hb1 hsz1 hpe G pu es;obtain ⟨pu,es,G,D,ln,hpe,hsz,Hj,Hl,Hb⟩:=hrel;cases es with
  | nil=>exfalso;have:=Hj.out.j.sum;simp [sumL] at this;omega
  | cons e1 t =>
    have ht:t.length≤575:=by simp at hpe;omega
    have Htk:=hidI (qfG wr (lb+1) (lb+1) (e1 :: t) e1 pu t.length hsz rfl (by omega) rfl Hj.out.h Hj.out.q);go_wp2_with fail;refine Htk.out.mono ?_;rintro e w1 ⟨rfl,es1,hp1,hh1,hq1,hf1,hfar1⟩;have hpt:List.Perm es1 t:=hp1.trans (qdA e1 t);have hg1:GM w1 (lb+1) (e1 :: t) G:=Hj.out.g.fr (K:=0) hf1.ints;have hsz1:lb+1≤w1.heap.size:=hf1.size hsz;obtain ⟨F1,hF1⟩:∃ F,F=w1.heap.size:=⟨_,rfl⟩;have hq1n:=hq1.notnew F1 (by omega);have hqlt:=hq1.lt;have Hl1:=hidI (qam Hl.out hf1.bel (by omega));have Hb1:=hidI (Hb.out.trans (hf1.bel.mono (by omega)));have Hpt:=hidI hpt;have Hg1:=hidI hg1;have Hq1:=hidI hq1;have Hh1:=hidI hh1;have Hji:=hidI Hj.out.j;have Hhp:=hidI Hj.out.h;have Hql:Hid (qlen wr (lb+1)=t.length+1):=Hj.out.q.qlen;clear Htk hp1 hh1 hq1 hf1 hfar1 hpt hg1 Hj Hl Hb;cases es1 with
    | nil =>
      have ht0:t=[]:=List.Perm.nil_eq Hpt.out |>.symm
      subst ht0;have hq1':QM (w1.alloc (.cells #[.int .i64 (e1.wt:Nat),.int .i64 (e1.tn:Nat),.slice (some ⟨e1.b,0,none⟩) e1.n e1.c] 344)) (lb+1) (lb+1) [] pu:=Hq1.out.of fun k hk=>Below.heap_alloc _ _ k hk
      have Htk:=hidI (qj1 _ (lb+1) (lb+1) pu (by simp;omega) hq1');have Hl2:=hidI (Hl1.out.alloc (.cells #[.int .i64 (e1.wt:Nat),.int .i64 (e1.tn:Nat),.slice (some ⟨e1.b,0,none⟩) e1.n e1.c] 344));have Hg2:=hidI (Hg1.out.fr (K:=0) ((Keeps.refl 3 w1).alloc (.cells #[.int .i64 (e1.wt:Nat),.int .i64 (e1.tn:Nat),.slice (some ⟨e1.b,0,none⟩) e1.n e1.c] 344)));have Hb2:=hidI (Hb1.out.alloc (by omega) (.cells #[.int .i64 (e1.wt:Nat),.int .i64 (e1.tn:Nat),.slice (some ⟨e1.b,0,none⟩) e1.n e1.c] 344));have HF:Hid ((w1.alloc (.cells #[.int .i64 (e1.wt:Nat),.int .i64 (e1.tn:Nat),.slice (some ⟨e1.b,0,none⟩) e1.n e1.c] 344)).heap[F1]? = some (.cells #[.int .i64 (e1.wt:Nat),.int .i64 (e1.tn:Nat),.slice (some ⟨e1.b,0,none⟩) e1.n e1.c] 344 (0,0))):=by
       rw [hF1];exact heap_alloc_new _ _
      have HFn:Hid (∀ n cap,(w1.alloc (.cells #[.int .i64 (e1.wt:Nat),.int .i64 (e1.tn:Nat),.slice (some ⟨e1.b,0,none⟩) e1.n e1.c] 344)).cell? ⟨lb+1,0,none⟩≠some (.slice (some ⟨F1,0,none⟩) n cap)):=fun n cap=>by
       rw [World.cell?_of_block (Below.heap_alloc w1 _ (lb+1) hqlt)];exact hq1n n cap
      have hFq:F1≠lb+1:=by omega
      have hFs:F1<(w1.alloc (.cells #[.int .i64 (e1.wt:Nat),.int .i64 (e1.tn:Nat),.slice (some ⟨e1.b,0,none⟩) e1.n e1.c] 344)).heap.size:=by simp;omega
      have hFb:e1.b≠lb:=by
       have:=(Hg1.out e1 (by simp)).lt e1.b rfl
       omega
      have HF1:=hidI hF1;have hlF:lb+1≤F1:=by omega
      clear hq1' hF1 Hl1 Hg1 Hb1 hq1n;go_wp2_with fail;rw [←HF1.out]
      generalize (w1.alloc (.cells #[.int .i64 (e1.wt:Nat),.int .i64 (e1.tn:Nat),.slice (some ⟨e1.b,0,none⟩) e1.n e1.c] 344))=V at *
      refine Htk.out.mono ?_;rintro e w2 ⟨rfl,hq2,hf2,hfar2⟩;have hF2:=(hfar2 F1 hFs hFq HFn.out).trans HF.out;have hg2:GM w2 (lb+1) [e1] G:=Hg2.out.fr (K:=0) hf2.ints;have Hl3:=hidI ((qam Hl2.out hf2.bel (by omega)).alloc (.cells #[.int .i64 0,.int .i64 0,.slice none 0 0] 344));have Hb3:=hidI ((Hb2.out.trans (hf2.bel.mono (by omega))).alloc (by have:=hf2.bel.size;omega) (.cells #[.int .i64 0,.int .i64 0,.slice none 0 0] 344));have Hg3:=hidI (hg2.fr (K:=0) ((Keeps.refl 3 w2).alloc (.cells #[.int .i64 0,.int .i64 0,.slice none 0 0] 344)));have hF3:=(Below.heap_alloc w2 (.cells #[.int .i64 0,.int .i64 0,.slice none 0 0] 344) F1 (lt_of_heap hF2)).trans hF2;have f2:(w2.alloc (.cells #[.int .i64 0,.int .i64 0,.slice none 0 0] 344)).cell? ⟨F1,2,none⟩=some (.slice (some ⟨e1.b,0,none⟩) e1.n e1.c):=by rw [cell_of_row _ F1 2 _ 344 (0,0) hF3];rfl
      have hne2:w2.heap.size≠F1:=Nat.ne_of_gt (lt_of_heap hF2);clear Htk Hl2 Hb2 Hg2 HF HFn hF2 hF3 hg2 hq2 hf2 hfar2 hFs;go_wp2;obtain ⟨l,hl⟩:∃ l,l=G e1.b:=⟨_,rfl⟩;have HlG:=hidI hl;have hown:=Hg3.out e1 (by simp);rw [←hl] at hown;have hll:=qbv hown;have Hlt:Hid (∀ i∈l,i<288):=fun i hi=>((Hmem.out i).1 (Hji.out.sym.mem_iff.1 (by rw [hl] at hi;simpa using hi))).1
      have Hln:Hid (∀ i,ln i≤300):=fun i=>by
       by_cases hi:i∈S
       ·have h1:=Hji.out.len e1 (by simp) i (by have:=Hji.out.sym.mem_iff.2 hi;simpa using this);have h2:=glen Hji.out (e:=e1) (by simp)
        have:=HL.out;omega
       rw [Hji.out.zero i hi];omega
      have Hown:=hidI hown;have Hll:=hidI hll;have hn300:e1.n≤300:=by
       have h2:=glen Hji.out (e:=e1) (by simp)
       have:=HL.out
       rw [←hl] at h2;omega
      clear hl hown hll f2 hne2 Hg3
      generalize w2.alloc (.cells #[.int .i64 0,.int .i64 0,.slice none 0 0] 344)=V0 at *
      go_loopw [46] (fun i wq=>∃ k:Nat,i=.int .i64 (k:Nat)∧k≤e1.n∧Hid (wq.ownsRow (lb+1) 3 1 (.slice (some ⟨e1.b,0,none⟩) e1.n e1.c) e1.n (intsV l))∧Hid (wq.rowIs lb 3 288 (fun j=>.int .i64 ((if j∈l.take k then max (ln j) 1 else ln j:Nat):Int)))∧Hid (Below lb w wq)) (fun i _=>e1.n - (intOf i).toNat)
      case atStart=>exact ⟨0,rfl,by omega,Hown,by simpa using Hl3,Hb3⟩
      case round =>
       clear Hown Hl3 Hb3;obtain ⟨k,rfl,hk,Hown,Hlk,Hbk⟩:=hrel;by_cases hkn:k<e1.n
       ·have y0:=qcJ Hown.out hkn;have hkl:k<l.length:=by have:=Hll.out;omega
        have hsm:l.getD k 0∈l:=qg2 l k hkl;have hslt:=Hlt.out _ hsm;have hsl:=Hln.out (l.getD k 0);obtain ⟨sy,hsy⟩:∃ sy,sy=l.getD k 0:=⟨_,rfl⟩;rw [←hsy] at y0 hslt hsl;have y1:=Hlk.out.cell (i:=sy) hslt;have yf:=Hlk.out.frozen sy;obtain ⟨x,hx⟩:∃ x:Nat,x=if sy∈l.take k then max (ln sy) 1 else ln sy:=⟨_,rfl⟩;rw [←hx] at y1;have hx300:x≤300:=by rw [hx];split<;>omega
        have hset:=Hlk.out.set sy (.int .i64 ((max x 1:Nat):Int));have hrow2:(wr.setCell ⟨lb,sy,none⟩ (.int .i64 ((max x 1:Nat):Int))).rowIs lb 3 288 (fun j=>.int .i64 ((if j∈l.take (k+1) then max (ln j) 1 else ln j:Nat):Int)):=hset.congr fun j _=>by
         have hms:=qbG l k j hkl;rw [←hsy] at hms;by_cases e:j=sy
         ·subst e;rw [if_pos rfl,if_pos (hms.2 (.inr rfl)),hx]
          congr 1
          split<;>omega
         rw [if_neg e];by_cases h2:j∈l.take k
         ·rw [if_pos h2,if_pos (hms.2 (.inl h2))]
         rw [if_neg h2,if_neg (fun h3=>(hms.1 h3).elim h2 e)]
        have Hrow2:=hidI hrow2;have Hown2:=hidI (qcw Hown.out (qgH wr lb sy (.int .i64 ((max x 1:Nat):Int))));have Hbk2:=hidI (Hbk.out.setCell (p:=⟨lb,sy,none⟩) (Nat.le_refl _) (.int .i64 ((max x 1:Nat):Int)));clear hset hrow2 hsy hx hsm Hown Hlk Hbk;have hmx:((max x 1:Nat):Int)=max (x:Int) 1:=by omega
        rw [hmx] at Hrow2 Hown2 Hbk2;clear hmx;go_wp2;go_roundw
        case rel=>exact ⟨k+1,by go_num,by omega,Hown2,Hrow2,Hbk2⟩
        case measure=>simp [intOf];omega
       have hk2:k=e1.n:=by omega
       subst hk2;go_wp2;go_ret
       have htk:l.take e1.n=l:=List.take_of_length_le (by have:=Hll.out;omega);have hrow:=Hlk.out;rw [htk] at hrow;have hji:=Hji.out;rw [Hlb.out,HSe.out];have hlast:=JI.last hji wv Hmem.out (fun j=>if j∈l then max (ln j) 1 else ln j) (fun i hi=>by rw [←HlG.out] at hi;exact if_pos hi) (fun i hi=>by rw [←HlG.out] at hi;exact if_neg hi);exact ⟨fun j=>if j∈l then max (ln j) 1 else ln j,rfl,hrow,Hbk.out,hlast.1,hlast.2.1,hlast.2.2.1,hlast.2.2.2⟩
    | cons e2 r =>
      have hrl:r.length+1=t.length:=by have:=Hpt.out.length_eq;simpa using this
      have hq1':QM (w1.alloc (.cells #[.int .i64 (e1.wt:Nat),.int .i64 (e1.tn:Nat),.slice (some ⟨e1.b,0,none⟩) e1.n e1.c] 344)) (lb+1) (lb+1) (e2 :: r) pu:=Hq1.out.of fun k hk=>Below.heap_alloc _ _ k hk
      have Htk:=hidI (qfG _ (lb+1) (lb+1) (e2 :: r) e2 pu r.length (by simp;omega) rfl (by omega) rfl Hh1.out hq1');have Hl2:=hidI (Hl1.out.alloc (.cells #[.int .i64 (e1.wt:Nat),.int .i64 (e1.tn:Nat),.slice (some ⟨e1.b,0,none⟩) e1.n e1.c] 344));have Hg2:=hidI (Hg1.out.fr (K:=0) ((Keeps.refl 3 w1).alloc (.cells #[.int .i64 (e1.wt:Nat),.int .i64 (e1.tn:Nat),.slice (some ⟨e1.b,0,none⟩) e1.n e1.c] 344)));have Hb2:=hidI (Hb1.out.alloc (by omega) (.cells #[.int .i64 (e1.wt:Nat),.int .i64 (e1.tn:Nat),.slice (some ⟨e1.b,0,none⟩) e1.n e1.c] 344));have HF:Hid ((w1.alloc (.cells #[.int .i64 (e1.wt:Nat),.int .i64 (e1.tn:Nat),.slice (some ⟨e1.b,0,none⟩) e1.n e1.c] 344)).heap[F1]? = some (.cells #[.int .i64 (e1.wt:Nat),.int .i64 (e1.tn:Nat),.slice (some ⟨e1.b,0,none⟩) e1.n e1.c] 344 (0,0))):=by
       rw [hF1];exact heap_alloc_new _ _
      have HFn:Hid (∀ n cap,(w1.alloc (.cells #[.int .i64 (e1.wt:Nat),.int .i64 (e1.tn:Nat),.slice (some ⟨e1.b,0,none⟩) e1.n e1.c] 344)).cell? ⟨lb+1,0,none⟩≠some (.slice (some ⟨F1,0,none⟩) n cap)):=fun n cap=>by
       rw [World.cell?_of_block (Below.heap_alloc w1 _ (lb+1) hqlt)];exact hq1n n cap
      have hFq:F1≠lb+1:=by omega
      have hFs:F1<(w1.alloc (.cells #[.int .i64 (e1.wt:Nat),.int .i64 (e1.tn:Nat),.slice (some ⟨e1.b,0,none⟩) e1.n e1.c] 344)).heap.size:=by simp;omega
      have HF1:=hidI hF1;have hlF:lb+1≤F1:=by omega
      have hszV:lb+1≤(w1.alloc (.cells #[.int .i64 (e1.wt:Nat),.int .i64 (e1.tn:Nat),.slice (some ⟨e1.b,0,none⟩) e1.n e1.c] 344)).heap.size:=by simp;omega
      clear hq1' hF1 Hl1 Hg1 Hb1 hq1n;go_wp2_with fail;rw [←HF1.out]
      generalize (w1.alloc (.cells #[.int .i64 (e1.wt:Nat),.int .i64 (e1.tn:Nat),.slice (some ⟨e1.b,0,none⟩) e1.n e1.c] 344))=V at *
      refine Htk.out.mono ?_;rintro e w2 ⟨rfl,es2,hp2,hh2,hq2,hf2,hfar2⟩;have hpr:List.Perm es2 r:=hp2.trans (qdA e2 r);have hF2:=(hfar2 F1 hFs hFq HFn.out).trans HF.out;have hg2:GM w2 (lb+1) (e1 :: t) G:=Hg2.out.fr (K:=0) hf2.ints;have hsz2:lb+1≤w2.heap.size:=hf2.size hszV;obtain ⟨F2,hF2e⟩:∃ F,F=w2.heap.size:=⟨_,rfl⟩;have Hl3:=hidI (((qam Hl2.out hf2.bel (by omega)).alloc (.cells #[.int .i64 (e2.wt:Nat),.int .i64 (e2.tn:Nat),.slice (some ⟨e2.b,0,none⟩) e2.n e2.c] 344)).alloc (.cells #[.slice (some ⟨e1.b,0,none⟩) e1.n e1.c,.slice (some ⟨e2.b,0,none⟩) e2.n e2.c] 22));have Hb3:=hidI (((Hb2.out.trans (hf2.bel.mono (by omega))).alloc (by omega) (.cells #[.int .i64 (e2.wt:Nat),.int .i64 (e2.tn:Nat),.slice (some ⟨e2.b,0,none⟩) e2.n e2.c] 344)).alloc (by simp;omega) (.cells #[.slice (some ⟨e1.b,0,none⟩) e1.n e1.c,.slice (some ⟨e2.b,0,none⟩) e2.n e2.c] 22))
      have Hg3:=hidI ((hg2.fr (K:=0) ((Keeps.refl 3 w2).alloc (.cells #[.int .i64 (e2.wt:Nat),.int .i64 (e2.tn:Nat),.slice (some ⟨e2.b,0,none⟩) e2.n e2.c] 344))).fr (K:=0) ((Keeps.refl 3 _).alloc (.cells #[.slice (some ⟨e1.b,0,none⟩) e1.n e1.c,.slice (some ⟨e2.b,0,none⟩) e2.n e2.c] 22)));have Hq3:=hidI ((hq2.of (w':=w2.alloc (.cells #[.int .i64 (e2.wt:Nat),.int .i64 (e2.tn:Nat),.slice (some ⟨e2.b,0,none⟩) e2.n e2.c] 344)) fun k hk=>Below.heap_alloc _ _ k hk).of (w':=(w2.alloc (.cells #[.int .i64 (e2.wt:Nat),.int .i64 (e2.tn:Nat),.slice (some ⟨e2.b,0,none⟩) e2.n e2.c] 344)).alloc (.cells #[.slice (some ⟨e1.b,0,none⟩) e1.n e1.c,.slice (some ⟨e2.b,0,none⟩) e2.n e2.c] 22)) fun k hk=>Below.heap_alloc _ _ k hk);have hFF:F1<w2.heap.size:=lt_of_heap hF2
      have hF2a:=(Below.heap_alloc w2 (.cells #[.int .i64 (e2.wt:Nat),.int .i64 (e2.tn:Nat),.slice (some ⟨e2.b,0,none⟩) e2.n e2.c] 344) F1 hFF).trans hF2;have hF2b:(w2.alloc (.cells #[.int .i64 (e2.wt:Nat),.int .i64 (e2.tn:Nat),.slice (some ⟨e2.b,0,none⟩) e2.n e2.c] 344)).heap[F2]? = some (.cells #[.int .i64 (e2.wt:Nat),.int .i64 (e2.tn:Nat),.slice (some ⟨e2.b,0,none⟩) e2.n e2.c] 344 (0,0)):=by rw [hF2e];exact heap_alloc_new _ _
      have f1:(w2.alloc (.cells #[.int .i64 (e2.wt:Nat),.int .i64 (e2.tn:Nat),.slice (some ⟨e2.b,0,none⟩) e2.n e2.c] 344)).cell? ⟨F1,2,none⟩=some (.slice (some ⟨e1.b,0,none⟩) e1.n e1.c):=by rw [cell_of_row _ F1 2 _ 344 (0,0) hF2a];rfl
      have f2:(w2.alloc (.cells #[.int .i64 (e2.wt:Nat),.int .i64 (e2.tn:Nat),.slice (some ⟨e2.b,0,none⟩) e2.n e2.c] 344)).cell? ⟨F2,2,none⟩=some (.slice (some ⟨e2.b,0,none⟩) e2.n e2.c):=by rw [cell_of_row _ F2 2 _ 344 (0,0) hF2b];rfl
      have HFa:=hidI ((Below.heap_alloc _ (.cells #[.slice (some ⟨e1.b,0,none⟩) e1.n e1.c,.slice (some ⟨e2.b,0,none⟩) e2.n e2.c] 22) F1 (by simp;omega)).trans hF2a);have HFb:=hidI ((Below.heap_alloc _ (.cells #[.slice (some ⟨e1.b,0,none⟩) e1.n e1.c,.slice (some ⟨e2.b,0,none⟩) e2.n e2.c] 22) F2 (by simp;omega)).trans hF2b);have HS:Hid (((w2.alloc (.cells #[.int .i64 (e2.wt:Nat),.int .i64 (e2.tn:Nat),.slice (some ⟨e2.b,0,none⟩) e2.n e2.c] 344)).alloc (.cells #[.slice (some ⟨e1.b,0,none⟩) e1.n e1.c,.slice (some ⟨e2.b,0,none⟩) e2.n e2.c] 22)).heap[w2.heap.size+1]? = some (.cells #[.slice (some ⟨e1.b,0,none⟩) e1.n e1.c,.slice (some ⟨e2.b,0,none⟩) e2.n e2.c] 22 (0,0))):=by
       have:=heap_alloc_new (w2.alloc (.cells #[.int .i64 (e2.wt:Nat),.int .i64 (e2.tn:Nat),.slice (some ⟨e2.b,0,none⟩) e2.n e2.c] 344)) (.cells #[.slice (some ⟨e1.b,0,none⟩) e1.n e1.c,.slice (some ⟨e2.b,0,none⟩) e2.n e2.c] 22)
       simp only [World.size_alloc] at this;exact this
      have hszS:lb+1≤((w2.alloc (.cells #[.int .i64 (e2.wt:Nat),.int .i64 (e2.tn:Nat),.slice (some ⟨e2.b,0,none⟩) e2.n e2.c] 344)).alloc (.cells #[.slice (some ⟨e1.b,0,none⟩) e1.n e1.c,.slice (some ⟨e2.b,0,none⟩) e2.n e2.c] 22)).heap.size:=by simp;omega
      have HF2e:=hidI hF2e;have hlF2:lb+1≤F2:=by omega
      have Hpr:=hidI hpr;have Hh2:=hidI hh2;clear Htk Hl2 Hb2 Hg2 HF HFn hF2 hg2 hq2 hf2 hfar2 hFs hp2 hh2 hpr hF2a hF2b hF2e;go_wp2_with fail;rw [←HF2e.out];rw [←HF2e.out] at HS
      generalize ((w2.alloc (.cells #[.int .i64 (e2.wt:Nat),.int .i64 (e2.tn:Nat),.slice (some ⟨e2.b,0,none⟩) e2.n e2.c] 344)).alloc (.cells #[.slice (some ⟨e1.b,0,none⟩) e1.n e1.c,.slice (some ⟨e2.b,0,none⟩) e2.n e2.c] 22))=V3 at *
      have hme2:e2∈e1 :: t:=List.mem_cons_of_mem _ (Hpt.out.mem_iff.1 List.mem_cons_self);have hgA:=Hg3.out e1 List.mem_cons_self;have hgB:=Hg3.out e2 hme2;have hlA:=qbv hgA;have hlB:=qbv hgB;have Hj12:Hid (JI 288 (e1 :: e2 :: r) G D ln S W):=Hji.out.perm (List.Perm.cons e1 Hpt.out);have hsy:=Hj12.out.sym;simp only [List.map_cons,List.flatten_cons] at hsy;have hsl:=hsy.length_eq;simp only [List.length_append] at hsl;have hnd:=hsy.symm.nodup HN.out;rw [←List.append_assoc] at hnd;have HndAB:=hidI ((List.nodup_append.1 hnd).1);have HmAB:Hid (∀ i,i∈G e1.b++G e2.b→i<288):=fun i hi=>((Hmem.out i).1 (hsy.mem_iff.1 (by rw [←List.append_assoc];exact List.mem_append.2 (.inl hi)))).1
      have hSl:=HL.out;have hn0:∀ e∈e1 :: e2 :: r,0<(G e.b).length:=fun e he=>by
       have hk:=Hj12.out.kr e he;cases hg:G e.b with
       | nil=>rw [hg] at hk;simp only [sumL] at hk;have:=Nat.pow_pos (n:=288) (show 0<2 by omega);omega
       | cons x l=>simp
      have hnA:=hn0 e1 (by simp);have hnB:=hn0 e2 (by simp);have Hco:=hidI (qhG V3 (F2+1) e1.b e1.n e1.c e2.b e2.n e2.c (G e1.b) (G e2.b) (by omega) (by omega) (by omega) HS.out (qha hgA) (qha hgB));have Hln:Hid (∀ i,ln i≤300):=fun i=>by
       by_cases hi:i∈S
       ·have:=Hj12.out.sym.mem_iff.2 hi
        rw [List.mem_flatten] at this;obtain ⟨l0,h1,h2⟩:=this;obtain ⟨e0,h3,rfl⟩:=List.mem_map.1 h1;have h4:=Hj12.out.len e0 h3 i h2;have h5:=glen Hj12.out h3;omega
       rw [Hj12.out.zero i hi];omega
      have h12:e1.wt≤e2.wt:=qgS Hhp.out hme2;have Hr2:Hid (∀ e∈r,e2.wt≤e.wt):=fun e he=>qgS Hh1.out (List.mem_cons_of_mem _ he)
      have hWs:e1.wt+e2.wt≤1000000:=by
       have:=Hj12.out.sum
       simp only [sumL] at this;omega
      obtain ⟨l,hl⟩:∃ l,l=G e1.b++G e2.b:=⟨_,rfl⟩;have Hll:Hid (l.length=e1.n+e2.n):=by
       show _=_;rw [hl,List.length_append];omega
      rw [←hl] at HndAB HmAB Hco;have HlG:=hidI hl;have hnn:e1.n+e2.n≤300:=by omega
      clear hl hgA hgB hlA hlB hsy hsl hnd hn0 hnA hnB hme2 HS f1 f2;refine Hco.out.mono ?_;rintro e w4 ⟨g,cap,rfl,hown4,hbel4⟩;have hs34:=hbel4.size;have hVlt:∀ k o,V3.heap[k]? = some o→w4.heap[k]? = some o:=fun k o ho=>(hbel4.block k (lt_of_heap ho)).trans ho
      have HFa4:=hidI (hVlt _ _ HFa.out);have HFb4:=hidI (hVlt _ _ HFb.out);have Hl4:=hidI (qam Hl3.out hbel4 Hl3.out.lt);have Hb4:=hidI (Hb3.out.trans (hbel4.mono (by omega)));have Hg4:=hidI (Hg3.out.fr (K:=0) ((Keeps.refl 3 V3).below hbel4));have Hq4:=hidI (Hq3.out.of fun k hk=>hbel4.block k hk);have hgs:=(hown4.lt g rfl).1;have Hnew:Hid (∀ e∈r,e.b≠g):=fun e he=>by
       have h1:e∈e1 :: t:=List.mem_cons_of_mem _ (Hpt.out.mem_iff.1 (List.mem_cons_of_mem _ he))
       have:=Hg3.out.lt h1
       omega
      have Hown4:Hid (w4.ownsRow (lb+1) 3 1 (.slice (some ⟨g,0,none⟩) (e1.n+e2.n) cap) (e1.n+e2.n) (intsV l)):=qgF hown4 (by omega);have hsz4:lb+1≤w4.heap.size:=by omega
      clear hown4 hbel4 hVlt Hco HFa HFb Hl3 Hb3 Hg3 Hq3 hgs hs34;go_wp2
      try rw [←HF2e.out]
      go_loopw [68] (fun i wq=>∃ k:Nat,i=.int .i64 (k:Nat)∧k≤e1.n+e2.n∧lb+1≤wq.heap.size∧Hid (wq.rowIs lb 3 288 (fun j=>.int .i64 ((if j∈l.take k then ln j+1 else ln j:Nat):Int)))∧Hid (wq.ownsRow (lb+1) 3 1 (.slice (some ⟨g,0,none⟩) (e1.n+e2.n) cap) (e1.n+e2.n) (intsV l))∧Hid (QM wq (lb+1) (lb+1) es2 pu)∧Hid (GM wq (lb+1) (e1 :: t) G)∧Hid (wq.heap[F1]? = some (.cells #[.int .i64 (e1.wt:Nat),.int .i64 (e1.tn:Nat),.slice (some ⟨e1.b,0,none⟩) e1.n e1.c] 344 (0,0)))∧Hid (wq.heap[F2]? = some (.cells #[.int .i64 (e2.wt:Nat),.int .i64 (e2.tn:Nat),.slice (some ⟨e2.b,0,none⟩) e2.n e2.c] 344 (0,0)))∧Hid (Below lb w wq)) (fun i _=>e1.n+e2.n - (intOf i).toNat)
      case atStart=>exact ⟨0,rfl,by omega,hsz4,by simpa using Hl4,Hown4,Hq4,Hg4,HFa4,HFb4,Hb4⟩
      case round =>
       clear Hl4 Hown4 Hq4 Hg4 HFa4 HFb4 Hb4 hsz4;obtain ⟨k,rfl,hk,hszq,Hlk,Hownk,Hqk,Hgk,HFak,HFbk,Hbk⟩:=hrel;by_cases hkn:k<e1.n+e2.n
       ·have y0:=qcJ Hownk.out hkn;have hkl:k<l.length:=by have:=Hll.out;omega
        have hsm:l.getD k 0∈l:=qg2 l k hkl;have hslt:=HmAB.out _ hsm;have hsl:=Hln.out (l.getD k 0);have hnt:=qek l k HndAB.out hkl;obtain ⟨sy,hsy⟩:∃ sy,sy=l.getD k 0:=⟨_,rfl⟩;rw [←hsy] at y0 hslt hsl hnt;have y1:=Hlk.out.cell (i:=sy) hslt;have yf:=Hlk.out.frozen sy;rw [if_neg hnt] at y1;obtain ⟨x,hx⟩:∃ x:Nat,x=ln sy:=⟨_,rfl⟩;rw [←hx] at y1 hsl;have hset:=Hlk.out.set sy (.int .i64 ((x+1:Nat):Int));have hrow2:(wr.setCell ⟨lb,sy,none⟩ (.int .i64 ((x+1:Nat):Int))).rowIs lb 3 288 (fun j=>.int .i64 ((if j∈l.take (k+1) then ln j+1 else ln j:Nat):Int)):=hset.congr fun j _=>by
         have hms:=qbG l k j hkl;rw [←hsy] at hms;by_cases e:j=sy
         ·subst e;rw [if_pos rfl,if_pos (hms.2 (.inr rfl)),hx]
         rw [if_neg e];by_cases h2:j∈l.take k
         ·rw [if_pos h2,if_pos (hms.2 (.inl h2))]
         rw [if_neg h2,if_neg (fun h3=>(hms.1 h3).elim h2 e)]
        have hlow:=qgH wr lb sy (.int .i64 ((x+1:Nat):Int));have Hrow2:=hidI hrow2;have Hown2:=hidI (qcw Hownk.out hlow);have Hq2:=hidI (Hqk.out.high hlow);have Hg2:=hidI (Hgk.out.high hlow);have HFa2:=hidI ((hlow F1 (by omega)).trans HFak.out);have HFb2:=hidI ((hlow F2 (by omega)).trans HFbk.out);have Hbk2:=hidI (Hbk.out.setCell (p:=⟨lb,sy,none⟩) (Nat.le_refl _) (.int .i64 ((x+1:Nat):Int)));clear hset hrow2 hsy hx hsm hnt hlow Hlk Hownk Hqk Hgk HFak HFbk Hbk;have hmx:((x+1:Nat):Int)=(x:Int)+1:=by omega
        rw [hmx] at Hrow2 Hown2 Hq2 Hg2 HFa2 HFb2 Hbk2;clear hmx;go_wp2;go_roundw
        case rel=>exact ⟨k+1,by go_num,by omega,by simpa using hszq,Hrow2,Hown2,Hq2,Hg2,HFa2,HFb2,Hbk2⟩
        case measure=>simp [intOf];omega
       have hk2:k=e1.n+e2.n:=by omega
       subst hk2;have a1:wr.cell? ⟨F1,0,none⟩=some (.int .i64 (e1.wt:Nat)):=by rw [cell_of_row wr F1 0 _ 344 (0,0) HFak.out];rfl
       have a2:wr.cell? ⟨F2,0,none⟩=some (.int .i64 (e2.wt:Nat)):=by rw [cell_of_row wr F2 0 _ 344 (0,0) HFbk.out];rfl
       have hes2:es2.length=r.length:=Hpr.out.length_eq;have hput:=qnd wr (lb+1) (lb+1) es2 pu (e1.wt+e2.wt) g (e1.n+e2.n) cap hszq (by omega) (by omega) Hh2.out Hqk.out;rw [show ((e1.wt+e2.wt:Nat):Int)=(e1.wt:Int)+(e2.wt:Int) by omega] at hput;have Hput:=hidI hput;have Hes2:=hidI hes2;have hpu6:pu+r.length+2≤576:=by simp at hpe;omega
       clear hput hes2;go_wp2_with fail;refine Hput.out.mono ?_;rintro e w5 ⟨rfl,es3,hp3,hh3,hq3,hf3⟩;have htk:l.take (e1.n+e2.n)=l:=List.take_of_length_le (by have:=Hll.out;omega);have hrow:=Hlk.out;rw [htk] at hrow;have Hrow5:=hidI (qam hrow hf3.bel (by omega));have Hb5:=hidI (Hbk.out.trans (hf3.bel.mono (by omega)));have hsz5:lb+1≤w5.heap.size:=hf3.size hszq;have hpc:List.Perm es3 (⟨e1.wt+e2.wt,pu,g,e1.n+e2.n,cap⟩ :: r):=hp3.trans (List.Perm.cons _ Hpr.out);have Hj5:Hid (JS 288 w5 (lb+1) (lb+1) es3 (pu+1) (fun b=>if b=g then G e1.b++G e2.b else G b) (fun b=>if b=g then max (D e1.b) (D e2.b)+1 else D b) (fun j=>if j∈l then ln j+1 else ln j) S W):=by
        refine ⟨hq3,hh3,?_,?_⟩
        ·refine GM.perm (GM.cons (c:=⟨e1.wt+e2.wt,pu,g,e1.n+e2.n,cap⟩) (es:=r) (G:=G) (l:=G e1.b++G e2.b) ?_ ?_ Hnew.out) hpc
         ·intro e he;exact hf3.ints.own (Hgk.out e (List.mem_cons_of_mem _ (Hpt.out.mem_iff.1 (List.mem_cons_of_mem _ he))))
         rw [←HlG.out];exact hf3.ints.own Hownk.out
        exact (JI.join Hj12.out HN.out hSl h12 Hr2.out ⟨e1.wt+e2.wt,pu,g,e1.n+e2.n,cap⟩ rfl Hnew.out (fun j=>if j∈l then ln j+1 else ln j) (fun i hi=>by rw [←HlG.out] at hi;exact if_pos hi) (fun i hi=>by rw [←HlG.out] at hi;exact if_neg hi)).perm hpc
       have hl3:es3.length=r.length+1:=by rw [hpc.length_eq];rfl
       have Hql5:Hid (qlen w5 (lb+1)=r.length+1):=by
        show _=_;rw [hq3.qlen,hl3]
       clear Hput hp3 hh3 hq3 hf3 htk hrow hpc Hlk Hownk Hqk Hgk HFak HFbk Hbk a1 a2;have Hl3:=hidI hl3;clear hl3;go_wp2;go_roundw
       case rel=>exact ⟨pu+1,es3,_,_,_,by have:=Hl3.out;omega,hsz5,Hj5,Hrow5,Hb5⟩
       have h1:=Hql5.out;have h2:=Hql.out;rw [h1,h2];omega
theorem qjy (f g:Nat→Nat) (k:Nat) (h:∀ i,i<k→2*g i≤f i+1):2*sumW g k≤sumW f k+k:=by
 induction k with
 | zero=>simp [sumW]
 | succ k ih=>have:=ih (fun i hi=>h i (by omega));have:=h k (by omega);simp only [sumW];omega
theorem qlr (f g:Nat→Nat) (k:Nat) (h:∀ i,i<k→(0<g i↔0<f i)):0<sumW f k→0<sumW g k:=by
 induction k with
 | zero=>simp [sumW]
 | succ k ih =>
   intro h1;simp only [sumW] at h1 ⊢;by_cases e:0<f k
   ·have:=(h k (by omega)).2 e;omega
   have:=ih (fun i hi=>h i (by omega)) (by omega);omega
theorem qbt (f g:Nat→Nat) (k:Nat) (h:∀ i,i<k→f i=g i):sumW f k=sumW g k:=by
 induction k with
 | zero=>rfl
 | succ k ih=>simp only [sumW];rw [ih (fun i hi=>h i (by omega)),h k (by omega)]
theorem qcj (f g:Nat→Nat) (k:Nat) (h:∀ i,i<k→(0<f i↔0<g i)):symsTo f k=symsTo g k:=by
 unfold symsTo;refine List.filter_congr fun i hi => ?_
 have:=h i (by simpa using hi)
 simp [this]
theorem qmJ (f:Nat→Nat) (k i:Nat) (h:i<k):f i≤sumW f k:=by
 induction k with
 | zero=>omega
 | succ k ih =>
   simp only [sumW];by_cases e:i=k
   ·subst e;omega
   have:=ih (by omega);omega
def msum (w:World) (g:Nat):Nat:=sumW (fun i=>match w.cell? ⟨g,i,none⟩ with | some (.int _ x)=>x.toNat | _=>0) 288
theorem qkl {w:World} {B g c:Nat} {l:List Nat} (h:w.ownsRow B 3 1 (.slice (some ⟨g,0,none⟩) 288 c) 288 (intsV l)):msum w g=sumW (fun i=>l.getD i 0) 288:=by
 unfold msum;refine qbt _ _ _ fun i hi => ?_
 rw [qcJ h hi];rfl
theorem qlV (w:World) (cb c:Nat) (l:List Nat) (hown:w.ownsRow 0 3 1 (.slice (some ⟨cb,0,none⟩) 288 c) 288 (intsV l)) (h0:0<sumW (fun i=>l.getD i 0) 288) (h1:sumW (fun i=>l.getD i 0) 288≤1000000) :
 Calls Tryz.prog 246 #[.slice (some ⟨cb,0,none⟩) 288 c] w fun e w'=>∃ ln:Nat→Nat,∃ L,e=.returned (.slice (some ⟨L,0,none⟩) 288 288)∧w.heap.size≤L∧w'.rowIs L 3 288 (fun j=>.int .i64 (ln j:Nat))∧Below w.heap.size w w'∧(∀ i,i<288→(0<ln i↔0<l.getD i 0))∧(∀ i,288≤i→ln i=0)∧(∀ i,ln i≤12)∧(∀ i,ln i≤1∨ln i+1≤(symsTo (fun i=>l.getD i 0) 288).length)∧sumL (fun i=>2^(288 - ln i)) (symsTo (fun i=>l.getD i 0) 288)≤2^288:=by
 have Hcl:=hidI (clone_ints w cb 288 c l (by omega) (by omega) hown);have H0:=hidI h0;have H1:=hidI h1;clear hown h0 h1;go_enter Tryz.func246,Tryz.ntmps246
 go_wp2_with fail;refine Hcl.out.mono ?_;rintro e w1 ⟨g,cap,rfl,hown1,hbel1⟩;have hgs:=(hown1.lt g rfl).1;have Hown1:=hidI hown1;have Hbel1:=hidI hbel1;clear hown1 hbel1 Hcl;go_wp2
 go_loopw [] (fun wr=>∃ m:List Nat,Hid (wr.ownsRow w.heap.size 3 1 (.slice (some ⟨g,0,none⟩) 288 cap) 288 (intsV m))∧Hid (Below w.heap.size w wr)∧Hid (∀ i,i<288→(0<m.getD i 0↔0<l.getD i 0))∧Hid (0<sumW (fun i=>m.getD i 0) 288∧sumW (fun i=>m.getD i 0) 288≤1000000)) (fun wr=>msum wr g)
 case atStart=>exact ⟨l,Hown1,Hbel1,fun i _=>Iff.rfl,⟨H0.out,H1.out⟩⟩
 case round =>
  clear Hown1 Hbel1 H0 H1;obtain ⟨m,Hown,Hbel,Hpos,Hsum⟩:=hrel;have Hms:=hidI (qkl Hown.out);have hszr:=Hbel.out.size;have Hjn:=hidI (ql1 wr g cap (fun i=>m.getD i 0) _ rfl Hsum.out.2 Hsum.out.1 (fun i hi=>qcJ Hown.out hi));go_wp2_with fail;refine Hjn.out.mono ?_;rintro e w2 ⟨ln,rfl,hrow,hbel2,j1,j2,j3,j4⟩;have Hmx:=hidI (qmx w2 wr.heap.size 288 288 (fun i=>(ln i:Int)) (by omega) (by omega) (fun i hi=>hrow.cell hi));have Hrow:=hidI hrow;have Hbel2:=hidI hbel2;have J1:=hidI j1;have J2:=hidI j2;have J3:=hidI j3;have J4:=hidI j4;clear Hjn hrow hbel2 j1 j2 j3 j4;go_wp2_with fail;refine Hmx.out.mono ?_;rintro e w3 ⟨rfl,mx,rfl,hm1,⟨im,him,hm2⟩⟩;have Hm1:=hidI hm1;have Hm2:=hidI hm2;clear hm1 hm2 Hmx;have Hsy:Hid (symsTo (fun i=>m.getD i 0) 288=symsTo (fun i=>l.getD i 0) 288):=qcj _ _ 288 Hpos.out;by_cases hmx:mx≤12
  ·go_wp2;go_ret
   refine ⟨ln,wr.heap.size,rfl,hszr,Hrow.out,Hbel.out.trans (Hbel2.out.mono hszr),fun i hi=>(J1.out i hi).trans (Hpos.out i hi),J2.out,fun i => ?_,fun i => ?_,?_⟩
   ·by_cases hi:i<288
    ·have:=Hm1.out i hi;omega
    rw [J2.out i (by omega)];omega
   ·rw [←Hsy.out];exact (J3.out i).imp id And.right
   rw [←Hsy.out];exact J4.out
  have hbig:610≤sumW (fun i=>m.getD i 0) 288:=by
   have h:=Hm2.out;rcases J3.out im with h2 | ⟨h2,_⟩
   ·omega
   refine Nat.le_trans ?_ h2;rw [←qnx];exact qjR (by omega)
  have Hbig:=hidI hbig;have Hown3:=hidI (qcQ Hown.out Hbel2.out (Nat.le_refl _));have Hbel3:=hidI (Hbel.out.trans (Hbel2.out.mono hszr));clear hbig Hown Hbel Hrow Hbel2 J1 J2 J3 J4 Hm1 Hm2;go_wp2
  go_loopw [17] (fun i wq=>∃ k:Nat,∃ n:List Nat,i=.int .i64 (k:Nat)∧k≤288∧Hid (wq.ownsRow w.heap.size 3 1 (.slice (some ⟨g,0,none⟩) 288 cap) 288 (intsV n))∧Hid (Below w.heap.size w wq)∧Hid (∀ i,i<288→n.getD i 0=if i<k then (m.getD i 0+1)/2 else m.getD i 0)) (fun i _=>288 - (intOf i).toNat)
  case atStart=>exact ⟨0,m,rfl,by omega,Hown3,Hbel3,fun i _=>by rw [if_neg (by omega)]⟩
  clear Hown3 Hbel3;obtain ⟨k,n,rfl,hk,Hown,Hbel,Hn⟩:=hrel;by_cases hlt:k<288
  ·have y0:=qcJ Hown.out hlt;have hnk:=Hn.out k hlt;rw [if_neg (by omega)] at hnk;obtain ⟨x,hx⟩:∃ x,x=m.getD k 0:=⟨_,rfl⟩;have hxb:x≤1000000:=by
    have:=qmJ (fun i=>m.getD i 0) 288 k hlt
    have:=Hsum.out.2
    omega
   rw [hnk,←hx] at y0;have hst:=Hown.out.stored k (.int .i64 (((x+1)/2:Nat):Int));have hset:(intsV n).set k (.int .i64 (((x+1)/2:Nat):Int))=intsV (n.set k ((x+1)/2)):=by unfold intsV;rw [List.map_set]
   have yf:=Hown.out.frozenAt k;have hlen:=qbv Hown.out;have Hown2:=hst.1;rw [hset] at Hown2;have Hown2:=hidI Hown2;have Hbel2:=hidI (Hbel.out.setCell (p:=⟨g,k,none⟩) hgs (.int .i64 (((x+1)/2:Nat):Int)));have Hn2:Hid (∀ i,i<288→(n.set k ((x+1)/2)).getD i 0=if i<k+1 then (m.getD i 0+1)/2 else m.getD i 0):=fun i hi=>by
    rw [List.getD_eq_getElem?_getD,List.getElem?_set];by_cases e:k=i
    ·subst e;rw [if_pos rfl,if_pos (by omega),if_pos (by omega),←hx];rfl
    rw [if_neg e,←List.getD_eq_getElem?_getD,Hn.out i hi];by_cases h2:i<k
    ·rw [if_pos h2,if_pos (by omega)]
    rw [if_neg h2,if_neg (by omega)]
   have hdv:(((x+1)/2:Nat):Int)=((x:Int)+1)/2:=by omega
   rw [hdv] at Hown2 Hbel2;clear hst hset hnk hx hdv hlen Hown Hbel Hn;go_wp2;go_roundw
   case rel=>exact ⟨k+1,_,by go_num,by omega,Hown2,Hbel2,Hn2⟩
   case measure=>simp [intOf];omega
  have hk2:k=288:=by omega
  subst hk2;have Hg:Hid (∀ i,i<288→n.getD i 0=(m.getD i 0+1)/2):=fun i hi=>by rw [Hn.out i hi,if_pos hi]
  have hhalf:2*sumW (fun i=>n.getD i 0) 288≤sumW (fun i=>m.getD i 0) 288+288:=qjy _ _ _ fun i hi=>by
   have:=Hg.out i hi
   simp only [this];omega
  have Hpos2:Hid (∀ i,i<288→(0<n.getD i 0↔0<l.getD i 0)):=fun i hi=>by
   rw [Hg.out i hi,←Hpos.out i hi];omega
  have Hsum2:Hid (0<sumW (fun i=>n.getD i 0) 288∧sumW (fun i=>n.getD i 0) 288≤1000000):=by
   refine ⟨qlr (fun i=>m.getD i 0) _ 288 (fun i hi => ?_) Hsum.out.1,?_⟩
   ·simp only [Hg.out i hi];omega
   have:=Hsum.out.2;have:=Hbig.out;omega
  have Hms2:=hidI (qkl Hown.out);have Hhalf:=hidI hhalf;clear hhalf Hn Hg;go_wp2;go_roundw
  case rel=>exact ⟨n,Hown,Hbel,Hpos2,Hsum2⟩
  rw [Hms2.out,Hms.out]
  have:=Hhalf.out;have:=Hbig.out
  omega
def cntS (l:List (Nat × Nat)) (i:Nat):Nat:=sumL (fun s=>if s.1=i then 1 else 0) l
theorem qmE (l:List (Nat × Nat)) (i:Nat):cntS l i≤l.length:=by
 unfold cntS
 induction l with
 | nil=>exact Nat.le_refl _
 | cons x l ih=>simp only [sumL,List.length_cons];split<;>omega
theorem qjd (l:List (Nat × Nat)) (k i:Nat) (h:k<l.length):cntS (l.take (k+1)) i=cntS (l.take k) i+if (l.getD k (0,0)).1=i then 1 else 0:=by
 unfold cntS;rw [List.take_add_one,List.getElem?_eq_getElem h,qay,List.getD_eq_getElem?_getD,List.getElem?_eq_getElem h];simp [sumL]
theorem qg4 (l:List (Nat × Nat)) (i:Nat):0<cntS l i↔∃ s∈l,s.1=i:=by
 unfold cntS
 induction l with
 | nil=>simp [sumL]
 | cons x l ih =>
   simp only [sumL,List.mem_cons,exists_eq_or_imp];by_cases e:x.1=i
   ·simp [e];omega
   simp only [if_neg e,Nat.zero_add,ih]
   constructor
   ·intro h;exact .inr h
   rintro (h | h)
   ·exact absurd h e
   exact h
theorem qlM (f g:Nat→Nat) (k:Nat):sumW (fun i=>f i+g i) k=sumW f k+sumW g k:=by
 induction k with
 | zero=>rfl
 | succ k ih=>simp only [sumW];rw [ih];omega
theorem ql8 (x k:Nat):sumW (fun i=>if x=i then 1 else 0) k=if x<k then 1 else 0:=by
 induction k with
 | zero=>simp [sumW]
 | succ k ih =>
   simp only [sumW];rw [ih];by_cases e:x=k
   ·subst e;simp
   by_cases h:x<k
   ·rw [if_pos h,if_neg e,if_pos (by omega)]
   rw [if_neg h,if_neg e,if_neg (by omega)]
theorem qlC (l:List (Nat × Nat)) (h:∀ s∈l,s.1<288):sumW (cntS l) 288=l.length:=by
 induction l with
 | nil =>
   have:sumW (cntS []) 288=sumW (fun _=>0) 288:=qbt _ _ _ fun i _=>rfl
   rw [this]
   have:∀ k,sumW (fun _=>0) k=0:=fun k=>by induction k with
    | zero=>rfl
    | succ k ih=>simp only [sumW];omega
   rw [this];rfl
 | cons x l ih =>
   have e:sumW (cntS (x :: l)) 288=sumW (fun i=>(if x.1=i then 1 else 0)+cntS l i) 288:=qbt _ _ _ fun i _=>rfl
   rw [e,qlM,ql8,if_pos (h x (by simp)),ih (fun s hs=>h s (by simp [hs]))];simp;omega
theorem qhm {w:World} {b n:Nat} {f:Nat→Nat} (h:w.rowIs b 3 n (fun j=>.int .i64 (f j:Nat))) (hn:n≤maxLen):w.ownsRow 0 3 1 (.slice (some ⟨b,0,none⟩) n n) n (intsV ((List.range n).map f)):=by
 obtain ⟨c,hb,hs,hc⟩:=h;refine ⟨by simp [intsV],.inr ⟨b,n,c,rfl,Nat.zero_le _,hb,Nat.le_refl _,hn,by omega,?_⟩⟩;rw [List.take_of_length_le (by simp;omega)];unfold intsV;rw [List.map_map]
 apply List.ext_getElem?
 intro i;by_cases hi:i<n
 ·rw [List.getElem?_map,List.getElem?_range hi]
  have:=hc i hi
  simpa using this
 rw [List.getElem?_eq_none (by simp;omega),List.getElem?_eq_none (by simp;omega)]
theorem qcc (f:Nat→Nat) (n i:Nat) (h:i<n):((List.range n).map f).getD i 0=f i:=by
 rw [List.getD_eq_getElem?_getD,List.getElem?_map,List.getElem?_range h];rfl
theorem qgu (w:World) (sb cnt cap:Nat) (l:List (Nat × Nat)) (hl:l.length=cnt) (hc:cnt≤4000) (hsy:∀ s∈l,s.1<288) (hown:w.ownsRow 0 282 2 (.slice (some ⟨sb,0,none⟩) cnt cap) cnt (qaj l)) :
 Calls Tryz.prog 247 #[.slice (some ⟨sb,0,none⟩) cnt cap] w fun e w'=>e=.returned (.slice (some ⟨w.heap.size,0,none⟩) 288 288)∧w'.rowIs w.heap.size 3 288 (fun j=>.int .i64 (cntS l j:Nat))∧Below w.heap.size w w':=by
 obtain ⟨M,hM⟩:∃ M,M=madeCells #[Value.int .i64 0] 288:=⟨_,rfl⟩;have hmk:∀ W:World,(Instr.makeSlice 22 (.int .i64 288) (.int .i64 288)).run Tryz.prog W=.ok (.slice (some ⟨W.heap.size,0,none⟩) 288 288) (W.alloc (.cells M 3)):=fun W=>by
  rw [hM];exact run_make_row' (P:=Tryz.prog) 22 3 (.int .i64 0) 8 Tryz.underlying22 Tryz.info3 rfl .i64 .i64 288 (by omega) (by omega) W
 have Hrow0:Hid ((w.alloc (.cells M 3)).rowIs w.heap.size 3 288 (fun j=>.int .i64 (cntS (l.take 0) j:Nat))):=by rw [hM];exact World.rowIs_made w (.int .i64 0) 288 3
 clear hM;have hsb:=(hown.lt sb rfl).2;have Hcell:Hid (∀ i,i<cnt→w.cell? ⟨sb,i*2,none⟩=some (.int .i64 ((l.getD i (0,0)).1:Nat))∧w.cell? ⟨sb,i*2+1,none⟩=some (.int .i64 ((l.getD i (0,0)).2:Nat))):=fun i hi=>by
  rw [hown.cellAt (i*2) (by omega),hown.cellAt (i*2+1) (by omega),Nat.mul_comm i 2];exact qbO l i (by omega)
 have Hsy:=hidI hsy;have Hl:=hidI hl;clear hown hsy hl;go_enter Tryz.func247,Tryz.ntmps247
 go_wp2;clear hmk
 go_loopw [9] (fun i wr=>∃ k:Nat,i=.int .i64 (k:Nat)∧k≤cnt∧Hid (wr.rowIs w.heap.size 3 288 (fun j=>.int .i64 (cntS (l.take k) j:Nat)))∧Hid (Below w.heap.size w wr)) (fun i _=>cnt - (intOf i).toNat)
 case atStart=>exact ⟨0,rfl,by omega,Hrow0,(Below.refl _ w).alloc (Nat.le_refl _) _⟩
 case round =>
  clear Hrow0;obtain ⟨k,rfl,hk,Hrow,Hbel⟩:=hrel;by_cases hlt:k<cnt
  ·obtain ⟨c1,c2⟩:=Hcell.out k hlt;have hkl:k<l.length:=by have:=Hl.out;omega
   have hmem:l.getD k (0,0)∈l:=by
    rw [List.getD_eq_getElem?_getD,List.getElem?_eq_getElem hkl];exact List.getElem_mem hkl
   have hs288:=Hsy.out _ hmem;obtain ⟨s,hs⟩:∃ s,s=(l.getD k (0,0)).1:=⟨_,rfl⟩;obtain ⟨b,hb⟩:∃ b,b=(l.getD k (0,0)).2:=⟨_,rfl⟩;rw [←hs] at c1 hs288;rw [←hb] at c2;have x1:wr.cell? ⟨sb,k*2,none⟩=some (.int .i64 (s:Nat)):=by rw [Hbel.out.cell (p:=⟨sb,k*2,none⟩) hsb];exact c1
   have x2:wr.cell? ⟨sb,k*2+1,none⟩=some (.int .i64 (b:Nat)):=by rw [Hbel.out.cell (p:=⟨sb,k*2+1,none⟩) hsb];exact c2
   have hszr:=Hbel.out.size;have hrow:=Hrow.out.alloc (.cells #[.int .i64 (s:Nat),.int .i64 (b:Nat)] 282);have y1:=hrow.cell (i:=s) hs288;have yf:=hrow.frozen s;obtain ⟨x,hx⟩:∃ x,x=cntS (l.take k) s:=⟨_,rfl⟩;have hxk:x≤4000:=by
    rw [hx];have:=qmE (l.take k) s;rw [List.length_take] at this;omega
   rw [←hx] at y1;have hset:=hrow.set s (.int .i64 ((x:Int)+1));have Hrow2:Hid (((wr.alloc (.cells #[.int .i64 (s:Nat),.int .i64 (b:Nat)] 282)).setCell ⟨w.heap.size,s,none⟩ (.int .i64 ((x:Int)+1))).rowIs w.heap.size 3 288 (fun j=>.int .i64 (cntS (l.take (k+1)) j:Nat))):=hset.congr fun j _=>by
    rw [qjd l k j hkl,←hs];by_cases e:j=s
    ·subst e;rw [if_pos rfl,if_pos rfl,hx];rfl
    rw [if_neg e,if_neg (fun h=>e h.symm)];rfl
   have Hbel2:Hid (Below w.heap.size w ((wr.alloc (.cells #[.int .i64 (s:Nat),.int .i64 (b:Nat)] 282)).setCell ⟨w.heap.size,s,none⟩ (.int .i64 ((x:Int)+1)))):=(Hbel.out.alloc hszr _).setCell (p:=⟨w.heap.size,s,none⟩) (Nat.le_refl _) _;clear hset hrow hs hb hx hmem c1 c2 Hrow Hbel;go_wp2;go_roundw
   case rel=>exact ⟨k+1,by go_num,by omega,Hrow2,Hbel2⟩
   case measure=>simp [intOf];omega
  have hkc:k=cnt:=by omega
  subst hkc;have htk:l.take k=l:=List.take_of_length_le (by have:=Hl.out;omega);rw [htk] at Hrow;clear htk;go_wp2;go_ret
  exact ⟨rfl,Hrow.out,Hbel.out⟩
theorem qjG (M K:Nat) (hK:K=M+12) (S:List Nat) (ln:Nat→Nat) (h:∀ i∈S,ln i≤12) (hk:sumL (fun i=>2^(K - ln i)) S≤2^K):sumL (fun i=>2^(12 - ln i)) S≤4096:=by
 have e:sumL (fun i=>2^(K - ln i)) S=2^M*sumL (fun i=>2^(12 - ln i)) S:=by
  rw [←qeF];refine qbu fun i hi => ?_
  rw [←Nat.pow_add]
  congr 1
  have:=h i hi;omega
 have e2:2^K=2^M*4096:=by rw [hK,Nat.pow_add]
 rw [e,e2] at hk;exact Nat.le_of_mul_le_mul_left hk (Nat.pow_pos (by omega))
theorem qk0 (S:List Nat) (ln:Nat→Nat) (h:∀ i∈S,ln i≤12) (hk:sumL (fun i=>2^(288 - ln i)) S≤2^288):sumL (fun i=>2^(12 - ln i)) S≤4096:=
 qjG 276 288 rfl S ln h hk
theorem qhw (ln c:Nat→Nat) (k:Nat) (h:∀ i,i<k→(0<ln i↔0<c i)):sumTo (fun i=>(ln i:Int)) k=(sumL (fun i=>2^(12 - ln i)) (symsTo c k):Nat):=by
 induction k with
 | zero=>rfl
 | succ k ih =>
   have h1:=ih (fun i hi=>h i (by omega));have h2:=h k (by omega);rw [sumTo,h1];unfold wt;by_cases e:0<c k
   ·rw [qcg c k e,qay,if_pos (by have:=h2.2 e;omega)];simp only [sumL,Nat.add_zero]
    have:((12:Int) - (ln k:Int)).toNat=12 - ln k:=by omega
    rw [this];simp
   rw [qdz c k (by omega),if_neg (by have:¬0<ln k:=fun hh=>e (h2.1 hh);omega)];omega
theorem qmQ (ln c:Nat→Nat) (h1:∀ i,i<288→(0<ln i↔0<c i)) (h2:∀ i,ln i≤12) (hk:sumL (fun i=>2^(288 - ln i)) (symsTo c 288)≤2^288):Fits (fun i=>(ln i:Int)) 288:=by
 refine ⟨fun k _=>⟨by omega,by have:=h2 k;omega⟩,?_⟩;rw [qhw ln c 288 h1]
 have:=qk0 (symsTo c 288) ln (fun i _=>h2 i) hk
 omega
theorem qmu (ln c:Nat→Nat) (k:Nat) (h:∀ i,i<k→(0<ln i↔0<c i)):nz (fun i=>(ln i:Int)) k=(symsTo c k).length:=by
 induction k with
 | zero=>rfl
 | succ k ih =>
   have h2:=h k (by omega);rw [nz,ih (fun i hi=>h i (by omega))];by_cases e:0<c k
   ·rw [qcg c k e,if_neg (by have:=h2.2 e;omega)];simp
   rw [qdz c k (by omega),if_pos (by have:¬0<ln k:=fun hh=>e (h2.1 hh);omega)];rfl
theorem qkJ (l:List Nat) (hn:l.Nodup) (a b c:Nat) (h:∀ x∈l,x=a∨x=b∨x=c):l.length≤3:=by
 match l,hn,h with
 | [],_,_=>simp
 | [_],_,_=>simp
 | [_,_],_,_=>simp
 | [_,_,_],_,_=>simp
 | p :: q :: r :: s :: t,hn,h =>
   exfalso
   simp only [List.nodup_cons,List.mem_cons,not_or] at hn;have h1:=h p (by simp);have h2:=h q (by simp);have h3:=h r (by simp);have h4:=h s (by simp);omega
def sbits (ln:Nat→Nat) (s:Nat × Nat):Nat:=ln s.1+if s.1<256 then 0 else 12
theorem qgz (ln:Nat→Nat) (l:List (Nat × Nat)) (h:∀ s∈l,ln s.1≤2):sumL (sbits ln) l≤2*litS l+14*cpS l:=by
 unfold litS cpS
 induction l with
 | nil=>simp [sumL]
 | cons x l ih =>
   have h1:=h x (by simp);have h2:=ih (fun s hs=>h s (by simp [hs]));simp only [sumL,sbits] at h2 ⊢
   split<;>omega
theorem qhI {n c pos len:Nat} {l:List (Nat × Nat)} {ln:Nat→Nat} (hn:0<n) (has:AS n c n l) (h1:∀ i,i<288→(0<ln i↔0<cntS l i)) (h2:∀ i,ln i≤1∨ln i+1≤(symsTo (cntS l) 288).length)
 (hpos:pos≤24+13*nz (fun i=>(ln i:Int)) 288+90+sumL (sbits ln) l) (hlen:8*len<pos+8):len≤40+n/16:=by
 have key:∀ x,(∀ s∈l,s.1=c∨s.1=287∨s.1=x)→litS l≤3→34*cpS l≤n+33→len≤40+n/16:=fun x hx hlit hcp=>by
  have h3:(symsTo (cntS l) 288).length≤3:=qkJ _ (qct _ _) c 287 x fun y hy=>by
   have:=((qd7 _ _ _).1 hy).2
   obtain ⟨s,hs,rfl⟩:=(qg4 l y).1 this;exact hx s hs
  have h4:=qgz ln l fun s _=>by have:=h2 s.1;omega
  rw [qmu ln (cntS l) 288 h1] at hpos;omega
 cases has with
 | start h _=>omega
 | run a b e f=>exact key c (fun s hs=>(f s hs).elim .inl (fun h=>.inr (.inl h))) (by omega) (by omega)
 | rest x a b e f=>exact key x f (by omega) (by omega)
theorem qgO (s:List UInt8) (k:Nat):val s (8*k) 8=(s.getD k 0).toNat:=by
 have hb:∀ j,j<8→bt s (8*k+j)=(s.getD k 0).toNat/2^(7 - j)%2:=fun j hj=>by
  unfold bt;rw [show (8*k+j)/8=k by omega,show (8*k+j)%8=j by omega]
 have hx:=(s.getD k 0).toNat_lt;simp only [qaD,qlW];rw [hb 7 (by omega),hb 6 (by omega),hb 5 (by omega),hb 4 (by omega),hb 3 (by omega),hb 2 (by omega),hb 1 (by omega),hb 0 (by omega)];simp only [Nat.sub_self,Nat.sub_zero]
 generalize (s.getD k 0).toNat=x at *
 simp only [show (2:Nat)^0=1 from rfl,show (2:Nat)^(7 - 6)=2 from rfl,show (2:Nat)^(7 - 5)=4 from rfl,show (2:Nat)^(7 - 4)=8 from rfl,show (2:Nat)^(7 - 3)=16 from rfl,show (2:Nat)^(7 - 2)=32 from rfl,show (2:Nat)^(7 - 1)=64 from rfl,show (2:Nat)^7=128 from rfl];omega
theorem qgi {b T:List UInt8} {pos k:Nat} (h:Ag b T pos) (hk:8*k+8≤pos):T.getD k 0=b.getD k 0:=by
 apply UInt8.toNat_inj.1
 rw [←qgO,←qgO];exact h.val _ _ hk
theorem qnk {d T:List UInt8} {z:Nat→Int} {p1 p2:Nat} {b:List UInt8} (h0:0<d.length) (hd:d.length≤4000) (hb:b=[1,UInt8.ofNat (d.length/256),UInt8.ofNat (d.length%256)]) (hag:Ag b T 24) (h24:24≤p2) (hf:Fits z 288) (hw:Wr T p2) (hl:lensF (T.drop 3) 288 0 0 (fun _=>0)=some (z,p1 - 24)) (hdt:dataF (T.drop 3) z 288 d.length d.length [] (p1 - 24)=some (d,p2 - 24)) :
 unpF 288 T=some d:=by
 have hlen:=hag.len;have e0:=qgi (k:=0) hag (by omega);have e1:=qgi (k:=1) hag (by omega);have e2:=qgi (k:=2) hag (by omega);have hbody:=qj6 h24 hf hw hl hdt;subst hb;simp only [List.length_cons,List.length_nil] at hlen
 match T,hlen,e0,e1,e2,hbody with
 | t0 :: t1 :: t2 :: r,_,e0,e1,e2,hbody =>
   simp at e0 e1 e2;subst e0;have hh:256*t1.toNat+t2.toNat=d.length:=by
    rw [e1,e2,UInt8.toNat_ofNat',UInt8.toNat_ofNat'];omega
   rw [qfe 288 (t1 :: t2 :: r) (by simp) (by show ¬(256*t1.toNat+t2.toNat<1∨4000<256*t1.toNat+t2.toNat);omega)];simp only [List.getD_cons_zero,List.getD_cons_succ,List.drop_succ_cons,List.drop_zero] at hbody ⊢;rw [hh];exact hbody
end Go.Proofs.YtodmdkhdbfbfgaaGreatDoor.S1
