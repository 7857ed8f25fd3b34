/- Lemmas. -/
import Derived.Sort.WalkA
import Derived.Test.YtodmdkhdbfbfgabGreatDoorM32
set_option linter.unusedVariables false
set_option linter.unusedSimpArgs false
set_option maxRecDepth 100000
set_option maxHeartbeats 8000000
namespace Go.Proofs.YtodmdkhdbfbfgabGreatDoor.S1
open Go.RowKit Pk
theorem copy_any (w:World) (lo hi cb:Nat) (L:Loc) (m:M) (hw:WF m) (h:CP w lo hi cb L m) (hsz:hi≤w.heap.size) :
 Calls Tryz.prog 17 #[.pointer (some ⟨cb,0,none⟩)] w fun e w'=>∃ L',e=.returned (.pointer (some ⟨w.heap.size,0,none⟩))∧CP w' w.heap.size w'.heap.size w.heap.size L' m∧Below w.heap.size w w':=by
 have c0:=MemX.c0 h;have c1:=MemX.c1 h;have c2:=MemX.c2 h;have c3:=MemX.c3 h;have c4:=MemX.c4 h;have c5:=MemX.c5 h;have c6:=MemX.c6 h;have c7:=MemX.c7 h;have hnb1:=hw.nb1;have hnb2:=hw.nb2;have hnp1:=hw.np1;have hnp2:=hw.np2;have Hh:Hid (∀ W,Below w.heap.size w W→CP W lo hi cb L m):=fun W hb=>MemX.below h hsz hb
 clear h;go_enter Tryz.func17,Tryz.ntmps17
 go_wp2;have hG:cb<w.heap.size:=Nat.lt_of_lt_of_le (Hh.out _ (Below.refl _ _)).hcb.2 hsz;have Hst0:=hidI (heap_alloc_new w (Obj.cells #[.int .i64 (m.np:Nat),.slice none 0 0,.slice (some ⟨L.nk,0,none⟩) m.nb L.cn,.slice (some ⟨L.bk,0,none⟩) m.nb L.ck,.int .i64 m.life,.int .i64 m.cut,.int .i64 m.fail,.int .i64 m.part] 60));have Hb0:=hidI ((Below.refl w.heap.size w).alloc (Nat.le_refl _) (Obj.cells #[.int .i64 (m.np:Nat),.slice none 0 0,.slice (some ⟨L.nk,0,none⟩) m.nb L.cn,.slice (some ⟨L.bk,0,none⟩) m.nb L.ck,.int .i64 m.life,.int .i64 m.cut,.int .i64 m.fail,.int .i64 m.part] 60));clear c0 c1 c2 c3 c4 c5 c6 c7;obtain ⟨i0,hi0,hz0,hz1,hz2⟩:=info_parts Tryz.info23;obtain ⟨j0,gi,gz0,gz1,gz2⟩:=info_parts Tryz.info9;obtain ⟨k0,ki,kz0,kz1,kz2⟩:=info_parts Tryz.info3;obtain ⟨l0,li,lz0,lz1,lz2⟩:=info_parts Tryz.info4;obtain ⟨G,hGe⟩:∃ G,G=w.heap.size:=⟨_,rfl⟩;rw [←hGe] at Hst0 Hb0 Hh hG hsz ⊢
 have HGe:=hidI hGe;clear hGe
 go_loopw [4] (fun x wr=>∃ k:Nat,k≤m.nb∧x=.int .i64 k∧∃ da dc rw cr,wr.heap[G]? = some (.cells #[.int .i64 (m.np:Nat),.slice da k dc,.slice (some ⟨L.nk,0,none⟩) m.nb L.cn,.slice (some ⟨L.bk,0,none⟩) m.nb L.ck,.int .i64 m.life,.int .i64 m.cut,.int .i64 m.fail,.int .i64 m.part] 60 (0,0))∧Data wr G (.slice da k dc) k m.np rw cr (fun i p=>id (m.pg i p))∧Below G w wr) (fun x _=>m.nb - (intOf x).toNat)
 case atStart=>exact ⟨0,by omega,rfl,none,0,fun _=>0,fun _=>0,Hst0.out,Data.nil _ _ _ _ _ _,Hb0.out⟩
 case round =>
  clear Hst0 Hb0;obtain ⟨k,hk,rfl,da,dc,rw,cr,hst,hdat,hbel⟩:=hrel;have hm:=Hh.out _ hbel;have c1:=MemX.c1 hm;have hGr:G<wr.heap.size:=lt_of_heap hst;by_cases hlt:k<m.nb
  ·have cd:=hm.data.cell hlt;have hrow:=hm.page k hlt;have Hst:=hidI hst;have Hdat:=hidI hdat;have Hbel:=hidI hbel;have Hm:=hidI hm;clear hst hdat hbel hm;have x0:wr.cell? ⟨G,1,none⟩=some (.slice da k dc):=by rw [cell_of_row wr G 1 _ 60 (0,0) Hst.out];rfl
   have hl0:(((List.range m.np).map fun p=>Value.string (txt (id (m.pg k p))))).length=m.np*1:=by simp
   have h1c:∀ u∈((List.range m.np).map fun p=>Value.string (txt (id (m.pg k p)))),u.oneCell'=true:=(by intro u hu;simp at hu;obtain ⟨p,_,rfl⟩:=hu;rfl);have Hrn:=hidI hrow.news;clear hrow;go_wp2_with fail;go_region_law (first
    | (refine step_append_lies _ (by rfl) _ _ _ (by rfl) G 9 j0 _ 1 16 Tryz.underlying61 gi gz0 gz1 gz2 rfl (by omega) (.slice none 0 0) 0 [] (by rfl) (World.ownsRow_nil _ _ _ _) ⟨L.rw k,0,none⟩ m.np (L.cr k) ((List.range m.np).map fun p=>Value.string (txt (id (m.pg k p)))) (by rfl) hl0 Hrn.out h1c (by omega) (by unfold maxLen;omega) (by omega) (by simp;omega) wr.heap.size (by simp) ?_;intro g cap w1 hown hgrow hat hlt1;have HgW:Hid (g=wr.heap.size):=(by rcases hat with h | h;(· simp [Value.ownBlock] at h);(· exact h));have K1:∀ t,Keeps t wr w1:=(fun t k x f e=>hgrow.block k (lt_of_heap e) (by simp [Value.ownBlock]));have hst1:=(K1 60).block Hst.out;have Hbel1:Hid (Below G w w1):=Hbel.out.drew.grown hgrow (Nat.le_of_lt hGr) (fun q hq=>by simp [Value.ownBlock] at hq);have x1:w1.cell? ⟨G,1,none⟩=some (.slice da k dc):=(by rw [cell_of_row w1 G 1 _ 60 (0,0) hst1];rfl);have x1a:∀ o,(w1.alloc o).cell? ⟨G,1,none⟩=some (.slice da k dc):=(fun o=>(World.cell?_of_block (w:=w1) (Below.heap_alloc w1 o G (World.block_lt_of_cell? w1 ⟨G,1,none⟩ x1))).trans x1);have Hown23:=hidI ((K1 61).own Hdat.out.own);have Hrw1:Hid (Rw w1 g 9 m.np (fun p=>.string (txt (id (m.pg k p))))):=(by
        have hown:w1.ownsRow G 9 1 (.slice (some ⟨g,0,none⟩) m.np cap) m.np ((List.range m.np).map fun p=>.string (txt (id (m.pg k p)))):=(by simpa using hown);obtain ⟨g',cap',hgc,_,hrw1⟩:=qhd hown (by omega);simp at hgc;obtain ⟨rfl,rfl⟩:=hgc;exact hrw1);have hgs:wr.heap.size≤w1.heap.size:=hgrow.size;have HK1:=hidI K1;have Hst1:=hidI hst1;clear hgrow hat hst1 hown K1)
    | (refine step_append_lies _ (by rfl) _ _ _ (by rfl) G 61 i0 _ 1 24 Tryz.underlying57 hi0 hz0 hz1 hz2 rfl (by omega) (.slice da k dc) k _ (by rfl) (Hown23.out.alloc _) ⟨w1.heap.size,0,none⟩ 1 1 [.slice (some ⟨g,0,none⟩) m.np cap] (by rfl) rfl (cell_one_new _ _ _) (by intro u hu;simp at hu;subst hu;rfl) (by omega) (by unfold maxLen;omega) (by omega) (by simp;omega) (w1.heap.size+1) (by simp) ?_;intro g2 cap2 w2 hown2 hgrow2 hat2 hlt2;have K2:∀ t,t≠61→Keeps t w1 w2:=(fun t ht=>((Keeps.refl t w1).alloc _).grown (Hown23.out.alloc _) (fun e=>ht e.symm) hgrow2);have hst2:=(K2 60 (by decide)).block Hst1.out;have x2:w2.cell? ⟨G,1,none⟩=some (.slice da k dc):=(by rw [cell_of_row w2 G 1 _ 60 (0,0) hst2];rfl);have f2:=frozen_of_row w2 G 1 _ 60 hst2;have Hbel2:Hid (Below G w w2):=(Hbel1.out.alloc (Nat.le_trans (Nat.le_of_lt hGr) hgs) _).grown hgrow2 (by simp;omega) (fun q hq=>(Hown23.out.lt q hq).1);have HK2:=hidI K2;have Hst2:=hidI hst2;have Hown2:=hidI hown2;clear hown2 hgrow2 hat2 K2 hst2))
   all_goals have hst3:=heap_setCell_same w2 G 1 _ 60 (.slice (some ⟨g2,0,none⟩) (k+1) cap2) Hst2.out
   all_goals have K9:Keeps 9 wr (w2.setCell ⟨G,1,none⟩ (.slice (some ⟨g2,0,none⟩) (k+1) cap2)):=((HK1.out 9).trans (HK2.out 9 (by decide))).set Hst2.out (by decide)
   all_goals have K23:Keeps 61 w2 (w2.setCell ⟨G,1,none⟩ (.slice (some ⟨g2,0,none⟩) (k+1) cap2)):=(Keeps.refl _ _).set Hst2.out (by decide)
   all_goals have K9':Keeps 9 w1 (w2.setCell ⟨G,1,none⟩ (.slice (some ⟨g2,0,none⟩) (k+1) cap2)):=(HK2.out 9 (by decide)).set Hst2.out (by decide)
   all_goals have hdat3:=Hdat.out.push K9 (r:=g) (c:=cap) (f:=fun p=>id (m.pg k p)) (by rw [HgW.out];omega) (by rw [HgW.out];omega) (K9'.rw Hrw1.out) (K23.own Hown2.out)
   all_goals have hpe:put (fun i p=>id (m.pg i p)) k (fun p=>id (m.pg k p))=fun i p=>id (m.pg i p):=(by
    funext a b
    unfold put;by_cases e:a=k
    ·rw [if_pos e,e]
    rw [if_neg e])
   all_goals rw [hpe] at hdat3
   all_goals have Hbel3:=hidI (Hbel2.out.setCell (p:=⟨G,1,none⟩) (Nat.le_refl _) (.slice (some ⟨g2,0,none⟩) (k+1) cap2))
   all_goals have Hst3:=hidI hst3
   all_goals have Hdat3:=hidI hdat3
   all_goals clear hst3 hdat3 K9 K23 K9' hpe
   all_goals go_wp2
   all_goals (go_roundw;(case rel=>exact ⟨k+1,by omega,by go_num,some ⟨g2,0,none⟩,cap2,_,_,Hst3.out,Hdat3.out,Hbel3.out⟩);(case measure=>simp [intOf];omega))
  have hke:m.nb=k:=by omega
  subst hke;have a1:=MemX.c2 hm;have Hst:=hidI hst;have Hdat:=hidI hdat;have Hbel:=hidI hbel;have hrn:=hm.next;clear hst hdat hbel hm;go_wp2_with (at_builtin;refine wpList_append_lies _ rfl _ _ 22 rfl G 3 k0 (.int .i64 0) 1 8 Tryz.underlying22 ki kz0 kz1 kz2 rfl (by decide) (.slice none 0 0) 0 [] rfl (World.ownsRow_nil _ _ _ _) ⟨L.nk,0,none⟩ m.nb L.cn ((List.range m.nb).map fun i=>.int .i64 (m.nx i:Nat)) rfl ?c0 ?c1 ?c2 ?c3 ?c4 ?c5 ?c6 wr.heap.size rfl ?_)
  case c0=>simp
  case c1=>exact hrn.news
  case c2=>intro u hu;simp at hu;obtain ⟨p,_,rfl⟩:=hu;rfl
  case c3=>omega
  case c4=>unfold maxLen;omega
  case c5=>omega
  case c6=>omega
  intro g cap w1 hown hgrow hat hlt1;have hown1:w1.ownsRow G 3 1 (.slice (some ⟨g,0,none⟩) m.nb cap) m.nb ((List.range m.nb).map fun i=>.int .i64 (m.nx i:Nat)):=(by simpa using hown);have K1:∀ t,Keeps t wr w1:=fun t k x f e=>hgrow.block k (lt_of_heap e) (by simp [Value.ownBlock])
  have hst1:=(K1 60).block Hst.out;have z2:w1.cell? ⟨G,2,none⟩=some (.slice (some ⟨L.nk,0,none⟩) m.nb L.cn):=(by rw [cell_of_row w1 G 2 _ 60 (0,0) hst1];rfl);have zf:=frozen_of_row w1 G 2 _ 60 hst1;have hstB:=heap_setCell_same w1 G 2 _ 60 (.slice (some ⟨g,0,none⟩) m.nb cap) hst1;have hownB:=((Keeps.refl 3 w1).set (o:=2) (v:=.slice (some ⟨g,0,none⟩) m.nb cap) hst1 (by decide)).own hown1;have hdatB:=Hdat.out.keep ((K1 9).set (o:=2) (v:=.slice (some ⟨g,0,none⟩) m.nb cap) hst1 (by decide)) ((K1 61).set (o:=2) (v:=.slice (some ⟨g,0,none⟩) m.nb cap) hst1 (by decide));have hbelB:Below G w (w1.setCell ⟨G,2,none⟩ (.slice (some ⟨g,0,none⟩) m.nb cap)):=(Hbel.out.grown hgrow (Nat.le_of_lt hGr) (fun q hq=>by simp [Value.ownBlock] at hq)).setCell (Nat.le_refl _) _;have HstB:=hidI hstB;have HownB:=hidI hownB;have HdatB:=hidI hdatB;have HbelB:=hidI hbelB;have hmb:=Hh.out _ hbelB;have b3:=MemX.c3 hmb
  have hrb:=hmb.bad;have hGb:G<(w1.setCell ⟨G,2,none⟩ (.slice (some ⟨g,0,none⟩) m.nb cap)).heap.size:=lt_of_heap hstB;clear hstB hownB hdatB hbelB hmb hst1 hown hown1 hgrow hat K1 Hst Hdat Hbel hrn a1;go_wp2_with (at_builtin;refine wpList_append_lies _ rfl _ _ 58 rfl G 4 l0 (.bool false) 1 1 Tryz.underlying58 li lz0 lz1 lz2 rfl (by decide) (.slice none 0 0) 0 [] rfl (World.ownsRow_nil _ _ _ _) ⟨L.bk,0,none⟩ m.nb L.ck ((List.range m.nb).map fun i=>.bool (m.bd i)) rfl ?c0 ?c1 ?c2 ?c3 ?c4 ?c5 ?c6 (w1.setCell ⟨G,2,none⟩ (.slice (some ⟨g,0,none⟩) m.nb cap)).heap.size rfl ?_)
  case c0=>simp
  case c1=>exact hrb.news
  case c2=>intro u hu;simp at hu;obtain ⟨p,_,rfl⟩:=hu;rfl
  case c3=>omega
  case c4=>unfold maxLen;omega
  case c5=>omega
  case c6=>omega
  intro g3 cap3 w3 hown hgrow hat hlt3;have hown1:w3.ownsRow G 4 1 (.slice (some ⟨g3,0,none⟩) m.nb cap3) m.nb ((List.range m.nb).map fun i=>.bool (m.bd i)):=(by simpa using hown);have K1:∀ t,Keeps t (w1.setCell ⟨G,2,none⟩ (.slice (some ⟨g,0,none⟩) m.nb cap)) w3:=fun t k x f e=>hgrow.block k (lt_of_heap e) (by simp [Value.ownBlock])
  have hst1:=(K1 60).block HstB.out;have y2:w3.cell? ⟨G,3,none⟩=some (.slice (some ⟨L.bk,0,none⟩) m.nb L.ck):=(by rw [cell_of_row w3 G 3 _ 60 (0,0) hst1];rfl);have yf:=frozen_of_row w3 G 3 _ 60 hst1;have hstD:=heap_setCell_same w3 G 3 _ 60 (.slice (some ⟨g3,0,none⟩) m.nb cap3) hst1;have hownD:=((Keeps.refl 4 w3).set (o:=3) (v:=.slice (some ⟨g3,0,none⟩) m.nb cap3) hst1 (by decide)).own hown1;have hownN:=((K1 3).set (o:=3) (v:=.slice (some ⟨g3,0,none⟩) m.nb cap3) hst1 (by decide)).own HownB.out;have hdatD:=HdatB.out.keep ((K1 9).set (o:=3) (v:=.slice (some ⟨g3,0,none⟩) m.nb cap3) hst1 (by decide)) ((K1 61).set (o:=3) (v:=.slice (some ⟨g3,0,none⟩) m.nb cap3) hst1 (by decide));have hbelD:Below G w (w3.setCell ⟨G,3,none⟩ (.slice (some ⟨g3,0,none⟩) m.nb cap3)):=(HbelB.out.grown hgrow (Nat.le_of_lt hGb) (fun q hq=>by simp [Value.ownBlock] at hq)).setCell (Nat.le_refl _) _
  have HE:=hidI (MemX.built (T:=60) (enc:=id) (g4:=m.life) (g5:=m.cut) (g6:=m.fail) (g7:=m.part) (by omega:0<m.nb) (by decide) (Nat.le_refl G) hstD hdatD (fun i p _ _=>rfl) hownN hownD);have HbelD:=hidI hbelD;clear hown1 hstD hownD hownN hdatD hbelD HstB HbelB HdatB HownB hst1 K1 hown hgrow hat z2 zf b3 hrb;go_wp2;go_ret
  obtain ⟨L',hL⟩:=HE.out;rw [←HGe.out];exact ⟨L',rfl,hL,HbelD.out⟩
end Go.Proofs.YtodmdkhdbfbfgabGreatDoor.S1
namespace Go.Proofs.YtodmdkhdbfbfgabGreatDoor
open Go.RowKit Go.Nt
theorem qdR (l:List It):weigh (qac l)=weigh l:=((qaq l).map _).sum_nat
theorem qg4 (l:List It) (p:Bs):dirAt (qac l) p=dirAt l p:=by
 unfold dirAt;rw [Bool.eq_iff_iff,List.any_eq_true,List.any_eq_true];exact ⟨fun ⟨x,hx,h⟩=>⟨x,order_mem.1 hx,h⟩,fun ⟨x,hx,h⟩=>⟨x,order_mem.2 hx,h⟩⟩
theorem TreeP.order {l:List It} (h:TreeP l):TreeP (qac l):=
 ⟨by rw [qak];exact h.len,fun x hx=>h.ok x (order_mem.1 hx),(((qaq l).map _).nodup_iff).2 h.nodup,fun x hx=>by rw [qg4];exact h.up x (order_mem.1 hx)⟩
theorem qmU {ps:List Fp} (h:∀ f∈ps,f.text.length=51):(txtF ps).length=ps.length*51:=by
 induction ps with
 | nil=>rfl
 | cons f ps ih =>
   have h1:=ih (fun g hg=>h g (by simp [hg]));have h2:=h f (by simp);unfold txtF at h1 ⊢;simp only [List.map_cons,List.flatten_cons,List.length_append,List.length_cons,h1,h2];omega
theorem qlw:∀ p∈names,qaI p=false→∀ q∈names,inB q p=false:=by decide
theorem qmb:∀ p∈names,∀ i,i<6→p.getD i 0=47→p.take i∈names∧qaI (p.take i)=true:=by decide
theorem KT.reach {l:List It} (h:KT l) {p:Bs} (hp:p∈names):reachE l p=0:=by
 unfold reachE;rw [if_pos (qhf p hp)];unfold enterE;refine (qa8 l p h.nodup p.length 0).2 (fun i _ hi hs => ?_);obtain ⟨h1,h2⟩:=qmb p hp i (by have:=qeG hp;omega) hs;obtain ⟨y,hy,e⟩:=h.dirs _ h1 h2;exact dirAt_iff.2 ⟨y,hy,e,by rw [(h.item y hy).2.1,e,h2]⟩
theorem KT.putE {l:List It} (h:KT l) {p d:Bs} (hp:p∈names) (hf:qaI p=false) (hd:d.length≤99):putE l p d=0:=by
 have hl:=h.len;unfold YtodmdkhdbfbfgabGreatDoor.putE;rw [if_pos (h.reach hp)];cases ha:at? l p with
 | none=>exact if_neg (by omega)
 | some x =>
   obtain ⟨h1,h2⟩:=qau ha;have h3:=(h.item x h1).2.1;rw [h2,hf] at h3;show (if x.dir=true then (6:Int) else if 4000<d.length then 8 else 0)=0;rw [h3,if_neg (by decide),if_neg (by omega)]
theorem KT.drop {l:List It} (h:KT l) {p:Bs} (hf:qaI p=false):KT (l.filter fun y=>decide (y.path≠p)):=by
 refine ⟨fun x hx=>h.item x (List.mem_filter.1 hx).1,qbA h.nodup _,fun q hq hqf => ?_⟩;obtain ⟨x,hx,e⟩:=h.dirs q hq hqf;refine ⟨x,List.mem_filter.2 ⟨hx,decide_eq_true fun e' => ?_⟩,e⟩;rw [←e,e',hf] at hqf;cases hqf
theorem qfI (l:List It) (p d:Bs):(putI l p d).path=p:=by
 unfold putI;cases at? l p<;>rfl
theorem KT.put {l:List It} (h:KT l) {p d:Bs} (hp:p∈names) (hf:qaI p=false) (hd:d.length≤99):KT (setIt l (putI l p d)):=by
 unfold setIt;rw [qfI];unfold putI;have hno:∀ x∈l.filter (fun y=>decide (y.path≠p)),x.path≠p:=fun x hx=>of_decide_eq_true (List.mem_filter.1 hx).2
 cases ha:at? l p with
 | none=>exact (h.drop hf).add hp hf hno hd (by decide) (by decide) (by decide) (by decide)
 | some x =>
   have hx:=(h.item x (qau ha).1).2.2.2;unfold okItem at hx;simp only [Bool.and_eq_true,decide_eq_true_eq] at hx;exact (h.drop hf).add hp hf hno hd (by omega) (by omega) (by omega) (by omega)
theorem qka {p:Bs} {v:Int × Int}:∀ (l:List It) (s:Int × Int),(∀ y∈l,y.path=p→(y.mode,y.time)=v)→(s=v∨∃ y∈l,y.path=p)→l.foldl (fun s y=>if y.path=p then (y.mode,y.time) else s) s=v
 | [],s,_,h=>by rcases h with h | ⟨y,hy,_⟩;exact h;cases hy
 | y :: l,s,hv,h=>by
   rw [List.foldl_cons];refine qka l _ (fun z hz=>hv z (by simp [hz])) ?_;by_cases hy:y.path=p
   ·rw [if_pos hy];exact .inl (hv y (by simp) hy)
   rw [if_neg hy];rcases h with h | ⟨z,hz,e⟩
   ·exact .inl h
   rcases List.mem_cons.1 hz with rfl | hz
   ·exact absurd e hy
   exact .inr ⟨z,hz,e⟩
theorem qjX (l:List It) (p:Bs):wo l p=l.filter fun y=>decide (y.path≠p):=by
 unfold wo
 congr 1
 funext y
 simp
theorem KT.perm {l now:List It} (h:KT l) (hp:l.Perm now):KT now:=
 ⟨fun x hx=>h.item x (hp.mem_iff.2 hx),(hp.map _).nodup_iff.1 h.nodup,fun p h1 h2=>by obtain ⟨x,hx,e⟩:=h.dirs p h1 h2;exact ⟨x,hp.mem_iff.1 hx,e⟩⟩
theorem KT.put_perm {l now:List It} (h:KT l) (hp:l.Perm now) (p d:Bs):(setIt l (putI l p d)).Perm (putK now p d):=by
 have hk:=h.perm hp;have e:putI l p d=⟨p,false,d,(mtOf now p).1,(mtOf now p).2⟩:=by
  unfold putI;cases ha:at? l p with
  | none=>rw [qn3 fun y hy=>at_none.1 ha y (hp.mem_iff.2 hy)]
  | some x =>
    obtain ⟨h1,h2⟩:=qau ha
    have:mtOf now p=(x.mode,x.time):=qka now (0,0) (fun y hy e=>by
     have h3:=at_mem h.nodup (hp.mem_iff.2 hy);rw [e,ha] at h3;cases h3;rfl) (.inr ⟨x,hp.mem_iff.1 h1,h2⟩)
    rw [this]
 unfold setIt putK;rw [qfI,qjX,e];exact (hp.filter _).append_right _
theorem KT.drop_perm {l now:List It} (hp:l.Perm now) (p:Bs):(l.filter fun y=>decide (y.path≠p)).Perm (wo now p):=by
 rw [qjX];exact hp.filter _
theorem KT.there {l now:List It} (h:KT l) (hp:l.Perm now) (p:Bs):(at? now p).isSome=(at? l p).isSome:=by
 cases ha:at? l p with
 | none=>rw [at_none.2 fun x hx=>at_none.1 ha x (hp.mem_iff.2 hx)]
 | some x =>
   cases hb:at? now p with
   | none=>exact absurd (qau ha).2 (at_none.1 hb x (hp.mem_iff.1 (qau ha).1))
   | some y=>rfl
theorem KT.removeE {l:List It} (h:KT l) {p:Bs} (hp:p∈names) (hf:qaI p=false):removeE l p=if (at? l p).isSome then 0 else 4:=by
 have hfind:findE l p=if (at? l p).isSome then 0 else 4:=by
  unfold findE;rw [if_pos (h.reach hp)]
 unfold YtodmdkhdbfbfgabGreatDoor.removeE;rw [hfind];cases hs:(at? l p).isSome with
 | false=>rfl
 | true =>
   rw [if_pos rfl,if_pos rfl,if_neg];intro ha;obtain ⟨q,hq,hi⟩:=List.any_eq_true.1 ha;obtain ⟨y,hy,rfl⟩:=List.mem_map.1 hq;rw [qlw p hp hf y.path (h.item y hy).1] at hi;cases hi
theorem KT.room {u:Bs→Option Bs} {l:List It} (h:KT l) {t:Bs} (ht:IsText u (qac l) t):pagesN t.length≤29:=by
 have h1:=qbO ht;rw [qdR] at h1
 have:=h.weighs
 unfold pagesN;omega
end Go.Proofs.YtodmdkhdbfbfgabGreatDoor
namespace Go.Proofs.YtodmdkhdbfbfgabGreatDoor.S1
open Go.RowKit Pk
open Go.Nt
theorem qh6 {m:M} (hw:WF m) {b p:Nat} {x:List UInt8} (hb:b<m.nb) (hbd:m.bd b=false) (hp:p=m.nx b) (hn:p<m.np) (hx:x.length=64) :
 (progA m (b:Nat) (p:Nat) x).1=true∨(progA m (b:Nat) (p:Nat) x).2.life=0∨(progA m (b:Nat) (p:Nat) x).2.bd b=true:=by
 rcases qaD m b p x hw with ⟨h1,_,_,_,_,_,_,e⟩ | ⟨h1,e | ⟨e,h0⟩ | ⟨_,_,_,_,_,c,_,⟨e,h0⟩ | ⟨e,h0⟩⟩⟩
 ·exact .inl h1
 ·have hm:mayP m (b:Nat) (p:Nat) x:=⟨by unfold badB hasB;simp [hb,hbd],by rw [hp];simp,by omega,hx⟩;refine .inr (.inl ?_);rw [e];unfold progA at h1 e;rw [if_pos hm] at h1 e;have h2:=congrArg M.nx e;unfold progF at h1 h2;simp only [Int.toNat_natCast] at h1 h2;rcases qaR m.life m.fail with hk | hk | hk | hk
  ·rw [if_pos hk] at h1;cases h1
  ·rw [if_neg (by rw [hk];decide),if_pos hk] at h2
   have:=congrFun h2 b
   have h3:(if b=b then p+1 else m.nx b)=m.nx b:=this;rw [if_pos rfl] at h3;omega
  ·rw [if_neg (by rw [hk];decide),if_neg (by rw [hk];decide),if_pos hk] at h2
   have:=congrFun h2 b
   have h3:(if b=b then p+1 else m.nx b)=m.nx b:=this;rw [if_pos rfl] at h3;omega
  unfold callF at hk
  repeat' split at hk
  all_goals simp at hk
  all_goals assumption
 ·refine .inr (.inl ?_);rw [e];show (callF m.life m.fail).2.1=0;rw [h0];unfold callF;simp
 ·exact .inr (.inl (by rw [e];exact h0))
 exact .inr (.inr (by rw [e];show (if b=b then true else _)=true;rw [if_pos rfl]))
theorem qen {Q:Nat→Bool} (b:Nat):∀ (l:List (List UInt8)) (m:M) (p:Nat) (S:Nat→Bool),WF m→Rdy m Q b p→l.length+p≤m.np→(∀ x∈l,x.length=64) →
 (progL b l m p S).1=[]∨(progL b l m p S).2.1.life=0∨(progL b l m p S).2.1.bd b=true
 | [],m,p,S,_,_,_,_=>.inl rfl
 | x :: l,m,p,S,hw,hr,hl,hx=>by
   have hp:p<m.np:=by simp at hl;omega
   obtain ⟨h1,h2,h3,h4⟩:=hr.open_ hp;have hA:=qh6 hw h1 h2 h3.symm hp (hx x (by simp));have hrd:=qdo hw (x:=x) hr hp;unfold progL;rw [if_pos hp];by_cases ht:(progA m (b:Nat) (p:Nat) x).1=true
   ·rw [if_pos ht];rw [if_pos ht] at hrd;have hk:=qax b [x] m p S;have hnp:(progA m (b:Nat) (p:Nat) x).2.np=m.np:=by
     rcases qaD m b p x hw with ⟨_,_,_,_,_,_,_,e⟩ | ⟨hf,_⟩
     ·rw [e];rfl
     rw [hf] at ht;cases ht
    have hwf:WF (progA m (b:Nat) (p:Nat) x).2:=by
     have:=qbb b [x] m p S hw
     unfold progL at this;rw [if_pos hp,if_pos ht] at this;exact this
    exact qen b l _ (p+1) _ hwf hrd (by rw [hnp];simp at hl;omega) (fun y hy=>hx y (by simp [hy]))
   rw [if_neg ht];rcases hA with h | h | h
   ·exact absurd h ht
   ·exact .inr (.inl h)
   exact .inr (.inr h)
theorem qmp {K:Nat→Bool} {s:LS} (hw:WF s.m) (h:Rdy s.m s.Q s.b s.p):Rdy (lay1 K s).m (lay1 K s).Q (lay1 K s).b (lay1 K s).p∧WF (lay1 K s).m:=by
 have h1:=qdy hw K h;have h2:=qbL hw K s.Q s.b;unfold lay1
 split
 ·exact ⟨qbC _ _ _ _ _ h2 h1,qbb _ _ _ _ _ h2⟩
 exact ⟨h1,h2⟩
theorem qeU {K:Nat→Bool}:∀ (k:Nat) (s:LS),WF s.m→Rdy s.m s.Q s.b s.p→Rdy (layN K k s).m (layN K k s).Q (layN K k s).b (layN K k s).p∧WF (layN K k s).m
 | 0,s,hw,h=>⟨h,hw⟩
 | k+1,s,hw,h=>by
   unfold layN
   split
   ·exact ⟨h,hw⟩
   have:=qmp (K:=K) hw h
   exact qeU k _ this.2 this.1
theorem qlA {K:Nat→Bool} {s:LS} (hw:WF s.m) (h:Rdy s.m s.Q s.b s.p):Rdy (layF K s).m (layF K s).Q (layF K s).b (layF K s).p∧WF (layF K s).m:=by
 unfold layF lay0
 split
 ·exact qeU _ _ (qbb _ _ _ _ _ hw) (qbC _ _ _ _ _ hw h)
 exact qeU _ _ hw h
end Go.Proofs.YtodmdkhdbfbfgabGreatDoor.S1
namespace Go.Proofs.YtodmdkhdbfbfgabGreatDoor.S1
open Go.RowKit Go.Sort
theorem isNaNU (x:Int) (w:World):Calls Tryz.prog 243 #[.int .u32 x] w fun e w'=>e=.returned (.bool false)∧w'=w:=by
 go_enter Tryz.func243,Tryz.ntmps243
 go_wp2;go_ret
 exact ⟨by simp,rfl⟩
theorem lessU (x y:Int) (w:World):Calls Tryz.prog 223 #[.int .u32 x,.int .u32 y] w fun e w'=>e=.returned (.bool (ltInt x y))∧w'=w:=by
 go_enter Tryz.func223,Tryz.ntmps223
 go_wp2_with (go_at_call 243;refine (isNaNU _ _).mono ?_;rintro e w' ⟨rfl,rfl⟩);go_ret
 exact ⟨rfl,rfl⟩
abbrev HoldsU (w:World) (blk off:Nat) (d:Array Int):Prop:=Holds (Value.int .u32) w blk off d
abbrev rowU (w:World) (n blk off:Nat) (d:Array Int):World:=putRow (Value.int .u32) (Sort.ahead w n) blk off d
theorem qaN {w:World} {blk off:Nat} {d dj:Array Int} (hH:HoldsU w blk off d) {n:Nat} (hs:dj.size=d.size) (t:Nat) (ht:t<d.size):(rowU w n blk off dj).cell? ⟨blk,off+t,none⟩=some (.int .u32 dj[t]!):=
 cell?_putRow _ _ _ _ d dj (holds_ahead _ _ _ _ _ _ hH) hs t (by omega)
theorem qay {w:World} {blk off:Nat} {d dj:Array Int} (hH:HoldsU w blk off d) {n:Nat} (t:Nat) (ht:t<d.size):(rowU w n blk off dj).frozen? ⟨blk,off+t,none⟩=false:=by
 rw [frozen?_putRow];exact ((holds_ahead _ _ n _ _ _ hH) t ht).2
theorem qif (blk off cap a b:Nat) (d:Array Int) (w:World) (hH:HoldsU w blk off d) (hab:a≤b) (hb:b≤d.size) (hsz:d.size≤1000000) :
 Calls Tryz.prog 217 #[.slice (some ⟨blk,off,none⟩) d.size cap,.int .i64 (a:Nat),.int .i64 (b:Nat)] w fun e w'=>e=.returned (.tuple #[])∧∃ n,w'=rowU w n blk off (insertionSort ltInt d a b):=by
 go_enter Tryz.func217,Tryz.ntmps217
 go_wp2
 go_loopw [6] (fun vi wr=>∃ (i n:Nat) (dk:Array Int),vi=.int .i64 (i:Nat)∧a<i∧i≤b+1∧dk.size=d.size∧wr=rowU w n blk off dk∧Hid (insOuter ltInt a b i dk=insOuter ltInt a b (a+1) d)) (fun vi _=>b+1 - (intOf vi).toNat)
 case atStart=>exact ⟨a+1,0,d,by go_num,by omega,by omega,rfl,(putRow_self _ _ _ _ _ hH).symm,hidI rfl⟩
 case round =>
  obtain ⟨i,n,dk,rfl,hai,hib,hsk,hwr,HO⟩:=hrel;by_cases hlt:i<b
  ·have hlt':((i:Nat):Int)<(b:Nat):=by omega
   go_wp2
   go_loopw [7] (fun vj wr2=>∃ (j m:Nat) (dj:Array Int),vj=.int .i64 (j:Nat)∧a≤j∧j≤i∧dj.size=d.size∧wr2=rowU w m blk off dj∧Hid (insInner ltInt a j dj=insInner ltInt a i dk)) (fun vj _=>(intOf vj).toNat)
   case atStart=>exact ⟨i,n,dk,rfl,by omega,Nat.le_refl _,hsk,by first | rfl | exact hwr,hidI rfl⟩
   obtain ⟨j,m,dj,rfl,haj,hji,hsj,hw2,HI⟩:=hrel;obtain ⟨G,hG⟩:∃ G:Nat→Int,∀ t,G t=dj[t]! := ⟨fun t=>dj[t]!,fun _=>rfl⟩;have hcw:∀ t,t<d.size→wr.cell? ⟨blk,off+t,none⟩=some (.int .u32 (G t)):=fun t ht=>by rw [hw2,hG];exact qaN hH hsj t ht
   have hfw:∀ t,t<d.size→wr.frozen? ⟨blk,off+t,none⟩=false:=fun t ht=>by rw [hw2];exact qay hH t ht
   have HW:=hidI hw2;have HG:=hidI hG;have OUT:Hid ((j≤a∨ltInt dj[j]! dj[j - 1]! = false)→∀ q,∃ i' n' dk',Value.int .i64 ((i:Int)+1)=.int .i64 (i':Nat)∧a<i'∧i'≤b+1∧dk'.size=d.size∧wr.drewN q=rowU w n' blk off dk'∧Hid (insOuter ltInt a b i' dk'=insOuter ltInt a b (a+1) d)):=hidI (fun hs q =>
    ⟨i+1,m+q,dj,by go_num,by omega,by omega,hsj,by rw [HW.out];exact putRow_drewN _ _ _ _ _ _ _,hidI (by rw [←HO.out,insOuter_go _ _ _ _ _ hlt,←HI.out,insInner_stop _ _ _ _ hs])⟩)
   clear hw2 hG hwr;go_wp2;by_cases hja:a<j
   ·go_quiet (first | (go_at_call 223;refine Calls.quiet_of_same (lessU _ _ _)))
    go_wp2
    ·have hl:ltInt (G j) (G (j - 1))=true:=by assumption
     go_region
     all_goals go_wp2
     go_roundw
     case rel =>
      refine ⟨j - 1,m+(nq+1),swp dj j (j - 1),by congr 1;omega,by omega,by omega,by rw [size_swp];exact hsj,?_,hidI ?_⟩
      ·rw [HW.out,HG.out,HG.out];exact swap_worldA _ w m (nq+1) blk off dj j (j - 1) (by omega) (by omega)
      rw [←HI.out,insInner_go ltInt a j dj hja (by rw [←HG.out,←HG.out];exact hl)]
     case measure=>simp [intOf];omega
    have hl:ltInt (G j) (G (j - 1))=false:=by assumption
    go_roundw
    case rel=>exact OUT.out (Or.inr (by rw [←HG.out,←HG.out];exact hl)) nq
    case measure=>simp [intOf];omega
   go_quiet (first | (go_at_call 223;refine Calls.quiet_of_same (lessU _ _ _)))
   go_wp2;go_roundw
   case rel=>exact OUT.out (Or.inl (by omega)) nq
   case measure=>simp [intOf];omega
  have hlt':¬((i:Nat):Int)<(b:Nat):=by omega
  go_wp2;go_end0
  exact ⟨rfl,n,by unfold insertionSort;rw [←HO.out,insOuter_stop _ _ _ _ _ hlt]⟩
end Go.Proofs.YtodmdkhdbfbfgabGreatDoor.S1
