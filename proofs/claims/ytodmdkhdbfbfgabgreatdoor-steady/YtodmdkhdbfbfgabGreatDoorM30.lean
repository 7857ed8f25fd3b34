/- Lemmas. -/
import Derived.Defers
import Derived.Test.YtodmdkhdbfbfgabGreatDoorM29
set_option linter.unusedVariables false
set_option linter.unusedSimpArgs false
set_option maxRecDepth 100000
set_option maxHeartbeats 8000000
namespace Go.Proofs.YtodmdkhdbfbfgabGreatDoor.S1
open Go.RowKit Pk
theorem copy_any (w:World) (lo hi cb:Nat) (L:Loc) (m:M) (hw:WF m) (h:CP w lo hi cb L m) (hsz:hi≤w.heap.size) :
 Calls Tryz.prog 17 #[.pointer (some ⟨cb,0,none⟩)] w fun e w'=>∃ L',e=.returned (.pointer (some ⟨w.heap.size,0,none⟩))∧CP w' w.heap.size w'.heap.size w.heap.size L' m∧Below w.heap.size w w':=by
 have c0:=MemX.c0 h;have c1:=MemX.c1 h;have c2:=MemX.c2 h;have c3:=MemX.c3 h;have c4:=MemX.c4 h;have c5:=MemX.c5 h;have c6:=MemX.c6 h;have c7:=MemX.c7 h;have hnb1:=hw.nb1;have hnb2:=hw.nb2;have hnp1:=hw.np1;have hnp2:=hw.np2;have Hh:Hid (∀ W,Below w.heap.size w W→CP W lo hi cb L m):=fun W hb=>MemX.below h hsz hb
 clear h;go_enter Tryz.func17,Tryz.ntmps17
 go_wp2;have hG:cb<w.heap.size:=Nat.lt_of_lt_of_le (Hh.out _ (Below.refl _ _)).hcb.2 hsz;have Hst0:=hidI (heap_alloc_new w (Obj.cells #[.int .i64 (m.np:Nat),.slice none 0 0,.slice (some ⟨L.nk,0,none⟩) m.nb L.cn,.slice (some ⟨L.bk,0,none⟩) m.nb L.ck,.int .i64 m.life,.int .i64 m.cut,.int .i64 m.fail,.int .i64 m.part] 60));have Hb0:=hidI ((Below.refl w.heap.size w).alloc (Nat.le_refl _) (Obj.cells #[.int .i64 (m.np:Nat),.slice none 0 0,.slice (some ⟨L.nk,0,none⟩) m.nb L.cn,.slice (some ⟨L.bk,0,none⟩) m.nb L.ck,.int .i64 m.life,.int .i64 m.cut,.int .i64 m.fail,.int .i64 m.part] 60));clear c0 c1 c2 c3 c4 c5 c6 c7;obtain ⟨i0,hi0,hz0,hz1,hz2⟩:=info_parts Tryz.info23;obtain ⟨j0,gi,gz0,gz1,gz2⟩:=info_parts Tryz.info9;obtain ⟨k0,ki,kz0,kz1,kz2⟩:=info_parts Tryz.info3;obtain ⟨l0,li,lz0,lz1,lz2⟩:=info_parts Tryz.info4;obtain ⟨G,hGe⟩:∃ G,G=w.heap.size:=⟨_,rfl⟩;rw [←hGe] at Hst0 Hb0 Hh hG hsz ⊢
 have HGe:=hidI hGe;clear hGe
 go_loopw [4] (fun x wr=>∃ k:Nat,k≤m.nb∧x=.int .i64 k∧∃ da dc rw cr,wr.heap[G]? = some (.cells #[.int .i64 (m.np:Nat),.slice da k dc,.slice (some ⟨L.nk,0,none⟩) m.nb L.cn,.slice (some ⟨L.bk,0,none⟩) m.nb L.ck,.int .i64 m.life,.int .i64 m.cut,.int .i64 m.fail,.int .i64 m.part] 60 (0,0))∧Data wr G (.slice da k dc) k m.np rw cr (fun i p=>id (m.pg i p))∧Below G w wr) (fun x _=>m.nb - (intOf x).toNat)
 case atStart=>exact ⟨0,by omega,rfl,none,0,fun _=>0,fun _=>0,Hst0.out,Data.nil _ _ _ _ _ _,Hb0.out⟩
 case round =>
  clear Hst0 Hb0;obtain ⟨k,hk,rfl,da,dc,rw,cr,hst,hdat,hbel⟩:=hrel;have hm:=Hh.out _ hbel;have c1:=MemX.c1 hm;have hGr:G<wr.heap.size:=qaa hst;by_cases hlt:k<m.nb
  ·have cd:=hm.data.cell hlt;have hrow:=hm.page k hlt;have Hst:=hidI hst;have Hdat:=hidI hdat;have Hbel:=hidI hbel;have Hm:=hidI hm;clear hst hdat hbel hm;have x0:wr.cell? ⟨G,1,none⟩=some (.slice da k dc):=by rw [cell_of_row wr G 1 _ 60 (0,0) Hst.out];rfl
   have hl0:(((List.range m.np).map fun p=>Value.string (txt (id (m.pg k p))))).length=m.np*1:=by simp
   have h1c:∀ u∈((List.range m.np).map fun p=>Value.string (txt (id (m.pg k p)))),u.oneCell'=true:=(by intro u hu;simp at hu;obtain ⟨p,_,rfl⟩:=hu;rfl);have Hrn:=hidI hrow.news;clear hrow;go_wp2_with fail;go_region_law (first
    | (refine step_append_lies _ (by rfl) _ _ _ (by rfl) G 9 j0 _ 1 16 Tryz.underlying61 gi gz0 gz1 gz2 rfl (by omega) (.slice none 0 0) 0 [] (by rfl) (World.ownsRow_nil _ _ _ _) ⟨L.rw k,0,none⟩ m.np (L.cr k) ((List.range m.np).map fun p=>Value.string (txt (id (m.pg k p)))) (by rfl) hl0 Hrn.out h1c (by omega) (by unfold maxLen;omega) (by omega) (by simp;omega) wr.heap.size (by simp) ?_;intro g cap w1 hown hgrow hat hlt1;have HgW:Hid (g=wr.heap.size):=(by rcases hat with h | h;(· simp [Value.ownBlock] at h);(· exact h));have K1:∀ t,Keeps t wr w1:=(fun t k x f e=>hgrow.block k (qaa e) (by simp [Value.ownBlock]));have hst1:=(K1 60).block Hst.out;have Hbel1:Hid (Below G w w1):=Hbel.out.drew.grown hgrow (Nat.le_of_lt hGr) (fun q hq=>by simp [Value.ownBlock] at hq);have x1:w1.cell? ⟨G,1,none⟩=some (.slice da k dc):=(by rw [cell_of_row w1 G 1 _ 60 (0,0) hst1];rfl);have x1a:∀ o,(w1.alloc o).cell? ⟨G,1,none⟩=some (.slice da k dc):=(fun o=>(World.cell?_of_block (w:=w1) (Below.heap_alloc w1 o G (World.block_lt_of_cell? w1 ⟨G,1,none⟩ x1))).trans x1);have Hown23:=hidI ((K1 61).own Hdat.out.own);have Hrw1:Hid (Rw w1 g 9 m.np (fun p=>.string (txt (id (m.pg k p))))):=(by
        have hown:w1.ownsRow G 9 1 (.slice (some ⟨g,0,none⟩) m.np cap) m.np ((List.range m.np).map fun p=>.string (txt (id (m.pg k p)))):=(by simpa using hown);obtain ⟨g',cap',hgc,_,hrw1⟩:=qhg hown (by omega);simp at hgc;obtain ⟨rfl,rfl⟩:=hgc;exact hrw1);have hgs:wr.heap.size≤w1.heap.size:=hgrow.size;have HK1:=hidI K1;have Hst1:=hidI hst1;clear hgrow hat hst1 hown K1)
    | (refine step_append_lies _ (by rfl) _ _ _ (by rfl) G 61 i0 _ 1 24 Tryz.underlying57 hi0 hz0 hz1 hz2 rfl (by omega) (.slice da k dc) k _ (by rfl) (Hown23.out.alloc _) ⟨w1.heap.size,0,none⟩ 1 1 [.slice (some ⟨g,0,none⟩) m.np cap] (by rfl) rfl (cell_one_new _ _ _) (by intro u hu;simp at hu;subst hu;rfl) (by omega) (by unfold maxLen;omega) (by omega) (by simp;omega) (w1.heap.size+1) (by simp) ?_;intro g2 cap2 w2 hown2 hgrow2 hat2 hlt2;have K2:∀ t,t≠61→Keeps t w1 w2:=(fun t ht=>((Keeps.refl t w1).alloc _).grown (Hown23.out.alloc _) (fun e=>ht e.symm) hgrow2);have hst2:=(K2 60 (by decide)).block Hst1.out;have x2:w2.cell? ⟨G,1,none⟩=some (.slice da k dc):=(by rw [cell_of_row w2 G 1 _ 60 (0,0) hst2];rfl);have f2:=frozen_of_row w2 G 1 _ 60 hst2;have Hbel2:Hid (Below G w w2):=(Hbel1.out.alloc (Nat.le_trans (Nat.le_of_lt hGr) hgs) _).grown hgrow2 (by simp;omega) (fun q hq=>(Hown23.out.lt q hq).1);have HK2:=hidI K2;have Hst2:=hidI hst2;have Hown2:=hidI hown2;clear hown2 hgrow2 hat2 K2 hst2))
   all_goals have hst3:=heap_setCell_same w2 G 1 _ 60 (.slice (some ⟨g2,0,none⟩) (k+1) cap2) Hst2.out
   all_goals have K9:Keeps 9 wr (w2.setCell ⟨G,1,none⟩ (.slice (some ⟨g2,0,none⟩) (k+1) cap2)):=((HK1.out 9).trans (HK2.out 9 (by decide))).set Hst2.out (by decide)
   all_goals have K23:Keeps 61 w2 (w2.setCell ⟨G,1,none⟩ (.slice (some ⟨g2,0,none⟩) (k+1) cap2)):=(Keeps.refl _ _).set Hst2.out (by decide)
   all_goals have K9':Keeps 9 w1 (w2.setCell ⟨G,1,none⟩ (.slice (some ⟨g2,0,none⟩) (k+1) cap2)):=(HK2.out 9 (by decide)).set Hst2.out (by decide)
   all_goals have hdat3:=Hdat.out.push K9 (r:=g) (c:=cap) (f:=fun p=>id (m.pg k p)) (by rw [HgW.out];omega) (by rw [HgW.out];omega) (K9'.rw Hrw1.out) (K23.own Hown2.out)
   all_goals have hpe:put (fun i p=>id (m.pg i p)) k (fun p=>id (m.pg k p))=fun i p=>id (m.pg i p):=(by
    funext a b
    unfold put;by_cases e:a=k
    ·rw [if_pos e,e]
    ·rw [if_neg e])
   all_goals rw [hpe] at hdat3
   all_goals have Hbel3:=hidI (Hbel2.out.setCell (p:=⟨G,1,none⟩) (Nat.le_refl _) (.slice (some ⟨g2,0,none⟩) (k+1) cap2))
   all_goals have Hst3:=hidI hst3
   all_goals have Hdat3:=hidI hdat3
   all_goals clear hst3 hdat3 K9 K23 K9' hpe
   all_goals go_wp2
   all_goals (go_roundw;(case rel=>exact ⟨k+1,by omega,by go_num,some ⟨g2,0,none⟩,cap2,_,_,Hst3.out,Hdat3.out,Hbel3.out⟩);(case measure=>simp [intOf];omega))
  ·have hke:m.nb=k:=by omega
   subst hke;have a1:=MemX.c2 hm;have Hst:=hidI hst;have Hdat:=hidI hdat;have Hbel:=hidI hbel;have hrn:=hm.next;clear hst hdat hbel hm;go_wp2_with (at_builtin;refine wpList_append_lies _ rfl _ _ 22 rfl G 3 k0 (.int .i64 0) 1 8 Tryz.underlying22 ki kz0 kz1 kz2 rfl (by decide) (.slice none 0 0) 0 [] rfl (World.ownsRow_nil _ _ _ _) ⟨L.nk,0,none⟩ m.nb L.cn ((List.range m.nb).map fun i=>.int .i64 (m.nx i:Nat)) rfl ?c0 ?c1 ?c2 ?c3 ?c4 ?c5 ?c6 wr.heap.size rfl ?_)
   case c0=>simp
   case c1=>exact hrn.news
   case c2=>intro u hu;simp at hu;obtain ⟨p,_,rfl⟩:=hu;rfl
   case c3=>omega
   case c4=>unfold maxLen;omega
   case c5=>omega
   case c6=>omega
   intro g cap w1 hown hgrow hat hlt1;have hown1:w1.ownsRow G 3 1 (.slice (some ⟨g,0,none⟩) m.nb cap) m.nb ((List.range m.nb).map fun i=>.int .i64 (m.nx i:Nat)):=(by simpa using hown);have K1:∀ t,Keeps t wr w1:=fun t k x f e=>hgrow.block k (qaa e) (by simp [Value.ownBlock])
   have hst1:=(K1 60).block Hst.out;have z2:w1.cell? ⟨G,2,none⟩=some (.slice (some ⟨L.nk,0,none⟩) m.nb L.cn):=(by rw [cell_of_row w1 G 2 _ 60 (0,0) hst1];rfl);have zf:=frozen_of_row w1 G 2 _ 60 hst1;have hstB:=heap_setCell_same w1 G 2 _ 60 (.slice (some ⟨g,0,none⟩) m.nb cap) hst1;have hownB:=((Keeps.refl 3 w1).set (o:=2) (v:=.slice (some ⟨g,0,none⟩) m.nb cap) hst1 (by decide)).own hown1;have hdatB:=Hdat.out.keep ((K1 9).set (o:=2) (v:=.slice (some ⟨g,0,none⟩) m.nb cap) hst1 (by decide)) ((K1 61).set (o:=2) (v:=.slice (some ⟨g,0,none⟩) m.nb cap) hst1 (by decide));have hbelB:Below G w (w1.setCell ⟨G,2,none⟩ (.slice (some ⟨g,0,none⟩) m.nb cap)):=(Hbel.out.grown hgrow (Nat.le_of_lt hGr) (fun q hq=>by simp [Value.ownBlock] at hq)).setCell (Nat.le_refl _) _;have HstB:=hidI hstB;have HownB:=hidI hownB;have HdatB:=hidI hdatB;have HbelB:=hidI hbelB;have hmb:=Hh.out _ hbelB;have b3:=MemX.c3 hmb
   have hrb:=hmb.bad;have hGb:G<(w1.setCell ⟨G,2,none⟩ (.slice (some ⟨g,0,none⟩) m.nb cap)).heap.size:=qaa hstB;clear hstB hownB hdatB hbelB hmb hst1 hown hown1 hgrow hat K1 Hst Hdat Hbel hrn a1;go_wp2_with (at_builtin;refine wpList_append_lies _ rfl _ _ 58 rfl G 4 l0 (.bool false) 1 1 Tryz.underlying58 li lz0 lz1 lz2 rfl (by decide) (.slice none 0 0) 0 [] rfl (World.ownsRow_nil _ _ _ _) ⟨L.bk,0,none⟩ m.nb L.ck ((List.range m.nb).map fun i=>.bool (m.bd i)) rfl ?c0 ?c1 ?c2 ?c3 ?c4 ?c5 ?c6 (w1.setCell ⟨G,2,none⟩ (.slice (some ⟨g,0,none⟩) m.nb cap)).heap.size rfl ?_)
   case c0=>simp
   case c1=>exact hrb.news
   case c2=>intro u hu;simp at hu;obtain ⟨p,_,rfl⟩:=hu;rfl
   case c3=>omega
   case c4=>unfold maxLen;omega
   case c5=>omega
   case c6=>omega
   intro g3 cap3 w3 hown hgrow hat hlt3;have hown1:w3.ownsRow G 4 1 (.slice (some ⟨g3,0,none⟩) m.nb cap3) m.nb ((List.range m.nb).map fun i=>.bool (m.bd i)):=(by simpa using hown);have K1:∀ t,Keeps t (w1.setCell ⟨G,2,none⟩ (.slice (some ⟨g,0,none⟩) m.nb cap)) w3:=fun t k x f e=>hgrow.block k (qaa e) (by simp [Value.ownBlock])
   have hst1:=(K1 60).block HstB.out;have y2:w3.cell? ⟨G,3,none⟩=some (.slice (some ⟨L.bk,0,none⟩) m.nb L.ck):=(by rw [cell_of_row w3 G 3 _ 60 (0,0) hst1];rfl);have yf:=frozen_of_row w3 G 3 _ 60 hst1;have hstD:=heap_setCell_same w3 G 3 _ 60 (.slice (some ⟨g3,0,none⟩) m.nb cap3) hst1;have hownD:=((Keeps.refl 4 w3).set (o:=3) (v:=.slice (some ⟨g3,0,none⟩) m.nb cap3) hst1 (by decide)).own hown1;have hownN:=((K1 3).set (o:=3) (v:=.slice (some ⟨g3,0,none⟩) m.nb cap3) hst1 (by decide)).own HownB.out;have hdatD:=HdatB.out.keep ((K1 9).set (o:=3) (v:=.slice (some ⟨g3,0,none⟩) m.nb cap3) hst1 (by decide)) ((K1 61).set (o:=3) (v:=.slice (some ⟨g3,0,none⟩) m.nb cap3) hst1 (by decide));have hbelD:Below G w (w3.setCell ⟨G,3,none⟩ (.slice (some ⟨g3,0,none⟩) m.nb cap3)):=(HbelB.out.grown hgrow (Nat.le_of_lt hGb) (fun q hq=>by simp [Value.ownBlock] at hq)).setCell (Nat.le_refl _) _
   have HE:=hidI (MemX.built (T:=60) (enc:=id) (g4:=m.life) (g5:=m.cut) (g6:=m.fail) (g7:=m.part) (by omega:0<m.nb) (by decide) (Nat.le_refl G) hstD hdatD (fun i p _ _=>rfl) hownN hownD);have HbelD:=hidI hbelD;clear hown1 hstD hownD hownN hdatD hbelD HstB HbelB HdatB HownB hst1 K1 hown hgrow hat z2 zf b3 hrb;go_wp2;go_ret
   obtain ⟨L',hL⟩:=HE.out;rw [←HGe.out];exact ⟨L',rfl,hL,HbelD.out⟩
end Go.Proofs.YtodmdkhdbfbfgabGreatDoor.S1
namespace Go.Proofs.YtodmdkhdbfbfgabGreatDoor
open Go.RowKit Go.Nt
theorem qgL (l:List It):weigh (qad l)=weigh l:=((qav l).map _).sum_nat
theorem qgU (l:List It) (p:Bs):dirAt (qad l) p=dirAt l p:=by
 unfold dirAt;rw [Bool.eq_iff_iff,List.any_eq_true,List.any_eq_true];exact ⟨fun ⟨x,hx,h⟩=>⟨x,order_mem.1 hx,h⟩,fun ⟨x,hx,h⟩=>⟨x,order_mem.2 hx,h⟩⟩
theorem TreeP.order {l:List It} (h:TreeP l):TreeP (qad l):=
 ⟨by rw [qa7];exact h.len,fun x hx=>h.ok x (order_mem.1 hx),(((qav l).map _).nodup_iff).2 h.nodup,fun x hx=>by rw [qgU];exact h.up x (order_mem.1 hx)⟩
theorem qlu {ps:List Fp} (h:∀ f∈ps,f.text.length=51):(txtF ps).length=ps.length*51:=by
 induction ps with
 | nil=>rfl
 | cons f ps ih =>
   have h1:=ih (fun g hg=>h g (by simp [hg]));have h2:=h f (by simp);unfold txtF at h1 ⊢;simp only [List.map_cons,List.flatten_cons,List.length_append,List.length_cons,h1,h2];omega
theorem qiP (b:Nat) (l:List It) (w:World) (hT:TreeAt w b l) :
 Calls Tryz.prog 48 #[.map (some b)] w fun e w'=>e=.returned (.map (some w.heap.size))∧TreeAt w' w.heap.size l∧Below w.heap.size w w':=by
 obtain ⟨D,ho,hh⟩:=hT;refine (AnyW.maps_Clone_owns Tryz.mclone 9 ndOf b _ D w ho).mono ?_;rintro e w' ⟨rfl,h1,_,hB⟩;exact ⟨rfl,⟨D,h1,hh⟩,hB⟩
theorem qoi (x y:Nd):(if x.dir==y.dir then if (txt x.data).toList==(txt y.data).toList then if x.mode==y.mode then x.time==y.time else false else false else false)=decide (x=y):=by
 rw [qgI];obtain ⟨a2,a3,a4,a5⟩:=x;obtain ⟨b2,b3,b4,b5⟩:=y;simp only [Nd.mk.injEq];by_cases h2:a2=b2<;>by_cases h3:a3=b3<;>by_cases h4:a4=b4<;>by_cases h5:a5=b5<;>simp [h2,h3,h4,h5]
theorem eqn (op:BinOp) (x y:Operand) (xs ys:Array Value) (w:World):(eqGuard op 94 x y (.agg xs) (.agg ys)).run Tryz.prog w=.ok () w:=run_eqGuard_agg w op 94 x y xs ys (by kernel_rfl)
theorem qot (x y:Nd) (w:World):(Op.equalIn 10000 94 (ndv x) (ndv y)).run Tryz.prog w=.ok (decide (x=y)) w:=by
 unfold ndv;rw [run_equalIn_agg w 9999 94 _ _ (by kernel_rfl) (by kernel_rfl)];rw [show Tryz.prog.fieldsOf 94=_ from by unfold Program.fieldsOf;rw [Tryz.underlying94]];rw [←qoi];simp [Op.eqFields,part,go_sem,Tryz.underlying9,Tryz.underlying4,Tryz.underlying3];by_cases h2:x.dir=y.dir<;>by_cases h3:(txt x.data).toList=(txt y.data).toList<;>by_cases h4:x.mode=y.mode<;>by_cases h5:x.time=y.time<;>simp [h2,h3,h4,h5]
theorem qn3 (x y:Nd) (w:World):(binOp .neq 94 (ndv x) (ndv y)).run Tryz.prog w=.ok (.bool (!decide (x=y))) w:=by
 have h:=qot x y w;unfold ndv at *;rw [run_neq_struct,h];rfl
theorem qhG:∀ {l m:List It},(l.map (·.path)).Nodup→(∀ x∈l,x∈m)→m.length≤l.length→∀ x∈m,x∈l
 | [],m,_,_,hl,x,hx=>by
   have:m=[]:=List.length_eq_zero_iff.1 (by simpa using hl)
   rw [this] at hx;exact hx
 | a :: l,m,hn,hs,hl,x,hx=>by
   rw [List.map_cons,List.nodup_cons] at hn;have ha:=hs a (by simp);by_cases e:x=a
   ·simp [e]
   ·have hlen:=List.length_erase_of_mem ha
    have:=qhG (m:=m.erase a) hn.2 (fun y hy=>(List.mem_erase_of_ne (fun e'=>hn.1 (List.mem_map.2 ⟨y,hy,by rw [e']⟩))).2 (hs y (by simp [hy]))) (by simp at hl;omega) x ((List.mem_erase_of_ne e).2 hx)
    simp [this]
theorem qnm {l m:List It} (hn:(l.map (·.path)).Nodup) (hm:(m.map (·.path)).Nodup) (hl:l.length=m.length) (h:∀ x∈l,at? m x.path=some x):∀ p,at? l p=at? m p:=by
 have hsub:∀ x∈l,x∈m:=fun x hx=>(qaO (h x hx)).1
 have hback:=qhG hn hsub (by omega);intro p;cases ha:at? m p with
 | none=>rw [at_none] at ha ⊢;exact fun x hx=>ha x (hsub x hx)
 | some y =>
   obtain ⟨hy,rfl⟩:=qaO ha;exact qbo hn (hback y hy)
def EqP (l m:List It) (w:World) (e:Ending) (w':World):Prop:=Below w.heap.size w w'∧∃ r,e=.returned (.bool r)∧(r=true→∀ p,at? l p=at? m p)
theorem qh8 (b1 b2:Nat) (l m:List It) (w:World) (h1:TreeAt w b1 l) (h2:TreeAt w b2 m) (hn:(l.map (·.path)).Nodup) (hm:(m.map (·.path)).Nodup) (hl:l.length≤1000) (hq:∀ x∈l,x.path.length≤1048576) :
 Calls Tryz.prog 50 #[.map (some b1),.map (some b2)] w fun e w'=>EqP l m w e w':=by
 have hlen1:=h1.len hn 3;have hlen2:=h2.len hm 3;have hlt1:=h1.lt;have hlt2:=h2.lt;have Hq:=hidI hq;have Hn:=hidI hn;have Hm:=hidI hm;have HT2:=hidI h2;obtain ⟨D,ho,hh⟩:=h1;have Hh:=hidI hh;have Hown:=hidI ho;by_cases hne:l.length=m.length
 ·have HSame:=hidI (qnm hn hm hne);rw [←hne] at hlen2;clear hn hm hq ho hh h2 hne;go_enter Tryz.func50,Tryz.ntmps50
  go_wp2_with (first | (at_range;refine wpList_range_own _ rfl _ 64 rfl 9 94 law9 Tryz.underlying64 _ b1 _ D rfl Hown.out ?_;intro w0 hrg0 hg0 hs0) | go_in)
  go_frame
  have Hb0:Hid (Below w.heap.size w w0):=hidI ((Below.refl _ w).grown hg0 (Nat.le_refl _) (fun q hq=>by cases hq));have Hrg0:=hidI hrg0;clear hrg0 hg0 Hown;obtain ⟨r,hr⟩:∃ r,r=w.heap.size:=⟨_,rfl⟩;rw [←hr] at Hrg0 hs0 ⊢;have hrw:w.heap.size≤r:=by omega
  clear hs0 hr
  go_loopw [5] (fun _ wx=>∃ (left:Lit→Bool) (cnt:Nat),wx.ranges Tryz.prog 9 ndOf b1 r (Maps.size D) D left cnt∧Hid (∀ x∈l,left (.string x.path)=false→at? m x.path=some x)∧Hid (Below w.heap.size w wx))
   (fun _ wx=>wx.rangeLeft b1 r)
  case atStart=>exact ⟨_,_,Hrg0.out,hidI (fun x hx hle=>by rw [(Hh.out x.path).1,qbo Hn.out hx] at hle;cases hle),Hb0⟩
  case round =>
   obtain ⟨left,cnt,hrg,HP,HB⟩:=hrel;clear Hb0 Hrg0;have hszr:=HB.out.size;go_wp2_with (first | (at_next;refine wpList_next_ranges _ rfl _ rfl 9 law9 ndOf (fun x:Bs=>.string (txt x)) id (fun key kl hk=>by obtain ⟨x,hx,_⟩:=Maps.keyOf_str Tryz.underlying9 hk;exact ⟨x,hx⟩) (fun v _ _=>⟨v,rfl⟩) b1 r _ _ _ _ rfl hrg ?_ ?_) | go_in)
   ·intro _ hl0;have HR:=hidI (HSame.out (fun x hx=>HP.out x hx (hl0 _)));go_wp2;go_ret
    exact ⟨HB.out,true,rfl,fun _=>HR.out⟩
   ·intro q cv kl yd yp w2 cnt2 hkey hlk hv hat hrg2 hlc hg2 hs2 hen;obtain ⟨q',ep,rfl,_⟩:=Maps.keyOf_str Tryz.underlying9 hkey;obtain rfl:q=q':=by cases ep;rfl
    have hhas:Maps.has D (.string q)=true:=Maps.has_true_of_atKey hat;rw [(Hh.out q).1] at hhas;obtain ⟨x,hx⟩:=Option.isSome_iff_exists.1 hhas;obtain ⟨hxl,hxp⟩:=qaO hx;have hql:q.length≤maxLen:=by have:=Hq.out x hxl;rw [hxp] at this;unfold maxLen;omega
    have hcv:cv=ndv (nd x):=by
     have e1:=(Hh.out q).2 x hx (.lit (.bool false));rw [hat] at e1;subst e1;exact qbX hv
    have HB2:Hid (Below w.heap.size w w2):=hidI (HB.out.grown hg2 hszr (fun k e=>by cases e;exact hrw));have hT2:TreeAt w2 b2 m:=HT2.out.below (HB2.out) hlt2;have hs2':wr.heap.size≤w2.heap.size:=by omega
    have hsw:=HB2.out.size;have Hrg2:=hidI hrg2;have Hrg:=hidI hrg;have Hxl:=hidI hxl;have Hxp:=hidI hxp;have hT3:TreeAt (w2.alloc (.cells #[.bool x.dir,.string (txt x.data),.int .i64 x.mode,.int .i64 x.time] 94)) b2 m:=hT2.of_block (Below.heap_alloc _ _ _ hT2.lt);subst hcv;unfold ndv nd at hen ⊢;simp only at hen ⊢;have Hen:=hidI hen;clear hat hv hkey hlk hg2 hs2 hrg2 hrg hhas hx hxl hxp ep hT2;cases ha:at? m q with
    | none =>
      have hlook:=(hT3.look_none hql ha).1;unfold ndv at hlook;clear hT3 ha;go_wp2;go_ret
      exact ⟨(HB2.out.alloc hsw _).alloc (by simp;omega) _,false,rfl,fun h=>by cases h⟩
    | some y =>
      have hlook:=(hT3.look_some hql ha).1;have hneq:=fun W=>qn3 (nd x) (nd y) W
      have hqn:=eqn .neq;unfold ndv nd at hlook hneq;simp only at hlook hneq;obtain ⟨Y,hY⟩:∃ Y,Y=txt y.data:=⟨_,rfl⟩;obtain ⟨X,hX⟩:∃ X,X=txt x.data:=⟨_,rfl⟩;rw [←hY,←hX] at hneq;rw [←hY,←hX] at hlook;rw [←hX] at hen ⊢;obtain ⟨o,hoo⟩:∃ o,o=decide (nd x=nd y):=⟨_,rfl⟩;have hoo':=hoo;unfold nd at hoo';rw [←hoo'] at hneq;have Hoo:=hidI hoo;have Ha:=hidI ha;clear hT3 ha hY hX hoo hoo';cases o with
      | false =>
        go_wp2;go_ret
        exact ⟨(HB2.out.alloc hsw _).alloc (by simp;omega) _,false,rfl,fun h=>by cases h⟩
      | true =>
        go_wp2;go_roundw
        case rel =>
         refine ⟨_,cnt2,(Hrg2.out.kept (World.grownBy_alloc w2 _ none) (by simp) (by simp)).kept (World.grownBy_alloc _ _ none) (by simp) (by simp),hidI (fun z hz hle => ?_),hidI ((HB2.out.alloc hsw _).alloc (by simp;omega) _)⟩;by_cases e:z.path=q
         ·have hxy:nd x=nd y:=by have:=Hoo.out;simpa using this.symm
          have h1:=qbo Hn.out hz;have h2:=qbo Hn.out Hxl.out;rw [Hxp.out,←e,h1] at h2;have hzx:z=x:=by cases h2;rfl
          obtain ⟨hy1,hy2⟩:=qaO Ha.out;have hyx:y=x:=by
           have e1:=qjT y;have e2:=qjT x;rw [hy2,←hxy] at e1;rw [Hxp.out] at e2;exact e1.symm.trans e2
          rw [e,Ha.out,hzx,hyx]
         ·refine HP.out z hz ?_;have hsk:Lit.sameKey (.string z.path) (.string q)=false:=Maps.sameKey_ne (fun h=>e (by cases h;rfl));rw [hsk] at hle;simpa using hle
        case measure=>rw [((Hrg2.out.kept (World.grownBy_alloc w2 _ none) (by simp) (by simp)).kept (World.grownBy_alloc _ _ none) (by simp) (by simp)).left_eq,Hrg.out.left_eq];exact hlc
 ·clear hn hm hq ho hh h2;have hl2:((l.length:Int) != (m.length:Int))=true:=bne_iff_ne.2 (by omega);go_enter Tryz.func50,Tryz.ntmps50
  go_wp2;go_ret
  exact ⟨Below.refl _ _,false,rfl,fun h=>by cases h⟩
theorem qm4 (a b c fb:Nat) (g:Option Nat) (E:Int) (x:Value) (w:World) (hb:w.cell? ⟨b,0,none⟩=some (.int .i64 E)) (hd:w.cell? ⟨c,0,none⟩=some (.map g)) (ha:w.cell? ⟨a,0,none⟩=some (.pointer (some ⟨fb,0,none⟩))) (hx:w.cell? ⟨fb,2,none⟩=some x) (hz:w.frozen? ⟨fb,2,none⟩=false) (hE:E≠0) :
 CallsD Tryz.prog 49 #[.pointer (some ⟨b,0,none⟩),.pointer (some ⟨c,0,none⟩),.pointer (some ⟨a,0,none⟩)] .returning w fun e u' w'=>u'=.returning∧(e=.returned (.tuple #[])∧w'=w.setCell ⟨fb,2,none⟩ (.map g)):=by
 have hE':(E != 0)=true:=by simpa using hE
 go_enter_d Tryz.func49,Tryz.ntmps49
 go_wp2;go_end0
 exact ⟨rfl,rfl⟩
theorem qlr (a b c:Nat) (w:World) (hb:w.cell? ⟨b,0,none⟩=some (.int .i64 0)) :
 CallsD Tryz.prog 49 #[.pointer (some ⟨b,0,none⟩),.pointer (some ⟨c,0,none⟩),.pointer (some ⟨a,0,none⟩)] .returning w fun e u' w'=>u'=.returning∧(e=.returned (.tuple #[])∧w'=w):=by
 go_enter_d Tryz.func49,Tryz.ntmps49
 go_wp2;go_end0
 exact ⟨rfl,rfl⟩
end Go.Proofs.YtodmdkhdbfbfgabGreatDoor
