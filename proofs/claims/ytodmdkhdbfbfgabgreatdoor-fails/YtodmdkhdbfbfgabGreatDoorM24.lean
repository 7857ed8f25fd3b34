/- Lemmas. -/
import Derived.Test.YtodmdkhdbfbfgabGreatDoorM23
set_option linter.unusedVariables false
set_option linter.unusedSimpArgs false
set_option maxRecDepth 100000
set_option maxHeartbeats 8000000
namespace Go.Proofs.YtodmdkhdbfbfgabGreatDoor
open Go.RowKit Go.Nt
structure FsM (w:World) (fb tb lo hi cb lb:Nat) (L:S1.Loc) (lv:S1.Lv) (kv qv:Option Nat) (nk nq:Nat) (m:S1.M) (K Q:Nat→Bool) (b p:Nat) (l:List It):Prop where
 fs:FsAt w fb cb lb tb
 tree:TreeAt w tb l
 log:S1.LogM w lo hi cb lb L lv kv qv nk nq m K Q b p
 nf:¬S1.LogS lo hi lb kv qv fb
 nt:¬S1.LogS lo hi lb kv qv tb
 ne:fb≠tb
 tk:∀ g,lv.tk=some g→¬S1.LogS lo hi lb kv qv g∧g≠fb∧g≠tb∧∃ n S,S1.LbAt w g n S∧n≤100000∧∀ x,Free (S x)
def FsS (fb tb lo hi lb:Nat) (kv qv:Option Nat) (k:Nat):Prop:=S1.LogS lo hi lb kv qv k∨k=fb∨k=tb
theorem FsAt.p0 {w:World} {fb cb lb tb:Nat} (h:FsAt w fb cb lb tb):w.cell? ⟨fb,0,none⟩=some (.pointer (some ⟨cb,0,none⟩)):=by rw [cell_of_row w fb 0 _ 68 (0,0) h];rfl
theorem FsAt.p1 {w:World} {fb cb lb tb:Nat} (h:FsAt w fb cb lb tb):w.cell? ⟨fb,1,none⟩=some (.pointer (some ⟨lb,0,none⟩)):=by rw [cell_of_row w fb 1 _ 68 (0,0) h];rfl
theorem FsAt.fz {w:World} {fb cb lb tb:Nat} (h:FsAt w fb cb lb tb) (k:Nat):w.frozen? ⟨fb,k,none⟩=false:=frozen_of_row w fb k _ 68 h
theorem FsAt.set {w:World} {fb cb lb tb:Nat} (h:FsAt w fb cb lb tb) (c:Nat):FsAt (w.setCell ⟨fb,2,none⟩ (.map (some c))) fb cb lb c:=heap_setCell_same w fb 2 _ 68 (.map (some c)) h
theorem FsM.of_blocks {w w':World} {fb tb lo hi cb lb:Nat} {L:S1.Loc} {lv:S1.Lv} {kv qv:Option Nat} {nk nq:Nat} {m:S1.M} {K Q:Nat→Bool} {b p:Nat} {l:List It} (h:FsM w fb tb lo hi cb lb L lv kv qv nk nq m K Q b p l) (hs:w.heap.size≤w'.heap.size) (e:∀ k,FsS fb tb lo hi lb kv qv k∨lv.tk=some k→k<w.heap.size→w'.heap[k]? = w.heap[k]?):FsM w' fb tb lo hi cb lb L lv kv qv nk nq m K Q b p l:=
 ⟨(e fb (.inl (.inr (.inl rfl))) (lt_of_heap h.fs)).trans h.fs,h.tree.of_block (e tb (.inl (.inr (.inr rfl))) h.tree.lt),h.log.of_blocks (Nat.le_trans h.log.sz hs) (fun k hk hl=>e k (.inl (.inl hk)) hl),h.nf,h.nt,h.ne,fun g hg=>by
   obtain ⟨h1,h2,h3,n,S,h4,h5,h6⟩:=h.tk g hg;exact ⟨h1,h2,h3,n,S,h4.of_block (e g (.inr hg) h4.lt),h5,h6⟩⟩
theorem FsM.below {w w':World} {fb tb lo hi cb lb:Nat} {L:S1.Loc} {lv:S1.Lv} {kv qv:Option Nat} {nk nq:Nat} {m:S1.M} {K Q:Nat→Bool} {b p:Nat} {l:List It} (h:FsM w fb tb lo hi cb lb L lv kv qv nk nq m K Q b p l) (hb:Below w.heap.size w w'):FsM w' fb tb lo hi cb lb L lv kv qv nk nq m K Q b p l:=
 h.of_blocks hb.size fun k _ hk=>hb.block k hk
def TkS (w:World) (lv:S1.Lv) (m:S1.M) (S:Nat→Nat→Bool):Prop:=(lv.tk=none→S=hasL (scanF (S1.pgs m) m.np m.nb))∧∀ g,lv.tk=some g→∃ n,S1.LbAt w g n S∧n≤100000
def ChgP (u:Bs→Option Bs) (w:World) (fb tb lo hi cb lb:Nat) (L:S1.Loc) (lv:S1.Lv) (kv qv:Option Nat) (nk nq:Nat) (m:S1.M) (K Q:Nat→Bool) (b p:Nat) (l l':List It) (E:Int) (e:Ending) (w':World):Prop:=
 S1.Fm (FsS fb tb lo hi lb kv qv) w w' ∧
 ((∃ x c,(E≠0∧x=E∨E=0∧m.life=0∧x=10∨E=0∧m.life≠0∧∃ t,IsText u (qac l') t∧S1.mayE m t.length≠0∧x=S1.mayE m t.length)∧e=.returned (.int .i64 x)∧w.heap.size≤c∧FsM w' fb c lo hi cb lb L lv kv qv nk nq m K Q b p l) ∨
 (E=0∧m.life≠0∧(∀ q,at? l' q=at? l q)∧e=.returned (.int .i64 0)∧FsM w' fb tb lo hi cb lb L lv kv qv nk nq m K Q b p l') ∨
 (E=0∧m.life≠0∧∃ t S,IsText u (qac l') t∧S1.mayE m t.length=0∧TkS w lv m S∧(∀ x,Free (S x)) ∧
   ((∃ ib nk' g,(S1.addS m lv S K Q b p t).left=[]∧e=.returned (.int .i64 0)∧w.heap.size≤ib∧(lv.tk=some g∨w.heap.size≤g)∧(∃ nt,S1.LbAt w' g nt S∧nt≤100000)∧FsM w' fb tb lo hi cb lb L ⟨S1.badN m,S1.numN m lv S,some g⟩ (some ib) qv nk' nq (S1.addS m lv S K Q b p t).m (S1.addS m lv S K Q b p t).S (S1.addS m lv S K Q b p t).Q (S1.addS m lv S K Q b p t).b (S1.addS m lv S K Q b p t).p l') ∨
   (∃ c,(S1.addS m lv S K Q b p t).left≠[]∧e=.returned (.int .i64 (if (S1.addS m lv S K Q b p t).m.life=0 then 10 else 9))∧w.heap.size≤c∧FsM w' fb c lo hi cb lb L ⟨lv.nb,lv.nn,none⟩ kv qv nk nq (S1.addS m lv S K Q b p t).m K (S1.addS m lv S K Q b p t).Q b m.np l))))
theorem ql2 (tb pb db:Nat) (l:List It) (p d:Bs) (w:World) (hT:TreeAt w tb l) (ht:TreeP l) (hml:ML w) (hp:p.length≤1048576) (hd:d.length≤1048576) (h1:w.cell? ⟨pb,0,none⟩=some (.string (txt p))) (h2:w.cell? ⟨db,0,none⟩=some (.string (txt d))) :
 Calls Tryz.prog 29 #[.map (some tb),.pointer (some ⟨pb,0,none⟩),.pointer (some ⟨db,0,none⟩)] w fun e w'=>Done tb l (setIt l (putI l p d)) (putE l p d) w e w':=by
 have A:=hidI (qeR tb l p d w hT ht hml hp hd);obtain ⟨X,hX⟩:∃ X,X=txt p:=⟨_,rfl⟩;obtain ⟨Y,hY⟩:∃ Y,Y=txt d:=⟨_,rfl⟩;obtain ⟨E,hE⟩:∃ E,E=putE l p d:=⟨_,rfl⟩;rw [←hX,←hY,←hE] at A;rw [←hX] at h1;rw [←hY] at h2;rw [←hE];clear hX hY hE hT ht hml;go_enter Tryz.func29,Tryz.ntmps29
 go_wp2_with fail;refine A.out.mono ?_;rintro e w' ⟨rfl,hT1,hT2⟩;have H1:=hidI hT1;have H2:=hidI hT2;clear hT1 hT2 A;go_wp2_with fail;go_ret
 exact ⟨rfl,H1.out,H2.out⟩
theorem qgR (tb pb:Nat) (l:List It) (p:Bs) (w:World) (hT:TreeAt w tb l) (ht:TreeP l) (hml:ML w) (hp:p.length≤1048576) (h1:w.cell? ⟨pb,0,none⟩=some (.string (txt p))) :
 Calls Tryz.prog 32 #[.map (some tb),.pointer (some ⟨pb,0,none⟩)] w fun e w'=>Done tb l (l.filter fun y=>decide (y.path≠p)) (removeE l p) w e w':=by
 have A:=hidI (qhY tb l p w hT ht hml hp);obtain ⟨X,hX⟩:∃ X,X=txt p:=⟨_,rfl⟩;obtain ⟨E,hE⟩:∃ E,E=removeE l p:=⟨_,rfl⟩;rw [←hX,←hE] at A;rw [←hX] at h1;rw [←hE];clear hX hE hT ht hml;go_enter Tryz.func32,Tryz.ntmps32
 go_wp2_with fail;refine A.out.mono ?_;rintro e w' ⟨rfl,hT1,hT2⟩;have H1:=hidI hT1;have H2:=hidI hT2;clear hT1 hT2 A;go_wp2_with fail;go_ret
 exact ⟨rfl,H1.out,H2.out⟩
theorem FsM.back {w:World} {fb t0 c lo hi cb lb:Nat} {L:S1.Loc} {lv:S1.Lv} {kv qv:Option Nat} {nk nq:Nat} {m:S1.M} {K Q:Nat→Bool} {b p:Nat} {l:List It} (hf:FsAt w fb cb lb t0) (hc:TreeAt w c l) (hl:S1.LogM w lo hi cb lb L lv kv qv nk nq m K Q b p) (nf:¬S1.LogS lo hi lb kv qv fb) (nc:¬S1.LogS lo hi lb kv qv c) (ne:fb≠c) (tk:∀ g,lv.tk=some g→¬S1.LogS lo hi lb kv qv g∧g≠fb∧g≠c∧∃ n S,S1.LbAt w g n S∧n≤100000∧∀ x,Free (S x)) :
 FsM (w.setCell ⟨fb,2,none⟩ (.map (some c))) fb c lo hi cb lb L lv kv qv nk nq m K Q b p l:=by
 have e:∀ k,k≠fb→(w.setCell ⟨fb,2,none⟩ (.map (some c))).heap[k]? = w.heap[k]? := fun k hk=>Below.heap_setCell w ⟨fb,2,none⟩ _ k hk
 refine ⟨hf.set c,hc.of_block (e c fun h=>ne h.symm),hl.of_blocks (by have:=hl.sz;simpa using this) (fun k hk _=>e k fun h=>nf (by rw [←h];exact hk)),nf,nc,ne,fun g hg => ?_⟩;obtain ⟨h1,h2,h3,n,S,h4,h5,h6⟩:=tk g hg;exact ⟨h1,h2,h3,n,S,h4.of_block (e g h2),h5,h6⟩
theorem qnV (tmps:Array Value) (R:Ending→World→Prop) (z D fb:Nat) (c:Option Nat) (x:Int) (y:Value) (V:World) (h4:tmps[4]? = some (.pointer (some ⟨z+1,0,none⟩))) (he:V.cell? ⟨z+1,0,none⟩=some (.int .i64 x)) (hd:V.cell? ⟨D,0,none⟩=some (.map c)) (ha:V.cell? ⟨z,0,none⟩=some (.pointer (some ⟨fb,0,none⟩))) (hy:V.cell? ⟨fb,2,none⟩=some y) (hz:V.frozen? ⟨fb,2,none⟩=false) (hx:x≠0) (hne:fb≠z+1) (hR:R (.returned (.int .i64 x)) (V.setCell ⟨fb,2,none⟩ (.map c))) :
 bodyPostD Tryz.prog Tryz.f28 R Exit.ret { tmps:=tmps,defers:=[{ target:=.fn (.func 49) #[.pointer (some ⟨z+1,0,none⟩),.pointer (some ⟨D,0,none⟩),.pointer (some ⟨z,0,none⟩)],args:=#[] }] } V:=by
 refine leaves_cons (f:=49) (args:=#[.pointer (some ⟨z+1,0,none⟩),.pointer (some ⟨D,0,none⟩),.pointer (some ⟨z,0,none⟩)]) (by simp) (by simp [go_sem]) ?_;refine (qnU z (z+1) D fb c x y V he hd ha hy hz hx).mono ?_;rintro e u' w'' ⟨rfl,rfl,rfl⟩;have h5:(V.setCell ⟨fb,2,none⟩ (.map c)).cell? ⟨z+1,0,none⟩=some (.int .i64 x):=by
  rw [World.cell?_setCell_other]
  ·exact he
  intro h;cases h
 simp [Leaves,settle,results,Tryz.results28,go_sem,h4,h5];exact hR
theorem qhV (tmps:Array Value) (R:Ending→World→Prop) (z D:Nat) (V:World) (h4:tmps[4]? = some (.pointer (some ⟨z+1,0,none⟩))) (he:V.cell? ⟨z+1,0,none⟩=some (.int .i64 0)) (hR:R (.returned (.int .i64 0)) V) :
 bodyPostD Tryz.prog Tryz.f28 R Exit.ret { tmps:=tmps,defers:=[{ target:=.fn (.func 49) #[.pointer (some ⟨z+1,0,none⟩),.pointer (some ⟨D,0,none⟩),.pointer (some ⟨z,0,none⟩)],args:=#[] }] } V:=by
 refine leaves_cons (f:=49) (args:=#[.pointer (some ⟨z+1,0,none⟩),.pointer (some ⟨D,0,none⟩),.pointer (some ⟨z,0,none⟩)]) (by simp) (by simp [go_sem]) ?_;refine (qlT z (z+1) D V he).mono ?_;rintro e u' w'' ⟨rfl,rfl,rfl⟩;simp [Leaves,settle,results,Tryz.results28,go_sem,h4,he];exact hR
structure Mid (V:World) (z D fb tb c lo hi cb lb:Nat) (L:S1.Loc) (lv:S1.Lv) (kv qv:Option Nat) (nk nq:Nat) (m:S1.M) (K Q:Nat→Bool) (b p:Nat) (l l':List It) (x:Int):Prop where
 a:V.heap[z]? = some (.cells #[.pointer (some ⟨fb,0,none⟩)] 23 (0,0))
 d:V.heap[D]? = some (.cells #[.map (some c)] 64 (0,0))
 e:V.heap[z+1]? = some (.cells #[.int .i64 x] 32 (0,0))
 fs:FsAt V fb cb lb tb
 was:TreeAt V c l
 tree:TreeAt V tb l'
 log:S1.LogM V lo hi cb lb L lv kv qv nk nq m K Q b p
 tk:∀ g,lv.tk=some g→¬S1.LogS lo hi lb kv qv g∧g≠fb∧g≠tb∧g<z∧∃ n S,S1.LbAt V g n S∧n≤100000∧∀ x,Free (S x)
 nf:¬S1.LogS lo hi lb kv qv fb
 nt:¬S1.LogS lo hi lb kv qv tb
 nc:∀ k,z≤k→¬S1.LogS lo hi lb kv qv k
 ne:fb≠tb
 zs:fb<z∧tb<z∧z+2≤c∧c<D
namespace Mid
variable {V V':World} {z D fb tb c lo hi cb lb:Nat} {L:S1.Loc} {lv:S1.Lv} {kv qv:Option Nat} {nk nq:Nat} {m:S1.M} {K Q:Nat→Bool} {b p:Nat} {l l':List It} {x:Int}
theorem below (h:Mid V z D fb tb c lo hi cb lb L lv kv qv nk nq m K Q b p l l' x) (hb:Below V.heap.size V V'):Mid V' z D fb tb c lo hi cb lb L lv kv qv nk nq m K Q b p l l' x:=
 ⟨(hb.block _ (lt_of_heap h.a)).trans h.a,(hb.block _ (lt_of_heap h.d)).trans h.d,(hb.block _ (lt_of_heap h.e)).trans h.e,(hb.block _ (lt_of_heap h.fs)).trans h.fs,h.was.below hb h.was.lt,h.tree.below hb h.tree.lt,h.log.new hb,fun g hg=>by
   obtain ⟨h1,h2,h3,h4,n,S,h5,h6⟩:=h.tk g hg;exact ⟨h1,h2,h3,h4,n,S,h5.of_block (hb.block g h5.lt),h6⟩,h.nf,h.nt,h.nc,h.ne,h.zs⟩
theorem drew (h:Mid V z D fb tb c lo hi cb lb L lv kv qv nk nq m K Q b p l l' x):Mid V.drew z D fb tb c lo hi cb lb L lv kv qv nk nq m K Q b p l l' x:=h.below ((Below.refl _ V).drew)
theorem set (h:Mid V z D fb tb c lo hi cb lb L lv kv qv nk nq m K Q b p l l' x) (y:Int):Mid (V.setCell ⟨z+1,0,none⟩ (.int .i64 y)) z D fb tb c lo hi cb lb L lv kv qv nk nq m K Q b p l l' y:=by
 have e:∀ k,k≠z+1→(V.setCell ⟨z+1,0,none⟩ (.int .i64 y)).heap[k]? = V.heap[k]? := fun k hk=>Below.heap_setCell V ⟨z+1,0,none⟩ _ k hk
 have zs:=h.zs;refine ⟨(e _ (by omega)).trans h.a,(e _ (by omega)).trans h.d,heap_setCell_same V (z+1) 0 _ 32 (.int .i64 y) h.e,(e _ (by omega)).trans h.fs,h.was.of_block (e _ (by omega)),h.tree.of_block (e _ (by omega)),h.log.of_blocks (by have:=h.log.sz;simpa using this) (fun k hk _=>e k fun h'=>h.nc (z+1) (by omega) (by rw [←h'];exact hk)),fun g hg => ?_,h.nf,h.nt,h.nc,h.ne,h.zs⟩;obtain ⟨h1,h2,h3,h4,n,S,h5,h6⟩:=h.tk g hg;exact ⟨h1,h2,h3,h4,n,S,h5.of_block (e g (by omega)),h6⟩
theorem a0 (h:Mid V z D fb tb c lo hi cb lb L lv kv qv nk nq m K Q b p l l' x):V.cell? ⟨z,0,none⟩=some (.pointer (some ⟨fb,0,none⟩)):=by rw [cell_of_row V z 0 _ 23 (0,0) h.a];rfl
theorem d0 (h:Mid V z D fb tb c lo hi cb lb L lv kv qv nk nq m K Q b p l l' x):V.cell? ⟨D,0,none⟩=some (.map (some c)):=by rw [cell_of_row V D 0 _ 64 (0,0) h.d];rfl
theorem e0 (h:Mid V z D fb tb c lo hi cb lb L lv kv qv nk nq m K Q b p l l' x):V.cell? ⟨z+1,0,none⟩=some (.int .i64 x):=by rw [cell_of_row V (z+1) 0 _ 32 (0,0) h.e];rfl
theorem ef (h:Mid V z D fb tb c lo hi cb lb L lv kv qv nk nq m K Q b p l l' x):V.frozen? ⟨z+1,0,none⟩=false:=frozen_of_row V (z+1) 0 _ 32 h.e
theorem now (h:Mid V z D fb tb c lo hi cb lb L lv kv qv nk nq m K Q b p l l' x):FsM V fb tb lo hi cb lb L lv kv qv nk nq m K Q b p l':=
 ⟨h.fs,h.tree,h.log,h.nf,h.nt,h.ne,fun g hg=>by
  obtain ⟨h1,h2,h3,h4,n,S,h5,h6⟩:=h.tk g hg;exact ⟨h1,h2,h3,n,S,h5,h6⟩⟩
theorem door {R:Ending→World→Prop} (h:Mid V z D fb tb c lo hi cb lb L lv kv qv nk nq m K Q b p l l' x) (tmps:Array Value) (h4:tmps[4]? = some (.pointer (some ⟨z+1,0,none⟩))) (hx:x≠0) (hR:FsM (V.setCell ⟨fb,2,none⟩ (.map (some c))) fb c lo hi cb lb L lv kv qv nk nq m K Q b p l→R (.returned (.int .i64 x)) (V.setCell ⟨fb,2,none⟩ (.map (some c)))) :
 bodyPostD Tryz.prog Tryz.f28 R Exit.ret { tmps:=tmps,defers:=[{ target:=.fn (.func 49) #[.pointer (some ⟨z+1,0,none⟩),.pointer (some ⟨D,0,none⟩),.pointer (some ⟨z,0,none⟩)],args:=#[] }] } V:=by
 have zs:=h.zs;refine qnV tmps R z D fb (some c) x _ V h4 h.e0 h.d0 h.a0 h.fs.c2 (h.fs.fz 2) hx (by omega) (hR (FsM.back h.fs h.was h.log h.nf (h.nc c (by omega)) (by omega) fun g hg => ?_));obtain ⟨h1,h2,h3,h4,n,S,h5,h6⟩:=h.tk g hg;exact ⟨h1,h2,by omega,n,S,h5,h6⟩
end Mid
theorem qnS {w:World} {lo hi cb lb:Nat} {L:S1.Loc} {v0:S1.Lv} {kv qv:Option Nat} {nk nq:Nat} {m:S1.M} {K Q:Nat→Bool} {b p:Nat} {S:Nat→Nat→Bool} {t:List UInt8} {e:Ending} {w':World} (h:S1.AddPost w lo hi cb lb L v0 kv qv nk nq m K Q b p S t e w'):(∃ x:Int,e=.returned (.int .i64 x))∧S1.Fm (S1.LogS lo hi lb kv qv) w w':=by
 obtain ⟨h1,h2,h3⟩:=h;by_cases hm:S1.mayE m t.length=0
 ·by_cases hl:(S1.addS m v0 S K Q b p t).left=[]
  ·obtain ⟨_,_,_,_,rfl,_,_,_,_,hF,_⟩:=h2 hm hl;exact ⟨⟨_,rfl⟩,hF⟩
  obtain ⟨rfl,_,hF⟩:=h3 hm hl;exact ⟨⟨_,rfl⟩,hF⟩
 obtain ⟨rfl,rfl⟩:=h1 hm;exact ⟨⟨_,rfl⟩,S1.Fm.refl _ _⟩
theorem qfJ {m:S1.M} (hw:S1.WF m) (x:Nat):Free (hasL (scanF (S1.pgs m) m.np m.nb) x):=qdx (by
 have h1:=scanF_len (S1.pgs m) m.np m.nb;have h2:m.nb*m.np≤32*16:=Nat.mul_le_mul hw.nb2 hw.np2;omega) x
theorem Mid.turned {V V':World} {z D fb tb c lo hi cb lb:Nat} {L:S1.Loc} {lv:S1.Lv} {kv qv:Option Nat} {nk nq:Nat} {m:S1.M} {K Q:Nat→Bool} {b p:Nat} {l l':List It} {x:Int} (h:Mid V z D fb tb c lo hi cb lb L lv kv qv nk nq m K Q b p l l' x) (hF:S1.Fm (S1.LogS lo hi lb kv qv) V V') {lv':S1.Lv} {nk' nq':Nat} {m':S1.M} {K' Q':Nat→Bool} {b' p':Nat} (hL:S1.LogM V' lo hi cb lb L lv' kv qv nk' nq' m' K' Q' b' p') (htk:lv'.tk=none):Mid V' z D fb tb c lo hi cb lb L lv' kv qv nk' nq' m' K' Q' b' p' l l' x:=by
 have zs:=h.zs;exact ⟨(hF.block _ (lt_of_heap h.a) (h.nc _ (Nat.le_refl _))).trans h.a,(hF.block _ (lt_of_heap h.d) (h.nc _ (by omega))).trans h.d,(hF.block _ (lt_of_heap h.e) (h.nc _ (by omega))).trans h.e,(hF.block _ (lt_of_heap h.fs) h.nf).trans h.fs,h.was.of_block (hF.block _ h.was.lt (h.nc _ (by omega))),h.tree.of_block (hF.block _ h.tree.lt h.nt),hL,fun g hg=>(by rw [htk] at hg;cases hg),h.nf,h.nt,h.nc,h.ne,h.zs⟩
theorem qdX {u:Bs→Option Bs} (hP:PackC u) (G:Nat) (cap:Array Value) (w:World) (fb tb lo hi cb lb:Nat) (L:S1.Loc) (lv:S1.Lv) (kv qv:Option Nat) (nk nq:Nat) (m:S1.M) (K Q:Nat→Bool) (b p:Nat) (l l':List It) (E:Int)
 (h:FsM w fb tb lo hi cb lb L lv kv qv nk nq m K Q b p l) (ht:TreeP l) (ht':E=0→TreeP l') (hml:ML w) (h0:¬FsS fb tb lo hi lb kv qv 0) (hb:b<1000) (hp:p≤m.np)
 (hin:∀ args w,(callFunc G args).run Tryz.prog w=.ok (.enter G args) w)
 (hdo:∀ W,Below w.heap.size w W→Calls Tryz.prog G (#[.map (some tb)]++cap) W fun e w'=>Done tb l l' E W e w') :
 Calls Tryz.prog 28 #[.pointer (some ⟨fb,0,none⟩),.func (.func G) #[] cap] w fun e w'=>ChgP u w fb tb lo hi cb lb L lv kv qv nk nq m K Q b p l l' E e w':=by
 have hmf:∀ (fn:Fn) (first cap:Array Value) (w:World),(Instr.makeFunc fn first cap).run Tryz.prog w=.ok (.func fn first cap) w:=fun _ _ _ _=>rfl
 have hfl:=lt_of_heap h.fs;have htl:=h.tree.lt;obtain ⟨z0,hz0⟩:∃ z0,z0=w.heap.size:=⟨_,rfl⟩;obtain ⟨W1,hW1⟩:∃ W1,W1=(w.alloc (.cells #[.pointer (some ⟨fb,0,none⟩)] 23)).alloc (.cells #[.int .i64 0] 32):=⟨_,rfl⟩;have hB1:Below w.heap.size w W1:=by rw [hW1];exact ((Below.refl _ w).alloc (Nat.le_refl _) _).alloc (by simp) _
 have hs1:W1.heap.size=z0+2:=by rw [hW1,hz0];simp
 have hA1:W1.heap[z0]? = some (.cells #[.pointer (some ⟨fb,0,none⟩)] 23 (0,0)):=by rw [hW1,hz0];exact (Below.heap_alloc _ _ _ (by simp)).trans (heap_alloc_new _ _)
 have hE1:W1.heap[z0+1]? = some (.cells #[.int .i64 0] 32 (0,0)):=by rw [hW1,hz0];have:=heap_alloc_new (w.alloc (.cells #[.pointer (some ⟨fb,0,none⟩)] 23)) (.cells #[.int .i64 0] 32);simpa using this
 have hM1:=h.below hB1;have A:=hidI (qiN tb l W1 hM1.tree);have a0:W1.cell? ⟨z0,0,none⟩=some (.pointer (some ⟨fb,0,none⟩)):=by rw [cell_of_row W1 z0 0 _ 23 (0,0) hA1];rfl
 have c2:=hM1.fs.c2;have HM1:=hidI hM1;have HA1:=hidI hA1;have HE1:=hidI hE1;have HB1:=hidI hB1;have HW1:=hidI hW1;have Hz0:=hidI hz0;have Hdo:=hidI hdo;have Hin:=hidI hin;have Hs1:=hidI hs1;have H:=hidI h;have Hml:=hidI hml;clear hM1 hA1 hE1 hB1 hW1 hdo h hml hin hs1 hz0
 go_enter_defers Tryz.func28,Tryz.ntmps28
 go_wp2_with (first | (rw [←HW1.out,←Hz0.out]) | fail);refine A.out.mono ?_;rintro e W2 ⟨rfl,hC2,hB2⟩;obtain ⟨C,hC⟩:∃ C,C=W1.heap.size:=⟨_,rfl⟩;rw [←hC] at hC2 ⊢;have hM2:=HM1.out.below hB2;have hA2:=(hB2.block z0 (by have:=Hs1.out;omega)).trans HA1.out;have hE2:=(hB2.block (z0+1) (by have:=Hs1.out;omega)).trans HE1.out;obtain ⟨D,hD⟩:∃ D,D=W2.heap.size:=⟨_,rfl⟩;obtain ⟨W3,hW3⟩:∃ W3,W3=W2.alloc (.cells #[.map (some C)] 64):=⟨_,rfl⟩;have hB3:Below W2.heap.size W2 W3:=by rw [hW3];exact (Below.refl _ W2).alloc (Nat.le_refl _) _
 have hz2:z0+2≤D:=by rw [hD];have:=hB2.size;have:=Hs1.out;omega
 have hs3:W3.heap.size=D+1:=by rw [hW3,hD];simp
 have hM3:=hM2.below hB3;have hA3:W3.heap[z0]? = _:=(hB3.block z0 (by omega)).trans hA2;have hE3:W3.heap[z0+1]? = _:=(hB3.block (z0+1) (by omega)).trans hE2;have hD3:W3.heap[D]? = some (.cells #[.map (some C)] 64 (0,0)):=by rw [hW3,hD];exact heap_alloc_new _ _
 have hT3:TreeAt W3 C l:=hC2.below hB3 (by have:=hC2.lt;omega);have hB03:Below w.heap.size w W3:=(HB1.out.trans (hB2.mono HB1.out.size)).trans (hB3.mono (by have:=HB1.out.size;have:=hB2.size;omega));have hC0:z0+2≤C∧C<D:=⟨by rw [hC];have:=Hs1.out;omega,by rw [hD];exact hC2.lt⟩;have a0:W3.cell? ⟨z0,0,none⟩=some (.pointer (some ⟨fb,0,none⟩)):=by rw [cell_of_row W3 z0 0 _ 23 (0,0) hA3];rfl
 have c2:=hM3.fs.c2;have HW3:=hidI hW3;have HD:=hidI hD;have HM3:=hidI hM3;have HA3:=hidI hA3;have HE3:=hidI hE3;have HD3:=hidI hD3;have HT3:=hidI hT3;have HB03:=hidI hB03;have Hs3:=hidI hs3;have hcall:=Hdo.out W3 hB03;have Hcall:=hidI hcall;clear hM2 hA2 hE2 hB2 hW3 hD hC2 hC hB3 hM3 hA3 hE3 hD3 hT3 hB03 hs3 hcall HM1 HA1 HE1 HW1 A;have hin:=Hin.out;go_wp2_with (first | (rw [←HW3.out,←HD.out]) | fail);refine Hcall.out.mono ?_;rintro e W4 ⟨rfl,hTu,hT4⟩;have hDt:z0+1≠tb∧z0≠tb∧D≠tb∧C≠tb∧fb<z0∧tb<z0:=by have:=Hz0.out;omega
 obtain ⟨W5,hW5⟩:∃ W5,W5=W4.setCell ⟨z0+1,0,none⟩ (.int .i64 E):=⟨_,rfl⟩;have hK:∀ k,k<W3.heap.size→k≠tb→k≠z0+1→W5.heap[k]? = W3.heap[k]? := fun k hk h1 h2=>by
  rw [hW5];exact (Below.heap_setCell W4 ⟨z0+1,0,none⟩ _ k h2).trans (hTu.block k hk h1)
 have hsz5:W3.heap.size≤W5.heap.size:=by rw [hW5];have:=hTu.size;simpa using this
 have hS0:∀ k,S1.LogS lo hi lb kv qv k→k<z0∧k≠tb:=fun k hk=>⟨by rw [Hz0.out];exact S1.logS_lt H.out.log hk,fun e=>H.out.nt (by rw [←e];exact hk)⟩
 have hs3:=Hs3.out;have hM5:Mid W5 z0 D fb tb C lo hi cb lb L lv kv qv nk nq m K Q b p l (if E=0 then l' else l) E:=by
  refine ⟨(hK z0 (by omega) (by omega) (by omega)).trans HA3.out,(hK D (by omega) (by omega) (by omega)).trans HD3.out,?_,(hK fb (by omega) H.out.ne (by omega)).trans HM3.out.fs,HT3.out.of_block (hK C HT3.out.lt (by omega) (by omega)),hT4.of_block (by rw [hW5];exact Below.heap_setCell W4 ⟨z0+1,0,none⟩ _ tb (show tb≠z0+1 by omega)),HM3.out.log.of_blocks (Nat.le_trans HM3.out.log.sz hsz5) (fun k hk _=>by
   have:=hS0 k hk
   exact hK k (by omega) this.2 (by omega)),fun g hg => ?_,H.out.nf,H.out.nt,fun k hk h=>by have:=hS0 k h;omega,H.out.ne,by omega⟩
  ·rw [hW5];exact heap_setCell_same W4 (z0+1) 0 _ 32 (.int .i64 E) ((hTu.block (z0+1) (by omega) (by omega)).trans HE3.out)
  obtain ⟨h1,h2,h3,n,S,h4,h5,h6⟩:=H.out.tk g hg;obtain ⟨_,_,_,n',S',h4',h5',h6'⟩:=HM3.out.tk g hg;have hlt:g<z0:=by rw [Hz0.out];exact h4.lt
  exact ⟨h1,h2,h3,hlt,n',S',h4'.of_block (hK g (by omega) h3 (by omega)),h5',h6'⟩
 have hR5:S1.Fm (FsS fb tb lo hi lb kv qv) w W5:=by
  have h1:S1.Fm (FsS fb tb lo hi lb kv qv) W3 W4:=⟨hTu.os,hTu.tape,hTu.output,hTu.size,fun k hk hn=>hTu.block k hk fun e=>hn (.inr (.inr e))⟩;rw [hW5];exact ((S1.Fm.of_new HB03.out).trans h1).set (fun hlt=>by have:=Hz0.out;omega) 0 _
 have HX:Hid (∀ V y,S1.Fm (FsS fb tb lo hi lb kv qv) w V→S1.Fm (FsS fb tb lo hi lb kv qv) w (V.setCell ⟨z0+1,0,none⟩ (.int .i64 y))):=hidI fun V y hV=>hV.set (fun hlt=>by have:=Hz0.out;omega) 0 _
 have HY:Hid (∀ V y,S1.Fm (FsS fb tb lo hi lb kv qv) w V→S1.Fm (FsS fb tb lo hi lb kv qv) w (V.setCell ⟨fb,2,none⟩ y)):=hidI fun V y hV=>hV.set (fun _=>.inr (.inl rfl)) 2 _
 have e0:W4.cell? ⟨z0+1,0,none⟩=some (.int .i64 0):=by rw [cell_of_row W4 (z0+1) 0 _ 32 (0,0) ((hTu.block (z0+1) (by omega) (by omega)).trans HE3.out)];rfl
 have f0:W4.frozen? ⟨z0+1,0,none⟩=false:=frozen_of_row W4 (z0+1) 0 _ 32 ((hTu.block (z0+1) (by omega) (by omega)).trans HE3.out);have e5:=hM5.e0;have f5:=hM5.ef;have a5:=hM5.a0;have d5:=hM5.d0;have HW5:=hidI hW5;have HM5:=hidI hM5;have HR5:=hidI hR5;have HCz:Hid (w.heap.size≤C):=hidI (by have:=Hz0.out;omega);have Hht:=hidI ht;have Hht':=hidI ht';clear hTu hT4 hW5 hK hsz5 hR5 hS0 hs3 hM5 HM3 HA3 HE3 HD3 HT3 Hcall Hdo a0 c2 ht ht';by_cases hE:E=0
 ·subst hE;rw [if_pos rfl] at HM5;have A:=hidI (S1.dead_any W5 lo hi cb L m HM5.out.log.chip);have p0:=HM5.out.fs.p0;have p1:=HM5.out.fs.p1;have p2:=HM5.out.fs.c2;have ht':=Hht'.out rfl;have ht:=Hht.out;by_cases hlf:m.life=0
  ·have hlb:(m.life==0)=true:=by simp [hlf]
   rw [hlb] at A;go_wp2_with (first | (rw [←HW5.out]) | (go_at_call 31;refine A.out.mono ?_;rintro e w' ⟨rfl,hw⟩;have hw':=hw.symm;subst hw';clear hw) | fail);exact (HM5.out.set 10).door _ rfl (by decide) fun hM=>⟨HY.out _ _ (HX.out _ _ HR5.out),.inl ⟨10,C,.inr (.inl ⟨rfl,hlf,rfl⟩),rfl,HCz.out,hM⟩⟩
  have hlb:(m.life==0)=false:=by simp [hlf]
  rw [hlb] at A;have hml5:ML W5:=by
   obtain ⟨x,hx⟩:=Hml.out;exact ⟨x,by rw [World.cell?_of_block (HR5.out.block 0 Hml.out.lt h0)];exact hx⟩
  have B:=hidI (qik tb C l' l W5.drew HM5.out.drew.tree HM5.out.drew.was ht'.nodup ht.nodup (by have:=ht'.len;omega) (fun x hx=>by have:=(qaH (ht'.ok x hx)).p;omega));have Hml5:=hidI hml5;have Hlf:=hidI hlf;have a5d:W5.drew.cell? ⟨z0,0,none⟩=some (.pointer (some ⟨fb,0,none⟩)):=a5;have p2d:W5.drew.cell? ⟨fb,2,none⟩=some (.map (some tb)):=p2;have d5d:W5.drew.cell? ⟨D,0,none⟩=some (.map (some C)):=d5;clear hml5 hlf;go_wp2_with (first | (rw [←HW5.out]) | (go_at_call 31;refine A.out.mono ?_;rintro e w' ⟨rfl,hw⟩;have hw':=hw.symm;subst hw';clear hw) | fail);go_region_held3 (fun V=>V.cell? ⟨z0,0,none⟩=some (.pointer (some ⟨fb,0,none⟩))∧V.cell? ⟨fb,2,none⟩=some (.map (some tb))∧V.cell? ⟨D,0,none⟩=some (.map (some C))) (go_keep) (first
   | (go_at_call 50;refine B.out.mono ?_;rintro e W6 ⟨hb6,r,rfl,hr⟩;have HM6:=hidI (HM5.out.drew.below hb6);have a6:=HM6.out.a0;have p6:=HM6.out.fs.c2;have d6:=HM6.out.d0;have HR6:=hidI (HR5.out.drew.trans (S1.Fm.of_new hb6));have Hml6:Hid (ML W6):=hidI ((Hml5.out.below (Below.refl _ W5).drew Hml5.out.lt).below hb6 Hml5.out.lt);have Hr:=hidI hr;clear hb6 hr))
  rename_i hHeld;clear hHeld a5d p2d d5d a5 p2 d5 A B p0 p1 e5 f5;have e6:=HM6.out.e0;have f6:=HM6.out.ef;cases r with
  | true =>
    go_wp2_with fail;exact qhV _ _ z0 D _ rfl (HM6.out.set 0).e0 ⟨HX.out _ _ HR6.out,.inr (.inl ⟨rfl,Hlf.out,Hr.out trivial,rfl,(HM6.out.set 0).now⟩)⟩
  | false =>
    obtain ⟨S,hS1,hS2,hS3⟩:∃ S,TkS w lv m S∧(∀ x,Free (S x))∧∀ V,Below W6.drew.heap.size W6.drew V→S1.LogM V lo hi cb lb L lv kv qv nk nq m K Q b p→Calls Tryz.prog 77 #[.pointer (some ⟨lb,0,none⟩)] V fun e w'=>S1.NextPost V lo hi cb lb L lv kv qv nk nq m K Q b p S e w':=by
     cases hg:lv.tk with
     | none=>exact ⟨_,⟨fun _=>rfl,fun g hg'=>by rw [hg] at hg';cases hg'⟩,qfJ HM6.out.log.wf,fun V _ hL=>S1.next_both.2 V lo hi cb lb L lv kv qv nk nq m K Q b p _ rfl hL hg Hlf.out (qfJ HM6.out.log.wf _)⟩
     | some g =>
       obtain ⟨h1,h2,h3,h4,n,S,h5,h6,h7⟩:=HM6.out.drew.tk g hg;have hwg:w.heap[g]? = W6.drew.heap[g]? := (HR6.out.block g (by have:=Hz0.out;omega) (fun hS=>by
        rcases hS with h | h | h
        ·exact h1 h
        ·exact h2 h
        exact h3 h)).symm
       exact ⟨S,⟨(fun h=>by rw [hg] at h;cases h),fun g' hg'=>by rw [hg] at hg';cases hg';exact ⟨n,h5.of_block hwg,h6⟩⟩,h7,fun V hV hL=>S1.next_both.1 V lo hi cb lb L lv kv qv nk nq m K Q b p S g n hL hg (h5.of_block (hV.block g h5.lt)) h6 h1 (h7 _)⟩
    have HT:=hidI (qhp hP tb l' W6.drew HM6.out.drew.tree ht' (Hml6.out.below (Below.refl _ W6).drew Hml6.out.lt));have hwl:weigh (qac l')≤4271*60:=by
     have h1:weigh (qac l')=weigh l':=((qaq l').map _).sum_nat;have h2:=qeC fun x hx=>qaH (ht'.ok x hx)
     have h3:=ht'.len;have h4:4271*l'.length≤4271*60:=Nat.mul_le_mul_left _ h3;omega
    have HAdd:Hid (∀ V t,IsText u (qac l') t→Below W6.drew.heap.size W6.drew V→Calls Tryz.prog 51 #[.pointer (some ⟨lb,0,none⟩),.string (txt t)] V fun e w'=>S1.AddPost V lo hi cb lb L lv kv qv nk nq m K Q b p S t e w'):=hidI fun V t hIt hV=>by
     have hL:=HM6.out.log.drew.new hV;exact S1.add_any V lo hi cb lb L lv kv qv nk nq m K Q b p S t hL hb hp (by have:=qbO hIt;omega) (nxt_free (hS2 _) (Nat.mod_lt _ (by decide))).2 (fun _=>hS3 V hV hL)
    have HS1:=hidI hS1;have HS2:=hidI hS2;have p1:=HM6.out.fs.p1;have a6d:W6.drew.cell? ⟨z0,0,none⟩=some (.pointer (some ⟨fb,0,none⟩)):=a6;have p6d:W6.drew.cell? ⟨fb,2,none⟩=some (.map (some tb)):=p6;have p1d:W6.drew.cell? ⟨fb,1,none⟩=some (.pointer (some ⟨lb,0,none⟩)):=p1;clear hS1 hS2 hS3 hwl d6 ht ht';go_wp2_with fail;go_region_held3 (fun V=>V.cell? ⟨z0,0,none⟩=some (.pointer (some ⟨fb,0,none⟩))∧V.cell? ⟨fb,2,none⟩=some (.map (some tb))∧V.cell? ⟨fb,1,none⟩=some (.pointer (some ⟨lb,0,none⟩))) (go_keep) (first
     | (go_at_call 47;refine HT.out.mono ?_;rintro e W7 ⟨t,rfl,hIt,hb7⟩;have HM7:=hidI (HM6.out.drew.below hb7);have a7:=HM7.out.a0;have p7:=HM7.out.fs.c2;have q7:=HM7.out.fs.p1;have HR7:=hidI (HR6.out.drew.trans (S1.Fm.of_new hb7));have HAt:=hidI (HAdd.out W7 t hIt hb7);have HIt:=hidI hIt;have Hs7:=hidI hb7.size;clear hb7 hIt;obtain ⟨X,hX⟩:∃ X,X=txt t:=⟨_,rfl⟩;rw [←hX] at HAt ⊢;clear hX)
     | (go_at_call 51;refine HAt.out.mono ?_;rintro e W8 hpost;obtain ⟨⟨x,rfl⟩,hF8⟩:=qnS hpost;have HP8:=hidI hpost;have HF8:=hidI hF8;have zs:=HM7.out.zs;have k8:=(hF8.block _ (lt_of_heap HM7.out.a) (HM7.out.nc _ (Nat.le_refl _))).trans HM7.out.a;have k9:=(hF8.block _ (lt_of_heap HM7.out.fs) HM7.out.nf).trans HM7.out.fs;have k10:=(hF8.block _ (lt_of_heap HM7.out.e) (HM7.out.nc _ (by omega))).trans HM7.out.e;have a8:W8.cell? ⟨z0,0,none⟩=some (.pointer (some ⟨fb,0,none⟩)):=(by rw [cell_of_row W8 z0 0 _ 23 (0,0) k8];rfl);have p8:=FsAt.c2 k9;have q8:=FsAt.p1 k9;have e8:W8.cell? ⟨z0+1,0,none⟩=some (.int .i64 0):=(by rw [cell_of_row W8 (z0+1) 0 _ 32 (0,0) k10];rfl);have f8:W8.frozen? ⟨z0+1,0,none⟩=false:=frozen_of_row W8 (z0+1) 0 _ 32 k10;have p9:(W8.setCell ⟨z0+1,0,none⟩ (.int .i64 x)).cell? ⟨fb,2,none⟩=some (.map (some tb)):=(by rw [World.cell?_setCell_other];exact p8;intro h;cases h);have q9:(W8.setCell ⟨z0+1,0,none⟩ (.int .i64 x)).cell? ⟨fb,1,none⟩=some (.pointer (some ⟨lb,0,none⟩)):=(by rw [World.cell?_setCell_other];exact q8;intro h;cases h);clear hpost hF8 k8 k9 k10))
    rename_i hHeld;clear hHeld HT HAdd a6d p6d p1d a6 p6 p1;go_wp2_with fail;have HRx:=HX.out W8 x (HR7.out.trans (HF8.out.mono fun k _ hk=>.inl hk));have hz7:z0+2≤W7.heap.size:=by have:=HM7.out.was.lt;omega
    have hzw:=Hz0.out;obtain ⟨h1,h2,h3⟩:=HP8.out;by_cases hm:S1.mayE m t.length=0
    ·by_cases hl:(S1.addS m lv S K Q b p t).left=[]
     ·obtain ⟨ib,nk',g,nt,hx,hL8,hg8,hnt,hgs,_,hib,hgo⟩:=h2 hm hl;have hx0:x=0:=by injection hx with h;injection h
      subst hx0;have hE8:W8.heap[z0+1]? = some (.cells #[.int .i64 0] 32 (0,0)):=(HF8.out.block _ (lt_of_heap HM7.out.e) (HM7.out.nc _ (by omega))).trans HM7.out.e;have hE9:=heap_setCell_same W8 (z0+1) 0 _ 32 (.int .i64 0) hE8;have ek:∀ k,k≠z0+1→(W8.setCell ⟨z0+1,0,none⟩ (.int .i64 0)).heap[k]? = W8.heap[k]? := fun k hk=>Below.heap_setCell W8 ⟨z0+1,0,none⟩ _ k hk
      have hSib:∀ k,S1.LogS lo hi lb (some ib) qv k→S1.LogS lo hi lb kv qv k∨k=ib:=fun k hk=>by
       rcases hk with h | h | h | h
       ·exact .inl (.inl h)
       ·exact .inl (.inr (.inl h))
       ·cases h;exact .inr rfl
       exact .inl (.inr (.inr (.inr h)))
      have hgz:g≠z0+1∧g≠fb∧g≠tb:=by
       rcases hgo with h | h
       ·obtain ⟨_,a1,a2,a3,_⟩:=HM7.out.tk g h;exact ⟨by omega,a1,a2⟩
       omega
      refine qhV _ _ z0 D _ rfl (by rw [cell_of_row _ (z0+1) 0 _ 32 (0,0) hE9];rfl) ⟨HRx,.inr (.inr ⟨rfl,Hlf.out,t,S,HIt.out,hm,HS1.out,HS2.out,.inl ⟨ib,nk',g,hl,rfl,by omega,?_,⟨nt,hg8.of_block (ek g hgz.1),hnt⟩,?_⟩⟩)⟩
      ·rcases hgo with h | h
       ·exact .inl h
       exact .inr (by omega)
      refine ⟨(ek fb (by omega)).trans ((HF8.out.block _ (lt_of_heap HM7.out.fs) HM7.out.nf).trans HM7.out.fs),(HM7.out.tree.of_block (HF8.out.block _ HM7.out.tree.lt HM7.out.nt)).of_block (ek tb (by omega)),hL8.of_blocks (by have:=hL8.sz;simpa using this) (fun k hk _=>ek k ?_),fun h => ?_,fun h => ?_,HM7.out.ne,fun g' hg' => ?_⟩
      ·intro e;rcases hSib k hk with h | h
       ·exact HM7.out.nc k (by omega) h
       omega
      ·rcases hSib fb h with h | h
       ·exact HM7.out.nf h
       omega
      ·rcases hSib tb h with h | h
       ·exact HM7.out.nt h
       omega
      cases hg'
      exact ⟨hgs,hgz.2.1,hgz.2.2,nt,S,hg8.of_block (ek g hgz.1),hnt,HS2.out⟩
     obtain ⟨hx,hL8,_⟩:=h3 hm hl;have hx0:x=if (S1.addS m lv S K Q b p t).m.life=0 then 10 else 9:=by injection hx with h;injection h
     have hM8:=HM7.out.turned HF8.out hL8 rfl;exact (hM8.set x).door _ rfl (by rw [hx0];split<;>decide) fun hM=>⟨HY.out _ _ HRx,.inr (.inr ⟨rfl,Hlf.out,t,S,HIt.out,hm,HS1.out,HS2.out,.inr ⟨C,hl,by rw [hx0],HCz.out,hM⟩⟩)⟩
    obtain ⟨hx,hw8⟩:=h1 hm;have hx0:x=S1.mayE m t.length:=by injection hx with h;injection h
    subst hw8;exact (HM7.out.set x).door _ rfl (by rw [hx0];exact hm) fun hM=>⟨HY.out _ _ HRx,.inl ⟨x,C,.inr (.inr ⟨rfl,Hlf.out,t,HIt.out,hm,hx0⟩),rfl,HCz.out,hM⟩⟩
 have hEb:(E != 0)=true:=by simpa using hE
 rw [if_neg hE] at HM5;go_wp2_with (first | (rw [←HW5.out]) | fail);exact (HM5.out.set E).door _ rfl hE fun hM=>⟨HY.out _ _ (HX.out _ _ HR5.out),.inl ⟨E,C,.inl ⟨hE,rfl⟩,rfl,HCz.out,hM⟩⟩
end Go.Proofs.YtodmdkhdbfbfgabGreatDoor
