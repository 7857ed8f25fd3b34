/- Lemmas. -/
import Derived.Laws.MakeOwn
import Derived.Test.YtodmdkhdbfbfgaaGreatDoorM10
set_option linter.unusedVariables false
set_option linter.unusedSimpArgs false
set_option maxRecDepth 100000
set_option maxHeartbeats 8000000
namespace Go.Proofs.YtodmdkhdbfbfgaaGreatDoor
section
open Go.RowKit Go.Nt Go.Sort Go.Lib Go.Shelf
theorem qha (l:List It):(qab l).map (·.path)=sortP (l.map (·.path)):=by
 unfold qab sortP;exact List.map_mergeSort (f:=fun x:It=>x.path) (r:=fun x y:It => !less y.path x.path) (s:=fun x y => !less y x) (l:=l) (fun a _ b _=>rfl)
theorem qaA (l:List It):(qab l).length=l.length:=by simp [qab]
theorem order_mem {l:List It} {x:It}:x∈qab l↔x∈l:=by simp [qab]
theorem qdw {w:World} {ops:Array Oper} {rest:List Oper} {o:Oper} {a:Act} {Q:Exit→Act→World→Prop} (hg:o.guard=none) (m:Operand) (hop:o.op=Op.call { callee:=Callee.builtin Builtin.len,args:=#[m],argTypes:=#[77] })
 (b:Nat) (l:List It) (hm:a.eval m=.map (some b)) (hT:TreeAt w b l) (hn:(l.map (·.path)).Nodup)
 (hK:wpList Tryz.prog ops Q rest (a.put o.dst (.int .i64 l.length)) w) :
 wpList Tryz.prog ops Q (o :: rest) a w:=by
 refine wpList_plain hg fun K' hK' => ?_
 unfold Oper.wp;simp [execOp,hop,resolve,invoke,builtin,hm,hT.len hn o.type,Result.andThen];exact hK' _ _ hK
theorem qmh {w:World} {B gk cap n:Nat} {ps:List Bs} (h:w.ownsRow B 9 1 (.slice (some ⟨gk,0,none⟩) n cap) n (ps.map encStr)) {k:Nat} {p:Bs} (hk:ps[k]? = some p):w.cell? ⟨gk,k,none⟩=some (.string (txt p)):=by
 rcases h.2 with ⟨e,_⟩ | ⟨g,cap',cur,e,_,hb,h1,h2,h3,h4⟩
 ·cases e
 cases e
 rw [cell_of_row w gk k cur 9 (0,0) hb];have hlt:k<ps.length:=(List.getElem?_eq_some_iff.1 hk).1;have hl:=h.1;simp at hl;have h5:=congrArg (fun z:List Value=>z[k]?) h4;simp only [Nat.mul_one] at h5;rw [List.getElem?_take_of_lt (by omega),List.getElem?_map,hk] at h5;have h6:cur[k]? = some (encStr p):=by simpa using h5
 exact h6
theorem qfT (b:Nat) (l:List It) (w:World) (hT:TreeAt w b l) (hn:(l.map (·.path)).Nodup) (hl:l.length≤1000) (hml:ML w) (hp:∀ x∈l,x.path.length≤1048576) :
 Calls Tryz.prog 37 #[.map (some b)] w fun e w'=>Below w.heap.size w w'∧∃ v,e=.returned v∧w'.ownsRow w.heap.size 39 5 v l.length (its (qab l)):=by
 obtain ⟨i0,hi,hz0,hz1,hz2⟩:=info_parts Tryz.info24;obtain ⟨w1,hmk,hown1,hg1⟩:=run_make_own (P:=Tryz.prog) w w.heap.size 26 39 i0 _ 5 Tryz.underlying26 hi hz0 hz1 .i64 .i64 l.length (by rw [hz2];omega) (by unfold maxLen;omega) (Nat.le_refl _);have hb1:Below w.heap.size w w1:=(Below.refl _ w).grown hg1 (Nat.le_refl _) (fun q hq=>by cases hq);have hblt:=hT.lt;have hs1:w.heap.size<w1.heap.size:=by
  rcases hown1.2 with ⟨e,_⟩ | ⟨g,cap,cur,e,_,hh,_⟩
  ·cases e
  cases e;exact lt_of_heap hh
 have hT1:TreeAt (w1.alloc (.cells #[.map (some b)] 77)) b l:=(hT.below hb1 hblt).of_block (Below.heap_alloc w1 _ b (by omega));have hml1:ML (w1.alloc (.cells #[.map (some b)] 77)):=(hml.below hb1 hml.lt).below ((Below.refl _ w1).alloc (Nat.le_refl _) _) (by omega);have HK:=hidI (qmT (some b) w1);have HS:=hidI (qiL b w1.heap.size l _ hT1 hn hl hml1 hp (by simp) (by simp));have HT:=hidI hT;have Hn:=hidI hn;have Hp:=hidI hp;have Hg1:=hidI hg1;clear hT hn hml hp hT1 hml1 hg1;go_enter Tryz.func37,Tryz.ntmps37
 go_wp2_with (first | (at_len;refine qdw rfl _ rfl b l rfl HT.out Hn.out ?_) | (go_at_call 65;refine HK.out.mono ?_;rintro e w' ⟨rfl,rfl⟩) | fail);refine HS.out.mono ?_;rintro e W ⟨v,rfl,hrow,hbW⟩;have hszW:=hbW.size;rw [World.size_alloc] at hszW hbW;have HbW:Hid (Below w.heap.size w W):=(hb1.alloc (by omega) _).trans (hbW.mono (by omega));have Hown1:Hid (W.ownsRow w.heap.size 39 5 (.slice (some ⟨w.heap.size,0,none⟩) 0 l.length) 0 []):=own_below (hown1.alloc _) hbW (fun q hq=>(by simpa [Value.ownBlock] using hq:w.heap.size=q) ▸ (by omega));have Hrow:=hidI hrow;clear hrow hmk HK HS hbW hown1 Hg1 hb1;obtain ⟨ak,ck,rfl,Hak⟩:∃ ak ck,v=.slice ak l.length ck∧Hid (l≠[]→∃ gk,ak=some ⟨gk,0,none⟩∧w1.heap.size<gk∧gk<W.heap.size∧∀ k x,(qab l)[k]? = some x→W.cell? ⟨gk,k,none⟩=some (.string (txt x.path))):=by
  rcases Hrow.out.2 with ⟨rfl,h0⟩ | ⟨gk,cap,cur,rfl,hbase,hh,h1,h2,h3,h4⟩
  ·refine ⟨none,0,by rw [h0],hidI (fun hne=>absurd (List.eq_nil_of_length_eq_zero h0) hne)⟩
  refine ⟨some ⟨gk,0,none⟩,cap,rfl,hidI (fun _=>⟨gk,rfl,by simp at hbase;omega,lt_of_heap hh,fun k x hx => ?_⟩)⟩;refine qmh Hrow.out ?_;rw [←qha,List.getElem?_map,hx];rfl
 clear Hrow;go_wp2
 go_loopw [3,14] (fun v i wr=>∃ (k:Nat) (a':Option Addr) (c':Nat),v=.slice a' k c'∧k≤l.length∧i=.int .i64 k∧Hid (wr.ownsRow w.heap.size 39 5 v k (its ((qab l).take k)))∧Hid (Below w.heap.size w wr)∧Hid (∀ j,w1.heap.size<j→j<W.heap.size→wr.heap[j]? = W.heap[j]?)∧Hid (v.ownBlock=some w.heap.size∨∃ q,v.ownBlock=some q∧W.heap.size≤q)∧W.heap.size≤wr.heap.size) (fun _ i _=>l.length - (intOf i).toNat)
 case atStart=>exact ⟨0,_,_,rfl,Nat.zero_le _,rfl,Hown1,HbW,hidI (fun _ _ _=>rfl),hidI (.inl rfl),Nat.le_refl _⟩
 case round =>
  obtain ⟨k,a',c',rfl,hk,rfl,Hown,Hb,Hkeep,Hblk,hszr⟩:=hrel;by_cases hlt:k<l.length
  ·obtain ⟨x,hx⟩:∃ x,(qab l)[k]? = some x:=⟨_,List.getElem?_eq_getElem (by rw [qaA];exact hlt)⟩;have hxl:x∈l:=order_mem.1 (List.mem_of_getElem? hx);obtain ⟨gk,rfl,hgk1,hgk2,hcells⟩:=Hak.out (fun h=>by rw [h] at hlt;simp at hlt);have hcell:wr.cell? ⟨gk,k,none⟩=some (.string (txt x.path)):=(World.cell?_of_block (Hkeep.out gk hgk1 hgk2)).trans (hcells k x hx);have hT':=HT.out.below Hb.out hblt;have hlook:=(hT'.look_some (p:=x.path) (by have:=Hp.out x hxl;unfold maxLen;omega) (at_mem Hn.out hxl)).2;have Hx:=hidI hx;have hszb:=Hb.out.size;unfold ndv nd at hlook;simp only at hlook;obtain ⟨X,hX⟩:∃ X,X=txt x.path:=⟨_,rfl⟩;obtain ⟨D,hD⟩:∃ X,X=txt x.data:=⟨_,rfl⟩;obtain ⟨xd,hxd⟩:∃ X,X=x.dir:=⟨_,rfl⟩;rw [←hX] at hcell hlook;rw [←hD,←hxd] at hlook;have HX:=hidI hX;have HD:=hidI hD;have Hxd:=hidI hxd;clear hx hX hD hxd hT' hcells hxl
   go_wp2_with (at_builtin;refine wpList_append_own_at _ rfl _ _ 26 rfl w.heap.size 39 i0 _ 5 56 Tryz.underlying26 hi hz0 hz1 hz2 rfl (by decide) _ _ _ rfl ((Hown.out.alloc _).alloc _) ⟨wr.heap.size+1,0,none⟩ 1 1 (itl x) rfl ?e1 ?e2 ?e3 ?e4 ?e5 ?e6 ?_)
   case e1=>rfl
   case e2 =>
    intro j u hu;rw [addr_add];have h:=(qbM (wr.alloc (.cells #[.bool xd,.string D,.int .i64 x.mode,.int .i64 x.time] 117)) x).cell hu;unfold boxed at h;rw [←HX.out,←HD.out,←Hxd.out] at h;simpa using h
   case e3=>intro u hu;exact qa8 (l:=[x]) u (by rw [qba];exact hu)
   case e4=>unfold maxLen;omega
   case e5=>omega
   case e6=>simp;omega
   intro v2 W2 hown2 hgrow2 _ hloc;obtain ⟨g',cap',rfl⟩:=qeG hown2;have hg2:=(((World.grownBy_alloc wr _ (Value.slice a' k c').ownBlock).trans (World.grownBy_alloc _ _ _)).trans hgrow2);have Hown2:Hid (W2.ownsRow w.heap.size 39 5 (.slice (some ⟨g',0,none⟩) (k+1) cap') (k+1) (its ((qab l).take (k+1)))):=by
    show W2.ownsRow w.heap.size 39 5 (.slice (some ⟨g',0,none⟩) (k+1) cap') (k+1) (its ((qab l).take (k+1)));rw [List.take_add_one,Hx.out,qa0];have e:its (some x).toList=itl x:=qba x;rw [e];exact hown2
   have Hb2:Hid (Below w.heap.size w W2):=Hb.out.grown hg2 hszb (fun q hq=>by
    rcases Hblk.out with h | ⟨q',h,h'⟩
    ·rw [h] at hq;cases hq;exact Nat.le_refl _
    rw [h] at hq;cases hq;omega)
   have Hkeep2:Hid (∀ j,w1.heap.size<j→j<W.heap.size→W2.heap[j]? = W.heap[j]?):=fun j h1 h2=>by
    rw [hg2.block j (by omega) (fun e => ?_)]
    ·exact Hkeep.out j h1 h2
    rcases Hblk.out with h | ⟨q',h,h'⟩
    ·rw [h] at e;cases e;omega
    rw [h] at e;cases e;omega
   have Hblk2:Hid ((Value.slice (some ⟨g',0,none⟩) (k+1) cap').ownBlock=some w.heap.size∨∃ q,(Value.slice (some ⟨g',0,none⟩) (k+1) cap').ownBlock=some q∧W.heap.size≤q):=by
    rcases hloc with h | h
    ·rw [h];exact Hblk.out
    exact .inr ⟨_,h,by first | omega | (simp;omega)⟩
   have hsz2:W.heap.size≤W2.heap.size:=Nat.le_trans hszr hg2.size;clear hown2 hgrow2 hg2 hloc hlook hcell Hblk Hkeep Hown;go_wp2;go_roundw
   case rel=>exact ⟨k+1,some ⟨g',0,none⟩,cap',rfl,by omega,by go_num,Hown2,Hb2,Hkeep2,Hblk2,hsz2⟩
   case measure=>simp [intOf];omega
  have Hfin:Hid (wr.ownsRow w.heap.size 39 5 (.slice a' k c') l.length (its (qab l))):=by
   have h:=Hown.out;have e:k=l.length:=by omega
   rw [e] at h ⊢;rw [List.take_of_length_le (by rw [qaA];exact Nat.le_refl _)] at h;exact h
  clear Hown;go_wp2;go_ret
  exact ⟨Hb.out,_,rfl,Hfin.out⟩
end
section
open Go.RowKit Go.Nt
variable {l:List It} {p:Bs} {y:It}
structure TreeP (l:List It):Prop where
 len:l.length≤60
 ok:∀ x∈l,okItem x=true
 nodup:(l.map (·.path)).Nodup
 up:∀ x∈l,par x.path=[]∨dirAt l (par x.path)=true
theorem qbJ (l:List It):isTree l=true↔TreeP l:=by
 unfold isTree;simp only [Bool.and_eq_true,decide_eq_true_eq,List.all_eq_true,Bool.or_eq_true];exact ⟨fun ⟨⟨⟨a,b⟩,c⟩,d⟩=>⟨a,b,c,d⟩,fun ⟨a,b,c,d⟩=>⟨⟨⟨a,b⟩,c⟩,d⟩⟩
theorem dirAt_iff:dirAt l p=true↔∃ y∈l,y.path=p∧y.dir=true:=by
 unfold dirAt;rw [List.any_eq_true];simp
theorem qih (h:qaN l p=true):par p=[]∨dirAt l (par p)=true:=by
 rcases qcs p with hno | ⟨j,hj,hj1,hj2⟩
 ·exact .inl (qhd hno)
 rw [qcU hj1 hj2];unfold qaN at h
 have:=List.all_eq_true.1 h j (List.mem_range.2 hj)
 rw [hj1] at this;simp at this;exact .inr this
theorem qbt (hn:(l.map (·.path)).Nodup) (f:It→Bool):((l.filter f).map (·.path)).Nodup:=
 hn.sublist (List.filter_sublist.map _)
theorem qiw (hn:(l.map (·.path)).Nodup) (h:at? l p=some y):(l.filter (fun z=>decide (z.path≠p))).length+1=l.length:=by
 induction l with
 | nil=>simp [at?] at h
 | cons z l ih =>
   rw [List.map_cons,List.nodup_cons] at hn;by_cases e:z.path=p
   ·rw [List.filter_cons_of_neg (by simp [e]),List.filter_eq_self.2,List.length_cons];intro a ha;simp;intro he;exact hn.1 (List.mem_map.2 ⟨a,ha,he.trans e.symm⟩)
   rw [List.filter_cons_of_pos (by simp [e]),List.length_cons,List.length_cons,ih hn.2];unfold at? at h
   rwa [List.find?_cons_of_neg (by simp [e])] at h
theorem qgn (hn:(l.map (·.path)).Nodup) (x:It):((setIt l x).map (·.path)).Nodup:=by
 unfold setIt;rw [List.map_append,List.nodup_append];refine ⟨qbt hn _,by simp,fun a ha b hb => ?_⟩;simp at hb;subst hb;obtain ⟨y,hy,rfl⟩:=List.mem_map.1 ha;simpa using (List.mem_filter.1 hy).2
theorem qk5 (hn:(l.map (·.path)).Nodup) (x:It):(setIt l x).length=if (at? l x.path).isSome then l.length else l.length+1:=by
 unfold setIt;rw [List.length_append,List.length_singleton];cases h:at? l x.path with
 | none =>
   rw [List.filter_eq_self.2 (fun y hy=>by simpa using at_none.1 h y hy)];rfl
 | some y =>
   rw [qiw hn h];rfl
theorem mem_set {x:It}:y∈setIt l x↔(y∈l∧y.path≠x.path)∨y=x:=by
 unfold setIt;rw [List.mem_append,List.mem_filter];simp
theorem TreeP.set (h:TreeP l) (x:It) (hx:okItem x=true) (he:qaN l x.path=true) (hd:∀ y,at? l x.path=some y→y.dir=true→x.dir=true) (hl:(at? l x.path).isSome=true∨l.length<60):TreeP (setIt l x):=by
 have key:∀ q,dirAt l q=true→dirAt (setIt l x) q=true:=by
  intro q hq;obtain ⟨z,hz,rfl,hzd⟩:=dirAt_iff.1 hq;by_cases e:z.path=x.path
  ·exact dirAt_iff.2 ⟨x,mem_set.2 (.inr rfl),e.symm,hd z (by rw [←e];exact at_mem h.nodup hz) hzd⟩
  exact dirAt_iff.2 ⟨z,mem_set.2 (.inl ⟨hz,e⟩),rfl,hzd⟩
 refine ⟨?_,fun y hy => ?_,qgn h.nodup x,fun y hy => ?_⟩
 ·rw [qk5 h.nodup]
  have:=h.len
  rcases hl with hl | hl
  ·rw [if_pos hl];exact this
  split<;>omega
 ·rcases mem_set.1 hy with ⟨hy,_⟩ | rfl
  ·exact h.ok y hy
  exact hx
 rcases mem_set.1 hy with ⟨hy,_⟩ | rfl
 ·exact (h.up y hy).imp id (key _)
 exact (qih he).imp id (key _)
theorem TreeP.drop (h:TreeP l) (p:Bs) (hp:∀ y∈l,par y.path≠p):TreeP (l.filter (fun y=>decide (y.path≠p))):=by
 refine ⟨Nat.le_trans (List.length_filter_le _ _) h.len,fun y hy=>h.ok y (List.mem_filter.1 hy).1,qbt h.nodup _,fun y hy => ?_⟩;have hy':=(List.mem_filter.1 hy).1;refine (h.up y hy').imp id fun hd => ?_
 obtain ⟨z,hz,hzp,hzd⟩:=dirAt_iff.1 hd;exact dirAt_iff.2 ⟨z,List.mem_filter.2 ⟨hz,by simp;rw [hzp];exact hp y hy'⟩,hzp,hzd⟩
def reachE (l:List It) (p:Bs):Int:=if okPath p then enterE l p else 1
def findE (l:List It) (p:Bs):Int:=if reachE l p=0 then (if (at? l p).isSome then 0 else 4) else reachE l p
def fileE (l:List It) (p:Bs):Int:=if findE l p=0 then (match at? l p with | some x=>if x.dir then 6 else 0 | none=>0) else findE l p
def putE (l:List It) (p d:Bs):Int:=
 if reachE l p=0 then
  (match at? l p with
  | some x=>if x.dir then 6 else if 4000<d.length then 8 else 0
  | none=>if 4000<d.length∨60≤l.length then 8 else 0)
 else reachE l p
def putI (l:List It) (p d:Bs):It:=match at? l p with | some x=>⟨p,false,d,x.mode,x.time⟩ | none=>⟨p,false,d,0,0⟩
theorem TreeP.put (h:TreeP l) {d:Bs} (he:putE l p d=0):TreeP (setIt l (putI l p d)):=by
 unfold putE at he
 split at he
 ·rename_i hr;unfold reachE at hr
  split at hr
  ·rename_i hok;have hent:qaN l p=true:=by rw [qbV l p h.nodup];simpa using hr
   cases ha:at? l p with
   | some x =>
     rw [ha] at he;simp only at he;have hd:x.dir=false:=by cases hx:x.dir with | false=>rfl | true=>rw [hx] at he;simp at he
     rw [hd] at he;simp at he;have hx:=h.ok x (qas ha).1;have hpi:putI l p d=⟨p,false,d,x.mode,x.time⟩:=by unfold putI;rw [ha]
     rw [hpi];refine h.set _ ?_ hent (fun y hy hyd => ?_) (.inl (by show (at? l p).isSome=true;rw [ha];rfl))
     ·unfold okItem at hx ⊢;simp only [Bool.and_eq_true,decide_eq_true_eq] at hx ⊢;obtain ⟨⟨⟨⟨⟨⟨h1,h2⟩,h3⟩,h4⟩,h5⟩,h6⟩,h7⟩:=hx;exact ⟨⟨⟨⟨⟨⟨hok,by omega⟩,by simp⟩,h4⟩,h5⟩,h6⟩,h7⟩
     have:at? l p=some y:=hy
     rw [ha] at this;cases this
     rw [hd] at hyd;cases hyd
   | none =>
     rw [ha] at he;simp only at he;have hl:¬(4000<d.length∨60≤l.length):=fun hc=>by rw [if_pos hc] at he;cases he
     have hpi:putI l p d=⟨p,false,d,0,0⟩:=by unfold putI;rw [ha]
     rw [hpi];refine h.set _ ?_ hent (fun y hy hyd => ?_) (.inr (by omega))
     ·unfold okItem;simp only [Bool.and_eq_true,decide_eq_true_eq];exact ⟨⟨⟨⟨⟨⟨hok,by omega⟩,by simp⟩,by decide⟩,by decide⟩,by decide⟩,by decide⟩
     have:at? l p=some y:=hy
     rw [ha] at this;cases this
  cases hr
 rename_i hr;exact absurd he hr
theorem But.own {t e:TypeId} {a b:World} (h:But t a b) (hne:e≠t) {base s n:Nat} {v:Value} {xs:List Value} (ho:a.ownsRow base e s v n xs):b.ownsRow base e s v n xs:=by
 refine ⟨ho.1,?_⟩;rcases ho.2 with ⟨rfl,h0⟩ | ⟨g,cap,cur,rfl,h1,hh,h2⟩
 ·exact .inl ⟨rfl,h0⟩
 exact .inr ⟨g,cap,cur,rfl,h1,h.cells hh hne,h2⟩
theorem Bytes.str {w:World} {B:Nat} {v:Value} {l:Bs} (h:Bytes w B v l):(convert 111 9 v).run Tryz.prog w=.ok (.string (txt l)) w:=S1.conv_own h
theorem qao (l:List It):(qab l).Perm l:=List.mergeSort_perm _ _
theorem qiY (l:List It) (k:Nat):weigh (l.take k)≤weigh l:=by
 have h:weigh l=weigh (l.take k)+weigh (l.drop k):=by
  unfold weigh;rw [←List.sum_append,←List.map_append,List.take_append_drop]
 omega
theorem qfb {l:List It} (hf:∀ x∈l,Fit x):weigh l≤4271*l.length:=
 qkU _ 4271 l (fun x hx=>by have h:=hf x hx;have:=h.p;have:=h.d;omega)
theorem qk6 (w:World) (n:Nat) (hn:n≤255):Bytes (w.alloc (.cells #[.int .u8 n] 5)) w.heap.size (.slice (some ⟨w.heap.size,0,none⟩) 1 1) (enc 1 n):=by
 have e:bv (enc 1 n)=[.int .u8 n]:=by
  simp only [enc,bv,List.nil_append,List.map_cons,List.map_nil,UInt8.toNat_ofNat']
  congr 2
  omega
 unfold Bytes;rw [qac,e];exact ⟨rfl,.inr ⟨w.heap.size,1,#[.int .u8 n],rfl,Nat.le_refl _,heap_alloc_new _ _,Nat.le_refl _,by unfold maxLen;omega,rfl,rfl⟩⟩
theorem qoa {L:List It} {k:Nat} {x:It} (h:L[k]? = some x):L.take (k+1)=L.take k++[x]:=by
 rw [List.take_add_one,h];rfl
theorem qhq {u:Bs→Option Bs} (hP:PackC u) (b:Nat) (l:List It) (w:World) (hT:TreeAt w b l) (ht:TreeP l) (hml:ML w) :
 Calls Tryz.prog 43 #[.map (some b)] w fun e w'=>∃ t,e=.returned (.string (txt t))∧IsText u (qab l) t∧Below w.heap.size w w':=by
 obtain ⟨L,hL⟩:∃ L,L=qab l:=⟨_,rfl⟩;have hLl:L.length=l.length:=by rw [hL];exact (qao l).length_eq
 have hfit:∀ x∈L,Fit x:=fun x hx=>qaF (ht.ok x ((qao l).mem_iff.1 (hL ▸ hx)))
 have h60:=ht.len;have hlen:=fun W (h:TreeAt W b l)=>h.len ht.nodup 3
 have HI:=hidI (fun W (h:TreeAt W b l) (hm:ML W)=>qfT b l W h ht.nodup (by omega) hm (fun x hx=>by have:=(qaF (ht.ok x hx)).p;omega));rw [←hL] at HI ⊢;have HLl:=hidI hLl;have Hfit:=hidI hfit;have HT:=hidI hT;have Hml:=hidI hml;have hlen0:=hlen w hT;have Hw:=hidI (qfb hfit);clear hL hfit ht hlen hT hml;go_enter Tryz.func43,Tryz.ntmps43
 go_wp2_with fail;have HB0:=hidI (qk6 w l.length (by omega));obtain ⟨W1,hW1⟩:∃ W1,W1=w.alloc (.cells #[.int .u8 (l.length:Nat)] 5):=⟨_,rfl⟩;rw [←hW1] at HB0 ⊢;have hB1:Below w.heap.size w W1:=by rw [hW1];exact (Below.refl _ w).alloc (Nat.le_refl _) _
 have hs1:W1.heap.size=w.heap.size+1:=by rw [hW1];simp
 have HB1:=hidI hB1;refine (HI.out W1 (HT.out.below hB1 HT.out.lt) (Hml.out.below hB1 Hml.out.lt)).mono ?_;rintro e w2 ⟨hb2,v2,rfl,hown2⟩;have HB2:=hidI (HB1.out.trans (hb2.mono (by omega)));have HY2:Hid (Bytes w2 w.heap.size (.slice (some ⟨w.heap.size,0,none⟩) 1 1) (enc 1 l.length)):=hidI (HB0.out.below hb2 (Nat.le_refl _));rw [←hLl] at hown2;obtain ⟨a2,c2,rfl,hin2⟩:=qbO hown2;have HO2:=hidI hown2;have hsz2:=hb2.size;rw [hLl] at HO2;clear hb2 hown2 hin2 HI HB0 HB1 hB1 hW1 HT Hml hlen0;obtain ⟨n,hn⟩:∃ n,n=l.length:=⟨_,rfl⟩;rw [hLl];rw [←hn] at HO2 HY2 h60 HLl ⊢;clear hn hLl;go_wp2
 go_loopw [3,13] (fun v i wr=>∃ (k:Nat) (e:Bs),k≤n∧i=.int .i64 k∧Hid (qaL u (L.take k) e)∧Hid (Bytes wr w.heap.size v (enc 1 n++e))∧Hid (Below w.heap.size w wr)∧Hid (But 5 w2 wr)) (fun _ i _=>n - (intOf i).toNat)
 case atStart=>exact ⟨0,[],Nat.zero_le _,rfl,hidI rfl,hidI (by simpa using HY2.out),HB2,hidI (But.refl _ _)⟩
 case round =>
  obtain ⟨k,e,hk,rfl,He,HY,HB,HK⟩:=hrel;have hszr:=HB.out.size;by_cases hlt:k<n
  ·obtain ⟨x,hx⟩:∃ x,L[k]? = some x:=⟨_,List.getElem?_eq_getElem (by have:=HLl.out;omega)⟩;have hox:=HK.out.own (by decide) HO2.out;have hox':wr.ownsRow W1.heap.size 39 5 (.slice a2 L.length c2) L.length (its L):=by rw [HLl.out];exact hox
   rcases qf3 hox' with ⟨_,hnil⟩ | ⟨g,cap,hsl,_,hglt,_,_,hc⟩
   ·rw [hnil] at hx;simp at hx
   cases hsl
   have hh:=hc k x hx;rw [Nat.zero_add] at hh;obtain ⟨x0,x1,x2,x3,x4⟩:=hh;have hel:=qbs He.out;have hwt:=qiY L k;have hwl:=Hw.out;have hel':e.length≤300000:=by have:=HLl.out;omega
   obtain ⟨Wb,hWb⟩:∃ Wb,Wb=wr.alloc (.cells #[.string (txt x.path),.bool x.dir,.string (txt x.data),.int .i64 x.mode,.int .i64 x.time] 39):=⟨_,rfl⟩;have A:=hidI (qgT hP w.heap.size _ _ x Wb (by rw [hWb];simp;omega) (by rw [hWb];exact HY.out.alloc _) (by rw [List.length_append,qac];omega) (Hfit.out x (List.mem_of_getElem? hx)));unfold itv at A;have HBb:Hid (Below w.heap.size w Wb):=hidI (by rw [hWb];exact HB.out.alloc hszr _);have HKb:Hid (But 5 w2 Wb):=hidI (by rw [hWb];exact HK.out.alloc _);have HWb:=hidI hWb;have Hx:=hidI hx;clear hox hox' hc hx hel hwt hwl hWb;go_wp2_with fail;rw [←HWb.out];refine A.out.mono ?_;rintro e3 w3 ⟨v3,a3,rfl,hit,hY3,hB3,hK3⟩;have HB3:=hidI (HBb.out.trans hB3);have HK3:=hidI (HKb.out.trans hK3);have HY3:=hidI hY3;have He3:Hid (qaL u (L.take (k+1)) (e++a3)):=hidI (by rw [qoa Hx.out];exact qck He.out hit)
   clear hit hY3 hB3 hK3 A x0 x1 x2 x3 x4;go_wp2;go_roundw
   case rel=>exact ⟨k+1,e++a3,by omega,by go_num,He3,hidI (by have:=HY3.out;rwa [List.append_assoc] at this),HB3,HK3⟩
   case measure=>simp [intOf];omega
  have hkn:k=n:=by omega
  subst hkn;have hst:=HY.out.str;have HR:Hid (IsText u L (enc 1 k++e)):=by
   refine hidI ⟨e,?_,by rw [HLl.out]⟩
   have:=He.out
   rwa [List.take_of_length_le (by have:=HLl.out;omega)] at this
  go_wp2;go_ret
  exact ⟨_,rfl,HR.out,HB.out⟩
def BuildP (u:Bs→Option Bs) (l:List It) (lo hi cb:Nat) (L:S1.Loc) (m:S1.M) (w:World) (e:Ending) (w':World):Prop:=
 (isTree l=false∧e=.returned (.int .i64 3)∧S1.CP w' lo hi cb L m∧S1.Only lo hi w w') ∨
 (isTree l=true∧∃ t,IsText u (qab l) t∧e=.returned (.int .i64 (S1.renA m t).1)∧S1.CP w' lo hi cb L (S1.renA m t).2∧S1.Only lo hi w w')
theorem qkb {u:Bs→Option Bs} (hP:PackC u) (a:Option Addr) (c:Nat) (l:List It) (w:World) (lo hi cb:Nat) (L:S1.Loc) (m:S1.M) (hw:S1.WF m) (h:S1.CP w lo hi cb L m) (hsz:hi≤w.heap.size) (hml:ML w) (hmlo:0<lo) (hl:ItsIn w a l) (hn:l.length≤1048576) (hp:∀ x∈l,x.path.length≤1048576) (hd:∀ x∈l,x.data.length≤1048576) :
 Calls Tryz.prog 16 #[.pointer (some ⟨cb,0,none⟩),.slice a l.length c] w fun e w'=>BuildP u l lo hi cb L m w e w':=by
 have HN:=hidI (new_any a c l w hml hl hn hp hd);have HC:=hidI h;have Hml:=hidI hml;have Hw:=hidI hw;clear h hml hl hp hd hw;go_enter Tryz.func16,Tryz.ntmps16
 go_wp2_with fail;refine HN.out.mono ?_;rintro e W1 ⟨hb1,⟨hno,rfl⟩ | ⟨hyes,b,rfl,hbb,hT⟩⟩
 ·have HC1:=hidI (S1.MemX.below HC.out hsz hb1);have HO1:Hid (S1.Only lo hi w W1):=hidI (S1.Only.of_below hb1);clear hb1;go_wp2_with fail;go_ret
  exact .inl ⟨hno,rfl,HC1.out,HO1.out⟩
 have hC1:S1.CP W1 lo hi cb L m:=S1.MemX.below HC.out hsz hb1;have hml1:=Hml.out.below hb1 Hml.out.lt;have htp:TreeP l:=(qbJ l).1 hyes;have HT:=hidI (qhq hP b l W1 hT htp hml1);have HO1:Hid (S1.Only lo hi w W1):=hidI (S1.Only.of_below hb1);have HC1:=hidI hC1;have Hb1:=hidI hb1.size;have Hyes:=hidI hyes;have Hfit:=hidI (qij hyes);clear hb1 hT hC1 hml1 htp hyes HN;go_wp2_with fail;refine HT.out.mono ?_;rintro e W2 ⟨t,rfl,ht,hb2⟩;have hC2:S1.CP W2 lo hi cb L m:=S1.MemX.below HC1.out (by have:=Hb1.out;omega) hb2;have htl:t.length≤1000000:=by
  have h1:=qbH ht;have h2:=qfb (l:=qab l) (fun x hx=>Hfit.out.1 x ((qao l).mem_iff.1 hx));have h3:(qab l).length=l.length:=(qao l).length_eq;have h4:=Hfit.out.2;rw [h3] at h2
  have:4271*l.length≤4271*60:=Nat.mul_le_mul_left _ h4
  omega
 have HR:=hidI (S1.renew_any W2 lo hi cb L m t Hw.out hC2 (by have:=Hb1.out;have:=hb2.size;omega) htl);rw [show S1.txt t=txt t from rfl] at HR;have HO2:=hidI (HO1.out.trans (S1.Only.of_below hb2));have Ht:=hidI ht;clear hC2 hb2 ht HT;go_wp2_with fail;refine HR.out.mono ?_;rintro e W3 ⟨rfl,hC3,hO3⟩;have HC3:=hidI hC3;have HO3:=hidI (HO2.out.trans hO3);obtain ⟨er,her⟩:∃ er,er=(S1.renA m t).1:=⟨_,rfl⟩;rw [←her];have Her:=hidI her;clear hC3 hO3 HR her;go_wp2_with fail;go_ret
 exact .inr ⟨Hyes.out,t,Ht.out,by rw [←Her.out];rfl,HC3.out,HO3.out⟩
theorem qfD (b:Nat) (l:List It) (p:Bs) (w:World) (hT:TreeAt w b l) (hml:ML w) (hp:p.length≤1048576) :
 Calls Tryz.prog 115 #[.map (some b),.string (txt p)] w fun e w'=>Below w.heap.size w w'∧e=.returned (.int .i64 (reachE l p)):=by
 have HP:=hidI (qer p w hml hp);have HT:=hidI hT;have HE:=hidI (fun W (h:TreeAt W b l)=>qf8 b l p W h hp);unfold reachE;cases ho:okPath p with
 | false =>
   rw [ho] at HP;clear ho hT hml HE;go_enter Tryz.func115,Tryz.ntmps115
   go_wp2_with (go_at_call 121;refine HP.out.mono ?_;rintro e w' ⟨hb,rfl⟩;have Hb:=hidI hb;clear hb);go_ret
   exact ⟨Hb.out,rfl⟩
 | true =>
   rw [ho] at HP;have hlt:=hT.lt;clear ho hT hml;go_enter Tryz.func115,Tryz.ntmps115
   go_wp2_with (first | (go_at_call 121;refine HP.out.mono ?_;rintro e w' ⟨hb,rfl⟩;have Hb:=hidI hb;have HE2:=hidI (HE.out w' (HT.out.below hb HT.out.lt));clear hb) | (go_at_call 73;refine HE2.out.mono ?_;rintro e w'' ⟨hb,rfl⟩;have Hb2:=hidI hb;clear hb));go_ret
   exact ⟨Hb.out.trans (Hb2.out.mono Hb.out.size),rfl⟩
def ndN:Nd:=⟨false,[],0,0⟩
def findN (l:List It) (p:Bs):Nd:=if findE l p=0 then (match at? l p with | some x=>nd x | none=>ndN) else ndN
def set4 (w:World) (b:Nat) (v0 v1 v2 v3:Value):World:=(((w.setCell ⟨b,0,none⟩ v0).setCell ⟨b,1,none⟩ v1).setCell ⟨b,2,none⟩ v2).setCell ⟨b,3,none⟩ v3
theorem qct {w W:World} {b B:Nat} (h:Below B w W) (hb:B≤b) (v0 v1 v2 v3:Value):Below B w (set4 W b v0 v1 v2 v3):=
 (((h.setCell (p:=⟨b,0,none⟩) hb v0).setCell (p:=⟨b,1,none⟩) hb v1).setCell (p:=⟨b,2,none⟩) hb v2).setCell (p:=⟨b,3,none⟩) hb v3
structure Four (W:World) (b:Nat) (a0 a1 a2 a3:Value):Prop where
 c0:W.cell? ⟨b,0,none⟩=some a0
 c1:W.cell? ⟨b,1,none⟩=some a1
 c2:W.cell? ⟨b,2,none⟩=some a2
 c3:W.cell? ⟨b,3,none⟩=some a3
 f0:W.frozen? ⟨b,0,none⟩=false
 f1:W.frozen? ⟨b,1,none⟩=false
 f2:W.frozen? ⟨b,2,none⟩=false
 f3:W.frozen? ⟨b,3,none⟩=false
theorem four {W:World} {b:Nat} {a0 a1 a2 a3:Value} {T:TypeId} (h:W.heap[b]? = some (.cells #[a0,a1,a2,a3] T (0,0))):Four W b a0 a1 a2 a3:=
 ⟨by rw [cell_of_row W b 0 _ T (0,0) h];rfl,by rw [cell_of_row W b 1 _ T (0,0) h];rfl,by rw [cell_of_row W b 2 _ T (0,0) h];rfl,by rw [cell_of_row W b 3 _ T (0,0) h];rfl,
  frozen_of_row W b 0 _ T h,frozen_of_row W b 1 _ T h,frozen_of_row W b 2 _ T h,frozen_of_row W b 3 _ T h⟩
theorem qjk (b:Nat) (l:List It) (p:Bs) (w:World) (hT:TreeAt w b l) (hml:ML w) (hp:p.length≤1048576) :
 Calls Tryz.prog 68 #[.map (some b),.string (txt p)] w fun e w'=>Below w.heap.size w w'∧e=.returned (.tuple #[ndv (findN l p),.int .i64 (findE l p)]):=by
 obtain ⟨W0,hW0⟩:∃ W0,W0=w.alloc (.cells #[.bool false,.string ⟨#[]⟩,.int .i64 0,.int .i64 0] 117):=⟨_,rfl⟩;have hB0:Below w.heap.size w W0:=by rw [hW0];exact (Below.refl _ w).alloc (Nat.le_refl _) _
 have hs0:W0.heap.size=w.heap.size+1:=by rw [hW0];simp
 have q0:W0.heap[w.heap.size]? = some (.cells #[.bool false,.string ⟨#[]⟩,.int .i64 0,.int .i64 0] 117 (0,0)):=by rw [hW0];exact heap_alloc_new _ _
 have HR:=hidI (qfD b l p W0 (hT.below hB0 hT.lt) (hml.below hB0 hml.lt) hp);have HT:=hidI hT;have HW0:=hidI hW0;have HB0:=hidI hB0;have hlt:=hT.lt;have Q0:=hidI q0;clear hT hml hB0 q0 hW0;obtain ⟨X,hX⟩:∃ X,X=txt p:=⟨_,rfl⟩;by_cases hr:reachE l p=0
 ·have hfe:findE l p=if (at? l p).isSome then 0 else 4:=by unfold findE;rw [if_pos hr]
  rw [hr] at HR;cases ha:at? l p with
  | none =>
    rw [ha] at hfe;have hfe':findE l p=4:=hfe;have hfn:findN l p=ndN:=by unfold findN;rw [hfe'];rfl
    rw [hfe',hfn];have HL:=hidI (fun W (h:TreeAt W b l)=>(h.look_none (p:=p) (by unfold maxLen;omega) ha).1);rw [←hX] at HL HR ⊢;clear hfe hfe' hfn ha hr hX;go_enter Tryz.func68,Tryz.ntmps68
    go_wp2_with (first | (rw [←HW0.out]) | fail);refine HR.out.mono ?_;rintro e w1 ⟨hb1,rfl⟩;have q1:=(hb1.block w.heap.size (by omega)).trans Q0.out;have hl1:=HL.out w1 ((HT.out.below HB0.out hlt).below hb1 (by omega));have HB1:=hidI (HB0.out.trans (hb1.mono (by omega)));have hs1:=hb1.size;obtain ⟨W2,hW2⟩:∃ W2,W2=w1.alloc (.cells #[.bool false,.string (txt []),.int .i64 0,.int .i64 0] 117):=⟨_,rfl⟩;have q2:W2.heap[w.heap.size]? = some (.cells #[.bool false,.string ⟨#[]⟩,.int .i64 0,.int .i64 0] 117 (0,0)):=by rw [hW2];exact (Below.heap_alloc w1 _ _ (by omega)).trans q1
    obtain ⟨c0,c1,c2,c3,f0,f1,f2,f3⟩:=four q2;have HB2:Hid (Below w.heap.size w W2):=hidI (by rw [hW2];exact HB1.out.alloc (by omega) _);have HW2:=hidI hW2;unfold ndv at hl1;clear hb1 q1 q2 hW2 HR HL Q0;go_wp2_with (rw [←HW2.out]);have hb:=qct HB2.out (Nat.le_refl _) (.bool false) (.string ⟨#[]⟩) (.int .i64 0) (.int .i64 0);refine bodyPost_ret (v:=.tuple #[.agg #[.bool false,.string ⟨#[]⟩,.int .i64 0,.int .i64 0],.int .i64 4]) ?_ rfl ⟨hb,rfl⟩;simp [results,go_sem,c0,c1,c2,c3]
  | some x =>
    rw [ha] at hfe;have hfe':findE l p=0:=hfe;have hfn:findN l p=nd x:=by unfold findN;rw [hfe',ha];rfl
    rw [hfe',hfn];have HL:=hidI (fun W (h:TreeAt W b l)=>(h.look_some (p:=p) (by unfold maxLen;omega) ha).1);rw [←hX] at HL HR ⊢;clear hfe hfe' hfn ha hr hX;go_enter Tryz.func68,Tryz.ntmps68
    go_wp2_with (first | (rw [←HW0.out]) | fail);refine HR.out.mono ?_;rintro e w1 ⟨hb1,rfl⟩;have q1:=(hb1.block w.heap.size (by omega)).trans Q0.out;have hl1:=HL.out w1 ((HT.out.below HB0.out hlt).below hb1 (by omega));have HB1:=hidI (HB0.out.trans (hb1.mono (by omega)));have hs1:=hb1.size;unfold ndv nd at hl1;simp only at hl1;obtain ⟨Y,hY⟩:∃ Y,Y=txt x.data:=⟨_,rfl⟩;rw [←hY] at hl1;obtain ⟨W2,hW2⟩:∃ W2,W2=w1.alloc (.cells #[.bool x.dir,.string Y,.int .i64 x.mode,.int .i64 x.time] 117):=⟨_,rfl⟩;have q2:W2.heap[w.heap.size]? = some (.cells #[.bool false,.string ⟨#[]⟩,.int .i64 0,.int .i64 0] 117 (0,0)):=by rw [hW2];exact (Below.heap_alloc w1 _ _ (by omega)).trans q1
    obtain ⟨c0,c1,c2,c3,f0,f1,f2,f3⟩:=four q2;obtain ⟨m0,m1,m2,m3,_,_,_,_⟩:=four (show W2.heap[w1.heap.size]? = some (.cells #[.bool x.dir,.string Y,.int .i64 x.mode,.int .i64 x.time] 117 (0,0)) by rw [hW2];exact heap_alloc_new _ _);have HB2:Hid (Below w.heap.size w W2):=hidI (by rw [hW2];exact HB1.out.alloc (by omega) _);have HW2:=hidI hW2;have HY:=hidI hY;clear hb1 q1 q2 hW2 HR HL Q0 hY;go_wp2_with (rw [←HW2.out]);have hb:=qct HB2.out (Nat.le_refl _) (.bool x.dir) (.string Y) (.int .i64 x.mode) (.int .i64 x.time);refine bodyPost_ret (v:=.tuple #[.agg #[.bool x.dir,.string Y,.int .i64 x.mode,.int .i64 x.time],.int .i64 0]) ?_ rfl ⟨hb,by rw [HY.out];rfl⟩;simp [results,go_sem,c0,c1,c2,c3]
 have hfe:findE l p=reachE l p:=by unfold findE;rw [if_neg hr]
 have hfn:findN l p=ndN:=by unfold findN;rw [hfe,if_neg hr]
 rw [hfe,hfn];obtain ⟨E,hE⟩:∃ E,E=reachE l p:=⟨_,rfl⟩;rw [←hE] at HR hr ⊢;rw [←hX] at HR ⊢;clear hfe hfn hX hE;go_enter Tryz.func68,Tryz.ntmps68
 go_wp2_with (first | (rw [←HW0.out]) | fail);refine HR.out.mono ?_;rintro e w1 ⟨hb1,rfl⟩;have q1:=(hb1.block w.heap.size (by omega)).trans Q0.out;obtain ⟨c0,c1,c2,c3,f0,f1,f2,f3⟩:=four q1;have HB1:=hidI (HB0.out.trans (hb1.mono (by omega)));have hs1:=hb1.size;clear hb1 q1 HR Q0;go_wp2;have hb:=qct HB1.out (Nat.le_refl _) (.bool false) (.string ⟨#[]⟩) (.int .i64 0) (.int .i64 0);refine bodyPost_ret (v:=.tuple #[.agg #[.bool false,.string ⟨#[]⟩,.int .i64 0,.int .i64 0],.int .i64 E]) ?_ rfl ⟨hb,rfl⟩;simp [results,go_sem,c0,c1,c2,c3]
end
end Go.Proofs.YtodmdkhdbfbfgaaGreatDoor
