/- Lemmas. -/
import Derived.Test.YtodmdkhdbfbfgaaGreatDoorM22
set_option linter.unusedVariables false
set_option linter.unusedSimpArgs false
set_option maxRecDepth 100000
set_option maxHeartbeats 8000000
namespace Go.Proofs.YtodmdkhdbfbfgaaGreatDoor
namespace S1
open Go.RowKit Pk
open Go.Nt
variable {l l':List Fp} {f:Fp} {m m':M} {c n k x y cn nn:Nat} {t t':List UInt8} {K S:Nat→Bool} {ps:List (Nat × Nat)}
abbrev scn (m:M):List Fp:=scanF (pgs m) m.np m.nb
def Uniq (l:List Fp):Prop:=∀ f∈l,∀ g∈l,f.bad=g.bad→f.num=g.num→f.at_=g.at_→f=g
theorem Uniq.look (h:Uniq l) (hf:f∈l):lookF l f.bad f.num f.at_=some f:=qbu hf (fun x hx h1 h2 h3=>h x hx f hf h1 h2 h3)
theorem qkH {i q:Nat} (hb:c<256) (hn:n<4294967296) (ho:pagesN t.length<65536) (hk:k<pagesN t.length) (hi:i<m.nb) (hq:q<m.np) (e:m.pg i q=pageB (pgOf c n t k)):fpR c n t k i∈scn m:=by
 have hok:=qe7 (t:=t) hb hn hk ho;have h6:readP (pgs m i q)=some { pgOf c n t k with text:=(pgOf c n t k).text++List.replicate (51 - (pgOf c n t k).text.length) 0 }:=by
  unfold pgs;rw [e,qe4 (Go.Nt.pageB_length _ hok.t)];exact qbl hok
 exact mem_scanF.2 ⟨i,q,_,hi,hq,h6,rfl⟩
theorem qfO (hs:∀ f∈l',f.bad=x→f.num=y→f∈l) (hu:Uniq l) (h:lookF l' x y k=some f):lookF l x y k=some f:=by
 obtain ⟨h1,h2,h3,h4⟩:=qaq h
 have:=hu.look (hs f h1 h2 h3)
 rw [h2,h3,h4] at this;exact this
theorem qb3 {l l':List Fp} {x y o:Nat} (hs:∀ f∈l',f.bad=x→f.num=y→f∈l) (hu:Uniq l):∀ (k:Nat) (ps:List Fp),partF l' x y o k=some ps→partF l x y o k=some ps
 | 0,ps,h=>h
 | k+1,ps,h=>by
   unfold partF at h ⊢;cases h1:partF l' x y o k with
   | none=>rw [h1] at h;cases h
   | some qs =>
     rw [h1] at h;cases h2:lookF l' x y k with
     | none=>rw [h2] at h;cases h
     | some f =>
       rw [h2] at h;rw [qb3 hs hu k qs h1,qfO hs hu h2];exact h
theorem qhX (hs:∀ f∈l',f.bad=x→f.num=y→f∈l) (hu:Uniq l) (h:wholeF l' x y=true):wholeF l x y=true:=by
 unfold wholeF at h ⊢;rw [Bool.and_eq_true] at h ⊢;refine ⟨?_,?_⟩
 ·obtain ⟨f,hf,h1,h2⟩:=hasL_iff.1 h.1;exact hasL_iff.2 ⟨f,hs f hf h1 h2,h1,h2⟩
 have h2:=h.2;unfold recF at h2 ⊢;by_cases h0:ofF l' x y=0
 ·rw [if_pos h0] at h2;cases h2
 rw [if_neg h0] at h2;have he:ofF l x y=ofF l' x y:=by
  unfold ofF at h0 ⊢;cases h3:lookF l' x y 0 with
  | none=>rw [h3] at h0;exact absurd rfl h0
  | some f=>rw [qfO hs hu h3]
 rw [he,if_neg h0];cases h4:partF l' x y (ofF l' x y) (ofF l' x y) with
 | none=>rw [h4] at h2;cases h2
 | some ps=>rw [qb3 hs hu _ ps h4];rfl
structure Cog (m:M) (c n:Nat) (K:Nat→Bool) (t:List UInt8):Prop where
 uniq:Uniq (scn m)
 here:∃ pos:Nat→Nat × Nat,∀ k,k<pagesN t.length→(pos k).1<m.nb∧(pos k).2<m.np∧(pos k).2<m.nx (pos k).1∧K (pos k).1=true∧m.pg (pos k).1 (pos k).2=pageB (pgOf c n t k)
 newest:∀ x y,wholeF (scn m) x y=true→x<c∨(x=c∧y≤n)
 bad:∀ f∈scn m,f.bad≤badN m
 lvb:c≤badN m
 pos:0<t.length
 few:pagesN t.length≤256
 num:n<2147483648
theorem Cog.c256 (h:Cog m c n K t) (hw:WF m):c<256:=by
 have:=h.lvb;have:=badN_le m;have:=hw.nb2;omega
theorem Cog.look (h:Cog m c n K t) (hw:WF m):∃ blk:Nat→Nat,∀ k,k<pagesN t.length→lookF (scn m) c n k=some (fpR c n t k (blk k)):=by
 obtain ⟨pos,hp⟩:=h.here;refine ⟨fun k=>(pos k).1,fun k hk => ?_⟩;obtain ⟨h1,h2,_,_,h5⟩:=hp k hk
 have:=h.num
 have:=h.few
 exact h.uniq.look (qkH (h.c256 hw) (by omega) (by omega) hk h1 h2 h5)
theorem Cog.whole (h:Cog m c n K t) (hw:WF m):∃ ps z,recF (scn m) c n=some ps∧txtF ps=t++z∧wholeF (scn m) c n=true∧(txtF ps).length≤pagesN t.length*51:=by
 obtain ⟨blk,hb⟩:=h.look hw;have h1:=qcr h.pos hb;obtain ⟨z,hz⟩:=qem c n t blk;refine ⟨_,z,h1,hz,?_,?_⟩
 ·have hpn:0<pagesN t.length:=by have:=h.pos;unfold pagesN;omega
  have h2:=qaq (hb 0 hpn);unfold wholeF;rw [h1,hasL_iff.2 ⟨_,h2.1,h2.2.1,h2.2.2.1⟩];rfl
 have key:∀ k,(txtF ((List.range k).map fun j=>fpR c n t j (blk j))).length≤k*51:=fun k=>by
  induction k with
  | zero=>simp [txtF]
  | succ k ih =>
    rw [List.range_succ,List.map_append,List.map_singleton,qcj,List.length_append]
    have:(fpR c n t k (blk k)).text.length≤51:=by unfold fpR;simp;omega
    omega
 exact key _
theorem qcJ {p q:Nat→Bool} (h:∀ i,p i=true→q i=true):∀ l:List Nat,l.countP p≤l.countP q
 | []=>Nat.le_refl _
 | a :: l=>by
   have ih:=qcJ h l;rw [List.countP_cons,List.countP_cons];by_cases hp:p a=true
   ·rw [if_pos hp,if_pos (h a hp)];omega
   rw [if_neg hp];omega
theorem LayI.badN_le {m0:M} {xs:List (List UInt8)} {left:List (List UInt8)} (h:LayI m0 K xs m S ps left):badN m0≤badN m:=by
 unfold badN;rw [h.nb];exact qcJ h.bad _
theorem qeJ {left:List (List UInt8)} (h:LayI m K (splitR cn nn t) m' S ps left) (hb:cn<256) (hn:nn<4294967296) (ho:pagesN t.length<65536) (hu:Uniq (scn m)) (hf:hasL (scn m) cn nn=false):Uniq (scn m'):=by
 intro f hf1 g hg1 e1 e2 e3;have no:∀ f∈scn m,¬(f.bad=cn∧f.num=nn):=fun f hf' ⟨a,b⟩=>by
  have:=hasL_iff.2 ⟨f,hf',a,b⟩
  rw [hf] at this;cases this
 rcases h.found hb hn ho hf1 with ⟨k,i,q,a1,a2,rfl⟩ | a1
 ·rcases h.found hb hn ho hg1 with ⟨k',i',q',b1,b2,rfl⟩ | b1
  ·have:k=k':=e3
   subst this;rw [a1] at b1;cases b1;rfl
  exact absurd ⟨e1.symm,e2.symm⟩ (no g b1)
 rcases h.found hb hn ho hg1 with ⟨k',i',q',b1,b2,rfl⟩ | b1
 ·exact absurd ⟨e1,e2⟩ (no f a1)
 exact hu f a1 g b1 e1 e2 e3
theorem qmk {left:List (List UInt8)} (h:LayI m K (splitR cn nn t) m' S ps left) (hb:cn<256) (hn:nn<4294967296) (ho:pagesN t.length<65536) (hf:hasL (scn m) cn nn=false) (hl:left≠[]):wholeF (scn m') cn nn=false:=by
 have hnew:∀ f∈scn m',f.bad=cn→f.num=nn→∃ k i q,ps[k]? = some (i,q)∧k<pagesN t.length∧f=fpR cn nn t k i:=fun f hf1 a b=>by
  rcases h.found hb hn ho hf1 with h1 | h1
  ·exact h1
  have:=hasL_iff.2 ⟨f,h1,a,b⟩
  rw [hf] at this;cases this
 have hpl:ps.length<pagesN t.length:=by
  have h2:=congrArg List.length h.part;rw [List.length_drop,splitR_length] at h2;have h3:0<left.length:=List.length_pos_iff.2 hl;omega
 have hno:lookF (scn m') cn nn ps.length=none:=lookF_none.2 (fun f hf1 ⟨a,b,c⟩=>by
  obtain ⟨k,i,q,h1,h2,rfl⟩:=hnew f hf1 a b
  have:k=ps.length:=c
  rw [this,List.getElem?_eq_none (Nat.le_refl _)] at h1;cases h1)
 unfold wholeF;rw [Bool.and_eq_false_iff]
 right
 unfold recF;by_cases h0:ofF (scn m') cn nn=0
 ·rw [if_pos h0];rfl
 rw [if_neg h0];have ho':ofF (scn m') cn nn=pagesN t.length:=by
  unfold ofF at h0 ⊢;cases h1:lookF (scn m') cn nn 0 with
  | none=>rw [h1] at h0;exact absurd rfl h0
  | some f =>
    obtain ⟨a1,a2,a3,_⟩:=qaq h1;obtain ⟨k,i,q,_,_,rfl⟩:=hnew f a1 a2 a3;rfl
 rw [ho']
 have:partF (scn m') cn nn (pagesN t.length) (ps.length+1)=none:=by
  unfold partF;rw [hno];cases partF (scn m') cn nn (pagesN t.length) ps.length<;>rfl
 rw [qcv (by omega) this];rfl
theorem qfn {left:List (List UInt8)} (h:LayI m K (splitR cn nn t) m' S ps left) (hb:cn<256) (hn:nn<4294967296) (ho:pagesN t.length<65536) (hu:Uniq (scn m)) (hne:¬(x=cn∧y=nn)) (hw:wholeF (scn m') x y=true):wholeF (scn m) x y=true:=
 qhX (fun f hf1 a b=>by
  rcases h.found hb hn ho hf1 with ⟨k,i,q,_,_,rfl⟩ | h1
  ·exact absurd ⟨a.symm,b.symm⟩ hne
  exact h1) hu hw
theorem lay_bad {left:List (List UInt8)} (h:LayI m K (splitR (badN m) nn t) m' S ps left) (hb:badN m<256) (hn:nn<4294967296) (ho:pagesN t.length<65536) (hbad:∀ f∈scn m,f.bad≤badN m):∀ f∈scn m',f.bad≤badN m:=fun f hf1=>by
 rcases h.found hb hn ho hf1 with ⟨k,i,q,_,_,rfl⟩ | h1
 ·exact Nat.le_refl _
 exact hbad f h1
theorem Cog.no {left:List (List UInt8)} (h:Cog m c n K t) (hw:WF m) (hI:LayI m K (splitR (badN m) nn t') m' S ps left) (hn:nn<4294967296) (ho:pagesN t'.length<65536) (hf:hasL (scn m) (badN m) nn=false) (hl:left≠[]):Cog m' c n K t:=by
 have hb:badN m<256:=by have:=badN_le m;have:=hw.nb2;omega
 refine ⟨qeJ hI hb hn ho h.uniq hf,?_,fun x y hx => ?_,fun f hf1=>Nat.le_trans (lay_bad hI hb hn ho h.bad f hf1) hI.badN_le,Nat.le_trans h.lvb hI.badN_le,h.pos,h.few,h.num⟩
 ·obtain ⟨pos,hp⟩:=h.here;refine ⟨pos,fun k hk => ?_⟩;obtain ⟨h1,h2,h3,h4,h5⟩:=hp k hk;exact ⟨by rw [hI.nb];exact h1,by rw [hI.np];exact h2,Nat.lt_of_lt_of_le h3 (hI.keptN _ h4),h4,by rw [hI.kept _ _ h4 h3];exact h5⟩
 by_cases e:x=badN m∧y=nn
 ·obtain ⟨rfl,rfl⟩:=e;rw [qmk hI hb hn ho hf hl] at hx;cases hx
 exact h.newest x y (qfn hI hb hn ho h.uniq e hx)
theorem Cog.yes (h:Cog m c n K t) (hw:WF m) (hI:LayI m K (splitR (badN m) nn t') m' S ps []) (hn:nn<2147483648) (ho:pagesN t'.length≤256) (ht:0<t'.length) (hf:hasL (scn m) (badN m) nn=false) (hnn:n≤nn):Cog m' (badN m) nn S t':=by
 have hb:badN m<256:=by have:=badN_le m;have:=hw.nb2;omega
 have hpl:ps.length=pagesN t'.length:=by
  have h2:=congrArg List.length hI.part;rw [List.length_drop,splitR_length] at h2;have h3:=hI.le;rw [splitR_length] at h3;simp at h2;omega
 refine ⟨qeJ hI hb (by omega) (by omega) h.uniq hf,⟨fun k=>ps.getD k (0,0),fun k hk => ?_⟩,fun x y hx => ?_,fun f hf1=>Nat.le_trans (lay_bad hI hb (by omega) (by omega) h.bad f hf1) hI.badN_le,hI.badN_le,ht,ho,hn⟩
 ·obtain ⟨x,hx⟩:∃ x,ps[k]? = some x:=⟨_,List.getElem?_eq_getElem (by omega)⟩;obtain ⟨i,q⟩:=x;have e:ps.getD k (0,0)=(i,q):=by rw [List.getD_eq_getElem?_getD,hx];rfl
  dsimp only;rw [e];obtain ⟨a1,a2,a3,a4,a5⟩:=hI.posn k i q hx;refine ⟨a1,a2,a3,a5,?_⟩;unfold splitR at a4;rw [List.getElem?_map,List.getElem?_range hk] at a4;simpa using a4.symm
 by_cases e:x=badN m∧y=nn
 ·exact .inr ⟨e.1,by omega⟩
 have:=h.lvb
 rcases h.newest x y (qfn hI hb (by omega) (by omega) h.uniq e hx) with h1 | ⟨h1,h2⟩
 ·exact .inl (by omega)
 by_cases hc:c=badN m
 ·exact .inr ⟨by omega,by omega⟩
 exact .inl (by omega)
theorem Cog.last (h:Cog m c n K t) (hw:WF m):Newest (scn m) c n:=by
 intro ord hT hne;obtain ⟨ls,ks,rs,h1,h2,h3,h4,h5,h6,rfl⟩:=hT;obtain ⟨ps,z,hrec,_,hwh,_⟩:=h.whole hw;have hnum:=h.num;have hc:=h.c256 hw;have hin:(c,n)∈ls:=(h2 _).2 ⟨by omega,by omega,hwh⟩;have hlab:∀ x∈ls,x.1<c∨(x.1=c∧x.2≤n):=fun x hx=>h.newest x.1 x.2 ((h2 x).1 hx).2.2
 have hnn:n∈numsOf ls c:=List.mem_map.2 ⟨(c,n),List.mem_filter.2 ⟨hin,by simp⟩,rfl⟩;have hbk:c∈ks:=(h5 _).2 (fun e=>by rw [e] at hnn;cases hnn);have hle:∀ b∈ks,b≤c:=fun b hb=>by
  obtain ⟨x,hx⟩:=List.exists_mem_of_ne_nil _ ((h5 b).1 hb);unfold numsOf at hx;obtain ⟨y,hy,rfl⟩:=List.mem_map.1 hx;have h7:=List.mem_filter.1 hy;have e:y.1=b:=by simpa using h7.2
  have:=hlab y h7.1
  omega
 have hkl:ks.getLast? = some c:=by
  have hkne:ks≠[]:=fun e=>by rw [e] at hbk;cases hbk
  rw [List.getLast?_eq_some_getLast hkne];have h8:=qeF h3 hbk;rw [List.getLastD_eq_getLast?,List.getLast?_eq_some_getLast hkne] at h8;have h9:=hle _ (List.getLast_mem hkne)
  have:ks.getLast hkne=c:=by simp at h8;omega
  rw [this]
 obtain ⟨ks',hks⟩:∃ ks',ks=ks'++[c]:=by
  have hkne:ks≠[]:=fun e=>by rw [e] at hbk;cases hbk
  refine ⟨ks.dropLast,?_⟩;rw [List.getLast?_eq_some_getLast hkne] at hkl
  have:=(List.dropLast_concat_getLast hkne).symm
  rw [Option.some.inj hkl] at this;exact this
 obtain ⟨ys,hp,ha,hr⟩:=h6 c hbk;have hley:∀ y∈ys,y≤n:=fun y hy=>by
  have:=hp.mem_iff.1 hy
  unfold numsOf at this;obtain ⟨x,hx,rfl⟩:=List.mem_map.1 this;have h7:=List.mem_filter.1 hx;have e:x.1=c:=by simpa using h7.2
  have:=hlab x h7.1
  omega
 rw [qfI ha (fun y hy=>by have:=hley y hy;omega)] at hr;simp only [List.drop_zero,List.take_zero,List.append_nil] at hr;have hny:=hp.mem_iff.2 hnn;have hyne:ys≠[]:=fun e=>by rw [e] at hny;cases hny
 have hlast:ys.getLast? = some n:=by
  rw [List.getLast?_eq_some_getLast hyne];have h8:=qeF ha hny;rw [List.getLastD_eq_getLast?,List.getLast?_eq_some_getLast hyne] at h8;have h9:=hley _ (List.getLast_mem hyne)
  have:ys.getLast hyne=n:=by simp at h8;omega
  rw [this]
 rw [hks,List.flatMap_append];simp only [List.flatMap_cons,List.flatMap_nil,List.append_nil];rw [hr];unfold lbOf;rw [List.getLast?_append,List.getLast?_map,hlast];rfl
end S1
section
open Go.RowKit Go.Nt
theorem qhj {l:List It} (hn:(l.map (·.path)).Nodup) {x:It}:x∈l↔at? l x.path=some x:=by
 constructor
 ·intro hx;cases h:at? l x.path with
  | none=>exact absurd rfl (at_none.1 h x hx)
  | some y =>
    obtain ⟨hy,e⟩:=qas h;obtain ⟨i,hi,rfl⟩:=List.mem_iff_getElem.1 hx;obtain ⟨j,hj,rfl⟩:=List.mem_iff_getElem.1 hy
    have:=(List.pairwise_iff_getElem.1 hn)
    by_cases hij:i=j
    ·subst hij;rfl
    exfalso
    rcases Nat.lt_or_gt_of_ne hij with h1 | h1
    ·exact this i j (by simpa using hi) (by simpa using hj) h1 (by simpa using e.symm)
    exact this j i (by simpa using hj) (by simpa using hi) h1 (by simpa using e)
 exact fun h=>(qas h).1
theorem qd5 {l l':List It} (h:(l.map (·.path)).Nodup) (hp:l'.Perm l):qab l'=qab l:=by
 have hs:∀ l:List It,(qab l).Pairwise (fun x y=>(!less y.path x.path)=true):=fun l=>by
  unfold qab;exact List.pairwise_mergeSort (le:=fun x y:It => !less y.path x.path) (fun a b c h1 h2=>by
   simp only [Bool.not_eq_true'] at h1 h2 ⊢;cases h3:less c.path a.path with
   | false=>rfl
   | true =>
     cases h4:less a.path b.path with
     | true=>rw [qa1 _ _ _ h3 h4] at h2;cases h2
     | false=>rw [qaP _ _ h4 h1] at h3;rw [h3] at h2;cases h2) (fun a b=>by
   cases h1:less b.path a.path with
   | false=>simp
   | true=>rw [qee h1];simp) l
 refine List.Perm.eq_of_pairwise (le:=fun x y=>(!less y.path x.path)=true) (fun a b ha hb h1 h2 => ?_) (hs l') (hs l) (((qao l').trans hp).trans (qao l).symm);simp only [Bool.not_eq_true'] at h1 h2;have e:=qaP _ _ h2 h1;have ha':a∈l:=hp.mem_iff.1 (order_mem.1 ha);have hb':b∈l:=order_mem.1 hb;have x1:=(qhj h).1 ha';have x2:=(qhj h).1 hb';rw [e,x2] at x1;exact (Option.some.inj x1).symm
theorem qgK {l l':List It} (h:TreeP l) (h':TreeP l') (he:∀ q,at? l' q=at? l q):qab l'=qab l:=by
 refine qd5 h.nodup ((List.perm_ext_iff_of_nodup ?_ ?_).2 (fun x=>by rw [qhj h'.nodup,qhj h.nodup,he]))
 ·exact List.Pairwise.of_map (·.path) (fun a b hne e=>hne (by rw [e])) h'.nodup
 exact List.Pairwise.of_map (·.path) (fun a b hne e=>hne (by rw [e])) h.nodup
theorem qbT {l:List It} (h:TreeP l):qab (qab l)=qab l:=qd5 h.nodup (qao l)
theorem qlr {w:World} {g n n':Nat} {S S':Nat→Nat→Bool} (h:S1.LbAt w g n S) (h':S1.LbAt w g n' S') {b r:Nat} (hb:b≤1000000) (hr:r≤4294967295):S b r=S' b r:=by
 have h1:=h.look hb hr;rw [h'.look hb hr] at h1;simpa using h1.symm
end
namespace S1
open Go.RowKit Pk
open Go.Nt
theorem qoJ {m:M} {K Q:Nat→Bool} {b p:Nat} (hw:WF m) (hr:Rdy m Q b p) (hb:b<m.nb) (hp:p≤m.np) {xs:List (List UInt8)} (hx:∀ x∈xs,x.length=64):∃ v ps,LayV m K xs b v (layF K ⟨xs,m,Q,b,p,fun _=>false⟩) ps:=by
 have hS:=LayI.start hw K xs;unfold layF lay0;by_cases hfit:xs.length+p≤m.np
 ·rw [if_pos (show (LS.mk xs m Q b p fun _=>false).left.length+(LS.mk xs m Q b p fun _=>false).p≤m.np from hfit)];obtain ⟨ps,hI,hSb⟩:=LayI.progL b xs m p _ [] hS;have hend:=qeb b xs m p (fun _=>false) hw hr hfit hx;have hk:=qau b xs m p (fun _=>false);have hV:LayV m K xs b 0 (LS.prog ⟨xs,m,Q,b,p,fun _=>false⟩) ps:=⟨hI,by show b=(b+0)%m.nb;rw [Nat.add_zero,Nat.mod_eq_of_lt hb],fun i hi=>.inr ⟨(hSb i hi).elim id (fun h=>by cases h),hend⟩,hk.2.2.2 hp⟩;obtain ⟨v,ps',_,hL⟩:=LayV.rounds hb m.nb 0 _ ps hV (by omega);exact ⟨v,ps',hL⟩
 rw [if_neg (show ¬(LS.mk xs m Q b p fun _=>false).left.length+(LS.mk xs m Q b p fun _=>false).p≤m.np from hfit)];have hV:LayV m K xs b 0 ⟨xs,m,Q,b,p,fun _=>false⟩ []:=⟨hS,by show b=(b+0)%m.nb;rw [Nat.add_zero,Nat.mod_eq_of_lt hb],fun i hi=>(by cases hi),hp⟩;obtain ⟨v,ps,_,hL⟩:=LayV.rounds hb m.nb 0 _ [] hV (by omega);exact ⟨v,ps,hL⟩
structure Gng (m:M) (Q:Nat→Bool) (b p:Nat):Prop where
 wf:WF m
 rdy:Rdy m Q b p
 b:b<m.nb
 p:p≤m.np
 life:m.life = -1
theorem qlo (S:Nat→Bool):∀ f k,dist S f k≤f
 | 0,k=>by simp [dist]
 | f+1,k=>by
   rw [dist]
   split
   ·have:=qlo S f ((k+1)%4294967296);omega
   omega
theorem nxt_near {S:Nat→Bool} {k:Nat} (h:k+701<4294967296):k≤nxt S k∧nxt S k≤k+700:=by
 have:=qlo S 700 k
 unfold nxt;rw [Nat.mod_eq_of_lt (by omega)];omega
end S1
section
open Go.RowKit Go.Nt
def Tki (w:World) (lv:S1.Lv) (m:S1.M):Prop:=∀ g,lv.tk=some g→∃ nt S,S1.LbAt w g nt S∧nt≤100000∧∀ y,y≤4294967295→hasL (S1.scn m) (S1.badN m) y=true→S (S1.badN m) y=true∨(lv.nb=S1.badN m∧y≤lv.nn)
def FsG (u:Bs→Option Bs) (w:World) (fb cb:Nat) (T:Nat→Prop) (sn:Prop) (m0:S1.M) (l:List It) (n:Nat):Prop:=
 ∃ (tb lo hi lb:Nat) (L:S1.Loc) (lv:S1.Lv) (kv qv:Option Nat) (nk nq:Nat) (m:S1.M) (K Q:Nat→Bool) (b p:Nat) (t:Bs),FsM w fb tb lo hi cb lb L lv kv qv nk nq m K Q b p l∧(sn→S1.Snd m K Q b p∧Alike' m0 m)∧(∀ k,FsS fb tb lo hi lb kv qv k→T k)∧(∀ g,lv.tk=some g→T g)∧(∀ k,T k→k<w.heap.size) ∧
  lv.nn=n∧S1.Gng m Q b p∧S1.Cog m lv.nb lv.nn K t∧IsText u (qab l) t∧Tki w lv m
end
namespace S1
open Go.RowKit Pk
open Go.Nt
variable {m0 m:M} {K Q:Nat→Bool} {xs:List (List UInt8)} {b0 v b p:Nat} {s:LS}
theorem qls (h:LayG m0 K xs b0 v s) (ho:(openF s.m K s.Q s.b).1=true):(LS.opn K s).prog.m.life=0∨(LS.opn K s).prog.left.length≤s.left.length - m0.np:=by
 have hn1:=h.wf.nb1;have hlt:(s.b+1)%s.m.nb<s.m.nb:=Nat.mod_lt _ (by omega);obtain ⟨k1,k2,k3⟩:=qaT s.m K s.Q s.b;have hro:=qdf h.wf K h.rdy;have hwo:=qbF h.wf K s.Q s.b;have hof:(openF s.m K s.Q s.b).2.1.fail<0:=by
  unfold openF
  split
  ·exact h.fail
  split
  ·exact h.fail
  cases hbd:s.m.bd ((s.b+1)%s.m.nb) with
  | true=>rw [qgz hbd];exact h.fail
  | false =>
    have:=qeV h.fail hlt hbd
    split<;>exact this.1
 have hp0:(openF s.m K s.Q s.b).2.2.2=0:=by
  unfold openF at ho ⊢
  repeat' split at ho
  all_goals first | cases ho | skip
  all_goals simp_all
 obtain ⟨a1,a2,a3⟩:=qcV (Q:=(openF s.m K s.Q s.b).2.2.1) ((s.b+1)%s.m.nb) s.left (openF s.m K s.Q s.b).2.1 (openF s.m K s.Q s.b).2.2.2 s.S hwo hof hro h.lens;rcases a3 with a3 | a3
 ·exact .inl a3
 right
 rw [hp0,k2,h.np,Nat.sub_zero] at a3;show (progL _ s.left _ (openF s.m K s.Q s.b).2.2.2 s.S).1.length≤_;rw [hp0];exact a3
structure LayX (m0:M) (K:Nat→Bool) (xs:List (List UInt8)) (b0 v:Nat) (s:LS):Prop where
 g:LayG m0 K xs b0 v s
 part:s.m.life≠0→s.left≠[]→cntB m0.nb s.S*m0.np+s.left.length≤xs.length
 all:cntB m0.nb s.S*m0.np<xs.length+m0.np
theorem LayX.round (h:LayX m0 K xs b0 v s) (hlf:s.m.life≠0) (hl:s.left≠[]):LayX m0 K xs b0 (v+1) (lay1 K s):=by
 have hg:=h.g.round hlf;have hp:=h.part hlf hl;have hl1:0<s.left.length:=List.length_pos_iff.2 hl;refine ⟨hg,?_,?_⟩
 all_goals
  unfold lay1
  split
 ·rename_i ho;intro hli hne;have hf:=(qls h.g ho).resolve_left hli;have hc:=qdJ m0.nb ((s.b+1)%s.m.nb) s.left (openF s.m K s.Q s.b).2.1 (openF s.m K s.Q s.b).2.2.2 s.S;have hm:cntB m0.nb (LS.opn K s).prog.S*m0.np≤(cntB m0.nb s.S+1)*m0.np:=Nat.mul_le_mul_right m0.np hc;rw [Nat.add_mul,Nat.one_mul] at hm;have h1:0<(LS.opn K s).prog.left.length:=List.length_pos_iff.2 hne;omega
 ·exact fun _ _=>hp
 ·rename_i ho;have hc:=qdJ m0.nb ((s.b+1)%s.m.nb) s.left (openF s.m K s.Q s.b).2.1 (openF s.m K s.Q s.b).2.2.2 s.S;have hm:cntB m0.nb (LS.opn K s).prog.S*m0.np≤(cntB m0.nb s.S+1)*m0.np:=Nat.mul_le_mul_right m0.np hc;rw [Nat.add_mul,Nat.one_mul] at hm;omega
 exact h.all
theorem LayX.rounds {m0:M} {K:Nat→Bool} {xs:List (List UInt8)} {b0:Nat}:∀ (k v:Nat) (s:LS),LayX m0 K xs b0 v s→∃ v',LayX m0 K xs b0 v' (layN K k s)
 | 0,v,s,h=>⟨v,h⟩
 | k+1,v,s,h=>by
   rw [layN]
   split
   ·exact ⟨v,h⟩
   rename_i hc;exact LayX.rounds k (v+1) _ (h.round (fun e=>hc (.inr e)) fun e=>hc (.inl e))
structure Snv (m:M) (K Q:Nat→Bool) (b p:Nat):Prop where
 wf:WF m
 fail:m.fail<0
 rdy:Rdy m Q b p
 few:cntB m.nb K≤good m/2
 b:b<m.nb
 p:p≤m.np
theorem Snv.lay (h:Snv m K Q b p) (hx:∀ x∈xs,x.length=64) (h1:0<xs.length) (h2:xs.length≤roomP m) (s:LS) (hs:s=layF K ⟨xs,m,Q,b,p,fun _=>false⟩) :
 (s.left=[]∧Snv s.m s.S s.Q s.b s.p∨s.left≠[]∧s.m.life=0∧Snv s.m K s.Q b m.np)∧s.m.nb=m.nb∧s.m.np=m.np∧s.m.bd=m.bd:=by
 have hg1:1≤good m/2:=by
  unfold roomP at h2;rcases Nat.eq_zero_or_pos (good m/2) with e | e
  ·rw [e,Nat.zero_mul] at h2;omega
  exact e
 have hnp:=h.wf.np1;have hrd:=qmJ (K:=K) (s:=⟨xs,m,Q,b,p,fun _=>false⟩) h.wf h.rdy;rw [←hs] at hrd;unfold layF lay0 at hs;by_cases hc:xs.length+p≤m.np
 ·rw [if_pos (show (LS.mk xs m Q b p fun _=>false).left.length+(LS.mk xs m Q b p fun _=>false).p≤(LS.mk xs m Q b p fun _=>false).m.np from hc)] at hs;obtain ⟨a1,a2,a3⟩:=qcV (Q:=Q) b xs m p (fun _=>false) h.wf h.fail h.rdy hx;have hstop:(progL b xs m p (fun _=>false)).1=[]∨(progL b xs m p (fun _=>false)).2.1.life=0:=by
   rcases a3 with a3 | a3
   ·exact .inr a3
   exact .inl (List.eq_nil_of_length_eq_zero (by omega))
  rw [qdB K hstop] at hs;obtain ⟨k1,k2,k3,k4⟩:=qau b xs m p (fun _=>false);have hcn:=qdJ m.nb b xs m p (fun _=>false);rw [qcl] at hcn;subst hs;refine ⟨?_,k1,k2,a2⟩;by_cases hleft:(progL b xs m p (fun _=>false)).1=[]
  ·refine .inl ⟨hleft,⟨qbk b xs m p _ h.wf,a1,qbz b xs m p _ h.wf h.rdy,?_,?_,?_⟩⟩
   ·show cntB (progL b xs m p (fun _=>false)).2.1.nb (progL b xs m p (fun _=>false)).2.2.2≤good (progL b xs m p (fun _=>false)).2.1/2;rw [good_congr k1 a2,k1];omega
   ·show b<(progL b xs m p (fun _=>false)).2.1.nb;rw [k1];exact h.b
   show (progL b xs m p (fun _=>false)).2.2.1≤(progL b xs m p (fun _=>false)).2.1.np;rw [k2];exact k4 h.p
  refine .inr ⟨hleft,hstop.resolve_left hleft,⟨hrd.2,a1,?_,?_,?_,?_⟩⟩
  ·have:=Rdy.shut (LS.prog ⟨xs,m,Q,b,p,fun _=>false⟩).m (LS.prog ⟨xs,m,Q,b,p,fun _=>false⟩).Q b hrd.1.clean
   have e:(LS.prog ⟨xs,m,Q,b,p,fun _=>false⟩).m.np=m.np:=k2;rw [e] at this;exact this
  ·show cntB (progL b xs m p (fun _=>false)).2.1.nb K≤good (progL b xs m p (fun _=>false)).2.1/2;rw [good_congr k1 a2,k1];exact h.few
  ·show b<(progL b xs m p (fun _=>false)).2.1.nb;rw [k1];exact h.b
  show m.np≤(progL b xs m p (fun _=>false)).2.1.np;rw [k2];exact Nat.le_refl _
 rw [if_neg (show ¬(LS.mk xs m Q b p fun _=>false).left.length+(LS.mk xs m Q b p fun _=>false).p≤(LS.mk xs m Q b p fun _=>false).m.np from hc)] at hs;have hG:LayG m K xs b 0 ⟨xs,m,Q,b,p,fun _=>false⟩:=⟨h.wf,rfl,rfl,by show b=(b+0)%m.nb;rw [Nat.add_zero,Nat.mod_eq_of_lt h.b],h.fail,rfl,h.rdy,hx,.inr (by simp [cntF])⟩;have hC:LayX m K xs b 0 ⟨xs,m,Q,b,p,fun _=>false⟩:=⟨hG,fun _ _=>by show cntB m.nb (fun _=>false)*m.np+xs.length≤_;rw [qcl];omega,by show cntB m.nb (fun _=>false)*m.np<_;rw [qcl];omega⟩;obtain ⟨v,hV⟩:=LayX.rounds m.nb 0 _ hC;rw [←hs] at hV;have hall:=qlA hG (by
  have e1:good m≤(List.range m.nb).countP (fun i => !K i && !m.bd i)+cntB m.nb K:=by
   rw [←qjd];refine Nat.le_trans (List.countP_mono_left fun i _ hi => ?_) (qdI _ K (List.range m.nb))
   revert hi
   cases K i<;>cases m.bd i<;>simp
  have e2:good m/2≤(List.range m.nb).countP (fun i => !K i && !m.bd i):=by have:=h.few;omega
  refine Nat.le_trans h2 ?_;unfold roomP;rw [Nat.mul_comm];exact Nat.mul_le_mul_left _ e2)
 have e:s=layN K m.nb ⟨xs,m,Q,b,p,fun _=>false⟩:=hs;rw [←e] at hall;have hgd:=good_congr hV.g.nb hV.g.bd;have hn1:=h.wf.nb1;refine ⟨?_,hV.g.nb,hV.g.np,hV.g.bd⟩;by_cases hleft:s.left=[]
 ·refine .inl ⟨hleft,⟨hV.g.wf,hV.g.fail,hV.g.rdy,?_,?_,?_⟩⟩
  ·rw [hgd,hV.g.nb];have e1:=hV.all;unfold roomP at h2;have e2:cntB m.nb s.S*m.np<(good m/2+1)*m.np:=by rw [Nat.add_mul,Nat.one_mul];omega
   have:=Nat.lt_of_mul_lt_mul_right e2
   omega
  ·rw [hV.g.b,hV.g.nb];exact Nat.mod_lt _ (by omega)
  have:=qni (K:=K) (k:=m.nb) (s:=⟨xs,m,Q,b,p,fun _=>false⟩) h.p
  rw [←e] at this;exact this
 refine .inr ⟨hleft,hall.resolve_right hleft,⟨hV.g.wf,hV.g.fail,?_,?_,?_,?_⟩⟩
 ·rw [←hV.g.np];exact Rdy.shut _ _ _ hrd.1.clean
 ·rw [hgd,hV.g.nb];exact h.few
 ·rw [hV.g.nb];exact h.b
 rw [hV.g.np];exact Nat.le_refl _
theorem Snv.layI (h:Snv m K Q b p) (hx:∀ x∈xs,x.length=64) (s:LS) (hs:s=layF K ⟨xs,m,Q,b,p,fun _=>false⟩):∃ ps,LayI m K xs s.m s.S ps s.left:=by
 obtain ⟨v,ps,hV⟩:=qoJ (K:=K) h.wf h.rdy h.b h.p hx;rw [←hs] at hV;exact ⟨ps,hV.lay⟩
theorem layN_life (K:Nat→Bool):∀ (k:Nat) (s:LS),WF s.m→s.m.life = -1→(layN K k s).m.life = -1∧WF (layN K k s).m
 | 0,s,hw,h=>⟨h,hw⟩
 | k+1,s,hw,h=>by
   rw [layN];split
   ·exact ⟨h,hw⟩
   have:=lay1_life hw h K;exact layN_life K k _ this.2 this.1
theorem layF_life {m:M} {K Q:Nat→Bool} {b p:Nat} {xs:List (List UInt8)} (hw:WF m) (hl:m.life = -1):(layF K ⟨xs,m,Q,b,p,fun _=>false⟩).m.life = -1:=by
 unfold layF lay0;split
 ·exact (layN_life K _ _ (qbk _ _ _ _ _ hw) (qep _ _ _ _ _ hw hl)).1
 exact (layN_life K _ _ hw hl).1
theorem Snd.lay (h:Snd m K Q b p) (hx:∀ x∈xs,x.length=64) (h1:0<xs.length) (h2:xs.length≤roomP m) (s:LS) (hs:s=layF K ⟨xs,m,Q,b,p,fun _=>false⟩) :
 s.left=[]∧Snd s.m s.S s.Q s.b s.p∧s.m.nb=m.nb∧s.m.np=m.np∧s.m.bd=m.bd:=by
 have hv:Snv m K Q b p:=⟨h.wf,h.fail,h.rdy,h.few,h.b,h.p⟩;obtain ⟨h3,h4,h5,h6⟩:=hv.lay hx h1 h2 s hs;have hl:=layF_life (K:=K) (Q:=Q) (b:=b) (p:=p) (xs:=xs) h.wf h.life;rw [←hs] at hl;rcases h3 with ⟨a,c⟩ | ⟨_,c,_⟩
 ·exact ⟨a,⟨c.wf,hl,c.fail,c.rdy,c.few,c.b,c.p⟩,h4,h5,h6⟩
 rw [hl] at c;cases c
end S1
section
open Go.RowKit Go.Nt
variable {u:Bs→Option Bs} {w w':World} {fb cb n:Nat} {T:Nat→Prop} {m0:S1.M} {l:List It}
def FsV (u:Bs→Option Bs) (w:World) (fb cb:Nat) (T:Nat→Prop) (m0:S1.M) (l:List It) (n:Nat) (lf:Int):Prop:=
 ∃ (tb lo hi lb:Nat) (L:S1.Loc) (lv:S1.Lv) (kv qv:Option Nat) (nk nq:Nat) (m:S1.M) (K Q:Nat→Bool) (b p:Nat) (t:Bs),FsM w fb tb lo hi cb lb L lv kv qv nk nq m K Q b p l∧(S1.Snv m K Q b p∧Alike' m0 m)∧(∀ k,FsS fb tb lo hi lb kv qv k→T k)∧(∀ g,lv.tk=some g→T g)∧(∀ k,T k→k<w.heap.size) ∧
  lv.nn=n∧m.life=lf∧S1.Cog m lv.nb lv.nn K t∧IsText u (qab l) t∧Tki w lv m
theorem FsV.below {lf:Int} (h:FsV u w fb cb T m0 l n lf) (hb:Below w.heap.size w w'):FsV u w' fb cb T m0 l n lf:=by
 obtain ⟨tb,lo,hi,lb,L,lv,kv,qv,nk,nq,m,K,Q,b,p,t,h1,h2,h3,h4,h5,h6,h7,h8,h9,h10⟩:=h;refine ⟨tb,lo,hi,lb,L,lv,kv,qv,nk,nq,m,K,Q,b,p,t,h1.below hb,h2,h3,h4,fun k hk=>Nat.lt_of_lt_of_le (h5 k hk) hb.size,h6,h7,h8,h9,fun g hg => ?_⟩;obtain ⟨nt,S,a1,a2,a3⟩:=h10 g hg;exact ⟨nt,S,a1.of_block (hb.block g a1.lt),a2,a3⟩
def SV (u:Bs→Option Bs) (w:World) (fb cb:Nat) (T:Nat→Prop) (m0:S1.M) (l l':List It) (n:Nat) (E:Int) (e:Ending) (w':World):Prop:=
 ∃ (x:Int) (T':Nat→Prop) (l'':List It) (n':Nat) (lf':Int),e=.returned (.int .i64 x)∧FsV u w' fb cb T' m0 l'' n' lf'∧n'≤n+701∧(∀ k,T' k→T k∨w.heap.size≤k)∧S1.Fm T w w' ∧
  (E≠0∧x=E∧l''=l∨E=0∧(x=0∧l''=l'∨x=10∧l''=l∧lf'=0∨x=9∧l''=l∧∃ t,IsText u (qab l') t∧S1.roomP m0<pagesN t.length))
theorem qk0 {tb lo hi lb:Nat} {L:S1.Loc} {lv:S1.Lv} {kv qv:Option Nat} {nk nq:Nat} {m:S1.M} {K Q:Nat→Bool} {b p:Nat} {l':List It} {E:Int} {e:Ending} {t0:Bs} (h:ChgP u w fb tb lo hi cb lb L lv kv qv nk nq m K Q b p l l' E e w') (hM:FsM w fb tb lo hi cb lb L lv kv qv nk nq m K Q b p l) (hs:S1.Snv m K Q b p∧Alike' m0 m) (hT:∀ k,FsS fb tb lo hi lb kv qv k→T k) (hk:∀ g,lv.tk=some g→T g)
 (hn:lv.nn=n) (hn2:n+800<2147483648) (hlf:m.life≠0) (hC:S1.Cog m lv.nb lv.nn K t0) (hI:IsText u (qab l) t0) (hS:Tki w lv m) (ht:TreeP l) (ht':E=0→TreeP l'):SV u w fb cb T m0 l l' n E e w':=by
 obtain ⟨h1,h2⟩:=h;have hG:=hs.1;have hF:S1.Fm T w w':=h1.mono fun k _ hk=>hT k hk
 have hsub:∀ c,w.heap.size≤c→∀ k,FsS fb c lo hi lb kv qv k∨lv.tk=some k→T k∨w.heap.size≤k:=fun c hc k hk'=>by
  rcases hk' with (h | h | h) | h
  ·exact .inl (hT k (.inl h))
  ·exact .inl (hT k (.inr (.inl h)))
  ·exact .inr (by omega)
  exact .inl (hk k h)
 have hS':Tki w' lv m:=fun g hg=>by
  obtain ⟨nt,S,a1,a2,a3⟩:=hS g hg;obtain ⟨b1,b2,b3,_⟩:=hM.tk g hg;exact ⟨nt,S,a1.of_block (h1.block g a1.lt (fun h=>by rcases h with h | h | h;exact b1 h;exact b2 h;exact b3 h)),a2,a3⟩
 rcases h2 with ⟨x,c,a1,a2,a3,a4⟩ | ⟨a1,a2,a3,a4,a5⟩ | ⟨a1,a2,t,S,a3,a4,a5,a6,h2⟩
 ·refine ⟨x,fun k=>FsS fb c lo hi lb kv qv k∨lv.tk=some k,l,n,m.life,a2,⟨c,lo,hi,lb,L,lv,kv,qv,nk,nq,m,K,Q,b,p,t0,a4,hs,fun k hk=>.inl hk,fun g hg=>.inr hg,a4.lt,hn,rfl,hC,hI,hS'⟩,by omega,hsub c a3,hF,?_⟩;rcases a1 with ⟨b1,b2⟩ | ⟨_,b2,_⟩ | ⟨b1,_,t,b3,b4,b5⟩
  ·exact .inl ⟨b1,b2,rfl⟩
  ·exact absurd b2 hlf
  refine .inr ⟨b1,.inr (.inr ⟨?_,rfl,t,b3,?_⟩)⟩
  ·rw [b5];unfold S1.mayE at b4 ⊢;rw [if_neg hlf] at b4 ⊢
   split
   ·rfl
   rename_i hc;rw [if_neg hc] at b4;exact absurd rfl b4
  unfold S1.mayE at b4;rw [if_neg hlf] at b4;rw [←hs.2.room];by_cases hc:S1.roomP m<pagesN t.length
  ·exact hc
  rw [if_neg hc] at b4;exact absurd rfl b4
 ·exact ⟨0,fun k=>FsS fb tb lo hi lb kv qv k∨lv.tk=some k,l',n,m.life,a4,⟨tb,lo,hi,lb,L,lv,kv,qv,nk,nq,m,K,Q,b,p,t0,a5,hs,fun k hk=>.inl hk,fun g hg=>.inr hg,a5.lt,hn,rfl,hC,by rw [qgK ht (ht' a1) a3];exact hI,hS'⟩,by omega,(fun k hk'=>hk'.elim (fun h=>.inl (hT k h)) fun h=>.inl (hk k h)),hF,.inr ⟨a1,.inl ⟨rfl,rfl⟩⟩⟩
 have hroom:pagesN t.length≤S1.roomP m:=by
  unfold S1.mayE at a4;rw [if_neg hlf] at a4;by_cases hc:S1.roomP m<pagesN t.length
  ·rw [if_pos hc] at a4;cases a4
  omega
 have htp:=qeg a3;have hpos:0<pagesN t.length:=by unfold pagesN;omega
 have hb32:S1.badN m≤32:=by have:=S1.badN_le m;have:=hG.wf.nb2;omega
 have hfew:pagesN t.length≤256:=Nat.le_trans hroom (S1.roomP_le hG.wf);have hSn:∀ y,y≤4294967295→hasL (S1.scn m) (S1.badN m) y=true→S (S1.badN m) y=true∨(lv.nb=S1.badN m∧y≤lv.nn):=fun y hy hh=>by
  cases hg:lv.tk with
  | none=>rw [a5.1 hg];exact .inl hh
  | some g' =>
    obtain ⟨n1,c1,_⟩:=a5.2 g' hg;obtain ⟨n2,S2,c2,_,c3⟩:=hS g' hg;rw [qlr c1 c2 (by omega) hy];exact c3 y hy hh
 have hnum:lv.nn<S1.numN m lv S∧S1.numN m lv S≤lv.nn+701∧S (S1.badN m) (S1.numN m lv S)=false:=by
  unfold S1.numN;rw [Nat.mod_eq_of_lt (show lv.nn+1<4294967296 by omega)];have x1:=S1.nxt_near (S:=S (S1.badN m)) (k:=lv.nn+1) (by omega);have x2:=nxt_free (a6 (S1.badN m)) (k:=lv.nn+1) (by omega);exact ⟨by omega,by omega,x2.1⟩
 obtain ⟨n1,n2,n3⟩:=hnum;have hnew:hasL (S1.scn m) (S1.badN m) (S1.numN m lv S)=false:=by
  cases hc:hasL (S1.scn m) (S1.badN m) (S1.numN m lv S) with
  | false=>rfl
  | true =>
    rcases hSn _ (by omega) hc with h | h
    ·rw [n3] at h;cases h
    omega
 obtain ⟨ps,hI1⟩:=hG.layI (S1.split_len (S1.badN m) (S1.numN m lv S) t) (S1.addS m lv S K Q b p t) rfl;obtain ⟨hlay,hnb,hnp,hbd⟩:=hG.lay (S1.split_len (S1.badN m) (S1.numN m lv S) t) (by rw [splitR_length];exact hpos) (by rw [splitR_length];exact hroom) (S1.addS m lv S K Q b p t) rfl;have hal:Alike' m0 (S1.addS m lv S K Q b p t).m:=⟨hnb.trans hs.2.1,hnp.trans hs.2.2.1,hbd.trans hs.2.2.2⟩;rcases h2 with ⟨ib,nk',g,a7,a8,a9,a10,a12,a11⟩ | ⟨c,a7,a8,a9,a10⟩
 ·rw [a7] at hI1;have hV:=(hlay.resolve_right fun h=>h.1 a7).2;have hC1:=hC.yes hG.wf hI1 (by omega) hfew htp hnew (by omega);refine ⟨0,fun k=>FsS fb tb lo hi lb (some ib) qv k∨k=g,l',S1.numN m lv S,_,a8,⟨tb,lo,hi,lb,L,_,some ib,qv,nk',nq,_,_,_,_,_,t,a11,⟨hV,hal⟩,fun k hk=>.inl hk,fun g' hg'=>.inr (by cases hg';rfl),fun k hk=>a11.lt k (hk.imp id fun h=>by rw [h]),rfl,rfl,hC1,a3,fun g' hg' => ?_⟩,by omega,fun k hk' => ?_,hF,.inr ⟨a1,.inl ⟨rfl,rfl⟩⟩⟩
  ·cases hg'
   obtain ⟨nt,c1,c2⟩:=a12;refine ⟨nt,S,c1,c2,fun y hy hh => ?_⟩;obtain ⟨f,hf,e1,e2⟩:=hasL_iff.1 hh;have hle:=hI1.badN_le;have hbd:=S1.lay_bad hI1 (by omega) (by omega) (by omega) hC.bad f hf;have hbe:S1.badN (S1.addS m lv S K Q b p t).m=S1.badN m:=by omega
   rw [hbe] at hh e1 ⊢;rcases hI1.found (by omega) (by omega) (by omega) hf with ⟨k,i,q,_,_,rfl⟩ | h1
   ·exact .inr ⟨rfl,by rw [←e2];exact Nat.le_refl _⟩
   rcases hSn y hy (hasL_iff.2 ⟨f,h1,e1,e2⟩) with h | ⟨_,h⟩
   ·exact .inl h
   exact .inr ⟨rfl,by show y≤S1.numN m lv S;omega⟩
  rcases hk' with ((h | h | h | h) | h | h) | h
  ·exact .inl (hT k (.inl (.inl h)))
  ·exact .inl (hT k (.inl (.inr (.inl h))))
  ·cases h;exact .inr a9
  ·exact .inl (hT k (.inl (.inr (.inr (.inr h)))))
  ·exact .inl (hT k (.inr (.inl h)))
  ·exact .inl (hT k (.inr (.inr h)))
  rcases a10 with h' | h'
  ·exact .inl (by rw [h];exact hk g h')
  exact .inr (by omega)
 obtain ⟨_,hd,hV⟩:=hlay.resolve_left fun h=>a7 h.1
 have hC1:=hC.no hG.wf hI1 (by omega) (by omega) hnew a7;rw [if_pos hd] at a8;exact ⟨10,fun k=>FsS fb c lo hi lb kv qv k,l,n,0,a8,⟨c,lo,hi,lb,L,_,kv,qv,nk,nq,_,_,_,_,_,t0,a10,⟨hV,hal⟩,fun k hk=>hk,fun g hg=>(by cases hg),fun k hk=>a10.lt k (.inl hk),hn,hd,hC1,hI,fun g hg=>(by cases hg)⟩,by omega,fun k hk=>hsub c a9 k (.inl hk),hF,.inr ⟨a1,.inr (.inl ⟨rfl,rfl,rfl⟩)⟩⟩
theorem qm8 (hP:PackC u) (q d:Bs) (w:World) (fb cb:Nat) (T:Nat→Prop) (m0:S1.M) (l:List It) (n:Nat) (lf:Int) (hlf:lf≠0) (hn:n+800<2147483648) (h:FsV u w fb cb T m0 l n lf) (ht:TreeP l) (hml:ML w) (h0:¬T 0) (hq:q.length≤1048576) (hd:d.length≤1048576) :
 Calls Tryz.prog 51 #[.pointer (some ⟨fb,0,none⟩),.string (txt q),.string (txt d)] w fun e w'=>SV u w fb cb T m0 l (setIt l (putI l q d)) n (putE l q d) e w':=by
 obtain ⟨tb,lo,hi,lb,L,lv,kv,qv,nk,nq,m,K,Q,b,p,t,h1,h2,h3,h4,h5,h6,h7,h8,h9,h10⟩:=h;have hnb:=h2.1.wf.nb2;have hb:=h2.1.b;refine (qlI hP q d w fb tb lo hi cb lb L lv kv qv nk nq m K Q b p l h1 ht hml (fun h=>h0 (h3 0 h)) (by omega) h2.1.p hq hd).mono ?_;exact fun e w' hpost=>qk0 hpost h1 h2 h3 h4 h6 hn (by rw [h7];exact hlf) h8 h9 h10 ht ht.put
theorem qg1 (hP:PackC u) (q:Bs) (w:World) (fb cb:Nat) (T:Nat→Prop) (m0:S1.M) (l:List It) (n:Nat) (lf:Int) (hlf:lf≠0) (hn:n+800<2147483648) (h:FsV u w fb cb T m0 l n lf) (ht:TreeP l) (hml:ML w) (h0:¬T 0) (hq:q.length≤1048576) :
 Calls Tryz.prog 48 #[.pointer (some ⟨fb,0,none⟩),.string (txt q)] w fun e w'=>SV u w fb cb T m0 l (l.filter fun y=>decide (y.path≠q)) n (removeE l q) e w':=by
 obtain ⟨tb,lo,hi,lb,L,lv,kv,qv,nk,nq,m,K,Q,b,p,t,h1,h2,h3,h4,h5,h6,h7,h8,h9,h10⟩:=h;have hnb:=h2.1.wf.nb2;have hb:=h2.1.b;refine (qgL hP q w fb tb lo hi cb lb L lv kv qv nk nq m K Q b p l h1 ht hml (fun h=>h0 (h3 0 h)) (by omega) h2.1.p hq).mono ?_;exact fun e w' hpost=>qk0 hpost h1 h2 h3 h4 h6 hn (by rw [h7];exact hlf) h8 h9 h10 ht ht.remove
theorem qhG {w:World} {g n:Nat} {S:Nat→Bool} (h:S1.BlAt w g n S):∃ es c,w.heap[g]? = some (.map es c):=by
 obtain ⟨D,⟨es,c,hb,_⟩,_⟩:=h;exact ⟨es,c,hb⟩
theorem qcS {w:World} {g:Nat} {l:List It} (h:TreeAt w g l):∃ es c,w.heap[g]? = some (.map es c):=by
 obtain ⟨D,⟨es,c,hb,_⟩,_⟩:=h;exact ⟨es,c,hb⟩
theorem qcF {w:World} {g k:Nat} (h:∃ es c,w.heap[g]? = some (.map es c)) {x:Array Value} {t:TypeId} {f:Nat × Nat} (hk:w.heap[k]? = some (.cells x t f)):g≠k:=by
 rintro rfl;obtain ⟨es,c,hb⟩:=h;rw [hb] at hk;cases hk
theorem qnq {w:World} {fb cb lb tb cb' lb':Nat} {lv:S1.Lv} {kv qv:Option Nat} {b p:Nat} (h:FsAt w fb cb lb tb) (hl:S1.LogAt w lb' cb' lv kv qv b p):fb≠lb':=by
 rintro rfl;have h1:=h.symm.trans hl
 injection h1 with h1
 injection h1 with _ h2
 exact absurd h2 (by decide)
end
namespace S1
open Go.RowKit Pk
def badL (z:Nat→Int) (n:Nat) (i:Nat):Bool:=(List.range n).any fun j=>z j==(i:Int)
def mkM (blocks pages:Int) (n:Nat) (z:Nat→Int):M:=⟨(bnd blocks 4 32).toNat,(bnd pages 4 16).toNat,fun _ _=>[],fun _=>0,badL z n,-1,0,-1,0⟩
theorem mkM_wf (blocks pages:Int) (n:Nat) (z:Nat→Int):WF (mkM blocks pages n z):=by
 have h1:=bnd_le blocks 4 32 (by omega);have h2:=bnd_le pages 4 16 (by omega);refine ⟨?_,?_,?_,?_,fun i _=>Nat.zero_le _,fun i p _ _=>Nat.zero_le _,?_,?_,?_,?_,?_,?_,?_,?_⟩<;>(simp only [mkM];omega)
theorem qdN (z:Nat→Int) (k:Nat):badL z (k+1)=fun i=>badL z k i||(z k==(i:Int)):=by
 funext i
 unfold badL;rw [List.range_succ,List.any_append];simp
theorem qgh {α:Type} (n:Nat) (x:α):(List.range n).map (fun _=>x)++[x]=(List.range (n+1)).map fun _=>x:=by
 rw [List.range_succ,List.map_append];rfl
theorem madeNp (np:Nat) (h:np≤16):∃ M:Array Value,(∀ W:World,(Instr.makeSlice 40 (.int .i64 (np:Nat)) (.int .i64 (np:Nat))).run Tryz.prog W=.ok (.slice (some ⟨W.heap.size,0,none⟩) np np) (W.alloc (.cells M 9)))∧∀ W:World,(W.alloc (.cells M 9)).rowIs W.heap.size 9 np (fun _=>.string ⟨#[]⟩):=
 ⟨madeCells #[Value.string ⟨#[]⟩] np,fun W=>run_make_row' (P:=Tryz.prog) 40 9 (.string ⟨#[]⟩) 16 Tryz.underlying40 Tryz.info9 rfl .i64 .i64 np (by omega) (by omega) W,fun W=>World.rowIs_made W (.string ⟨#[]⟩) np 9⟩
theorem qc0 {B:Nat} {a w:World} (h:Below B a w) (q:Nat):Below B a (w.drewN q):=⟨h.os,h.tape,h.output,h.size,h.block⟩
theorem MemX.bdc {w:World} {lo hi cb:Nat} {T:TypeId} {L:Loc} {m:M} {enc:List UInt8→List UInt8} {g4 g5 g6 g7:Int} (h:MemX w lo hi cb T L m enc g4 g5 g6 g7) (bd:Nat→Bool) (e:∀ i,i<m.nb→m.bd i=bd i):MemX w lo hi cb T L { m with bd:=bd } enc g4 g5 g6 g7:=
 ⟨h.hcb,h.hdb,h.hnk,h.hbk,h.hrw,h.inj,h.hT,h.st,h.data,h.next,h.bad.congr (fun i hi=>by rw [e i hi]),h.page⟩
theorem qfs (w:World) (p:Addr) (x v:Value) (t:TypeId):∀ j u,[v][j]? = some u→((w.setCell p x).alloc (.cells #[v] t)).cell? ((⟨w.heap.size,0,none⟩:Addr).add j)=some u:=by
 have:=cell_one_new (w.setCell p x) v t
 simpa using this
theorem cell_two_new (w:World) (o:Obj) (v:Value) (t:TypeId):∀ j u,[v][j]? = some u→((w.alloc o).alloc (.cells #[v] t)).cell? ((⟨w.heap.size+1,0,none⟩:Addr).add j)=some u:=by
 have:=cell_one_new (w.alloc o) v t
 simpa using this
theorem new_any (w:World) (blocks pages:Int) (a:Option Addr) (n cap:Nat) (z:Nat→Int) (hn:n≤17592186043904) (hin:IntsIn w a n z) :
 Calls Tryz.prog 10 #[.int .i64 blocks,.int .i64 pages,.slice a n cap] w fun e w'=>∃ L hi,e=.returned (.pointer (some ⟨w.heap.size,0,none⟩))∧hi≤w'.heap.size∧CP w' w.heap.size hi w.heap.size L (mkM blocks pages n z)∧Below w.heap.size w w':=by
 have Hbl:=hidI (fun w=>qdQ blocks 4 32 (by omega) w);have Hpg:=hidI (fun w=>qdQ pages 4 16 (by omega) w);have hb1:=bnd_le blocks 4 32 (by omega);have hb2:=bnd_le pages 4 16 (by omega);obtain ⟨nb,hnb⟩:∃ nb:Nat,bnd blocks 4 32=(nb:Int):=Int.eq_ofNat_of_zero_le (by omega);obtain ⟨np,hnp⟩:∃ np:Nat,bnd pages 4 16=(np:Int):=Int.eq_ofNat_of_zero_le (by omega);have HM:Hid (mkM blocks pages n z=⟨nb,np,fun _ _=>[],fun _=>0,badL z n,-1,0,-1,0⟩):=by
  show mkM blocks pages n z=_;unfold mkM;rw [hnb,hnp];rfl
 rw [hnb] at Hbl hb1;rw [hnp] at Hpg hb2;have hnb1:4≤nb:=by omega
 have hnb2:nb≤32:=by omega
 have hnp1:4≤np:=by omega
 have hnp2:np≤16:=by omega
 clear hnb hnp hb1 hb2;obtain ⟨MC,hmk,hMC⟩:=madeNp np hnp2;have HMC:=hidI hMC;clear hMC;have Hin:=hidI hin;clear hin;go_enter Tryz.func10,Tryz.ntmps10
 go_wp2_with (first | (go_at_call 36;refine (Hpg.out _).mono ?_;rintro e w1 ⟨rfl,h1⟩;subst h1));have Hst0:=hidI (heap_alloc_new w1 (Obj.cells #[.int .i64 (np:Nat),.slice none 0 0,.slice none 0 0,.slice none 0 0,.int .i64 (-1),.int .i64 0,.int .i64 (-1),.int .i64 0] 74));have Hb0:=hidI ((Below.refl w1.heap.size w1).alloc (Nat.le_refl _) (Obj.cells #[.int .i64 (np:Nat),.slice none 0 0,.slice none 0 0,.slice none 0 0,.int .i64 (-1),.int .i64 0,.int .i64 (-1),.int .i64 0] 74));obtain ⟨i0,hi0,hz0,hz1,hz2⟩:=info_parts Tryz.info23;obtain ⟨k0,ki,kz0,kz1,kz2⟩:=info_parts Tryz.info3;obtain ⟨l0,li,lz0,lz1,lz2⟩:=info_parts Tryz.info4;obtain ⟨G,hGe⟩:∃ G,G=w1.heap.size:=⟨_,rfl⟩;have Hin:Hid (∀ W,Below G w1 W→IntsIn W a n z):=fun W hb=>Hin.out.below (hGe ▸ hb)
 rw [←hGe] at Hst0 Hb0 ⊢;have HGe:=hidI hGe;clear hGe
 go_loopw [8] (fun x wr=>∃ k:Nat,k≤nb∧x=.int .i64 k∧∃ da dc na nc ba bc rw cr,wr.heap[G]? = some (.cells #[.int .i64 (np:Nat),.slice da k dc,.slice na k nc,.slice ba k bc,.int .i64 (-1),.int .i64 0,.int .i64 (-1),.int .i64 0] 74 (0,0))∧Data wr G (.slice da k dc) k np rw cr (fun _ _=>[])∧wr.ownsRow G 3 1 (.slice na k nc) k ((List.range k).map fun _=>.int .i64 0)∧wr.ownsRow G 4 1 (.slice ba k bc) k ((List.range k).map fun _=>.bool false)∧Below G w1 wr) (fun x _=>nb - (intOf x).toNat)
 case atStart=>exact ⟨0,by omega,rfl,none,0,none,0,none,0,fun _=>0,fun _=>0,Hst0.out,Data.nil _ _ _ _ _ _,World.ownsRow_nil _ _ _ _,World.ownsRow_nil _ _ _ _,Hb0.out⟩
 case round =>
  clear Hst0 Hb0;obtain ⟨k,hk,rfl,da,dc,na,nc,ba,bc,rw,cr,hst,hdat,hnx,hbd,hbel⟩:=hrel;have hGr:G<wr.heap.size:=lt_of_heap hst;by_cases hlt:k<nb
  ·have x0:wr.cell? ⟨G,0,none⟩=some (.int .i64 (np:Nat)):=by rw [cell_of_row wr G 0 _ 74 (0,0) hst];rfl
   have x1:wr.cell? ⟨G,1,none⟩=some (.slice da k dc):=by rw [cell_of_row wr G 1 _ 74 (0,0) hst];rfl
   have x1a:∀ o,(wr.drew.alloc o).cell? ⟨G,1,none⟩=some (.slice da k dc):=fun o=>(World.cell?_of_block (w:=wr) (Below.heap_alloc wr.drew o G hGr)).trans x1
   have x1b:∀ o o',((wr.drew.alloc o).alloc o').cell? ⟨G,1,none⟩=some (.slice da k dc):=fun o o'=>(World.cell?_of_block (w:=wr.drew.alloc o) (Below.heap_alloc (wr.drew.alloc o) o' G (by simp;omega))).trans (x1a o)
   have Hst:=hidI hst;have Hdat:=hidI hdat;have Hnx:=hidI hnx;have Hbd:=hidI hbd;have Hbel:=hidI hbel;clear hst hdat hnx hbd hbel;go_wp2_with (first | (go_at_call 36;refine (Hbl.out _).mono ?_;rintro e w2 ⟨rfl,h2⟩;subst h2));go_region_law (first
    | (refine step_append_lies _ (by rfl) _ _ _ (by rfl) G 40 i0 _ 1 24 Tryz.underlying71 hi0 hz0 hz1 hz2 rfl (by omega) (.slice da k dc) k _ (by rfl) ((Hdat.out.own.drew.alloc _).alloc _) ⟨w2.heap.size+1,0,none⟩ 1 1 [.slice (some ⟨w2.heap.size,0,none⟩) np np] (by rfl) rfl (cell_two_new w2.drew (.cells MC 9) (.slice (some ⟨w2.heap.size,0,none⟩) np np) 40) (by intro u hu;simp at hu;subst hu;rfl) (by omega) (by unfold maxLen;omega) (by omega) (by simp;omega) (w2.heap.size+2) (by simp) ?_;intro g2 cap2 w3 hown2 hgrow2 hat2 hlt2;have K2:∀ t,t≠40→Keeps t (w2.drew.alloc (.cells MC 9)) w3:=(fun t ht=>((Keeps.refl t _).alloc _).grown ((Hdat.out.own.drew.alloc _).alloc _) (fun e=>ht e.symm) hgrow2);have hst2:=(((Keeps.refl 74 w2).drew.alloc (.cells MC 9)).trans (K2 74 (by decide))).block Hst.out;have y1:w3.cell? ⟨G,1,none⟩=some (.slice da k dc):=(by rw [cell_of_row w3 G 1 _ 74 (0,0) hst2];rfl);have yf:=frozen_of_row w3 G 1 _ 74 hst2;have Hbel3:Hid (Below G w1 w3):=((Hbel.out.drew.alloc (Nat.le_of_lt hGr) _).alloc (by simp;omega) _).grown hgrow2 (by simp;omega) (fun q hq=>(Hdat.out.own.lt q hq).1);have HK2:=hidI K2;have Hst2:=hidI hst2;have Hown2:=hidI hown2;clear hown2 hgrow2 hat2 K2 hst2))
   all_goals have hKa:∀ t,t≠40→Keeps t w2 w3:=(fun t ht=>((Keeps.refl t w2).drew.alloc (.cells MC 9)).trans (HK2.out t ht))
   all_goals have hst3:=heap_setCell_same w3 G 1 _ 74 (.slice (some ⟨g2,0,none⟩) (k+1) cap2) Hst2.out
   all_goals have hrow3:Rw (w3.setCell ⟨G,1,none⟩ (.slice (some ⟨g2,0,none⟩) (k+1) cap2)) w2.heap.size 9 np (fun p=>.string (txt ((fun _=>[]:Nat→List UInt8) p))):=((HK2.out 9 (by decide)).set (o:=1) (v:=.slice (some ⟨g2,0,none⟩) (k+1) cap2) Hst2.out (by decide)).rw (rowIs_rw (HMC.out w2.drew))
   all_goals have hdat3:=Hdat.out.push ((hKa 9 (by decide)).set (o:=1) (v:=.slice (some ⟨g2,0,none⟩) (k+1) cap2) Hst2.out (by decide)) (r:=w2.heap.size) (c:=np) (f:=fun _=>[]) (Nat.le_of_lt hGr) (Nat.le_refl _) hrow3 (((Keeps.refl 40 w3).set (o:=1) (v:=.slice (some ⟨g2,0,none⟩) (k+1) cap2) Hst2.out (by decide)).own Hown2.out)
   all_goals have hpe:put (fun (_:Nat) (_:Nat)=>([]:List UInt8)) k (fun _=>[])=fun _ _=>[]:=(by
    funext x y
    unfold put
    split<;>rfl)
   all_goals rw [hpe] at hdat3
   all_goals have hnx3:=((hKa 3 (by decide)).set (o:=1) (v:=.slice (some ⟨g2,0,none⟩) (k+1) cap2) Hst2.out (by decide)).own Hnx.out
   all_goals have hbd3:=((hKa 4 (by decide)).set (o:=1) (v:=.slice (some ⟨g2,0,none⟩) (k+1) cap2) Hst2.out (by decide)).own Hbd.out
   all_goals have hbel3:=Hbel3.out.setCell (p:=⟨G,1,none⟩) (Nat.le_refl _) (.slice (some ⟨g2,0,none⟩) (k+1) cap2)
   all_goals generalize w3.setCell ⟨G,1,none⟩ (.slice (some ⟨g2,0,none⟩) (k+1) cap2)=wa at *
   all_goals clear hrow3 hpe hKa Hst2 HK2 Hown2 y1 yf Hbel3 x0 x1 x1a x1b Hst Hdat Hnx Hbd Hbel
   all_goals have hGa:G<wa.heap.size:=lt_of_heap hst3
   all_goals have x2:wa.cell? ⟨G,2,none⟩=some (.slice na k nc):=(by rw [cell_of_row wa G 2 _ 74 (0,0) hst3];rfl)
   all_goals have Hst3:=hidI hst3
   all_goals have Hdat3:=hidI hdat3
   all_goals have Hbd3:=hidI hbd3
   all_goals have Hbel3:=hidI hbel3
   all_goals clear hst3 hdat3 hbd3 hbel3
   all_goals go_wp2_with (at_builtin;refine wpList_append_lies _ rfl (.tmp 38) (.tmp 39) 22 rfl G 3 k0 (.int .i64 0) 1 8 Tryz.underlying22 ki kz0 kz1 kz2 rfl (by decide) (.slice na k nc) k _ rfl (hnx3.alloc _) ⟨wa.heap.size,0,none⟩ 1 1 [.int .i64 0] rfl rfl (cell_one_new _ _ _) (by intro u hu;simp at hu;subst hu;rfl) (by omega) (by unfold maxLen;omega) (by omega) (by simp;omega) (wa.heap.size+1) (by simp) ?_)
   all_goals intro g4 cap4 w4 hown4 hgrow4 hat4 hlt4
   all_goals have K4:∀ t,t≠3→Keeps t wa w4:=(fun t ht=>((Keeps.refl t wa).alloc _).grown (hnx3.alloc _) (fun e=>ht e.symm) hgrow4)
   all_goals have hst4:=(K4 74 (by decide)).block Hst3.out
   all_goals have y2:w4.cell? ⟨G,2,none⟩=some (.slice na k nc):=(by rw [cell_of_row w4 G 2 _ 74 (0,0) hst4];rfl)
   all_goals have yf2:=frozen_of_row w4 G 2 _ 74 hst4
   all_goals have hst5:=heap_setCell_same w4 G 2 _ 74 (.slice (some ⟨g4,0,none⟩) (k+1) cap4) hst4
   all_goals rw [qgh] at hown4
   all_goals have hnx5:=((Keeps.refl 3 w4).set (o:=2) (v:=.slice (some ⟨g4,0,none⟩) (k+1) cap4) hst4 (by decide)).own hown4
   all_goals have hdat5:=Hdat3.out.keep ((K4 9 (by decide)).set (o:=2) (v:=.slice (some ⟨g4,0,none⟩) (k+1) cap4) hst4 (by decide)) ((K4 40 (by decide)).set (o:=2) (v:=.slice (some ⟨g4,0,none⟩) (k+1) cap4) hst4 (by decide))
   all_goals have hbd5:=((K4 4 (by decide)).set (o:=2) (v:=.slice (some ⟨g4,0,none⟩) (k+1) cap4) hst4 (by decide)).own Hbd3.out
   all_goals have hbel5:Below G w1 (w4.setCell ⟨G,2,none⟩ (.slice (some ⟨g4,0,none⟩) (k+1) cap4)):=((Hbel3.out.alloc (Nat.le_of_lt hGa) _).grown hgrow4 (by simp;omega) (fun q hq=>(hnx3.lt q hq).1)).setCell (Nat.le_refl _) _
   all_goals have hG4:G<w4.heap.size:=lt_of_heap hst4
   all_goals have x3:(w4.setCell ⟨G,2,none⟩ (.slice (some ⟨g4,0,none⟩) (k+1) cap4)).cell? ⟨G,3,none⟩=some (.slice ba k bc):=(by rw [cell_of_row _ G 3 _ 74 (0,0) hst5];rfl)
   all_goals have Hst5:=hidI hst5
   all_goals have Hdat5:=hidI hdat5
   all_goals have Hnx5:=hidI hnx5
   all_goals have Hbel5:=hidI hbel5
   all_goals clear hst4 hst5 hdat5 hnx5 hbel5 hown4 hgrow4 hat4 K4 Hst3 Hdat3 Hbd3 Hbel3 hnx3 x2
   all_goals go_wp2_with (at_builtin;refine wpList_append_lies _ rfl (.tmp 47) (.tmp 48) 72 rfl G 4 l0 (.bool false) 1 1 Tryz.underlying72 li lz0 lz1 lz2 rfl (by decide) (.slice ba k bc) k _ rfl (hbd5.alloc _) ⟨w4.heap.size,0,none⟩ 1 1 [.bool false] rfl rfl (qfs _ _ _ _ _) (by intro u hu;simp at hu;subst hu;rfl) (by omega) (by unfold maxLen;omega) (by omega) (by simp;omega) (w4.heap.size+1) (by simp) ?_)
   all_goals intro g6 cap6 w6 hown6 hgrow6 hat6 hlt6
   all_goals have K6:∀ t,t≠4→Keeps t (w4.setCell ⟨G,2,none⟩ (.slice (some ⟨g4,0,none⟩) (k+1) cap4)) w6:=(fun t ht=>((Keeps.refl t _).alloc _).grown (hbd5.alloc _) (fun e=>ht e.symm) hgrow6)
   all_goals have hst6:=(K6 74 (by decide)).block Hst5.out
   all_goals have y3:w6.cell? ⟨G,3,none⟩=some (.slice ba k bc):=(by rw [cell_of_row w6 G 3 _ 74 (0,0) hst6];rfl)
   all_goals have yf3:=frozen_of_row w6 G 3 _ 74 hst6
   all_goals rw [qgh] at hown6
   all_goals have Hst7:=hidI (heap_setCell_same w6 G 3 _ 74 (.slice (some ⟨g6,0,none⟩) (k+1) cap6) hst6)
   all_goals have Hbd7:=hidI (((Keeps.refl 4 w6).set (o:=3) (v:=.slice (some ⟨g6,0,none⟩) (k+1) cap6) hst6 (by decide)).own hown6)
   all_goals have Hnx7:=hidI (((K6 3 (by decide)).set (o:=3) (v:=.slice (some ⟨g6,0,none⟩) (k+1) cap6) hst6 (by decide)).own Hnx5.out)
   all_goals have Hdat7:=hidI (Hdat5.out.keep ((K6 9 (by decide)).set (o:=3) (v:=.slice (some ⟨g6,0,none⟩) (k+1) cap6) hst6 (by decide)) ((K6 40 (by decide)).set (o:=3) (v:=.slice (some ⟨g6,0,none⟩) (k+1) cap6) hst6 (by decide)))
   all_goals have Hbel7:Hid (Below G w1 (w6.setCell ⟨G,3,none⟩ (.slice (some ⟨g6,0,none⟩) (k+1) cap6))):=((Hbel5.out.alloc (by simp;omega) _).grown hgrow6 (by simp;omega) (fun q hq=>(hbd5.lt q hq).1)).setCell (Nat.le_refl _) _
   all_goals clear hst6 hown6 hgrow6 hat6 K6 Hst5 Hdat5 Hnx5 Hbel5 hbd5 x3 y2 yf2
   all_goals go_wp2
   all_goals (go_roundw;(case rel=>exact ⟨k+1,by omega,by go_num,some ⟨_,0,none⟩,cap2,some ⟨_,0,none⟩,cap4,some ⟨_,0,none⟩,cap6,_,_,Hst7.out,Hdat7.out,Hnx7.out,Hbd7.out,Hbel7.out⟩);(case measure=>simp [intOf];omega))
  have hke:nb=k:=by omega
  subst hke;obtain ⟨L,hL⟩:=MemX.built (T:=74) (enc:=id) (m:=⟨nb,np,fun _ _=>[],fun _=>0,badL z 0,-1,0,-1,0⟩) (g4:=-1) (g5:=0) (g6:=-1) (g7:=0) (by show 0<nb;omega) (by decide) (Nat.le_refl G) hst hdat (fun i p _ _=>rfl) hnx hbd;obtain ⟨H,hH⟩:∃ H,H=wr.heap.size:=⟨_,rfl⟩;rw [←hH] at hL;have Hle:Hid (H≤wr.heap.size):=Nat.le_of_eq hH;have HL:=hidI hL;have Hbel:=hidI hbel;clear hst hdat hnx hbd hbel hL hH hGr;go_wp2_with (first | (go_at_call 36;refine (Hbl.out _).mono ?_;rintro e w2 ⟨rfl,h2⟩;subst h2))
  go_loopw [9] (fun x wr=>∃ k:Nat,k≤n∧x=.int .i64 k∧CP wr G H G L ⟨nb,np,fun _ _=>[],fun _=>0,badL z k,-1,0,-1,0⟩∧Below G w1 wr∧H≤wr.heap.size) (fun x _=>n - (intOf x).toNat)
  case atStart=>exact ⟨0,by omega,rfl,HL.out,Hbel.out,Hle.out⟩
  clear HL Hbel Hle;obtain ⟨k,hk,rfl,hm,hbel,hle⟩:=hrel;have c1:=MemX.c1 hm;have c3:=MemX.c3 hm;have Hle:=hidI hle;have Hbel:=hidI hbel;have Hm:=hidI hm;simp only [] at c1 c3;by_cases hlt:k<n
  ·obtain ⟨b,off,rfl,hc⟩:=Hin.out _ hbel (by omega);have hck:=hc k hlt;clear hc hm hbel hle;by_cases h0:z k<0
   ·have hd:decide (0≤z k)=false:=by simp;omega
    have Hm2:Hid (CP wr G H G L ⟨nb,np,fun _ _=>[],fun _=>0,badL z (k+1),-1,0,-1,0⟩):=(Hm.out.bdc (badL z (k+1)) (fun i _=>by rw [qdN];show _=(badL z k i||(z k==(i:Int)));rw [show (z k==(i:Int))=false by simp;omega,Bool.or_false]));go_wp2_with fail
    go_quiet (fail)
    go_wp2;go_roundw
    case rel=>exact ⟨k+1,by omega,by go_num,MemX.drewN Hm2.out _,qc0 Hbel.out _,Hle.out⟩
    case measure=>simp [intOf];omega
   have hd:decide (0≤z k)=true:=by simp;omega
   obtain ⟨i,hzi⟩:∃ i:Nat,z k=(i:Int):=Int.eq_ofNat_of_zero_le (by omega);have Hzi:=hidI hzi;rw [hzi] at hck;by_cases h1:i<nb
   ·have hd1:decide ((i:Int)<(nb:Int))=true:=by simp;omega
    have hf:=Hm.out.bad.frozen i;have hcb:=Hm.out.bad.cell h1;have Hm2:Hid (∀ q,CP ((wr.drewN q).setCell ⟨L.bk,i,none⟩ (.bool true)) G H G L ⟨nb,np,fun _ _=>[],fun _=>0,badL z (k+1),-1,0,-1,0⟩):=fun q=>((MemX.setBd (MemX.drewN Hm.out q) i true).bdc (badL z (k+1)) (fun a _=>by
     rw [qdN];show (if a=i then true else badL z k a)=(badL z k a||(z k==(a:Int)));rw [Hzi.out];by_cases e:a=i
     ·rw [if_pos e,e];simp
     rw [if_neg e,show ((i:Int)==(a:Int))=false by simp;omega,Bool.or_false]))
    have Hbel2:Hid (∀ q,Below G w1 ((wr.drewN q).setCell ⟨L.bk,i,none⟩ (.bool true))):=fun q=>(qc0 Hbel.out q).setCell (p:=⟨L.bk,i,none⟩) Hm.out.hbk.1 (.bool true)
    clear h0 hd hzi;go_wp2_with fail
    go_quiet (fail)
    go_wp2_with fail;go_region;go_wp2;go_roundw
    case rel=>exact ⟨k+1,by omega,by go_num,Hm2.out _,Hbel2.out _,by simpa using Hle.out⟩
    case measure=>simp [intOf];omega
   have hd1:decide ((i:Int)<(nb:Int))=false:=by simp;omega
   have Hm2:Hid (CP wr G H G L ⟨nb,np,fun _ _=>[],fun _=>0,badL z (k+1),-1,0,-1,0⟩):=(Hm.out.bdc (badL z (k+1)) (fun a ha=>by rw [qdN];show _=(badL z k a||(z k==(a:Int)));have:a<nb:=ha;rw [Hzi.out,show ((i:Int)==(a:Int))=false by simp;omega,Bool.or_false]));clear h0 hd hzi;go_wp2_with fail
   go_quiet (fail)
   go_wp2;go_roundw
   case rel=>exact ⟨k+1,by omega,by go_num,MemX.drewN Hm2.out _,qc0 Hbel.out _,Hle.out⟩
   case measure=>simp [intOf];omega
  have hke:n=k:=by omega
  subst hke;clear hm hbel hle;go_wp2;go_ret
  refine ⟨L,H,by rw [←HGe.out];rfl,Hle.out,?_,?_⟩
  ·rw [HM.out,←HGe.out];exact Hm.out
  rw [←HGe.out];exact Hbel.out
end S1
section
open Go.RowKit Go.Nt
theorem qlR (b p:Int) (z:Nat→Int):S1.New (S1.mkM b p 0 z):=⟨S1.mkM_wf b p 0 z,rfl,by show (-1:Int)<0;decide,fun _ _=>rfl,fun _=>rfl⟩
theorem ql5 (b p:Int) (z:Nat→Int):S1.roomP (S1.mkM b p 0 z)=(S1.mkM b p 0 z).nb/2*(S1.mkM b p 0 z).np:=by
 have h:S1.badN (S1.mkM b p 0 z)=0:=by
  unfold S1.badN;rw [List.countP_eq_zero];intro i _;show ¬S1.badL z 0 i=true;simp [S1.badL]
 unfold S1.roomP S1.good;rw [h,Nat.sub_zero]
theorem qdo {w:World} {T:Nat→Prop} {v:Value} {l:List It} (h:RowK w T v l):∃ a c,v=.slice a l.length c∧ItsIn w a l:=qbO h.1
end
end Go.Proofs.YtodmdkhdbfbfgaaGreatDoor
