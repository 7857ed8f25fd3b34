/- Lemmas. -/
import Derived.Test.YtodmdkhdbfbfgabGreatDoorM39
set_option linter.unusedVariables false
set_option linter.unusedSimpArgs false
set_option maxRecDepth 100000
set_option maxHeartbeats 8000000
namespace Go.Proofs.YtodmdkhdbfbfgabGreatDoor
open Go.RowKit Go.Nt
open S1 (rcs)
def Newest (l:List Fp) (b r:Nat):Prop:=∀ ord,S1.TurnOf l ord→ord≠[]→ord.getLast? = some (b,r)
theorem mountU (w:World) (lo hi cb:Nat) (L:S1.Loc) (m:S1.M) (hw:S1.WF m) (h:S1.CP w lo hi cb L m) (hsz:hi≤w.heap.size) (hlf:m.life≠0) (l:List Fp) (hl:scanF (S1.pgs m) m.np m.nb=l) (b r:Nat) (hb:b≤1000000) (hr:r≤4294967295) (hwh:S1.wholeF l b r=true) (hnew:Newest l b r) (ps:List Fp) (hps:recF l b r=some ps) (hok:∀ f∈l,FpOk f∧f.blk<1000)
 (hml:ML w) {u:Bs→Option Bs} (hP:PackC u) (tl:List It) (hpar:parse u (txtF ps)=some tl) (htr:isTree tl=true) (hlen:(txtF ps).length≤1000000) :
 Calls Tryz.prog 16 #[.pointer (some ⟨cb,0,none⟩)] w fun e w'=>MountP ps b r m.np cb tl w e w':=by
 have A:=hidI (S1.dead_any w lo hi cb L m h);have hlb:(m.life==0)=false:=by simp [hlf]
 rw [hlb] at A;have B:=hidI ((callsIn_wide (n:=20)).1 (S1.recordsU w lo hi cb L m hw h hsz hlf l hl b r hb hr hwh hok));have HC:=hidI h;have Hml:=hidI hml;have Hpar:=hidI hpar;have Htr:=hidI htr;obtain ⟨X,hX⟩:∃ X,X=txt (txtF ps):=⟨_,rfl⟩;obtain ⟨E,hE⟩:∃ E,E=endF ps:=⟨_,rfl⟩;have HX:=hidI hX;have HXS:Hid (S1.txt (txtF ps)=X):=hidI (by rw [hX];rfl);have HE:=hidI hE;have Hnew:=hidI hnew;have Hps:=hidI hps;unfold MountP;rw [←hE];clear h hml hpar htr hlb hnew hps hok hl hX hE hwh;go_enter Tryz.func16,Tryz.ntmps16
 go_wp2_with fail;refine A.out.mono ?_;rintro e w' ⟨rfl,hw'⟩;have hw2:=hw'.symm;subst hw2;go_wp2_with fail;refine B.out.mono ?_;rintro e w1 ⟨v,ord,ibf,nbf,rfl,hTo,hone,hrow,hall,hb1⟩;have hlast:=Hnew.out ord hTo hone;obtain ⟨ol,hol⟩:∃ ol,ord.reverse=(b,r) :: ol:=by
  rw [List.getLast?_eq_head?_reverse] at hlast;cases hr:ord.reverse with
  | nil=>rw [hr] at hlast;cases hlast
  | cons a t=>rw [hr] at hlast;simp at hlast;exact ⟨t,by rw [hlast]⟩
 have hin:(b,r)∈ord:=List.mem_reverse.1 (by rw [hol];simp);obtain ⟨-,hib,hn,hBl⟩:=hall (b,r) hin;have hpo:S1.psOf l b r=ps:=by unfold S1.psOf;rw [Hps.out];rfl
 dsimp only at hib hn hBl;obtain ⟨ib,hibe⟩:∃ ib,ib=ibf b r:=⟨_,rfl⟩;obtain ⟨n,hne⟩:∃ n,n=nbf b r:=⟨_,rfl⟩;rw [hpo] at hBl;rw [←hibe] at hib hBl;rw [←hne] at hn hBl;have hno:0<ord.length:=List.length_pos_iff.2 hone;obtain ⟨no,hnoe⟩:∃ no,no=ord.length:=⟨_,rfl⟩;rw [←hnoe] at hrow hno;have hno':(0:Int)<(no:Nat):=by omega
 have hrc:∃ rest,S1.rcl l ibf ord.reverse=[Value.string X,.int .i64 (b:Nat),.int .u32 (r:Nat),.map (some ib),.int .i64 (E:Nat)]++rest:=by
  refine ⟨S1.rcl l ibf ol,?_⟩;rw [hol]
  have:S1.rcl l ibf ((b,r) :: ol)=rcs (S1.psOf l b r) b r (ibf b r)++S1.rcl l ibf ol:=by simp [S1.rcl]
  rw [this,hpo,←hibe];unfold rcs;rw [HXS.out,←HE.out]
 obtain ⟨rest,hrest⟩:=hrc;rw [hrest] at hrow;clear hrest hol hlast hin hall hTo hpo hibe hne hnoe hone;rcases hrow.2 with ⟨_,h0⟩ | ⟨g,cap,cur,rfl,q1,q2,q3,q4,q5,q6⟩
 ·omega
 obtain ⟨c0,c1,c2,c3,c4⟩:w1.cell? ⟨g,0,none⟩=some (.string X)∧w1.cell? ⟨g,1,none⟩=some (.int .i64 (b:Nat))∧w1.cell? ⟨g,2,none⟩=some (.int .u32 (r:Nat))∧w1.cell? ⟨g,3,none⟩=some (.map (some ib))∧w1.cell? ⟨g,4,none⟩=some (.int .i64 (E:Nat)):=by
  have key:∀ k (hk:k<5),w1.cell? ⟨g,k,none⟩=[Value.string X,.int .i64 (b:Nat),.int .u32 (r:Nat),.map (some ib),.int .i64 (E:Nat)][k]? := fun k hk=>by
   have e:(cur.toList.take (no*5))[k]? = [Value.string X,.int .i64 (b:Nat),.int .u32 (r:Nat),.map (some ib),.int .i64 (E:Nat)][k]? := by
    rw [q6,List.getElem?_append_left (by simp;omega)]
   rw [cell_of_row w1 g k _ 78 (0,0) q2,←e,←Array.getElem?_toList,List.getElem?_take_of_lt (by omega)]
  exact ⟨key 0 (by omega),key 1 (by omega),key 2 (by omega),key 3 (by omega),key 4 (by omega)⟩
 obtain ⟨z1,hz1⟩:∃ z1,z1=w1.heap.size:=⟨_,rfl⟩;obtain ⟨W2,hW2⟩:∃ W2,W2=w1.alloc (.cells #[.string X,.int .i64 (b:Nat),.int .u32 (r:Nat),.map (some ib),.int .i64 (E:Nat)] 78):=⟨_,rfl⟩;have s2:W2.heap.size=z1+1:=by rw [hW2,hz1];simp
 have hr2:W2.heap[z1]? = some (.cells #[.string X,.int .i64 (b:Nat),.int .u32 (r:Nat),.map (some ib),.int .i64 (E:Nat)] 78 (0,0)):=by rw [hW2,hz1];exact heap_alloc_new _ _
 have b2:Below w1.heap.size w1 W2:=by rw [hW2];exact (Below.refl _ _).alloc (Nat.le_refl _) _
 have d0:W2.cell? ⟨z1,0,none⟩=some (.string X):=by rw [cell_of_row W2 z1 0 _ 78 (0,0) hr2];rfl
 have hb2:Below w.heap.size w W2:=hb1.trans (b2.mono hb1.size);have C:=hidI (qfz hP (txtF ps) W2 (Hml.out.below hb2 Hml.out.lt) hlen);rw [←HX.out] at C;have hBl2:S1.BlAt W2 ib n (inF ps):=hBl.of_block (b2.block ib hBl.lt);have hBlt:=hBl2.lt;have Hb2:=hidI hb2;have HBl2:=hidI hBl2;have HW2:=hidI hW2;have Hz1:=hidI hz1;have Hs2:=hidI s2;have Hr2:=hidI hr2;have hwz:w.heap.size≤z1:=by rw [hz1];exact hb1.size
 clear hrow hBl q1 q2 q3 q4 q5 q6 hb1 hz1 hW2 s2 b2 hr2 hb2 hBl2 A B;go_wp2;refine wp_loop_rounds 1 ?_;rw [rounds_succ];go_wp2_with (first | (rw [←HW2.out,←Hz1.out]) | fail);refine C.out.mono ?_;rintro e w3 ⟨hb3,⟨_,hno⟩ | ⟨tl',tb,hp',_,rfl,htb,hT⟩⟩
 ·have:=hno tl Hpar.out
  rw [Htr.out] at this;cases this
 have htt:tl'=tl:=by have:=Hpar.out;rw [hp'] at this;exact Option.some.inj this
 subst htt;have hb23:Below w.heap.size w w3:=Hb2.out.trans (hb3.mono Hb2.out.size);have D:=hidI (qiL w3 lo hi cb L m X b r E (some ib) (S1.MemX.below HC.out hsz hb23) (by have:=hb23.size;omega));have z2:W2.heap.size≤w3.heap.size:=hb3.size;rw [Hs2.out] at hb3 htb z2;have hr3:w3.heap[z1]? = some (.cells #[.string X,.int .i64 (b:Nat),.int .u32 (r:Nat),.map (some ib),.int .i64 (E:Nat)] 78 (0,0)):=(hb3.block z1 (by omega)).trans Hr2.out;have e0:w3.cell? ⟨z1,0,none⟩=some (.string X):=by rw [cell_of_row w3 z1 0 _ 78 (0,0) hr3];rfl
 have e1:w3.cell? ⟨z1,1,none⟩=some (.int .i64 (b:Nat)):=by rw [cell_of_row w3 z1 1 _ 78 (0,0) hr3];rfl
 have e2:w3.cell? ⟨z1,2,none⟩=some (.int .u32 (r:Nat)):=by rw [cell_of_row w3 z1 2 _ 78 (0,0) hr3];rfl
 have e3:w3.cell? ⟨z1,3,none⟩=some (.map (some ib)):=by rw [cell_of_row w3 z1 3 _ 78 (0,0) hr3];rfl
 have e4:w3.cell? ⟨z1,4,none⟩=some (.int .i64 (E:Nat)):=by rw [cell_of_row w3 z1 4 _ 78 (0,0) hr3];rfl
 have hBl3:S1.BlAt w3 ib n (inF ps):=HBl2.out.of_block (hb3.block ib (by have:=Hs2.out;omega));have HT:=hidI hT;have HBl3:=hidI hBl3;have Hb3:=hidI hb23;clear hb3 hp' hT hr3 hBl3 hb23 C d0 c0 c1 c2 c3 c4;go_wp2_with fail;refine D.out.mono ?_;rintro e w4 ⟨lb,rfl,hlb,hLg,hb4⟩;obtain ⟨W5,hW5⟩:∃ W5,W5=w4.alloc (.cells #[.pointer (some ⟨cb,0,none⟩),.pointer (some ⟨lb,0,none⟩),.map (some tb)] 68):=⟨_,rfl⟩;obtain ⟨fb,hfb⟩:∃ fb,fb=w4.heap.size:=⟨_,rfl⟩;have b5:Below w4.heap.size w4 W5:=by rw [hW5];exact (Below.refl _ _).alloc (Nat.le_refl _) _
 have hF5:FsAt W5 fb cb lb tb:=by rw [hW5,hfb];exact heap_alloc_new _ _
 have hT4:TreeAt w4 tb tl':=HT.out.below hb4 HT.out.lt;have HT5:Hid (TreeAt W5 tb tl'):=hidI (hT4.below b5 hT4.lt);have hBl4:=HBl3.out.of_block (w':=w4) (hb4.block ib HBl3.out.lt);have HBl5:Hid (S1.BlAt W5 ib n (inF ps)):=hidI (hBl4.of_block (b5.block ib hBl4.lt));have HL5:Hid (S1.LogAt W5 lb cb ⟨b,r,none⟩ (some ib) none E m.np):=hidI ((b5.block lb (lt_of_heap hLg)).trans hLg);have Hb5:Hid (Below w.heap.size w W5):=hidI ((Hb3.out.trans (hb4.mono Hb3.out.size)).trans (b5.mono (by have:=Hb3.out.size;have:=hb4.size;omega)));have HW5:=hidI hW5;have Hfb:=hidI hfb;have HF5:=hidI hF5;have hfw:w.heap.size≤fb:=by have:=Hb3.out.size;have:=hb4.size;omega
 have hlw:w.heap.size≤lb:=by have:=Hb3.out.size;omega
 have htw:w.heap.size≤tb:=by omega
 have hit:ib<tb:=by have:=Hs2.out;omega
 clear hT4 hBl4 hLg hb4 b5 hF5 hW5 hfb D e0 e1 e2 e3 e4;go_wp2_with (first | (rw [←HW5.out,←Hfb.out]) | fail);go_ret2
 exact ⟨fb,lb,tb,ib,n,rfl,HF5.out,HT5.out,HL5.out,hn,HBl5.out,hfw,hlw,htw,hib,hit,Hb5.out⟩
end Go.Proofs.YtodmdkhdbfbfgabGreatDoor
namespace Go.Proofs.YtodmdkhdbfbfgabGreatDoor.S1
open Go.RowKit Pk
open Go.Nt
theorem badN_congr {m m':M} (h1:m'.nb=m.nb) (h2:m'.bd=m.bd):badN m'=badN m:=by unfold badN;rw [h1,h2]
theorem qeA {ys:List Nat} (ha:Asc ys) {x:Nat} (hx:x∈ys):x≤ys.getLastD 0:=by
 obtain ⟨i,hi,rfl⟩:=List.mem_iff_getElem.1 hx;have hl:ys.length - 1<ys.length:=by omega
 rw [List.getLastD_eq_getLast?,List.getLast?_eq_getElem?,List.getElem?_eq_getElem hl];show ys[i]≤ys[ys.length - 1];by_cases h:i=ys.length - 1
 ·exact Nat.le_of_eq (by congr 1)
 exact List.pairwise_iff_getElem.1 ha i (ys.length - 1) hi hl (by omega)
theorem qcw (lo hi wd:Nat) (h1:hi<4294967296) (h2:hi - lo≤wd):∀ (l:List Nat) (i f a:Nat),Asc (a :: l)→(∀ y∈a :: l,lo≤y∧y≤hi)→scanG l i f wd a=f
 | [],_,_,_,_,_=>rfl
 | y :: l,i,f,a,ha,hb=>by
   have h3:=List.pairwise_cons.1 ha;have h4:=h3.1 y (by simp);have h5:=hb a (by simp);have h6:=hb y (by simp);have hg:gapN y a=y - a:=by unfold gapN;omega
   simp only [scanG];rw [if_neg (by rw [hg];omega)];exact qcw lo hi wd h1 h2 l (i+1) f y h3.2 (fun z hz=>hb z (by simp [hz]))
theorem qfN {ys:List Nat} (ha:Asc ys) (hb:∀ y∈ys,y<2147483648):firstG ys=0:=by
 cases ys with
 | nil=>rfl
 | cons y l =>
   unfold firstG;have hl:(y :: l).getLastD 0∈y :: l:=by
    rw [List.getLastD_eq_getLast?,List.getLast?_eq_some_getLast (by simp)];exact List.getLast_mem _
   obtain ⟨z,hz⟩:∃ z,z=(y :: l).getLastD 0:=⟨_,rfl⟩;rw [←hz] at hl ⊢;have hyl:∀ x∈y :: l,y≤x:=fun x hx=>by
    rcases List.mem_cons.1 hx with h | h
    ·omega
    exact (List.pairwise_cons.1 ha).1 x h
   have hlz:∀ x∈y :: l,x≤z:=fun x hx=>by
    rw [hz];exact qeA ha hx
   have h1:=hb y (by simp);have h2:=hb z hl;have h3:=hyl z hl;have hg:gapN y z=if y=z then 0 else 4294967296 - (z - y):=by unfold gapN;split<;>omega
   simp only [scanG]
   split
   ·rename_i hw;rw [hg] at hw ⊢
    split at hw
    ·omega
    rename_i hne;rw [if_neg hne];exact qcw y z _ (by omega) (by omega) l _ _ y ha (fun x hx=>⟨hyl x hx,hlz x hx⟩)
   rename_i hw;rw [hg] at hw
   split at hw
   ·rename_i he;exact qcw y z 0 (by omega) (by omega) l _ _ y ha (fun x hx=>⟨hyl x hx,hlz x hx⟩)
   omega
abbrev scn (m:M):List Fp:=scanF (pgs m) m.np m.nb
def Uniq (l:List Fp):Prop:=∀ f∈l,∀ g∈l,f.bad=g.bad→f.num=g.num→f.at_=g.at_→f=g
theorem Uniq.look {l:List Fp} (h:Uniq l) {f:Fp} (hf:f∈l):lookF l f.bad f.num f.at_=some f:=qbx hf (fun x hx h1 h2 h3=>h x hx f hf h1 h2 h3)
theorem qnB {m:M} {c n k i q:Nat} {t:List UInt8} (hb:c<256) (hn:n<4294967296) (ho:pagesN t.length<65536) (hk:k<pagesN t.length) (hi:i<m.nb) (hq:q<m.np) (e:m.pg i q=pageB (pgOf c n t k)):fpR c n t k i∈scn m:=by
 have hok:=qe9 (t:=t) hb hn hk ho;have h6:readP (pgs m i q)=some { pgOf c n t k with text:=(pgOf c n t k).text++List.replicate (51 - (pgOf c n t k).text.length) 0 }:=by
  unfold pgs;rw [e,qeP (Go.Nt.pageB_length _ hok.t)];exact qbp hok
 exact mem_scanF.2 ⟨i,q,_,hi,hq,h6,rfl⟩
theorem qgd {l l':List Fp} {x y:Nat} (hs:∀ f∈l',f.bad=x→f.num=y→f∈l) (hu:Uniq l) {k:Nat} {f:Fp} (h:lookF l' x y k=some f):lookF l x y k=some f:=by
 obtain ⟨h1,h2,h3,h4⟩:=qar h
 have:=hu.look (hs f h1 h2 h3)
 rw [h2,h3,h4] at this;exact this
theorem qcp {l l':List Fp} {x y o:Nat} (hs:∀ f∈l',f.bad=x→f.num=y→f∈l) (hu:Uniq l):∀ (k:Nat) (ps:List Fp),partF l' x y o k=some ps→partF l x y o k=some ps
 | 0,ps,h=>h
 | k+1,ps,h=>by
   unfold partF at h ⊢;cases h1:partF l' x y o k with
   | none=>rw [h1] at h;cases h
   | some qs =>
     rw [h1] at h;cases h2:lookF l' x y k with
     | none=>rw [h2] at h;cases h
     | some f =>
       rw [h2] at h;rw [qcp hs hu k qs h1,qgd hs hu h2];exact h
theorem qiO {l l':List Fp} {x y:Nat} (hs:∀ f∈l',f.bad=x→f.num=y→f∈l) (hu:Uniq l) (h:wholeF l' x y=true):wholeF l x y=true:=by
 unfold wholeF at h ⊢;rw [Bool.and_eq_true] at h ⊢;refine ⟨?_,?_⟩
 ·obtain ⟨f,hf,h1,h2⟩:=hasL_iff.1 h.1;exact hasL_iff.2 ⟨f,hs f hf h1 h2,h1,h2⟩
 have h2:=h.2;unfold recF at h2 ⊢;by_cases h0:ofF l' x y=0
 ·rw [if_pos h0] at h2;cases h2
 rw [if_neg h0] at h2;have he:ofF l x y=ofF l' x y:=by
  unfold ofF at h0 ⊢;cases h3:lookF l' x y 0 with
  | none=>rw [h3] at h0;exact absurd rfl h0
  | some f=>rw [qgd hs hu h3]
 rw [he,if_neg h0];cases h4:partF l' x y (ofF l' x y) (ofF l' x y) with
 | none=>rw [h4] at h2;cases h2
 | some ps=>rw [qcp hs hu _ ps h4];rfl
structure Cog (m:M) (c n:Nat) (K:Nat→Bool) (t:List UInt8):Prop where
 uniq:Uniq (scn m)
 here:∃ pos:Nat→Nat × Nat,∀ k,k<pagesN t.length→(pos k).1<m.nb∧(pos k).2<m.np∧(pos k).2<m.nx (pos k).1∧K (pos k).1=true∧m.pg (pos k).1 (pos k).2=pageB (pgOf c n t k)
 newest:∀ x y,wholeF (scn m) x y=true→x<c∨(x=c∧y≤n)
 bad:∀ f∈scn m,f.bad≤badN m
 lvb:c≤badN m
 pos:0<t.length
 few:pagesN t.length≤256
 num:n<2147483648
theorem Cog.c256 {m:M} {c n:Nat} {K:Nat→Bool} {t:List UInt8} (h:Cog m c n K t) (hw:WF m):c<256:=by
 have:=h.lvb;have:=badN_le m;have:=hw.nb2;omega
theorem Cog.look {m:M} {c n:Nat} {K:Nat→Bool} {t:List UInt8} (h:Cog m c n K t) (hw:WF m):∃ blk:Nat→Nat,∀ k,k<pagesN t.length→lookF (scn m) c n k=some (fpR c n t k (blk k)):=by
 obtain ⟨pos,hp⟩:=h.here;refine ⟨fun k=>(pos k).1,fun k hk => ?_⟩;obtain ⟨h1,h2,_,_,h5⟩:=hp k hk
 have:=h.num
 have:=h.few
 exact h.uniq.look (qnB (h.c256 hw) (by omega) (by omega) hk h1 h2 h5)
theorem Cog.whole {m:M} {c n:Nat} {K:Nat→Bool} {t:List UInt8} (h:Cog m c n K t) (hw:WF m):∃ ps z,recF (scn m) c n=some ps∧txtF ps=t++z∧wholeF (scn m) c n=true∧(txtF ps).length≤pagesN t.length*51:=by
 obtain ⟨blk,hb⟩:=h.look hw;have h1:=qd8 h.pos hb;obtain ⟨z,hz⟩:=qdW c n t blk;refine ⟨_,z,h1,hz,?_,?_⟩
 ·have hpn:0<pagesN t.length:=by have:=h.pos;unfold pagesN;omega
  have h2:=qar (hb 0 hpn);unfold wholeF;rw [h1,hasL_iff.2 ⟨_,h2.1,h2.2.1,h2.2.2.1⟩];rfl
 have key:∀ k,(txtF ((List.range k).map fun j=>fpR c n t j (blk j))).length≤k*51:=fun k=>by
  induction k with
  | zero=>simp [txtF]
  | succ k ih =>
    rw [List.range_succ,List.map_append,List.map_singleton,qck,List.length_append]
    have:(fpR c n t k (blk k)).text.length≤51:=by unfold fpR;simp;omega
    omega
 exact key _
theorem qcL {p q:Nat→Bool} (h:∀ i,p i=true→q i=true):∀ l:List Nat,l.countP p≤l.countP q
 | []=>Nat.le_refl _
 | a :: l=>by
   have ih:=qcL h l;rw [List.countP_cons,List.countP_cons];by_cases hp:p a=true
   ·rw [if_pos hp,if_pos (h a hp)];omega
   rw [if_neg hp];omega
theorem LayI.badN_le {m0:M} {K:Nat→Bool} {xs:List (List UInt8)} {m:M} {S:Nat→Bool} {ps:List (Nat × Nat)} {left:List (List UInt8)} (h:LayI m0 K xs m S ps left):badN m0≤badN m:=by
 unfold badN;rw [h.nb];exact qcL h.bad _
theorem qe2 {m m':M} {K:Nat→Bool} {cn nn:Nat} {t:List UInt8} {S:Nat→Bool} {ps:List (Nat × Nat)} {left:List (List UInt8)} (h:LayI m K (splitR cn nn t) m' S ps left) (hb:cn<256) (hn:nn<4294967296) (ho:pagesN t.length<65536) (hu:Uniq (scn m)) (hf:hasL (scn m) cn nn=false):Uniq (scn m'):=by
 intro f hf1 g hg1 e1 e2 e3;have no:∀ f∈scn m,¬(f.bad=cn∧f.num=nn):=fun f hf' ⟨a,b⟩=>by
  have:=hasL_iff.2 ⟨f,hf',a,b⟩
  rw [hf] at this;cases this
 rcases h.found hb hn ho hf1 with ⟨k,i,q,a1,a2,rfl⟩ | a1
 ·rcases h.found hb hn ho hg1 with ⟨k',i',q',b1,b2,rfl⟩ | b1
  ·have:k=k':=e3
   subst this;rw [a1] at b1;cases b1;rfl
  exact absurd ⟨e1.symm,e2.symm⟩ (no g b1)
 rcases h.found hb hn ho hg1 with ⟨k',i',q',b1,b2,rfl⟩ | b1
 ·exact absurd ⟨e1,e2⟩ (no f a1)
 exact hu f a1 g b1 e1 e2 e3
theorem qmT {m m':M} {K:Nat→Bool} {cn nn:Nat} {t:List UInt8} {S:Nat→Bool} {ps:List (Nat × Nat)} {left:List (List UInt8)} (h:LayI m K (splitR cn nn t) m' S ps left) (hb:cn<256) (hn:nn<4294967296) (ho:pagesN t.length<65536) (hf:hasL (scn m) cn nn=false) (hl:left≠[]):wholeF (scn m') cn nn=false:=by
 have hnew:∀ f∈scn m',f.bad=cn→f.num=nn→∃ k i q,ps[k]? = some (i,q)∧k<pagesN t.length∧f=fpR cn nn t k i:=fun f hf1 a b=>by
  rcases h.found hb hn ho hf1 with h1 | h1
  ·exact h1
  have:=hasL_iff.2 ⟨f,h1,a,b⟩
  rw [hf] at this;cases this
 have hpl:ps.length<pagesN t.length:=by
  have h2:=congrArg List.length h.part;rw [List.length_drop,splitR_length] at h2;have h3:0<left.length:=List.length_pos_iff.2 hl;omega
 have hno:lookF (scn m') cn nn ps.length=none:=lookF_none.2 (fun f hf1 ⟨a,b,c⟩=>by
  obtain ⟨k,i,q,h1,h2,rfl⟩:=hnew f hf1 a b
  have:k=ps.length:=c
  rw [this,List.getElem?_eq_none (Nat.le_refl _)] at h1;cases h1)
 unfold wholeF;rw [Bool.and_eq_false_iff]
 right
 unfold recF;by_cases h0:ofF (scn m') cn nn=0
 ·rw [if_pos h0];rfl
 rw [if_neg h0];have ho':ofF (scn m') cn nn=pagesN t.length:=by
  unfold ofF at h0 ⊢;cases h1:lookF (scn m') cn nn 0 with
  | none=>rw [h1] at h0;exact absurd rfl h0
  | some f =>
    obtain ⟨a1,a2,a3,_⟩:=qar h1;obtain ⟨k,i,q,_,_,rfl⟩:=hnew f a1 a2 a3;rfl
 rw [ho']
 have:partF (scn m') cn nn (pagesN t.length) (ps.length+1)=none:=by
  unfold partF;rw [hno];cases partF (scn m') cn nn (pagesN t.length) ps.length<;>rfl
 rw [qcx (by omega) this];rfl
theorem qfG {m m':M} {K:Nat→Bool} {cn nn:Nat} {t:List UInt8} {S:Nat→Bool} {ps:List (Nat × Nat)} {left:List (List UInt8)} (h:LayI m K (splitR cn nn t) m' S ps left) (hb:cn<256) (hn:nn<4294967296) (ho:pagesN t.length<65536) (hu:Uniq (scn m)) {x y:Nat} (hne:¬(x=cn∧y=nn)) (hw:wholeF (scn m') x y=true):wholeF (scn m) x y=true:=
 qiO (fun f hf1 a b=>by
  rcases h.found hb hn ho hf1 with ⟨k,i,q,_,_,rfl⟩ | h1
  ·exact absurd ⟨a.symm,b.symm⟩ hne
  exact h1) hu hw
theorem lay_bad {m m':M} {K:Nat→Bool} {nn:Nat} {t:List UInt8} {S:Nat→Bool} {ps:List (Nat × Nat)} {left:List (List UInt8)} (h:LayI m K (splitR (badN m) nn t) m' S ps left) (hb:badN m<256) (hn:nn<4294967296) (ho:pagesN t.length<65536) (hbad:∀ f∈scn m,f.bad≤badN m):∀ f∈scn m',f.bad≤badN m:=fun f hf1=>by
 rcases h.found hb hn ho hf1 with ⟨k,i,q,_,_,rfl⟩ | h1
 ·exact Nat.le_refl _
 exact hbad f h1
theorem Cog.no {m m':M} {c n nn:Nat} {K S:Nat→Bool} {t t':List UInt8} {ps:List (Nat × Nat)} {left:List (List UInt8)} (h:Cog m c n K t) (hw:WF m) (hI:LayI m K (splitR (badN m) nn t') m' S ps left) (hn:nn<4294967296) (ho:pagesN t'.length<65536) (hf:hasL (scn m) (badN m) nn=false) (hl:left≠[]):Cog m' c n K t:=by
 have hb:badN m<256:=by have:=badN_le m;have:=hw.nb2;omega
 refine ⟨qe2 hI hb hn ho h.uniq hf,?_,fun x y hx => ?_,fun f hf1=>Nat.le_trans (lay_bad hI hb hn ho h.bad f hf1) hI.badN_le,Nat.le_trans h.lvb hI.badN_le,h.pos,h.few,h.num⟩
 ·obtain ⟨pos,hp⟩:=h.here;refine ⟨pos,fun k hk => ?_⟩;obtain ⟨h1,h2,h3,h4,h5⟩:=hp k hk;exact ⟨by rw [hI.nb];exact h1,by rw [hI.np];exact h2,Nat.lt_of_lt_of_le h3 (hI.keptN _ h4),h4,by rw [hI.kept _ _ h4 h3];exact h5⟩
 by_cases e:x=badN m∧y=nn
 ·obtain ⟨rfl,rfl⟩:=e;rw [qmT hI hb hn ho hf hl] at hx;cases hx
 exact h.newest x y (qfG hI hb hn ho h.uniq e hx)
theorem Cog.yes {m m':M} {c n nn:Nat} {K S:Nat→Bool} {t t':List UInt8} {ps:List (Nat × Nat)} (h:Cog m c n K t) (hw:WF m) (hI:LayI m K (splitR (badN m) nn t') m' S ps []) (hn:nn<2147483648) (ho:pagesN t'.length≤256) (ht:0<t'.length) (hf:hasL (scn m) (badN m) nn=false) (hnn:n≤nn):Cog m' (badN m) nn S t':=by
 have hb:badN m<256:=by have:=badN_le m;have:=hw.nb2;omega
 have hpl:ps.length=pagesN t'.length:=by
  have h2:=congrArg List.length hI.part;rw [List.length_drop,splitR_length] at h2;have h3:=hI.le;rw [splitR_length] at h3;simp at h2;omega
 refine ⟨qe2 hI hb (by omega) (by omega) h.uniq hf,⟨fun k=>ps.getD k (0,0),fun k hk => ?_⟩,fun x y hx => ?_,fun f hf1=>Nat.le_trans (lay_bad hI hb (by omega) (by omega) h.bad f hf1) hI.badN_le,hI.badN_le,ht,ho,hn⟩
 ·obtain ⟨x,hx⟩:∃ x,ps[k]? = some x:=⟨_,List.getElem?_eq_getElem (by omega)⟩;obtain ⟨i,q⟩:=x;have e:ps.getD k (0,0)=(i,q):=by rw [List.getD_eq_getElem?_getD,hx];rfl
  dsimp only;rw [e];obtain ⟨a1,a2,a3,a4,a5⟩:=hI.posn k i q hx;refine ⟨a1,a2,a3,a5,?_⟩;unfold splitR at a4;rw [List.getElem?_map,List.getElem?_range hk] at a4;simpa using a4.symm
 by_cases e:x=badN m∧y=nn
 ·exact .inr ⟨e.1,by omega⟩
 have:=h.lvb
 rcases h.newest x y (qfG hI hb (by omega) (by omega) h.uniq e hx) with h1 | ⟨h1,h2⟩
 ·exact .inl (by omega)
 by_cases hc:c=badN m
 ·exact .inr ⟨by omega,by omega⟩
 exact .inl (by omega)
theorem Cog.last {m:M} {c n:Nat} {K:Nat→Bool} {t:List UInt8} (h:Cog m c n K t) (hw:WF m):Newest (scn m) c n:=by
 intro ord hT hne;obtain ⟨ls,ks,rs,h1,h2,h3,h4,h5,h6,rfl⟩:=hT;obtain ⟨ps,z,hrec,_,hwh,_⟩:=h.whole hw;have hnum:=h.num;have hc:=h.c256 hw;have hin:(c,n)∈ls:=(h2 _).2 ⟨by omega,by omega,hwh⟩;have hlab:∀ x∈ls,x.1<c∨(x.1=c∧x.2≤n):=fun x hx=>h.newest x.1 x.2 ((h2 x).1 hx).2.2
 have hnn:n∈numsOf ls c:=List.mem_map.2 ⟨(c,n),List.mem_filter.2 ⟨hin,by simp⟩,rfl⟩;have hbk:c∈ks:=(h5 _).2 (fun e=>by rw [e] at hnn;cases hnn);have hle:∀ b∈ks,b≤c:=fun b hb=>by
  obtain ⟨x,hx⟩:=List.exists_mem_of_ne_nil _ ((h5 b).1 hb);unfold numsOf at hx;obtain ⟨y,hy,rfl⟩:=List.mem_map.1 hx;have h7:=List.mem_filter.1 hy;have e:y.1=b:=by simpa using h7.2
  have:=hlab y h7.1
  omega
 have hkl:ks.getLast? = some c:=by
  have hkne:ks≠[]:=fun e=>by rw [e] at hbk;cases hbk
  rw [List.getLast?_eq_some_getLast hkne];have h8:=qeA h3 hbk;rw [List.getLastD_eq_getLast?,List.getLast?_eq_some_getLast hkne] at h8;have h9:=hle _ (List.getLast_mem hkne)
  have:ks.getLast hkne=c:=by simp at h8;omega
  rw [this]
 obtain ⟨ks',hks⟩:∃ ks',ks=ks'++[c]:=by
  have hkne:ks≠[]:=fun e=>by rw [e] at hbk;cases hbk
  refine ⟨ks.dropLast,?_⟩;rw [List.getLast?_eq_some_getLast hkne] at hkl
  have:=(List.dropLast_concat_getLast hkne).symm
  rw [Option.some.inj hkl] at this;exact this
 obtain ⟨ys,hp,ha,hr⟩:=h6 c hbk;have hley:∀ y∈ys,y≤n:=fun y hy=>by
  have:=hp.mem_iff.1 hy
  unfold numsOf at this;obtain ⟨x,hx,rfl⟩:=List.mem_map.1 this;have h7:=List.mem_filter.1 hx;have e:x.1=c:=by simpa using h7.2
  have:=hlab x h7.1
  omega
 rw [qfN ha (fun y hy=>by have:=hley y hy;omega)] at hr;simp only [List.drop_zero,List.take_zero,List.append_nil] at hr;have hny:=hp.mem_iff.2 hnn;have hyne:ys≠[]:=fun e=>by rw [e] at hny;cases hny
 have hlast:ys.getLast? = some n:=by
  rw [List.getLast?_eq_some_getLast hyne];have h8:=qeA ha hny;rw [List.getLastD_eq_getLast?,List.getLast?_eq_some_getLast hyne] at h8;have h9:=hley _ (List.getLast_mem hyne)
  have:ys.getLast hyne=n:=by simp at h8;omega
  rw [this]
 rw [hks,List.flatMap_append];simp only [List.flatMap_cons,List.flatMap_nil,List.append_nil];rw [hr];unfold lbOf;rw [List.getLast?_append,List.getLast?_map,hlast];rfl
end Go.Proofs.YtodmdkhdbfbfgabGreatDoor.S1
namespace Go.Proofs.YtodmdkhdbfbfgabGreatDoor
open Go.RowKit Go.Nt
theorem qhS {l:List It} (hn:(l.map (·.path)).Nodup) {x:It}:x∈l↔at? l x.path=some x:=by
 constructor
 ·intro hx;cases h:at? l x.path with
  | none=>exact absurd rfl (at_none.1 h x hx)
  | some y =>
    obtain ⟨hy,e⟩:=qau h;obtain ⟨i,hi,rfl⟩:=List.mem_iff_getElem.1 hx;obtain ⟨j,hj,rfl⟩:=List.mem_iff_getElem.1 hy
    have:=(List.pairwise_iff_getElem.1 hn)
    by_cases hij:i=j
    ·subst hij;rfl
    exfalso
    rcases Nat.lt_or_gt_of_ne hij with h1 | h1
    ·exact this i j (by simpa using hi) (by simpa using hj) h1 (by simpa using e.symm)
    exact this j i (by simpa using hj) (by simpa using hi) h1 (by simpa using e)
 exact fun h=>(qau h).1
theorem qeq {l l':List It} (h:(l.map (·.path)).Nodup) (hp:l'.Perm l):qac l'=qac l:=by
 have hs:∀ l:List It,(qac l).Pairwise (fun x y=>(!less y.path x.path)=true):=fun l=>by
  unfold qac;exact List.pairwise_mergeSort (le:=fun x y:It => !less y.path x.path) (fun a b c h1 h2=>by
   simp only [Bool.not_eq_true'] at h1 h2 ⊢;cases h3:less c.path a.path with
   | false=>rfl
   | true =>
     cases h4:less a.path b.path with
     | true=>rw [qa0 _ _ _ h3 h4] at h2;cases h2
     | false=>rw [qaS _ _ h4 h1] at h3;rw [h3] at h2;cases h2) (fun a b=>by
   cases h1:less b.path a.path with
   | false=>simp
   | true=>rw [qd9 h1];simp) l
 refine List.Perm.eq_of_pairwise (le:=fun x y=>(!less y.path x.path)=true) (fun a b ha hb h1 h2 => ?_) (hs l') (hs l) (((qaq l').trans hp).trans (qaq l).symm);simp only [Bool.not_eq_true'] at h1 h2;have e:=qaS _ _ h2 h1;have ha':a∈l:=hp.mem_iff.1 (order_mem.1 ha);have hb':b∈l:=order_mem.1 hb;have x1:=(qhS h).1 ha';have x2:=(qhS h).1 hb';rw [e,x2] at x1;exact (Option.some.inj x1).symm
theorem qgV {l l':List It} (h:TreeP l) (h':TreeP l') (he:∀ q,at? l' q=at? l q):qac l'=qac l:=by
 refine qeq h.nodup ((List.perm_ext_iff_of_nodup ?_ ?_).2 (fun x=>by rw [qhS h'.nodup,qhS h.nodup,he]))
 ·exact List.Pairwise.of_map (·.path) (fun a b hne e=>hne (by rw [e])) h'.nodup
 exact List.Pairwise.of_map (·.path) (fun a b hne e=>hne (by rw [e])) h.nodup
theorem qdE {l:List It} (h:TreeP l):qac (qac l)=qac l:=qeq h.nodup (qaq l)
theorem qjM {w:World} {g n n':Nat} {S S':Nat→Nat→Bool} (h:S1.LbAt w g n S) (h':S1.LbAt w g n' S') {b r:Nat} (hb:b≤1000000) (hr:r≤4294967295):S b r=S' b r:=by
 have h1:=h.look hb hr;rw [h'.look hb hr] at h1;simpa using h1.symm
end Go.Proofs.YtodmdkhdbfbfgabGreatDoor
