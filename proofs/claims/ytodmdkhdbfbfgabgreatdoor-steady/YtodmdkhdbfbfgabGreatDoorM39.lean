/- Lemmas. -/
import Derived.Laws.OwnMore
import Derived.Test.YtodmdkhdbfbfgabGreatDoorM38
set_option linter.unusedVariables false
set_option linter.unusedSimpArgs false
set_option maxRecDepth 100000
set_option maxHeartbeats 8000000
namespace Go.Proofs.YtodmdkhdbfbfgabGreatDoor
open Go.RowKit Go.Nt
open S1 (rcs)
def Newest (l:List Fp) (b r:Nat):Prop:=∀ ord,S1.TurnOf l ord→ord≠[]→ord.getLast? = some (b,r)
theorem mountU (w:World) (lo hi cb:Nat) (L:S1.Loc) (m:S1.M) (hw:S1.WF m) (h:S1.CP w lo hi cb L m) (hsz:hi≤w.heap.size) (hlf:m.life≠0) (l:List Fp) (hl:scanF (S1.pgs m) m.np m.nb=l) (b r:Nat) (hb:b≤1000000) (hr:r≤4294967295) (hwh:S1.wholeF l b r=true) (hnew:Newest l b r) (ps:List Fp) (hps:recF l b r=some ps) (hok:∀ f∈l,FpOk f∧f.blk<1000)
 (hml:ML w) {u:Bs→Option Bs} (hP:PackC u) (tl:List It) (hpar:parse u (txtF ps)=some tl) (htr:isTree tl=true) (hlen:(txtF ps).length≤1000000) :
 Calls Tryz.prog 16 #[.pointer (some ⟨cb,0,none⟩)] w fun e w'=>MountP ps b r m.np cb tl w e w':=by
 have A:=hidI (S1.dead_any w lo hi cb L m h);have hlb:(m.life==0)=false:=by simp [hlf]
 rw [hlb] at A;have B:=hidI ((callsIn_wide (n:=20)).1 (S1.recordsU w lo hi cb L m hw h hsz hlf l hl b r hb hr hwh hok));have HC:=hidI h;have Hml:=hidI hml;have Hpar:=hidI hpar;have Htr:=hidI htr;obtain ⟨X,hX⟩:∃ X,X=txt (txtF ps):=⟨_,rfl⟩;obtain ⟨E,hE⟩:∃ E,E=endF ps:=⟨_,rfl⟩;have HX:=hidI hX;have HXS:Hid (S1.txt (txtF ps)=X):=hidI (by rw [hX];rfl);have HE:=hidI hE;have Hnew:=hidI hnew;have Hps:=hidI hps;unfold MountP;rw [←hE];clear h hml hpar htr hlb hnew hps hok hl hX hE hwh;go_enter Tryz.func16,Tryz.ntmps16
 go_wp2_with fail;refine A.out.mono ?_;rintro e w' ⟨rfl,hw'⟩;have hw2:=hw'.symm;subst hw2;go_wp2_with fail;refine B.out.mono ?_;rintro e w1 ⟨v,ord,ibf,nbf,rfl,hTo,hone,hrow,hall,hb1⟩;have hlast:=Hnew.out ord hTo hone;obtain ⟨ol,hol⟩:∃ ol,ord.reverse=(b,r) :: ol:=by
  rw [List.getLast?_eq_head?_reverse] at hlast;cases hr:ord.reverse with
  | nil=>rw [hr] at hlast;cases hlast
  | cons a t=>rw [hr] at hlast;simp at hlast;exact ⟨t,by rw [hlast]⟩
 have hin:(b,r)∈ord:=List.mem_reverse.1 (by rw [hol];simp);obtain ⟨-,hib,hn,hBl⟩:=hall (b,r) hin;have hpo:S1.psOf l b r=ps:=by unfold S1.psOf;rw [Hps.out];rfl
 dsimp only at hib hn hBl;obtain ⟨ib,hibe⟩:∃ ib,ib=ibf b r:=⟨_,rfl⟩;obtain ⟨n,hne⟩:∃ n,n=nbf b r:=⟨_,rfl⟩;rw [hpo] at hBl;rw [←hibe] at hib hBl;rw [←hne] at hn hBl;have hno:0<ord.length:=List.length_pos_iff.2 hone;obtain ⟨no,hnoe⟩:∃ no,no=ord.length:=⟨_,rfl⟩;rw [←hnoe] at hrow hno;have hno':(0:Int)<(no:Nat):=by omega
 have hrc:∃ rest,S1.rcl l ibf ord.reverse=[Value.string X,.int .i64 (b:Nat),.int .u32 (r:Nat),.map (some ib),.int .i64 (E:Nat)]++rest:=by
  refine ⟨S1.rcl l ibf ol,?_⟩;rw [hol]
  have:S1.rcl l ibf ((b,r) :: ol)=rcs (S1.psOf l b r) b r (ibf b r)++S1.rcl l ibf ol:=by simp [S1.rcl]
  rw [this,hpo,←hibe];unfold rcs;rw [HXS.out,←HE.out]
 obtain ⟨rest,hrest⟩:=hrc;rw [hrest] at hrow;clear hrest hol hlast hin hall hTo hpo hibe hne hnoe hone;rcases hrow.2 with ⟨_,h0⟩ | ⟨g,cap,cur,rfl,q1,q2,q3,q4,q5,q6⟩
 ·omega
 obtain ⟨c0,c1,c2,c3,c4⟩:w1.cell? ⟨g,0,none⟩=some (.string X)∧w1.cell? ⟨g,1,none⟩=some (.int .i64 (b:Nat))∧w1.cell? ⟨g,2,none⟩=some (.int .u32 (r:Nat))∧w1.cell? ⟨g,3,none⟩=some (.map (some ib))∧w1.cell? ⟨g,4,none⟩=some (.int .i64 (E:Nat)):=by
  have key:∀ k (hk:k<5),w1.cell? ⟨g,k,none⟩=[Value.string X,.int .i64 (b:Nat),.int .u32 (r:Nat),.map (some ib),.int .i64 (E:Nat)][k]? := fun k hk=>by
   have e:(cur.toList.take (no*5))[k]? = [Value.string X,.int .i64 (b:Nat),.int .u32 (r:Nat),.map (some ib),.int .i64 (E:Nat)][k]? := by
    rw [q6,List.getElem?_append_left (by simp;omega)]
   rw [cell_of_row w1 g k _ 78 (0,0) q2,←e,←Array.getElem?_toList,List.getElem?_take_of_lt (by omega)]
  exact ⟨key 0 (by omega),key 1 (by omega),key 2 (by omega),key 3 (by omega),key 4 (by omega)⟩
 obtain ⟨z1,hz1⟩:∃ z1,z1=w1.heap.size:=⟨_,rfl⟩;obtain ⟨W2,hW2⟩:∃ W2,W2=w1.alloc (.cells #[.string X,.int .i64 (b:Nat),.int .u32 (r:Nat),.map (some ib),.int .i64 (E:Nat)] 78):=⟨_,rfl⟩;have s2:W2.heap.size=z1+1:=by rw [hW2,hz1];simp
 have hr2:W2.heap[z1]? = some (.cells #[.string X,.int .i64 (b:Nat),.int .u32 (r:Nat),.map (some ib),.int .i64 (E:Nat)] 78 (0,0)):=by rw [hW2,hz1];exact heap_alloc_new _ _
 have b2:Below w1.heap.size w1 W2:=by rw [hW2];exact (Below.refl _ _).alloc (Nat.le_refl _) _
 have d0:W2.cell? ⟨z1,0,none⟩=some (.string X):=by rw [cell_of_row W2 z1 0 _ 78 (0,0) hr2];rfl
 have hb2:Below w.heap.size w W2:=hb1.trans (b2.mono hb1.size);have C:=hidI (qe7 hP (txtF ps) W2 (Hml.out.below hb2 Hml.out.lt) hlen);rw [←HX.out] at C;have hBl2:S1.BlAt W2 ib n (inF ps):=hBl.of_block (b2.block ib hBl.lt);have hBlt:=hBl2.lt;have Hb2:=hidI hb2;have HBl2:=hidI hBl2;have HW2:=hidI hW2;have Hz1:=hidI hz1;have Hs2:=hidI s2;have Hr2:=hidI hr2;have hwz:w.heap.size≤z1:=by rw [hz1];exact hb1.size
 clear hrow hBl q1 q2 q3 q4 q5 q6 hb1 hz1 hW2 s2 b2 hr2 hb2 hBl2 A B;go_wp2;refine wp_loop_rounds 1 ?_;rw [rounds_succ];go_wp2_with (first | (rw [←HW2.out,←Hz1.out]) | fail);refine C.out.mono ?_;rintro e w3 ⟨hb3,⟨_,hno⟩ | ⟨tl',tb,hp',_,rfl,htb,hT⟩⟩
 ·have:=hno tl Hpar.out
  rw [Htr.out] at this;cases this
 have htt:tl'=tl:=by have:=Hpar.out;rw [hp'] at this;exact Option.some.inj this
 subst htt;have hb23:Below w.heap.size w w3:=Hb2.out.trans (hb3.mono Hb2.out.size);have D:=hidI (qil w3 lo hi cb L m X b r E (some ib) (S1.MemX.below HC.out hsz hb23) (by have:=hb23.size;omega));have z2:W2.heap.size≤w3.heap.size:=hb3.size;rw [Hs2.out] at hb3 htb z2;have hr3:w3.heap[z1]? = some (.cells #[.string X,.int .i64 (b:Nat),.int .u32 (r:Nat),.map (some ib),.int .i64 (E:Nat)] 78 (0,0)):=(hb3.block z1 (by omega)).trans Hr2.out;have e0:w3.cell? ⟨z1,0,none⟩=some (.string X):=by rw [cell_of_row w3 z1 0 _ 78 (0,0) hr3];rfl
 have e1:w3.cell? ⟨z1,1,none⟩=some (.int .i64 (b:Nat)):=by rw [cell_of_row w3 z1 1 _ 78 (0,0) hr3];rfl
 have e2:w3.cell? ⟨z1,2,none⟩=some (.int .u32 (r:Nat)):=by rw [cell_of_row w3 z1 2 _ 78 (0,0) hr3];rfl
 have e3:w3.cell? ⟨z1,3,none⟩=some (.map (some ib)):=by rw [cell_of_row w3 z1 3 _ 78 (0,0) hr3];rfl
 have e4:w3.cell? ⟨z1,4,none⟩=some (.int .i64 (E:Nat)):=by rw [cell_of_row w3 z1 4 _ 78 (0,0) hr3];rfl
 have hBl3:S1.BlAt w3 ib n (inF ps):=HBl2.out.of_block (hb3.block ib (by have:=Hs2.out;omega));have HT:=hidI hT;have HBl3:=hidI hBl3;have Hb3:=hidI hb23;clear hb3 hp' hT hr3 hBl3 hb23 C d0 c0 c1 c2 c3 c4;go_wp2_with fail;refine D.out.mono ?_;rintro e w4 ⟨lb,rfl,hlb,hLg,hb4⟩;obtain ⟨W5,hW5⟩:∃ W5,W5=w4.alloc (.cells #[.pointer (some ⟨cb,0,none⟩),.pointer (some ⟨lb,0,none⟩),.map (some tb)] 68):=⟨_,rfl⟩;obtain ⟨fb,hfb⟩:∃ fb,fb=w4.heap.size:=⟨_,rfl⟩;have b5:Below w4.heap.size w4 W5:=by rw [hW5];exact (Below.refl _ _).alloc (Nat.le_refl _) _
 have hF5:FsAt W5 fb cb lb tb:=by rw [hW5,hfb];exact heap_alloc_new _ _
 have hT4:TreeAt w4 tb tl':=HT.out.below hb4 HT.out.lt;have HT5:Hid (TreeAt W5 tb tl'):=hidI (hT4.below b5 hT4.lt);have hBl4:=HBl3.out.of_block (w':=w4) (hb4.block ib HBl3.out.lt);have HBl5:Hid (S1.BlAt W5 ib n (inF ps)):=hidI (hBl4.of_block (b5.block ib hBl4.lt));have HL5:Hid (S1.LogAt W5 lb cb ⟨b,r,none⟩ (some ib) none E m.np):=hidI ((b5.block lb (qaa hLg)).trans hLg);have Hb5:Hid (Below w.heap.size w W5):=hidI ((Hb3.out.trans (hb4.mono Hb3.out.size)).trans (b5.mono (by have:=Hb3.out.size;have:=hb4.size;omega)));have HW5:=hidI hW5;have Hfb:=hidI hfb;have HF5:=hidI hF5;have hfw:w.heap.size≤fb:=by have:=Hb3.out.size;have:=hb4.size;omega
 have hlw:w.heap.size≤lb:=by have:=Hb3.out.size;omega
 have htw:w.heap.size≤tb:=by omega
 have hit:ib<tb:=by have:=Hs2.out;omega
 clear hT4 hBl4 hLg hb4 b5 hF5 hW5 hfb D e0 e1 e2 e3 e4;go_wp2_with (first | (rw [←HW5.out,←Hfb.out]) | fail);go_ret2
 exact ⟨fb,lb,tb,ib,n,rfl,HF5.out,HT5.out,HL5.out,hn,HBl5.out,hfw,hlw,htw,hib,hit,Hb5.out⟩
end Go.Proofs.YtodmdkhdbfbfgabGreatDoor
namespace Go.Proofs.YtodmdkhdbfbfgabGreatDoor.S1
open Go.RowKit Pk
open Go.Nt
theorem Snd.layI {m:M} {K Q:Nat→Bool} {b p:Nat} (h:Snd m K Q b p) {xs:List (List UInt8)} (hx:∀ x∈xs,x.length=64):∃ ps,LayI m K xs (layF K ⟨xs,m,Q,b,p,fun _=>false⟩).m (layF K ⟨xs,m,Q,b,p,fun _=>false⟩).S ps (layF K ⟨xs,m,Q,b,p,fun _=>false⟩).left:=by
 have hS:=LayI.start h.wf K xs;unfold layF lay0;by_cases hfit:xs.length+p≤m.np
 ·rw [if_pos (show (LS.mk xs m Q b p fun _=>false).left.length+(LS.mk xs m Q b p fun _=>false).p≤m.np from hfit)];obtain ⟨ps,hI,_⟩:=LayI.progL b xs m p _ [] hS;have hnf:=qcj b xs m p (fun _=>false) h.wf h.fail h.rdy hx;have hlife:=qbb b xs m p (fun _=>false) h.wf h.life;have hleft:(progL b xs m p fun _=>false).1=[]:=by
   rcases hnf.2.2 with h1 | h1
   ·rw [hlife] at h1;cases h1
   ·exact List.length_eq_zero_iff.1 (by have:=h.p;omega)
  rw [qbi K (.inl hleft)];exact ⟨ps,hI⟩
 ·rw [if_neg (show ¬(LS.mk xs m Q b p fun _=>false).left.length+(LS.mk xs m Q b p fun _=>false).p≤m.np from hfit)];have hV:LayV m K xs b 0 ⟨xs,m,Q,b,p,fun _=>false⟩ []:=⟨hS,by show b=(b+0)%m.nb;rw [Nat.add_zero,Nat.mod_eq_of_lt h.b],fun i hi=>(by cases hi),h.p⟩;obtain ⟨v,ps,_,hL⟩:=LayV.rounds h.b m.nb 0 _ [] hV (by omega);exact ⟨ps,hL.lay⟩
theorem badN_congr {m m':M} (h1:m'.nb=m.nb) (h2:m'.bd=m.bd):badN m'=badN m:=by unfold badN;rw [h1,h2]
structure Con (m:M) (n:Nat) (t:List UInt8):Prop where
 old:∀ f∈scanF (pgs m) m.np m.nb,f.bad=badN m∧f.num≤n
 here:∃ blk:Nat→Nat,∀ k,k<pagesN t.length→lookF (scanF (pgs m) m.np m.nb) (badN m) n k=some (fpR (badN m) n t k (blk k))
 pos:0<t.length
theorem Con.step {m:M} {n:Nat} {t t':List UInt8} {K Q:Nat→Bool} {b p:Nat} (h:Con m n t) (hs:Snd m K Q b p) (ht:0<t'.length) (hr:pagesN t'.length≤roomP m) (hn:n+1<4294967296) :
 Con (layF K ⟨splitR (badN m) (n+1) t',m,Q,b,p,fun _=>false⟩).m (n+1) t':=by
 have hlen:=split_len (badN m) (n+1) t';have hpn:0<pagesN t'.length:=by unfold pagesN;omega
 obtain ⟨ps,hI⟩:=hs.layI hlen;obtain ⟨hall,hSn,hnb,hnp,hbd⟩:=hs.lay hlen (by rw [splitR_length];exact hpn) (by rw [splitR_length];exact hr) _ rfl;obtain ⟨s,hse⟩:∃ s,s=layF K ⟨splitR (badN m) (n+1) t',m,Q,b,p,fun _=>false⟩:=⟨_,rfl⟩;rw [←hse] at hI hall hSn hnb hnp hbd ⊢;have hbad:badN s.m=badN m:=badN_congr hnb hbd;have hb256:badN m<256:=by have:=badN_le m;have:=hs.wf.nb2;omega
 have ho:pagesN t'.length<65536:=by have:=roomP_le hs.wf;omega
 rw [hall] at hI;have hpl:ps.length=pagesN t'.length:=by
  have h2:=congrArg List.length hI.part;rw [List.length_drop,splitR_length] at h2;have h3:=hI.le;rw [splitR_length] at h3;simp at h2;omega
 refine ⟨fun f hf => ?_,⟨fun k=>(ps.getD k (0,0)).1,fun k hk => ?_⟩,ht⟩
 ·rw [hbad];rcases hI.found hb256 hn ho hf with ⟨k,i,q,_,_,rfl⟩ | h1
  ·exact ⟨rfl,Nat.le_refl _⟩
  ·have:=h.old f h1
   exact ⟨this.1,by omega⟩
 ·rw [hbad];obtain ⟨x,hx⟩:∃ x,ps[k]? = some x:=⟨_,List.getElem?_eq_getElem (by omega)⟩;obtain ⟨i,q⟩:=x;have hmem:=hI.there hb256 hn ho hx;have e:(ps.getD k (0,0)).1=i:=by rw [List.getD_eq_getElem?_getD,hx];rfl
  show lookF _ (badN m) (n+1) k=some (fpR (badN m) (n+1) t' k (ps.getD k (0,0)).1);rw [e];exact qbw hmem (fun y hy h1 h2 h3=>by
   rcases hI.found hb256 hn ho hy with ⟨k',i',q',hx',_,rfl⟩ | h4
   ·have hkk:k'=k:=h3;subst hkk;rw [hx] at hx';cases hx'
    rfl
   ·have:=(h.old y h4).2
    have h2':y.num=n+1:=h2;omega)
theorem Con.whole {m:M} {n:Nat} {t:List UInt8} (h:Con m n t):∃ ps z,recF (scanF (pgs m) m.np m.nb) (badN m) n=some ps∧txtF ps=t++z∧wholeF (scanF (pgs m) m.np m.nb) (badN m) n=true∧(txtF ps).length≤pagesN t.length*51:=by
 obtain ⟨blk,hb⟩:=h.here;have h1:=qdR h.pos hb;obtain ⟨z,hz⟩:=qdT (badN m) n t blk;refine ⟨_,z,h1,hz,?_,?_⟩
 rotate_left
 ·have key:∀ k,(txtF ((List.range k).map fun j=>fpR (badN m) n t j (blk j))).length≤k*51:=fun k=>by
   induction k with
   | zero=>simp [txtF]
   | succ k ih =>
     rw [List.range_succ,List.map_append,List.map_singleton,qbY,List.length_append]
     have:(fpR (badN m) n t k (blk k)).text.length≤51:=by unfold fpR;simp;omega
     omega
  exact key _
 have hpn:0<pagesN t.length:=by have:=h.pos;unfold pagesN;omega
 have h2:=qaw (hb 0 hpn);unfold wholeF;rw [h1,hasL_iff.2 ⟨_,h2.1,h2.2.1,h2.2.2.1⟩];rfl
theorem qhI {ys:List Nat} (ha:Asc ys) {x:Nat} (hx:x∈ys):x≤ys.getLastD 0:=by
 obtain ⟨i,hi,rfl⟩:=List.mem_iff_getElem.1 hx;have hl:ys.length - 1<ys.length:=by omega
 rw [List.getLastD_eq_getLast?,List.getLast?_eq_getElem?,List.getElem?_eq_getElem hl];show ys[i]≤ys[ys.length - 1];by_cases h:i=ys.length - 1
 ·exact Nat.le_of_eq (by congr 1)
 ·exact List.pairwise_iff_getElem.1 ha i (ys.length - 1) hi hl (by omega)
theorem qct (lo hi wd:Nat) (h1:hi<4294967296) (h2:hi - lo≤wd):∀ (l:List Nat) (i f a:Nat),Asc (a :: l)→(∀ y∈a :: l,lo≤y∧y≤hi)→scanG l i f wd a=f
 | [],_,_,_,_,_=>rfl
 | y :: l,i,f,a,ha,hb=>by
   have h3:=List.pairwise_cons.1 ha;have h4:=h3.1 y (by simp);have h5:=hb a (by simp);have h6:=hb y (by simp);have hg:gapN y a=y - a:=by unfold gapN;omega
   simp only [scanG];rw [if_neg (by rw [hg];omega)];exact qct lo hi wd h1 h2 l (i+1) f y h3.2 (fun z hz=>hb z (by simp [hz]))
theorem qf4 {ys:List Nat} (ha:Asc ys) (hb:∀ y∈ys,y<2147483648):firstG ys=0:=by
 cases ys with
 | nil=>rfl
 | cons y l =>
   unfold firstG;have hl:(y :: l).getLastD 0∈y :: l:=by
    rw [List.getLastD_eq_getLast?,List.getLast?_eq_some_getLast (by simp)];exact List.getLast_mem _
   obtain ⟨z,hz⟩:∃ z,z=(y :: l).getLastD 0:=⟨_,rfl⟩;rw [←hz] at hl ⊢;have hyl:∀ x∈y :: l,y≤x:=fun x hx=>by
    rcases List.mem_cons.1 hx with h | h
    ·omega
    ·exact (List.pairwise_cons.1 ha).1 x h
   have hlz:∀ x∈y :: l,x≤z:=fun x hx=>by
    rw [hz];exact qhI ha hx
   have h1:=hb y (by simp);have h2:=hb z hl;have h3:=hyl z hl;have hg:gapN y z=if y=z then 0 else 4294967296 - (z - y):=by unfold gapN;split<;>omega
   simp only [scanG]
   split
   ·rename_i hw;rw [hg] at hw ⊢
    split at hw
    ·omega
    ·rename_i hne;rw [if_neg hne];exact qct y z _ (by omega) (by omega) l _ _ y ha (fun x hx=>⟨hyl x hx,hlz x hx⟩)
   ·rename_i hw;rw [hg] at hw
    split at hw
    ·rename_i he;exact qct y z 0 (by omega) (by omega) l _ _ y ha (fun x hx=>⟨hyl x hx,hlz x hx⟩)
    ·omega
theorem Con.newest {m:M} {n:Nat} {t:List UInt8} (h:Con m n t) (hn:n<2147483648):Newest (scanF (pgs m) m.np m.nb) (badN m) n:=by
 intro ord hT hne;obtain ⟨ls,ks,rs,h1,h2,h3,h4,h5,h6,rfl⟩:=hT;obtain ⟨ps,z,hrec,_,hwh,_⟩:=h.whole;obtain ⟨f0,hf0,hfb,hfn⟩:=hasL_iff.1 (show hasL (scanF (pgs m) m.np m.nb) (badN m) n=true by unfold wholeF at hwh;simp at hwh;exact hwh.1);have hok:=(scanF_ok hf0).1;have hin:(badN m,n)∈ls:=(h2 _).2 ⟨by have:=hok.b;omega,by omega,hwh⟩;have hlab:∀ x∈ls,x.1=badN m∧x.2≤n:=fun x hx=>by
  have:=((h2 x).1 hx).2.2
  unfold wholeF at this;rw [Bool.and_eq_true] at this;obtain ⟨f,hf,e1,e2⟩:=hasL_iff.1 this.1
  have:=h.old f hf
  exact ⟨by rw [←e1];exact this.1,by rw [←e2];exact this.2⟩
 have hnum:∀ b,numsOf ls b≠[]→b=badN m:=fun b hb=>by
  obtain ⟨x,hx⟩:=List.exists_mem_of_ne_nil _ hb;unfold numsOf at hx;obtain ⟨y,hy,rfl⟩:=List.mem_map.1 hx;have h7:=List.mem_filter.1 hy;have e:y.1=b:=by simpa using h7.2
  rw [←e];exact (hlab y h7.1).1
 have hnn:n∈numsOf ls (badN m):=List.mem_map.2 ⟨(badN m,n),List.mem_filter.2 ⟨hin,by simp⟩,rfl⟩;have hbk:badN m∈ks:=(h5 _).2 (fun e=>by rw [e] at hnn;cases hnn);have hks:ks=[badN m]:=by
  have hall:∀ b∈ks,b=badN m:=fun b hb=>hnum b ((h5 b).1 hb)
  cases ks with
  | nil=>cases hbk
  | cons a l =>
    have ha:=hall a (by simp);subst ha;cases l with
    | nil=>rfl
    | cons a' l' =>
      have ha':=hall a' (by simp)
      have:=List.nodup_cons.1 h4
      exact absurd (by rw [ha'];simp) this.1
 subst hks;obtain ⟨ys,hp,ha,hr⟩:=h6 (badN m) (by simp);have hle:∀ y∈ys,y≤n:=fun y hy=>by
  have:=hp.mem_iff.1 hy
  unfold numsOf at this;obtain ⟨x,hx,rfl⟩:=List.mem_map.1 this;exact (hlab x (List.mem_filter.1 hx).1).2
 rw [qf4 ha (fun y hy=>by have:=hle y hy;omega)] at hr;simp only [List.drop_zero,List.take_zero,List.append_nil] at hr;simp only [List.flatMap_cons,List.flatMap_nil,List.append_nil];rw [hr];have hny:=hp.mem_iff.2 hnn;have hyne:ys≠[]:=fun e=>by rw [e] at hny;cases hny
 have hlast:ys.getLast? = some n:=by
  rw [List.getLast?_eq_some_getLast hyne];have h8:=qhI ha hny;rw [List.getLastD_eq_getLast?,List.getLast?_eq_some_getLast hyne] at h8;have h9:=hle _ (List.getLast_mem hyne)
  have:ys.getLast hyne=n:=by simp at h8;omega
  rw [this]
 unfold lbOf;rw [List.getLast?_map,hlast];rfl
end Go.Proofs.YtodmdkhdbfbfgabGreatDoor.S1
namespace Go.Proofs.YtodmdkhdbfbfgabGreatDoor
open Go.RowKit Go.Nt
theorem qhn {l:List It} (hn:(l.map (·.path)).Nodup) {x:It}:x∈l↔at? l x.path=some x:=by
 constructor
 ·intro hx;cases h:at? l x.path with
  | none=>exact absurd rfl (at_none.1 h x hx)
  | some y =>
    obtain ⟨hy,e⟩:=qaO h;obtain ⟨i,hi,rfl⟩:=List.mem_iff_getElem.1 hx;obtain ⟨j,hj,rfl⟩:=List.mem_iff_getElem.1 hy
    have:=(List.pairwise_iff_getElem.1 hn)
    by_cases hij:i=j
    ·subst hij;rfl
    ·exfalso
     rcases Nat.lt_or_gt_of_ne hij with h1 | h1
     ·exact this i j (by simpa using hi) (by simpa using hj) h1 (by simpa using e.symm)
     ·exact this j i (by simpa using hj) (by simpa using hi) h1 (by simpa using e)
 ·exact fun h=>(qaO h).1
theorem qd0 {l l':List It} (h:(l.map (·.path)).Nodup) (hp:l'.Perm l):qad l'=qad l:=by
 have hs:∀ l:List It,(qad l).Pairwise (fun x y=>(!less y.path x.path)=true):=fun l=>by
  unfold qad;exact List.pairwise_mergeSort (le:=fun x y:It => !less y.path x.path) (fun a b c h1 h2=>by
   simp only [Bool.not_eq_true'] at h1 h2 ⊢;cases h3:less c.path a.path with
   | false=>rfl
   | true =>
     cases h4:less a.path b.path with
     | true=>rw [qaZ _ _ _ h3 h4] at h2;cases h2
     | false=>rw [qaT _ _ h4 h1] at h3;rw [h3] at h2;cases h2) (fun a b=>by
   cases h1:less b.path a.path with
   | false=>simp
   | true=>rw [qdU h1];simp) l
 refine List.Perm.eq_of_pairwise (le:=fun x y=>(!less y.path x.path)=true) (fun a b ha hb h1 h2 => ?_) (hs l') (hs l) (((qav l').trans hp).trans (qav l).symm);simp only [Bool.not_eq_true'] at h1 h2;have e:=qaT _ _ h2 h1;have ha':a∈l:=hp.mem_iff.1 (order_mem.1 ha);have hb':b∈l:=order_mem.1 hb;have x1:=(qhn h).1 ha';have x2:=(qhn h).1 hb';rw [e,x2] at x1;exact (Option.some.inj x1).symm
theorem qg5 {l l':List It} (h:TreeP l) (h':TreeP l') (he:∀ q,at? l' q=at? l q):qad l'=qad l:=by
 refine qd0 h.nodup ((List.perm_ext_iff_of_nodup ?_ ?_).2 (fun x=>by rw [qhn h'.nodup,qhn h.nodup,he]))
 ·exact List.Pairwise.of_map (·.path) (fun a b hne e=>hne (by rw [e])) h'.nodup
 ·exact List.Pairwise.of_map (·.path) (fun a b hne e=>hne (by rw [e])) h.nodup
theorem qgZ {l:List It} (h:TreeP l):qad (qad l)=qad l:=qd0 h.nodup (qav l)
theorem qkE {w:World} {g n n':Nat} {S S':Nat→Nat→Bool} (h:S1.LbAt w g n S) (h':S1.LbAt w g n' S') {b r:Nat} (hb:b≤1000000) (hr:r≤4294967295):S b r=S' b r:=by
 have h1:=h.look hb hr;rw [h'.look hb hr] at h1;simpa using h1.symm
def FsC (u:Bs→Option Bs) (w:World) (fb cb:Nat) (T:Nat→Prop) (m0:S1.M) (l:List It) (n:Nat):Prop:=
 ∃ (tb lo hi lb:Nat) (L:S1.Loc) (lv:S1.Lv) (kv qv:Option Nat) (nk nq:Nat) (m:S1.M) (K Q:Nat→Bool) (b p:Nat) (t:Bs),FsM w fb tb lo hi cb lb L lv kv qv nk nq m K Q b p l∧S1.Snd m K Q b p∧(∀ k,FsS fb tb lo hi lb kv qv k→T k)∧(∀ g,lv.tk=some g→T g)∧Alike' m0 m∧(∀ k,T k→k<w.heap.size) ∧
  lv.nn=n∧S1.Con m n t∧IsText u (qad l) t∧∀ g,lv.tk=some g→∃ nt S,S1.LbAt w g nt S∧nt≤100000∧∀ y,y≤4294967295→S (S1.badN m) y=true→y≤n
theorem FsC.k {u:Bs→Option Bs} {w:World} {fb cb:Nat} {T:Nat→Prop} {m0:S1.M} {l:List It} {n:Nat} (h:FsC u w fb cb T m0 l n):FsK w fb cb T m0 l:=by
 obtain ⟨tb,lo,hi,lb,L,lv,kv,qv,nk,nq,m,K,Q,b,p,t,h1,h2,h3,h4,h5,h6,_⟩:=h;exact ⟨tb,lo,hi,lb,L,lv,kv,qv,nk,nq,m,K,Q,b,p,h1,h2,h3,h4,h5,h6⟩
theorem FsC.below {u:Bs→Option Bs} {w w':World} {fb cb:Nat} {T:Nat→Prop} {m0:S1.M} {l:List It} {n:Nat} (h:FsC u w fb cb T m0 l n) (hb:Below w.heap.size w w'):FsC u w' fb cb T m0 l n:=by
 obtain ⟨tb,lo,hi,lb,L,lv,kv,qv,nk,nq,m,K,Q,b,p,t,h1,h2,h3,h4,h5,h6,h7,h8,h9,h10⟩:=h;refine ⟨tb,lo,hi,lb,L,lv,kv,qv,nk,nq,m,K,Q,b,p,t,h1.below hb,h2,h3,h4,h5,fun k hk=>Nat.lt_of_lt_of_le (h6 k hk) hb.size,h7,h8,h9,fun g hg => ?_⟩;obtain ⟨nt,S,a1,a2,a3⟩:=h10 g hg;exact ⟨nt,S,a1.of_block (hb.block g a1.lt),a2,a3⟩
def SC (u:Bs→Option Bs) (w:World) (fb cb:Nat) (T:Nat→Prop) (m0:S1.M) (l l':List It) (n:Nat) (E:Int) (e:Ending) (w':World):Prop:=
 ∃ (x:Int) (T':Nat→Prop) (l'':List It) (n':Nat),e=.returned (.int .i64 x)∧FsC u w' fb cb T' m0 l'' n'∧n'≤n+1∧(∀ k,T' k→T k∨w.heap.size≤k)∧S1.Fm T w w' ∧
  (E≠0∧x=E∧l''=l∨E=0∧(x=0∧l''=l'∨x=9∧l''=l∧∃ t,IsText u (qad l') t∧S1.roomP m0<pagesN t.length))
theorem qkl {u:Bs→Option Bs} {w:World} {fb tb lo hi cb lb:Nat} {L:S1.Loc} {lv:S1.Lv} {kv qv:Option Nat} {nk nq:Nat} {m:S1.M} {K Q:Nat→Bool} {b p:Nat} {l l':List It} {E:Int} {e:Ending} {w':World} {T:Nat→Prop} {m0:S1.M} {n:Nat} {t0:Bs} (h:ChgP u w fb tb lo hi cb lb L lv kv qv nk nq m K Q b p l l' E e w') (hM:FsM w fb tb lo hi cb lb L lv kv qv nk nq m K Q b p l) (hs:S1.Snd m K Q b p) (hT:∀ k,FsS fb tb lo hi lb kv qv k→T k) (hk:∀ g,lv.tk=some g→T g) (ha:Alike' m0 m)
 (hn:lv.nn=n) (hn2:n+1<4294967296) (hC:S1.Con m n t0) (hI:IsText u (qad l) t0) (hS:∀ g,lv.tk=some g→∃ nt S,S1.LbAt w g nt S∧nt≤100000∧∀ y,y≤4294967295→S (S1.badN m) y=true→y≤n) (ht:TreeP l) (ht':E=0→TreeP l'):SC u w fb cb T m0 l l' n E e w':=by
 obtain ⟨h1,h2⟩:=h;have hF:S1.Fm T w w':=h1.mono fun k _ hk=>hT k hk
 have hlf:m.life≠0:=by rw [hs.life];decide
 have hsub:∀ c,w.heap.size≤c→∀ k,FsS fb c lo hi lb kv qv k∨lv.tk=some k→T k∨w.heap.size≤k:=fun c hc k hk'=>by
  rcases hk' with (h | h | h) | h
  ·exact .inl (hT k (.inl h))
  ·exact .inl (hT k (.inr (.inl h)))
  ·exact .inr (by omega)
  ·exact .inl (hk k h)
 have hS':∀ g,lv.tk=some g→∃ nt S,S1.LbAt w' g nt S∧nt≤100000∧∀ y,y≤4294967295→S (S1.badN m) y=true→y≤n:=fun g hg=>by
  obtain ⟨nt,S,a1,a2,a3⟩:=hS g hg;obtain ⟨b1,b2,b3,_⟩:=hM.tk g hg;exact ⟨nt,S,a1.of_block (h1.block g a1.lt (fun h=>by rcases h with h | h | h;exact b1 h;exact b2 h;exact b3 h)),a2,a3⟩
 rcases h2 with ⟨x,c,a1,a2,a3,a4⟩ | ⟨a1,a2,a3,a4,a5⟩ | ⟨a1,a2,t,S,a3,a4,a5,a6,⟨ib,nk',g,a7,a8,a9,a10,a12,a11⟩ | ⟨c,a7,a8,a9,a10⟩⟩
 ·refine ⟨x,fun k=>FsS fb c lo hi lb kv qv k∨lv.tk=some k,l,n,a2,⟨c,lo,hi,lb,L,lv,kv,qv,nk,nq,m,K,Q,b,p,t0,a4,hs,fun k hk=>.inl hk,fun g hg=>.inr hg,ha,a4.lt,hn,hC,hI,hS'⟩,by omega,hsub c a3,hF,?_⟩;rcases a1 with ⟨b1,b2⟩ | ⟨_,b2,_⟩ | ⟨b1,_,t,b3,b4,b5⟩
  ·exact .inl ⟨b1,b2,rfl⟩
  ·exact absurd b2 hlf
  ·refine .inr ⟨b1,.inr ⟨?_,rfl,t,b3,?_⟩⟩
   ·rw [b5];unfold S1.mayE at b4 ⊢;rw [if_neg hlf] at b4 ⊢
    split
    ·rfl
    ·rename_i hc;rw [if_neg hc] at b4;exact absurd rfl b4
   ·unfold S1.mayE at b4;rw [if_neg hlf] at b4;rw [←ha.room];by_cases hc:S1.roomP m<pagesN t.length
    ·exact hc
    ·rw [if_neg hc] at b4;exact absurd rfl b4
 ·exact ⟨0,fun k=>FsS fb tb lo hi lb kv qv k∨lv.tk=some k,l',n,a4,⟨tb,lo,hi,lb,L,lv,kv,qv,nk,nq,m,K,Q,b,p,t0,a5,hs,fun k hk=>.inl hk,fun g hg=>.inr hg,ha,a5.lt,hn,hC,by rw [qg5 ht (ht' a1) a3];exact hI,hS'⟩,by omega,(fun k hk'=>hk'.elim (fun h=>.inl (hT k h)) fun h=>.inl (hk k h)),hF,.inr ⟨a1,.inl ⟨rfl,rfl⟩⟩⟩
 all_goals
  have hroom:pagesN t.length≤S1.roomP m:=by
   unfold S1.mayE at a4;rw [if_neg hlf] at a4;by_cases hc:S1.roomP m<pagesN t.length
   ·rw [if_pos hc] at a4;cases a4
   ·omega
  have hpos:0<pagesN t.length:=by have:=qcA a3;unfold pagesN;omega
  obtain ⟨b1,b2,b3,b4,b5⟩:=hs.lay (S1.split_len (S1.badN m) (S1.numN m lv S) t) (by rw [splitR_length];exact hpos) (by rw [splitR_length];exact hroom) (S1.addS m lv S K Q b p t) rfl
 ·have hb32:S1.badN m≤1000000:=by have:=S1.badN_le m;have:=hs.wf.nb2;omega
  have hSn:∀ y,y≤4294967295→S (S1.badN m) y=true→y≤n:=fun y hy hSy=>by
   cases hg:lv.tk with
   | none =>
     rw [a5.1 hg] at hSy;obtain ⟨f,hf,_,e2⟩:=hasL_iff.1 hSy;rw [←e2];exact (hC.old f hf).2
   | some g' =>
     obtain ⟨n1,c1,_⟩:=a5.2 g' hg;obtain ⟨n2,S2,c2,_,c3⟩:=hS g' hg;exact c3 y hy (by rw [←qkE c1 c2 hb32 hy];exact hSy)
  have hnum:S1.numN m lv S=n+1:=by
   unfold S1.numN;rw [hn,Nat.mod_eq_of_lt hn2];refine nxt_here hn2 ?_;cases hc:S (S1.badN m) (n+1) with
   | false=>rfl
   | true=>have:=hSn (n+1) (by omega) hc;omega
  have hCon:S1.Con (S1.addS m lv S K Q b p t).m (n+1) t:=by
   unfold S1.addS;rw [hnum];exact hC.step hs (qcA a3) hroom hn2
  have hbad:S1.badN (S1.addS m lv S K Q b p t).m=S1.badN m:=S1.badN_congr b3 b5;refine ⟨0,fun k=>FsS fb tb lo hi lb (some ib) qv k∨k=g,l',n+1,a8,⟨tb,lo,hi,lb,L,_,some ib,qv,nk',nq,_,_,_,_,_,t,a11,b2,fun k hk=>.inl hk,fun g' hg'=>.inr (by cases hg';rfl),⟨b3.trans ha.1,b4.trans ha.2.1,b5.trans ha.2.2⟩,fun k hk=>a11.lt k (hk.imp id fun h=>by rw [h]),hnum,hCon,a3,fun g' hg' => ?_⟩,Nat.le_refl _,fun k hk' => ?_,hF,.inr ⟨a1,.inl ⟨rfl,rfl⟩⟩⟩
  ·cases hg'
   obtain ⟨nt,c1,c2⟩:=a12;exact ⟨nt,S,c1,c2,fun y hy h=>by rw [hbad] at h;have:=hSn y hy h;omega⟩
  ·rcases hk' with ((h | h | h | h) | h | h) | h
   ·exact .inl (hT k (.inl (.inl h)))
   ·exact .inl (hT k (.inl (.inr (.inl h))))
   ·cases h;exact .inr a9
   ·exact .inl (hT k (.inl (.inr (.inr (.inr h)))))
   ·exact .inl (hT k (.inr (.inl h)))
   ·exact .inl (hT k (.inr (.inr h)))
   ·rcases a10 with h' | h'
    ·exact .inl (by rw [h];exact hk g h')
    ·exact .inr (by omega)
 ·exact absurd b1 a7
theorem qhy {u:Bs→Option Bs} (hP:PackC u) (q d:Bs) (w:World) (fb cb:Nat) (T:Nat→Prop) (m0:S1.M) (l:List It) (n:Nat) (hn:n+1<4294967296) (h:FsC u w fb cb T m0 l n) (ht:TreeP l) (hml:ML w) (h0:¬T 0) (hq:q.length≤1048576) (hd:d.length≤1048576) :
 Calls Tryz.prog 13 #[.pointer (some ⟨fb,0,none⟩),.string (txt q),.string (txt d)] w fun e w'=>SC u w fb cb T m0 l (setIt l (putI l q d)) n (putE l q d) e w':=by
 obtain ⟨tb,lo,hi,lb,L,lv,kv,qv,nk,nq,m,K,Q,b,p,t,h1,h2,h3,h4,h5,h6,h7,h8,h9,h10⟩:=h;have hnb:=h2.wf.nb2;have hb:=h2.b;refine (qlZ hP q d w fb tb lo hi cb lb L lv kv qv nk nq m K Q b p l h1 ht hml (fun h=>h0 (h3 0 h)) (by omega) h2.p hq hd).mono ?_;exact fun e w' hpost=>qkl hpost h1 h2 h3 h4 h5 h7 hn h8 h9 h10 ht ht.put
theorem qgp {u:Bs→Option Bs} (hP:PackC u) (q:Bs) (w:World) (fb cb:Nat) (T:Nat→Prop) (m0:S1.M) (l:List It) (n:Nat) (hn:n+1<4294967296) (h:FsC u w fb cb T m0 l n) (ht:TreeP l) (hml:ML w) (h0:¬T 0) (hq:q.length≤1048576) :
 Calls Tryz.prog 15 #[.pointer (some ⟨fb,0,none⟩),.string (txt q)] w fun e w'=>SC u w fb cb T m0 l (l.filter fun y=>decide (y.path≠q)) n (qaJ l q) e w':=by
 obtain ⟨tb,lo,hi,lb,L,lv,kv,qv,nk,nq,m,K,Q,b,p,t,h1,h2,h3,h4,h5,h6,h7,h8,h9,h10⟩:=h;have hnb:=h2.wf.nb2;have hb:=h2.b;refine (qgG hP q w fb tb lo hi cb lb L lv kv qv nk nq m K Q b p l h1 ht hml (fun h=>h0 (h3 0 h)) (by omega) h2.p hq).mono ?_;exact fun e w' hpost=>qkl hpost h1 h2 h3 h4 h5 h7 hn h8 h9 h10 ht ht.remove
def MtcP (u:Bs→Option Bs) (l:List It) (m:S1.M) (lo hi:Nat) (w:World) (e:Ending) (w':World):Prop:=
 ∃ fb xb T,e=.returned (.tuple #[.pointer (some ⟨fb,0,none⟩),.pointer (some ⟨xb,0,none⟩)])∧FsC u w' fb xb T m (qad l) 1∧(∀ k,T k→w.heap.size≤k)∧S1.Only lo hi w w'
theorem qky {u:Bs→Option Bs} (hP:PackC u) (a:Option Addr) (c:Nat) (l:List It) (w:World) (lo hi cb:Nat) (L:S1.Loc) (m:S1.M) (hm:S1.New m) (h:S1.CP w lo hi cb L m) (hsz:hi≤w.heap.size) (hml:ML w) (hmlo:0<lo) (hl:ItsIn w a l) (ht:TreeP l) (hroom:pagesN (weigh l+1)≤S1.roomP m) :
 Calls Tryz.prog 6 #[.pointer (some ⟨cb,0,none⟩),.slice a l.length c] w fun e w'=>MtcP u l m lo hi w e w':=by
 have hfit:∀ x∈l,Fit x:=fun x hx=>qaG (ht.ok x hx)
 have A:=hidI (qkR hP a c l w lo hi cb L m hm.wf h hsz hml hmlo hl (by have:=ht.len;omega) (fun x hx=>by have:=(hfit x hx).p;omega) (fun x hx=>by have:=(hfit x hx).d;omega));have Hml:=hidI hml;unfold MtcP;clear h hml hl;go_enter Tryz.func6,Tryz.ntmps6
 go_wp2_with fail;refine A.out.mono ?_;rintro e w1 (⟨hno,_⟩ | ⟨hyes,t,hT,rfl,hC1,hO1⟩)
 ·rw [(qbA l).2 ht] at hno;cases hno
 have htp:=qcA hT;have htl:=qaY hT;rw [qgL] at htl;have hmay:S1.mayE m t.length=0:=by
  unfold S1.mayE;rw [if_neg (by rw [hm.life];decide),if_neg]
  have:pagesN t.length≤pagesN (weigh l+1):=by unfold pagesN;exact Nat.div_le_div_right (by omega)
  omega
 obtain ⟨hr0,hwf1,hlf1,blk,hlook,hlab,hfl1,hbd1,hnb1,hnp1,S,hS1,hS2⟩:=hm.renew htp hmay;obtain ⟨m1,hm1⟩:∃ m1,m1=(S1.renA m t).2:=⟨_,rfl⟩;rw [←hm1] at hwf1 hlf1 hlook hlab hC1 hfl1 hbd1 hnb1 hnp1;rw [hr0];obtain ⟨bn,hbn⟩:∃ bn,bn=S1.badN m:=⟨_,rfl⟩;rw [←hbn] at hlook hlab;have hbn2:bn≤32:=by rw [hbn];exact Nat.le_trans (S1.badN_le m) hm.wf.nb2
 have hrec:=qdR htp hlook;obtain ⟨z,hz⟩:=qdT bn 1 t blk;have hpar:parse u (txtF ((List.range (pagesN t.length)).map fun j=>fpR bn 1 t j (blk j)))=some (qad l):=by
  rw [hz];exact qd4 hT (fun x hx=>hfit x (order_mem.1 hx)) (by rw [qa7];have:=ht.len;omega) z
 have hlen:(txtF ((List.range (pagesN t.length)).map fun j=>fpR bn 1 t j (blk j))).length≤1000000:=by
  rw [qlu]
  ·simp only [List.length_map,List.length_range];have h1:=S1.roomP_le hm.wf
   have:pagesN t.length≤pagesN (weigh l+1):=by unfold pagesN;exact Nat.div_le_div_right (by omega)
   omega
  ·intro f hf;simp at hf;obtain ⟨k,_,rfl⟩:=hf;unfold fpR;simp;omega
 have hsz1:hi≤w1.heap.size:=Nat.le_trans hsz hO1.size;have hml1:ML w1:=Hml.out.below (hO1.below (B:=1) hmlo (by have:=Hml.out.lt;omega)) (by omega);have C:=hidI (S1.copy_any w1 lo hi cb L m1 hwf1 hC1 hsz1);have HO1:=hidI hO1;have Hml1:=hidI hml1;have hlf:m1.life≠0:=by rw [hlf1];decide
 obtain ⟨ps,hps⟩:∃ ps,ps=(List.range (pagesN t.length)).map fun j=>fpR bn 1 t j (blk j):=⟨_,rfl⟩
 rw [←hps] at hrec hpar hlen;have HSnd:Hid (S1.Snd m1 (inF ps) (fun _=>false) (endF ps) m1.np):=hidI (by
  have hpn:0<pagesN t.length:=by unfold pagesN;omega
  have hlast:endF ps<m.nb:=by
   have e:ps.getLast? = some (fpR bn 1 t (pagesN t.length - 1) (blk (pagesN t.length - 1))):=by
    rw [hps,List.getLast?_map,List.getLast?_range,if_neg (by omega)];rfl
   unfold endF;rw [e];exact (hS2 _ (by omega)).2
  refine ⟨hwf1,hlf1,hfl1,S1.Rdy.shut m1 _ _ (fun i hi=>by cases hi),?_,by rw [hnb1];exact hlast,Nat.le_refl _⟩;rw [S1.good_congr hnb1 hbd1,hnb1];refine Nat.le_trans (S1.cntB_mono fun i hi => ?_) hS1;unfold inF at hi;rw [hps] at hi;obtain ⟨f,hf,hfi⟩:=List.any_eq_true.1 hi;obtain ⟨k,hk,rfl⟩:=List.mem_map.1 hf
  have:=(hS2 k (List.mem_range.1 hk)).1
  rw [←beq_iff_eq.1 hfi];exact this)
 have hbad1:S1.badN m1=bn:=by rw [hbn];exact S1.badN_congr hnb1 hbd1
 have HCon:Hid (S1.Con m1 1 t):=hidI ⟨fun f hf=>by have:=hlab f hf;exact ⟨by rw [hbad1];exact this.1,by omega⟩,⟨blk,fun k hk=>by rw [hbad1];exact hlook k hk⟩,htp⟩;have Hwh:Hid (S1.wholeF (scanF (S1.pgs m1) m1.np m1.nb) bn 1=true):=hidI (by obtain ⟨_,_,_,_,h,_⟩:=HCon.out.whole;rw [hbad1] at h;exact h);have Hnew:Hid (Newest (scanF (S1.pgs m1) m1.np m1.nb) bn 1):=hidI (by have h:=HCon.out.newest (by omega);rw [hbad1] at h;exact h);have HIt:Hid (IsText u (qad (qad l)) t):=hidI (by rw [qgZ ht];exact hT);have Hal:Hid (Alike' m m1):=hidI ⟨hnb1,hnp1,hbd1⟩;have Hrec:=hidI hrec;have Hpar:=hidI hpar;have Hwf1:=hidI hwf1;clear hbad1 hS1 hS2 hfl1 hbd1 hnb1 hnp1 hlook hlab hz hC1 hO1 hml1 hps hrec hpar hm1 hbn hmay hT htp htl hwf1 hlf1 hr0 A hfit;go_wp2_with fail;refine C.out.mono ?_;rintro e w2 ⟨L',rfl,hC2,hb2⟩;obtain ⟨xb,hxb⟩:∃ xb,xb=w1.heap.size:=⟨_,rfl⟩
 have hml2:ML w2:=Hml1.out.below hb2 Hml1.out.lt;rw [←hxb] at hC2 ⊢;have D:=hidI (mountU w2 xb w2.heap.size xb L' m1 Hwf1.out hC2 (Nat.le_refl _) hlf _ rfl bn 1 (by omega) (by omega) Hwh.out Hnew.out ps Hrec.out (fun f hf=>⟨(scanF_ok hf).1,by have:=(scanF_ok hf).2;have:=Hwf1.out.nb2;omega⟩) hml2 hP (qad l) Hpar.out ((qbA _).2 ht.order) hlen);have HO2:=hidI (HO1.out.trans (S1.Only.of_below hb2));have HC2:=hidI hC2;have hxw:w.heap.size≤xb:=by rw [hxb];exact HO1.out.size
 have hx2:xb≤w2.heap.size:=by rw [hxb];exact hb2.size
 clear hC2 hb2 hml2 C hxb;go_wp2_with fail;refine D.out.mono ?_;rintro e w3 ⟨fb,lb,tb,ib,n,rfl,hF,hT,hLg,hn,hBl,hfb,hlb,htb,hib,hit,hb3⟩;have n1:ib≠lb:=qhH (qmS hBl) hLg;have n2:ib≠fb:=qhH (qmS hBl) hF;have n3:tb≠lb:=qhH (qhm hT) hLg;have n4:tb≠fb:=qhH (qhm hT) hF;have n5:fb≠lb:=qoo hF hLg;have hLM:S1.LogM w3 xb w2.heap.size xb lb L' ⟨bn,1,none⟩ (some ib) none n 0 m1 (inF ps) (fun _=>false) (endF ps) m1.np:=
  ⟨hLg,S1.MemX.below HC2.out (Nat.le_refl _) hb3,Hwf1.out,.inr ⟨ib,rfl,hBl⟩,.inl ⟨rfl,fun _=>rfl⟩,fun g hg=>(by cases hg;exact ⟨n1,by omega⟩),fun g hg=>(by cases hg),fun g hg hq=>(by cases hq),(by omega),hb3.size⟩
 have nf:¬S1.LogS xb w2.heap.size lb (some ib) none fb:=fun h=>by
  rcases h with h | h | h | h
  ·omega
  ·exact n5 h
  ·cases h;exact n2 rfl
  ·cases h
 have nt:¬S1.LogS xb w2.heap.size lb (some ib) none tb:=fun h=>by
  rcases h with h | h | h | h
  ·omega
  ·exact n3 h
  ·cases h;omega
  ·cases h
 have HK:Hid (FsC u w3 fb xb (FsS fb tb xb w2.heap.size lb (some ib) none) m (qad l) 1):=by
  refine hidI ⟨tb,xb,w2.heap.size,lb,L',⟨bn,1,none⟩,some ib,none,n,0,m1,inF ps,fun _=>false,endF ps,m1.np,t,⟨hF,hT,hLM,nf,nt,fun e=>n4 e.symm,fun g hg=>by cases hg⟩,HSnd.out,fun k hk=>hk,fun g hg=>(by cases hg),Hal.out,fun k hk => ?_,rfl,HCon.out,HIt.out,fun g hg=>(by cases hg)⟩;rcases hk with h | h | h
  ·exact S1.logS_lt hLM h
  ·rw [h];exact qaa hF
  ·rw [h];exact hT.lt
 have HTT:Hid (∀ k,FsS fb tb xb w2.heap.size lb (some ib) none k→w.heap.size≤k):=hidI fun k hk=>by
  rcases hk with (h | h | h | h) | h | h
  ·omega
  ·omega
  ·cases h;omega
  ·cases h
  ·omega
  ·omega
 have HO3:=hidI (HO2.out.trans (S1.Only.of_below hb3));clear hF hT hb3 D hLM hLg hBl;go_wp2_with fail;go_ret2
 exact ⟨fb,xb,_,rfl,HK.out,HTT.out,HO3.out⟩
def nm (i:Nat):Bs:=[102,UInt8.ofNat (97+i/26),UInt8.ofNat (97+i%26)]
theorem qou:∀ i,i<40→okPath (nm i)=true:=by decide
theorem qnB:∀ i,i<40→(nm i).contains 47=false:=by decide
theorem qhk {p:Bs} (h:p.contains 47=false) (i:Nat):p.getD i 0≠47:=fun e=>by
 by_cases hi:i<p.length
 ·rw [List.getD_eq_getElem?_getD,List.getElem?_eq_getElem hi] at e
  have:p.contains 47=true:=List.contains_iff_mem.2 (by have:=List.getElem_mem hi;simp at e;rw [e] at this;exact this)
  rw [h] at this;cases this
 ·rw [List.getD_eq_getElem?_getD,List.getElem?_eq_none (by omega)] at e;cases e
theorem qml {p:Bs} (h:p.contains 47=false):par p=[]:=qeH fun i _=>qhk h i
theorem qit (l:List It) {p:Bs} (h:p.contains 47=false):enterE l p=0:=by
 have key:∀ n k,qaS l p n k=0:=by
  intro n
  induction n with
  | zero=>exact fun _=>rfl
  | succ n ih=>intro k;rw [qaS,if_neg (qhk h k)];exact ih _
 exact key _ _
theorem qbH (l:List It) {p:Bs} (h:p.contains 47=false) (ho:okPath p=true):reachE l p=0:=by
 unfold reachE;rw [if_pos ho,qit l h]
theorem qnU {q p:Bs} (h:q.contains 47=false):inB q p=false:=by
 cases e:inB q p with
 | false=>rfl
 | true =>
   obtain ⟨r,hr⟩:=List.isPrefixOf_iff_prefix.1 e
   have:q.contains 47=true:=List.contains_iff_mem.2 (by rw [←hr];simp)
   rw [h] at this;cases this
structure FT (k:Nat) (l:List It):Prop where
 item:∀ x∈l,∃ j d,j<k∧d.length≤4000∧x=(⟨nm j,false,d,0,0⟩:It)
 nodup:(l.map (·.path)).Nodup
 len:l.length≤k
 most:k≤40
theorem qnF {j:Nat} (hj:j<40) {d:Bs} (hd:d.length≤4000):okItem ⟨nm j,false,d,0,0⟩=true:=by
 unfold okItem;simp [qou j hj,hd]
theorem FT.flat {k:Nat} {l:List It} (h:FT k l) {x:It} (hx:x∈l):x.path.contains 47=false:=by
 obtain ⟨j,d,hj,_,rfl⟩:=h.item x hx;exact qnB j (by have:=h.most;omega)
theorem FT.ok {k:Nat} {l:List It} (h:FT k l) {x:It} (hx:x∈l):okItem x=true:=by
 obtain ⟨j,d,hj,hd,rfl⟩:=h.item x hx;exact qnF (by have:=h.most;omega) hd
theorem FT.tree {k:Nat} {l:List It} (h:FT k l):TreeP l:=
 ⟨by have:=h.len;have:=h.most;omega,fun x hx=>h.ok hx,h.nodup,fun x hx=>.inl (qml (h.flat hx))⟩
end Go.Proofs.YtodmdkhdbfbfgabGreatDoor
