/- Lemmas. -/
import Derived.Deep.RegionLaw
import Derived.Test.YtodmdkhdbfbfgaaGreatDoorM21
set_option linter.unusedVariables false
set_option linter.unusedSimpArgs false
set_option maxRecDepth 100000
set_option maxHeartbeats 8000000
namespace Go.Proofs.YtodmdkhdbfbfgaaGreatDoor
open Go.RowKit Go.Nt
open S1 (rcs)
theorem qfc {l:List Fp} {b n o:Nat}:∀ {k:Nat} {ps:List Fp},partF l b n o k=some ps→ps.map Fp.at_=List.range k∧∀ f∈ps,f∈l
 | 0,ps,h=>by simp [partF] at h;subst h;simp
 | k+1,ps,h=>by
   rw [partF] at h
   split at h
   ·rename_i qs f hq hf
    split at h
    ·cases h
     obtain ⟨h1,h2⟩:=qfc hq;have h3:=qaq hf;refine ⟨by rw [List.map_append,h1,List.range_succ,List.map_singleton,h3.2.2.2],fun g hg => ?_⟩;rcases List.mem_append.1 hg with hg | hg
     ·exact h2 g hg
     simp at hg;subst hg;exact h3.1
    cases h
   cases h
theorem qlq {l:List Fp} {b n:Nat} {ps:List Fp} (h:recF l b n=some ps):ps.length≤l.length∧∀ f∈ps,f∈l:=by
 unfold recF at h
 split at h
 ·cases h
 obtain ⟨h1,h2⟩:=qfc h;refine ⟨S1.nodup_le ps l ?_ h2,h2⟩
 have:(ps.map Fp.at_).Nodup:=by rw [h1];exact List.nodup_range
 exact (List.pairwise_map.1 this).imp (fun hne e=>hne (by rw [e]))
theorem qis {ps:List Fp} (h:∀ f∈ps,f.text.length=51):(txtF ps).length=ps.length*51:=by
 induction ps with
 | nil=>rfl
 | cons f ps ih =>
   have h1:=ih (fun g hg=>h g (by simp [hg]));have h2:=h f (by simp);unfold txtF at h1 ⊢;simp only [List.map_cons,List.flatten_cons,List.length_append,List.length_cons,h1,h2];omega
theorem qm2 {l:List Fp} {ord:List (Nat × Nat)} (h:S1.TurnOf l ord) {x:Nat × Nat} (h1:x.1≤1000000) (h2:x.2≤4294967295) (h3:S1.wholeF l x.1 x.2=true):x∈ord:=by
 obtain ⟨ls,ks,rs,hnd,hm,hasc,hndk,hmemk,hrs,rfl⟩:=h;have hx:=(hm x).2 ⟨h1,h2,h3⟩;have hn:x.2∈S1.numsOf ls x.1:=List.mem_map.2 ⟨x,List.mem_filter.2 ⟨hx,by simp⟩,rfl⟩;have hb:x.1∈ks:=(hmemk x.1).2 (fun e=>by rw [e] at hn;cases hn);obtain ⟨ys,hp,_,er⟩:=hrs x.1 hb;refine List.mem_flatMap.2 ⟨x.1,hb,List.mem_map.2 ⟨x.2,?_,rfl⟩⟩;have h9:x.2∈ys.take (S1.firstG ys)++ys.drop (S1.firstG ys):=by rw [List.take_append_drop];exact hp.mem_iff.2 hn
 rw [er,List.mem_append];exact (List.mem_append.1 h9).symm
def NoTree (u:Bs→Option Bs) (l:List Fp) (x:Nat × Nat):Prop:=∀ tl,parse u (txtF (S1.psOf l x.1 x.2))=some tl→isTree tl=false
def MountQ (ps:List Fp) (b r:Nat) (np:Nat) (cb:Nat) (tl:List It) (w:World) (e:Ending) (w':World):Prop:=
 ∃ fb lb tb ib n,e=.returned (.tuple #[.pointer (some ⟨fb,0,none⟩),.int .i64 0])∧FsAt w' fb cb lb tb∧TreeAt w' tb tl∧S1.LogAt w' lb cb ⟨b,r,none⟩ (some ib) none (endF ps) np∧n≤100000∧S1.BlAt w' ib n (inF ps)∧w.heap.size≤fb∧w.heap.size≤lb∧w.heap.size≤tb∧w.heap.size≤ib∧ib<tb∧Below w.heap.size w w'
def MountA (u:Bs→Option Bs) (l:List Fp) (np cb:Nat) (w:World) (e:Ending) (w':World):Prop:=
 ∃ ord,S1.TurnOf l ord∧(((∀ x∈ord,NoTree u l x)∧e=.returned (.tuple #[.pointer none,.int .i64 11])∧Below w.heap.size w w') ∨
  ∃ pre x post tl,ord.reverse=pre++x :: post∧(∀ y∈pre,NoTree u l y)∧parse u (txtF (S1.psOf l x.1 x.2))=some tl∧isTree tl=true∧recF l x.1 x.2=some (S1.psOf l x.1 x.2)∧MountQ (S1.psOf l x.1 x.2) x.1 x.2 np cb tl w e w')
theorem qgZ (l:List Fp) (ibf:Nat→Nat→Nat):∀ (ys:List (Nat × Nat)) (i:Nat) (h:i<ys.length) (k:Nat),k<5→(S1.rcl l ibf ys)[i*5+k]? = (rcs (S1.psOf l ys[i].1 ys[i].2) ys[i].1 ys[i].2 (ibf ys[i].1 ys[i].2))[k]?
 | [],i,h,k,hk=>by simp at h
 | y :: ys,0,h,k,hk=>by
   have:S1.rcl l ibf (y :: ys)=rcs (S1.psOf l y.1 y.2) y.1 y.2 (ibf y.1 y.2)++S1.rcl l ibf ys:=by simp [S1.rcl]
   rw [this,List.getElem?_append_left (by simp [rcs];omega)];simp
 | y :: ys,i+1,h,k,hk=>by
   have:S1.rcl l ibf (y :: ys)=rcs (S1.psOf l y.1 y.2) y.1 y.2 (ibf y.1 y.2)++S1.rcl l ibf ys:=by simp [S1.rcl]
   rw [this,List.getElem?_append_right (by simp [rcs];omega)];have e:(i+1)*5+k - (rcs (S1.psOf l y.1 y.2) y.1 y.2 (ibf y.1 y.2)).length=i*5+k:=by simp [rcs];omega
   rw [e,qgZ l ibf ys i (by simpa using h) k hk];simp
theorem mountA (w:World) (lo hi cb:Nat) (L:S1.Loc) (m:S1.M) (hw:S1.WF m) (h:S1.CP w lo hi cb L m) (hsz:hi≤w.heap.size) (hlf:m.life≠0) (l:List Fp) (hl:scanF (S1.pgs m) m.np m.nb=l)
 (hml:ML w) {u:Bs→Option Bs} (hP:PackC u) :
 Calls Tryz.prog 20 #[.pointer (some ⟨cb,0,none⟩)] w fun e w'=>MountA u l m.np cb w e w':=by
 have hcount:m.nb*m.np≤512:=by
  have h1:=hw.nb2;have h2:=hw.np2
  calc m.nb*m.np≤32*16:=Nat.mul_le_mul (by omega) (by omega)
   _≤512:=by omega
 have hok:∀ f∈l,FpOk f∧f.blk<1000:=fun f hf=>by
  rw [←hl] at hf
  have:=scanF_ok hf
  have:=hw.nb2
  exact ⟨(scanF_ok hf).1,by omega⟩
 have Hlen:Hid (∀ (x:Nat × Nat) ps,recF l x.1 x.2=some ps→(txtF ps).length≤1000000):=hidI (fun x ps hps=>by
  obtain ⟨h1,h2⟩:=qlq hps;rw [qis (fun f hf=>(hok f (h2 f hf)).1.t)]
  have:=scanF_len (S1.pgs m) m.np m.nb
  rw [hl] at this;omega)
 have A:=hidI (S1.dead_any w lo hi cb L m h);have hlb:(m.life==0)=false:=by simp [hlf]
 rw [hlb] at A;have B:=hidI ((callsIn_wide (n:=20)).1 (S1.recordsA w lo hi cb L m hw h hsz hlf l hl hok));have HC:=hidI h;have Hml:=hidI hml;clear h hml hlb hok hl;go_enter Tryz.func20,Tryz.ntmps20
 go_wp2_with fail;refine A.out.mono ?_;rintro e w' ⟨rfl,hw'⟩;have hw2:=hw'.symm;subst hw2;go_wp2_with fail;refine B.out.mono ?_;rintro e w1 ⟨v,ord,ibf,nbf,rfl,hTo,hol,hrow,hall,hb1⟩;obtain ⟨ys,hys⟩:∃ ys,ys=ord.reverse:=⟨_,rfl⟩;obtain ⟨no,hnoe⟩:∃ no,no=ord.length:=⟨_,rfl⟩;have hyl:ys.length=no:=by rw [hys,hnoe];simp
 have Hall:Hid (∀ x∈ys,recF l x.1 x.2=some (S1.psOf l x.1 x.2)∧w.heap.size≤ibf x.1 x.2∧nbf x.1 x.2≤100000∧S1.BlAt w1 (ibf x.1 x.2) (nbf x.1 x.2) (inF (S1.psOf l x.1 x.2))):=hidI (fun x hx=>hall x (by rw [hys] at hx;exact List.mem_reverse.1 hx));have HT:Hid (S1.TurnOf l ord):=hidI hTo;have Hys:=hidI hys;have Hyl:=hidI hyl;rw [←hnoe,←hys] at hrow;have hnob:no≤100000*100000:=by rw [hnoe];exact hol
 have HB1:=hidI hb1;clear hall hTo hys hyl hnoe hb1 A B hol;have Hnone:Hid (no=0→ord=[]):=hidI (fun h=>by
  have h1:=Hyl.out;rw [Hys.out] at h1;simp at h1;exact List.length_eq_zero_iff.1 (by omega))
 rcases hrow.2 with ⟨rfl,h0⟩ | ⟨g,cap,cur,rfl,q1,q2,q3,q4,q5,q6⟩
 ·subst h0;have ho:=Hnone.out rfl;clear hrow;go_wp2_with fail;refine wp_loop_rounds 1 ?_;rw [rounds_succ];go_wp2_with fail;go_ret2
  exact ⟨ord,HT.out,.inl ⟨fun x hx=>(by rw [ho] at hx;cases hx),rfl,HB1.out⟩⟩
 have Hcell:Hid (∀ W:World,Below w1.heap.size w1 W→∀ i,(h:i<ys.length)→W.cell? ⟨g,i*5,none⟩=some (.string (S1.txt (txtF (S1.psOf l ys[i].1 ys[i].2))))∧W.cell? ⟨g,i*5+1,none⟩=some (.int .i64 (ys[i].1:Nat))∧W.cell? ⟨g,i*5+2,none⟩=some (.int .u32 (ys[i].2:Nat))∧W.cell? ⟨g,i*5+3,none⟩=some (.map (some (ibf ys[i].1 ys[i].2)))∧W.cell? ⟨g,i*5+4,none⟩=some (.int .i64 (endF (S1.psOf l ys[i].1 ys[i].2):Nat))):=hidI (fun W hb i h=>by
  have hgl:=lt_of_heap q2;have hr:=(hb.block g hgl).trans q2;have key:∀ k (hk:k<5),W.cell? ⟨g,i*5+k,none⟩=(rcs (S1.psOf l ys[i].1 ys[i].2) ys[i].1 ys[i].2 (ibf ys[i].1 ys[i].2))[k]? := fun k hk=>by
   have e:=qgZ l ibf ys i h k hk;rw [cell_of_row W g _ _ 94 (0,0) hr,←e,←q6,←Array.getElem?_toList,List.getElem?_take_of_lt (by rw [←Hyl.out];omega)]
  exact ⟨key 0 (by omega),key 1 (by omega),key 2 (by omega),key 3 (by omega),key 4 (by omega)⟩)
 have hsw:w.heap.size≤w1.heap.size:=HB1.out.size;obtain ⟨z1,hz1⟩:∃ z1,z1=w1.heap.size:=⟨_,rfl⟩;rw [←hz1] at Hcell hsw;have Hz1:=hidI hz1;have HBi:Hid (∀ x∈ys,ibf x.1 x.2<z1):=hidI (fun x hx=>by rw [hz1];exact (Hall.out x hx).2.2.2.lt);clear hrow q1 q2 q3 q4 q5 q6 hz1;go_wp2_with fail
 go_loopg [15] no (fun k s15 wr=>∃ i:Nat,s15=.int .i64 (i:Nat)∧i≤no∧no - i≤k∧Hid (Below z1 w1 wr)∧Hid (∀ x∈ys.take i,NoTree u l x))
 case atStart=>exact ⟨0,rfl,by omega,by omega,hidI (Below.refl _ _),hidI (by simp)⟩
 case round =>
  obtain ⟨i,rfl,hil,hk,HB,HN⟩:=hrel;by_cases hlt:i<no
  ·have hlt':((i:Nat):Int)<(no:Nat):=by omega
   have hiy:i<ys.length:=by have:=Hyl.out;omega
   obtain ⟨c0,c1,c2,c3,c4⟩:=Hcell.out wr HB.out i hiy;obtain ⟨x,hx⟩:∃ x,x=ys[i]:=⟨_,rfl⟩;have hxm:x∈ys:=by rw [hx];exact List.getElem_mem hiy
   rw [←hx] at c0 c1 c2 c3 c4;obtain ⟨b,r⟩:=x;obtain ⟨hrec,hib,hn,hBl⟩:=Hall.out _ hxm;have hibz:=HBi.out _ hxm;dsimp only at c0 c1 c2 c3 c4 hrec hib hn hBl hibz;obtain ⟨ps,hps⟩:∃ ps,ps=S1.psOf l b r:=⟨_,rfl⟩;have hlen:=Hlen.out (b,r) _ hrec;rw [←hps] at c0 c4 hrec hBl hlen;obtain ⟨ib,hibe⟩:∃ ib,ib=ibf b r:=⟨_,rfl⟩;obtain ⟨n,hne⟩:∃ n,n=nbf b r:=⟨_,rfl⟩;rw [←hibe] at c3 hib hBl hibz;rw [←hne] at hn hBl;obtain ⟨X,hX⟩:∃ X,X=txt (txtF ps):=⟨_,rfl⟩;have hXS:S1.txt (txtF ps)=X:=by rw [hX];rfl
   rw [hXS] at c0;obtain ⟨E,hE⟩:∃ E,E=endF ps:=⟨_,rfl⟩;rw [←hE] at c4;obtain ⟨zr,hzr⟩:∃ zr,zr=wr.heap.size:=⟨_,rfl⟩;have hzz:z1≤zr:=by rw [hzr,Hz1.out];exact HB.out.size
   obtain ⟨W2,hW2⟩:∃ W2,W2=wr.alloc (.cells #[.string X,.int .i64 (b:Nat),.int .u32 (r:Nat),.map (some ib),.int .i64 (E:Nat)] 94):=⟨_,rfl⟩;have s2:W2.heap.size=zr+1:=by rw [hW2,hzr];simp
   have hr2:W2.heap[zr]? = some (.cells #[.string X,.int .i64 (b:Nat),.int .u32 (r:Nat),.map (some ib),.int .i64 (E:Nat)] 94 (0,0)):=by rw [hW2,hzr];exact heap_alloc_new _ _
   have b2:Below z1 w1 W2:=by rw [hW2];exact HB.out.alloc (by omega) _
   have d0:W2.cell? ⟨zr,0,none⟩=some (.string X):=by rw [cell_of_row W2 zr 0 _ 94 (0,0) hr2];rfl
   have hml2:ML W2:=Hml.out.below (HB1.out.trans (b2.mono hsw)) Hml.out.lt;have C:=hidI (qfh hP (txtF ps) W2 hml2 hlen);rw [←hX] at C;have Hb2:=hidI b2;have HBl:Hid (S1.BlAt W2 ib n (inF ps)):=hidI (hBl.of_block (b2.block ib hibz));have HW2:=hidI hW2;have Hzr:=hidI hzr;have Hs2:=hidI s2;have Hr2:=hidI hr2;have HE:=hidI hE;have Hps:=hidI hps;have Hrec:=hidI hrec;have HTk:Hid (ys.take (i+1)=ys.take i++[(b,r)]):=hidI (by rw [List.take_add_one,List.getElem?_eq_getElem hiy,←hx];rfl);have Hsp:Hid (ord.reverse=ys.take i++(b,r) :: ys.drop (i+1)):=hidI (by
    rw [←Hys.out,hx,←List.drop_eq_getElem_cons hiy,List.take_append_drop])
   clear hBl b2 hW2 hzr s2 hr2 hE hps hrec hX hXS hml2 hx hxm hibe hne hlen;go_wp2_with (first | (rw [←HW2.out,←Hzr.out]) | fail);refine C.out.mono ?_;rintro e w3 ⟨hb3,⟨rfl,hno⟩ | ⟨tl,tb,hpar,htr,rfl,htb,hT⟩⟩
   ·have Hb3:Hid (Below z1 w1 w3):=hidI (Hb2.out.trans (hb3.mono (by rw [Hs2.out];omega)));have HN3:Hid (∀ x∈ys.take (i+1),NoTree u l x):=hidI (fun x hx=>by
     rw [HTk.out] at hx;rcases List.mem_append.1 hx with hx | hx
     ·exact HN.out x hx
     simp at hx;subst hx;intro tl htl;dsimp only at htl;rw [←Hps.out] at htl;exact hno tl htl)
    clear hb3 hno C HBl Hr2 d0 c0 c1 c2 c3 c4 HN;go_wp2_with fail;go_roundg (no - (i+1))
    case measure=>omega
    case rel=>exact ⟨i+1,by go_num,by omega,by omega,Hb3,HN3⟩
   have hb23:Below w.heap.size w w3:=HB1.out.trans ((Hb2.out.trans (hb3.mono (by rw [Hs2.out];omega))).mono hsw);have D:=hidI (qhJ w3 lo hi cb L m X b r E (some ib) (S1.MemX.below HC.out hsz hb23) (by have:=hb23.size;omega));have z2:W2.heap.size≤w3.heap.size:=hb3.size;rw [Hs2.out] at hb3 htb z2;have hr3:w3.heap[zr]? = some (.cells #[.string X,.int .i64 (b:Nat),.int .u32 (r:Nat),.map (some ib),.int .i64 (E:Nat)] 94 (0,0)):=(hb3.block zr (by omega)).trans Hr2.out;have e0:w3.cell? ⟨zr,0,none⟩=some (.string X):=by rw [cell_of_row w3 zr 0 _ 94 (0,0) hr3];rfl
   have e1:w3.cell? ⟨zr,1,none⟩=some (.int .i64 (b:Nat)):=by rw [cell_of_row w3 zr 1 _ 94 (0,0) hr3];rfl
   have e2:w3.cell? ⟨zr,2,none⟩=some (.int .u32 (r:Nat)):=by rw [cell_of_row w3 zr 2 _ 94 (0,0) hr3];rfl
   have e3:w3.cell? ⟨zr,3,none⟩=some (.map (some ib)):=by rw [cell_of_row w3 zr 3 _ 94 (0,0) hr3];rfl
   have e4:w3.cell? ⟨zr,4,none⟩=some (.int .i64 (E:Nat)):=by rw [cell_of_row w3 zr 4 _ 94 (0,0) hr3];rfl
   have hBl3:S1.BlAt w3 ib n (inF ps):=HBl.out.of_block (hb3.block ib (by omega));have HT':=hidI hT;have HBl3:=hidI hBl3;have Hb3:=hidI hb23;have Hpar:=hidI hpar;have Htr:=hidI htr;have HND:=HN;clear hb3 hpar htr hT hr3 hBl3 hb23 C d0 c0 c1 c2 c3 c4;go_wp2_with fail;refine D.out.mono ?_;rintro e w4 ⟨lb,rfl,hlb,hLg,hb4⟩;obtain ⟨W5,hW5⟩:∃ W5,W5=w4.alloc (.cells #[.pointer (some ⟨cb,0,none⟩),.pointer (some ⟨lb,0,none⟩),.map (some tb)] 79):=⟨_,rfl⟩;obtain ⟨fb,hfb⟩:∃ fb,fb=w4.heap.size:=⟨_,rfl⟩;have b5:Below w4.heap.size w4 W5:=by rw [hW5];exact (Below.refl _ _).alloc (Nat.le_refl _) _
   have hF5:FsAt W5 fb cb lb tb:=by rw [hW5,hfb];exact heap_alloc_new _ _
   have hT4:TreeAt w4 tb tl:=HT'.out.below hb4 HT'.out.lt;have HT5:Hid (TreeAt W5 tb tl):=hidI (hT4.below b5 hT4.lt);have hBl4:=HBl3.out.of_block (w':=w4) (hb4.block ib HBl3.out.lt);have HBl5:Hid (S1.BlAt W5 ib n (inF ps)):=hidI (hBl4.of_block (b5.block ib hBl4.lt));have HL5:Hid (S1.LogAt W5 lb cb ⟨b,r,none⟩ (some ib) none E m.np):=hidI ((b5.block lb (lt_of_heap hLg)).trans hLg);have Hb5:Hid (Below w.heap.size w W5):=hidI ((Hb3.out.trans (hb4.mono Hb3.out.size)).trans (b5.mono (by have:=Hb3.out.size;have:=hb4.size;omega)));have HW5:=hidI hW5;have Hfb:=hidI hfb;have HF5:=hidI hF5;have hfw:w.heap.size≤fb:=by have:=Hb3.out.size;have:=hb4.size;omega
   have hlw:w.heap.size≤lb:=by have:=Hb3.out.size;omega
   have htw:w.heap.size≤tb:=by omega
   have hit:ib<tb:=by omega
   clear hT4 hBl4 hLg hb4 b5 hF5 hW5 hfb D e0 e1 e2 e3 e4;go_wp2_with (first | (rw [←HW5.out,←Hfb.out]) | fail);go_ret2
   refine ⟨ord,HT.out,.inr ⟨ys.take i,(b,r),ys.drop (i+1),tl,Hsp.out,HND.out,?_⟩⟩;dsimp only;rw [←Hps.out];exact ⟨Hpar.out,Htr.out,Hrec.out,fb,lb,tb,ib,n,rfl,HF5.out,HT5.out,by rw [←HE.out];exact HL5.out,hn,HBl5.out,hfw,hlw,htw,hib,hit,Hb5.out⟩
  have hlt':¬((i:Nat):Int)<(no:Nat):=by omega
  have HNa:Hid (∀ x∈ord,NoTree u l x):=hidI (fun x hx=>HN.out x (by
   rw [List.take_of_length_le (by rw [Hyl.out];omega),Hys.out];exact List.mem_reverse.2 hx))
  clear HN;go_wp2_with fail;go_ret2
  exact ⟨ord,HT.out,.inl ⟨HNa.out,rfl,HB1.out.trans (HB.out.mono hsw)⟩⟩
end Go.Proofs.YtodmdkhdbfbfgaaGreatDoor
namespace Go.Proofs.YtodmdkhdbfbfgaaGreatDoor.S1
open Go.RowKit Pk
theorem qfm {m:M} (h:m.life = -1):(tick m).life = -1:=by
 unfold tick callF;show (if m.life=0 then _ else _:Int × Int × Int).2.1 = -1;rw [h];simp
 repeat' split
 all_goals rfl
theorem qd5 {m:M} (hw:WF m) (h:m.life = -1) (b p:Nat) (x:List UInt8):(progA m (b:Nat) (p:Nat) x).2.life = -1:=by
 have ht:=qfm h;rcases qaQ m b p x hw with ⟨_,_,_,_,_,_,_,e⟩ | ⟨_,e | ⟨e,_⟩ | ⟨_,_,_,_,_,c,_,⟨e,_⟩ | ⟨e,_⟩⟩⟩
 all_goals rw [e]
 ·exact ht
 ·exact h
 ·exact ht
 ·exact ht
 exact ht
theorem qeV {m:M} (h:m.life = -1) (b:Nat):(eraA m (b:Nat)).2.life = -1:=by
 have ht:=qfm h;rcases qaU m b with ⟨_,_,_,_,e⟩ | ⟨_,⟨e,_⟩ | ⟨e,_⟩ | ⟨_,_,⟨e,_⟩ | ⟨⟨k,e⟩,_⟩⟩⟩
 all_goals rw [e]
 ·exact ht
 ·exact h
 ·exact ht
 ·exact ht
 exact ht
theorem qbx (b:Nat):∀ (l:List (List UInt8)) (m:M) (p:Nat) (S:Nat→Bool),WF m→m.life = -1→(progL b l m p S).2.1.life = -1
 | [],m,p,S,_,h=>h
 | x :: xs,m,p,S,hw,h=>by
   rw [progL]
   split
   ·split
    ·exact qbx b xs _ _ _ (qaT hw _ _ _) (qd5 hw h _ _ _)
    exact qd5 hw h _ _ _
   exact h
theorem qci {m:M} (h:m.life = -1) (K Q:Nat→Bool) (b:Nat):(openF m K Q b).2.1.life = -1:=by
 unfold openF
 repeat' split
 all_goals first | exact h | exact qeV h _
theorem qke {s:LS} (hw:WF s.m) (h:s.m.life = -1) (K:Nat→Bool):(lay1 K s).m.life = -1∧WF (lay1 K s).m:=by
 unfold lay1
 split
 ·exact ⟨qbx _ _ _ _ _ (qbT hw K s.Q s.b) (qci h K s.Q s.b),qcD _ _ _ _ _ (qbT hw K s.Q s.b)⟩
 exact ⟨qci h K s.Q s.b,qbT hw K s.Q s.b⟩
theorem qdx {α:Type} (p q:α→Bool):∀ l:List α,l.countP (fun x=>p x||q x)≤l.countP p+l.countP q
 | []=>Nat.le_refl _
 | x :: l=>by
   have:=qdx p q l
   simp only [List.countP_cons];cases p x<;>cases q x<;>simp<;>omega
theorem qd3 (f:Nat→Bool):∀ l:List Nat,l.countP (fun i => !f i)+l.countP f=l.length
 | []=>rfl
 | x :: l=>by
   have:=qd3 f l
   simp only [List.countP_cons,List.length_cons];cases f x<;>simp<;>omega
def cntB (n:Nat) (S:Nat→Bool):Nat:=(List.range n).countP S
theorem qbX (n:Nat):cntB n (fun _=>false)=0:=by unfold cntB;simp
theorem qjs {n:Nat} {S R:Nat→Bool} (h:∀ i,S i=true→R i=true):cntB n S≤cntB n R:=List.countP_mono_left fun i _ hi=>h i hi
theorem qhd (b:Nat):∀ n,cntB n (fun j=>j==b)≤1∧(n≤b→cntB n (fun j=>j==b)=0)
 | 0=>⟨by simp [cntB],fun _=>rfl⟩
 | n+1=>by
   obtain ⟨h1,h2⟩:=qhd b n;have e:cntB (n+1) (fun j=>j==b)=cntB n (fun j=>j==b)+if n=b then 1 else 0:=by
    unfold cntB;rw [List.range_succ,List.countP_append];simp [List.countP_cons]
   rw [e]
   split
   ·rename_i hb
    have:=h2 (by omega)
    exact ⟨by omega,fun h=>by omega⟩
   exact ⟨by omega,fun h=>by have:=h2 (by omega);omega⟩
theorem ql5 (n b:Nat) (S:Nat→Bool):cntB n (fun j=>j==b||S j)≤cntB n S+1:=by
 have h1:=qdx (fun j=>j==b) S (List.range n);have h2:=(qhd b n).1;unfold cntB at *;omega
theorem qjT (b:Nat):∀ (l:List (List UInt8)) (m:M) (p:Nat) (S:Nat→Bool) (i:Nat),(progL b l m p S).2.2.2 i=true→(i==b||S i)=true
 | [],m,p,S,i,h=>by rw [progL] at h;simp only [] at h;rw [h,Bool.or_true]
 | x :: xs,m,p,S,i,h=>by
   rw [progL] at h
   split at h
   ·split at h
    ·have:=qjT b xs _ _ _ i h
     simp only [Bool.or_eq_true] at this ⊢;rcases this with h1 | h1 | h1
     ·exact .inl h1
     ·exact .inl h1
     exact .inr h1
    simp only [] at h;rw [h,Bool.or_true]
   simp only [] at h;rw [h,Bool.or_true]
theorem qdf (n b:Nat) (l:List (List UInt8)) (m:M) (p:Nat) (S:Nat→Bool):cntB n (progL b l m p S).2.2.2≤cntB n S+1:=
 Nat.le_trans (qjs fun i h=>qjT b l m p S i h) (ql5 n b S)
theorem qlx {m0:M} {K:Nat→Bool} {xs:List (List UInt8)} {b0 v:Nat} {s:LS} (h:LayG m0 K xs b0 v s) (hl:s.m.life = -1) (ho:(openF s.m K s.Q s.b).1=true):(LS.opn K s).prog.left.length≤s.left.length - m0.np:=by
 have hn1:=h.wf.nb1;have hlt:(s.b+1)%s.m.nb<s.m.nb:=Nat.mod_lt _ (by omega);obtain ⟨k1,k2,k3⟩:=qaO s.m K s.Q s.b;have hro:=qfS h.wf K h.rdy;have hwo:=qbT h.wf K s.Q s.b;have hlo:=qci hl K s.Q s.b;have hof:(openF s.m K s.Q s.b).2.1.fail<0:=by
  unfold openF
  split
  ·exact h.fail
  split
  ·exact h.fail
  cases hbd:s.m.bd ((s.b+1)%s.m.nb) with
  | true=>rw [qgb hbd];exact h.fail
  | false =>
    have:=qel h.fail hlt hbd
    split<;>exact this.1
 have hp0:(openF s.m K s.Q s.b).2.2.2=0:=by
  unfold openF at ho ⊢
  repeat' split at ho
  all_goals first | cases ho | skip
  all_goals simp_all
 obtain ⟨a1,a2,a3⟩:=qcy (Q:=(openF s.m K s.Q s.b).2.2.1) ((s.b+1)%s.m.nb) s.left (openF s.m K s.Q s.b).2.1 (openF s.m K s.Q s.b).2.2.2 s.S hwo hof hro h.lens;have a4:=qbx ((s.b+1)%s.m.nb) s.left (openF s.m K s.Q s.b).2.1 (openF s.m K s.Q s.b).2.2.2 s.S hwo hlo;rcases a3 with a3 | a3
 ·rw [a4] at a3;cases a3
 rw [hp0,k2,h.np,Nat.sub_zero] at a3;rw [hp0] at a4;show (progL _ s.left _ (openF s.m K s.Q s.b).2.2.2 s.S).1.length≤_;rw [hp0];exact a3
structure LayC (m0:M) (K:Nat→Bool) (xs:List (List UInt8)) (b0 v:Nat) (s:LS):Prop where
 g:LayG m0 K xs b0 v s
 life:s.m.life = -1
 part:s.left≠[]→cntB m0.nb s.S*m0.np+s.left.length≤xs.length
 all:cntB m0.nb s.S*m0.np<xs.length+m0.np
theorem LayC.round {m0:M} {K:Nat→Bool} {xs:List (List UInt8)} {b0 v:Nat} {s:LS} (h:LayC m0 K xs b0 v s) (hl:s.left≠[]):LayC m0 K xs b0 (v+1) (lay1 K s):=by
 have hg:=h.g.round (by rw [h.life];decide);have hlf:=(qke h.g.wf h.life K).1;refine ⟨hg,hlf,?_,?_⟩
 all_goals
  have hp:=h.part hl;have hl1:0<s.left.length:=List.length_pos_iff.2 hl;unfold lay1
  split
 ·rename_i ho;intro hne;have hf:=qlx h.g h.life ho;have hc:=qdf m0.nb ((s.b+1)%s.m.nb) s.left (openF s.m K s.Q s.b).2.1 (openF s.m K s.Q s.b).2.2.2 s.S;have hm:cntB m0.nb (LS.opn K s).prog.S*m0.np≤(cntB m0.nb s.S+1)*m0.np:=Nat.mul_le_mul_right m0.np hc;rw [Nat.add_mul,Nat.one_mul] at hm;have h1:0<(LS.opn K s).prog.left.length:=List.length_pos_iff.2 hne;omega
 ·exact fun _=>hp
 ·rename_i ho;have hc:=qdf m0.nb ((s.b+1)%s.m.nb) s.left (openF s.m K s.Q s.b).2.1 (openF s.m K s.Q s.b).2.2.2 s.S;have hm:cntB m0.nb (LS.opn K s).prog.S*m0.np≤(cntB m0.nb s.S+1)*m0.np:=Nat.mul_le_mul_right m0.np hc;rw [Nat.add_mul,Nat.one_mul] at hm;omega
 exact h.all
theorem LayC.rounds {m0:M} {K:Nat→Bool} {xs:List (List UInt8)} {b0:Nat}:∀ (k v:Nat) (s:LS),LayC m0 K xs b0 v s→∃ v',LayC m0 K xs b0 v' (layN K k s)
 | 0,v,s,h=>⟨v,h⟩
 | k+1,v,s,h=>by
   rw [layN]
   split
   ·exact ⟨v,h⟩
   rename_i hc;exact LayC.rounds k (v+1) _ (h.round fun e=>hc (.inl e))
theorem qca {m m':M} (h1:m'.nb=m.nb) (h2:m'.bd=m.bd):good m'=good m:=by
 unfold good badN;rw [h1,h2]
theorem qhr (m:M):(List.range m.nb).countP (fun i => !m.bd i)=good m:=by
 have h1:=qd3 m.bd (List.range m.nb);rw [List.length_range] at h1;have h2:(List.range m.nb).countP m.bd=badN m:=rfl;unfold good;omega
theorem qni (K:Nat→Bool) {s:LS} (h:s.p≤s.m.np):(lay1 K s).p≤(lay1 K s).m.np:=by
 obtain ⟨k1,k2,k3⟩:=qaO s.m K s.Q s.b;unfold lay1
 split
 ·obtain ⟨q1,q2,q3,q4⟩:=qaE ((s.b+1)%s.m.nb) s.left (openF s.m K s.Q s.b).2.1 (openF s.m K s.Q s.b).2.2.2 s.S;have q5:(LS.opn K s).prog.m.np=(openF s.m K s.Q s.b).2.1.np:=q2;rw [q5];exact q4 (by rw [k2];exact k3)
 show (openF s.m K s.Q s.b).2.2.2≤(openF s.m K s.Q s.b).2.1.np;rw [k2];exact k3
theorem qmk {K:Nat→Bool}:∀ {k:Nat} {s:LS},s.p≤s.m.np→(layN K k s).p≤(layN K k s).m.np
 | 0,s,h=>h
 | k+1,s,h=>by
   rw [layN]
   split
   ·exact h
   exact qmk (qni K h)
structure Snd (m:M) (K Q:Nat→Bool) (b p:Nat):Prop where
 wf:WF m
 life:m.life = -1
 fail:m.fail<0
 rdy:Rdy m Q b p
 few:cntB m.nb K≤good m/2
 b:b<m.nb
 p:p≤m.np
theorem Snd.lay {m:M} {K Q:Nat→Bool} {b p:Nat} (h:Snd m K Q b p) {xs:List (List UInt8)} (hx:∀ x∈xs,x.length=64) (h1:0<xs.length) (h2:xs.length≤roomP m) (s:LS) (hs:s=layF K ⟨xs,m,Q,b,p,fun _=>false⟩) :
 s.left=[]∧Snd s.m s.S s.Q s.b s.p∧s.m.nb=m.nb∧s.m.np=m.np∧s.m.bd=m.bd:=by
 have hg1:1≤good m/2:=by
  unfold roomP at h2;rcases Nat.eq_zero_or_pos (good m/2) with e | e
  ·rw [e,Nat.zero_mul] at h2;omega
  exact e
 have hnp:=h.wf.np1;unfold layF lay0 at hs;by_cases hc:xs.length+p≤m.np
 ·rw [if_pos (show (LS.mk xs m Q b p fun _=>false).left.length+(LS.mk xs m Q b p fun _=>false).p≤(LS.mk xs m Q b p fun _=>false).m.np from hc)] at hs;obtain ⟨a1,a2,a3⟩:=qcy (Q:=Q) b xs m p (fun _=>false) h.wf h.fail h.rdy hx;have a4:=qbx b xs m p (fun _=>false) h.wf h.life;have hleft:(progL b xs m p (fun _=>false)).1=[]:=by
   rcases a3 with a3 | a3
   ·rw [a4] at a3;cases a3
   exact List.eq_nil_of_length_eq_zero (by omega)
  rw [qcZ K (.inl hleft)] at hs;obtain ⟨k1,k2,k3,k4⟩:=qaE b xs m p (fun _=>false);have hcn:=qdf m.nb b xs m p (fun _=>false);rw [qbX] at hcn;subst hs;refine ⟨hleft,⟨qcD b xs m p _ h.wf,a4,a1,qdv b xs m p _ h.wf h.rdy,?_,?_,?_⟩,k1,k2,a2⟩
  ·show cntB (progL b xs m p (fun _=>false)).2.1.nb (progL b xs m p (fun _=>false)).2.2.2≤good (progL b xs m p (fun _=>false)).2.1/2;rw [qca k1 a2,k1];omega
  ·show b<(progL b xs m p (fun _=>false)).2.1.nb;rw [k1];exact h.b
  show (progL b xs m p (fun _=>false)).2.2.1≤(progL b xs m p (fun _=>false)).2.1.np;rw [k2];exact k4 h.p
 rw [if_neg (show ¬(LS.mk xs m Q b p fun _=>false).left.length+(LS.mk xs m Q b p fun _=>false).p≤(LS.mk xs m Q b p fun _=>false).m.np from hc)] at hs;have hG:LayG m K xs b 0 ⟨xs,m,Q,b,p,fun _=>false⟩:=⟨h.wf,rfl,rfl,by show b=(b+0)%m.nb;rw [Nat.add_zero,Nat.mod_eq_of_lt h.b],h.fail,rfl,h.rdy,hx,.inr (by simp [cntF])⟩;have hC:LayC m K xs b 0 ⟨xs,m,Q,b,p,fun _=>false⟩:=⟨hG,h.life,fun _=>by show cntB m.nb (fun _=>false)*m.np+xs.length≤_;rw [qbX];omega,by show cntB m.nb (fun _=>false)*m.np<_;rw [qbX];omega⟩;obtain ⟨v,hV⟩:=LayC.rounds m.nb 0 _ hC;rw [←hs] at hV;have hall:=qlO hG (by
  have e1:good m≤(List.range m.nb).countP (fun i => !K i && !m.bd i)+cntB m.nb K:=by
   rw [←qhr];refine Nat.le_trans (List.countP_mono_left fun i _ hi => ?_) (qdx _ K (List.range m.nb))
   revert hi
   cases K i<;>cases m.bd i<;>simp
  have e2:good m/2≤(List.range m.nb).countP (fun i => !K i && !m.bd i):=by have:=h.few;omega
  refine Nat.le_trans h2 ?_;unfold roomP;rw [Nat.mul_comm];exact Nat.mul_le_mul_left _ e2)
 have hleft:s.left=[]:=by
  have e:s=layN K m.nb ⟨xs,m,Q,b,p,fun _=>false⟩:=hs;rw [←e] at hall;rcases hall with h3 | h3
  ·rw [hV.life] at h3;cases h3
  exact h3
 have hgd:=qca hV.g.nb hV.g.bd;have hn1:=h.wf.nb1;refine ⟨hleft,⟨hV.g.wf,hV.life,hV.g.fail,hV.g.rdy,?_,?_,?_⟩,hV.g.nb,hV.g.np,hV.g.bd⟩
 ·rw [hgd,hV.g.nb];have e1:=hV.all;unfold roomP at h2;have e2:cntB m.nb s.S*m.np<(good m/2+1)*m.np:=by rw [Nat.add_mul,Nat.one_mul];omega
  have:=Nat.lt_of_mul_lt_mul_right e2
  omega
 ·rw [hV.g.b,hV.g.nb];exact Nat.mod_lt _ (by omega)
 by_cases hp:s.p≤s.m.np
 ·exact hp
 exact absurd hp (by
  have:=qmk (K:=K) (k:=m.nb) (s:=⟨xs,m,Q,b,p,fun _=>false⟩) h.p
  have e:s=layN K m.nb ⟨xs,m,Q,b,p,fun _=>false⟩:=hs;rw [←e] at this;exact fun h=>h this)
end Go.Proofs.YtodmdkhdbfbfgaaGreatDoor.S1
namespace Go.Proofs.YtodmdkhdbfbfgaaGreatDoor.S1
open Go.RowKit Pk
open Go.Nt (Fp nxt pagesN splitR pageB pgOf hasL hasL_iff scanF mem_scanF readP qea qbB qgD fpR lookF qcu)
theorem qdj {x:List UInt8} (h:x.length<64):readP (pad x)=none:=by
 apply qea
 unfold pad;rw [List.getD_eq_getElem?_getD,List.getElem?_append_right (by omega),List.getElem?_replicate];rw [if_pos (by omega)];rfl
theorem qhg {x:List UInt8} (h:x.length=64):pad x=x:=by
 unfold pad;rw [h];simp
theorem LayI.found {m0:M} {K:Nat→Bool} {bn kn:Nat} {t:List UInt8} {m:M} {S:Nat→Bool} {ps:List (Nat × Nat)} {left:List (List UInt8)} (h:LayI m0 K (splitR bn kn t) m S ps left) (hb:bn<256) (hn:kn<4294967296) (ho:pagesN t.length<65536) {f:Fp} (hf:f∈scanF (pgs m) m.np m.nb) :
 (∃ k i q,ps[k]? = some (i,q)∧k<pagesN t.length∧f=fpR bn kn t k i)∨f∈scanF (pgs m0) m0.np m0.nb:=by
 obtain ⟨i,p,q,hi,hp,hr,rfl⟩:=mem_scanF.1 hf;rcases h.page i p hi hp with h1 | ⟨x,hx,c,hc,e⟩ | e | e
 ·left
  obtain ⟨k,hk⟩:=List.getElem?_of_mem h1;obtain ⟨a1,a2,a3,a4,a5⟩:=h.posn k i p hk;have hkl:k<pagesN t.length:=by
   have:=(List.getElem?_eq_some_iff.1 a4).1
   rwa [Go.Nt.splitR_length] at this
  have e:m.pg i p=pageB (pgOf bn kn t k):=by
   unfold splitR at a4;rw [List.getElem?_map,List.getElem?_range hkl] at a4;simpa using a4.symm
  refine ⟨k,i,p,hk,hkl,?_⟩;have hok:=qgD (t:=t) hb hn hkl ho;unfold pgs at hr;rw [e,qhg (Go.Nt.pageB_length _ hok.t),qbB hok] at hr;cases hr
  rfl
 ·exfalso
  unfold pgs at hr;rw [e,qdj (by rw [List.length_take];omega)] at hr;cases hr
 ·exfalso
  unfold pgs at hr;rw [e,qdj (by decide)] at hr;cases hr
 right
 refine mem_scanF.2 ⟨i,p,q,by rw [←h.nb];exact hi,by rw [←h.np];exact hp,?_,rfl⟩;unfold pgs at hr ⊢;rw [←e];exact hr
theorem LayI.there {m0:M} {K:Nat→Bool} {bn kn:Nat} {t:List UInt8} {m:M} {S:Nat→Bool} {ps:List (Nat × Nat)} {left:List (List UInt8)} (h:LayI m0 K (splitR bn kn t) m S ps left) (hb:bn<256) (hn:kn<4294967296) (ho:pagesN t.length<65536) {k i q:Nat} (hk:ps[k]? = some (i,q)) :
 fpR bn kn t k i∈scanF (pgs m) m.np m.nb:=by
 obtain ⟨a1,a2,a3,a4,a5⟩:=h.posn k i q hk;have hkl:k<pagesN t.length:=by
  have:=(List.getElem?_eq_some_iff.1 a4).1
  rwa [Go.Nt.splitR_length] at this
 have e:m.pg i q=pageB (pgOf bn kn t k):=by
  unfold splitR at a4;rw [List.getElem?_map,List.getElem?_range hkl] at a4;simpa using a4.symm
 have hok:=qgD (t:=t) hb hn hkl ho;have h6:readP (pgs m i q)=some { pgOf bn kn t k with text:=(pgOf bn kn t k).text++List.replicate (51 - (pgOf bn kn t k).text.length) 0 }:=by
  unfold pgs;rw [e,qhg (Go.Nt.pageB_length _ hok.t)];exact qbB hok
 exact mem_scanF.2 ⟨i,q,_,a1,a2,h6,rfl⟩
structure New (m:M):Prop where
 wf:WF m
 life:m.life = -1
 fail:m.fail<0
 pg:∀ i p,m.pg i p=[]
 nx:∀ i,m.nx i=0
theorem New.era {m:M} (h:New m) (b:Nat) (hb:b<m.nb):eraA m (b:Nat)=(!m.bd b,m):=by
 cases hbd:m.bd b with
 | true=>exact qgb hbd
 | false =>
   have ht:tick m=m:=by
    unfold tick callF;have h1:=h.life;have h2:=h.fail;cases m
    simp only at h1 h2;subst h1;simp [h2]
   have hn:=qel h.fail hb hbd;rcases qaU m b with ⟨h1,_,_,_,e⟩ | ⟨h1,_⟩
   ·refine Prod.ext (by rw [h1];rfl) ?_;rw [e,ht];have h3:=h.pg;have h4:=h.nx;cases m
    simp only at h3 h4;simp only [setN,setE]
    congr 1
    ·funext a c
     split
     ·rw [h3]
     rfl
    funext a
    split
    ·rw [h4]
    rfl
   rcases hn.2.2 with h2 | h2
   ·rw [h1] at h2;cases h2
   have:=qeV h.life b
   rw [h2] at this;cases this
theorem New.eraAll {m:M} (h:New m):∀ k,k≤m.nb→S1.eraAll m k=(m,fun j=>decide (j<k) && !m.bd j)
 | 0,_=>by
   rw [S1.eraAll];refine Prod.ext rfl ?_
   funext j
   simp
 | k+1,hk=>by
   have ih:=New.eraAll h k (by omega);rw [S1.eraAll,ih];simp only [];rw [h.era k (by omega)];refine Prod.ext rfl ?_
   funext j
   simp only [];cases hb:m.bd k with
   | true =>
     simp only [Bool.not_true,Bool.false_eq_true,if_false];by_cases e:j=k
     ·subst e;simp [hb]
     have:decide (j<k+1)=decide (j<k):=by simp;omega
     rw [this]
   | false =>
     simp only [Bool.not_false,if_true];by_cases e:j=k
     ·subst e;simp [hb]
     have h1:decide (j<k+1)=decide (j<k):=by simp;omega
     have h2:(j==k)=false:=by simp [e]
     rw [h1,h2,Bool.false_or]
theorem New.scan {m:M} (h:New m) (np:Nat):∀ k,scanF (pgs m) np k=[]:=by
 intro k;cases hs:scanF (pgs m) np k with
 | nil=>rfl
 | cons f fs =>
   obtain ⟨i,p,q,_,_,hr,_⟩:=mem_scanF.1 (show f∈scanF (pgs m) np k by rw [hs];simp);unfold pgs at hr;rw [h.pg,qdj (by decide)] at hr;cases hr
theorem New.renew {m:M} (h:New m) {t:List UInt8} (ht:0<t.length) (hm:mayE m t.length=0) :
 (renA m t).1=0∧WF (renA m t).2∧(renA m t).2.life = -1∧∃ blk:Nat→Nat,(∀ k,k<pagesN t.length→lookF (scanF (pgs (renA m t).2) (renA m t).2.np (renA m t).2.nb) (badN m) 1 k=some (fpR (badN m) 1 t k (blk k)))∧(∀ f∈scanF (pgs (renA m t).2) (renA m t).2.np (renA m t).2.nb,f.bad=badN m∧f.num=1)∧(renA m t).2.fail<0∧(renA m t).2.bd=m.bd∧(renA m t).2.nb=m.nb∧(renA m t).2.np=m.np∧∃ S,cntB m.nb S≤good m/2∧∀ k,k<pagesN t.length→S (blk k)=true∧blk k<m.nb:=by
 have hw:=h.wf;have he:=h.eraAll m.nb (Nat.le_refl _);have hroom:pagesN t.length≤roomP m:=by
  unfold mayE at hm
  split at hm
  ·omega
  split at hm<;>omega
 have hr256:=qhi hw;have hbn:=badN_le m;have h32:=hw.nb2;have h4:=hw.nb1;have hpn:0<pagesN t.length:=by unfold pagesN;omega
 have hnum:numN m ⟨0,0,none⟩ (hasL (scanF (pgs m) m.np m.nb))=1:=by
  unfold numN;rw [h.scan];exact Go.Nt.nxt_here (by decide) rfl
 obtain ⟨Q1,hQ1⟩:∃ Q1,Q1=fun j=>decide (j<m.nb) && !m.bd j:=⟨_,rfl⟩
 obtain ⟨s0,hs0⟩:∃ s0:LS,s0=⟨splitR (badN m) 1 t,m,Q1,m.nb - 1,m.np,fun _=>false⟩:=⟨_,rfl⟩;have hS:renS m Q1 t=layN (fun _=>false) m.nb s0:=by
  unfold renS addS;rw [hnum];unfold layF lay0;rw [if_neg (by show ¬(splitR (badN m) 1 t).length+m.np≤m.np;rw [Go.Nt.splitR_length];omega),hs0]
 have hSd:Snd m (fun _=>false) Q1 (m.nb - 1) m.np:=⟨hw,h.life,h.fail,Rdy.shut m Q1 _ (fun i hi=>by
  rw [hQ1] at hi;simp only [Bool.and_eq_true,decide_eq_true_eq,Bool.not_eq_true'] at hi;exact ⟨hi.1,hi.2,h.nx i⟩),by rw [qbX];exact Nat.zero_le _,by omega,Nat.le_refl _⟩
 have hlf0:layF (fun _=>false) ⟨splitR (badN m) 1 t,m,Q1,m.nb - 1,m.np,fun _=>false⟩=layN (fun _=>false) m.nb s0:=by
  unfold layF lay0;rw [if_neg (by show ¬(splitR (badN m) 1 t).length+m.np≤m.np;rw [Go.Nt.splitR_length];omega),hs0]
 obtain ⟨hall,hSn,hnbN,hnpN,hbdN⟩:=hSd.lay (qeO (badN m) 1 t) (by rw [Go.Nt.splitR_length];exact hpn) (by rw [Go.Nt.splitR_length];exact hroom) _ hlf0.symm;have hren:renA m t=(0,(layN (fun _=>false) m.nb s0).m):=by
  unfold renA;rw [if_neg (by simp [hm]),he];simp only [];rw [if_neg (by simp [hm]),←hQ1,hS,if_pos hall]
 have hV:LayV m (fun _=>false) (splitR (badN m) 1 t) (m.nb - 1) 0 s0 []:=by
  rw [hs0];refine ⟨LayI.start hw _ _,?_,fun i hi=>(by cases hi),Nat.le_refl _⟩;show m.nb - 1=(m.nb - 1+0)%m.nb;rw [Nat.add_zero,Nat.mod_eq_of_lt (by omega)]
 obtain ⟨v,ps,_,hL⟩:=LayV.rounds (by omega) m.nb 0 s0 [] hV (by omega);obtain ⟨m',hm'⟩:∃ m',m'=(layN (fun _=>false) m.nb s0).m:=⟨_,rfl⟩;have hI:=hL.lay;rw [hall,←hm'] at hI;rw [hren];simp only [←hm'];have hb256:badN m<256:=by omega
 have ho:pagesN t.length<65536:=by omega
 have hpl:ps.length=pagesN t.length:=by
  have h1:=hI.part;have h2:=congrArg List.length h1;rw [List.length_drop,Go.Nt.splitR_length] at h2;have h3:=hI.le;rw [Go.Nt.splitR_length] at h3;simp at h2;omega
 have honly:∀ f∈scanF (pgs m') m'.np m'.nb,∃ k i q,ps[k]? = some (i,q)∧f=fpR (badN m) 1 t k i:=fun f hf=>by
  rcases hI.found hb256 (by decide) ho hf with ⟨k,i,q,h1,_,h2⟩ | h1
  ·exact ⟨k,i,q,h1,h2⟩
  rw [h.scan] at h1;cases h1
 refine ⟨by simp,by rw [hm'];exact hSn.wf,by rw [hm'];exact hSn.life,fun k=>(ps.getD k (0,0)).1,fun k hk => ?_,fun f hf => ?_,by rw [hm'];exact hSn.fail,by rw [hm'];exact hbdN,by rw [hm'];exact hnbN,by rw [hm'];exact hnpN,(layN (fun _=>false) m.nb s0).S,by have:=hSn.few;rw [qca hnbN hbdN,hnbN] at this;exact this,fun k hk => ?_⟩
 ·obtain ⟨x,hx⟩:∃ x,ps[k]? = some x:=⟨_,List.getElem?_eq_getElem (by omega)⟩;obtain ⟨i,q⟩:=x;have hmem:=hI.there hb256 (by decide) ho hx;have e:(ps.getD k (0,0)).1=i:=by rw [List.getD_eq_getElem?_getD,hx];rfl
  show lookF (scanF (pgs m') m'.np m'.nb) (badN m) 1 k=some (fpR (badN m) 1 t k (ps.getD k (0,0)).1);rw [e];exact qcu hmem (fun y hy h1 h2 h3=>by
   obtain ⟨k',i',q',hx',rfl⟩:=honly y hy;have hkk:k'=k:=h3;subst hkk;rw [hx] at hx';cases hx'
   rfl)
 ·obtain ⟨k,i,q,_,rfl⟩:=honly f hf;exact ⟨rfl,rfl⟩
 obtain ⟨x,hx⟩:∃ x,ps[k]? = some x:=⟨_,List.getElem?_eq_getElem (by omega)⟩;obtain ⟨i,q⟩:=x;have e:(ps.getD k (0,0)).1=i:=by rw [List.getD_eq_getElem?_getD,hx];rfl
 obtain ⟨a1,_,_,_,a5⟩:=hI.posn k i q hx;show (layN (fun _=>false) m.nb s0).S (ps.getD k (0,0)).1=true∧(ps.getD k (0,0)).1<m.nb;rw [e];exact ⟨a5,by rw [←hnbN,←hm'];exact a1⟩
end Go.Proofs.YtodmdkhdbfbfgaaGreatDoor.S1
namespace Go.Proofs.YtodmdkhdbfbfgaaGreatDoor.S1
open Go.RowKit Pk
theorem Tryz.info4:(Tryz.prog.info? 4).map (fun i=>(i.zero,i.size,i.bytes))=some (some (.bool false),1,1):=by kernel_rfl
theorem copy_any (w:World) (lo hi cb:Nat) (L:Loc) (m:M) (hw:WF m) (h:CP w lo hi cb L m) (hsz:hi≤w.heap.size) :
 Calls Tryz.prog 21 #[.pointer (some ⟨cb,0,none⟩)] w fun e w'=>∃ L',e=.returned (.pointer (some ⟨w.heap.size,0,none⟩))∧CP w' w.heap.size w'.heap.size w.heap.size L' m∧Below w.heap.size w w':=by
 have c0:=MemX.c0 h;have c1:=MemX.c1 h;have c2:=MemX.c2 h;have c3:=MemX.c3 h;have c4:=MemX.c4 h;have c5:=MemX.c5 h;have c6:=MemX.c6 h;have c7:=MemX.c7 h;have hnb1:=hw.nb1;have hnb2:=hw.nb2;have hnp1:=hw.np1;have hnp2:=hw.np2;have Hh:Hid (∀ W,Below w.heap.size w W→CP W lo hi cb L m):=fun W hb=>MemX.below h hsz hb
 clear h;go_enter Tryz.func21,Tryz.ntmps21
 go_wp2;have hG:cb<w.heap.size:=Nat.lt_of_lt_of_le (Hh.out _ (Below.refl _ _)).hcb.2 hsz;have Hst0:=hidI (heap_alloc_new w (Obj.cells #[.int .i64 (m.np:Nat),.slice none 0 0,.slice (some ⟨L.nk,0,none⟩) m.nb L.cn,.slice (some ⟨L.bk,0,none⟩) m.nb L.ck,.int .i64 m.life,.int .i64 m.cut,.int .i64 m.fail,.int .i64 m.part] 74));have Hb0:=hidI ((Below.refl w.heap.size w).alloc (Nat.le_refl _) (Obj.cells #[.int .i64 (m.np:Nat),.slice none 0 0,.slice (some ⟨L.nk,0,none⟩) m.nb L.cn,.slice (some ⟨L.bk,0,none⟩) m.nb L.ck,.int .i64 m.life,.int .i64 m.cut,.int .i64 m.fail,.int .i64 m.part] 74));clear c0 c1 c2 c3 c4 c5 c6 c7;obtain ⟨i0,hi0,hz0,hz1,hz2⟩:=info_parts Tryz.info23;obtain ⟨j0,gi,gz0,gz1,gz2⟩:=info_parts Tryz.info9;obtain ⟨k0,ki,kz0,kz1,kz2⟩:=info_parts Tryz.info3;obtain ⟨l0,li,lz0,lz1,lz2⟩:=info_parts Tryz.info4;obtain ⟨G,hGe⟩:∃ G,G=w.heap.size:=⟨_,rfl⟩;rw [←hGe] at Hst0 Hb0 Hh hG hsz ⊢
 have HGe:=hidI hGe;clear hGe
 go_loopw [4] (fun x wr=>∃ k:Nat,k≤m.nb∧x=.int .i64 k∧∃ da dc rw cr,wr.heap[G]? = some (.cells #[.int .i64 (m.np:Nat),.slice da k dc,.slice (some ⟨L.nk,0,none⟩) m.nb L.cn,.slice (some ⟨L.bk,0,none⟩) m.nb L.ck,.int .i64 m.life,.int .i64 m.cut,.int .i64 m.fail,.int .i64 m.part] 74 (0,0))∧Data wr G (.slice da k dc) k m.np rw cr (fun i p=>id (m.pg i p))∧Below G w wr) (fun x _=>m.nb - (intOf x).toNat)
 case atStart=>exact ⟨0,by omega,rfl,none,0,fun _=>0,fun _=>0,Hst0.out,Data.nil _ _ _ _ _ _,Hb0.out⟩
 case round =>
  clear Hst0 Hb0;obtain ⟨k,hk,rfl,da,dc,rw,cr,hst,hdat,hbel⟩:=hrel;have hm:=Hh.out _ hbel;have c1:=MemX.c1 hm;have hGr:G<wr.heap.size:=lt_of_heap hst;by_cases hlt:k<m.nb
  ·have cd:=hm.data.cell hlt;have hrow:=hm.page k hlt;have Hst:=hidI hst;have Hdat:=hidI hdat;have Hbel:=hidI hbel;have Hm:=hidI hm;clear hst hdat hbel hm;have x0:wr.cell? ⟨G,1,none⟩=some (.slice da k dc):=by rw [cell_of_row wr G 1 _ 74 (0,0) Hst.out];rfl
   have hl0:(((List.range m.np).map fun p=>Value.string (txt (id (m.pg k p))))).length=m.np*1:=by simp
   have h1c:∀ u∈((List.range m.np).map fun p=>Value.string (txt (id (m.pg k p)))),u.oneCell'=true:=(by intro u hu;simp at hu;obtain ⟨p,_,rfl⟩:=hu;rfl);have Hrn:=hidI hrow.news;clear hrow;go_wp2_with fail;go_region_law (first
    | (refine step_append_lies _ (by rfl) _ _ _ (by rfl) G 9 j0 _ 1 16 Tryz.underlying40 gi gz0 gz1 gz2 rfl (by omega) (.slice none 0 0) 0 [] (by rfl) (World.ownsRow_nil _ _ _ _) ⟨L.rw k,0,none⟩ m.np (L.cr k) ((List.range m.np).map fun p=>Value.string (txt (id (m.pg k p)))) (by rfl) hl0 Hrn.out h1c (by omega) (by unfold maxLen;omega) (by omega) (by simp;omega) wr.heap.size (by simp) ?_;intro g cap w1 hown hgrow hat hlt1;have HgW:Hid (g=wr.heap.size):=(by rcases hat with h | h;(· simp [Value.ownBlock] at h);(· exact h));have K1:∀ t,Keeps t wr w1:=(fun t k x f e=>hgrow.block k (lt_of_heap e) (by simp [Value.ownBlock]));have hst1:=(K1 74).block Hst.out;have Hbel1:Hid (Below G w w1):=Hbel.out.drew.grown hgrow (Nat.le_of_lt hGr) (fun q hq=>by simp [Value.ownBlock] at hq);have x1:w1.cell? ⟨G,1,none⟩=some (.slice da k dc):=(by rw [cell_of_row w1 G 1 _ 74 (0,0) hst1];rfl);have x1a:∀ o,(w1.alloc o).cell? ⟨G,1,none⟩=some (.slice da k dc):=(fun o=>(World.cell?_of_block (w:=w1) (Below.heap_alloc w1 o G (World.block_lt_of_cell? w1 ⟨G,1,none⟩ x1))).trans x1);have Hown23:=hidI ((K1 40).own Hdat.out.own);have Hrw1:Hid (Rw w1 g 9 m.np (fun p=>.string (txt (id (m.pg k p))))):=(by
        have hown:w1.ownsRow G 9 1 (.slice (some ⟨g,0,none⟩) m.np cap) m.np ((List.range m.np).map fun p=>.string (txt (id (m.pg k p)))):=(by simpa using hown);obtain ⟨g',cap',hgc,_,hrw1⟩:=qg7 hown (by omega);simp at hgc;obtain ⟨rfl,rfl⟩:=hgc;exact hrw1);have hgs:wr.heap.size≤w1.heap.size:=hgrow.size;have HK1:=hidI K1;have Hst1:=hidI hst1;clear hgrow hat hst1 hown K1)
    | (refine step_append_lies _ (by rfl) _ _ _ (by rfl) G 40 i0 _ 1 24 Tryz.underlying71 hi0 hz0 hz1 hz2 rfl (by omega) (.slice da k dc) k _ (by rfl) (Hown23.out.alloc _) ⟨w1.heap.size,0,none⟩ 1 1 [.slice (some ⟨g,0,none⟩) m.np cap] (by rfl) rfl (cell_one_new _ _ _) (by intro u hu;simp at hu;subst hu;rfl) (by omega) (by unfold maxLen;omega) (by omega) (by simp;omega) (w1.heap.size+1) (by simp) ?_;intro g2 cap2 w2 hown2 hgrow2 hat2 hlt2;have K2:∀ t,t≠40→Keeps t w1 w2:=(fun t ht=>((Keeps.refl t w1).alloc _).grown (Hown23.out.alloc _) (fun e=>ht e.symm) hgrow2);have hst2:=(K2 74 (by decide)).block Hst1.out;have x2:w2.cell? ⟨G,1,none⟩=some (.slice da k dc):=(by rw [cell_of_row w2 G 1 _ 74 (0,0) hst2];rfl);have f2:=frozen_of_row w2 G 1 _ 74 hst2;have Hbel2:Hid (Below G w w2):=(Hbel1.out.alloc (Nat.le_trans (Nat.le_of_lt hGr) hgs) _).grown hgrow2 (by simp;omega) (fun q hq=>(Hown23.out.lt q hq).1);have HK2:=hidI K2;have Hst2:=hidI hst2;have Hown2:=hidI hown2;clear hown2 hgrow2 hat2 K2 hst2))
   all_goals have hst3:=heap_setCell_same w2 G 1 _ 74 (.slice (some ⟨g2,0,none⟩) (k+1) cap2) Hst2.out
   all_goals have K9:Keeps 9 wr (w2.setCell ⟨G,1,none⟩ (.slice (some ⟨g2,0,none⟩) (k+1) cap2)):=((HK1.out 9).trans (HK2.out 9 (by decide))).set Hst2.out (by decide)
   all_goals have K23:Keeps 40 w2 (w2.setCell ⟨G,1,none⟩ (.slice (some ⟨g2,0,none⟩) (k+1) cap2)):=(Keeps.refl _ _).set Hst2.out (by decide)
   all_goals have K9':Keeps 9 w1 (w2.setCell ⟨G,1,none⟩ (.slice (some ⟨g2,0,none⟩) (k+1) cap2)):=(HK2.out 9 (by decide)).set Hst2.out (by decide)
   all_goals have hdat3:=Hdat.out.push K9 (r:=g) (c:=cap) (f:=fun p=>id (m.pg k p)) (by rw [HgW.out];omega) (by rw [HgW.out];omega) (K9'.rw Hrw1.out) (K23.own Hown2.out)
   all_goals have hpe:put (fun i p=>id (m.pg i p)) k (fun p=>id (m.pg k p))=fun i p=>id (m.pg i p):=(by
    funext a b
    unfold put;by_cases e:a=k
    ·rw [if_pos e,e]
    rw [if_neg e])
   all_goals rw [hpe] at hdat3
   all_goals have Hbel3:=hidI (Hbel2.out.setCell (p:=⟨G,1,none⟩) (Nat.le_refl _) (.slice (some ⟨g2,0,none⟩) (k+1) cap2))
   all_goals have Hst3:=hidI hst3
   all_goals have Hdat3:=hidI hdat3
   all_goals clear hst3 hdat3 K9 K23 K9' hpe
   all_goals go_wp2
   all_goals (go_roundw;(case rel=>exact ⟨k+1,by omega,by go_num,some ⟨g2,0,none⟩,cap2,_,_,Hst3.out,Hdat3.out,Hbel3.out⟩);(case measure=>simp [intOf];omega))
  have hke:m.nb=k:=by omega
  subst hke;have a1:=MemX.c2 hm;have Hst:=hidI hst;have Hdat:=hidI hdat;have Hbel:=hidI hbel;have hrn:=hm.next;clear hst hdat hbel hm;go_wp2_with (at_builtin;refine wpList_append_lies _ rfl _ _ 22 rfl G 3 k0 (.int .i64 0) 1 8 Tryz.underlying22 ki kz0 kz1 kz2 rfl (by decide) (.slice none 0 0) 0 [] rfl (World.ownsRow_nil _ _ _ _) ⟨L.nk,0,none⟩ m.nb L.cn ((List.range m.nb).map fun i=>.int .i64 (m.nx i:Nat)) rfl ?c0 ?c1 ?c2 ?c3 ?c4 ?c5 ?c6 wr.heap.size rfl ?_)
  case c0=>simp
  case c1=>exact hrn.news
  case c2=>intro u hu;simp at hu;obtain ⟨p,_,rfl⟩:=hu;rfl
  case c3=>omega
  case c4=>unfold maxLen;omega
  case c5=>omega
  case c6=>omega
  intro g cap w1 hown hgrow hat hlt1;have hown1:w1.ownsRow G 3 1 (.slice (some ⟨g,0,none⟩) m.nb cap) m.nb ((List.range m.nb).map fun i=>.int .i64 (m.nx i:Nat)):=(by simpa using hown);have K1:∀ t,Keeps t wr w1:=fun t k x f e=>hgrow.block k (lt_of_heap e) (by simp [Value.ownBlock])
  have hst1:=(K1 74).block Hst.out;have z2:w1.cell? ⟨G,2,none⟩=some (.slice (some ⟨L.nk,0,none⟩) m.nb L.cn):=(by rw [cell_of_row w1 G 2 _ 74 (0,0) hst1];rfl);have zf:=frozen_of_row w1 G 2 _ 74 hst1;have hstB:=heap_setCell_same w1 G 2 _ 74 (.slice (some ⟨g,0,none⟩) m.nb cap) hst1;have hownB:=((Keeps.refl 3 w1).set (o:=2) (v:=.slice (some ⟨g,0,none⟩) m.nb cap) hst1 (by decide)).own hown1;have hdatB:=Hdat.out.keep ((K1 9).set (o:=2) (v:=.slice (some ⟨g,0,none⟩) m.nb cap) hst1 (by decide)) ((K1 40).set (o:=2) (v:=.slice (some ⟨g,0,none⟩) m.nb cap) hst1 (by decide));have hbelB:Below G w (w1.setCell ⟨G,2,none⟩ (.slice (some ⟨g,0,none⟩) m.nb cap)):=(Hbel.out.grown hgrow (Nat.le_of_lt hGr) (fun q hq=>by simp [Value.ownBlock] at hq)).setCell (Nat.le_refl _) _;have HstB:=hidI hstB;have HownB:=hidI hownB;have HdatB:=hidI hdatB;have HbelB:=hidI hbelB;have hmb:=Hh.out _ hbelB;have b3:=MemX.c3 hmb
  have hrb:=hmb.bad;have hGb:G<(w1.setCell ⟨G,2,none⟩ (.slice (some ⟨g,0,none⟩) m.nb cap)).heap.size:=lt_of_heap hstB;clear hstB hownB hdatB hbelB hmb hst1 hown hown1 hgrow hat K1 Hst Hdat Hbel hrn a1;go_wp2_with (at_builtin;refine wpList_append_lies _ rfl _ _ 72 rfl G 4 l0 (.bool false) 1 1 Tryz.underlying72 li lz0 lz1 lz2 rfl (by decide) (.slice none 0 0) 0 [] rfl (World.ownsRow_nil _ _ _ _) ⟨L.bk,0,none⟩ m.nb L.ck ((List.range m.nb).map fun i=>.bool (m.bd i)) rfl ?c0 ?c1 ?c2 ?c3 ?c4 ?c5 ?c6 (w1.setCell ⟨G,2,none⟩ (.slice (some ⟨g,0,none⟩) m.nb cap)).heap.size rfl ?_)
  case c0=>simp
  case c1=>exact hrb.news
  case c2=>intro u hu;simp at hu;obtain ⟨p,_,rfl⟩:=hu;rfl
  case c3=>omega
  case c4=>unfold maxLen;omega
  case c5=>omega
  case c6=>omega
  intro g3 cap3 w3 hown hgrow hat hlt3;have hown1:w3.ownsRow G 4 1 (.slice (some ⟨g3,0,none⟩) m.nb cap3) m.nb ((List.range m.nb).map fun i=>.bool (m.bd i)):=(by simpa using hown);have K1:∀ t,Keeps t (w1.setCell ⟨G,2,none⟩ (.slice (some ⟨g,0,none⟩) m.nb cap)) w3:=fun t k x f e=>hgrow.block k (lt_of_heap e) (by simp [Value.ownBlock])
  have hst1:=(K1 74).block HstB.out;have y2:w3.cell? ⟨G,3,none⟩=some (.slice (some ⟨L.bk,0,none⟩) m.nb L.ck):=(by rw [cell_of_row w3 G 3 _ 74 (0,0) hst1];rfl);have yf:=frozen_of_row w3 G 3 _ 74 hst1;have hstD:=heap_setCell_same w3 G 3 _ 74 (.slice (some ⟨g3,0,none⟩) m.nb cap3) hst1;have hownD:=((Keeps.refl 4 w3).set (o:=3) (v:=.slice (some ⟨g3,0,none⟩) m.nb cap3) hst1 (by decide)).own hown1;have hownN:=((K1 3).set (o:=3) (v:=.slice (some ⟨g3,0,none⟩) m.nb cap3) hst1 (by decide)).own HownB.out;have hdatD:=HdatB.out.keep ((K1 9).set (o:=3) (v:=.slice (some ⟨g3,0,none⟩) m.nb cap3) hst1 (by decide)) ((K1 40).set (o:=3) (v:=.slice (some ⟨g3,0,none⟩) m.nb cap3) hst1 (by decide));have hbelD:Below G w (w3.setCell ⟨G,3,none⟩ (.slice (some ⟨g3,0,none⟩) m.nb cap3)):=(HbelB.out.grown hgrow (Nat.le_of_lt hGb) (fun q hq=>by simp [Value.ownBlock] at hq)).setCell (Nat.le_refl _) _
  have HE:=hidI (MemX.built (T:=74) (enc:=id) (g4:=m.life) (g5:=m.cut) (g6:=m.fail) (g7:=m.part) (by omega:0<m.nb) (by decide) (Nat.le_refl G) hstD hdatD (fun i p _ _=>rfl) hownN hownD);have HbelD:=hidI hbelD;clear hown1 hstD hownD hownN hdatD hbelD HstB HbelB HdatB HownB hst1 K1 hown hgrow hat z2 zf b3 hrb;go_wp2;go_ret
  obtain ⟨L',hL⟩:=HE.out;rw [←HGe.out];exact ⟨L',rfl,hL,HbelD.out⟩
end Go.Proofs.YtodmdkhdbfbfgaaGreatDoor.S1
namespace Go.Proofs.YtodmdkhdbfbfgaaGreatDoor
open Go.RowKit Go.Nt
theorem qcn (l:List It):weigh (qaf l)=weigh l:=((qaM l).map _).sum_nat
theorem qfL (l:List It) (p:Bs):dirAt (qaf l) p=dirAt l p:=by
 unfold dirAt;rw [Bool.eq_iff_iff,List.any_eq_true,List.any_eq_true];exact ⟨fun ⟨x,hx,h⟩=>⟨x,order_mem.1 hx,h⟩,fun ⟨x,hx,h⟩=>⟨x,order_mem.2 hx,h⟩⟩
theorem TreeP.orderA {l:List It} (h:TreeP l):TreeP (qaf l):=
 ⟨by rw [qao];exact h.len,fun x hx=>h.ok x (order_mem.1 hx),(((qaM l).map _).nodup_iff).2 h.nodup,fun x hx=>by rw [qfL];exact h.up x (order_mem.1 hx)⟩
def Laid (u:Bs→Option Bs) (m:S1.M) (l:List It):Prop:=S1.WF m∧m.life≠0∧∃ b r,b≤1000000∧r≤4294967295∧S1.wholeF (scanF (S1.pgs m) m.np m.nb) b r=true∧(∀ x y,S1.wholeF (scanF (S1.pgs m) m.np m.nb) x y=true→x=b∧y=r)∧parse u (txtF (S1.psOf (scanF (S1.pgs m) m.np m.nb) b r))=some (qaf l)
theorem New.laid {u:Bs→Option Bs} {m:S1.M} (hm:S1.New m) {l:List It} (ht:TreeP l) {t:Bs} (hT:IsText u (qaf l) t) (hmay:S1.mayE m t.length=0):(S1.renA m t).1=0∧Laid u (S1.renA m t).2 l:=by
 have hfit:∀ x∈l,Fit x:=fun x hx=>qaC (ht.ok x hx)
 have htp:=qdT hT;obtain ⟨hr0,hwf1,hlf1,blk,hlook,hlab,_⟩:=hm.renew htp hmay;obtain ⟨m1,hm1⟩:∃ m1,m1=(S1.renA m t).2:=⟨_,rfl⟩;rw [←hm1] at hwf1 hlf1 hlook hlab ⊢;have hbn2:S1.badN m≤32:=Nat.le_trans (S1.badN_le m) hm.wf.nb2;have hrec:=qhR htp hlook;obtain ⟨z,hz⟩:=qhC (S1.badN m) 1 t blk;have h0:=qaq (hlook 0 (by unfold pagesN;omega));refine ⟨hr0,hwf1,by rw [hlf1];decide,S1.badN m,1,by omega,by omega,?_,fun x y hxy => ?_,?_⟩
 ·unfold S1.wholeF;rw [hrec,hasL_iff.2 ⟨_,h0.1,h0.2.1,h0.2.2.1⟩];rfl
 ·unfold S1.wholeF at hxy;simp only [Bool.and_eq_true] at hxy;obtain ⟨f,hf,rfl,rfl⟩:=hasL_iff.1 hxy.1;exact hlab f hf
 unfold S1.psOf;rw [hrec];rw [Option.getD_some,hz];exact qih hT (fun x hx=>hfit x (order_mem.1 hx)) (by rw [qao];have:=ht.len;omega) z
def MtL (l:List It) (cb:Nat) (w:World) (e:Ending) (w':World):Prop:=∃ fb lb tb,e=.returned (.tuple #[.pointer (some ⟨fb,0,none⟩),.int .i64 0])∧FsAt w' fb cb lb tb∧TreeAt w' tb (qaf l)∧w.heap.size≤fb∧Below w.heap.size w w'
theorem qdS {u:Bs→Option Bs} (hP:PackC u) (w:World) (lo hi cb:Nat) (L:S1.Loc) (m:S1.M) (l:List It) (ht:TreeP l) (hL:Laid u m l) (h:S1.CP w lo hi cb L m) (hsz:hi≤w.heap.size) (hml:ML w) :
 Calls Tryz.prog 20 #[.pointer (some ⟨cb,0,none⟩)] w fun e w'=>MtL l cb w e w':=by
 obtain ⟨hwf,hlf,b,r,hb,hr,hwh,honly,hpar⟩:=hL;refine (mountA w lo hi cb L m hwf h hsz hlf _ rfl hml hP).mono ?_;rintro e w' ⟨ord,hTo,hc⟩;have hin:(b,r)∈ord:=qm2 hTo hb hr hwh;rcases hc with ⟨hno,_⟩ | ⟨pre,x,post,tl,hsp,_,hpx,htr,_,fb,lb,tb,ib,n,rfl,hF,hT,_,_,_,hfb,_,_,_,_,hbe⟩
 ·have:=hno _ hin _ hpar
  rw [(qaL _).2 ht.orderA] at this;cases this
 have hx:x∈ord:=List.mem_reverse.1 (by rw [hsp];simp);have h1:=(hTo.mem hx).2.2;obtain ⟨e1,e2⟩:=honly _ _ h1;rw [e1,e2,hpar] at hpx;cases hpx
 exact ⟨fb,lb,tb,rfl,hF,hT,hfb,hbe⟩
def MtdA (l:List It) (lo hi:Nat) (w:World) (e:Ending) (w':World):Prop:=
 ∃ fb xb lb tb,e=.returned (.tuple #[.pointer (some ⟨fb,0,none⟩),.pointer (some ⟨xb,0,none⟩)])∧FsAt w' fb xb lb tb∧TreeAt w' tb (qaf l)∧w.heap.size≤fb∧S1.Only lo hi w w'
theorem qlv {u:Bs→Option Bs} (hP:PackC u) (a:Option Addr) (c:Nat) (l:List It) (w:World) (lo hi cb:Nat) (L:S1.Loc) (m:S1.M) (hm:S1.New m) (h:S1.CP w lo hi cb L m) (hsz:hi≤w.heap.size) (hml:ML w) (hmlo:0<lo) (hl:ItsIn w a l) (ht:TreeP l) (hroom:pagesN (weigh l+1)≤S1.roomP m) :
 Calls Tryz.prog 11 #[.pointer (some ⟨cb,0,none⟩),.slice a l.length c] w fun e w'=>MtdA l lo hi w e w':=by
 have hfit:∀ x∈l,Fit x:=fun x hx=>qaC (ht.ok x hx)
 have A:=hidI (qdb hP a c l w lo hi cb L m hm.wf h hsz hml hmlo hl (by have:=ht.len;omega) (fun x hx=>by have:=(hfit x hx).p;omega) (fun x hx=>by have:=(hfit x hx).d;omega));have Hml:=hidI hml;unfold MtdA;clear h hml hl;go_enter Tryz.func11,Tryz.ntmps11
 go_wp2_with fail;refine A.out.mono ?_;rintro e w1 (⟨hno,_⟩ | ⟨hyes,t,hT,rfl,hC1,hO1⟩)
 ·rw [(qaL l).2 ht] at hno;cases hno
 have htl:=qce hT;rw [qcn] at htl;have hmay:S1.mayE m t.length=0:=by
  unfold S1.mayE;rw [if_neg (by rw [hm.life];decide),if_neg]
  have:pagesN t.length≤pagesN (weigh l+1):=by unfold pagesN;exact Nat.div_le_div_right (by omega)
  omega
 obtain ⟨hr0,hL1⟩:=New.laid hm ht hT hmay;obtain ⟨m1,hm1⟩:∃ m1,m1=(S1.renA m t).2:=⟨_,rfl⟩;rw [←hm1] at hL1 hC1;rw [hr0];have hsz1:hi≤w1.heap.size:=Nat.le_trans hsz hO1.size;have hml1:ML w1:=Hml.out.below (hO1.below (B:=1) hmlo (by have:=Hml.out.lt;omega)) (by omega);have C:=hidI (S1.copy_any w1 lo hi cb L m1 hL1.1 hC1 hsz1);have HO1:=hidI hO1;have Hml1:=hidI hml1;have HL1:=hidI hL1;clear hC1 hO1 hml1 hm1 hmay hT htl hL1 hr0 A hfit;go_wp2_with fail;refine C.out.mono ?_;rintro e w2 ⟨L',rfl,hC2,hb2⟩;obtain ⟨xb,hxb⟩:∃ xb,xb=w1.heap.size:=⟨_,rfl⟩;have hml2:ML w2:=Hml1.out.below hb2 Hml1.out.lt;rw [←hxb] at hC2 ⊢;have D:=hidI (qdS hP w2 xb w2.heap.size xb L' m1 l ht HL1.out hC2 (Nat.le_refl _) hml2);have HO2:=hidI (HO1.out.trans (S1.Only.of_below hb2));clear hC2 hb2 hml2 C hxb;go_wp2_with fail;refine D.out.mono ?_;rintro e w3 ⟨fb,lb,tb,rfl,hF,hT,hfb,hb3⟩;have HF:=hidI hF
 have HT:=hidI hT;have HO3:=hidI (HO2.out.trans (S1.Only.of_below hb3));have hw2:=HO2.out.size;clear hF hT hb3 D;go_wp2_with fail;go_ret2
 exact ⟨fb,xb,lb,tb,rfl,HF.out,HT.out,by omega,HO3.out⟩
theorem checkA (a:Option Addr) (c:Nat) (l:List It) (w:World) (hml:ML w) (hl:ItsIn w a l) (ht:TreeP l) :
 Calls Tryz.prog 22 #[.slice a l.length c] w fun e w'=>(∃ v,e=.returned (.tuple #[v,.int .i64 0]))∧Below w.heap.size w w':=by
 have hfit:∀ x∈l,Fit x:=fun x hx=>qaC (ht.ok x hx)
 have A:=hidI (new_any a c l w hml hl (by have:=ht.len;omega) (fun x hx=>by have:=(hfit x hx).p;omega) (fun x hx=>by have:=(hfit x hx).d;omega));have Hml:=hidI hml;have Ht:=hidI ht;have Hfit:=hidI hfit;clear hml hl hfit ht;go_enter Tryz.func22,Tryz.ntmps22
 go_wp2_with fail;refine A.out.mono ?_;rintro e w1 ⟨hb1,⟨hno,_⟩ | ⟨_,b,rfl,hb,hT⟩⟩
 ·rw [(qaL l).2 Ht.out] at hno;cases hno
 have B:=hidI (qdo b l w1 hT Ht.out.nodup (by have:=Ht.out.len;omega) (Hml.out.below hb1 Hml.out.lt) (fun x hx=>by have:=(Hfit.out x hx).p;omega));have Hb1:=hidI hb1;clear hb1 hT A;go_wp2_with fail;refine B.out.mono ?_;rintro e w2 ⟨hb2,v,rfl,hown⟩;have Hb2:=hidI (Hb1.out.trans (hb2.mono Hb1.out.size));obtain ⟨a5,c5,rfl,_⟩:=qbY (l:=qaf l) (by rw [qao];exact hown);clear hb2 hown;go_wp2_with fail;go_ret2
 exact ⟨⟨_,rfl⟩,Hb2.out⟩
end Go.Proofs.YtodmdkhdbfbfgaaGreatDoor
