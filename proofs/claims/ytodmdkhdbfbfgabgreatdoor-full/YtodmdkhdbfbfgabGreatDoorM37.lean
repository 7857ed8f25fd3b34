/- Lemmas and contracts for full. -/
import Derived.Lib.AppendZerosOnto
import Derived.Test.YtodmdkhdbfbfgabGreatDoorM36
import Derived.Test.YtodmdkhdbfbfgabGreatDoorM27
import Derived.Test.YtodmdkhdbfbfgabGreatDoorM22
import Derived.Test.YtodmdkhdbfbfgabGreatDoorM01
import Derived.Test.YtodmdkhdbfbfgabGreatDoorM02
set_option maxRecDepth 100000
set_option maxHeartbeats 8000000
namespace Go.Proofs.YtodmdkhdbfbfgabGreatDoor
open Go.RowKit Go.Nt
set_option linter.unusedVariables false
set_option linter.unusedSimpArgs false
theorem bl_map {w:World} {g n:Nat} {S:Nat→Bool} (h:S1.BlAt w g n S):∃ es c,w.heap[g]? = some (.map es c):=by
 obtain ⟨D,⟨es,c,hb,_⟩,_⟩:=h
 exact ⟨es,c,hb⟩
theorem tree_map {w:World} {g:Nat} {l:List It} (h:TreeAt w g l):∃ es c,w.heap[g]? = some (.map es c):=by
 obtain ⟨D,⟨es,c,hb,_⟩,_⟩:=h
 exact ⟨es,c,hb⟩
theorem map_ne {w:World} {g k:Nat} (h:∃ es c,w.heap[g]? = some (.map es c)) {x:Array Value} {t:TypeId} {f:Nat × Nat} (hk:w.heap[k]? = some (.cells x t f)):g≠k:=by
 rintro rfl
 obtain ⟨es,c,hb⟩:=h
 rw [hb] at hk
 cases hk
theorem fs_log {w:World} {fb cb lb tb cb' lb':Nat} {lv:S1.Lv} {kv qv:Option Nat} {b p:Nat} (h:FsAt w fb cb lb tb) (hl:S1.LogAt w lb' cb' lv kv qv b p):fb≠lb':=by
 rintro rfl
 have h1:=h.symm.trans hl
 injection h1 with h1
 injection h1 with _ h2
 exact absurd h2 (by decide)
def MtkP (l:List It) (m:S1.M) (lo hi:Nat) (w:World) (e:Ending) (w':World):Prop:=
 ∃ fb xb T,e=.returned (.tuple #[.pointer (some ⟨fb,0,none⟩),.pointer (some ⟨xb,0,none⟩)])∧FsK w' fb xb T m (inOrder l)∧(∀ k,T k→w.heap.size≤k)∧S1.Only lo hi w w'
theorem mounted_k {u:Bs→Option Bs} (hP:PackC u) (a:Option Addr) (c:Nat) (l:List It) (w:World) (lo hi cb:Nat) (L:S1.Loc) (m:S1.M) (hm:S1.New m) (h:S1.CP w lo hi cb L m) (hsz:hi≤w.heap.size) (hml:ML w) (hmlo:0<lo) (hl:ItsIn w a l) (ht:TreeP l) (hroom:pagesN (weigh l+1)≤S1.roomP m) :
 Calls Tryz.prog 6 #[.pointer (some ⟨cb,0,none⟩),.slice a l.length c] w fun e w'=>MtkP l m lo hi w e w':=by
 have hfit:∀ x∈l,Fit x:=fun x hx=>okItem_fit (ht.ok x hx)
 have A:=hidI (build_any hP a c l w lo hi cb L m hm.wf h hsz hml hmlo hl (by have:=ht.len;omega) (fun x hx=>by have:=(hfit x hx).p;omega) (fun x hx=>by have:=(hfit x hx).d;omega))
 have Hml:=hidI hml
 unfold MtkP
 clear h hml hl
 go_enter Tryz.func6,Tryz.ntmps6
 go_wp2_with fail
 refine A.out.mono ?_
 rintro e w1 (⟨hno,_⟩ | ⟨hyes,t,hT,rfl,hC1,hO1⟩)
 ·rw [(isTree_iff l).2 ht] at hno;cases hno
 have htp:=isText_pos hT
 have htl:=isText_len hT
 rw [weigh_order] at htl
 have hmay:S1.mayE m t.length=0:=by
  unfold S1.mayE
  rw [if_neg (by rw [hm.life];decide),if_neg]
  have:pagesN t.length≤pagesN (weigh l+1):=by unfold pagesN;exact Nat.div_le_div_right (by omega)
  omega
 obtain ⟨hr0,hwf1,hlf1,blk,hlook,hlab,hfl1,hbd1,hnb1,hnp1,S,hS1,hS2⟩:=hm.renew htp hmay
 obtain ⟨m1,hm1⟩:∃ m1,m1=(S1.renA m t).2:=⟨_,rfl⟩
 rw [←hm1] at hwf1 hlf1 hlook hlab hC1 hfl1 hbd1 hnb1 hnp1
 rw [hr0]
 obtain ⟨bn,hbn⟩:∃ bn,bn=S1.badN m:=⟨_,rfl⟩
 rw [←hbn] at hlook hlab
 have hbn2:bn≤32:=by rw [hbn];exact Nat.le_trans (S1.badN_le m) hm.wf.nb2
 have hrec:=recF_whole htp hlook
 obtain ⟨z,hz⟩:=txtF_whole bn 1 t blk
 have hone:∀ x y,hasL (scanF (S1.pgs m1) m1.np m1.nb) x y=(x==bn&&y==1):=fun x y=>by
  rw [Bool.eq_iff_iff,hasL_iff]
  simp only [Bool.and_eq_true,beq_iff_eq]
  constructor
  ·rintro ⟨f,hf,rfl,rfl⟩
   exact hlab f hf
  ·rintro ⟨rfl,rfl⟩
   have h0:=hlook 0 (by unfold pagesN;omega)
   have h1:=lookF_some h0
   exact ⟨_,h1.1,h1.2.1,h1.2.2.1⟩
 have hpar:parse u (txtF ((List.range (pagesN t.length)).map fun j=>fpR bn 1 t j (blk j)))=some (inOrder l):=by
  rw [hz]
  exact parse_back hT (fun x hx=>hfit x (order_mem.1 hx)) (by rw [order_length];have:=ht.len;omega) z
 have hlen:(txtF ((List.range (pagesN t.length)).map fun j=>fpR bn 1 t j (blk j))).length≤1000000:=by
  rw [txtF_len]
  ·simp only [List.length_map,List.length_range]
   have h1:=S1.roomP_le hm.wf
   have:pagesN t.length≤pagesN (weigh l+1):=by unfold pagesN;exact Nat.div_le_div_right (by omega)
   omega
  ·intro f hf
   simp at hf
   obtain ⟨k,_,rfl⟩:=hf
   unfold fpR
   simp
   omega
 have hsz1:hi≤w1.heap.size:=Nat.le_trans hsz hO1.size
 have hml1:ML w1:=Hml.out.below (hO1.below (B:=1) hmlo (by have:=Hml.out.lt;omega)) (by omega)
 have C:=hidI (S1.copy_any w1 lo hi cb L m1 hwf1 hC1 hsz1)
 have HO1:=hidI hO1
 have Hml1:=hidI hml1
 have hlf:m1.life≠0:=by rw [hlf1];decide
 obtain ⟨ps,hps⟩:∃ ps,ps=(List.range (pagesN t.length)).map fun j=>fpR bn 1 t j (blk j):=⟨_,rfl⟩
 rw [←hps] at hrec hpar hlen
 have HSnd:Hid (S1.Snd m1 (inF ps) (fun _=>false) (endF ps) m1.np):=hidI (by
  have hpn:0<pagesN t.length:=by unfold pagesN;omega
  have hlast:endF ps<m.nb:=by
   have e:ps.getLast? = some (fpR bn 1 t (pagesN t.length - 1) (blk (pagesN t.length - 1))):=by
    rw [hps,List.getLast?_map,List.getLast?_range,if_neg (by omega)]
    rfl
   unfold endF
   rw [e]
   exact (hS2 _ (by omega)).2
  refine ⟨hwf1,hlf1,hfl1,S1.Rdy.shut m1 _ _ (fun i hi=>by cases hi),?_,by rw [hnb1];exact hlast,Nat.le_refl _⟩
  rw [S1.good_congr hnb1 hbd1,hnb1]
  refine Nat.le_trans (S1.cntB_mono fun i hi => ?_) hS1
  unfold inF at hi
  rw [hps] at hi
  obtain ⟨f,hf,hfi⟩:=List.any_eq_true.1 hi
  obtain ⟨k,hk,rfl⟩:=List.mem_map.1 hf
  have:=(hS2 k (List.mem_range.1 hk)).1
  rw [←beq_iff_eq.1 hfi]
  exact this)
 have Hal:Hid (Alike' m m1):=hidI ⟨hnb1,hnp1,hbd1⟩
 have Hrec:=hidI hrec
 have Hpar:=hidI hpar
 have Hone:=hidI hone
 have Hwf1:=hidI hwf1
 clear hS1 hS2 hfl1 hbd1 hnb1 hnp1 hlook hlab hz hC1 hO1 hml1 hps hrec hpar hone hm1 hbn hmay hT htp htl hwf1 hlf1 hr0 A hfit
 go_wp2_with fail
 refine C.out.mono ?_
 rintro e w2 ⟨L',rfl,hC2,hb2⟩
 obtain ⟨xb,hxb⟩:∃ xb,xb=w1.heap.size:=⟨_,rfl⟩
 have hml2:ML w2:=Hml1.out.below hb2 Hml1.out.lt
 rw [←hxb] at hC2 ⊢
 have D:=hidI (mount1 w2 xb w2.heap.size xb L' m1 Hwf1.out hC2 (Nat.le_refl _) hlf _ rfl bn 1 (by omega) (by omega) Hone.out ps Hrec.out (fun f hf=>⟨(scanF_ok hf).1,by have:=(scanF_ok hf).2;have:=Hwf1.out.nb2;omega⟩) hml2 hP (inOrder l) Hpar.out ((isTree_iff _).2 ht.order) hlen)
 have HO2:=hidI (HO1.out.trans (S1.Only.of_below hb2))
 have HC2:=hidI hC2
 have hxw:w.heap.size≤xb:=by rw [hxb];exact HO1.out.size
 have hx2:xb≤w2.heap.size:=by rw [hxb];exact hb2.size
 clear hC2 hb2 hml2 C hxb
 go_wp2_with fail
 refine D.out.mono ?_
 rintro e w3 ⟨fb,lb,tb,ib,n,rfl,hF,hT,hLg,hn,hBl,hfb,hlb,htb,hib,hit,hb3⟩
 have n1:ib≠lb:=map_ne (bl_map hBl) hLg
 have n2:ib≠fb:=map_ne (bl_map hBl) hF
 have n3:tb≠lb:=map_ne (tree_map hT) hLg
 have n4:tb≠fb:=map_ne (tree_map hT) hF
 have n5:fb≠lb:=fs_log hF hLg
 have hLM:S1.LogM w3 xb w2.heap.size xb lb L' ⟨bn,1,none⟩ (some ib) none n 0 m1 (inF ps) (fun _=>false) (endF ps) m1.np:=
  ⟨hLg,S1.MemX.below HC2.out (Nat.le_refl _) hb3,Hwf1.out,.inr ⟨ib,rfl,hBl⟩,.inl ⟨rfl,fun _=>rfl⟩,fun g hg=>(by cases hg;exact ⟨n1,by omega⟩),fun g hg=>(by cases hg),fun g hg hq=>(by cases hq),(by omega),hb3.size⟩
 have nf:¬S1.LogS xb w2.heap.size lb (some ib) none fb:=fun h=>by
  rcases h with h | h | h | h
  ·omega
  ·exact n5 h
  ·cases h;exact n2 rfl
  ·cases h
 have nt:¬S1.LogS xb w2.heap.size lb (some ib) none tb:=fun h=>by
  rcases h with h | h | h | h
  ·omega
  ·exact n3 h
  ·cases h;omega
  ·cases h
 have HK:Hid (FsK w3 fb xb (FsS fb tb xb w2.heap.size lb (some ib) none) m (inOrder l)):=by
  refine hidI ⟨tb,xb,w2.heap.size,lb,L',⟨bn,1,none⟩,some ib,none,n,0,m1,inF ps,fun _=>false,endF ps,m1.np,⟨hF,hT,hLM,nf,nt,fun e=>n4 e.symm,fun g hg=>by cases hg⟩,HSnd.out,fun k hk=>hk,fun g hg=>(by cases hg),Hal.out,fun k hk => ?_⟩
  rcases hk with h | h | h
  ·exact S1.logS_lt hLM h
  ·rw [h];exact lt_of_heap hF
  ·rw [h];exact hT.lt
 have HTT:Hid (∀ k,FsS fb tb xb w2.heap.size lb (some ib) none k→w.heap.size≤k):=hidI fun k hk=>by
  rcases hk with (h | h | h | h) | h | h
  ·omega
  ·omega
  ·cases h;omega
  ·cases h
  ·omega
  ·omega
 have HO3:=hidI (HO2.out.trans (S1.Only.of_below hb3))
 clear hF hT hb3 D hLM hLg hBl
 go_wp2_with fail
 go_ret2
 exact ⟨fb,xb,_,rfl,HK.out,HTT.out,HO3.out⟩
end Go.Proofs.YtodmdkhdbfbfgabGreatDoor
namespace Go.Proofs.YtodmdkhdbfbfgabGreatDoor
open Go.RowKit Go.Nt
set_option linter.unusedVariables false
def pickF (c:Int) (n:Nat):Nat:=((if c<0 then -(c+1) else c)%(n:Int)).toNat
theorem pickF_lt (c:Int) (n:Nat) (hn:0<n):pickF c n<n:=by
 unfold pickF
 have h1:=Int.emod_nonneg (if c<0 then -(c+1) else c) (by omega:(n:Int)≠0)
 have h2:=Int.emod_lt_of_pos (if c<0 then -(c+1) else c) (by omega:0<(n:Int))
 omega
theorem pick_any (c:Int) (n:Nat) (w:World) (h1:-9223372036854775808≤c) (h2:c≤9223372036854775807) (hn:0<n) (hn2:n≤4611686018427387904) :
 Calls Tryz.prog 10 #[.int .i64 c,.int .i64 n] w fun e w'=>e=.returned (.int .i64 (pickF c n:Nat))∧w'=w:=by
 have hne:(n:Int)≠0:=by omega
 have hp:=pickF_lt c n hn
 by_cases hc:c<0
 ·have e:((pickF c n:Nat):Int)=(-(c+1))%(n:Int):=by
   unfold pickF
   rw [if_pos hc]
   exact Int.toNat_of_nonneg (Int.emod_nonneg _ hne)
  have ht:(-(c+1)).tmod (n:Int)=(-(c+1))%(n:Int):=Int.tmod_eq_emod_of_nonneg (by omega)
  go_enter Tryz.func10,Tryz.ntmps10
  go_wp2
  go_ret
  exact ⟨by rw [e];rfl,rfl⟩
 ·have e:((pickF c n:Nat):Int)=c%(n:Int):=by
   unfold pickF
   rw [if_neg hc]
   exact Int.toNat_of_nonneg (Int.emod_nonneg _ hne)
  have ht:c.tmod (n:Int)=c%(n:Int):=Int.tmod_eq_emod_of_nonneg (by omega)
  have He:=hidI e
  clear e
  go_enter Tryz.func10,Tryz.ntmps10
  go_wp2
  go_ret
  exact ⟨by rw [He.out];rfl,rfl⟩
end Go.Proofs.YtodmdkhdbfbfgabGreatDoor
namespace Go.Proofs.YtodmdkhdbfbfgabGreatDoor
open Go.RowKit Go.Nt
set_option linter.unusedVariables false
theorem madeN (n:Nat) (h:n≤1000000):∃ M:Array Value,(∀ W:World,(Instr.makeSlice 50 (.int .i64 n) (.int .i64 n)).run Tryz.prog W=.ok (.slice (some ⟨W.heap.size,0,none⟩) n n) (W.alloc (.cells M 5)))∧∀ W:World,(W.alloc (.cells M 5)).rowIs W.heap.size 5 n (fun _=>.int .u8 0):=
 ⟨madeCells #[Value.int .u8 0] n,fun W=>run_make_row' (P:=Tryz.prog) 50 5 (.int .u8 0) 1 Tryz.underlying50 Tryz.info5 rfl .i64 .i64 n (by omega) (by omega) W,fun W=>World.rowIs_made W (.int .u8 0) n 5⟩
theorem bytes_any (c n:Int) (w:World) (h1:-9223372036854775808≤c) (h2:c≤9223372036854775807) (h3:-9223372036854775808≤n) (h4:n≤9223372036854775807) :
 Calls Tryz.prog 12 #[.int .i64 c,.int .i64 n] w fun e w'=>∃ d:Bs,e=.returned (.string (txt d))∧d.length≤99∧Below w.heap.size w w':=by
 have hP1:=fun w=>pick_any n 100 w h3 h4 (by decide) (by decide)
 have hP2:=fun w=>pick_any c 1073741824 w h1 h2 (by decide) (by decide)
 have hP3:=fun w=>pick_any c 26 w h1 h2 (by decide) (by decide)
 have hk1:=pickF_lt n 100 (by decide)
 have hk2:=pickF_lt c 1073741824 (by decide)
 have hk3:=pickF_lt c 26 (by decide)
 obtain ⟨m,hm⟩:∃ m,m=pickF n 100:=⟨_,rfl⟩
 obtain ⟨x0,hx0⟩:∃ x,x=pickF c 1073741824:=⟨_,rfl⟩
 obtain ⟨p,hp⟩:∃ x,x=pickF c 26:=⟨_,rfl⟩
 rw [←hm] at hP1 hk1
 rw [←hx0] at hP2 hk2
 rw [←hp] at hP3 hk3
 clear hm hx0 hp
 have HP1:=hidI hP1
 have HP2:=hidI hP2
 have HP3:=hidI hP3
 clear hP1 hP2 hP3
 obtain ⟨M,hmk,hM⟩:=madeN m (by omega)
 have h0:=hM w
 have hb0:Below w.heap.size w (w.alloc (.cells M 5)):=(Below.refl _ _).alloc (Nat.le_refl _) _
 clear hM
 go_enter Tryz.func12,Tryz.ntmps12
 go_wp2_with fail
 refine (HP1.out _).mono ?_
 rintro e w' ⟨rfl,hw⟩
 have hw':=hw.symm
 subst hw'
 clear hw
 go_wp2_with fail
 refine (HP2.out _).mono ?_
 rintro e w' ⟨rfl,hw⟩
 have hw':=hw.symm
 subst hw'
 clear hw hmk
 go_wp2_with fail
 go_loopw [7,8] (fun x i wr=>∃ (k y:Nat) (l:Bs),k≤m∧y<2147483648∧l.length=m∧x=.int .i64 y∧i=.int .i64 k∧wr.rowIs w.heap.size 5 m (fun j=>.int .u8 ((l.getD j 0).toNat:Nat))∧Below w.heap.size w wr) (fun _ i _=>m - (intOf i).toNat)
 case atStart=>exact ⟨0,x0,List.replicate m 0,by omega,by omega,by simp,rfl,rfl,h0.congr fun j hj=>by simp [List.getD,hj],hb0⟩
 case round =>
  clear h0 hb0
  obtain ⟨k,y,l,hk,hy,hl,rfl,rfl,hrow,hb⟩:=hrel
  by_cases hlt:k<m
  ·have hc:=hrow.cell hlt
   have hf:=hrow.frozen k
   obtain ⟨y',hy'⟩:∃ y':Nat,y'=(y*1103515245+12345)%2147483648:=⟨_,rfl⟩
   have hyl:y'<2147483648:=by omega
   have e1:((y:Int)*1103515245+12345).tmod 2147483648=(y':Nat):=by
    rw [Int.tmod_eq_emod_of_nonneg (by omega),hy'];omega
   obtain ⟨q,hq⟩:∃ q:Nat,q=y'/65536:=⟨_,rfl⟩
   have e2:((y':Nat):Int).tdiv 65536=(q:Nat):=by
    rw [Int.tdiv_eq_ediv_of_nonneg (by omega),hq];omega
   obtain ⟨z,hz⟩:∃ z:Nat,z=q%(1+p):=⟨_,rfl⟩
   have hzl:z<26:=by have:=Nat.mod_lt q (show 1+p > 0 by omega);omega
   have e3:((q:Nat):Int).tmod (1+(p:Int))=(z:Nat):=by
    rw [Int.tmod_eq_emod_of_nonneg (by omega),hz];push_cast;rfl
   have hq0:0≤(q:Int):=by omega
   have hq1:(q:Int)≤32768:=by omega
   have hrow':(wr.setCell ⟨w.heap.size,k,none⟩ (.int .u8 (97+(z:Nat)))).rowIs w.heap.size 5 m (fun j=>.int .u8 (((l.set k (UInt8.ofNat (97+z))).getD j 0).toNat:Nat)):=(hrow.set k _).congr fun j hj=>by
    by_cases e:j=k
    ·subst e
     rw [if_pos rfl]
     have:j<l.length:=by omega
     simp only [List.getD,List.getElem?_set_self this,Option.getD_some,UInt8.toNat_ofNat']
     congr 1;omega
    ·rw [if_neg e]
     simp only [List.getD]
     rw [List.getElem?_set_ne (by omega)]
   have hb':=hb.setCell (p:=⟨w.heap.size,k,none⟩) (Nat.le_refl _) (.int .u8 (97+(z:Nat)))
   clear hrow hb hz hq hy'
   go_wp2_with fail
   refine (HP3.out _).mono ?_
   rintro e w' ⟨rfl,hw⟩
   have hw':=hw.symm
   subst hw'
   clear hw
   go_wp2
   go_roundw
   case rel=>exact ⟨k+1,y',l.set k (UInt8.ofNat (97+z)),by omega,hyl,by simpa using hl,rfl,by go_num,hrow',hb'⟩
   case measure=>simp [intOf];omega
  ·have hkm:k=m:=by omega
   subst hkm
   have hcv:=S1.row_str (c:=k) hrow hl
   clear hrow
   go_wp2
   go_ret
   exact ⟨l,rfl,by omega,hb⟩
end Go.Proofs.YtodmdkhdbfbfgabGreatDoor
namespace Go.Proofs.YtodmdkhdbfbfgabGreatDoor.S1
open Go.RowKit Pk
set_option linter.unusedVariables false
set_option linter.unusedSimpArgs false
def badL (z:Nat→Int) (n:Nat) (i:Nat):Bool:=(List.range n).any fun j=>z j==(i:Int)
def mkM (blocks pages:Int) (n:Nat) (z:Nat→Int):M:=⟨(bnd blocks 4 32).toNat,(bnd pages 4 16).toNat,fun _ _=>[],fun _=>0,badL z n,-1,0,-1,0⟩
theorem mkM_wf (blocks pages:Int) (n:Nat) (z:Nat→Int):WF (mkM blocks pages n z):=by
 have h1:=bnd_le blocks 4 32 (by omega)
 have h2:=bnd_le pages 4 16 (by omega)
 refine ⟨?_,?_,?_,?_,fun i _=>Nat.zero_le _,fun i p _ _=>Nat.zero_le _,?_,?_,?_,?_,?_,?_,?_,?_⟩<;>(simp only [mkM];omega)
theorem badL_succ (z:Nat→Int) (k:Nat):badL z (k+1)=fun i=>badL z k i||(z k==(i:Int)):=by
 funext i
 unfold badL
 rw [List.range_succ,List.any_append]
 simp
theorem grow_same {α:Type} (n:Nat) (x:α):(List.range n).map (fun _=>x)++[x]=(List.range (n+1)).map fun _=>x:=by
 rw [List.range_succ,List.map_append];rfl
theorem madeNp (np:Nat) (h:np≤16):∃ M:Array Value,(∀ W:World,(Instr.makeSlice 61 (.int .i64 (np:Nat)) (.int .i64 (np:Nat))).run Tryz.prog W=.ok (.slice (some ⟨W.heap.size,0,none⟩) np np) (W.alloc (.cells M 9)))∧∀ W:World,(W.alloc (.cells M 9)).rowIs W.heap.size 9 np (fun _=>.string ⟨#[]⟩):=
 ⟨madeCells #[Value.string ⟨#[]⟩] np,fun W=>run_make_row' (P:=Tryz.prog) 61 9 (.string ⟨#[]⟩) 16 Tryz.underlying61 Tryz.info9 rfl .i64 .i64 np (by omega) (by omega) W,fun W=>World.rowIs_made W (.string ⟨#[]⟩) np 9⟩
theorem chipDrewN {B:Nat} {a w:World} (h:Below B a w) (q:Nat):Below B a (w.drewN q):=⟨h.os,h.tape,h.output,h.size,h.block⟩
theorem MemX.bdc {w:World} {lo hi cb:Nat} {T:TypeId} {L:Loc} {m:M} {enc:List UInt8→List UInt8} {g4 g5 g6 g7:Int} (h:MemX w lo hi cb T L m enc g4 g5 g6 g7) (bd:Nat→Bool) (e:∀ i,i<m.nb→m.bd i=bd i):MemX w lo hi cb T L { m with bd:=bd } enc g4 g5 g6 g7:=
 ⟨h.hcb,h.hdb,h.hnk,h.hbk,h.hrw,h.inj,h.hT,h.st,h.data,h.next,h.bad.congr (fun i hi=>by rw [e i hi]),h.page⟩
theorem cell_set_new (w:World) (p:Addr) (x v:Value) (t:TypeId):∀ j u,[v][j]? = some u→((w.setCell p x).alloc (.cells #[v] t)).cell? ((⟨w.heap.size,0,none⟩:Addr).add j)=some u:=by
 have:=cell_one_new (w.setCell p x) v t
 simpa using this
theorem cell_two_new (w:World) (o:Obj) (v:Value) (t:TypeId):∀ j u,[v][j]? = some u→((w.alloc o).alloc (.cells #[v] t)).cell? ((⟨w.heap.size+1,0,none⟩:Addr).add j)=some u:=by
 have:=cell_one_new (w.alloc o) v t
 simpa using this
theorem new_any (w:World) (blocks pages:Int) (a:Option Addr) (n cap:Nat) (z:Nat→Int) (hn:n≤17592186043904) (hin:IntsIn w a n z) :
 Calls Tryz.prog 7 #[.int .i64 blocks,.int .i64 pages,.slice a n cap] w fun e w'=>∃ L hi,e=.returned (.pointer (some ⟨w.heap.size,0,none⟩))∧hi≤w'.heap.size∧CP w' w.heap.size hi w.heap.size L (mkM blocks pages n z)∧Below w.heap.size w w':=by
 have Hbl:=hidI (fun w=>bound_any blocks 4 32 (by omega) w)
 have Hpg:=hidI (fun w=>bound_any pages 4 16 (by omega) w)
 have hb1:=bnd_le blocks 4 32 (by omega)
 have hb2:=bnd_le pages 4 16 (by omega)
 obtain ⟨nb,hnb⟩:∃ nb:Nat,bnd blocks 4 32=(nb:Int):=Int.eq_ofNat_of_zero_le (by omega)
 obtain ⟨np,hnp⟩:∃ np:Nat,bnd pages 4 16=(np:Int):=Int.eq_ofNat_of_zero_le (by omega)
 have HM:Hid (mkM blocks pages n z=⟨nb,np,fun _ _=>[],fun _=>0,badL z n,-1,0,-1,0⟩):=by
  show mkM blocks pages n z=_
  unfold mkM
  rw [hnb,hnp];rfl
 rw [hnb] at Hbl hb1
 rw [hnp] at Hpg hb2
 have hnb1:4≤nb:=by omega
 have hnb2:nb≤32:=by omega
 have hnp1:4≤np:=by omega
 have hnp2:np≤16:=by omega
 clear hnb hnp hb1 hb2
 obtain ⟨MC,hmk,hMC⟩:=madeNp np hnp2
 have HMC:=hidI hMC
 clear hMC
 have Hin:=hidI hin
 clear hin
 go_enter Tryz.func7,Tryz.ntmps7
 go_wp2_with (first | (go_at_call 27;refine (Hpg.out _).mono ?_;rintro e w1 ⟨rfl,h1⟩;subst h1))
 have Hst0:=hidI (heap_alloc_new w1 (Obj.cells #[.int .i64 (np:Nat),.slice none 0 0,.slice none 0 0,.slice none 0 0,.int .i64 (-1),.int .i64 0,.int .i64 (-1),.int .i64 0] 60))
 have Hb0:=hidI ((Below.refl w1.heap.size w1).alloc (Nat.le_refl _) (Obj.cells #[.int .i64 (np:Nat),.slice none 0 0,.slice none 0 0,.slice none 0 0,.int .i64 (-1),.int .i64 0,.int .i64 (-1),.int .i64 0] 60))
 obtain ⟨i0,hi0,hz0,hz1,hz2⟩:=info_parts Tryz.info23
 obtain ⟨k0,ki,kz0,kz1,kz2⟩:=info_parts Tryz.info3
 obtain ⟨l0,li,lz0,lz1,lz2⟩:=info_parts Tryz.info4
 obtain ⟨G,hGe⟩:∃ G,G=w1.heap.size:=⟨_,rfl⟩
 have Hin:Hid (∀ W,Below G w1 W→IntsIn W a n z):=fun W hb=>Hin.out.below (hGe ▸ hb)
 rw [←hGe] at Hst0 Hb0 ⊢
 have HGe:=hidI hGe
 clear hGe
 go_loopw [8] (fun x wr=>∃ k:Nat,k≤nb∧x=.int .i64 k∧∃ da dc na nc ba bc rw cr,wr.heap[G]? = some (.cells #[.int .i64 (np:Nat),.slice da k dc,.slice na k nc,.slice ba k bc,.int .i64 (-1),.int .i64 0,.int .i64 (-1),.int .i64 0] 60 (0,0))∧Data wr G (.slice da k dc) k np rw cr (fun _ _=>[])∧wr.ownsRow G 3 1 (.slice na k nc) k ((List.range k).map fun _=>.int .i64 0)∧wr.ownsRow G 4 1 (.slice ba k bc) k ((List.range k).map fun _=>.bool false)∧Below G w1 wr) (fun x _=>nb - (intOf x).toNat)
 case atStart=>exact ⟨0,by omega,rfl,none,0,none,0,none,0,fun _=>0,fun _=>0,Hst0.out,Data.nil _ _ _ _ _ _,World.ownsRow_nil _ _ _ _,World.ownsRow_nil _ _ _ _,Hb0.out⟩
 case round =>
  clear Hst0 Hb0
  obtain ⟨k,hk,rfl,da,dc,na,nc,ba,bc,rw,cr,hst,hdat,hnx,hbd,hbel⟩:=hrel
  have hGr:G<wr.heap.size:=lt_of_heap hst
  by_cases hlt:k<nb
  ·have x0:wr.cell? ⟨G,0,none⟩=some (.int .i64 (np:Nat)):=by rw [cell_of_row wr G 0 _ 60 (0,0) hst];rfl
   have x1:wr.cell? ⟨G,1,none⟩=some (.slice da k dc):=by rw [cell_of_row wr G 1 _ 60 (0,0) hst];rfl
   have x1a:∀ o,(wr.drew.alloc o).cell? ⟨G,1,none⟩=some (.slice da k dc):=fun o=>(World.cell?_of_block (w:=wr) (Below.heap_alloc wr.drew o G hGr)).trans x1
   have x1b:∀ o o',((wr.drew.alloc o).alloc o').cell? ⟨G,1,none⟩=some (.slice da k dc):=fun o o'=>(World.cell?_of_block (w:=wr.drew.alloc o) (Below.heap_alloc (wr.drew.alloc o) o' G (by simp;omega))).trans (x1a o)
   have Hst:=hidI hst
   have Hdat:=hidI hdat
   have Hnx:=hidI hnx
   have Hbd:=hidI hbd
   have Hbel:=hidI hbel
   clear hst hdat hnx hbd hbel
   go_wp2_with (first | (go_at_call 27;refine (Hbl.out _).mono ?_;rintro e w2 ⟨rfl,h2⟩;subst h2))
   go_region_law (first
    | (refine step_append_lies _ (by rfl) _ _ _ (by rfl) G 61 i0 _ 1 24 Tryz.underlying57 hi0 hz0 hz1 hz2 rfl (by omega) (.slice da k dc) k _ (by rfl) ((Hdat.out.own.drew.alloc _).alloc _) ⟨w2.heap.size+1,0,none⟩ 1 1 [.slice (some ⟨w2.heap.size,0,none⟩) np np] (by rfl) rfl (cell_two_new w2.drew (.cells MC 9) (.slice (some ⟨w2.heap.size,0,none⟩) np np) 61) (by intro u hu;simp at hu;subst hu;rfl) (by omega) (by unfold maxLen;omega) (by omega) (by simp;omega) (w2.heap.size+2) (by simp) ?_;intro g2 cap2 w3 hown2 hgrow2 hat2 hlt2;have K2:∀ t,t≠61→Keeps t (w2.drew.alloc (.cells MC 9)) w3:=(fun t ht=>((Keeps.refl t _).alloc _).grown ((Hdat.out.own.drew.alloc _).alloc _) (fun e=>ht e.symm) hgrow2);have hst2:=(((Keeps.refl 60 w2).drew.alloc (.cells MC 9)).trans (K2 60 (by decide))).block Hst.out;have y1:w3.cell? ⟨G,1,none⟩=some (.slice da k dc):=(by rw [cell_of_row w3 G 1 _ 60 (0,0) hst2];rfl);have yf:=frozen_of_row w3 G 1 _ 60 hst2;have Hbel3:Hid (Below G w1 w3):=((Hbel.out.drew.alloc (Nat.le_of_lt hGr) _).alloc (by simp;omega) _).grown hgrow2 (by simp;omega) (fun q hq=>(Hdat.out.own.lt q hq).1);have HK2:=hidI K2;have Hst2:=hidI hst2;have Hown2:=hidI hown2;clear hown2 hgrow2 hat2 K2 hst2))
   all_goals have hKa:∀ t,t≠61→Keeps t w2 w3:=(fun t ht=>((Keeps.refl t w2).drew.alloc (.cells MC 9)).trans (HK2.out t ht))
   all_goals have hst3:=heap_setCell_same w3 G 1 _ 60 (.slice (some ⟨g2,0,none⟩) (k+1) cap2) Hst2.out
   all_goals have hrow3:Rw (w3.setCell ⟨G,1,none⟩ (.slice (some ⟨g2,0,none⟩) (k+1) cap2)) w2.heap.size 9 np (fun p=>.string (txt ((fun _=>[]:Nat→List UInt8) p))):=((HK2.out 9 (by decide)).set (o:=1) (v:=.slice (some ⟨g2,0,none⟩) (k+1) cap2) Hst2.out (by decide)).rw (rowIs_rw (HMC.out w2.drew))
   all_goals have hdat3:=Hdat.out.push ((hKa 9 (by decide)).set (o:=1) (v:=.slice (some ⟨g2,0,none⟩) (k+1) cap2) Hst2.out (by decide)) (r:=w2.heap.size) (c:=np) (f:=fun _=>[]) (Nat.le_of_lt hGr) (Nat.le_refl _) hrow3 (((Keeps.refl 61 w3).set (o:=1) (v:=.slice (some ⟨g2,0,none⟩) (k+1) cap2) Hst2.out (by decide)).own Hown2.out)
   all_goals have hpe:put (fun (_:Nat) (_:Nat)=>([]:List UInt8)) k (fun _=>[])=fun _ _=>[]:=(by
    funext x y
    unfold put
    split<;>rfl)
   all_goals rw [hpe] at hdat3
   all_goals have hnx3:=((hKa 3 (by decide)).set (o:=1) (v:=.slice (some ⟨g2,0,none⟩) (k+1) cap2) Hst2.out (by decide)).own Hnx.out
   all_goals have hbd3:=((hKa 4 (by decide)).set (o:=1) (v:=.slice (some ⟨g2,0,none⟩) (k+1) cap2) Hst2.out (by decide)).own Hbd.out
   all_goals have hbel3:=Hbel3.out.setCell (p:=⟨G,1,none⟩) (Nat.le_refl _) (.slice (some ⟨g2,0,none⟩) (k+1) cap2)
   all_goals generalize w3.setCell ⟨G,1,none⟩ (.slice (some ⟨g2,0,none⟩) (k+1) cap2)=wa at *
   all_goals clear hrow3 hpe hKa Hst2 HK2 Hown2 y1 yf Hbel3 x0 x1 x1a x1b Hst Hdat Hnx Hbd Hbel
   all_goals have hGa:G<wa.heap.size:=lt_of_heap hst3
   all_goals have x2:wa.cell? ⟨G,2,none⟩=some (.slice na k nc):=(by rw [cell_of_row wa G 2 _ 60 (0,0) hst3];rfl)
   all_goals have Hst3:=hidI hst3
   all_goals have Hdat3:=hidI hdat3
   all_goals have Hbd3:=hidI hbd3
   all_goals have Hbel3:=hidI hbel3
   all_goals clear hst3 hdat3 hbd3 hbel3
   all_goals go_wp2_with (at_builtin;refine wpList_append_lies _ rfl (.tmp 38) (.tmp 39) 22 rfl G 3 k0 (.int .i64 0) 1 8 Tryz.underlying22 ki kz0 kz1 kz2 rfl (by decide) (.slice na k nc) k _ rfl (hnx3.alloc _) ⟨wa.heap.size,0,none⟩ 1 1 [.int .i64 0] rfl rfl (cell_one_new _ _ _) (by intro u hu;simp at hu;subst hu;rfl) (by omega) (by unfold maxLen;omega) (by omega) (by simp;omega) (wa.heap.size+1) (by simp) ?_)
   all_goals intro g4 cap4 w4 hown4 hgrow4 hat4 hlt4
   all_goals have K4:∀ t,t≠3→Keeps t wa w4:=(fun t ht=>((Keeps.refl t wa).alloc _).grown (hnx3.alloc _) (fun e=>ht e.symm) hgrow4)
   all_goals have hst4:=(K4 60 (by decide)).block Hst3.out
   all_goals have y2:w4.cell? ⟨G,2,none⟩=some (.slice na k nc):=(by rw [cell_of_row w4 G 2 _ 60 (0,0) hst4];rfl)
   all_goals have yf2:=frozen_of_row w4 G 2 _ 60 hst4
   all_goals have hst5:=heap_setCell_same w4 G 2 _ 60 (.slice (some ⟨g4,0,none⟩) (k+1) cap4) hst4
   all_goals rw [grow_same] at hown4
   all_goals have hnx5:=((Keeps.refl 3 w4).set (o:=2) (v:=.slice (some ⟨g4,0,none⟩) (k+1) cap4) hst4 (by decide)).own hown4
   all_goals have hdat5:=Hdat3.out.keep ((K4 9 (by decide)).set (o:=2) (v:=.slice (some ⟨g4,0,none⟩) (k+1) cap4) hst4 (by decide)) ((K4 61 (by decide)).set (o:=2) (v:=.slice (some ⟨g4,0,none⟩) (k+1) cap4) hst4 (by decide))
   all_goals have hbd5:=((K4 4 (by decide)).set (o:=2) (v:=.slice (some ⟨g4,0,none⟩) (k+1) cap4) hst4 (by decide)).own Hbd3.out
   all_goals have hbel5:Below G w1 (w4.setCell ⟨G,2,none⟩ (.slice (some ⟨g4,0,none⟩) (k+1) cap4)):=((Hbel3.out.alloc (Nat.le_of_lt hGa) _).grown hgrow4 (by simp;omega) (fun q hq=>(hnx3.lt q hq).1)).setCell (Nat.le_refl _) _
   all_goals have hG4:G<w4.heap.size:=lt_of_heap hst4
   all_goals have x3:(w4.setCell ⟨G,2,none⟩ (.slice (some ⟨g4,0,none⟩) (k+1) cap4)).cell? ⟨G,3,none⟩=some (.slice ba k bc):=(by rw [cell_of_row _ G 3 _ 60 (0,0) hst5];rfl)
   all_goals have Hst5:=hidI hst5
   all_goals have Hdat5:=hidI hdat5
   all_goals have Hnx5:=hidI hnx5
   all_goals have Hbel5:=hidI hbel5
   all_goals clear hst4 hst5 hdat5 hnx5 hbel5 hown4 hgrow4 hat4 K4 Hst3 Hdat3 Hbd3 Hbel3 hnx3 x2
   all_goals go_wp2_with (at_builtin;refine wpList_append_lies _ rfl (.tmp 47) (.tmp 48) 58 rfl G 4 l0 (.bool false) 1 1 Tryz.underlying58 li lz0 lz1 lz2 rfl (by decide) (.slice ba k bc) k _ rfl (hbd5.alloc _) ⟨w4.heap.size,0,none⟩ 1 1 [.bool false] rfl rfl (cell_set_new _ _ _ _ _) (by intro u hu;simp at hu;subst hu;rfl) (by omega) (by unfold maxLen;omega) (by omega) (by simp;omega) (w4.heap.size+1) (by simp) ?_)
   all_goals intro g6 cap6 w6 hown6 hgrow6 hat6 hlt6
   all_goals have K6:∀ t,t≠4→Keeps t (w4.setCell ⟨G,2,none⟩ (.slice (some ⟨g4,0,none⟩) (k+1) cap4)) w6:=(fun t ht=>((Keeps.refl t _).alloc _).grown (hbd5.alloc _) (fun e=>ht e.symm) hgrow6)
   all_goals have hst6:=(K6 60 (by decide)).block Hst5.out
   all_goals have y3:w6.cell? ⟨G,3,none⟩=some (.slice ba k bc):=(by rw [cell_of_row w6 G 3 _ 60 (0,0) hst6];rfl)
   all_goals have yf3:=frozen_of_row w6 G 3 _ 60 hst6
   all_goals rw [grow_same] at hown6
   all_goals have Hst7:=hidI (heap_setCell_same w6 G 3 _ 60 (.slice (some ⟨g6,0,none⟩) (k+1) cap6) hst6)
   all_goals have Hbd7:=hidI (((Keeps.refl 4 w6).set (o:=3) (v:=.slice (some ⟨g6,0,none⟩) (k+1) cap6) hst6 (by decide)).own hown6)
   all_goals have Hnx7:=hidI (((K6 3 (by decide)).set (o:=3) (v:=.slice (some ⟨g6,0,none⟩) (k+1) cap6) hst6 (by decide)).own Hnx5.out)
   all_goals have Hdat7:=hidI (Hdat5.out.keep ((K6 9 (by decide)).set (o:=3) (v:=.slice (some ⟨g6,0,none⟩) (k+1) cap6) hst6 (by decide)) ((K6 61 (by decide)).set (o:=3) (v:=.slice (some ⟨g6,0,none⟩) (k+1) cap6) hst6 (by decide)))
   all_goals have Hbel7:Hid (Below G w1 (w6.setCell ⟨G,3,none⟩ (.slice (some ⟨g6,0,none⟩) (k+1) cap6))):=((Hbel5.out.alloc (by simp;omega) _).grown hgrow6 (by simp;omega) (fun q hq=>(hbd5.lt q hq).1)).setCell (Nat.le_refl _) _
   all_goals clear hst6 hown6 hgrow6 hat6 K6 Hst5 Hdat5 Hnx5 Hbel5 hbd5 x3 y2 yf2
   all_goals go_wp2
   all_goals (go_roundw;(case rel=>exact ⟨k+1,by omega,by go_num,some ⟨_,0,none⟩,cap2,some ⟨_,0,none⟩,cap4,some ⟨_,0,none⟩,cap6,_,_,Hst7.out,Hdat7.out,Hnx7.out,Hbd7.out,Hbel7.out⟩);(case measure=>simp [intOf];omega))
  ·have hke:nb=k:=by omega
   subst hke
   obtain ⟨L,hL⟩:=MemX.built (T:=60) (enc:=id) (m:=⟨nb,np,fun _ _=>[],fun _=>0,badL z 0,-1,0,-1,0⟩) (g4:=-1) (g5:=0) (g6:=-1) (g7:=0) (by show 0<nb;omega) (by decide) (Nat.le_refl G) hst hdat (fun i p _ _=>rfl) hnx hbd
   obtain ⟨H,hH⟩:∃ H,H=wr.heap.size:=⟨_,rfl⟩
   rw [←hH] at hL
   have Hle:Hid (H≤wr.heap.size):=Nat.le_of_eq hH
   have HL:=hidI hL
   have Hbel:=hidI hbel
   clear hst hdat hnx hbd hbel hL hH hGr
   go_wp2_with (first | (go_at_call 27;refine (Hbl.out _).mono ?_;rintro e w2 ⟨rfl,h2⟩;subst h2))
   go_loopw [9] (fun x wr=>∃ k:Nat,k≤n∧x=.int .i64 k∧CP wr G H G L ⟨nb,np,fun _ _=>[],fun _=>0,badL z k,-1,0,-1,0⟩∧Below G w1 wr∧H≤wr.heap.size) (fun x _=>n - (intOf x).toNat)
   case atStart=>exact ⟨0,by omega,rfl,HL.out,Hbel.out,Hle.out⟩
   case round =>
    clear HL Hbel Hle
    obtain ⟨k,hk,rfl,hm,hbel,hle⟩:=hrel
    have c1:=MemX.c1 hm
    have c3:=MemX.c3 hm
    have Hle:=hidI hle
    have Hbel:=hidI hbel
    have Hm:=hidI hm
    simp only [] at c1 c3
    by_cases hlt:k<n
    ·obtain ⟨b,off,rfl,hc⟩:=Hin.out _ hbel (by omega)
     have hck:=hc k hlt
     clear hc hm hbel hle
     by_cases h0:z k<0
     ·have hd:decide (0≤z k)=false:=by simp;omega
      have Hm2:Hid (CP wr G H G L ⟨nb,np,fun _ _=>[],fun _=>0,badL z (k+1),-1,0,-1,0⟩):=(Hm.out.bdc (badL z (k+1)) (fun i _=>by rw [badL_succ];show _=(badL z k i||(z k==(i:Int)));rw [show (z k==(i:Int))=false by simp;omega,Bool.or_false]))
      go_wp2_with fail
      go_quiet (fail)
      go_wp2
      go_roundw
      case rel=>exact ⟨k+1,by omega,by go_num,MemX.drewN Hm2.out _,chipDrewN Hbel.out _,Hle.out⟩
      case measure=>simp [intOf];omega
     ·have hd:decide (0≤z k)=true:=by simp;omega
      obtain ⟨i,hzi⟩:∃ i:Nat,z k=(i:Int):=Int.eq_ofNat_of_zero_le (by omega)
      have Hzi:=hidI hzi
      rw [hzi] at hck
      by_cases h1:i<nb
      ·have hd1:decide ((i:Int)<(nb:Int))=true:=by simp;omega
       have hf:=Hm.out.bad.frozen i
       have hcb:=Hm.out.bad.cell h1
       have Hm2:Hid (∀ q,CP ((wr.drewN q).setCell ⟨L.bk,i,none⟩ (.bool true)) G H G L ⟨nb,np,fun _ _=>[],fun _=>0,badL z (k+1),-1,0,-1,0⟩):=fun q=>((MemX.setBd (MemX.drewN Hm.out q) i true).bdc (badL z (k+1)) (fun a _=>by
        rw [badL_succ]
        show (if a=i then true else badL z k a)=(badL z k a||(z k==(a:Int)))
        rw [Hzi.out]
        by_cases e:a=i
        ·rw [if_pos e,e];simp
        ·rw [if_neg e,show ((i:Int)==(a:Int))=false by simp;omega,Bool.or_false]))
       have Hbel2:Hid (∀ q,Below G w1 ((wr.drewN q).setCell ⟨L.bk,i,none⟩ (.bool true))):=fun q=>(chipDrewN Hbel.out q).setCell (p:=⟨L.bk,i,none⟩) Hm.out.hbk.1 (.bool true)
       clear h0 hd hzi
       go_wp2_with fail
       go_quiet (fail)
       go_wp2_with fail
       go_region
       go_wp2
       go_roundw
       case rel=>exact ⟨k+1,by omega,by go_num,Hm2.out _,Hbel2.out _,by simpa using Hle.out⟩
       case measure=>simp [intOf];omega
      ·have hd1:decide ((i:Int)<(nb:Int))=false:=by simp;omega
       have Hm2:Hid (CP wr G H G L ⟨nb,np,fun _ _=>[],fun _=>0,badL z (k+1),-1,0,-1,0⟩):=(Hm.out.bdc (badL z (k+1)) (fun a ha=>by rw [badL_succ];show _=(badL z k a||(z k==(a:Int)));have:a<nb:=ha;rw [Hzi.out,show ((i:Int)==(a:Int))=false by simp;omega,Bool.or_false]))
       clear h0 hd hzi
       go_wp2_with fail
       go_quiet (fail)
       go_wp2
       go_roundw
       case rel=>exact ⟨k+1,by omega,by go_num,MemX.drewN Hm2.out _,chipDrewN Hbel.out _,Hle.out⟩
       case measure=>simp [intOf];omega
    ·have hke:n=k:=by omega
     subst hke
     clear hm hbel hle
     go_wp2
     go_ret
     refine ⟨L,H,by rw [←HGe.out];rfl,Hle.out,?_,?_⟩
     ·rw [HM.out,←HGe.out];exact Hm.out
     ·rw [←HGe.out];exact Hbel.out
end Go.Proofs.YtodmdkhdbfbfgabGreatDoor.S1
