/- Lemmas. -/
import Derived.Test.YtodmdkhdbfbfgabGreatDoorM39
set_option linter.unusedVariables false
set_option linter.unusedSimpArgs false
set_option maxRecDepth 100000
set_option maxHeartbeats 8000000
namespace Go.Proofs.YtodmdkhdbfbfgabGreatDoor
open Go.RowKit Go.Nt
theorem qe5 (s:Bs) (n:Nat) (w:World) (hn:n≤1000000) (hs:s.length≤1000000):Calls Tryz.prog 11 #[.string (txt s),.int .i64 (n:Nat)] w fun e w'=>e=.returned (.string (txt (s.take n)))∧w'=w:=by
 obtain ⟨X,hX⟩:∃ X,X=txt s:=⟨_,rfl⟩;have hsz:X.size=s.length:=by rw [hX,qab]
 obtain ⟨k,hk⟩:∃ k,k=s.length:=⟨_,rfl⟩;rw [←hk] at hsz hs;rw [←hX];have HX:=hidI hX;have Hk:=hidI hk;clear hX hk;by_cases h:n<k
 ·have h':((n:Nat):Int)<(k:Nat):=by omega
  go_enter Tryz.func11,Tryz.ntmps11
  go_wp2;go_ret
  refine ⟨?_,rfl⟩;rw [HX.out,qah];simp
 ·have h':¬((n:Nat):Int)<(k:Nat):=by omega
  go_enter Tryz.func11,Tryz.ntmps11
  go_wp2;go_ret
  refine ⟨?_,rfl⟩;rw [List.take_of_length_le (by have:=Hk.out;omega),←HX.out];rfl
theorem qhc {u:Bs→Option Bs} {w:World} {fb cb:Nat} {T:Nat→Prop} {m0:S1.M} {l:List It} {n:Nat} (h:FsC u w fb cb T m0 l n):Calls Tryz.prog 14 #[.pointer (some ⟨fb,0,none⟩)] w fun e w'=>e=.returned (.int .i64 0)∧w'=w:=by
 obtain ⟨tb,lo,hi,lb,L,lv,kv,qv,nk,nq,m,K,Q,b,p,t,h1,h2,_⟩:=h;have c0:=h1.fs.p0;have A:=hidI (S1.dead_any w lo hi cb L m h1.log.chip);have hlb:(m.life==0)=false:=by rw [h2.life];rfl
 rw [hlb] at A;clear h1 h2 hlb;go_enter Tryz.func14,Tryz.ntmps14
 go_wp2_with fail;refine A.out.mono ?_;rintro e w' ⟨rfl,hw'⟩;have hw2:=hw'.symm;subst hw2;go_wp2_with fail;go_ret
 exact ⟨rfl,rfl⟩
def fT (d:Bs):List It:=[⟨[102],false,d,0,0⟩]
theorem f_ok:okPath [102]=true:=by decide
theorem qmT {d:Bs} (hd:d.length≤4000):putE [] [102] d=0:=by
 unfold putE;rw [if_pos (qbH [] (by decide) f_ok)];exact if_neg (by simp;omega)
theorem qmP (d:Bs):setIt [] (putI [] [102] d)=fT d:=rfl
theorem qn6 (d0:Bs) {d:Bs} (hd:d.length≤4000):putE (fT d0) [102] d=0:=by
 unfold putE;rw [if_pos (qbH _ (by decide) f_ok)];have ha:at? (fT d0) [102]=some ⟨[102],false,d0,0,0⟩:=rfl;rw [ha];show (if false=true then (6:Int) else if 4000<d.length then 8 else 0)=0;rw [if_neg (by decide),if_neg (by omega)]
theorem qn1 (d0 d:Bs):setIt (fT d0) (putI (fT d0) [102] d)=fT d:=rfl
theorem qg8 {d:Bs} (hd:d.length≤4000):TreeP (fT d):=
 ⟨by simp [fT],fun x hx=>by rw [List.mem_singleton.1 hx];unfold okItem;simp [f_ok,hd],by simp [fT],fun x hx=>.inl (by rw [List.mem_singleton.1 hx];rfl)⟩
theorem qor (d:Bs):qaJ (fT d) [102]=0:=by
 have hfind:findE (fT d) [102]=0:=by
  unfold findE;rw [if_pos (qbH _ (by decide) f_ok)];rfl
 unfold qaJ;rw [if_pos hfind,if_neg];intro ha;obtain ⟨q,hq,hi⟩:=List.any_eq_true.1 ha;obtain ⟨y,hy,rfl⟩:=List.mem_map.1 hq;rw [List.mem_singleton.1 hy] at hi;rw [qnU (show ([102]:Bs).contains 47=false by decide)] at hi;cases hi
theorem qoe (d:Bs):(fT d).filter (fun y=>decide (y.path≠[102]))=[]:=rfl
theorem qgx (d:Bs):qad (fT d)=fT d:=by simp [qad,fT]
theorem qmO (d:Bs):fileE (fT d) [102]=0∧(fileN (fT d) [102]).data=d:=by
 have hf:findE (fT d) [102]=0:=by
  unfold findE;rw [if_pos (qbH _ (by decide) f_ok)];rfl
 have ha:at? (fT d) [102]=some ⟨[102],false,d,0,0⟩:=rfl;refine ⟨?_,?_⟩
 ·unfold fileE;rw [if_pos hf,ha];rfl
 ·unfold fileN fileE;rw [if_pos hf,ha];rfl
theorem qol {u:Bs→Option Bs} {nb np:Nat} (h1:4≤nb) (h2:nb≤32) (h3:4≤np) (h4:np≤16) {d t:Bs} (hd:d.length+17≤4*(nb*np)) (ht:IsText u (qad (fT d)) t):pagesN t.length≤nb/2*np:=by
 have h5:=qaY ht;rw [qgx] at h5;have e2:weigh (fT d)=16+1+d.length:=by simp [weigh,fT]
 rw [e2] at h5;have h16:16≤nb*np:=Nat.mul_le_mul h1 h3;have h6:t.length≤4*(nb*np)+1:=by omega
 have h7:nb≤nb/2*3:=by omega
 have h8:nb*np≤nb/2*3*np:=Nat.mul_le_mul_right _ h7;have h9:nb/2*3*np=3*(nb/2*np):=by rw [Nat.mul_comm (nb/2) 3,Nat.mul_assoc]
 have h10:8≤nb/2*np:=Nat.mul_le_mul (show 2≤nb/2 by omega) h3;unfold pagesN;omega
theorem qon {u:Bs→Option Bs} {nb np:Nat} (h1:4≤nb) (h3:4≤np) {t:Bs} (ht:IsText u (qad []) t):pagesN t.length≤nb/2*np:=by
 have h5:=qaY ht;have e2:weigh (qad ([]:List It))=0:=by simp [qad,weigh]
 rw [e2] at h5;have h10:8≤nb/2*np:=Nat.mul_le_mul (show 2≤nb/2 by omega) h3;unfold pagesN;omega
theorem SC.made {u:Bs→Option Bs} {w:World} {fb cb:Nat} {T:Nat→Prop} {m0:S1.M} {l l':List It} {n:Nat} {e:Ending} {w':World} (h:SC u w fb cb T m0 l l' n 0 e w') (hr:∀ t,IsText u (qad l') t→¬S1.roomP m0<pagesN t.length) :
 ∃ T' n',e=.returned (.int .i64 0)∧FsC u w' fb cb T' m0 l' n'∧n'≤n+1∧(∀ k,T' k→T k∨w.heap.size≤k)∧S1.Fm T w w':=by
 obtain ⟨x,T',l'',n',h1,h2,h3,h4,h5,h6⟩:=h;rcases h6 with ⟨h,_⟩ | ⟨_,⟨rfl,rfl⟩ | ⟨_,_,t,a1,a2⟩⟩
 ·exact absurd rfl h
 ·exact ⟨T',n',h1,h2,h3,h4,h5⟩
 ·exact absurd a2 (hr t a1)
def pickF (c:Int) (n:Nat):Nat:=((if c<0 then -(c+1) else c)%(n:Int)).toNat
theorem qb3 (c:Int) (n:Nat) (hn:0<n):pickF c n<n:=by
 unfold pickF;have h1:=Int.emod_nonneg (if c<0 then -(c+1) else c) (by omega:(n:Int)≠0);have h2:=Int.emod_lt_of_pos (if c<0 then -(c+1) else c) (by omega:0<(n:Int));omega
theorem qb9 (c:Int) (n:Nat) (w:World) (h1:-9223372036854775808≤c) (h2:c≤9223372036854775807) (hn:0<n) (hn2:n≤4611686018427387904) :
 Calls Tryz.prog 10 #[.int .i64 c,.int .i64 n] w fun e w'=>e=.returned (.int .i64 (pickF c n:Nat))∧w'=w:=by
 have hne:(n:Int)≠0:=by omega
 have hp:=qb3 c n hn;by_cases hc:c<0
 ·have e:((pickF c n:Nat):Int)=(-(c+1))%(n:Int):=by
   unfold pickF;rw [if_pos hc];exact Int.toNat_of_nonneg (Int.emod_nonneg _ hne)
  have ht:(-(c+1)).tmod (n:Int)=(-(c+1))%(n:Int):=Int.tmod_eq_emod_of_nonneg (by omega);go_enter Tryz.func10,Tryz.ntmps10
  go_wp2;go_ret
  exact ⟨by rw [e];rfl,rfl⟩
 ·have e:((pickF c n:Nat):Int)=c%(n:Int):=by
   unfold pickF;rw [if_neg hc];exact Int.toNat_of_nonneg (Int.emod_nonneg _ hne)
  have ht:c.tmod (n:Int)=c%(n:Int):=Int.tmod_eq_emod_of_nonneg (by omega);have He:=hidI e;clear e;go_enter Tryz.func10,Tryz.ntmps10
  go_wp2;go_ret
  exact ⟨by rw [He.out];rfl,rfl⟩
theorem madeN (n:Nat) (h:n≤1000000):∃ M:Array Value,(∀ W:World,(Instr.makeSlice 50 (.int .i64 n) (.int .i64 n)).run Tryz.prog W=.ok (.slice (some ⟨W.heap.size,0,none⟩) n n) (W.alloc (.cells M 5)))∧∀ W:World,(W.alloc (.cells M 5)).rowIs W.heap.size 5 n (fun _=>.int .u8 0):=
 ⟨madeCells #[Value.int .u8 0] n,fun W=>run_make_row' (P:=Tryz.prog) 50 5 (.int .u8 0) 1 Tryz.underlying50 Tryz.info5 rfl .i64 .i64 n (by omega) (by omega) W,fun W=>World.rowIs_made W (.int .u8 0) n 5⟩
theorem qft (c n:Int) (w:World) (h1:-9223372036854775808≤c) (h2:c≤9223372036854775807) (h3:-9223372036854775808≤n) (h4:n≤9223372036854775807) :
 Calls Tryz.prog 12 #[.int .i64 c,.int .i64 n] w fun e w'=>∃ d:Bs,e=.returned (.string (txt d))∧d.length≤99∧Below w.heap.size w w':=by
 have hP1:=fun w=>qb9 n 100 w h3 h4 (by decide) (by decide)
 have hP2:=fun w=>qb9 c 1073741824 w h1 h2 (by decide) (by decide)
 have hP3:=fun w=>qb9 c 26 w h1 h2 (by decide) (by decide)
 have hk1:=qb3 n 100 (by decide);have hk2:=qb3 c 1073741824 (by decide);have hk3:=qb3 c 26 (by decide);obtain ⟨m,hm⟩:∃ m,m=pickF n 100:=⟨_,rfl⟩;obtain ⟨x0,hx0⟩:∃ x,x=pickF c 1073741824:=⟨_,rfl⟩;obtain ⟨p,hp⟩:∃ x,x=pickF c 26:=⟨_,rfl⟩;rw [←hm] at hP1 hk1;rw [←hx0] at hP2 hk2;rw [←hp] at hP3 hk3;clear hm hx0 hp;have HP1:=hidI hP1;have HP2:=hidI hP2;have HP3:=hidI hP3;clear hP1 hP2 hP3;obtain ⟨M,hmk,hM⟩:=madeN m (by omega);have h0:=hM w;have hb0:Below w.heap.size w (w.alloc (.cells M 5)):=(Below.refl _ _).alloc (Nat.le_refl _) _;clear hM;go_enter Tryz.func12,Tryz.ntmps12
 go_wp2_with fail;refine (HP1.out _).mono ?_;rintro e w' ⟨rfl,hw⟩;have hw':=hw.symm;subst hw';clear hw;go_wp2_with fail;refine (HP2.out _).mono ?_;rintro e w' ⟨rfl,hw⟩;have hw':=hw.symm;subst hw';clear hw hmk;go_wp2_with fail
 go_loopw [7,8] (fun x i wr=>∃ (k y:Nat) (l:Bs),k≤m∧y<2147483648∧l.length=m∧x=.int .i64 y∧i=.int .i64 k∧wr.rowIs w.heap.size 5 m (fun j=>.int .u8 ((l.getD j 0).toNat:Nat))∧Below w.heap.size w wr) (fun _ i _=>m - (intOf i).toNat)
 case atStart=>exact ⟨0,x0,List.replicate m 0,by omega,by omega,by simp,rfl,rfl,h0.congr fun j hj=>by simp [List.getD,hj],hb0⟩
 case round =>
  clear h0 hb0;obtain ⟨k,y,l,hk,hy,hl,rfl,rfl,hrow,hb⟩:=hrel;by_cases hlt:k<m
  ·have hc:=hrow.cell hlt;have hf:=hrow.frozen k;obtain ⟨y',hy'⟩:∃ y':Nat,y'=(y*1103515245+12345)%2147483648:=⟨_,rfl⟩;have hyl:y'<2147483648:=by omega
   have e1:((y:Int)*1103515245+12345).tmod 2147483648=(y':Nat):=by
    rw [Int.tmod_eq_emod_of_nonneg (by omega),hy'];omega
   obtain ⟨q,hq⟩:∃ q:Nat,q=y'/65536:=⟨_,rfl⟩;have e2:((y':Nat):Int).tdiv 65536=(q:Nat):=by
    rw [Int.tdiv_eq_ediv_of_nonneg (by omega),hq];omega
   obtain ⟨z,hz⟩:∃ z:Nat,z=q%(1+p):=⟨_,rfl⟩;have hzl:z<26:=by have:=Nat.mod_lt q (show 1+p > 0 by omega);omega
   have e3:((q:Nat):Int).tmod (1+(p:Int))=(z:Nat):=by
    rw [Int.tmod_eq_emod_of_nonneg (by omega),hz];push_cast;rfl
   have hq0:0≤(q:Int):=by omega
   have hq1:(q:Int)≤32768:=by omega
   have hrow':(wr.setCell ⟨w.heap.size,k,none⟩ (.int .u8 (97+(z:Nat)))).rowIs w.heap.size 5 m (fun j=>.int .u8 (((l.set k (UInt8.ofNat (97+z))).getD j 0).toNat:Nat)):=(hrow.set k _).congr fun j hj=>by
    by_cases e:j=k
    ·subst e;rw [if_pos rfl]
     have:j<l.length:=by omega
     simp only [List.getD,List.getElem?_set_self this,Option.getD_some,UInt8.toNat_ofNat']
     congr 1;omega
    ·rw [if_neg e];simp only [List.getD];rw [List.getElem?_set_ne (by omega)]
   have hb':=hb.setCell (p:=⟨w.heap.size,k,none⟩) (Nat.le_refl _) (.int .u8 (97+(z:Nat)));clear hrow hb hz hq hy';go_wp2_with fail;refine (HP3.out _).mono ?_;rintro e w' ⟨rfl,hw⟩;have hw':=hw.symm;subst hw';clear hw;go_wp2;go_roundw
   case rel=>exact ⟨k+1,y',l.set k (UInt8.ofNat (97+z)),by omega,hyl,by simpa using hl,rfl,by go_num,hrow',hb'⟩
   case measure=>simp [intOf];omega
  ·have hkm:k=m:=by omega
   subst hkm;have hcv:=S1.row_str (c:=k) hrow hl;clear hrow;go_wp2;go_ret
   exact ⟨l,rfl,by omega,hb⟩
end Go.Proofs.YtodmdkhdbfbfgabGreatDoor
namespace Go.Proofs.YtodmdkhdbfbfgabGreatDoor.S1
open Go.RowKit Pk
def badL (z:Nat→Int) (n:Nat) (i:Nat):Bool:=(List.range n).any fun j=>z j==(i:Int)
def mkM (blocks pages:Int) (n:Nat) (z:Nat→Int):M:=⟨(bnd blocks 4 32).toNat,(bnd pages 4 16).toNat,fun _ _=>[],fun _=>0,badL z n,-1,0,-1,0⟩
theorem mkM_wf (blocks pages:Int) (n:Nat) (z:Nat→Int):WF (mkM blocks pages n z):=by
 have h1:=qhV blocks 4 32 (by omega);have h2:=qhV pages 4 16 (by omega);refine ⟨?_,?_,?_,?_,fun i _=>Nat.zero_le _,fun i p _ _=>Nat.zero_le _,?_,?_,?_,?_,?_,?_,?_,?_⟩<;>(simp only [mkM];omega)
theorem qdE (z:Nat→Int) (k:Nat):badL z (k+1)=fun i=>badL z k i||(z k==(i:Int)):=by
 funext i
 unfold badL;rw [List.range_succ,List.any_append];simp
theorem qe8 {α:Type} (n:Nat) (x:α):(List.range n).map (fun _=>x)++[x]=(List.range (n+1)).map fun _=>x:=by
 rw [List.range_succ,List.map_append];rfl
theorem madeNp (np:Nat) (h:np≤16):∃ M:Array Value,(∀ W:World,(Instr.makeSlice 61 (.int .i64 (np:Nat)) (.int .i64 (np:Nat))).run Tryz.prog W=.ok (.slice (some ⟨W.heap.size,0,none⟩) np np) (W.alloc (.cells M 9)))∧∀ W:World,(W.alloc (.cells M 9)).rowIs W.heap.size 9 np (fun _=>.string ⟨#[]⟩):=
 ⟨madeCells #[Value.string ⟨#[]⟩] np,fun W=>run_make_row' (P:=Tryz.prog) 61 9 (.string ⟨#[]⟩) 16 Tryz.underlying61 Tryz.info9 rfl .i64 .i64 np (by omega) (by omega) W,fun W=>World.rowIs_made W (.string ⟨#[]⟩) np 9⟩
theorem qdn {B:Nat} {a w:World} (h:Below B a w) (q:Nat):Below B a (w.drewN q):=⟨h.os,h.tape,h.output,h.size,h.block⟩
theorem MemX.bdc {w:World} {lo hi cb:Nat} {T:TypeId} {L:Loc} {m:M} {enc:List UInt8→List UInt8} {g4 g5 g6 g7:Int} (h:MemX w lo hi cb T L m enc g4 g5 g6 g7) (bd:Nat→Bool) (e:∀ i,i<m.nb→m.bd i=bd i):MemX w lo hi cb T L { m with bd:=bd } enc g4 g5 g6 g7:=
 ⟨h.hcb,h.hdb,h.hnk,h.hbk,h.hrw,h.inj,h.hT,h.st,h.data,h.next,h.bad.congr (fun i hi=>by rw [e i hi]),h.page⟩
theorem qfn (w:World) (p:Addr) (x v:Value) (t:TypeId):∀ j u,[v][j]? = some u→((w.setCell p x).alloc (.cells #[v] t)).cell? ((⟨w.heap.size,0,none⟩:Addr).add j)=some u:=by
 have:=cell_one_new (w.setCell p x) v t
 simpa using this
theorem qfo (w:World) (o:Obj) (v:Value) (t:TypeId):∀ j u,[v][j]? = some u→((w.alloc o).alloc (.cells #[v] t)).cell? ((⟨w.heap.size+1,0,none⟩:Addr).add j)=some u:=by
 have:=cell_one_new (w.alloc o) v t
 simpa using this
theorem new_any (w:World) (blocks pages:Int) (a:Option Addr) (n cap:Nat) (z:Nat→Int) (hn:n≤17592186043904) (hin:IntsIn w a n z) :
 Calls Tryz.prog 7 #[.int .i64 blocks,.int .i64 pages,.slice a n cap] w fun e w'=>∃ L hi,e=.returned (.pointer (some ⟨w.heap.size,0,none⟩))∧hi≤w'.heap.size∧CP w' w.heap.size hi w.heap.size L (mkM blocks pages n z)∧Below w.heap.size w w':=by
 have Hbl:=hidI (fun w=>qfs blocks 4 32 (by omega) w);have Hpg:=hidI (fun w=>qfs pages 4 16 (by omega) w);have hb1:=qhV blocks 4 32 (by omega);have hb2:=qhV pages 4 16 (by omega);obtain ⟨nb,hnb⟩:∃ nb:Nat,bnd blocks 4 32=(nb:Int):=Int.eq_ofNat_of_zero_le (by omega);obtain ⟨np,hnp⟩:∃ np:Nat,bnd pages 4 16=(np:Int):=Int.eq_ofNat_of_zero_le (by omega);have HM:Hid (mkM blocks pages n z=⟨nb,np,fun _ _=>[],fun _=>0,badL z n,-1,0,-1,0⟩):=by
  show mkM blocks pages n z=_;unfold mkM;rw [hnb,hnp];rfl
 rw [hnb] at Hbl hb1;rw [hnp] at Hpg hb2;have hnb1:4≤nb:=by omega
 have hnb2:nb≤32:=by omega
 have hnp1:4≤np:=by omega
 have hnp2:np≤16:=by omega
 clear hnb hnp hb1 hb2;obtain ⟨MC,hmk,hMC⟩:=madeNp np hnp2;have HMC:=hidI hMC;clear hMC;have Hin:=hidI hin;clear hin;go_enter Tryz.func7,Tryz.ntmps7
 go_wp2_with (first | (go_at_call 27;refine (Hpg.out _).mono ?_;rintro e w1 ⟨rfl,h1⟩;subst h1));have Hst0:=hidI (heap_alloc_new w1 (Obj.cells #[.int .i64 (np:Nat),.slice none 0 0,.slice none 0 0,.slice none 0 0,.int .i64 (-1),.int .i64 0,.int .i64 (-1),.int .i64 0] 60));have Hb0:=hidI ((Below.refl w1.heap.size w1).alloc (Nat.le_refl _) (Obj.cells #[.int .i64 (np:Nat),.slice none 0 0,.slice none 0 0,.slice none 0 0,.int .i64 (-1),.int .i64 0,.int .i64 (-1),.int .i64 0] 60));obtain ⟨i0,hi0,hz0,hz1,hz2⟩:=info_parts Tryz.info23;obtain ⟨k0,ki,kz0,kz1,kz2⟩:=info_parts Tryz.info3;obtain ⟨l0,li,lz0,lz1,lz2⟩:=info_parts Tryz.info4;obtain ⟨G,hGe⟩:∃ G,G=w1.heap.size:=⟨_,rfl⟩;have Hin:Hid (∀ W,Below G w1 W→IntsIn W a n z):=fun W hb=>Hin.out.below (hGe ▸ hb)
 rw [←hGe] at Hst0 Hb0 ⊢;have HGe:=hidI hGe;clear hGe
 go_loopw [8] (fun x wr=>∃ k:Nat,k≤nb∧x=.int .i64 k∧∃ da dc na nc ba bc rw cr,wr.heap[G]? = some (.cells #[.int .i64 (np:Nat),.slice da k dc,.slice na k nc,.slice ba k bc,.int .i64 (-1),.int .i64 0,.int .i64 (-1),.int .i64 0] 60 (0,0))∧Data wr G (.slice da k dc) k np rw cr (fun _ _=>[])∧wr.ownsRow G 3 1 (.slice na k nc) k ((List.range k).map fun _=>.int .i64 0)∧wr.ownsRow G 4 1 (.slice ba k bc) k ((List.range k).map fun _=>.bool false)∧Below G w1 wr) (fun x _=>nb - (intOf x).toNat)
 case atStart=>exact ⟨0,by omega,rfl,none,0,none,0,none,0,fun _=>0,fun _=>0,Hst0.out,Data.nil _ _ _ _ _ _,World.ownsRow_nil _ _ _ _,World.ownsRow_nil _ _ _ _,Hb0.out⟩
 case round =>
  clear Hst0 Hb0;obtain ⟨k,hk,rfl,da,dc,na,nc,ba,bc,rw,cr,hst,hdat,hnx,hbd,hbel⟩:=hrel;have hGr:G<wr.heap.size:=qaa hst;by_cases hlt:k<nb
  ·have x0:wr.cell? ⟨G,0,none⟩=some (.int .i64 (np:Nat)):=by rw [cell_of_row wr G 0 _ 60 (0,0) hst];rfl
   have x1:wr.cell? ⟨G,1,none⟩=some (.slice da k dc):=by rw [cell_of_row wr G 1 _ 60 (0,0) hst];rfl
   have x1a:∀ o,(wr.drew.alloc o).cell? ⟨G,1,none⟩=some (.slice da k dc):=fun o=>(World.cell?_of_block (w:=wr) (Below.heap_alloc wr.drew o G hGr)).trans x1
   have x1b:∀ o o',((wr.drew.alloc o).alloc o').cell? ⟨G,1,none⟩=some (.slice da k dc):=fun o o'=>(World.cell?_of_block (w:=wr.drew.alloc o) (Below.heap_alloc (wr.drew.alloc o) o' G (by simp;omega))).trans (x1a o)
   have Hst:=hidI hst;have Hdat:=hidI hdat;have Hnx:=hidI hnx;have Hbd:=hidI hbd;have Hbel:=hidI hbel;clear hst hdat hnx hbd hbel;go_wp2_with (first | (go_at_call 27;refine (Hbl.out _).mono ?_;rintro e w2 ⟨rfl,h2⟩;subst h2));go_region_law (first
    | (refine step_append_lies _ (by rfl) _ _ _ (by rfl) G 61 i0 _ 1 24 Tryz.underlying57 hi0 hz0 hz1 hz2 rfl (by omega) (.slice da k dc) k _ (by rfl) ((Hdat.out.own.drew.alloc _).alloc _) ⟨w2.heap.size+1,0,none⟩ 1 1 [.slice (some ⟨w2.heap.size,0,none⟩) np np] (by rfl) rfl (qfo w2.drew (.cells MC 9) (.slice (some ⟨w2.heap.size,0,none⟩) np np) 61) (by intro u hu;simp at hu;subst hu;rfl) (by omega) (by unfold maxLen;omega) (by omega) (by simp;omega) (w2.heap.size+2) (by simp) ?_;intro g2 cap2 w3 hown2 hgrow2 hat2 hlt2;have K2:∀ t,t≠61→Keeps t (w2.drew.alloc (.cells MC 9)) w3:=(fun t ht=>((Keeps.refl t _).alloc _).grown ((Hdat.out.own.drew.alloc _).alloc _) (fun e=>ht e.symm) hgrow2);have hst2:=(((Keeps.refl 60 w2).drew.alloc (.cells MC 9)).trans (K2 60 (by decide))).block Hst.out;have y1:w3.cell? ⟨G,1,none⟩=some (.slice da k dc):=(by rw [cell_of_row w3 G 1 _ 60 (0,0) hst2];rfl);have yf:=frozen_of_row w3 G 1 _ 60 hst2;have Hbel3:Hid (Below G w1 w3):=((Hbel.out.drew.alloc (Nat.le_of_lt hGr) _).alloc (by simp;omega) _).grown hgrow2 (by simp;omega) (fun q hq=>(Hdat.out.own.lt q hq).1);have HK2:=hidI K2;have Hst2:=hidI hst2;have Hown2:=hidI hown2;clear hown2 hgrow2 hat2 K2 hst2))
   all_goals have hKa:∀ t,t≠61→Keeps t w2 w3:=(fun t ht=>((Keeps.refl t w2).drew.alloc (.cells MC 9)).trans (HK2.out t ht))
   all_goals have hst3:=heap_setCell_same w3 G 1 _ 60 (.slice (some ⟨g2,0,none⟩) (k+1) cap2) Hst2.out
   all_goals have hrow3:Rw (w3.setCell ⟨G,1,none⟩ (.slice (some ⟨g2,0,none⟩) (k+1) cap2)) w2.heap.size 9 np (fun p=>.string (txt ((fun _=>[]:Nat→List UInt8) p))):=((HK2.out 9 (by decide)).set (o:=1) (v:=.slice (some ⟨g2,0,none⟩) (k+1) cap2) Hst2.out (by decide)).rw (rowIs_rw (HMC.out w2.drew))
   all_goals have hdat3:=Hdat.out.push ((hKa 9 (by decide)).set (o:=1) (v:=.slice (some ⟨g2,0,none⟩) (k+1) cap2) Hst2.out (by decide)) (r:=w2.heap.size) (c:=np) (f:=fun _=>[]) (Nat.le_of_lt hGr) (Nat.le_refl _) hrow3 (((Keeps.refl 61 w3).set (o:=1) (v:=.slice (some ⟨g2,0,none⟩) (k+1) cap2) Hst2.out (by decide)).own Hown2.out)
   all_goals have hpe:put (fun (_:Nat) (_:Nat)=>([]:List UInt8)) k (fun _=>[])=fun _ _=>[]:=(by
    funext x y
    unfold put
    split<;>rfl)
   all_goals rw [hpe] at hdat3
   all_goals have hnx3:=((hKa 3 (by decide)).set (o:=1) (v:=.slice (some ⟨g2,0,none⟩) (k+1) cap2) Hst2.out (by decide)).own Hnx.out
   all_goals have hbd3:=((hKa 4 (by decide)).set (o:=1) (v:=.slice (some ⟨g2,0,none⟩) (k+1) cap2) Hst2.out (by decide)).own Hbd.out
   all_goals have hbel3:=Hbel3.out.setCell (p:=⟨G,1,none⟩) (Nat.le_refl _) (.slice (some ⟨g2,0,none⟩) (k+1) cap2)
   all_goals generalize w3.setCell ⟨G,1,none⟩ (.slice (some ⟨g2,0,none⟩) (k+1) cap2)=wa at *
   all_goals clear hrow3 hpe hKa Hst2 HK2 Hown2 y1 yf Hbel3 x0 x1 x1a x1b Hst Hdat Hnx Hbd Hbel
   all_goals have hGa:G<wa.heap.size:=qaa hst3
   all_goals have x2:wa.cell? ⟨G,2,none⟩=some (.slice na k nc):=(by rw [cell_of_row wa G 2 _ 60 (0,0) hst3];rfl)
   all_goals have Hst3:=hidI hst3
   all_goals have Hdat3:=hidI hdat3
   all_goals have Hbd3:=hidI hbd3
   all_goals have Hbel3:=hidI hbel3
   all_goals clear hst3 hdat3 hbd3 hbel3
   all_goals go_wp2_with (at_builtin;refine wpList_append_lies _ rfl (.tmp 38) (.tmp 39) 22 rfl G 3 k0 (.int .i64 0) 1 8 Tryz.underlying22 ki kz0 kz1 kz2 rfl (by decide) (.slice na k nc) k _ rfl (hnx3.alloc _) ⟨wa.heap.size,0,none⟩ 1 1 [.int .i64 0] rfl rfl (cell_one_new _ _ _) (by intro u hu;simp at hu;subst hu;rfl) (by omega) (by unfold maxLen;omega) (by omega) (by simp;omega) (wa.heap.size+1) (by simp) ?_)
   all_goals intro g4 cap4 w4 hown4 hgrow4 hat4 hlt4
   all_goals have K4:∀ t,t≠3→Keeps t wa w4:=(fun t ht=>((Keeps.refl t wa).alloc _).grown (hnx3.alloc _) (fun e=>ht e.symm) hgrow4)
   all_goals have hst4:=(K4 60 (by decide)).block Hst3.out
   all_goals have y2:w4.cell? ⟨G,2,none⟩=some (.slice na k nc):=(by rw [cell_of_row w4 G 2 _ 60 (0,0) hst4];rfl)
   all_goals have yf2:=frozen_of_row w4 G 2 _ 60 hst4
   all_goals have hst5:=heap_setCell_same w4 G 2 _ 60 (.slice (some ⟨g4,0,none⟩) (k+1) cap4) hst4
   all_goals rw [qe8] at hown4
   all_goals have hnx5:=((Keeps.refl 3 w4).set (o:=2) (v:=.slice (some ⟨g4,0,none⟩) (k+1) cap4) hst4 (by decide)).own hown4
   all_goals have hdat5:=Hdat3.out.keep ((K4 9 (by decide)).set (o:=2) (v:=.slice (some ⟨g4,0,none⟩) (k+1) cap4) hst4 (by decide)) ((K4 61 (by decide)).set (o:=2) (v:=.slice (some ⟨g4,0,none⟩) (k+1) cap4) hst4 (by decide))
   all_goals have hbd5:=((K4 4 (by decide)).set (o:=2) (v:=.slice (some ⟨g4,0,none⟩) (k+1) cap4) hst4 (by decide)).own Hbd3.out
   all_goals have hbel5:Below G w1 (w4.setCell ⟨G,2,none⟩ (.slice (some ⟨g4,0,none⟩) (k+1) cap4)):=((Hbel3.out.alloc (Nat.le_of_lt hGa) _).grown hgrow4 (by simp;omega) (fun q hq=>(hnx3.lt q hq).1)).setCell (Nat.le_refl _) _
   all_goals have hG4:G<w4.heap.size:=qaa hst4
   all_goals have x3:(w4.setCell ⟨G,2,none⟩ (.slice (some ⟨g4,0,none⟩) (k+1) cap4)).cell? ⟨G,3,none⟩=some (.slice ba k bc):=(by rw [cell_of_row _ G 3 _ 60 (0,0) hst5];rfl)
   all_goals have Hst5:=hidI hst5
   all_goals have Hdat5:=hidI hdat5
   all_goals have Hnx5:=hidI hnx5
   all_goals have Hbel5:=hidI hbel5
   all_goals clear hst4 hst5 hdat5 hnx5 hbel5 hown4 hgrow4 hat4 K4 Hst3 Hdat3 Hbd3 Hbel3 hnx3 x2
   all_goals go_wp2_with (at_builtin;refine wpList_append_lies _ rfl (.tmp 47) (.tmp 48) 58 rfl G 4 l0 (.bool false) 1 1 Tryz.underlying58 li lz0 lz1 lz2 rfl (by decide) (.slice ba k bc) k _ rfl (hbd5.alloc _) ⟨w4.heap.size,0,none⟩ 1 1 [.bool false] rfl rfl (qfn _ _ _ _ _) (by intro u hu;simp at hu;subst hu;rfl) (by omega) (by unfold maxLen;omega) (by omega) (by simp;omega) (w4.heap.size+1) (by simp) ?_)
   all_goals intro g6 cap6 w6 hown6 hgrow6 hat6 hlt6
   all_goals have K6:∀ t,t≠4→Keeps t (w4.setCell ⟨G,2,none⟩ (.slice (some ⟨g4,0,none⟩) (k+1) cap4)) w6:=(fun t ht=>((Keeps.refl t _).alloc _).grown (hbd5.alloc _) (fun e=>ht e.symm) hgrow6)
   all_goals have hst6:=(K6 60 (by decide)).block Hst5.out
   all_goals have y3:w6.cell? ⟨G,3,none⟩=some (.slice ba k bc):=(by rw [cell_of_row w6 G 3 _ 60 (0,0) hst6];rfl)
   all_goals have yf3:=frozen_of_row w6 G 3 _ 60 hst6
   all_goals rw [qe8] at hown6
   all_goals have Hst7:=hidI (heap_setCell_same w6 G 3 _ 60 (.slice (some ⟨g6,0,none⟩) (k+1) cap6) hst6)
   all_goals have Hbd7:=hidI (((Keeps.refl 4 w6).set (o:=3) (v:=.slice (some ⟨g6,0,none⟩) (k+1) cap6) hst6 (by decide)).own hown6)
   all_goals have Hnx7:=hidI (((K6 3 (by decide)).set (o:=3) (v:=.slice (some ⟨g6,0,none⟩) (k+1) cap6) hst6 (by decide)).own Hnx5.out)
   all_goals have Hdat7:=hidI (Hdat5.out.keep ((K6 9 (by decide)).set (o:=3) (v:=.slice (some ⟨g6,0,none⟩) (k+1) cap6) hst6 (by decide)) ((K6 61 (by decide)).set (o:=3) (v:=.slice (some ⟨g6,0,none⟩) (k+1) cap6) hst6 (by decide)))
   all_goals have Hbel7:Hid (Below G w1 (w6.setCell ⟨G,3,none⟩ (.slice (some ⟨g6,0,none⟩) (k+1) cap6))):=((Hbel5.out.alloc (by simp;omega) _).grown hgrow6 (by simp;omega) (fun q hq=>(hbd5.lt q hq).1)).setCell (Nat.le_refl _) _
   all_goals clear hst6 hown6 hgrow6 hat6 K6 Hst5 Hdat5 Hnx5 Hbel5 hbd5 x3 y2 yf2
   all_goals go_wp2
   all_goals (go_roundw;(case rel=>exact ⟨k+1,by omega,by go_num,some ⟨_,0,none⟩,cap2,some ⟨_,0,none⟩,cap4,some ⟨_,0,none⟩,cap6,_,_,Hst7.out,Hdat7.out,Hnx7.out,Hbd7.out,Hbel7.out⟩);(case measure=>simp [intOf];omega))
  ·have hke:nb=k:=by omega
   subst hke;obtain ⟨L,hL⟩:=MemX.built (T:=60) (enc:=id) (m:=⟨nb,np,fun _ _=>[],fun _=>0,badL z 0,-1,0,-1,0⟩) (g4:=-1) (g5:=0) (g6:=-1) (g7:=0) (by show 0<nb;omega) (by decide) (Nat.le_refl G) hst hdat (fun i p _ _=>rfl) hnx hbd;obtain ⟨H,hH⟩:∃ H,H=wr.heap.size:=⟨_,rfl⟩;rw [←hH] at hL;have Hle:Hid (H≤wr.heap.size):=Nat.le_of_eq hH;have HL:=hidI hL;have Hbel:=hidI hbel;clear hst hdat hnx hbd hbel hL hH hGr;go_wp2_with (first | (go_at_call 27;refine (Hbl.out _).mono ?_;rintro e w2 ⟨rfl,h2⟩;subst h2))
   go_loopw [9] (fun x wr=>∃ k:Nat,k≤n∧x=.int .i64 k∧CP wr G H G L ⟨nb,np,fun _ _=>[],fun _=>0,badL z k,-1,0,-1,0⟩∧Below G w1 wr∧H≤wr.heap.size) (fun x _=>n - (intOf x).toNat)
   case atStart=>exact ⟨0,by omega,rfl,HL.out,Hbel.out,Hle.out⟩
   case round =>
    clear HL Hbel Hle;obtain ⟨k,hk,rfl,hm,hbel,hle⟩:=hrel;have c1:=MemX.c1 hm;have c3:=MemX.c3 hm;have Hle:=hidI hle;have Hbel:=hidI hbel;have Hm:=hidI hm;simp only [] at c1 c3;by_cases hlt:k<n
    ·obtain ⟨b,off,rfl,hc⟩:=Hin.out _ hbel (by omega);have hck:=hc k hlt;clear hc hm hbel hle;by_cases h0:z k<0
     ·have hd:decide (0≤z k)=false:=by simp;omega
      have Hm2:Hid (CP wr G H G L ⟨nb,np,fun _ _=>[],fun _=>0,badL z (k+1),-1,0,-1,0⟩):=(Hm.out.bdc (badL z (k+1)) (fun i _=>by rw [qdE];show _=(badL z k i||(z k==(i:Int)));rw [show (z k==(i:Int))=false by simp;omega,Bool.or_false]));go_wp2_with fail
      go_quiet (fail)
      go_wp2;go_roundw
      case rel=>exact ⟨k+1,by omega,by go_num,MemX.drewN Hm2.out _,qdn Hbel.out _,Hle.out⟩
      case measure=>simp [intOf];omega
     ·have hd:decide (0≤z k)=true:=by simp;omega
      obtain ⟨i,hzi⟩:∃ i:Nat,z k=(i:Int):=Int.eq_ofNat_of_zero_le (by omega);have Hzi:=hidI hzi;rw [hzi] at hck;by_cases h1:i<nb
      ·have hd1:decide ((i:Int)<(nb:Int))=true:=by simp;omega
       have hf:=Hm.out.bad.frozen i;have hcb:=Hm.out.bad.cell h1;have Hm2:Hid (∀ q,CP ((wr.drewN q).setCell ⟨L.bk,i,none⟩ (.bool true)) G H G L ⟨nb,np,fun _ _=>[],fun _=>0,badL z (k+1),-1,0,-1,0⟩):=fun q=>((MemX.setBd (MemX.drewN Hm.out q) i true).bdc (badL z (k+1)) (fun a _=>by
        rw [qdE];show (if a=i then true else badL z k a)=(badL z k a||(z k==(a:Int)));rw [Hzi.out];by_cases e:a=i
        ·rw [if_pos e,e];simp
        ·rw [if_neg e,show ((i:Int)==(a:Int))=false by simp;omega,Bool.or_false]))
       have Hbel2:Hid (∀ q,Below G w1 ((wr.drewN q).setCell ⟨L.bk,i,none⟩ (.bool true))):=fun q=>(qdn Hbel.out q).setCell (p:=⟨L.bk,i,none⟩) Hm.out.hbk.1 (.bool true)
       clear h0 hd hzi;go_wp2_with fail
       go_quiet (fail)
       go_wp2_with fail;go_region;go_wp2;go_roundw
       case rel=>exact ⟨k+1,by omega,by go_num,Hm2.out _,Hbel2.out _,by simpa using Hle.out⟩
       case measure=>simp [intOf];omega
      ·have hd1:decide ((i:Int)<(nb:Int))=false:=by simp;omega
       have Hm2:Hid (CP wr G H G L ⟨nb,np,fun _ _=>[],fun _=>0,badL z (k+1),-1,0,-1,0⟩):=(Hm.out.bdc (badL z (k+1)) (fun a ha=>by rw [qdE];show _=(badL z k a||(z k==(a:Int)));have:a<nb:=ha;rw [Hzi.out,show ((i:Int)==(a:Int))=false by simp;omega,Bool.or_false]));clear h0 hd hzi;go_wp2_with fail
       go_quiet (fail)
       go_wp2;go_roundw
       case rel=>exact ⟨k+1,by omega,by go_num,MemX.drewN Hm2.out _,qdn Hbel.out _,Hle.out⟩
       case measure=>simp [intOf];omega
    ·have hke:n=k:=by omega
     subst hke;clear hm hbel hle;go_wp2;go_ret
     refine ⟨L,H,by rw [←HGe.out];rfl,Hle.out,?_,?_⟩
     ·rw [HM.out,←HGe.out];exact Hm.out
     ·rw [←HGe.out];exact Hbel.out
end Go.Proofs.YtodmdkhdbfbfgabGreatDoor.S1
namespace Go.Proofs.YtodmdkhdbfbfgabGreatDoor
open Go.RowKit Go.Nt
theorem qmG (b p:Int) (z:Nat→Int):S1.New (S1.mkM b p 0 z):=⟨S1.mkM_wf b p 0 z,rfl,by show (-1:Int)<0;decide,fun _ _=>rfl,fun _=>rfl⟩
theorem qmh (b p:Int) (z:Nat→Int):S1.roomP (S1.mkM b p 0 z)=(S1.mkM b p 0 z).nb/2*(S1.mkM b p 0 z).np:=by
 have h:S1.badN (S1.mkM b p 0 z)=0:=by
  unfold S1.badN;rw [List.countP_eq_zero];intro i _;show ¬S1.badL z 0 i=true;simp [S1.badL]
 unfold S1.roomP S1.good;rw [h,Nat.sub_zero]
theorem ft_nil:FT 0 []:=⟨fun x hx=>(by cases hx),by simp,by simp,by omega⟩
end Go.Proofs.YtodmdkhdbfbfgabGreatDoor
