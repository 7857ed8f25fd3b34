/- Lemmas. -/
import Derived.Laws.OwnMore
import Derived.Test.YtodmdkhdbfbfgaaGreatDoorM22
set_option linter.unusedVariables false
set_option linter.unusedSimpArgs false
set_option maxRecDepth 100000
set_option maxHeartbeats 8000000
namespace Go.Proofs.YtodmdkhdbfbfgaaGreatDoor
open Go.RowKit Go.Nt
def pickF (c:Int) (n:Nat):Nat:=((if c<0 then -(c+1) else c)%(n:Int)).toNat
theorem qbf (c:Int) (n:Nat) (hn:0<n):pickF c n<n:=by
 unfold pickF;have h1:=Int.emod_nonneg (if c<0 then -(c+1) else c) (by omega:(n:Int)≠0);have h2:=Int.emod_lt_of_pos (if c<0 then -(c+1) else c) (by omega:0<(n:Int));omega
theorem qa1 (c:Int) (n:Nat) (w:World) (h1:-9223372036854775808≤c) (h2:c≤9223372036854775807) (hn:0<n) (hn2:n≤4611686018427387904) :
 Calls Tryz.prog 18 #[.int .i64 c,.int .i64 n] w fun e w'=>e=.returned (.int .i64 (pickF c n:Nat))∧w'=w:=by
 have hne:(n:Int)≠0:=by omega
 have hp:=qbf c n hn;by_cases hc:c<0
 ·have e:((pickF c n:Nat):Int)=(-(c+1))%(n:Int):=by
   unfold pickF;rw [if_pos hc];exact Int.toNat_of_nonneg (Int.emod_nonneg _ hne)
  have ht:(-(c+1)).tmod (n:Int)=(-(c+1))%(n:Int):=Int.tmod_eq_emod_of_nonneg (by omega);go_enter Tryz.func18,Tryz.ntmps18
  go_wp2;go_ret
  exact ⟨by rw [e];rfl,rfl⟩
 have e:((pickF c n:Nat):Int)=c%(n:Int):=by
  unfold pickF;rw [if_neg hc];exact Int.toNat_of_nonneg (Int.emod_nonneg _ hne)
 have ht:c.tmod (n:Int)=c%(n:Int):=Int.tmod_eq_emod_of_nonneg (by omega);have He:=hidI e;clear e;go_enter Tryz.func18,Tryz.ntmps18
 go_wp2;go_ret
 exact ⟨by rw [He.out];rfl,rfl⟩
def names:List Bs:=[[97],[98],[99],[100],[100,47,97],[100,47,98],[100,47,101],[100,47,101,47,97],[100,47,101,47,98],[102],[102,47,97],[100,46,120]]
def qbD (p:Bs):Bool:=decide (p=[100])||decide (p=[100,47,101])||decide (p=[102])
theorem qkY (c:Int) (w:World) (h1:-9223372036854775808≤c) (h2:c≤9223372036854775807) :
 Calls Tryz.prog 33 #[.int .i64 c] w fun e w'=>∃ p,e=.returned (.string (txt p))∧p∈names∧Below w.heap.size w w':=by
 obtain ⟨R,hR⟩:∃ R:Array Value,R=#[.string ⟨#[97]⟩,.string ⟨#[98]⟩,.string ⟨#[99]⟩,.string ⟨#[100]⟩,.string ⟨#[100,47,97]⟩,.string ⟨#[100,47,98]⟩,.string ⟨#[100,47,101]⟩,.string ⟨#[100,47,101,47,97]⟩,.string ⟨#[100,47,101,47,98]⟩,.string ⟨#[102]⟩,.string ⟨#[102,47,97]⟩,.string ⟨#[100,46,120]⟩]:=⟨_,rfl⟩;have hP:=qa1 c 12 (w.alloc (.cells R 9)) h1 h2 (by decide) (by decide);have hk:=qbf c 12 (by decide);obtain ⟨k,hkk⟩:∃ k,k=pickF c 12:=⟨_,rfl⟩;rw [←hkk] at hP hk;have hcell:(w.alloc (.cells R 9)).cell? ⟨w.heap.size,k,none⟩=some (.string (txt (names.getD k []))):=by
  rw [cell_of_row _ w.heap.size k _ 9 (0,0) (heap_alloc_new _ _),hR]
  have:∀ j,j<12→(#[.string ⟨#[97]⟩,.string ⟨#[98]⟩,.string ⟨#[99]⟩,.string ⟨#[100]⟩,.string ⟨#[100,47,97]⟩,.string ⟨#[100,47,98]⟩,.string ⟨#[100,47,101]⟩,.string ⟨#[100,47,101,47,97]⟩,.string ⟨#[100,47,101,47,98]⟩,.string ⟨#[102]⟩,.string ⟨#[102,47,97]⟩,.string ⟨#[100,46,120]⟩]:Array Value)[j]? = some (.string (txt (names.getD j []))):=fun j hj=>by
   match j,hj with
   | 0,_=>rfl
   | 1,_=>rfl
   | 2,_=>rfl
   | 3,_=>rfl
   | 4,_=>rfl
   | 5,_=>rfl
   | 6,_=>rfl
   | 7,_=>rfl
   | 8,_=>rfl
   | 9,_=>rfl
   | 10,_=>rfl
   | 11,_=>rfl
  exact this k hk
 have hmem:names.getD k []∈names:=by
  have:k<names.length:=hk
  rw [List.getD,List.getElem?_eq_getElem this];exact List.getElem_mem this
 obtain ⟨p,hp⟩:∃ p,p=names.getD k []:=⟨_,rfl⟩;rw [←hp] at hcell hmem;have Hm:=hidI hmem;have HP:=hidI hP;have HC:=hidI hcell;obtain ⟨W,hW⟩:∃ W,W=w.alloc (.cells R 9):=⟨_,rfl⟩;have hB:Below w.heap.size w W:=by rw [hW];exact (Below.refl _ w).alloc (Nat.le_refl _) _
 rw [←hW] at HP HC;rw [hR] at hW;have HW:=hidI hW;have HB:=hidI hB;have hcell':=HC.out;clear hP hkk hcell hmem hp hR hW hB;go_enter Tryz.func33,Tryz.ntmps33
 go_wp2_with (first | (rw [←HW.out]) | fail);refine HP.out.mono ?_;rintro e w' ⟨rfl,hw⟩;have hw':=hw.symm;subst hw';clear hw;go_wp2;go_ret
 exact ⟨p,rfl,Hm.out,HB.out⟩
theorem qlR {p:Bs} (h:p∈names):p.length≤5:=by
 have:∀ q∈names,q.length≤5:=by decide
 exact this p h
theorem qhX (p:Bs) (w:World):Calls Tryz.prog 34 #[.string (txt p)] w fun e w'=>e=.returned (.bool (qbD p))∧w'=w:=by
 have hx:(txt p).toList=p:=qar p;obtain ⟨X,hX⟩:∃ X,X=txt p:=⟨_,rfl⟩;rw [←hX] at hx ⊢;clear hX;unfold qbD;by_cases a:p=[100]
 ·subst a;go_enter Tryz.func34,Tryz.ntmps34
  go_wp2;go_ret
  exact ⟨rfl,rfl⟩
 by_cases b:p=[100,47,101]
 ·subst b;go_enter Tryz.func34,Tryz.ntmps34
  go_wp2;go_ret
  exact ⟨rfl,rfl⟩
 by_cases c:p=[102]
 ·subst c;go_enter Tryz.func34,Tryz.ntmps34
  go_wp2;go_ret
  exact ⟨rfl,rfl⟩
 have Ha:¬X.toList=[100]:=by rw [hx];exact a
 have Hb:¬X.toList=[100,47,101]:=by rw [hx];exact b
 have Hc:¬X.toList=[102]:=by rw [hx];exact c
 have Hd:Hid ((decide (p=[100])||decide (p=[100,47,101])||decide (p=[102]))=false):=hidI (by simp [a,b,c]);rw [Hd.out];clear a b c hx Hd;go_enter Tryz.func34,Tryz.ntmps34
 go_wp2;go_ret
 exact ⟨by simp [Ha,Hb,Hc],rfl⟩
theorem madeN (n:Nat) (h:n≤1000000):∃ M:Array Value,(∀ W:World,(Instr.makeSlice 111 (.int .i64 n) (.int .i64 n)).run Tryz.prog W=.ok (.slice (some ⟨W.heap.size,0,none⟩) n n) (W.alloc (.cells M 5)))∧∀ W:World,(W.alloc (.cells M 5)).rowIs W.heap.size 5 n (fun _=>.int .u8 0):=
 ⟨madeCells #[Value.int .u8 0] n,fun W=>run_make_row' (P:=Tryz.prog) 111 5 (.int .u8 0) 1 Tryz.underlying111 Tryz.info5 rfl .i64 .i64 n (by omega) (by omega) W,fun W=>World.rowIs_made W (.int .u8 0) n 5⟩
theorem qjo (c n:Int) (w:World) (h1:-9223372036854775808≤c) (h2:c≤9223372036854775807) (h3:-9223372036854775808≤n) (h4:n≤9223372036854775807) :
 Calls Tryz.prog 35 #[.int .i64 c,.int .i64 n] w fun e w'=>∃ d:Bs,e=.returned (.string (txt d))∧d.length≤99∧Below w.heap.size w w':=by
 have hP1:=fun w=>qa1 n 100 w h3 h4 (by decide) (by decide)
 have hP2:=fun w=>qa1 c 1073741824 w h1 h2 (by decide) (by decide)
 have hP3:=fun w=>qa1 c 26 w h1 h2 (by decide) (by decide)
 have hk1:=qbf n 100 (by decide);have hk2:=qbf c 1073741824 (by decide);have hk3:=qbf c 26 (by decide);obtain ⟨m,hm⟩:∃ m,m=pickF n 100:=⟨_,rfl⟩;obtain ⟨x0,hx0⟩:∃ x,x=pickF c 1073741824:=⟨_,rfl⟩;obtain ⟨p,hp⟩:∃ x,x=pickF c 26:=⟨_,rfl⟩;rw [←hm] at hP1 hk1;rw [←hx0] at hP2 hk2;rw [←hp] at hP3 hk3;clear hm hx0 hp;have HP1:=hidI hP1;have HP2:=hidI hP2;have HP3:=hidI hP3;clear hP1 hP2 hP3;obtain ⟨M,hmk,hM⟩:=madeN m (by omega);have h0:=hM w;have hb0:Below w.heap.size w (w.alloc (.cells M 5)):=(Below.refl _ _).alloc (Nat.le_refl _) _;clear hM;go_enter Tryz.func35,Tryz.ntmps35
 go_wp2_with fail;refine (HP1.out _).mono ?_;rintro e w' ⟨rfl,hw⟩;have hw':=hw.symm;subst hw';clear hw;go_wp2_with fail;refine (HP2.out _).mono ?_;rintro e w' ⟨rfl,hw⟩;have hw':=hw.symm;subst hw';clear hw hmk;go_wp2_with fail
 go_loopw [7,8] (fun x i wr=>∃ (k y:Nat) (l:Bs),k≤m∧y<2147483648∧l.length=m∧x=.int .i64 y∧i=.int .i64 k∧wr.rowIs w.heap.size 5 m (fun j=>.int .u8 ((l.getD j 0).toNat:Nat))∧Below w.heap.size w wr) (fun _ i _=>m - (intOf i).toNat)
 case atStart=>exact ⟨0,x0,List.replicate m 0,by omega,by omega,by simp,rfl,rfl,h0.congr fun j hj=>by simp [List.getD,hj],hb0⟩
 case round =>
  clear h0 hb0;obtain ⟨k,y,l,hk,hy,hl,rfl,rfl,hrow,hb⟩:=hrel;by_cases hlt:k<m
  ·have hc:=hrow.cell hlt;have hf:=hrow.frozen k;obtain ⟨y',hy'⟩:∃ y':Nat,y'=(y*1103515245+12345)%2147483648:=⟨_,rfl⟩;have hyl:y'<2147483648:=by omega
   have e1:((y:Int)*1103515245+12345).tmod 2147483648=(y':Nat):=by
    rw [Int.tmod_eq_emod_of_nonneg (by omega),hy'];omega
   obtain ⟨q,hq⟩:∃ q:Nat,q=y'/65536:=⟨_,rfl⟩;have e2:((y':Nat):Int).tdiv 65536=(q:Nat):=by
    rw [Int.tdiv_eq_ediv_of_nonneg (by omega),hq];omega
   obtain ⟨z,hz⟩:∃ z:Nat,z=q%(1+p):=⟨_,rfl⟩;have hzl:z<26:=by have:=Nat.mod_lt q (show 1+p > 0 by omega);omega
   have e3:((q:Nat):Int).tmod (1+(p:Int))=(z:Nat):=by
    rw [Int.tmod_eq_emod_of_nonneg (by omega),hz];push_cast;rfl
   have hq0:0≤(q:Int):=by omega
   have hq1:(q:Int)≤32768:=by omega
   have hrow':(wr.setCell ⟨w.heap.size,k,none⟩ (.int .u8 (97+(z:Nat)))).rowIs w.heap.size 5 m (fun j=>.int .u8 (((l.set k (UInt8.ofNat (97+z))).getD j 0).toNat:Nat)):=(hrow.set k _).congr fun j hj=>by
    by_cases e:j=k
    ·subst e;rw [if_pos rfl]
     have:j<l.length:=by omega
     simp only [List.getD,List.getElem?_set_self this,Option.getD_some,UInt8.toNat_ofNat']
     congr 1;omega
    rw [if_neg e];simp only [List.getD];rw [List.getElem?_set_ne (by omega)]
   have hb':=hb.setCell (p:=⟨w.heap.size,k,none⟩) (Nat.le_refl _) (.int .u8 (97+(z:Nat)));clear hrow hb hz hq hy';go_wp2_with fail;refine (HP3.out _).mono ?_;rintro e w' ⟨rfl,hw⟩;have hw':=hw.symm;subst hw';clear hw;go_wp2;go_roundw
   case rel=>exact ⟨k+1,y',l.set k (UInt8.ofNat (97+z)),by omega,hyl,by simpa using hl,rfl,by go_num,hrow',hb'⟩
   case measure=>simp [intOf];omega
  have hkm:k=m:=by omega
  subst hkm;have hcv:=S1.row_str (c:=k) hrow hl;clear hrow;go_wp2;go_ret
  exact ⟨l,rfl,by omega,hb⟩
structure KT (l:List It):Prop where
 item:∀ x∈l,x.path∈names∧x.dir=qbD x.path∧x.data.length≤99∧okItem x=true
 nodup:(l.map (·.path)).Nodup
 dirs:∀ p∈names,qbD p=true→∃ x∈l,x.path=p
theorem qiH:∀ p∈names,par p=[]∨(par p∈names∧qbD (par p)=true):=by decide
theorem qk2:∀ p∈names,okPath p=true:=by decide
theorem qfs:∀ {l m:List Bs},l.Nodup→(∀ x∈l,x∈m)→l.length≤m.length
 | [],m,_,_=>Nat.zero_le _
 | x :: l,m,hn,hs=>by
   have hx:=hs x (by simp);have hn':=List.nodup_cons.1 hn;have h1:=qfs (l:=l) (m:=m.erase x) hn'.2 fun y hy=>(List.mem_erase_of_ne (fun e:y=x=>hn'.1 (by rw [←e];exact hy))).2 (hs y (by simp [hy]))
   rw [List.length_erase_of_mem hx] at h1
   have:0<m.length:=List.length_pos_of_mem hx
   simp only [List.length_cons];omega
theorem KT.len {l:List It} (h:KT l):l.length≤12:=by
 have h1:(l.map (·.path)).length≤names.length:=qfs h.nodup fun p hp=>by
  obtain ⟨x,hx,rfl⟩:=List.mem_map.1 hp;exact (h.item x hx).1
 simpa [names] using h1
theorem KT.tree {l:List It} (h:KT l):TreeP l:=by
 refine ⟨by have:=h.len;omega,fun x hx=>(h.item x hx).2.2.2,h.nodup,fun x hx => ?_⟩;rcases qiH _ (h.item x hx).1 with h1 | ⟨h1,h2⟩
 ·exact .inl h1
 obtain ⟨y,hy,hp⟩:=h.dirs _ h1 h2;exact .inr (dirAt_iff.2 ⟨y,hy,hp,by rw [(h.item y hy).2.1,hp,h2]⟩)
theorem qhE {l:List It} {n:Nat} (h:∀ x∈l,16+x.path.length+x.data.length≤n):weigh l≤l.length*n:=by
 unfold weigh
 induction l with
 | nil=>simp
 | cons x t ih =>
   have h1:=h x (by simp);have h2:=ih fun y hy=>h y (by simp [hy])
   simp only [List.map_cons,List.sum_cons,List.length_cons,Nat.succ_mul];omega
theorem KT.weighs {l:List It} (h:KT l):weigh l≤1440:=by
 have h1:=qhE (l:=l) (n:=120) fun x hx=>by have:=qlR (h.item x hx).1;have:=(h.item x hx).2.2.1;omega
 have:=h.len
 omega
theorem KT.add {l:List It} {p d:Bs} {m t:Int} (h:KT l) (hp:p∈names) (hf:qbD p=false) (hn:∀ x∈l,x.path≠p) (hd:d.length≤99) (m0:0≤m) (m1:m≤4095) (t0:0≤t) (t1:t≤2147483647):KT (l++[⟨p,false,d,m,t⟩]):=by
 refine ⟨fun x hx => ?_,?_,fun q hq hqf => ?_⟩
 ·rcases List.mem_append.1 hx with hx | hx
  ·exact h.item x hx
  simp at hx;subst hx;refine ⟨hp,hf.symm,hd,?_⟩;unfold okItem;simp [qk2 p hp,m0,m1,t0,t1];omega
 ·rw [List.map_append,List.nodup_append];refine ⟨h.nodup,by simp,fun a ha b hb => ?_⟩;obtain ⟨y,hy,rfl⟩:=List.mem_map.1 ha;simp at hb;subst hb;exact hn y hy
 obtain ⟨x,hx,e⟩:=h.dirs q hq hqf;exact ⟨x,List.mem_append_left _ hx,e⟩
def kt0:List It:=[⟨[100],true,[],5,0⟩,⟨[100,47,101],true,[],0,0⟩,⟨[102],true,[],0,9⟩]
theorem qns:KT kt0:=⟨by decide,by decide,by decide⟩
theorem qmA (w:World):(w.alloc (.cells (its kt0).toArray 39)).ownsRow w.heap.size 39 5 (.slice (some ⟨w.heap.size,0,none⟩) 3 3) 3 (its kt0):=
 ⟨by decide,.inr ⟨w.heap.size,3,_,rfl,Nat.le_refl _,heap_alloc_new w _,by decide,by decide,by decide,by rfl⟩⟩
def TreeR (w:World) (e:Ending) (w':World):Prop:=∃ v l,e=.returned v∧KT l∧w'.ownsRow w.heap.size 39 5 v l.length (its l)∧Below w.heap.size w w'
theorem qlU (a:Option Addr) (n cap:Nat) (z:Nat→Int) (w:World) (hn:n≤9223372036854775807) (hin:S1.IntsIn w a n z) (hz:∀ k,k<n → -9223372036854775808≤z k∧z k≤9223372036854775807) :
 Calls Tryz.prog 9 #[.slice a n cap] w fun e w'=>TreeR w e w':=by
 obtain ⟨i0,hi,hz0,hz1,hz2⟩:=info_parts Tryz.info24;have Hin:=hidI hin;have Hz:=hidI hz;clear hin hz;have Hown0:=hidI (qmA w);have Hb0:Hid (Below w.heap.size w (w.alloc (.cells (its kt0).toArray 39))):=hidI ((Below.refl _ w).alloc (Nat.le_refl _) _);obtain ⟨W0,hW0⟩:∃ W0,W0=w.alloc (.cells (its kt0).toArray 39):=⟨_,rfl⟩;rw [←hW0] at Hown0 Hb0;have HW0:Hid (W0=w.alloc (.cells #[.string ⟨#[100]⟩,.bool true,.string ⟨#[]⟩,.int .i64 5,.int .i64 0,.string ⟨#[100,47,101]⟩,.bool true,.string ⟨#[]⟩,.int .i64 0,.int .i64 0,.string ⟨#[102]⟩,.bool true,.string ⟨#[]⟩,.int .i64 0,.int .i64 9] 39)):=hidI hW0;clear hW0;go_enter Tryz.func9,Tryz.ntmps9
 go_wp2_with (first | (rw [←HW0.out]) | fail)
 go_loopw [3,4] (fun v i wr=>∃ (k:Nat) (l:List It),k≤30∧i=.int .i64 k∧Hid (KT l)∧Hid (wr.ownsRow w.heap.size 39 5 v l.length (its l))∧Hid (Below w.heap.size w wr)) (fun _ i _=>40 - (intOf i).toNat)
 case atStart=>exact ⟨0,kt0,by omega,rfl,hidI qns,Hown0,Hb0⟩
 case round =>
  clear Hown0 Hb0 HW0 W0;obtain ⟨k,l,hk,rfl,HK,HO,HB⟩:=hrel;by_cases hlt:k+2<n∧k<27
  ·obtain ⟨h1,h2⟩:=hlt;have h1':(k:Int)+2<(n:Int):=by omega
   have h2':(k:Int)<27:=by omega
   obtain ⟨b,off,rfl,hc⟩:=(Hin.out.below HB.out) (by omega);have c0:=hc k (by omega);have c1:=hc (k+1) (by omega);have c2:=hc (k+2) (by omega);have hbw:b<w.heap.size:=by
    obtain ⟨b',off',e,hc'⟩:=Hin.out (by omega);cases e
    exact World.block_lt_of_cell? w _ (hc' 0 (by omega))
   obtain ⟨z00,z01⟩:=Hz.out k (by omega);obtain ⟨z10,z11⟩:=Hz.out (k+1) (by omega);obtain ⟨z20,z21⟩:=Hz.out (k+2) (by omega);obtain ⟨x0,hx0⟩:∃ x,x=z k:=⟨_,rfl⟩;obtain ⟨x1,hx1⟩:∃ x,x=z (k+1):=⟨_,rfl⟩;obtain ⟨x2,hx2⟩:∃ x,x=z (k+2):=⟨_,rfl⟩;rw [←hx0] at c0 z00 z01;rw [←hx1] at c1 z10 z11;rw [←hx2] at c2 z20 z21;clear hc hx0 hx1 hx2;have HN:=hidI (qkY x0 wr z00 z01);obtain ⟨aL,cL,rfl,hits⟩:=qbY HO.out;have hl12:=HK.out.len;obtain ⟨L,hL⟩:∃ L,L=l.length:=⟨_,rfl⟩;rw [←hL] at HO hl12 ⊢;have HL:=hidI hL;have Hits:=hidI hits;have hwsz:=HB.out.size;clear hL hits;go_wp2_with fail;refine HN.out.mono ?_;rintro e w1 ⟨p,rfl,hp,hb1⟩;have Hp:=hidI hp;have HF:=hidI (qhX p w1);obtain ⟨f,hf⟩:∃ f,f=qbD p:=⟨_,rfl⟩;rw [←hf] at HF;have Hf:=hidI hf;have HO1:Hid (w1.ownsRow w.heap.size 39 5 (.slice aL L cL) L (its l)):=hidI (own_below HO.out hb1 fun q hq=>(HO.out.lt q hq).2)
   have HB1:Hid (Below w.heap.size w w1):=hidI (HB.out.trans (hb1.mono hwsz));have Hits1:Hid (ItsIn w1 aL l):=hidI (Hits.out.below hb1);have d1:w1.cell? ⟨b,off+(k+1),none⟩=some (.int .i64 x1):=by rw [hb1.cell (p:=⟨b,off+(k+1),none⟩) (Nat.lt_of_lt_of_le hbw hwsz)];exact c1
   have d2:w1.cell? ⟨b,off+(k+2),none⟩=some (.int .i64 x2):=by rw [hb1.cell (p:=⟨b,off+(k+2),none⟩) (Nat.lt_of_lt_of_le hbw hwsz)];exact c2
   have hs1:=HB1.out.size;clear hp hf hb1 HN c0 c1 c2 HO HB Hits hwsz;go_wp2_with fail;refine HF.out.mono ?_;rintro e w' ⟨rfl,hw⟩;have hw':=hw.symm;subst hw';clear hw HF;obtain ⟨X,hX⟩:∃ X,X=txt p:=⟨_,rfl⟩;have HX:=hidI hX;rw [←hX];clear hX;go_wp2_with fail
   go_loopw [6,7] (fun t i wx=>wx=w1∧∃ (j:Nat) (y:Bool),j≤L∧i=.int .i64 j∧t=.bool y∧Hid (y=true↔f=true∨∃ q∈l.take j,q.path=p)) (fun _ i _=>L - (intOf i).toNat)
   case atStart=>exact ⟨rfl,0,f,by omega,rfl,rfl,hidI (by simp)⟩
   obtain ⟨rfl,j,y,hj,rfl,rfl,Hy⟩:=hrel;by_cases hjl:j<L
   ·obtain ⟨q,hq⟩:∃ q,l[j]? = some q:=⟨_,List.getElem?_eq_getElem (by have:=HL.out;omega)⟩;have Hq:=hidI hq;have htk:l.take (j+1)=l.take j++[q]:=by rw [List.take_add_one,hq];rfl
    cases y with
    | true =>
      have Hy2:Hid (true=true↔f=true∨∃ q∈l.take (j+1),q.path=p):=hidI ⟨fun _=>(Hy.out.1 rfl).imp id (fun ⟨q',h,e⟩=>⟨q',by rw [htk];exact List.mem_append_left _ h,e⟩),fun _=>rfl⟩;clear hq htk;go_wp2;go_roundw
      case rel=>exact ⟨trivial,j+1,true,by omega,by go_num,rfl,Hy2⟩
      case measure=>simp [intOf];omega
    | false =>
      obtain ⟨g,o,rfl,hc⟩:=Hits1.out (fun h=>by rw [h] at hq;simp at hq);obtain ⟨q0,_,_,_,_⟩:=hc j q hq;obtain ⟨Y,hY⟩:∃ Y,Y=txt q.path:=⟨_,rfl⟩;have hcmp:(Y.toList==X.toList)=decide (q.path=p):=by rw [hY,HX.out,qar,qar];exact (by rw [Bool.eq_iff_iff];simp)
      rw [←hY] at q0;obtain ⟨t,ht⟩:∃ t,t=decide (q.path=p):=⟨_,rfl⟩;rw [←ht] at hcmp;have Hy2:Hid (t=true↔f=true∨∃ q∈l.take (j+1),q.path=p):=hidI (by
       have h:=Hy.out;rw [htk,ht]
       constructor
       ·intro e;exact .inr ⟨q,by simp,by simpa using e⟩
       rintro (e | ⟨q',h1,e⟩)
       ·exact absurd (h.2 (.inl e)) (by simp)
       rcases List.mem_append.1 h1 with h1 | h1
       ·exact absurd (h.2 (.inr ⟨q',h1,e⟩)) (by simp)
       simp at h1;subst h1;simpa using e)
      clear hq htk hc hY ht Hy;go_wp2;go_roundw
      case rel=>exact ⟨trivial,j+1,t,by omega,by go_num,rfl,Hy2⟩
      case measure=>simp [intOf];omega
   have hjL:j=L:=by omega
   subst hjL;have Hy2:Hid (y=true↔f=true∨∃ q∈l,q.path=p):=hidI (by have h:=Hy.out;rwa [HL.out,List.take_length] at h);clear Hy;cases y with
   | true =>
     go_wp2;go_roundw
     case rel=>exact ⟨k+3,l,by omega,by go_num,HK,by rw [←HL.out];exact HO1,HB1⟩
     case measure=>simp [intOf];omega
   | false =>
     have HBt:=hidI (fun V:World=>qjo x1 x2 V z10 z11 z20 z21);have HPa:=hidI (fun V:World=>qa1 x1 4096 V z10 z11 (by decide) (by decide));have HPb:=hidI (fun V:World=>qa1 x2 2147483647 V z20 z21 (by decide) (by decide));have ha1:=qbf x1 4096 (by decide);have hb1:=qbf x2 2147483647 (by decide);obtain ⟨m,hm⟩:∃ m,m=pickF x1 4096:=⟨_,rfl⟩;obtain ⟨t,ht⟩:∃ t,t=pickF x2 2147483647:=⟨_,rfl⟩;rw [←hm] at HPa ha1;rw [←ht] at HPb hb1;have hbr:b<wr.heap.size:=by omega
     have e1:(k:Int)+1<(n:Int):=by omega
     have g1:IntKind.i64.wrap ((k:Int)+1)=(k:Int)+1:=by rw [IntKind.wrap_i64];omega
     have g2:IntKind.i64.wrap ((k:Int)+2)=(k:Int)+2:=by rw [IntKind.wrap_i64];omega
     have g3:(0:Int)≤(k:Int)+1:=by omega
     have g4:(0:Int)≤(k:Int)+2:=by omega
     have g5:((k:Int)+1).toNat=k+1:=by omega
     have g6:((k:Int)+2).toNat=k+2:=by omega
     have HBd:Hid (Below w.heap.size w wr.drew):=hidI HB1.out.drew;clear hm ht;go_wp2_with fail;go_region_held3 (fun V=>Hid (Below w.heap.size w V)∧V.cell? ⟨b,off+(k+1),none⟩=some (.int .i64 x1)∧V.cell? ⟨b,off+(k+2),none⟩=some (.int .i64 x2)) (first | go_keep | fail) (first
      | (go_at_call 35;refine (HBt.out _).mono ?_;rintro e V ⟨d,rfl,hd,hbV⟩;have HBV:Hid (Below w.heap.size w V):=hidI (HBd.out.trans (hbV.mono hs1));have f1:V.cell? ⟨b,off+(k+1),none⟩=some (.int .i64 x1):=(by rw [hbV.cell (p:=⟨b,off+(k+1),none⟩) hbr];exact d1);have f2:V.cell? ⟨b,off+(k+2),none⟩=some (.int .i64 x2):=(by rw [hbV.cell (p:=⟨b,off+(k+2),none⟩) hbr];exact d2);have HOV:Hid (V.ownsRow w.heap.size 39 5 (.slice aL j cL) j (its l)):=hidI (own_below HO1.out.drew hbV fun q hq=>(HO1.out.lt q hq).2);have hsV:wr.heap.size≤V.heap.size:=hbV.size;have HBVa:∀ o,Hid (Below w.heap.size w (V.alloc o)):=(fun o=>hidI (HBV.out.alloc (by omega) o));have f1a:∀ o,(V.alloc o).cell? ⟨b,off+(k+1),none⟩=some (.int .i64 x1):=(fun o=>(World.cell?_of_block (w:=V) (a:=⟨b,off+(k+1),none⟩) (Below.heap_alloc V o b (by omega))).trans f1);have f2a:∀ o,(V.alloc o).cell? ⟨b,off+(k+2),none⟩=some (.int .i64 x2):=(fun o=>(World.cell?_of_block (w:=V) (a:=⟨b,off+(k+2),none⟩) (Below.heap_alloc V o b (by omega))).trans f2);have Hd:=hidI hd;clear hd hbV)
      | (go_at_call_of 18 (Value.int .i64 x1);refine (HPa.out _).mono ?_;rintro e w' ⟨rfl,hw⟩;have hw':=hw.symm;subst hw';clear hw)
      | (go_at_call_of 18 (Value.int .i64 x2);refine (HPb.out _).mono ?_;rintro e w' ⟨rfl,hw⟩;have hw':=hw.symm;subst hw';clear hw)
      | (refine step_append_lies _ (by rfl) _ _ _ (by rfl) w.heap.size 39 i0 _ 5 56 Tryz.underlying26 hi hz0 hz1 hz2 rfl (by omega) (.slice aL j cL) j _ (by rfl) (HOV.out.alloc _) ⟨V.heap.size,0,none⟩ 1 1 [.string X,.bool false,.string (txt d),.int .i64 (m:Nat),.int .i64 (t:Nat)] (by rfl) rfl (World.news_of_block (heap_alloc_new V _)) (by intro u hu;simp at hu;rcases hu with rfl | rfl | rfl | rfl | rfl<;>rfl) (by omega) (by unfold maxLen;omega) (by omega) (by simp;omega) (V.heap.size+1) (by simp) ?_;intro g2 cap2 w2 hown2 hgrow2 hat2 hlt2;have HB2:Hid (Below w.heap.size w w2):=hidI ((HBVa _).out.grown hgrow2 (by simp;omega) (fun q hq=>(HOV.out.lt q hq).1));have k1:w2.cell? ⟨b,off+(k+1),none⟩=some (.int .i64 x1):=(by rw [hgrow2.cell_far ⟨b,off+(k+1),none⟩ (by simp;omega) (by intro h;have:=(HOV.out.lt b h.symm).1;omega)];exact f1a _);have k2:w2.cell? ⟨b,off+(k+2),none⟩=some (.int .i64 x2):=(by rw [hgrow2.cell_far ⟨b,off+(k+2),none⟩ (by simp;omega) (by intro h;have:=(HOV.out.lt b h.symm).1;omega)];exact f2a _);have HO2:=hidI hown2;clear hown2 hgrow2 hat2 hlt2))
     rename_i hHeld;clear hHeld f1 f2 f1a f2a k1 k2 d1 d2;have HK2:Hid (KT (l++[⟨p,false,d,(m:Nat),(t:Nat)⟩])):=hidI (HK.out.add Hp.out (by rw [←Hf.out];cases f with | false=>rfl | true=>exact absurd (Hy2.out.2 (.inl rfl)) (by simp)) (fun x hx e=>absurd (Hy2.out.2 (.inr ⟨x,hx,e⟩)) (by simp)) Hd.out (by omega) (by omega) (by omega) (by omega));have HO3:Hid (w2.ownsRow w.heap.size 39 5 (.slice (some ⟨g2,0,none⟩) (j+1) cap2) (l++[(⟨p,false,d,(m:Nat),(t:Nat)⟩:It)]).length (its (l++[⟨p,false,d,(m:Nat),(t:Nat)⟩]))):=hidI (by
      have h:=HO2.out;rw [HX.out] at h;rw [qb6,qcX,List.length_append,←HL.out];exact h)
     clear HO2;go_wp2;go_roundw
     case rel=>exact ⟨k+3,_,by omega,by go_num,HK2,HO3,HB2⟩
     case measure=>simp [intOf];omega
  obtain ⟨aL,cL,rfl,hits⟩:=qbY HO.out;clear hits;by_cases hq:k+2<n
  ·have h2':¬(k:Int)<27:=by omega
   have h1':(k:Int)+2<(n:Int):=by omega
   go_wp2;go_ret
   exact ⟨_,l,rfl,HK.out,HO.out,HB.out⟩
  have h1':¬(k:Int)+2<(n:Int):=by omega
  go_wp2;go_ret
  exact ⟨_,l,rfl,HK.out,HO.out,HB.out⟩
theorem qno (x y:It) (w:World):(binOp .eql 39 (itv x) (itv y)).run Tryz.prog w=.ok (.bool (decide (x=y))) w:=by
 have h:=qnw x y w;unfold itv at *;rw [run_eql_struct,h];rfl
theorem qbh {B:Nat} {w W:World} (h:Below B w W) (q:Nat):Below B w (W.drewN q):=below_drewN h q
theorem qkG (a:Option Addr) (c:Nat) (l:List It) (x:It) (w:World) (ha:ItsIn w a l) (hn:l.length≤1048576) :
 Calls Tryz.prog 38 #[.slice a l.length c,itv x] w fun e w'=>e=.returned (.bool (decide (x∈l)))∧Below w.heap.size w w':=by
 obtain ⟨W,hW⟩:∃ W,W=boxed w x:=⟨_,rfl⟩;have hbW:Below w.heap.size w W:=by rw [hW];exact (Below.refl _ w).alloc (Nat.le_refl _) _
 have hat:ItAt W w.heap.size 0 x:=by rw [hW];exact qcz w x
 have Ha:Hid (ItsIn W a l):=hidI (ha.below hbW);have HW:Hid (W=w.alloc (.cells #[.string (txt x.path),.bool x.dir,.string (txt x.data),.int .i64 x.mode,.int .i64 x.time] 39)):=hidI hW;have HB:=hidI hbW;obtain ⟨N,hN⟩:∃ N,N=l.length:=⟨_,rfl⟩;rw [←hN] at hn ⊢;have HN:=hidI hN;obtain ⟨g,hg⟩:∃ g,g=w.heap.size:=⟨_,rfl⟩;obtain ⟨y0,y1,y2,y3,y4⟩:=hat;rw [←hg] at y0 y1 y2 y3 y4;have Hg:=hidI hg;rw [Nat.zero_add] at y1 y2 y3 y4;clear hN hW ha hbW;unfold itv;go_enter Tryz.func38,Tryz.ntmps38
 go_wp2_with (first | (rw [←HW.out,←hg]) | fail);clear hg
 go_loopw [5] (fun i wr=>∃ k:Nat,k≤N∧i=.int .i64 k∧(∃ q,wr=W.drewN q)∧Hid (x∉l.take k)) (fun i _=>N - (intOf i).toNat)
 case atStart=>exact ⟨0,Nat.zero_le _,rfl,⟨0,rfl⟩,hidI (by simp)⟩
 case round =>
  obtain ⟨k,hk,rfl,⟨q,rfl⟩,Hn⟩:=hrel;by_cases hlt:k<N
  ·have hkl:k<l.length:=by have:=HN.out;omega
   obtain ⟨b1,o1,rfl,h1⟩:=Ha.out (fun h=>by rw [h] at hkl;simp at hkl);obtain ⟨y,hy⟩:∃ y,l[k]? = some y:=⟨_,List.getElem?_eq_getElem hkl⟩;obtain ⟨x0,x1,x2,x3,x4⟩:=h1 k y hy;have Hy:=hidI hy;have htk:l.take (k+1)=l.take k++[y]:=by rw [List.take_add_one,hy];rfl
   have heql:=fun w=>qno y x w
   unfold itv at heql;have hge:=eqg;by_cases e:y=x
   ·have ed:decide (y=x)=true:=by simp [e]
    rw [ed] at heql;have Hr:Hid (decide (x∈l)=true):=hidI (decide_eq_true (by rw [←e];exact List.mem_of_getElem? hy));clear e ed h1 hy hkl htk;go_wp2
    go_quiet (fail)
    go_wp2;go_ret
    exact ⟨qah Hr.out.symm,qbh (qbh HB.out _) _⟩
   have ed:decide (y=x)=false:=by simp [e]
   rw [ed] at heql;have Hn2:Hid (x∉l.take (k+1)):=hidI (by
    rw [htk,List.mem_append];rintro (h | h)
    ·exact Hn.out h
    simp at h;exact e h.symm)
   clear e ed h1 hy hkl htk;go_wp2
   go_quiet (fail)
   go_wp2;go_roundw
   case rel=>exact ⟨k+1,by omega,by go_num,⟨_,rfl⟩,Hn2⟩
   case measure=>simp [intOf];omega
  have Hr:Hid (decide (x∈l)=false):=hidI (decide_eq_false fun h=>Hn.out (by rw [List.take_of_length_le (by have:=HN.out;omega)];exact h));go_wp2;go_ret
  exact ⟨qah Hr.out.symm,qbh HB.out _⟩
def sameB (l m:List It):Bool:=decide (l.length=m.length)&&l.all fun x=>decide (x∈m)
theorem qj9 (a b:Option Addr) (c d:Nat) (l m:List It) (w:World) (ha:ItsIn w a l) (hb:ItsIn w b m) (hn:l.length≤1048576) (hm:m.length≤1048576) :
 Calls Tryz.prog 13 #[.slice a l.length c,.slice b m.length d] w fun e w'=>e=.returned (.bool (sameB l m))∧Below w.heap.size w w':=by
 by_cases hlen:l.length=m.length
 ·obtain ⟨N,hN⟩:∃ N,N=m.length:=⟨_,rfl⟩;rw [hlen,←hN];have Hl:=hidI (hlen.trans hN.symm);have Hm:=hidI hN.symm;have hN9:N≤1048576:=by omega
  have Ha:=hidI ha;have Hb:=hidI hb;have HH:=hidI (fun (V:World) (x:It) (h:Below w.heap.size w V)=>qkG b d m x V (hb.below h) hm);rw [←hN] at HH;clear hlen hN hn hm ha hb;go_enter Tryz.func13,Tryz.ntmps13
  go_wp2
  go_loopw [5] (fun i wr=>∃ k:Nat,k≤N∧i=.int .i64 k∧Hid (Below w.heap.size w wr)∧Hid (∀ x∈l.take k,x∈m)) (fun i _=>N - (intOf i).toNat)
  case atStart=>exact ⟨0,Nat.zero_le _,rfl,hidI (Below.refl _ _),hidI (by simp)⟩
  obtain ⟨k,hk,rfl,HB,Hn⟩:=hrel;by_cases hlt:k<N
  ·have hkl:k<l.length:=by have:=Hl.out;omega
   obtain ⟨b1,o1,rfl,h1⟩:=(Ha.out.below HB.out) (fun h=>by rw [h] at hkl;simp at hkl);obtain ⟨x,hx⟩:∃ x,l[k]? = some x:=⟨_,List.getElem?_eq_getElem hkl⟩;obtain ⟨x0,x1,x2,x3,x4⟩:=h1 k x hx;have Hx:=hidI hx;have htk:l.take (k+1)=l.take k++[x]:=by rw [List.take_add_one,hx];rfl
   have Htk:=hidI htk;have A:=hidI (HH.out wr x HB.out);unfold itv at A;obtain ⟨r,hr⟩:∃ r,r=decide (x∈m):=⟨_,rfl⟩;rw [←hr] at A;have Hr:=hidI hr;have hsz:=HB.out.size;clear h1 hx hkl htk hr;go_wp2_with fail;refine A.out.mono ?_;rintro e w1 ⟨rfl,hb1⟩;have HB1:=hidI (HB.out.trans (hb1.mono hsz));clear hb1 A x0 x1 x2 x3 x4 HB;cases r with
   | true =>
     go_wp2;go_roundw
     case rel=>exact ⟨k+1,by omega,by go_num,HB1,hidI (by
      rw [Htk.out];intro y hy;rcases List.mem_append.1 hy with hy | hy
      ·exact Hn.out y hy
      simp at hy;subst hy;exact of_decide_eq_true Hr.out.symm)⟩
     case measure=>simp [intOf];omega
   | false =>
     have HS:Hid (sameB l m=false):=hidI (by
      unfold sameB
      have:l.all (fun x=>decide (x∈m))=false:=List.all_eq_false.2 ⟨x,List.mem_of_getElem? Hx.out,by rw [←Hr.out];simp⟩
      rw [this,Bool.and_false])
     go_wp2;go_ret
     exact ⟨qah HS.out.symm,HB1.out⟩
  have HS:Hid (sameB l m=true):=hidI (by
   unfold sameB;have h2:=Hl.out;have h3:=Hm.out;rw [decide_eq_true (by omega),Bool.true_and,List.all_eq_true];intro x hx
   have:=Hn.out
   rw [List.take_of_length_le (by omega)] at this;exact decide_eq_true (this x hx))
  go_wp2;go_ret
  exact ⟨qah HS.out.symm,HB.out⟩
 have HS:Hid (sameB l m=false):=hidI (by unfold sameB;rw [decide_eq_false hlen,Bool.false_and]);have hlen':((l.length:Int) != (m.length:Int))=true:=bne_iff_ne.2 (by omega);go_enter Tryz.func13,Tryz.ntmps13
 go_wp2;go_ret
 exact ⟨qah HS.out.symm,Below.refl _ _⟩
theorem qf2 {l:List It} {k:Nat} {x:It} (h:l[k]? = some x):weigh (l.take (k+1))=weigh (l.take k)+(16+x.path.length+x.data.length):=by
 rw [List.take_add_one,h];unfold weigh;simp [List.map_append,List.sum_append]
theorem qiv (a:Option Addr) (c:Nat) (l:List It) (w:World) (ha:ItsIn w a l) (hn:l.length≤1000) (hp:∀ x∈l,x.path.length≤1048576) (hd:∀ x∈l,x.data.length≤1048576) :
 Calls Tryz.prog 23 #[.slice a l.length c] w fun e w'=>e=.returned (.int .i64 (weigh l:Nat))∧∃ q,w'=w.drewN q:=by
 obtain ⟨N,hN⟩:∃ N,N=l.length:=⟨_,rfl⟩;rw [←hN] at hn ⊢;have HN:=hidI hN;have Ha:=hidI ha;have Hp:=hidI hp;have Hd:=hidI hd;clear hN ha hp hd;go_enter Tryz.func23,Tryz.ntmps23
 go_wp2
 go_loopw [3,4] (fun s i wr=>∃ k m:Nat,k≤N∧i=.int .i64 k∧s=.int .i64 m∧m≤k*4000000∧(∃ q,wr=w.drewN q)∧Hid (m=weigh (l.take k))) (fun _ i _=>N - (intOf i).toNat)
 case atStart=>exact ⟨0,0,Nat.zero_le _,rfl,rfl,by omega,⟨0,rfl⟩,hidI (by simp [weigh])⟩
 case round =>
  obtain ⟨k,m,hk,rfl,rfl,hm,⟨q,rfl⟩,Hm⟩:=hrel;by_cases hlt:k<N
  ·have hkl:k<l.length:=by have:=HN.out;omega
   obtain ⟨b1,o1,rfl,h1⟩:=Ha.out (fun h=>by rw [h] at hkl;simp at hkl);obtain ⟨x,hx⟩:∃ x,l[k]? = some x:=⟨_,List.getElem?_eq_getElem hkl⟩;obtain ⟨x0,x1,x2,x3,x4⟩:=h1 k x hx;have hxp:=Hp.out x (List.mem_of_getElem? hx);have hxd:=Hd.out x (List.mem_of_getElem? hx);have Hw:=hidI (qf2 hx);obtain ⟨X,hX⟩:∃ X,X=txt x.path:=⟨_,rfl⟩;obtain ⟨D,hD⟩:∃ D,D=txt x.data:=⟨_,rfl⟩;have hXs:X.size=x.path.length:=by rw [hX,qaa]
   have hDs:D.size=x.data.length:=by rw [hD,qaa]
   rw [←hX] at x0;rw [←hD] at x2;have hX9:X.size≤1048576:=by omega
   have hD9:D.size≤1048576:=by omega
   have HXs:=hidI hXs;have HDs:=hidI hDs;clear h1 hx hkl x1 x3 x4 hX hD hXs hDs hxp hxd;go_wp2
   go_quiet (fail)
   go_wp2;go_roundw
   case rel=>exact ⟨k+1,m+16+X.size+D.size,by omega,by go_num,by go_num,by omega,⟨_,rfl⟩,hidI (by rw [Hw.out,←Hm.out,HXs.out,HDs.out];omega)⟩
   case measure=>simp [intOf];omega
  have hkN:k=N:=by omega
  subst hkN;have Hr:Hid (weigh l=m):=hidI (by rw [Hm.out,HN.out,List.take_length]);go_wp2;go_ret
  exact ⟨by rw [Hr.out];rfl,q,rfl⟩
end Go.Proofs.YtodmdkhdbfbfgaaGreatDoor
namespace Go.Proofs.YtodmdkhdbfbfgaaGreatDoor.S1
open Go.RowKit Pk
def badL (z:Nat→Int) (n:Nat) (i:Nat):Bool:=(List.range n).any fun j=>z j==(i:Int)
def mkM (blocks pages:Int) (n:Nat) (z:Nat→Int):M:=⟨(bnd blocks 4 32).toNat,(bnd pages 4 16).toNat,fun _ _=>[],fun _=>0,badL z n,-1,0,-1,0⟩
theorem mkM_wf (blocks pages:Int) (n:Nat) (z:Nat→Int):WF (mkM blocks pages n z):=by
 have h1:=qgL blocks 4 32 (by omega);have h2:=qgL pages 4 16 (by omega);refine ⟨?_,?_,?_,?_,fun i _=>Nat.zero_le _,fun i p _ _=>Nat.zero_le _,?_,?_,?_,?_,?_,?_,?_,?_⟩<;>(simp only [mkM];omega)
theorem qdd (z:Nat→Int) (k:Nat):badL z (k+1)=fun i=>badL z k i||(z k==(i:Int)):=by
 funext i
 unfold badL;rw [List.range_succ,List.any_append];simp
theorem qfo {α:Type} (n:Nat) (x:α):(List.range n).map (fun _=>x)++[x]=(List.range (n+1)).map fun _=>x:=by
 rw [List.range_succ,List.map_append];rfl
theorem madeNp (np:Nat) (h:np≤16):∃ M:Array Value,(∀ W:World,(Instr.makeSlice 40 (.int .i64 (np:Nat)) (.int .i64 (np:Nat))).run Tryz.prog W=.ok (.slice (some ⟨W.heap.size,0,none⟩) np np) (W.alloc (.cells M 9)))∧∀ W:World,(W.alloc (.cells M 9)).rowIs W.heap.size 9 np (fun _=>.string ⟨#[]⟩):=
 ⟨madeCells #[Value.string ⟨#[]⟩] np,fun W=>run_make_row' (P:=Tryz.prog) 40 9 (.string ⟨#[]⟩) 16 Tryz.underlying40 Tryz.info9 rfl .i64 .i64 np (by omega) (by omega) W,fun W=>World.rowIs_made W (.string ⟨#[]⟩) np 9⟩
theorem qdp {B:Nat} {a w:World} (h:Below B a w) (q:Nat):Below B a (w.drewN q):=⟨h.os,h.tape,h.output,h.size,h.block⟩
theorem MemX.bdc {w:World} {lo hi cb:Nat} {T:TypeId} {L:Loc} {m:M} {enc:List UInt8→List UInt8} {g4 g5 g6 g7:Int} (h:MemX w lo hi cb T L m enc g4 g5 g6 g7) (bd:Nat→Bool) (e:∀ i,i<m.nb→m.bd i=bd i):MemX w lo hi cb T L { m with bd:=bd } enc g4 g5 g6 g7:=
 ⟨h.hcb,h.hdb,h.hnk,h.hbk,h.hrw,h.inj,h.hT,h.st,h.data,h.next,h.bad.congr (fun i hi=>by rw [e i hi]),h.page⟩
theorem qfD (w:World) (p:Addr) (x v:Value) (t:TypeId):∀ j u,[v][j]? = some u→((w.setCell p x).alloc (.cells #[v] t)).cell? ((⟨w.heap.size,0,none⟩:Addr).add j)=some u:=by
 have:=cell_one_new (w.setCell p x) v t
 simpa using this
theorem cell_two_new (w:World) (o:Obj) (v:Value) (t:TypeId):∀ j u,[v][j]? = some u→((w.alloc o).alloc (.cells #[v] t)).cell? ((⟨w.heap.size+1,0,none⟩:Addr).add j)=some u:=by
 have:=cell_one_new (w.alloc o) v t
 simpa using this
theorem new_any (w:World) (blocks pages:Int) (a:Option Addr) (n cap:Nat) (z:Nat→Int) (hn:n≤17592186043904) (hin:IntsIn w a n z) :
 Calls Tryz.prog 10 #[.int .i64 blocks,.int .i64 pages,.slice a n cap] w fun e w'=>∃ L hi,e=.returned (.pointer (some ⟨w.heap.size,0,none⟩))∧hi≤w'.heap.size∧CP w' w.heap.size hi w.heap.size L (mkM blocks pages n z)∧Below w.heap.size w w':=by
 have Hbl:=hidI (fun w=>qeW blocks 4 32 (by omega) w);have Hpg:=hidI (fun w=>qeW pages 4 16 (by omega) w);have hb1:=qgL blocks 4 32 (by omega);have hb2:=qgL pages 4 16 (by omega);obtain ⟨nb,hnb⟩:∃ nb:Nat,bnd blocks 4 32=(nb:Int):=Int.eq_ofNat_of_zero_le (by omega);obtain ⟨np,hnp⟩:∃ np:Nat,bnd pages 4 16=(np:Int):=Int.eq_ofNat_of_zero_le (by omega);have HM:Hid (mkM blocks pages n z=⟨nb,np,fun _ _=>[],fun _=>0,badL z n,-1,0,-1,0⟩):=by
  show mkM blocks pages n z=_;unfold mkM;rw [hnb,hnp];rfl
 rw [hnb] at Hbl hb1;rw [hnp] at Hpg hb2;have hnb1:4≤nb:=by omega
 have hnb2:nb≤32:=by omega
 have hnp1:4≤np:=by omega
 have hnp2:np≤16:=by omega
 clear hnb hnp hb1 hb2;obtain ⟨MC,hmk,hMC⟩:=madeNp np hnp2;have HMC:=hidI hMC;clear hMC;have Hin:=hidI hin;clear hin;go_enter Tryz.func10,Tryz.ntmps10
 go_wp2_with (first | (go_at_call 36;refine (Hpg.out _).mono ?_;rintro e w1 ⟨rfl,h1⟩;subst h1));have Hst0:=hidI (heap_alloc_new w1 (Obj.cells #[.int .i64 (np:Nat),.slice none 0 0,.slice none 0 0,.slice none 0 0,.int .i64 (-1),.int .i64 0,.int .i64 (-1),.int .i64 0] 74));have Hb0:=hidI ((Below.refl w1.heap.size w1).alloc (Nat.le_refl _) (Obj.cells #[.int .i64 (np:Nat),.slice none 0 0,.slice none 0 0,.slice none 0 0,.int .i64 (-1),.int .i64 0,.int .i64 (-1),.int .i64 0] 74));obtain ⟨i0,hi0,hz0,hz1,hz2⟩:=info_parts Tryz.info23;obtain ⟨k0,ki,kz0,kz1,kz2⟩:=info_parts Tryz.info3;obtain ⟨l0,li,lz0,lz1,lz2⟩:=info_parts Tryz.info4;obtain ⟨G,hGe⟩:∃ G,G=w1.heap.size:=⟨_,rfl⟩;have Hin:Hid (∀ W,Below G w1 W→IntsIn W a n z):=fun W hb=>Hin.out.below (hGe ▸ hb)
 rw [←hGe] at Hst0 Hb0 ⊢;have HGe:=hidI hGe;clear hGe
 go_loopw [8] (fun x wr=>∃ k:Nat,k≤nb∧x=.int .i64 k∧∃ da dc na nc ba bc rw cr,wr.heap[G]? = some (.cells #[.int .i64 (np:Nat),.slice da k dc,.slice na k nc,.slice ba k bc,.int .i64 (-1),.int .i64 0,.int .i64 (-1),.int .i64 0] 74 (0,0))∧Data wr G (.slice da k dc) k np rw cr (fun _ _=>[])∧wr.ownsRow G 3 1 (.slice na k nc) k ((List.range k).map fun _=>.int .i64 0)∧wr.ownsRow G 4 1 (.slice ba k bc) k ((List.range k).map fun _=>.bool false)∧Below G w1 wr) (fun x _=>nb - (intOf x).toNat)
 case atStart=>exact ⟨0,by omega,rfl,none,0,none,0,none,0,fun _=>0,fun _=>0,Hst0.out,Data.nil _ _ _ _ _ _,World.ownsRow_nil _ _ _ _,World.ownsRow_nil _ _ _ _,Hb0.out⟩
 case round =>
  clear Hst0 Hb0;obtain ⟨k,hk,rfl,da,dc,na,nc,ba,bc,rw,cr,hst,hdat,hnx,hbd,hbel⟩:=hrel;have hGr:G<wr.heap.size:=lt_of_heap hst;by_cases hlt:k<nb
  ·have x0:wr.cell? ⟨G,0,none⟩=some (.int .i64 (np:Nat)):=by rw [cell_of_row wr G 0 _ 74 (0,0) hst];rfl
   have x1:wr.cell? ⟨G,1,none⟩=some (.slice da k dc):=by rw [cell_of_row wr G 1 _ 74 (0,0) hst];rfl
   have x1a:∀ o,(wr.drew.alloc o).cell? ⟨G,1,none⟩=some (.slice da k dc):=fun o=>(World.cell?_of_block (w:=wr) (Below.heap_alloc wr.drew o G hGr)).trans x1
   have x1b:∀ o o',((wr.drew.alloc o).alloc o').cell? ⟨G,1,none⟩=some (.slice da k dc):=fun o o'=>(World.cell?_of_block (w:=wr.drew.alloc o) (Below.heap_alloc (wr.drew.alloc o) o' G (by simp;omega))).trans (x1a o)
   have Hst:=hidI hst;have Hdat:=hidI hdat;have Hnx:=hidI hnx;have Hbd:=hidI hbd;have Hbel:=hidI hbel;clear hst hdat hnx hbd hbel;go_wp2_with (first | (go_at_call 36;refine (Hbl.out _).mono ?_;rintro e w2 ⟨rfl,h2⟩;subst h2));go_region_law (first
    | (refine step_append_lies _ (by rfl) _ _ _ (by rfl) G 40 i0 _ 1 24 Tryz.underlying71 hi0 hz0 hz1 hz2 rfl (by omega) (.slice da k dc) k _ (by rfl) ((Hdat.out.own.drew.alloc _).alloc _) ⟨w2.heap.size+1,0,none⟩ 1 1 [.slice (some ⟨w2.heap.size,0,none⟩) np np] (by rfl) rfl (cell_two_new w2.drew (.cells MC 9) (.slice (some ⟨w2.heap.size,0,none⟩) np np) 40) (by intro u hu;simp at hu;subst hu;rfl) (by omega) (by unfold maxLen;omega) (by omega) (by simp;omega) (w2.heap.size+2) (by simp) ?_;intro g2 cap2 w3 hown2 hgrow2 hat2 hlt2;have K2:∀ t,t≠40→Keeps t (w2.drew.alloc (.cells MC 9)) w3:=(fun t ht=>((Keeps.refl t _).alloc _).grown ((Hdat.out.own.drew.alloc _).alloc _) (fun e=>ht e.symm) hgrow2);have hst2:=(((Keeps.refl 74 w2).drew.alloc (.cells MC 9)).trans (K2 74 (by decide))).block Hst.out;have y1:w3.cell? ⟨G,1,none⟩=some (.slice da k dc):=(by rw [cell_of_row w3 G 1 _ 74 (0,0) hst2];rfl);have yf:=frozen_of_row w3 G 1 _ 74 hst2;have Hbel3:Hid (Below G w1 w3):=((Hbel.out.drew.alloc (Nat.le_of_lt hGr) _).alloc (by simp;omega) _).grown hgrow2 (by simp;omega) (fun q hq=>(Hdat.out.own.lt q hq).1);have HK2:=hidI K2;have Hst2:=hidI hst2;have Hown2:=hidI hown2;clear hown2 hgrow2 hat2 K2 hst2))
   all_goals have hKa:∀ t,t≠40→Keeps t w2 w3:=(fun t ht=>((Keeps.refl t w2).drew.alloc (.cells MC 9)).trans (HK2.out t ht))
   all_goals have hst3:=heap_setCell_same w3 G 1 _ 74 (.slice (some ⟨g2,0,none⟩) (k+1) cap2) Hst2.out
   all_goals have hrow3:Rw (w3.setCell ⟨G,1,none⟩ (.slice (some ⟨g2,0,none⟩) (k+1) cap2)) w2.heap.size 9 np (fun p=>.string (txt ((fun _=>[]:Nat→List UInt8) p))):=((HK2.out 9 (by decide)).set (o:=1) (v:=.slice (some ⟨g2,0,none⟩) (k+1) cap2) Hst2.out (by decide)).rw (rowIs_rw (HMC.out w2.drew))
   all_goals have hdat3:=Hdat.out.push ((hKa 9 (by decide)).set (o:=1) (v:=.slice (some ⟨g2,0,none⟩) (k+1) cap2) Hst2.out (by decide)) (r:=w2.heap.size) (c:=np) (f:=fun _=>[]) (Nat.le_of_lt hGr) (Nat.le_refl _) hrow3 (((Keeps.refl 40 w3).set (o:=1) (v:=.slice (some ⟨g2,0,none⟩) (k+1) cap2) Hst2.out (by decide)).own Hown2.out)
   all_goals have hpe:put (fun (_:Nat) (_:Nat)=>([]:List UInt8)) k (fun _=>[])=fun _ _=>[]:=(by
    funext x y
    unfold put
    split<;>rfl)
   all_goals rw [hpe] at hdat3
   all_goals have hnx3:=((hKa 3 (by decide)).set (o:=1) (v:=.slice (some ⟨g2,0,none⟩) (k+1) cap2) Hst2.out (by decide)).own Hnx.out
   all_goals have hbd3:=((hKa 4 (by decide)).set (o:=1) (v:=.slice (some ⟨g2,0,none⟩) (k+1) cap2) Hst2.out (by decide)).own Hbd.out
   all_goals have hbel3:=Hbel3.out.setCell (p:=⟨G,1,none⟩) (Nat.le_refl _) (.slice (some ⟨g2,0,none⟩) (k+1) cap2)
   all_goals generalize w3.setCell ⟨G,1,none⟩ (.slice (some ⟨g2,0,none⟩) (k+1) cap2)=wa at *
   all_goals clear hrow3 hpe hKa Hst2 HK2 Hown2 y1 yf Hbel3 x0 x1 x1a x1b Hst Hdat Hnx Hbd Hbel
   all_goals have hGa:G<wa.heap.size:=lt_of_heap hst3
   all_goals have x2:wa.cell? ⟨G,2,none⟩=some (.slice na k nc):=(by rw [cell_of_row wa G 2 _ 74 (0,0) hst3];rfl)
   all_goals have Hst3:=hidI hst3
   all_goals have Hdat3:=hidI hdat3
   all_goals have Hbd3:=hidI hbd3
   all_goals have Hbel3:=hidI hbel3
   all_goals clear hst3 hdat3 hbd3 hbel3
   all_goals go_wp2_with (at_builtin;refine wpList_append_lies _ rfl (.tmp 38) (.tmp 39) 22 rfl G 3 k0 (.int .i64 0) 1 8 Tryz.underlying22 ki kz0 kz1 kz2 rfl (by decide) (.slice na k nc) k _ rfl (hnx3.alloc _) ⟨wa.heap.size,0,none⟩ 1 1 [.int .i64 0] rfl rfl (cell_one_new _ _ _) (by intro u hu;simp at hu;subst hu;rfl) (by omega) (by unfold maxLen;omega) (by omega) (by simp;omega) (wa.heap.size+1) (by simp) ?_)
   all_goals intro g4 cap4 w4 hown4 hgrow4 hat4 hlt4
   all_goals have K4:∀ t,t≠3→Keeps t wa w4:=(fun t ht=>((Keeps.refl t wa).alloc _).grown (hnx3.alloc _) (fun e=>ht e.symm) hgrow4)
   all_goals have hst4:=(K4 74 (by decide)).block Hst3.out
   all_goals have y2:w4.cell? ⟨G,2,none⟩=some (.slice na k nc):=(by rw [cell_of_row w4 G 2 _ 74 (0,0) hst4];rfl)
   all_goals have yf2:=frozen_of_row w4 G 2 _ 74 hst4
   all_goals have hst5:=heap_setCell_same w4 G 2 _ 74 (.slice (some ⟨g4,0,none⟩) (k+1) cap4) hst4
   all_goals rw [qfo] at hown4
   all_goals have hnx5:=((Keeps.refl 3 w4).set (o:=2) (v:=.slice (some ⟨g4,0,none⟩) (k+1) cap4) hst4 (by decide)).own hown4
   all_goals have hdat5:=Hdat3.out.keep ((K4 9 (by decide)).set (o:=2) (v:=.slice (some ⟨g4,0,none⟩) (k+1) cap4) hst4 (by decide)) ((K4 40 (by decide)).set (o:=2) (v:=.slice (some ⟨g4,0,none⟩) (k+1) cap4) hst4 (by decide))
   all_goals have hbd5:=((K4 4 (by decide)).set (o:=2) (v:=.slice (some ⟨g4,0,none⟩) (k+1) cap4) hst4 (by decide)).own Hbd3.out
   all_goals have hbel5:Below G w1 (w4.setCell ⟨G,2,none⟩ (.slice (some ⟨g4,0,none⟩) (k+1) cap4)):=((Hbel3.out.alloc (Nat.le_of_lt hGa) _).grown hgrow4 (by simp;omega) (fun q hq=>(hnx3.lt q hq).1)).setCell (Nat.le_refl _) _
   all_goals have hG4:G<w4.heap.size:=lt_of_heap hst4
   all_goals have x3:(w4.setCell ⟨G,2,none⟩ (.slice (some ⟨g4,0,none⟩) (k+1) cap4)).cell? ⟨G,3,none⟩=some (.slice ba k bc):=(by rw [cell_of_row _ G 3 _ 74 (0,0) hst5];rfl)
   all_goals have Hst5:=hidI hst5
   all_goals have Hdat5:=hidI hdat5
   all_goals have Hnx5:=hidI hnx5
   all_goals have Hbel5:=hidI hbel5
   all_goals clear hst4 hst5 hdat5 hnx5 hbel5 hown4 hgrow4 hat4 K4 Hst3 Hdat3 Hbd3 Hbel3 hnx3 x2
   all_goals go_wp2_with (at_builtin;refine wpList_append_lies _ rfl (.tmp 47) (.tmp 48) 72 rfl G 4 l0 (.bool false) 1 1 Tryz.underlying72 li lz0 lz1 lz2 rfl (by decide) (.slice ba k bc) k _ rfl (hbd5.alloc _) ⟨w4.heap.size,0,none⟩ 1 1 [.bool false] rfl rfl (qfD _ _ _ _ _) (by intro u hu;simp at hu;subst hu;rfl) (by omega) (by unfold maxLen;omega) (by omega) (by simp;omega) (w4.heap.size+1) (by simp) ?_)
   all_goals intro g6 cap6 w6 hown6 hgrow6 hat6 hlt6
   all_goals have K6:∀ t,t≠4→Keeps t (w4.setCell ⟨G,2,none⟩ (.slice (some ⟨g4,0,none⟩) (k+1) cap4)) w6:=(fun t ht=>((Keeps.refl t _).alloc _).grown (hbd5.alloc _) (fun e=>ht e.symm) hgrow6)
   all_goals have hst6:=(K6 74 (by decide)).block Hst5.out
   all_goals have y3:w6.cell? ⟨G,3,none⟩=some (.slice ba k bc):=(by rw [cell_of_row w6 G 3 _ 74 (0,0) hst6];rfl)
   all_goals have yf3:=frozen_of_row w6 G 3 _ 74 hst6
   all_goals rw [qfo] at hown6
   all_goals have Hst7:=hidI (heap_setCell_same w6 G 3 _ 74 (.slice (some ⟨g6,0,none⟩) (k+1) cap6) hst6)
   all_goals have Hbd7:=hidI (((Keeps.refl 4 w6).set (o:=3) (v:=.slice (some ⟨g6,0,none⟩) (k+1) cap6) hst6 (by decide)).own hown6)
   all_goals have Hnx7:=hidI (((K6 3 (by decide)).set (o:=3) (v:=.slice (some ⟨g6,0,none⟩) (k+1) cap6) hst6 (by decide)).own Hnx5.out)
   all_goals have Hdat7:=hidI (Hdat5.out.keep ((K6 9 (by decide)).set (o:=3) (v:=.slice (some ⟨g6,0,none⟩) (k+1) cap6) hst6 (by decide)) ((K6 40 (by decide)).set (o:=3) (v:=.slice (some ⟨g6,0,none⟩) (k+1) cap6) hst6 (by decide)))
   all_goals have Hbel7:Hid (Below G w1 (w6.setCell ⟨G,3,none⟩ (.slice (some ⟨g6,0,none⟩) (k+1) cap6))):=((Hbel5.out.alloc (by simp;omega) _).grown hgrow6 (by simp;omega) (fun q hq=>(hbd5.lt q hq).1)).setCell (Nat.le_refl _) _
   all_goals clear hst6 hown6 hgrow6 hat6 K6 Hst5 Hdat5 Hnx5 Hbel5 hbd5 x3 y2 yf2
   all_goals go_wp2
   all_goals (go_roundw;(case rel=>exact ⟨k+1,by omega,by go_num,some ⟨_,0,none⟩,cap2,some ⟨_,0,none⟩,cap4,some ⟨_,0,none⟩,cap6,_,_,Hst7.out,Hdat7.out,Hnx7.out,Hbd7.out,Hbel7.out⟩);(case measure=>simp [intOf];omega))
  have hke:nb=k:=by omega
  subst hke;obtain ⟨L,hL⟩:=MemX.built (T:=74) (enc:=id) (m:=⟨nb,np,fun _ _=>[],fun _=>0,badL z 0,-1,0,-1,0⟩) (g4:=-1) (g5:=0) (g6:=-1) (g7:=0) (by show 0<nb;omega) (by decide) (Nat.le_refl G) hst hdat (fun i p _ _=>rfl) hnx hbd;obtain ⟨H,hH⟩:∃ H,H=wr.heap.size:=⟨_,rfl⟩;rw [←hH] at hL;have Hle:Hid (H≤wr.heap.size):=Nat.le_of_eq hH;have HL:=hidI hL;have Hbel:=hidI hbel;clear hst hdat hnx hbd hbel hL hH hGr;go_wp2_with (first | (go_at_call 36;refine (Hbl.out _).mono ?_;rintro e w2 ⟨rfl,h2⟩;subst h2))
  go_loopw [9] (fun x wr=>∃ k:Nat,k≤n∧x=.int .i64 k∧CP wr G H G L ⟨nb,np,fun _ _=>[],fun _=>0,badL z k,-1,0,-1,0⟩∧Below G w1 wr∧H≤wr.heap.size) (fun x _=>n - (intOf x).toNat)
  case atStart=>exact ⟨0,by omega,rfl,HL.out,Hbel.out,Hle.out⟩
  clear HL Hbel Hle;obtain ⟨k,hk,rfl,hm,hbel,hle⟩:=hrel;have c1:=MemX.c1 hm;have c3:=MemX.c3 hm;have Hle:=hidI hle;have Hbel:=hidI hbel;have Hm:=hidI hm;simp only [] at c1 c3;by_cases hlt:k<n
  ·obtain ⟨b,off,rfl,hc⟩:=Hin.out _ hbel (by omega);have hck:=hc k hlt;clear hc hm hbel hle;by_cases h0:z k<0
   ·have hd:decide (0≤z k)=false:=by simp;omega
    have Hm2:Hid (CP wr G H G L ⟨nb,np,fun _ _=>[],fun _=>0,badL z (k+1),-1,0,-1,0⟩):=(Hm.out.bdc (badL z (k+1)) (fun i _=>by rw [qdd];show _=(badL z k i||(z k==(i:Int)));rw [show (z k==(i:Int))=false by simp;omega,Bool.or_false]));go_wp2_with fail
    go_quiet (fail)
    go_wp2;go_roundw
    case rel=>exact ⟨k+1,by omega,by go_num,MemX.drewN Hm2.out _,qdp Hbel.out _,Hle.out⟩
    case measure=>simp [intOf];omega
   have hd:decide (0≤z k)=true:=by simp;omega
   obtain ⟨i,hzi⟩:∃ i:Nat,z k=(i:Int):=Int.eq_ofNat_of_zero_le (by omega);have Hzi:=hidI hzi;rw [hzi] at hck;by_cases h1:i<nb
   ·have hd1:decide ((i:Int)<(nb:Int))=true:=by simp;omega
    have hf:=Hm.out.bad.frozen i;have hcb:=Hm.out.bad.cell h1;have Hm2:Hid (∀ q,CP ((wr.drewN q).setCell ⟨L.bk,i,none⟩ (.bool true)) G H G L ⟨nb,np,fun _ _=>[],fun _=>0,badL z (k+1),-1,0,-1,0⟩):=fun q=>((MemX.setBd (MemX.drewN Hm.out q) i true).bdc (badL z (k+1)) (fun a _=>by
     rw [qdd];show (if a=i then true else badL z k a)=(badL z k a||(z k==(a:Int)));rw [Hzi.out];by_cases e:a=i
     ·rw [if_pos e,e];simp
     rw [if_neg e,show ((i:Int)==(a:Int))=false by simp;omega,Bool.or_false]))
    have Hbel2:Hid (∀ q,Below G w1 ((wr.drewN q).setCell ⟨L.bk,i,none⟩ (.bool true))):=fun q=>(qdp Hbel.out q).setCell (p:=⟨L.bk,i,none⟩) Hm.out.hbk.1 (.bool true)
    clear h0 hd hzi;go_wp2_with fail
    go_quiet (fail)
    go_wp2_with fail;go_region;go_wp2;go_roundw
    case rel=>exact ⟨k+1,by omega,by go_num,Hm2.out _,Hbel2.out _,by simpa using Hle.out⟩
    case measure=>simp [intOf];omega
   have hd1:decide ((i:Int)<(nb:Int))=false:=by simp;omega
   have Hm2:Hid (CP wr G H G L ⟨nb,np,fun _ _=>[],fun _=>0,badL z (k+1),-1,0,-1,0⟩):=(Hm.out.bdc (badL z (k+1)) (fun a ha=>by rw [qdd];show _=(badL z k a||(z k==(a:Int)));have:a<nb:=ha;rw [Hzi.out,show ((i:Int)==(a:Int))=false by simp;omega,Bool.or_false]));clear h0 hd hzi;go_wp2_with fail
   go_quiet (fail)
   go_wp2;go_roundw
   case rel=>exact ⟨k+1,by omega,by go_num,MemX.drewN Hm2.out _,qdp Hbel.out _,Hle.out⟩
   case measure=>simp [intOf];omega
  have hke:n=k:=by omega
  subst hke;clear hm hbel hle;go_wp2;go_ret
  refine ⟨L,H,by rw [←HGe.out];rfl,Hle.out,?_,?_⟩
  ·rw [HM.out,←HGe.out];exact Hm.out
  rw [←HGe.out];exact Hbel.out
end Go.Proofs.YtodmdkhdbfbfgaaGreatDoor.S1
