/- Lemmas. -/
import Derived.Sort.WalkA
import Derived.Sort.WalkB3
import Derived.Test.YtodmdkhdbfbfgabGreatDoorM31
set_option linter.unusedVariables false
set_option linter.unusedSimpArgs false
set_option maxRecDepth 100000
set_option maxHeartbeats 8000000
namespace Go.Proofs.YtodmdkhdbfbfgabGreatDoor
open Go.RowKit Go.Nt
theorem qj3:∀ q:Bs,q.contains 47=true→(par q++[47]) <+: q
 | [],h=>by cases h
 | c :: cs,h=>by
   unfold par;by_cases hc:cs.contains 47=true
   ·rw [if_pos hc];obtain ⟨r,hr⟩:=qj3 cs hc;exact ⟨r,by rw [List.cons_append,List.cons_append,hr]⟩
   ·rw [if_neg hc];have e:c=47:=by
     rw [List.contains_cons] at h;rcases Bool.or_eq_true_iff.1 h with h1 | h1
     ·exact (beq_iff_eq.1 h1).symm
     ·exact absurd h1 hc
    rw [e];exact ⟨cs,rfl⟩
theorem qn2 {q p:Bs} (h:par q=p) (hp:p≠[]):inB q p=true:=by
 have hc:q.contains 47=true:=by
  cases q with
  | nil=>exact absurd h.symm hp
  | cons c cs =>
    unfold par at h;by_cases hc:cs.contains 47=true
    ·rw [List.contains_cons,hc,Bool.or_true]
    ·rw [if_neg hc] at h;exact absurd h.symm hp
 unfold inB;rw [←h];exact List.isPrefixOf_iff_prefix.2 (qj3 q hc)
theorem TreeP.remove {l:List It} (h:TreeP l) {p:Bs} (he:qaJ l p=0):TreeP (l.filter fun y=>decide (y.path≠p)):=by
 refine h.drop p fun y hy e => ?_
 unfold qaJ at he;by_cases hf:findE l p=0
 ·rw [if_pos hf] at he;have hp:p≠[]:=by
   rintro rfl;unfold findE reachE at hf;rw [show okPath []=false from rfl] at hf;simp at hf
  have hi:=qn2 e hp;have ha:(l.map (·.path)).any (fun q=>inB q p)=true:=List.any_eq_true.2 ⟨y.path,List.mem_map.2 ⟨y,hy,rfl⟩,hi⟩;rw [ha,if_pos rfl] at he;cases he
 ·rw [if_neg hf] at he;exact hf he
theorem ChgP.new {u:Bs→Option Bs} {w W:World} {fb tb lo hi cb lb:Nat} {L:S1.Loc} {lv:S1.Lv} {kv qv:Option Nat} {nk nq:Nat} {m:S1.M} {K Q:Nat→Bool} {b p:Nat} {l l':List It} {E:Int} {e:Ending} {w':World} (h:ChgP u W fb tb lo hi cb lb L lv kv qv nk nq m K Q b p l l' E e w') (hb:Below w.heap.size w W) (hg:∀ g,lv.tk=some g→g<w.heap.size):ChgP u w fb tb lo hi cb lb L lv kv qv nk nq m K Q b p l l' E e w':=by
 obtain ⟨h1,h2⟩:=h;have hT:∀ S,TkS W lv m S→TkS w lv m S:=fun S h=>⟨h.1,fun g hg'=>by
  obtain ⟨n,h3,h4⟩:=h.2 g hg';exact ⟨n,h3.of_block (hb.block g (hg g hg')).symm,h4⟩⟩
 have hs:=hb.size;refine ⟨(S1.Fm.of_new hb).trans h1,?_⟩;rcases h2 with ⟨x,c,a1,a2,a3,a4⟩ | h2 | ⟨a1,a2,t,S,a3,a4,a5,a6,⟨ib,nk',g,a7,a8,a9,a10,a12,a11⟩ | ⟨c,a7,a8,a9,a10⟩⟩
 ·exact .inl ⟨x,c,a1,a2,Nat.le_trans hs a3,a4⟩
 ·exact .inr (.inl h2)
 ·exact .inr (.inr ⟨a1,a2,t,S,a3,a4,hT S a5,a6,.inl ⟨ib,nk',g,a7,a8,Nat.le_trans hs a9,a10.imp id (Nat.le_trans hs),a12,a11⟩⟩)
 ·exact .inr (.inr ⟨a1,a2,t,S,a3,a4,hT S a5,a6,.inr ⟨c,a7,a8,Nat.le_trans hs a9,a10⟩⟩)
theorem qkH {u:Bs→Option Bs} {w:World} {fb tb lo hi cb lb:Nat} {L:S1.Loc} {lv:S1.Lv} {kv qv:Option Nat} {nk nq:Nat} {m:S1.M} {K Q:Nat→Bool} {b p:Nat} {l l':List It} {E:Int} {e:Ending} {w':World} (h:ChgP u w fb tb lo hi cb lb L lv kv qv nk nq m K Q b p l l' E e w'):∃ x:Int,e=.returned (.int .i64 x):=by
 obtain ⟨_,h2⟩:=h;rcases h2 with ⟨x,c,a1,a2,a3,a4⟩ | ⟨_,_,_,a8,_⟩ | ⟨a1,a2,t,S,a3,a4,a5,a6,⟨ib,nk',g,a7,a8,a9,a10,a12,a11⟩ | ⟨c,a7,a8,a9,a10⟩⟩
 ·exact ⟨_,a2⟩
 ·exact ⟨_,a8⟩
 ·exact ⟨_,a8⟩
 ·exact ⟨_,a8⟩
theorem qlZ {u:Bs→Option Bs} (hP:PackC u) (q d:Bs) (w:World) (fb tb lo hi cb lb:Nat) (L:S1.Loc) (lv:S1.Lv) (kv qv:Option Nat) (nk nq:Nat) (m:S1.M) (K Q:Nat→Bool) (b p:Nat) (l:List It)
 (h:FsM w fb tb lo hi cb lb L lv kv qv nk nq m K Q b p l) (ht:TreeP l) (hml:ML w) (h0:¬FsS fb tb lo hi lb kv qv 0) (hb:b<1000) (hp:p≤m.np) (hq:q.length≤1048576) (hd:d.length≤1048576) :
 Calls Tryz.prog 13 #[.pointer (some ⟨fb,0,none⟩),.string (txt q),.string (txt d)] w fun e w'=>ChgP u w fb tb lo hi cb lb L lv kv qv nk nq m K Q b p l (setIt l (putI l q d)) (putE l q d) e w':=by
 have hmf:∀ (fn:Fn) (first cap:Array Value) (w:World),(Instr.makeFunc fn first cap).run Tryz.prog w=.ok (.func fn first cap) w:=fun _ _ _ _=>rfl
 obtain ⟨z,hz⟩:∃ z,z=w.heap.size:=⟨_,rfl⟩;obtain ⟨W1,hW1⟩:∃ W1,W1=(w.alloc (.cells #[.string (txt q)] 9)).alloc (.cells #[.string (txt d)] 9):=⟨_,rfl⟩;have hB1:Below w.heap.size w W1:=by rw [hW1];exact ((Below.refl _ w).alloc (Nat.le_refl _) _).alloc (by simp) _
 have hA1:W1.heap[z]? = some (.cells #[.string (txt q)] 9 (0,0)):=by rw [hW1,hz];exact (Below.heap_alloc _ _ _ (by simp)).trans (heap_alloc_new _ _)
 have hE1:W1.heap[z+1]? = some (.cells #[.string (txt d)] 9 (0,0)):=by rw [hW1,hz];have:=heap_alloc_new (w.alloc (.cells #[.string (txt q)] 9)) (.cells #[.string (txt d)] 9);simpa using this
 have hM1:=h.below hB1;have hml1:ML W1:=hml.below hB1 hml.lt;have A:=hidI (qej hP 29 #[.pointer (some ⟨z,0,none⟩),.pointer (some ⟨z+1,0,none⟩)] W1 fb tb lo hi cb lb L lv kv qv nk nq m K Q b p l (setIt l (putI l q d)) (putE l q d) hM1 ht ht.put hml1 h0 hb hp (enters_of Tryz.func29 (by kernel_rfl) rfl) (fun W hW=>qlf tb z (z+1) l q d W (hM1.tree.below hW hM1.tree.lt) ht (hml1.below hW hml1.lt) hq hd (by rw [cell_of_row W z 0 _ 9 (0,0) ((hW.block z (qaa hA1)).trans hA1)];rfl) (by rw [cell_of_row W (z+1) 0 _ 9 (0,0) ((hW.block (z+1) (qaa hE1)).trans hE1)];rfl)));obtain ⟨X,hX⟩:∃ X,X=txt q:=⟨_,rfl⟩;obtain ⟨Y,hY⟩:∃ Y,Y=txt d:=⟨_,rfl⟩;rw [←hX,←hY] at hW1;rw [←hX,←hY];have HW1:=hidI hW1;have Hz:=hidI hz;have HB1:=hidI hB1;have Htk:Hid (∀ g,lv.tk=some g→g<w.heap.size):=hidI (fun g hg=>by
  obtain ⟨_,_,_,n,S,h5,_⟩:=h.tk g hg;exact h5.lt)
 clear hW1 hz hB1 hA1 hE1 hM1 hml1 h ht hml hX hY;go_enter Tryz.func13,Tryz.ntmps13
 go_wp2_with (first | (rw [←HW1.out,←Hz.out]) | fail);refine A.out.mono ?_;rintro e W2 hpost;obtain ⟨x,rfl⟩:=qkH hpost;have HP:=hidI (hpost.new HB1.out Htk.out);clear hpost A;go_wp2_with fail;go_ret
 exact HP.out
theorem qgG {u:Bs→Option Bs} (hP:PackC u) (q:Bs) (w:World) (fb tb lo hi cb lb:Nat) (L:S1.Loc) (lv:S1.Lv) (kv qv:Option Nat) (nk nq:Nat) (m:S1.M) (K Q:Nat→Bool) (b p:Nat) (l:List It)
 (h:FsM w fb tb lo hi cb lb L lv kv qv nk nq m K Q b p l) (ht:TreeP l) (hml:ML w) (h0:¬FsS fb tb lo hi lb kv qv 0) (hb:b<1000) (hp:p≤m.np) (hq:q.length≤1048576) :
 Calls Tryz.prog 15 #[.pointer (some ⟨fb,0,none⟩),.string (txt q)] w fun e w'=>ChgP u w fb tb lo hi cb lb L lv kv qv nk nq m K Q b p l (l.filter fun y=>decide (y.path≠q)) (qaJ l q) e w':=by
 have hmf:∀ (fn:Fn) (first cap:Array Value) (w:World),(Instr.makeFunc fn first cap).run Tryz.prog w=.ok (.func fn first cap) w:=fun _ _ _ _=>rfl
 obtain ⟨z,hz⟩:∃ z,z=w.heap.size:=⟨_,rfl⟩;obtain ⟨W1,hW1⟩:∃ W1,W1=w.alloc (.cells #[.string (txt q)] 9):=⟨_,rfl⟩;have hB1:Below w.heap.size w W1:=by rw [hW1];exact (Below.refl _ w).alloc (Nat.le_refl _) _
 have hA1:W1.heap[z]? = some (.cells #[.string (txt q)] 9 (0,0)):=by rw [hW1,hz];exact heap_alloc_new _ _
 have hM1:=h.below hB1;have hml1:ML W1:=hml.below hB1 hml.lt;have A:=hidI (qej hP 32 #[.pointer (some ⟨z,0,none⟩)] W1 fb tb lo hi cb lb L lv kv qv nk nq m K Q b p l (l.filter fun y=>decide (y.path≠q)) (qaJ l q) hM1 ht ht.remove hml1 h0 hb hp (enters_of Tryz.func32 (by kernel_rfl) rfl) (fun W hW=>qg3 tb z l q W (hM1.tree.below hW hM1.tree.lt) ht (hml1.below hW hml1.lt) hq (by rw [cell_of_row W z 0 _ 9 (0,0) ((hW.block z (qaa hA1)).trans hA1)];rfl)));obtain ⟨X,hX⟩:∃ X,X=txt q:=⟨_,rfl⟩;rw [←hX] at hW1;rw [←hX];have HW1:=hidI hW1;have Hz:=hidI hz;have HB1:=hidI hB1;have Htk:Hid (∀ g,lv.tk=some g→g<w.heap.size):=hidI (fun g hg=>by
  obtain ⟨_,_,_,n,S,h5,_⟩:=h.tk g hg;exact h5.lt)
 clear hW1 hz hB1 hA1 hM1 hml1 h ht hml hX;go_enter Tryz.func15,Tryz.ntmps15
 go_wp2_with (first | (rw [←HW1.out,←Hz.out]) | fail);refine A.out.mono ?_;rintro e W2 hpost;obtain ⟨x,rfl⟩:=qkH hpost;have HP:=hidI (hpost.new HB1.out Htk.out);clear hpost A;go_wp2_with fail;go_ret
 exact HP.out
def Alike' (m m':S1.M):Prop:=m'.nb=m.nb∧m'.np=m.np∧m'.bd=m.bd
theorem Alike'.room {m m':S1.M} (h:Alike' m m'):S1.roomP m'=S1.roomP m:=by
 unfold S1.roomP;rw [S1.good_congr h.1 h.2.2,h.2.1]
def FsK (w:World) (fb cb:Nat) (T:Nat→Prop) (m0:S1.M) (l:List It):Prop:=
 ∃ (tb lo hi lb:Nat) (L:S1.Loc) (lv:S1.Lv) (kv qv:Option Nat) (nk nq:Nat) (m:S1.M) (K Q:Nat→Bool) (b p:Nat),FsM w fb tb lo hi cb lb L lv kv qv nk nq m K Q b p l∧S1.Snd m K Q b p∧(∀ k,FsS fb tb lo hi lb kv qv k→T k)∧(∀ g,lv.tk=some g→T g)∧Alike' m0 m∧∀ k,T k→k<w.heap.size
theorem FsM.lt {w:World} {fb tb lo hi cb lb:Nat} {L:S1.Loc} {lv:S1.Lv} {kv qv:Option Nat} {nk nq:Nat} {m:S1.M} {K Q:Nat→Bool} {b p:Nat} {l:List It} (h:FsM w fb tb lo hi cb lb L lv kv qv nk nq m K Q b p l) (k:Nat) (hk:FsS fb tb lo hi lb kv qv k∨lv.tk=some k):k<w.heap.size:=by
 rcases hk with (hk | hk | hk) | hk
 ·exact S1.logS_lt h.log hk
 ·rw [hk];exact qaa h.fs
 ·rw [hk];exact h.tree.lt
 ·obtain ⟨_,_,_,n,S,h4,_⟩:=h.tk k hk;exact h4.lt
theorem FsK.chip {w:World} {fb cb:Nat} {T:Nat→Prop} {m0:S1.M} {l:List It} (h:FsK w fb cb T m0 l):∃ (lo hi:Nat) (L:S1.Loc) (m:S1.M),S1.CP w lo hi cb L m∧Alike' m0 m:=by
 obtain ⟨tb,lo,hi,lb,L,lv,kv,qv,nk,nq,m,K,Q,b,p,h1,h2,h3,h4,h5,h6⟩:=h;exact ⟨lo,hi,L,m,h1.log.chip,h5⟩
theorem qmS {w:World} {g n:Nat} {S:Nat→Bool} (h:S1.BlAt w g n S):∃ es c,w.heap[g]? = some (.map es c):=by
 obtain ⟨D,⟨es,c,hb,_⟩,_⟩:=h;exact ⟨es,c,hb⟩
theorem qhm {w:World} {g:Nat} {l:List It} (h:TreeAt w g l):∃ es c,w.heap[g]? = some (.map es c):=by
 obtain ⟨D,⟨es,c,hb,_⟩,_⟩:=h;exact ⟨es,c,hb⟩
theorem qhH {w:World} {g k:Nat} (h:∃ es c,w.heap[g]? = some (.map es c)) {x:Array Value} {t:TypeId} {f:Nat × Nat} (hk:w.heap[k]? = some (.cells x t f)):g≠k:=by
 rintro rfl;obtain ⟨es,c,hb⟩:=h;rw [hb] at hk;cases hk
theorem qoo {w:World} {fb cb lb tb cb' lb':Nat} {lv:S1.Lv} {kv qv:Option Nat} {b p:Nat} (h:FsAt w fb cb lb tb) (hl:S1.LogAt w lb' cb' lv kv qv b p):fb≠lb':=by
 rintro rfl;have h1:=h.symm.trans hl
 injection h1 with h1
 injection h1 with _ h2
 exact absurd h2 (by decide)
end Go.Proofs.YtodmdkhdbfbfgabGreatDoor
namespace Go.Proofs.YtodmdkhdbfbfgabGreatDoor.S1
open Go.RowKit Go.Sort
theorem isNaNU (x:Int) (w:World):Calls Tryz.prog 243 #[.int .u32 x] w fun e w'=>e=.returned (.bool false)∧w'=w:=by
 go_enter Tryz.func243,Tryz.ntmps243
 go_wp2;go_ret
 exact ⟨by simp,rfl⟩
theorem lessU (x y:Int) (w:World):Calls Tryz.prog 223 #[.int .u32 x,.int .u32 y] w fun e w'=>e=.returned (.bool (ltInt x y))∧w'=w:=by
 go_enter Tryz.func223,Tryz.ntmps223
 go_wp2_with (go_at_call 243;refine (isNaNU _ _).mono ?_;rintro e w' ⟨rfl,rfl⟩);go_ret
 exact ⟨rfl,rfl⟩
abbrev HoldsU (w:World) (blk off:Nat) (d:Array Int):Prop:=Holds (Value.int .u32) w blk off d
abbrev rowU (w:World) (n blk off:Nat) (d:Array Int):World:=putRow (Value.int .u32) (Sort.ahead w n) blk off d
theorem qaK {w:World} {blk off:Nat} {d dj:Array Int} (hH:HoldsU w blk off d) {n:Nat} (hs:dj.size=d.size) (t:Nat) (ht:t<d.size):(rowU w n blk off dj).cell? ⟨blk,off+t,none⟩=some (.int .u32 dj[t]!):=
 cell?_putRow _ _ _ _ d dj (holds_ahead _ _ _ _ _ _ hH) hs t (by omega)
theorem qat {w:World} {blk off:Nat} {d dj:Array Int} (hH:HoldsU w blk off d) {n:Nat} (t:Nat) (ht:t<d.size):(rowU w n blk off dj).frozen? ⟨blk,off+t,none⟩=false:=by
 rw [frozen?_putRow];exact ((holds_ahead _ _ n _ _ _ hH) t ht).2
theorem qi5 (blk off cap a b:Nat) (d:Array Int) (w:World) (hH:HoldsU w blk off d) (hab:a≤b) (hb:b≤d.size) (hsz:d.size≤1000000) :
 Calls Tryz.prog 217 #[.slice (some ⟨blk,off,none⟩) d.size cap,.int .i64 (a:Nat),.int .i64 (b:Nat)] w fun e w'=>e=.returned (.tuple #[])∧∃ n,w'=rowU w n blk off (insertionSort ltInt d a b):=by
 go_enter Tryz.func217,Tryz.ntmps217
 go_wp2
 go_loopw [6] (fun vi wr=>∃ (i n:Nat) (dk:Array Int),vi=.int .i64 (i:Nat)∧a<i∧i≤b+1∧dk.size=d.size∧wr=rowU w n blk off dk∧Hid (insOuter ltInt a b i dk=insOuter ltInt a b (a+1) d)) (fun vi _=>b+1 - (intOf vi).toNat)
 case atStart=>exact ⟨a+1,0,d,by go_num,by omega,by omega,rfl,(putRow_self _ _ _ _ _ hH).symm,hidI rfl⟩
 case round =>
  obtain ⟨i,n,dk,rfl,hai,hib,hsk,hwr,HO⟩:=hrel;by_cases hlt:i<b
  ·have hlt':((i:Nat):Int)<(b:Nat):=by omega
   go_wp2
   go_loopw [7] (fun vj wr2=>∃ (j m:Nat) (dj:Array Int),vj=.int .i64 (j:Nat)∧a≤j∧j≤i∧dj.size=d.size∧wr2=rowU w m blk off dj∧Hid (insInner ltInt a j dj=insInner ltInt a i dk)) (fun vj _=>(intOf vj).toNat)
   case atStart=>exact ⟨i,n,dk,rfl,by omega,Nat.le_refl _,hsk,by first | rfl | exact hwr,hidI rfl⟩
   case round =>
    obtain ⟨j,m,dj,rfl,haj,hji,hsj,hw2,HI⟩:=hrel;obtain ⟨G,hG⟩:∃ G:Nat→Int,∀ t,G t=dj[t]! := ⟨fun t=>dj[t]!,fun _=>rfl⟩;have hcw:∀ t,t<d.size→wr.cell? ⟨blk,off+t,none⟩=some (.int .u32 (G t)):=fun t ht=>by rw [hw2,hG];exact qaK hH hsj t ht
    have hfw:∀ t,t<d.size→wr.frozen? ⟨blk,off+t,none⟩=false:=fun t ht=>by rw [hw2];exact qat hH t ht
    have HW:=hidI hw2;have HG:=hidI hG;have OUT:Hid ((j≤a∨ltInt dj[j]! dj[j - 1]! = false)→∀ q,∃ i' n' dk',Value.int .i64 ((i:Int)+1)=.int .i64 (i':Nat)∧a<i'∧i'≤b+1∧dk'.size=d.size∧wr.drewN q=rowU w n' blk off dk'∧Hid (insOuter ltInt a b i' dk'=insOuter ltInt a b (a+1) d)):=hidI (fun hs q =>
     ⟨i+1,m+q,dj,by go_num,by omega,by omega,hsj,by rw [HW.out];exact putRow_drewN _ _ _ _ _ _ _,hidI (by rw [←HO.out,insOuter_go _ _ _ _ _ hlt,←HI.out,insInner_stop _ _ _ _ hs])⟩)
    clear hw2 hG hwr;go_wp2;by_cases hja:a<j
    ·go_quiet (first | (go_at_call 223;refine Calls.quiet_of_same (lessU _ _ _)))
     go_wp2
     ·have hl:ltInt (G j) (G (j - 1))=true:=by assumption
      go_region
      all_goals go_wp2
      go_roundw
      case rel =>
       refine ⟨j - 1,m+(nq+1),swp dj j (j - 1),by congr 1;omega,by omega,by omega,by rw [size_swp];exact hsj,?_,hidI ?_⟩
       ·rw [HW.out,HG.out,HG.out];exact swap_worldA _ w m (nq+1) blk off dj j (j - 1) (by omega) (by omega)
       ·rw [←HI.out,insInner_go ltInt a j dj hja (by rw [←HG.out,←HG.out];exact hl)]
      case measure=>simp [intOf];omega
     ·have hl:ltInt (G j) (G (j - 1))=false:=by assumption
      go_roundw
      case rel=>exact OUT.out (Or.inr (by rw [←HG.out,←HG.out];exact hl)) nq
      case measure=>simp [intOf];omega
    ·go_quiet (first | (go_at_call 223;refine Calls.quiet_of_same (lessU _ _ _)))
     go_wp2;go_roundw
     case rel=>exact OUT.out (Or.inl (by omega)) nq
     case measure=>simp [intOf];omega
  ·have hlt':¬((i:Nat):Int)<(b:Nat):=by omega
   go_wp2;go_end0
   exact ⟨rfl,n,by unfold insertionSort;rw [←HO.out,insOuter_stop _ _ _ _ _ hlt]⟩
theorem qh7 {d:Array Int} {i j:Nat} (h:i<j):reverseLoop i j d=reverseLoop (i+1) (j - 1) (swp d i j):=by rw [reverseLoop,if_pos h]
theorem qfM {d:Array Int} {i j:Nat} (h:¬i<j):reverseLoop i j d=d:=by rw [reverseLoop,if_neg h]
theorem ql5 (blk off cap a b:Nat) (d:Array Int) (w:World) (hH:HoldsU w blk off d) (hab:a<b) (hb:b≤d.size) (hsz:d.size≤1000000) :
 Calls Tryz.prog 221 #[.slice (some ⟨blk,off,none⟩) d.size cap,.int .i64 (a:Nat),.int .i64 (b:Nat)] w fun e w'=>e=.returned (.tuple #[])∧∃ n,w'=rowU w n blk off (reverseRange d a b):=by
 go_enter Tryz.func221,Tryz.ntmps221
 go_wp2
 go_loopw [6,7] (fun vi vj wr=>∃ (i j m:Nat) (dj:Array Int),vi=.int .i64 (i:Nat)∧vj=.int .i64 (j:Nat)∧a≤i∧i≤b∧j<b∧dj.size=d.size∧wr=rowU w m blk off dj∧Hid (reverseLoop i j dj=reverseRange d a b)) (fun vi vj _=>(intOf vj).toNat - (intOf vi).toNat)
 case atStart=>exact ⟨a,b - 1,0,d,rfl,by congr 1;omega,Nat.le_refl _,by omega,by omega,rfl,(putRow_self _ _ _ _ _ hH).symm,hidI rfl⟩
 case round =>
  obtain ⟨i,j,m,dj,rfl,rfl,hai,hib,hjb,hsj,hw2,HI⟩:=hrel;by_cases hij:i<j
  ·have hij':((i:Nat):Int)<(j:Nat):=by omega
   obtain ⟨G,hG⟩:∃ G:Nat→Int,∀ t,G t=dj[t]! := ⟨fun t=>dj[t]!,fun _=>rfl⟩;have hcw:∀ t,t<d.size→wr.cell? ⟨blk,off+t,none⟩=some (.int .u32 (G t)):=fun t ht=>by rw [hw2,hG];exact qaK hH hsj t ht
   have hfw:∀ t,t<d.size→wr.frozen? ⟨blk,off+t,none⟩=false:=fun t ht=>by rw [hw2];exact qat hH t ht
   have HW:=hidI hw2;have HG:=hidI hG;have hid:i<d.size:=by omega
   have hjd:j<d.size:=by omega
   clear hw2 hG;go_wp2;go_region
   all_goals go_wp2
   go_roundw
   case rel =>
    refine ⟨i+1,j - 1,m+1,swp dj i j,by go_num,by congr 1;omega,by omega,by omega,by omega,by rw [size_swp];exact hsj,?_,hidI ?_⟩
    ·rw [HW.out,HG.out,HG.out];exact swap_worldA _ w m 1 blk off dj i j (by omega) (by omega)
    ·rw [←HI.out,qh7 hij]
   case measure=>simp [intOf];omega
  ·have hij':¬((i:Nat):Int)<(j:Nat):=by omega
   go_wp2;go_end0
   exact ⟨rfl,m,by rw [←HI.out,qfM hij]⟩
def chl (hi first r:Nat) (d:Array Int):Nat:=if 2*r+1+1<hi∧ltInt d[first+(2*r+1)]! d[first+(2*r+1)+1]! = true then 2*r+2 else 2*r+1
theorem qmu {hi first r:Nat} {d:Array Int} (h:hi≤2*r+1):siftDown ltInt hi first r d=d:=by
 rw [siftDown,dif_pos (by omega)]
theorem qdG {hi first r:Nat} {d:Array Int} (h:¬hi≤2*r+1) (hl:ltInt d[first+r]! d[first+chl hi first r d]! = false):siftDown ltInt hi first r d=d:=by
 unfold chl at hl;rw [siftDown,dif_neg (by omega)];by_cases hc:2*r+1+1<hi∧ltInt d[first+(2*r+1)]! d[first+(2*r+1)+1]! = true
 ·rw [if_pos hc] at hl;simp [hc.1,hc.2,hl]
 ·rw [if_neg hc] at hl
  have:(decide (2*r+1+1<hi)&&ltInt d[first+(2*r+1)]! d[first+(2*r+1)+1]!)=false:=by
   cases h1:(decide (2*r+1+1<hi)&&ltInt d[first+(2*r+1)]! d[first+(2*r+1)+1]!) with
   | false=>rfl
   | true=>rw [Bool.and_eq_true,decide_eq_true_eq] at h1;exact absurd h1 hc
  simp [this,hl]
theorem qgQ {hi first r:Nat} {d:Array Int} (h:¬hi≤2*r+1) (hl:ltInt d[first+r]! d[first+chl hi first r d]! = true):siftDown ltInt hi first r d=siftDown ltInt hi first (chl hi first r d) (swp d (first+r) (first+chl hi first r d)):=by
 unfold chl at hl ⊢
 conv=>lhs;rw [siftDown,dif_neg (by omega)]
 by_cases hc:2*r+1+1<hi∧ltInt d[first+(2*r+1)]! d[first+(2*r+1)+1]! = true
 ·rw [if_pos hc] at hl ⊢;have h2:2*r+2<hi:=by omega
  simp [hc.1,hc.2,hl,h2]
 ·rw [if_neg hc] at hl ⊢
  have:(decide (2*r+1+1<hi)&&ltInt d[first+(2*r+1)]! d[first+(2*r+1)+1]!)=false:=by
   cases h1:(decide (2*r+1+1<hi)&&ltInt d[first+(2*r+1)]! d[first+(2*r+1)+1]!) with
   | false=>rfl
   | true=>rw [Bool.and_eq_true,decide_eq_true_eq] at h1;exact absurd h1 hc
  simp [this,hl]
theorem siftU (blk off cap lo hi first:Nat) (d:Array Int) (w:World) (hH:HoldsU w blk off d) (hb:first+hi≤d.size) (hlo:lo≤d.size) (hsz:d.size≤1000000) :
 Calls Tryz.prog 240 #[.slice (some ⟨blk,off,none⟩) d.size cap,.int .i64 (lo:Nat),.int .i64 (hi:Nat),.int .i64 (first:Nat)] w fun e w'=>e=.returned (.tuple #[])∧∃ n,w'=rowU w n blk off (siftDown ltInt hi first lo d):=by
 go_enter Tryz.func240,Tryz.ntmps240
 go_wp2
 go_loopw [8] (fun vr wr=>∃ (r m:Nat) (dj:Array Int),vr=.int .i64 (r:Nat)∧r≤1000000∧dj.size=d.size∧wr=rowU w m blk off dj∧Hid (siftDown ltInt hi first r dj=siftDown ltInt hi first lo d)) (fun vr _=>hi - (intOf vr).toNat)
 case atStart=>exact ⟨lo,0,d,rfl,by omega,rfl,(putRow_self _ _ _ _ _ hH).symm,hidI rfl⟩
 case round =>
  obtain ⟨r,m,dj,rfl,hr,hsj,hw2,HI⟩:=hrel;by_cases hend:hi≤2*r+1
  ·have hend':((hi:Nat):Int)≤2*(r:Nat)+1:=by omega
   go_wp2;go_end0
   exact ⟨rfl,m,by rw [←HI.out,qmu hend]⟩
  ·have hend':¬((hi:Nat):Int)≤2*(r:Nat)+1:=by omega
   obtain ⟨G,hG⟩:∃ G:Nat→Int,∀ t,G t=dj[t]! := ⟨fun t=>dj[t]!,fun _=>rfl⟩;have hcw:∀ t,t<d.size→wr.cell? ⟨blk,off+t,none⟩=some (.int .u32 (G t)):=fun t ht=>by rw [hw2,hG];exact qaK hH hsj t ht
   have hfw:∀ t,t<d.size→wr.frozen? ⟨blk,off+t,none⟩=false:=fun t ht=>by rw [hw2];exact qat hH t ht
   have HW:=hidI hw2;have HG:=hidI hG;clear hw2 hG;have hr2:2*r+1<hi:=by omega
   by_cases hc:2*r+1+1<hi
   ·have hc':2*((r:Nat):Int)+1+1<(hi:Nat):=by omega
    have hd1:first+(2*r+1)<d.size:=by omega
    have hd2:first+(2*r+1)+1<d.size:=by omega
    go_wp2
    go_quiet (first | (go_at_call 223;refine Calls.quiet_of_same (lessU _ _ _)))
    cases hl1:ltInt (G (first+(2*r+1))) (G (first+(2*r+1)+1)) with
    | true =>
      obtain ⟨wq,hwq⟩:∃ wq,wq=wr.drewN nq:=⟨_,rfl⟩;obtain ⟨mq,hmq⟩:∃ mq,mq=m+nq:=⟨_,rfl⟩;have HWq:Hid (wq=rowU w mq blk off dj):=hidI (by rw [hwq,hmq,HW.out];exact putRow_drewN _ _ _ _ _ _ _);have hcq:∀ t,t<d.size→wq.cell? ⟨blk,off+t,none⟩=some (.int .u32 (G t)):=fun t ht=>by rw [HWq.out,HG.out];exact qaK hH hsj t ht
      have hfq:∀ t,t<d.size→wq.frozen? ⟨blk,off+t,none⟩=false:=fun t ht=>by rw [HWq.out];exact qat hH t ht
      rw [←hwq];clear hwq hmq hcw hfw;have HC:Hid (chl hi first r dj=2*r+1+1):=hidI (by unfold chl;rw [if_pos ⟨hc,by rw [←HG.out,←HG.out];exact hl1⟩]);have hdc:first+(2*r+1+1)<d.size:=by omega
      have hdr:first+r<d.size:=by omega
      have hwr:IntKind.i64.wrap ((first:Int)+(r:Int))=(first:Int)+(r:Int):=by rw [IntKind.wrap_i64];omega
      have hr0:(0:Int)≤(first:Int)+(r:Int):=by omega
      have hr1:(first:Int)+(r:Int)<(d.size:Nat):=by omega
      have hr3:((first:Int)+(r:Int)).toNat=first+r:=by omega
      have hk0:IntKind.i64.wrap ((first:Int)+(2*(r:Int)+1+1))=(first:Int)+(2*(r:Int)+1+1):=by rw [IntKind.wrap_i64];omega
      have hk1:(0:Int)≤(first:Int)+(2*(r:Int)+1+1):=by omega
      have hk2:(first:Int)+(2*(r:Int)+1+1)<(d.size:Nat):=by omega
      have hk3:((first:Int)+(2*(r:Int)+1+1)).toNat=first+(2*r+1+1):=by omega
      go_wp2
      go_quiet (first | (go_at_call 223;refine Calls.quiet_of_same (lessU _ _ _)))
      cases hl:ltInt (G (first+r)) (G (first+(2*r+1+1))) with
      | false =>
        have HE:Hid (siftDown ltInt hi first lo d=dj):=hidI (by rw [←HI.out];exact qdG hend (by rw [HC.out,←HG.out,←HG.out];exact hl));go_wp2
        ((try simp only [Exit.inBlock,Exit.then]);refine bodyPost_ret (results_none rfl _ _ _) rfl ?_)
        exact ⟨rfl,_,by rw [HE.out,HWq.out];exact putRow_drewN _ _ _ _ _ _ _⟩
      | true =>
        have HE:Hid (siftDown ltInt hi first (2*r+1+1) (swp dj (first+r) (first+(2*r+1+1)))=siftDown ltInt hi first lo d):=hidI (by rw [←HI.out,qgQ hend (by rw [HC.out,←HG.out,←HG.out];exact hl),HC.out]);go_wp2;go_region
        all_goals go_wp2
        go_roundw
        case rel =>
         refine ⟨2*r+1+1,mq+(nq+1),swp dj (first+r) (first+(2*r+1+1)),by congr 1,by omega,by rw [size_swp];exact hsj,?_,HE⟩;rw [HWq.out,HG.out,HG.out];exact swap_worldA _ w mq _ blk off dj (first+r) (first+(2*r+1+1)) (by omega) (by omega)
        case measure=>simp [intOf];omega
    | false =>
      obtain ⟨wq,hwq⟩:∃ wq,wq=wr.drewN nq:=⟨_,rfl⟩;obtain ⟨mq,hmq⟩:∃ mq,mq=m+nq:=⟨_,rfl⟩;have HWq:Hid (wq=rowU w mq blk off dj):=hidI (by rw [hwq,hmq,HW.out];exact putRow_drewN _ _ _ _ _ _ _);have hcq:∀ t,t<d.size→wq.cell? ⟨blk,off+t,none⟩=some (.int .u32 (G t)):=fun t ht=>by rw [HWq.out,HG.out];exact qaK hH hsj t ht
      have hfq:∀ t,t<d.size→wq.frozen? ⟨blk,off+t,none⟩=false:=fun t ht=>by rw [HWq.out];exact qat hH t ht
      rw [←hwq];clear hwq hmq hcw hfw;have HC:Hid (chl hi first r dj=2*r+1):=hidI (by unfold chl;rw [if_neg (fun h=>by have:=h.2;rw [←HG.out,←HG.out,hl1] at this;cases this)]);have hdc:first+(2*r+1)<d.size:=by omega
      have hdr:first+r<d.size:=by omega
      have hwr:IntKind.i64.wrap ((first:Int)+(r:Int))=(first:Int)+(r:Int):=by rw [IntKind.wrap_i64];omega
      have hr0:(0:Int)≤(first:Int)+(r:Int):=by omega
      have hr1:(first:Int)+(r:Int)<(d.size:Nat):=by omega
      have hr3:((first:Int)+(r:Int)).toNat=first+r:=by omega
      have hk0:IntKind.i64.wrap ((first:Int)+(2*(r:Int)+1))=(first:Int)+(2*(r:Int)+1):=by rw [IntKind.wrap_i64];omega
      have hk1:(0:Int)≤(first:Int)+(2*(r:Int)+1):=by omega
      have hk2:(first:Int)+(2*(r:Int)+1)<(d.size:Nat):=by omega
      have hk3:((first:Int)+(2*(r:Int)+1)).toNat=first+(2*r+1):=by omega
      go_wp2
      go_quiet (first | (go_at_call 223;refine Calls.quiet_of_same (lessU _ _ _)))
      cases hl:ltInt (G (first+r)) (G (first+(2*r+1))) with
      | false =>
        have HE:Hid (siftDown ltInt hi first lo d=dj):=hidI (by rw [←HI.out];exact qdG hend (by rw [HC.out,←HG.out,←HG.out];exact hl));go_wp2
        ((try simp only [Exit.inBlock,Exit.then]);refine bodyPost_ret (results_none rfl _ _ _) rfl ?_)
        exact ⟨rfl,_,by rw [HE.out,HWq.out];exact putRow_drewN _ _ _ _ _ _ _⟩
      | true =>
        have HE:Hid (siftDown ltInt hi first (2*r+1) (swp dj (first+r) (first+(2*r+1)))=siftDown ltInt hi first lo d):=hidI (by rw [←HI.out,qgQ hend (by rw [HC.out,←HG.out,←HG.out];exact hl),HC.out]);go_wp2;go_region
        all_goals go_wp2
        go_roundw
        case rel =>
         refine ⟨2*r+1,mq+(nq+1),swp dj (first+r) (first+(2*r+1)),by congr 1,by omega,by rw [size_swp];exact hsj,?_,HE⟩;rw [HWq.out,HG.out,HG.out];exact swap_worldA _ w mq _ blk off dj (first+r) (first+(2*r+1)) (by omega) (by omega)
        case measure=>simp [intOf];omega
   ·have hc':¬2*((r:Nat):Int)+1+1<(hi:Nat):=by omega
    have hw2:IntKind.i64.wrap (2*(r:Int)+1+1)=2*(r:Int)+1+1:=by rw [IntKind.wrap_i64];omega
    have hcd:decide (2*((r:Nat):Int)+1+1<(hi:Nat))=false:=decide_eq_false hc';go_wp2
    go_quiet (first | (go_at_call 223;refine Calls.quiet_of_same (lessU _ _ _)))
    obtain ⟨wq,hwq⟩:∃ wq,wq=wr.drewN nq:=⟨_,rfl⟩;obtain ⟨mq,hmq⟩:∃ mq,mq=m+nq:=⟨_,rfl⟩;have HWq:Hid (wq=rowU w mq blk off dj):=hidI (by rw [hwq,hmq,HW.out];exact putRow_drewN _ _ _ _ _ _ _);have hcq:∀ t,t<d.size→wq.cell? ⟨blk,off+t,none⟩=some (.int .u32 (G t)):=fun t ht=>by rw [HWq.out,HG.out];exact qaK hH hsj t ht
    have hfq:∀ t,t<d.size→wq.frozen? ⟨blk,off+t,none⟩=false:=fun t ht=>by rw [HWq.out];exact qat hH t ht
    rw [←hwq];clear hwq hmq hcw hfw;have HC:Hid (chl hi first r dj=2*r+1):=hidI (by unfold chl;rw [if_neg (fun h=>hc h.1)]);have hdc:first+(2*r+1)<d.size:=by omega
    have hdr:first+r<d.size:=by omega
    have hwr:IntKind.i64.wrap ((first:Int)+(r:Int))=(first:Int)+(r:Int):=by rw [IntKind.wrap_i64];omega
    have hr0:(0:Int)≤(first:Int)+(r:Int):=by omega
    have hr1:(first:Int)+(r:Int)<(d.size:Nat):=by omega
    have hr3:((first:Int)+(r:Int)).toNat=first+r:=by omega
    have hk0:IntKind.i64.wrap ((first:Int)+(2*(r:Int)+1))=(first:Int)+(2*(r:Int)+1):=by rw [IntKind.wrap_i64];omega
    have hk1:(0:Int)≤(first:Int)+(2*(r:Int)+1):=by omega
    have hk2:(first:Int)+(2*(r:Int)+1)<(d.size:Nat):=by omega
    have hk3:((first:Int)+(2*(r:Int)+1)).toNat=first+(2*r+1):=by omega
    go_wp2
    go_quiet (first | (go_at_call 223;refine Calls.quiet_of_same (lessU _ _ _)))
    cases hl:ltInt (G (first+r)) (G (first+(2*r+1))) with
    | false =>
      have HE:Hid (siftDown ltInt hi first lo d=dj):=hidI (by rw [←HI.out];exact qdG hend (by rw [HC.out,←HG.out,←HG.out];exact hl));go_wp2
      ((try simp only [Exit.inBlock,Exit.then]);refine bodyPost_ret (results_none rfl _ _ _) rfl ?_)
      exact ⟨rfl,_,by rw [HE.out,HWq.out];exact putRow_drewN _ _ _ _ _ _ _⟩
    | true =>
      have HE:Hid (siftDown ltInt hi first (2*r+1) (swp dj (first+r) (first+(2*r+1)))=siftDown ltInt hi first lo d):=hidI (by rw [←HI.out,qgQ hend (by rw [HC.out,←HG.out,←HG.out];exact hl),HC.out]);go_wp2;go_region
      all_goals go_wp2
      go_roundw
      case rel =>
       refine ⟨2*r+1,mq+(nq+1),swp dj (first+r) (first+(2*r+1)),by congr 1,by omega,by rw [size_swp];exact hsj,?_,HE⟩;rw [HWq.out,HG.out,HG.out];exact swap_worldA _ w mq _ blk off dj (first+r) (first+(2*r+1)) (by omega) (by omega)
      case measure=>simp [intOf];omega
theorem rowU_holds {w:World} {blk off:Nat} {d dj:Array Int} (hH:HoldsU w blk off d) (n:Nat) (hs:dj.size=d.size):HoldsU (rowU w n blk off dj) blk off dj:=holds_putRow _ _ _ _ d dj (holds_ahead _ _ _ _ _ _ hH) hs
theorem qdw (w:World) (n m blk off:Nat) {d d':Array Int} (h:d'.size=d.size):rowU (rowU w n blk off d) m blk off d'=rowU w (n+m) blk off d':=putRow_ahead_putRow _ _ _ _ _ _ _ _ h
theorem qbg (hi first r:Nat) (d:Array Int):(siftDown ltInt hi first r d).size=d.size:=size_siftDown ltInt _ _ _ _ _ (Nat.le_refl _)
theorem heapU (blk off cap a b:Nat) (d:Array Int) (w:World) (hH:HoldsU w blk off d) (hab:a<b) (hb:b≤d.size) (hsz:d.size≤1000000) :
 Calls Tryz.prog 218 #[.slice (some ⟨blk,off,none⟩) d.size cap,.int .i64 (a:Nat),.int .i64 (b:Nat)] w fun e w'=>e=.returned (.tuple #[])∧∃ n,w'=rowU w n blk off (heapSort ltInt d a b):=by
 obtain ⟨hi,hhi⟩:∃ hi,hi=b - a:=⟨_,rfl⟩;have hi1:1≤hi:=by omega
 have hih:a+hi≤d.size:=by omega
 have h1:((b:Nat):Int) - (a:Nat)=(hi:Nat):=by omega
 obtain ⟨k0,hk0⟩:∃ k0,k0=(hi - 1)/2:=⟨_,rfl⟩;have h2:Int.tdiv ((hi:Int) - 1) 2=(k0:Nat):=by rw [Int.tdiv_eq_ediv_of_nonneg (by omega)];omega
 have hk0l:k0<hi:=by omega
 have Hend:Hid (heapSort ltInt d a b=heapPop ltInt a hi (heapBuild ltInt hi a (k0+1) d)):=hidI (by unfold heapSort;rw [←hhi,←hk0]);clear hhi hk0;go_enter Tryz.func218,Tryz.ntmps218
 go_wp2
 go_loopw [9] (fun vi wr=>∃ (k m:Nat) (dj:Array Int),vi=.int .i64 ((k:Nat) - 1:Int)∧k≤k0+1∧dj.size=d.size∧wr=rowU w m blk off dj∧Hid (heapBuild ltInt hi a k dj=heapBuild ltInt hi a (k0+1) d)) (fun vi _=>(intOf vi+1).toNat)
 case atStart=>exact ⟨k0+1,0,d,by congr 1;omega,Nat.le_refl _,rfl,(putRow_self _ _ _ _ _ hH).symm,hidI rfl⟩
 case round =>
  obtain ⟨k,m,dj,rfl,hk,hsj,hw2,HI⟩:=hrel;cases k with
  | succ k =>
    have hkv:(((k+1:Nat):Int) - 1)=(k:Nat):=by omega
    rw [hkv];have hge:(0:Int)≤(k:Nat):=by omega
    have A:=hidI (siftU blk off cap k hi a dj wr (by rw [hw2];exact rowU_holds hH m hsj) (by omega) (by omega) (by omega));rw [hsj] at A;have HW:=hidI hw2;clear hw2;go_wp2_with fail;refine A.out.mono ?_;rintro e w3 ⟨rfl,n,hw3⟩;have HW3:Hid (w3=rowU w (m+n) blk off (siftDown ltInt hi a k dj)):=hidI (by rw [hw3,HW.out];exact qdw w m n blk off (by rw [qbg]));clear hw3 A;go_wp2;go_roundw
    case rel=>exact ⟨k,m+n,siftDown ltInt hi a k dj,rfl,by omega,by rw [qbg];exact hsj,HW3.out,hidI (by rw [←HI.out];rfl)⟩
    case measure=>simp [intOf]
  | zero =>
    have hkv:(((0:Nat):Int) - 1) = -1:=rfl;rw [hkv];obtain ⟨w4,hw4⟩:∃ w4,w4=wr:=⟨_,rfl⟩;subst hw4;have HW4:=hidI hw2;clear hw2;go_wp2
    go_loopw [10] (fun vi wr=>∃ (k n:Nat) (dk:Array Int),vi=.int .i64 ((k:Nat) - 1:Int)∧k≤hi∧dk.size=d.size∧wr=rowU w n blk off dk∧Hid (heapPop ltInt a k dk=heapPop ltInt a hi (heapBuild ltInt hi a (k0+1) d))) (fun vi _=>(intOf vi+1).toNat)
    case atStart=>exact ⟨hi,m,dj,rfl,Nat.le_refl _,hsj,HW4.out,hidI (by rw [←HI.out];rfl)⟩
    case round =>
     obtain ⟨k,n,dk,rfl,hk,hsk,hw2,HI2⟩:=hrel;cases k with
     | succ k =>
       have hkv:(((k+1:Nat):Int) - 1)=(k:Nat):=by omega
       rw [hkv];have hge:(0:Int)≤(k:Nat):=by omega
       obtain ⟨G,hG⟩:∃ G:Nat→Int,∀ t,G t=dk[t]! := ⟨fun t=>dk[t]!,fun _=>rfl⟩;have hcw:∀ t,t<d.size→wr.cell? ⟨blk,off+t,none⟩=some (.int .u32 (G t)):=fun t ht=>by rw [hw2,hG];exact qaK hH hsk t ht
       have hfw:∀ t,t<d.size→wr.frozen? ⟨blk,off+t,none⟩=false:=fun t ht=>by rw [hw2];exact qat hH t ht
       have HW:=hidI hw2;have HG:=hidI hG;have hid:a<d.size:=by omega
       have hjd:a+k<d.size:=by omega
       clear hw2 hG;have A:=hidI (fun W hW=>siftU blk off cap 0 k a (swp dk a (a+k)) W hW (by rw [size_swp];omega) (by rw [size_swp];omega) (by rw [size_swp];omega));rw [size_swp,hsk] at A;by_cases hkz:k=0
       case pos =>
        subst hkz;have hca:=hcw a hid;go_wp2_with fail;go_region;obtain ⟨W5,hW5⟩:∃ W5,W5=((wr.setCell ⟨blk,off+a,none⟩ (.int .u32 (G a))).setCell ⟨blk,off+a,none⟩ (.int .u32 (G a))).drew:=⟨_,rfl⟩;rw [←hW5];have HW5:Hid (W5=rowU w (n+1) blk off (swp dk a (a+0))):=hidI (by rw [hW5,HW.out,HG.out];exact swap_worldA _ w n 1 blk off dk a a (by omega) (by omega));clear hW5 hca;have A5:Hid (Calls Tryz.prog 240 #[.slice (some ⟨blk,off,none⟩) d.size cap,.int .i64 0,.int .i64 0,.int .i64 (a:Nat)] W5 fun e w'=>e=.returned (.tuple #[])∧∃ n',w'=rowU W5 n' blk off (siftDown ltInt 0 a 0 (swp dk a (a+0)))):=hidI (A.out W5 (by rw [HW5.out];exact rowU_holds hH (n+1) (by rw [size_swp];exact hsk)));clear A hcw hfw;go_wp2_with fail;refine A5.out.mono ?_;rintro e w6 ⟨rfl,n6,hw6⟩
        have HW6:Hid (w6=rowU w (n+1+n6) blk off (siftDown ltInt 0 a 0 (swp dk a (a+0)))):=hidI (by rw [hw6,HW5.out];exact qdw w (n+1) n6 blk off (by rw [qbg]));clear hw6 A5;go_wp2;go_roundw
        case rel=>exact ⟨0,n+1+n6,siftDown ltInt 0 a 0 (swp dk a (a+0)),by first | rfl | go_num,by omega,by rw [qbg,size_swp];exact hsk,HW6.out,hidI (by rw [←HI2.out];rfl)⟩
        case measure=>simp [intOf]
       case neg =>
        have hne:off+(a+k)≠off+a:=by omega
        have hca:=hcw a hid;have hcb:=hcw (a+k) hjd;have hfa:=hfw a hid;have hfb:=hfw (a+k) hjd;go_wp2_with fail;go_region;obtain ⟨W5,hW5⟩:∃ W5,W5=((wr.setCell ⟨blk,off+a,none⟩ (.int .u32 (G (a+k)))).setCell ⟨blk,off+(a+k),none⟩ (.int .u32 (G a))).drew:=⟨_,rfl⟩;rw [←hW5];have HW5:Hid (W5=rowU w (n+1) blk off (swp dk a (a+k))):=hidI (by rw [hW5,HW.out,HG.out,HG.out];exact swap_worldA _ w n 1 blk off dk a (a+k) (by omega) (by omega));clear hW5 hca hcb hfa hfb;have A5:Hid (Calls Tryz.prog 240 #[.slice (some ⟨blk,off,none⟩) d.size cap,.int .i64 0,.int .i64 (k:Nat),.int .i64 (a:Nat)] W5 fun e w'=>e=.returned (.tuple #[])∧∃ n',w'=rowU W5 n' blk off (siftDown ltInt k a 0 (swp dk a (a+k)))):=hidI (A.out W5 (by rw [HW5.out];exact rowU_holds hH (n+1) (by rw [size_swp];exact hsk)));clear A hcw hfw;go_wp2_with fail;refine A5.out.mono ?_;rintro e w6 ⟨rfl,n6,hw6⟩
        have HW6:Hid (w6=rowU w (n+1+n6) blk off (siftDown ltInt k a 0 (swp dk a (a+k)))):=hidI (by rw [hw6,HW5.out];exact qdw w (n+1) n6 blk off (by rw [qbg]));clear hw6 A5;go_wp2;go_roundw
        case rel=>exact ⟨k,n+1+n6,siftDown ltInt k a 0 (swp dk a (a+k)),by first | rfl | go_num,by omega,by rw [qbg,size_swp];exact hsk,HW6.out,hidI (by rw [←HI2.out];rfl)⟩
        case measure=>simp [intOf]
     | zero =>
       have hkv:(((0:Nat):Int) - 1) = -1:=rfl;rw [hkv];have HWn:=hidI hw2;clear hw2;go_wp2;go_end0
       exact ⟨rfl,n,by rw [Hend.out,←HI2.out,HWn.out];rfl⟩
end Go.Proofs.YtodmdkhdbfbfgabGreatDoor.S1
