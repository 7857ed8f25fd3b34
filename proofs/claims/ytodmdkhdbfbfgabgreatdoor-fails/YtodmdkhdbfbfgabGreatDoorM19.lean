/- Lemmas. -/
import Derived.Laws.MakeOwn
import Derived.Test.YtodmdkhdbfbfgabGreatDoorM17
set_option linter.unusedVariables false
set_option linter.unusedSimpArgs false
set_option maxRecDepth 100000
set_option maxHeartbeats 8000000
namespace Go.Proofs.YtodmdkhdbfbfgabGreatDoor
open Go.RowKit Go.Nt
theorem qcu:∀ a b:Bs,Op.bytesLess a b=ltS a b
 | [],[]=>rfl
 | [],_ :: _=>rfl
 | _ :: _,[]=>rfl
 | x :: a,y :: b=>by
   unfold Op.bytesLess ltS;have ih:=qcu a b;by_cases h:x=y
   ·subst h;simp [ih]
   have h3:x.toNat≠y.toNat:=fun e=>h (UInt8.toNat_inj.1 e)
   simp [h,ih,UInt8.lt_iff_toNat_lt]
theorem qej:∀ a,ltS a a=false
 | []=>rfl
 | x :: a=>by simp [ltS,qej a]
theorem qfj:∀ a b,ltS a b=false→ltS b a=false→a=b
 | [],[],_,_=>rfl
 | [],_ :: _,h,_=>by simp [ltS] at h
 | _ :: _,[],_,h=>by simp [ltS] at h
 | x :: a,y :: b,h,h'=>by
   unfold ltS at h h';by_cases e:x=y
   ·subst e;simp at h h';rw [qfj a b h h']
   rw [if_neg e] at h;rw [if_neg (fun x=>e x.symm)] at h';simp at h h';exact absurd (UInt8.toNat_inj.1 (by omega)) e
theorem qm8 (a b:Bs) (w:World) :
 Calls Tryz.prog 134 #[.string (txt a),.string (txt b)] w fun e w'=>e=.returned (.int .i64 (cmpS a b))∧w'=w:=by
 obtain ⟨A,hA⟩:∃ o,o=txt a:=⟨_,rfl⟩;obtain ⟨B,hB⟩:∃ o,o=txt b:=⟨_,rfl⟩;rw [←hA,←hB];have HA:=hidI hA;have HB:=hidI hB;clear hA hB;go_enter Tryz.func134,Tryz.ntmps134
 by_cases h1:Op.bytesLess A.toList B.toList=true
 ·have HR:Hid (cmpS a b = -1):=by
   show cmpS a b = -1;rw [HA.out,HB.out,qaf,qaf,qcu] at h1;simp [cmpS,h1]
  go_wp2;go_ret
  exact ⟨qaw HR.out.symm,rfl⟩
 have h1':Op.bytesLess A.toList B.toList=false:=by simpa using h1
 by_cases h2:(A.toList==B.toList)=true
 ·have HR:Hid (cmpS a b=0):=by
   show cmpS a b=0;rw [HA.out,HB.out,qdj] at h2
   have:a=b:=by simpa using h2
   subst this;simp [cmpS,qej]
  go_wp2;go_ret
  exact ⟨qaw HR.out.symm,rfl⟩
 have h2':(A.toList==B.toList)=false:=by simpa using h2
 have HR:Hid (cmpS a b=1):=by
  show cmpS a b=1;rw [HA.out,HB.out,qdj] at h2;rw [HA.out,HB.out,qaf,qaf,qcu] at h1';have hne:a≠b:=by simpa using h2
  have:ltS b a=true:=by
   cases h:ltS b a with
   | true=>rfl
   | false=>exact absurd (qfj a b h1' h) hne
  simp [cmpS,h1',this]
 go_wp2;go_ret
 exact ⟨qaw HR.out.symm,rfl⟩
theorem qjZ {n m:List Bs} {k:Nat} {x y:Bs} (hx:n[k]? = some x) (hy:m[k]? = some y) (h:cmpS x y=0):cmpN (n.drop k) (m.drop k)=cmpN (n.drop (k+1)) (m.drop (k+1)):=by
 obtain ⟨h1,rfl⟩:=List.getElem?_eq_some_iff.1 hx;obtain ⟨h2,rfl⟩:=List.getElem?_eq_some_iff.1 hy;rw [List.drop_eq_getElem_cons h1,List.drop_eq_getElem_cons h2];simp [cmpN,h]
theorem qib {n m:List Bs} {k:Nat} {x y:Bs} (hx:n[k]? = some x) (hy:m[k]? = some y) (h:cmpS x y≠0):cmpN (n.drop k) (m.drop k)=cmpS x y:=by
 obtain ⟨h1,rfl⟩:=List.getElem?_eq_some_iff.1 hx;obtain ⟨h2,rfl⟩:=List.getElem?_eq_some_iff.1 hy;rw [List.drop_eq_getElem_cons h1,List.drop_eq_getElem_cons h2];simp [cmpN,h]
theorem qjG {n m:List Bs} {k:Nat} (h1:k<n.length) (h2:m.length≤k):cmpN (n.drop k) (m.drop k)=1:=by
 rw [List.drop_eq_getElem_cons h1,List.drop_eq_nil_of_le h2];rfl
theorem qm4 {n m:List Bs} {k:Nat} (h1:n.length≤k) (h2:k≤m.length):cmpN (n.drop k) (m.drop k)=if k<m.length then -1 else 0:=by
 rw [List.drop_eq_nil_of_le h1];by_cases h:k<m.length
 ·rw [List.drop_eq_getElem_cons h,if_pos h];rfl
 rw [List.drop_eq_nil_of_le (by omega),if_neg h];rfl
theorem qmP (a b:Nat) (N M c d:Nat) (n m:List Bs) (w:World) (hN:n.length=N) (hM:m.length=M) (hN9:N≤1048577) (hM9:M≤1048577) (ha:∀ k x,n[k]? = some x→w.cell? ⟨a,k,none⟩=some (.string (txt x))) (hb:∀ k x,m[k]? = some x→w.cell? ⟨b,k,none⟩=some (.string (txt x))) :
 Calls Tryz.prog 101 #[.slice (some ⟨a,0,none⟩) N c,.slice (some ⟨b,0,none⟩) M d] w fun e w'=>e=.returned (.int .i64 (cmpN n m))∧w'=w:=by
 have Ha:=hidI ha;have Hb:=hidI hb;have HN:=hidI hN;have HM:=hidI hM;clear ha hb hN hM;go_enter Tryz.func101,Tryz.ntmps101
 go_wp2
 go_loopw [11] (fun i wr=>∃ k:Nat,k≤N∧k≤M∧i=.int .i64 k∧wr=w∧Hid (cmpN n m=cmpN (n.drop k) (m.drop k))) (fun i _=>N - (intOf i).toNat)
 case atStart=>exact ⟨0,Nat.zero_le _,Nat.zero_le _,rfl,rfl,hidI rfl⟩
 case round =>
  obtain ⟨k,hk,hk2,rfl,rfl,Hc⟩:=hrel;by_cases h1:k<N
  ·obtain ⟨x,hx⟩:∃ x,n[k]? = some x:=⟨_,List.getElem?_eq_getElem (by have:=HN.out;omega)⟩;have hcx:=Ha.out k x hx;have Hx:=hidI hx;by_cases h2:k<M
   ·obtain ⟨y,hy⟩:∃ y,m[k]? = some y:=⟨_,List.getElem?_eq_getElem (by have:=HM.out;omega)⟩;have hcy:=Hb.out k y hy;have Hy:=hidI hy;have HS:=hidI (qm8 x y wr);obtain ⟨X,hX⟩:∃ o,o=txt x:=⟨_,rfl⟩;obtain ⟨Y,hY⟩:∃ o,o=txt y:=⟨_,rfl⟩;obtain ⟨z,hz⟩:∃ o,o=cmpS x y:=⟨_,rfl⟩;rw [←hX,←hY,←hz] at HS;rw [←hX] at hcx;rw [←hY] at hcy;have Hz:=hidI hz;clear hx hy hX hY hz;by_cases h0:z=0
    ·have Hn:Hid (cmpN n m=cmpN (n.drop (k+1)) (m.drop (k+1))):=Hc.out.trans (qjZ Hx.out Hy.out (Hz.out.symm.trans h0));subst h0;go_wp2_with (go_at_call 134;refine HS.out.mono ?_;rintro e w' ⟨rfl,hw⟩;have hw':=hw.symm;subst hw');go_roundw
     case rel=>exact ⟨k+1,by omega,by omega,by go_num,trivial,Hn⟩
     case measure=>simp [intOf];omega
    have Hn:Hid (cmpN n m=z):=Hc.out.trans ((qib Hx.out Hy.out (fun e=>h0 (Hz.out.trans e))).trans Hz.out.symm);have h0':(z != 0)=true:=bne_iff_ne.2 h0;go_wp2_with (go_at_call 134;refine HS.out.mono ?_;rintro e w' ⟨rfl,hw⟩;have hw':=hw.symm;subst hw');go_ret
    exact ⟨qaw Hn.out.symm,rfl⟩
   have Hn:Hid (cmpN n m=1):=Hc.out.trans (qjG (by have:=HN.out;omega) (by have:=HM.out;omega));clear hx;go_wp2;go_ret
   exact ⟨qaw Hn.out.symm,rfl⟩
  have Hn:Hid (cmpN n m=if k<M then -1 else 0):=Hc.out.trans (by have h3:=HN.out;have h4:=HM.out;rw [qm4 (by omega) (by omega),h4]);by_cases h2:N<M
  ·have Hn2:Hid (cmpN n m = -1):=by have:=Hn.out;rw [if_pos (by omega)] at this;exact this
   go_wp2;go_ret
   exact ⟨qaw Hn2.out.symm,rfl⟩
  have Hn2:Hid (cmpN n m=0):=by have:=Hn.out;rw [if_neg (by omega)] at this;exact this
  go_wp2;go_ret
  exact ⟨qaw Hn2.out.symm,rfl⟩
theorem qds (p:Bs):(split p).length=p.count 47+1:=by
 induction p with
 | nil=>rfl
 | cons c l ih =>
   by_cases hc:c=47
   ·subst hc;rw [qal];simp [ih]
   obtain ⟨n,ns,e⟩:=qaz l;rw [qam hc e,List.count_cons_of_ne (by simpa using hc),←ih,e];rfl
theorem qkY (p:Bs):Lib.countB (txt p) (txt [47])+1=(split p).length∧Lib.splitB (txt [47]) 0 (Lib.countB (txt p) (txt [47])) (txt p)=(split p).map txt:=by
 have hc:Lib.countB (txt p) (txt [47])=p.count 47:=by
  show Lib.count p [47]=_;rw [Lib.count_one]
 rw [hc];have hd:(Lib.splitB (txt [47]) 0 (p.count 47) (txt p)).map (·.data.toList)=Lib.splitK [47] 0 (p.count 47) p:=Lib.splitB_data (txt [47]) 0 (p.count 47) (txt p);refine ⟨(qds p).symm,?_⟩;rw [(pieces (p.count 47) p).1 (by rw [qds];omega)] at hd;rw [←hd,List.map_map]
 have:(txt ∘ fun x:ByteArray=>x.data.toList)=id:=by funext x;exact (qnf x).symm
 rw [this,List.map_id]
def txrow (p:Bs):Obj:=.cells (((split p).map txt).map Value.string).toArray 9
theorem qb4 (p:Bs) (w:World) (hm:ML w) (hp:p.length≤1048576) :
 Calls Tryz.prog 102 #[.string (txt p),.string ⟨#[47]⟩] w fun e w'=>e=.returned (.slice (some ⟨w.heap.size,0,none⟩) (split p).length (split p).length)∧w'=w.alloc (txrow p):=by
 obtain ⟨m,hm'⟩:=hm;have h:=Tryz.strings_Split (txt p) (txt [47]) m w (by rw [qaa];omega) hm' (by rw [qaa];simp);obtain ⟨h1,h2⟩:=qkY p;rw [h1,h2] at h;exact h
theorem qew (p:Bs) (w:World):∀ k x,(split p)[k]? = some x→(w.alloc (txrow p)).cell? ⟨w.heap.size,k,none⟩=some (.string (txt x)):=by
 intro k x hx;unfold txrow;rw [cell_of_row _ w.heap.size k _ 9 (0,0) (heap_alloc_new _ _)];simp [hx]
theorem qgu (a b:Bs) (w:World) (hm:ML w) (ha:a.length≤1048576) (hb:b.length≤1048576) :
 Calls Tryz.prog 70 #[.string (txt a),.string (txt b)] w fun e w'=>e=.returned (.int .i64 (cmpN (split a) (split b)))∧w'=(w.alloc (txrow a)).alloc (txrow b):=by
 have hla:=qcM a;have hlb:=qcM b;have h1:=qb4 a w hm ha;have hm2:ML (w.alloc (txrow a)):=hm.below ((Below.refl _ w).alloc (Nat.le_refl _) _) hm.lt;have h2:=qb4 b (w.alloc (txrow a)) hm2 hb;have h3:=qmP w.heap.size (w.heap.size+1) (split a).length (split b).length (split a).length (split b).length (split a) (split b) ((w.alloc (txrow a)).alloc (txrow b)) rfl rfl (by omega) (by omega)
  (fun k x hx=>by rw [World.cell?_alloc_old _ _ _ (by simp)];exact qew a w k x hx)
  (fun k x hx=>by have:=qew b (w.alloc (txrow a)) k x hx;simp only [World.size_alloc] at this;exact this)
 rw [World.size_alloc] at h2;have H1:=hidI h1;have H2:=hidI h2;have H3:=hidI h3;clear h1 h2 h3 hm2 hm;obtain ⟨A,hA⟩:∃ o,o=txt a:=⟨_,rfl⟩;obtain ⟨B,hB⟩:∃ o,o=txt b:=⟨_,rfl⟩;obtain ⟨N,hN⟩:∃ o,o=(split a).length:=⟨_,rfl⟩;obtain ⟨M,hM⟩:∃ o,o=(split b).length:=⟨_,rfl⟩;obtain ⟨z,hz⟩:∃ o,o=cmpN (split a) (split b):=⟨_,rfl⟩;rw [←hA,←hN] at H1;rw [←hB,←hM] at H2;rw [←hN,←hM,←hz] at H3;rw [←hA,←hB,←hz];clear hA hB hN hM hz hla hlb ha hb
 generalize txrow a=Ra at *
 generalize txrow b=Rb at *
 go_enter Tryz.func70,Tryz.ntmps70
 go_wp2_with fail;refine H1.out.mono ?_;rintro e w' ⟨rfl,hw⟩;subst hw;go_wp2_with fail;refine H2.out.mono ?_;rintro e w' ⟨rfl,hw⟩;subst hw;go_wp2_with fail;refine H3.out.mono ?_;rintro e w' ⟨rfl,hw⟩;subst hw;go_wp2;go_ret
 exact ⟨rfl,rfl⟩
end Go.Proofs.YtodmdkhdbfbfgabGreatDoor
namespace Go.Proofs.YtodmdkhdbfbfgabGreatDoor
open Go.RowKit Go.Nt Go.Sort Go.Lib Go.Shelf
abbrev Sh:={ s:Bs // s.length≤1048576 }
instance:Inhabited Sh:=⟨⟨[],by simp⟩⟩
def encSh:Sh→Value:=fun s=>encStr s.1
def cfSh (a b:Sh):Int:=cmpN (split a.1) (split b.1)
theorem qkp (a b:Sh):ltOf cfSh a b=less a.1 b.1:=qdL a.1 b.1
theorem qoo:SWO (ltOf cfSh) where
 irrefl x:=by rw [qkp,qbU]
 trans x y z h1 h2:=by rw [qkp] at *;exact qa0 _ _ _ h1 h2
 ntrans x y z h1 h2:=by
  rw [qkp] at *;cases h:less x.1 z.1 with
  | false=>rfl
  | true =>
    cases h3:less y.1 x.1 with
    | true=>have:=qa0 _ _ _ h3 h;rw [h2] at this;cases this
    | false=>have e:=qaS _ _ h1 h3;rw [e,h2] at h;cases h
theorem qop (x y:Sh) (h1:ltOf cfSh x y=false) (h2:ltOf cfSh y x=false):x=y:=by
 rw [qkp] at *;exact Subtype.ext (qaS _ _ h1 h2)
theorem qga (w:World) (b o:Nat) (d:Array Sh):putRow encSh w b o d=putRow encStr w b o (d.map (·.1)):=by
 unfold putRow
 congr 1
 funext c
 unfold putCells
 apply Array.ext
 ·simp
 intro i h1 h2;simp only [Array.getElem_mapIdx,Array.size_map]
 split
 ·rename_i h;have hi:i - o<d.size:=by omega
  rw [getElem!_pos d _ hi,getElem!_pos (d.map (·.1)) _ (by simpa using hi)];simp [encSh]
 rfl
def sortP (ss:List Bs):List Bs:=ss.mergeSort fun x y => !less y x
theorem qnC (ds:List Sh):(ds.mergeSort fun x y => !(ltOf cfSh) y x).map (·.1)=sortP (ds.map (·.1)):=by
 unfold sortP;have h:=List.map_mergeSort (f:=fun s:Sh=>s.1) (r:=fun x y => !(ltOf cfSh) y x) (s:=fun x y => !less y x) (l:=ds) (fun a _ b _=>by rw [qkp]);exact h
theorem qjE {w:World} (h:ML w) (hd:∀ c e fr,w.heap[0]? ≠ some (.cells c e fr)∨True) {g n:Nat} {d:Array Bs} {os:Array Obj} (hg:g≠0):ML (grow (putRow encStr (Sort.ahead w n) g 0 d) os):=by
 obtain ⟨m,hm⟩:=h;have h0:0<w.heap.size:=World.block_lt_of_cell? w _ hm;refine ⟨m,?_⟩;rw [←hm];refine World.cell?_of_block ?_;exact (grownBy_sorted (w:=w) (g:=g) (n:=n) (os:=os) d).block 0 h0 (fun e=>hg (by cases e;rfl))
theorem qlF (w:World) (hm:ML w) (g:Nat) (hg:g≠0) (N:Nat):CmpLays1 Tryz.prog 70 #[] encSh cfSh g 0 N w:=by
 intro m os dk hs x y;have hml:ML (sortWorld encSh w g 0 m dk os):=by
  unfold sortWorld;rw [qga];exact qjE hm (fun _ _ _=>.inr trivial) hg
 refine (qgu x.1 y.1 _ hml x.2 y.2).mono ?_;rintro e w' ⟨rfl,rfl⟩;refine ⟨rfl,0,#[txrow x.1,txrow y.1],?_⟩;rw [alloc_eq_grow,alloc_eq_grow,grow_grow];rfl
theorem qmw:∀ args w,(callFunc 70 args).run Tryz.prog w=.ok (.enter 70 args) w:=enters_of Tryz.func70 (by kernel_rfl) rfl
theorem qmN:∀ args w,(callFunc 100 args).run Tryz.prog w=.ok (.enter 100 args) w:=enters_of Tryz.func100 (by kernel_rfl) rfl
theorem qmZ (mb:Option Nat) (w:World):Calls Tryz.prog 69 #[.map mb] w fun e w'=>e=.returned (.func (.func 100) #[] #[.pointer (some ⟨w.heap.size,0,none⟩)])∧w'=w.alloc (.cells #[.map mb] 64):=
 (callsIn_wide (n:=6)).1 (AnyZ.keys_in Tryz.keys21 Fence.wide 6 trivial rfl mb w)
theorem qg1 (b Bm:Nat) (l:List It) (w:World) (hT:TreeAt w b l) (hn:(l.map (·.path)).Nodup) (hl:l.length≤1000) (hBm:Bm<w.heap.size) (hm:w.cell? ⟨Bm,0,none⟩=some (.map (some b))) :
 Calls Tryz.prog 98 #[.func (.func 100) #[] #[.pointer (some ⟨Bm,0,none⟩)]] w fun e w'=>∃ (v:Value) (ss:List Bs),e=.returned v∧ss.Perm (l.map (·.path))∧w'.ownsRow w.heap.size 9 1 v ss.length (ss.map encStr)∧Below w.heap.size w w':=by
 obtain ⟨D,ho,hh⟩:=hT;have hsz:=qce ho hh hn;have hk:=keys_perm ho hh hn;refine ((callsIn_wide (n:=6)).1 (AnyZ.collect_in Tryz.collect26 Fence.wide 6 trivial trivial rfl (by omega) 100 #[.pointer (some ⟨Bm,0,none⟩)] trivial qmN (fun ss=>ss.Perm (strKeys D)) (Maps.size D) (by rw [hsz];unfold maxLen;omega) (by rw [hsz];omega) w
  (AnyZ.keys_gives Tryz.iter28 Fence.wide 4 trivial rfl (by omega) Bm b (Maps.size D) D w hBm hm ho))).mono ?_
 rintro e w' ⟨v,ss,rfl,hS,hrow,_,hb⟩;exact ⟨v,ss,rfl,hS.trans hk.symm,hrow,hb⟩
def shs (ss:List Bs) (h:∀ s∈ss,s.length≤1048576):List Sh:=ss.pmap Subtype.mk h
theorem qnL (ss:List Bs) (h:∀ s∈ss,s.length≤1048576):(shs ss h).map (·.1)=ss:=by simp [shs,List.map_pmap]
theorem qcB (ss:List Bs) (h:∀ s∈ss,s.length≤1048576):(shs ss h).length=ss.length:=by simp [shs]
theorem qmM {w:World} {g:Nat} {ss:List Bs} (h:∀ s∈ss,s.length≤1048576) (hH:Holds encStr w g 0 ss.toArray):Holds encSh w g 0 (shs ss h).toArray:=by
 intro j hj;have hj':j<ss.length:=by simpa [qcB] using hj
 have:=hH j (by simpa using hj')
 refine ⟨this.1.trans ?_,this.2⟩;rw [getElem!_pos ss.toArray j (by simpa using hj'),getElem!_pos (shs ss h).toArray j (by simpa [qcB] using hj')];simp [encSh,shs]
theorem qlS (g cap:Nat) (ss:List Bs) (w:World) (hml:ML w) (hg:g≠0) (hlt:g<w.heap.size) (h:∀ s∈ss,s.length≤1048576) (hl:ss.length≤1000) (hH:Holds encStr w g 0 ss.toArray) :
 Calls Tryz.prog 99 #[.slice (some ⟨g,0,none⟩) ss.length cap,.func (.func 70) #[] #[]] w fun e w'=>e=.returned (.tuple #[])∧∃ n os,w'=grow (putRow encStr (Sort.ahead w n) g 0 (sortP ss).toArray) os:=by
 have hd:(shs ss h).toArray.size=ss.length:=by simp [qcB]
 have:=Any.slices_SortFunc_total Tryz.sort27 encSh (fun _=>rfl) cfSh qoo 70 #[] g 0 cap (shs ss h).toArray w qmw (qlF w hml g hg _) (qmM h hH) hlt (by rw [hd];omega) qop
 rw [hd] at this;refine this.mono ?_;rintro e w' ⟨rfl,n,os,rfl⟩;refine ⟨rfl,n,os,?_⟩;unfold sortWorld;rw [qga]
 congr 2
 rw [List.map_toArray,qnC,qnL]
theorem qjw (p:Option Addr) (cap:Nat) (fv:Value) (w:World):Calls Tryz.prog 99 #[.slice p 0 cap,fv] w fun e w'=>e=.returned (.tuple #[])∧w'=w:=
 AnyF.slices_SortFunc_none (P:=Tryz.prog) (ρ:=Tryz.sort27_ren) { Tryz.sort27 with } p cap fv w
theorem qii (b Bm:Nat) (l:List It) (w:World) (hT:TreeAt w b l) (hn:(l.map (·.path)).Nodup) (hl:l.length≤1000) (hml:ML w) (hp:∀ x∈l,x.path.length≤1048576) (hBm:Bm<w.heap.size) (hm:w.cell? ⟨Bm,0,none⟩=some (.map (some b))) :
 Calls Tryz.prog 68 #[.func (.func 100) #[] #[.pointer (some ⟨Bm,0,none⟩)],.func (.func 70) #[] #[]] w fun e w'=>∃ (v:Value),e=.returned v∧w'.ownsRow w.heap.size 9 1 v l.length ((sortP (l.map (·.path))).map encStr)∧Below w.heap.size w w':=by
 have HC:=hidI (qg1 b Bm l w hT hn hl hBm hm);have h0:=hml.lt;have Hml:=hidI hml;have Hp:=hidI hp;clear hT hml hm hp;go_enter Tryz.func68,Tryz.ntmps68
 go_wp2_with fail;refine HC.out.mono ?_;rintro e W ⟨v,ss,rfl,hS,hrow,hb⟩;have hlen:ss.length=l.length:=by simpa using hS.length_eq
 have hsort:sortP ss=sortP (l.map (·.path)):=by
  unfold sortP;refine List.Perm.eq_of_pairwise (le:=fun a b:Bs=>(!less b a)=true) (fun a b _ _ h1 h2 => ?_) (List.pairwise_mergeSort ?_ ?_ ss) (List.pairwise_mergeSort ?_ ?_ _) (((List.mergeSort_perm ss _).trans hS).trans (List.mergeSort_perm _ _).symm)
  ·simp at h1 h2;exact qaS a b h2 h1
  all_goals first
   | (intro a b c h1 h2
      simp at h1 h2 ⊢;cases h:less c a with
      | false=>rfl
      | true =>
        cases h3:less c b with
        | true=>rw [h2] at h3;cases h3
        | false=>have:=qaS b c (by
                    cases h4:less b c with
                    | false=>rfl
                    | true=>have:=qa0 _ _ _ h4 h;rw [h1] at this;cases this) h3
                 subst this;rw [h1] at h;cases h)
   | (intro a b
      simp;cases h:less b a with
      | false=>exact .inl rfl
      | true=>exact .inr (qd9 h))
 have hss:∀ s∈ss,s.length≤1048576:=fun s hs=>by
  obtain ⟨x,hx,rfl⟩:=List.mem_map.1 (hS.mem_iff.1 hs);exact Hp.out x hx
 have hmlW:=Hml.out.below hb h0;have HS:=hidI hsort;clear hsort;rcases hrow.2 with ⟨rfl,hz⟩ | ⟨gb,cap,cur,rfl,hbase,hgb,r1,r2,r3,r4⟩
 ·have HN:=hidI (qjw none 0 (.func (.func 70) #[] #[]) W);have hss0:ss=[]:=List.eq_nil_of_length_eq_zero hz;have HF:Hid (W.ownsRow w.heap.size 9 1 (.slice none 0 0) l.length ((sortP (l.map (·.path))).map encStr)):=by
   have h:=hrow;rw [hlen] at h;show W.ownsRow w.heap.size 9 1 (.slice none 0 0) l.length ((sortP (l.map (·.path))).map encStr);rw [←HS.out,hss0];have e0:sortP []=[]:=by simp [sortP]
   rw [e0];rw [hss0] at h;exact h
  clear hrow hlen hz hss0;go_wp2_with fail;refine HN.out.mono ?_;rintro e w' ⟨rfl,hw⟩;have hw':=hw.symm;subst hw';go_wp2;go_ret
  exact ⟨_,rfl,HF.out,hb⟩
 have hH:Holds encStr W gb 0 ss.toArray:=holds_of_block hgb (by simpa using r4);have hgl:gb<W.heap.size:=(Array.getElem?_eq_some_iff.1 hgb).1;have HN:=hidI (qlS gb cap ss W hmlW (by omega) hgl hss (by omega) hH);have HF:Hid (∀ n os,(grow (putRow encStr (Sort.ahead W n) gb 0 (sortP ss).toArray) os).ownsRow w.heap.size 9 1 (.slice (some ⟨gb,0,none⟩) ss.length cap) l.length ((sortP (l.map (·.path))).map encStr)):=fun n os=>by
  rw [←hlen,←HS.out];exact ownsRow_sorted (by simp [sortP]) hbase hgb r1 r2 r3
 clear hrow hH hmlW hss hlen r3 r4 hgb;go_wp2_with fail;refine HN.out.mono ?_;rintro e w' ⟨rfl,n,os,hw⟩;have HB:Hid (Below w.heap.size w w'):=by rw [hw];exact hb.grown (grownBy_sorted _) hb.size (fun j hj=>by cases hj;exact hbase)
 have HF':=HF.out n os;rw [←hw] at HF';clear hw HF HN;go_wp2;go_ret
 exact ⟨_,rfl,HF',HB.out⟩
theorem qhb (l:List It):(qac l).map (·.path)=sortP (l.map (·.path)):=by
 unfold qac sortP;exact List.map_mergeSort (f:=fun x:It=>x.path) (r:=fun x y:It => !less y.path x.path) (s:=fun x y => !less y x) (l:=l) (fun a _ b _=>rfl)
theorem qak (l:List It):(qac l).length=l.length:=by simp [qac]
theorem order_mem {l:List It} {x:It}:x∈qac l↔x∈l:=by simp [qac]
theorem qdm {w:World} {ops:Array Oper} {rest:List Oper} {o:Oper} {a:Act} {Q:Exit→Act→World→Prop} (hg:o.guard=none) (m:Operand) (hop:o.op=Op.call { callee:=Callee.builtin Builtin.len,args:=#[m],argTypes:=#[64] })
 (b:Nat) (l:List It) (hm:a.eval m=.map (some b)) (hT:TreeAt w b l) (hn:(l.map (·.path)).Nodup)
 (hK:wpList Tryz.prog ops Q rest (a.put o.dst (.int .i64 l.length)) w) :
 wpList Tryz.prog ops Q (o :: rest) a w:=by
 refine wpList_plain hg fun K' hK' => ?_
 unfold Oper.wp;simp [execOp,hop,resolve,invoke,builtin,hm,hT.len hn o.type,Result.andThen];exact hK' _ _ hK
theorem qmA {w:World} {B gk cap n:Nat} {ps:List Bs} (h:w.ownsRow B 9 1 (.slice (some ⟨gk,0,none⟩) n cap) n (ps.map encStr)) {k:Nat} {p:Bs} (hk:ps[k]? = some p):w.cell? ⟨gk,k,none⟩=some (.string (txt p)):=by
 rcases h.2 with ⟨e,_⟩ | ⟨g,cap',cur,e,_,hb,h1,h2,h3,h4⟩
 ·cases e
 cases e
 rw [cell_of_row w gk k cur 9 (0,0) hb];have hlt:k<ps.length:=(List.getElem?_eq_some_iff.1 hk).1;have hl:=h.1;simp at hl;have h5:=congrArg (fun z:List Value=>z[k]?) h4;simp only [Nat.mul_one] at h5;rw [List.getElem?_take_of_lt (by omega),List.getElem?_map,hk] at h5;have h6:cur[k]? = some (encStr p):=by simpa using h5
 exact h6
theorem qff (b:Nat) (l:List It) (w:World) (hT:TreeAt w b l) (hn:(l.map (·.path)).Nodup) (hl:l.length≤1000) (hml:ML w) (hp:∀ x∈l,x.path.length≤1048576) :
 Calls Tryz.prog 44 #[.map (some b)] w fun e w'=>Below w.heap.size w w'∧∃ v,e=.returned v∧w'.ownsRow w.heap.size 53 5 v l.length (its (qac l)):=by
 obtain ⟨i0,hi,hz0,hz1,hz2⟩:=info_parts Tryz.info24;obtain ⟨w1,hmk,hown1,hg1⟩:=run_make_own (P:=Tryz.prog) w w.heap.size 42 53 i0 _ 5 Tryz.underlying42 hi hz0 hz1 .i64 .i64 l.length (by rw [hz2];omega) (by unfold maxLen;omega) (Nat.le_refl _);have hb1:Below w.heap.size w w1:=(Below.refl _ w).grown hg1 (Nat.le_refl _) (fun q hq=>by cases hq);have hblt:=hT.lt;have hs1:w.heap.size<w1.heap.size:=by
  rcases hown1.2 with ⟨e,_⟩ | ⟨g,cap,cur,e,_,hh,_⟩
  ·cases e
  cases e;exact lt_of_heap hh
 have hT1:TreeAt (w1.alloc (.cells #[.map (some b)] 64)) b l:=(hT.below hb1 hblt).of_block (Below.heap_alloc w1 _ b (by omega));have hml1:ML (w1.alloc (.cells #[.map (some b)] 64)):=(hml.below hb1 hml.lt).below ((Below.refl _ w1).alloc (Nat.le_refl _) _) (by omega);have HK:=hidI (qmZ (some b) w1);have HS:=hidI (qii b w1.heap.size l _ hT1 hn hl hml1 hp (by simp) (by simp));have HT:=hidI hT;have Hn:=hidI hn;have Hp:=hidI hp;have Hg1:=hidI hg1;clear hT hn hml hp hT1 hml1 hg1;go_enter Tryz.func44,Tryz.ntmps44
 go_wp2_with (first | (at_len;refine qdm rfl _ rfl b l rfl HT.out Hn.out ?_) | (go_at_call 69;refine HK.out.mono ?_;rintro e w' ⟨rfl,rfl⟩) | fail);refine HS.out.mono ?_;rintro e W ⟨v,rfl,hrow,hbW⟩;have hszW:=hbW.size;rw [World.size_alloc] at hszW hbW;have HbW:Hid (Below w.heap.size w W):=(hb1.alloc (by omega) _).trans (hbW.mono (by omega));have Hown1:Hid (W.ownsRow w.heap.size 53 5 (.slice (some ⟨w.heap.size,0,none⟩) 0 l.length) 0 []):=own_below (hown1.alloc _) hbW (fun q hq=>(by simpa [Value.ownBlock] using hq:w.heap.size=q) ▸ (by omega));have Hrow:=hidI hrow;clear hrow hmk HK HS hbW hown1 Hg1 hb1;obtain ⟨ak,ck,rfl,Hak⟩:∃ ak ck,v=.slice ak l.length ck∧Hid (l≠[]→∃ gk,ak=some ⟨gk,0,none⟩∧w1.heap.size<gk∧gk<W.heap.size∧∀ k x,(qac l)[k]? = some x→W.cell? ⟨gk,k,none⟩=some (.string (txt x.path))):=by
  rcases Hrow.out.2 with ⟨rfl,h0⟩ | ⟨gk,cap,cur,rfl,hbase,hh,h1,h2,h3,h4⟩
  ·refine ⟨none,0,by rw [h0],hidI (fun hne=>absurd (List.eq_nil_of_length_eq_zero h0) hne)⟩
  refine ⟨some ⟨gk,0,none⟩,cap,rfl,hidI (fun _=>⟨gk,rfl,by simp at hbase;omega,lt_of_heap hh,fun k x hx => ?_⟩)⟩;refine qmA Hrow.out ?_;rw [←qhb,List.getElem?_map,hx];rfl
 clear Hrow;go_wp2
 go_loopw [3,14] (fun v i wr=>∃ (k:Nat) (a':Option Addr) (c':Nat),v=.slice a' k c'∧k≤l.length∧i=.int .i64 k∧Hid (wr.ownsRow w.heap.size 53 5 v k (its ((qac l).take k)))∧Hid (Below w.heap.size w wr)∧Hid (∀ j,w1.heap.size<j→j<W.heap.size→wr.heap[j]? = W.heap[j]?)∧Hid (v.ownBlock=some w.heap.size∨∃ q,v.ownBlock=some q∧W.heap.size≤q)∧W.heap.size≤wr.heap.size) (fun _ i _=>l.length - (intOf i).toNat)
 case atStart=>exact ⟨0,_,_,rfl,Nat.zero_le _,rfl,Hown1,HbW,hidI (fun _ _ _=>rfl),hidI (.inl rfl),Nat.le_refl _⟩
 case round =>
  obtain ⟨k,a',c',rfl,hk,rfl,Hown,Hb,Hkeep,Hblk,hszr⟩:=hrel;by_cases hlt:k<l.length
  ·obtain ⟨x,hx⟩:∃ x,(qac l)[k]? = some x:=⟨_,List.getElem?_eq_getElem (by rw [qak];exact hlt)⟩;have hxl:x∈l:=order_mem.1 (List.mem_of_getElem? hx);obtain ⟨gk,rfl,hgk1,hgk2,hcells⟩:=Hak.out (fun h=>by rw [h] at hlt;simp at hlt);have hcell:wr.cell? ⟨gk,k,none⟩=some (.string (txt x.path)):=(World.cell?_of_block (Hkeep.out gk hgk1 hgk2)).trans (hcells k x hx);have hT':=HT.out.below Hb.out hblt;have hlook:=(hT'.look_some (p:=x.path) (by have:=Hp.out x hxl;unfold maxLen;omega) (at_mem Hn.out hxl)).2;have Hx:=hidI hx;have hszb:=Hb.out.size;unfold ndv nd at hlook;simp only at hlook;obtain ⟨X,hX⟩:∃ X,X=txt x.path:=⟨_,rfl⟩;obtain ⟨D,hD⟩:∃ X,X=txt x.data:=⟨_,rfl⟩;obtain ⟨xd,hxd⟩:∃ X,X=x.dir:=⟨_,rfl⟩;rw [←hX] at hcell hlook;rw [←hD,←hxd] at hlook;have HX:=hidI hX;have HD:=hidI hD;have Hxd:=hidI hxd;clear hx hX hD hxd hT' hcells hxl
   go_wp2_with (at_builtin;refine wpList_append_own_at _ rfl _ _ 42 rfl w.heap.size 53 i0 _ 5 56 Tryz.underlying42 hi hz0 hz1 hz2 rfl (by decide) _ _ _ rfl ((Hown.out.alloc _).alloc _) ⟨wr.heap.size+1,0,none⟩ 1 1 (itl x) rfl ?e1 ?e2 ?e3 ?e4 ?e5 ?e6 ?_)
   case e1=>rfl
   case e2 =>
    intro j u hu;rw [addr_add];have h:=(qbJ (wr.alloc (.cells #[.bool xd,.string D,.int .i64 x.mode,.int .i64 x.time] 94)) x).cell hu;unfold boxed at h;rw [←HX.out,←HD.out,←Hxd.out] at h;simpa using h
   case e3=>intro u hu;exact qa6 (l:=[x]) u (by rw [qbc];exact hu)
   case e4=>unfold maxLen;omega
   case e5=>omega
   case e6=>simp;omega
   intro v2 W2 hown2 hgrow2 _ hloc;obtain ⟨g',cap',rfl⟩:=qe0 hown2;have hg2:=(((World.grownBy_alloc wr _ (Value.slice a' k c').ownBlock).trans (World.grownBy_alloc _ _ _)).trans hgrow2);have Hown2:Hid (W2.ownsRow w.heap.size 53 5 (.slice (some ⟨g',0,none⟩) (k+1) cap') (k+1) (its ((qac l).take (k+1)))):=by
    show W2.ownsRow w.heap.size 53 5 (.slice (some ⟨g',0,none⟩) (k+1) cap') (k+1) (its ((qac l).take (k+1)));rw [List.take_add_one,Hx.out,qaZ];have e:its (some x).toList=itl x:=qbc x;rw [e];exact hown2
   have Hb2:Hid (Below w.heap.size w W2):=Hb.out.grown hg2 hszb (fun q hq=>by
    rcases Hblk.out with h | ⟨q',h,h'⟩
    ·rw [h] at hq;cases hq;exact Nat.le_refl _
    rw [h] at hq;cases hq;omega)
   have Hkeep2:Hid (∀ j,w1.heap.size<j→j<W.heap.size→W2.heap[j]? = W.heap[j]?):=fun j h1 h2=>by
    rw [hg2.block j (by omega) (fun e => ?_)]
    ·exact Hkeep.out j h1 h2
    rcases Hblk.out with h | ⟨q',h,h'⟩
    ·rw [h] at e;cases e;omega
    rw [h] at e;cases e;omega
   have Hblk2:Hid ((Value.slice (some ⟨g',0,none⟩) (k+1) cap').ownBlock=some w.heap.size∨∃ q,(Value.slice (some ⟨g',0,none⟩) (k+1) cap').ownBlock=some q∧W.heap.size≤q):=by
    rcases hloc with h | h
    ·rw [h];exact Hblk.out
    exact .inr ⟨_,h,by first | omega | (simp;omega)⟩
   have hsz2:W.heap.size≤W2.heap.size:=Nat.le_trans hszr hg2.size;clear hown2 hgrow2 hg2 hloc hlook hcell Hblk Hkeep Hown;go_wp2;go_roundw
   case rel=>exact ⟨k+1,some ⟨g',0,none⟩,cap',rfl,by omega,by go_num,Hown2,Hb2,Hkeep2,Hblk2,hsz2⟩
   case measure=>simp [intOf];omega
  have Hfin:Hid (wr.ownsRow w.heap.size 53 5 (.slice a' k c') l.length (its (qac l))):=by
   have h:=Hown.out;have e:k=l.length:=by omega
   rw [e] at h ⊢;rw [List.take_of_length_le (by rw [qak];exact Nat.le_refl _)] at h;exact h
  clear Hown;go_wp2;go_ret
  exact ⟨Hb.out,_,rfl,Hfin.out⟩
end Go.Proofs.YtodmdkhdbfbfgabGreatDoor
namespace Go.Proofs.YtodmdkhdbfbfgabGreatDoor
open Go.RowKit Go.Nt
structure TreeP (l:List It):Prop where
 len:l.length≤60
 ok:∀ x∈l,okItem x=true
 nodup:(l.map (·.path)).Nodup
 up:∀ x∈l,par x.path=[]∨dirAt l (par x.path)=true
theorem qbH (l:List It):isTree l=true↔TreeP l:=by
 unfold isTree;simp only [Bool.and_eq_true,decide_eq_true_eq,List.all_eq_true,Bool.or_eq_true];exact ⟨fun ⟨⟨⟨a,b⟩,c⟩,d⟩=>⟨a,b,c,d⟩,fun ⟨a,b,c,d⟩=>⟨⟨⟨a,b⟩,c⟩,d⟩⟩
theorem dirAt_iff {l:List It} {p:Bs}:dirAt l p=true↔∃ y∈l,y.path=p∧y.dir=true:=by
 unfold dirAt;rw [List.any_eq_true];simp
theorem qi1 {l:List It} {p:Bs} (h:qaK l p=true):par p=[]∨dirAt l (par p)=true:=by
 rcases qcz p with hno | ⟨j,hj,hj1,hj2⟩
 ·exact .inl (qhq hno)
 rw [qcW hj1 hj2];unfold qaK at h
 have:=List.all_eq_true.1 h j (List.mem_range.2 hj)
 rw [hj1] at this;simp at this;exact .inr this
theorem qbA {l:List It} (hn:(l.map (·.path)).Nodup) (f:It→Bool):((l.filter f).map (·.path)).Nodup:=
 hn.sublist (List.filter_sublist.map _)
theorem qiZ {l:List It} (hn:(l.map (·.path)).Nodup) {p:Bs} {y:It} (h:at? l p=some y):(l.filter (fun z=>decide (z.path≠p))).length+1=l.length:=by
 induction l with
 | nil=>simp [at?] at h
 | cons z l ih =>
   rw [List.map_cons,List.nodup_cons] at hn;by_cases e:z.path=p
   ·rw [List.filter_cons_of_neg (by simp [e]),List.filter_eq_self.2,List.length_cons];intro a ha;simp;intro he;exact hn.1 (List.mem_map.2 ⟨a,ha,he.trans e.symm⟩)
   rw [List.filter_cons_of_pos (by simp [e]),List.length_cons,List.length_cons,ih hn.2];unfold at? at h
   rwa [List.find?_cons_of_neg (by simp [e])] at h
theorem qgg {l:List It} (hn:(l.map (·.path)).Nodup) (x:It):((setIt l x).map (·.path)).Nodup:=by
 unfold setIt;rw [List.map_append,List.nodup_append];refine ⟨qbA hn _,by simp,fun a ha b hb => ?_⟩;simp at hb;subst hb;obtain ⟨y,hy,rfl⟩:=List.mem_map.1 ha;simpa using (List.mem_filter.1 hy).2
theorem qjx {l:List It} (hn:(l.map (·.path)).Nodup) (x:It):(setIt l x).length=if (at? l x.path).isSome then l.length else l.length+1:=by
 unfold setIt;rw [List.length_append,List.length_singleton];cases h:at? l x.path with
 | none =>
   rw [List.filter_eq_self.2 (fun y hy=>by simpa using at_none.1 h y hy)];rfl
 | some y =>
   rw [qiZ hn h];rfl
theorem mem_set {l:List It} {x y:It}:y∈setIt l x↔(y∈l∧y.path≠x.path)∨y=x:=by
 unfold setIt;rw [List.mem_append,List.mem_filter];simp
theorem TreeP.set {l:List It} (h:TreeP l) (x:It) (hx:okItem x=true) (he:qaK l x.path=true) (hd:∀ y,at? l x.path=some y→y.dir=true→x.dir=true) (hl:(at? l x.path).isSome=true∨l.length<60):TreeP (setIt l x):=by
 have key:∀ q,dirAt l q=true→dirAt (setIt l x) q=true:=by
  intro q hq;obtain ⟨z,hz,rfl,hzd⟩:=dirAt_iff.1 hq;by_cases e:z.path=x.path
  ·exact dirAt_iff.2 ⟨x,mem_set.2 (.inr rfl),e.symm,hd z (by rw [←e];exact at_mem h.nodup hz) hzd⟩
  exact dirAt_iff.2 ⟨z,mem_set.2 (.inl ⟨hz,e⟩),rfl,hzd⟩
 refine ⟨?_,fun y hy => ?_,qgg h.nodup x,fun y hy => ?_⟩
 ·rw [qjx h.nodup]
  have:=h.len
  rcases hl with hl | hl
  ·rw [if_pos hl];exact this
  split<;>omega
 ·rcases mem_set.1 hy with ⟨hy,_⟩ | rfl
  ·exact h.ok y hy
  exact hx
 rcases mem_set.1 hy with ⟨hy,_⟩ | rfl
 ·exact (h.up y hy).imp id (key _)
 exact (qi1 he).imp id (key _)
theorem TreeP.drop {l:List It} (h:TreeP l) (p:Bs) (hp:∀ y∈l,par y.path≠p):TreeP (l.filter (fun y=>decide (y.path≠p))):=by
 refine ⟨Nat.le_trans (List.length_filter_le _ _) h.len,fun y hy=>h.ok y (List.mem_filter.1 hy).1,qbA h.nodup _,fun y hy => ?_⟩;have hy':=(List.mem_filter.1 hy).1;refine (h.up y hy').imp id fun hd => ?_
 obtain ⟨z,hz,hzp,hzd⟩:=dirAt_iff.1 hd;exact dirAt_iff.2 ⟨z,List.mem_filter.2 ⟨hz,by simp;rw [hzp];exact hp y hy'⟩,hzp,hzd⟩
def reachE (l:List It) (p:Bs):Int:=if okPath p then enterE l p else 1
def findE (l:List It) (p:Bs):Int:=if reachE l p=0 then (if (at? l p).isSome then 0 else 4) else reachE l p
def fileE (l:List It) (p:Bs):Int:=if findE l p=0 then (match at? l p with | some x=>if x.dir then 6 else 0 | none=>0) else findE l p
def putE (l:List It) (p d:Bs):Int:=
 if reachE l p=0 then
  (match at? l p with
  | some x=>if x.dir then 6 else if 4000<d.length then 8 else 0
  | none=>if 4000<d.length∨60≤l.length then 8 else 0)
 else reachE l p
def putI (l:List It) (p d:Bs):It:=match at? l p with | some x=>⟨p,false,d,x.mode,x.time⟩ | none=>⟨p,false,d,0,0⟩
theorem TreeP.put {l:List It} (h:TreeP l) {p d:Bs} (he:putE l p d=0):TreeP (setIt l (putI l p d)):=by
 unfold putE at he
 split at he
 ·rename_i hr;unfold reachE at hr
  split at hr
  ·rename_i hok;have hent:qaK l p=true:=by rw [qbV l p h.nodup];simpa using hr
   cases ha:at? l p with
   | some x =>
     rw [ha] at he;simp only at he;have hd:x.dir=false:=by cases hx:x.dir with | false=>rfl | true=>rw [hx] at he;simp at he
     rw [hd] at he;simp at he;have hx:=h.ok x (qau ha).1;have hpi:putI l p d=⟨p,false,d,x.mode,x.time⟩:=by unfold putI;rw [ha]
     rw [hpi];refine h.set _ ?_ hent (fun y hy hyd => ?_) (.inl (by show (at? l p).isSome=true;rw [ha];rfl))
     ·unfold okItem at hx ⊢;simp only [Bool.and_eq_true,decide_eq_true_eq] at hx ⊢;obtain ⟨⟨⟨⟨⟨⟨h1,h2⟩,h3⟩,h4⟩,h5⟩,h6⟩,h7⟩:=hx;exact ⟨⟨⟨⟨⟨⟨hok,by omega⟩,by simp⟩,h4⟩,h5⟩,h6⟩,h7⟩
     have:at? l p=some y:=hy
     rw [ha] at this;cases this
     rw [hd] at hyd;cases hyd
   | none =>
     rw [ha] at he;simp only at he;have hl:¬(4000<d.length∨60≤l.length):=fun hc=>by rw [if_pos hc] at he;cases he
     have hpi:putI l p d=⟨p,false,d,0,0⟩:=by unfold putI;rw [ha]
     rw [hpi];refine h.set _ ?_ hent (fun y hy hyd => ?_) (.inr (by omega))
     ·unfold okItem;simp only [Bool.and_eq_true,decide_eq_true_eq];exact ⟨⟨⟨⟨⟨⟨hok,by omega⟩,by simp⟩,by decide⟩,by decide⟩,by decide⟩,by decide⟩
     have:at? l p=some y:=hy
     rw [ha] at this;cases this
  cases hr
 rename_i hr;exact absurd he hr
end Go.Proofs.YtodmdkhdbfbfgabGreatDoor
