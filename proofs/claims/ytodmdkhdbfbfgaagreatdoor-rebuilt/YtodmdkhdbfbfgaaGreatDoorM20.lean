/- Lemmas. -/
import Derived.Laws.MakeOwn
import Derived.Test.YtodmdkhdbfbfgaaGreatDoorM19
set_option linter.unusedVariables false
set_option linter.unusedSimpArgs false
set_option maxRecDepth 100000
set_option maxHeartbeats 8000000
namespace Go.Proofs.YtodmdkhdbfbfgaaGreatDoor
open Go.RowKit Go.Nt
theorem qcd:∀ a b:Bs,Op.bytesLess a b=ltS a b
 | [],[]=>rfl
 | [],_ :: _=>rfl
 | _ :: _,[]=>rfl
 | x :: a,y :: b=>by
   unfold Op.bytesLess ltS;have ih:=qcd a b;by_cases h:x=y
   ·subst h;simp [ih]
   have h3:x.toNat≠y.toNat:=fun e=>h (UInt8.toNat_inj.1 e)
   simp [h,ih,UInt8.lt_iff_toNat_lt]
theorem qdZ:∀ a,ltS a a=false
 | []=>rfl
 | x :: a=>by simp [ltS,qdZ a]
theorem qfj:∀ a b,ltS a b=false→ltS b a=false→a=b
 | [],[],_,_=>rfl
 | [],_ :: _,h,_=>by simp [ltS] at h
 | _ :: _,[],_,h=>by simp [ltS] at h
 | x :: a,y :: b,h,h'=>by
   unfold ltS at h h';by_cases e:x=y
   ·subst e;simp at h h';rw [qfj a b h h']
   rw [if_neg e] at h;rw [if_neg (fun x=>e x.symm)] at h';simp at h h';exact absurd (UInt8.toNat_inj.1 (by omega)) e
theorem qlH (a b:Bs) (w:World) :
 Calls Tryz.prog 172 #[.string (txt a),.string (txt b)] w fun e w'=>e=.returned (.int .i64 (cmpS a b))∧w'=w:=by
 obtain ⟨A,hA⟩:∃ o,o=txt a:=⟨_,rfl⟩;obtain ⟨B,hB⟩:∃ o,o=txt b:=⟨_,rfl⟩;rw [←hA,←hB];have HA:=hidI hA;have HB:=hidI hB;clear hA hB;go_enter Tryz.func172,Tryz.ntmps172
 by_cases h1:Op.bytesLess A.toList B.toList=true
 ·have HR:Hid (cmpS a b = -1):=by
   show cmpS a b = -1;rw [HA.out,HB.out,qar,qar,qcd] at h1;simp [cmpS,h1]
  go_wp2;go_ret
  exact ⟨qax HR.out.symm,rfl⟩
 have h1':Op.bytesLess A.toList B.toList=false:=by simpa using h1
 by_cases h2:(A.toList==B.toList)=true
 ·have HR:Hid (cmpS a b=0):=by
   show cmpS a b=0;rw [HA.out,HB.out,qex] at h2
   have:a=b:=by simpa using h2
   subst this;simp [cmpS,qdZ]
  go_wp2;go_ret
  exact ⟨qax HR.out.symm,rfl⟩
 have h2':(A.toList==B.toList)=false:=by simpa using h2
 have HR:Hid (cmpS a b=1):=by
  show cmpS a b=1;rw [HA.out,HB.out,qex] at h2;rw [HA.out,HB.out,qar,qar,qcd] at h1';have hne:a≠b:=by simpa using h2
  have:ltS b a=true:=by
   cases h:ltS b a with
   | true=>rfl
   | false=>exact absurd (qfj a b h1' h) hne
  simp [cmpS,h1',this]
 go_wp2;go_ret
 exact ⟨qax HR.out.symm,rfl⟩
theorem qjS {n m:List Bs} {k:Nat} {x y:Bs} (hx:n[k]? = some x) (hy:m[k]? = some y) (h:cmpS x y=0):cmpN (n.drop k) (m.drop k)=cmpN (n.drop (k+1)) (m.drop (k+1)):=by
 obtain ⟨h1,rfl⟩:=List.getElem?_eq_some_iff.1 hx;obtain ⟨h2,rfl⟩:=List.getElem?_eq_some_iff.1 hy;rw [List.drop_eq_getElem_cons h1,List.drop_eq_getElem_cons h2];simp [cmpN,h]
theorem qim {n m:List Bs} {k:Nat} {x y:Bs} (hx:n[k]? = some x) (hy:m[k]? = some y) (h:cmpS x y≠0):cmpN (n.drop k) (m.drop k)=cmpS x y:=by
 obtain ⟨h1,rfl⟩:=List.getElem?_eq_some_iff.1 hx;obtain ⟨h2,rfl⟩:=List.getElem?_eq_some_iff.1 hy;rw [List.drop_eq_getElem_cons h1,List.drop_eq_getElem_cons h2];simp [cmpN,h]
theorem qi4 {n m:List Bs} {k:Nat} (h1:k<n.length) (h2:m.length≤k):cmpN (n.drop k) (m.drop k)=1:=by
 rw [List.drop_eq_getElem_cons h1,List.drop_eq_nil_of_le h2];rfl
theorem qkW {n m:List Bs} {k:Nat} (h1:n.length≤k) (h2:k≤m.length):cmpN (n.drop k) (m.drop k)=if k<m.length then -1 else 0:=by
 rw [List.drop_eq_nil_of_le h1];by_cases h:k<m.length
 ·rw [List.drop_eq_getElem_cons h,if_pos h];rfl
 rw [List.drop_eq_nil_of_le (by omega),if_neg h];rfl
theorem qlk (a b:Nat) (N M c d:Nat) (n m:List Bs) (w:World) (hN:n.length=N) (hM:m.length=M) (hN9:N≤1048577) (hM9:M≤1048577) (ha:∀ k x,n[k]? = some x→w.cell? ⟨a,k,none⟩=some (.string (txt x))) (hb:∀ k x,m[k]? = some x→w.cell? ⟨b,k,none⟩=some (.string (txt x))) :
 Calls Tryz.prog 113 #[.slice (some ⟨a,0,none⟩) N c,.slice (some ⟨b,0,none⟩) M d] w fun e w'=>e=.returned (.int .i64 (cmpN n m))∧w'=w:=by
 have Ha:=hidI ha;have Hb:=hidI hb;have HN:=hidI hN;have HM:=hidI hM;clear ha hb hN hM;go_enter Tryz.func113,Tryz.ntmps113
 go_wp2
 go_loopw [11] (fun i wr=>∃ k:Nat,k≤N∧k≤M∧i=.int .i64 k∧wr=w∧Hid (cmpN n m=cmpN (n.drop k) (m.drop k))) (fun i _=>N - (intOf i).toNat)
 case atStart=>exact ⟨0,Nat.zero_le _,Nat.zero_le _,rfl,rfl,hidI rfl⟩
 case round =>
  obtain ⟨k,hk,hk2,rfl,rfl,Hc⟩:=hrel;by_cases h1:k<N
  ·obtain ⟨x,hx⟩:∃ x,n[k]? = some x:=⟨_,List.getElem?_eq_getElem (by have:=HN.out;omega)⟩;have hcx:=Ha.out k x hx;have Hx:=hidI hx;by_cases h2:k<M
   ·obtain ⟨y,hy⟩:∃ y,m[k]? = some y:=⟨_,List.getElem?_eq_getElem (by have:=HM.out;omega)⟩;have hcy:=Hb.out k y hy;have Hy:=hidI hy;have HS:=hidI (qlH x y wr);obtain ⟨X,hX⟩:∃ o,o=txt x:=⟨_,rfl⟩;obtain ⟨Y,hY⟩:∃ o,o=txt y:=⟨_,rfl⟩;obtain ⟨z,hz⟩:∃ o,o=cmpS x y:=⟨_,rfl⟩;rw [←hX,←hY,←hz] at HS;rw [←hX] at hcx;rw [←hY] at hcy;have Hz:=hidI hz;clear hx hy hX hY hz;by_cases h0:z=0
    ·have Hn:Hid (cmpN n m=cmpN (n.drop (k+1)) (m.drop (k+1))):=Hc.out.trans (qjS Hx.out Hy.out (Hz.out.symm.trans h0));subst h0;go_wp2_with (go_at_call 172;refine HS.out.mono ?_;rintro e w' ⟨rfl,hw⟩;have hw':=hw.symm;subst hw');go_roundw
     case rel=>exact ⟨k+1,by omega,by omega,by go_num,trivial,Hn⟩
     case measure=>simp [intOf];omega
    have Hn:Hid (cmpN n m=z):=Hc.out.trans ((qim Hx.out Hy.out (fun e=>h0 (Hz.out.trans e))).trans Hz.out.symm);have h0':(z != 0)=true:=bne_iff_ne.2 h0;go_wp2_with (go_at_call 172;refine HS.out.mono ?_;rintro e w' ⟨rfl,hw⟩;have hw':=hw.symm;subst hw');go_ret
    exact ⟨qax Hn.out.symm,rfl⟩
   have Hn:Hid (cmpN n m=1):=Hc.out.trans (qi4 (by have:=HN.out;omega) (by have:=HM.out;omega));clear hx;go_wp2;go_ret
   exact ⟨qax Hn.out.symm,rfl⟩
  have Hn:Hid (cmpN n m=if k<M then -1 else 0):=Hc.out.trans (by have h3:=HN.out;have h4:=HM.out;rw [qkW (by omega) (by omega),h4]);by_cases h2:N<M
  ·have Hn2:Hid (cmpN n m = -1):=by have:=Hn.out;rw [if_pos (by omega)] at this;exact this
   go_wp2;go_ret
   exact ⟨qax Hn2.out.symm,rfl⟩
  have Hn2:Hid (cmpN n m=0):=by have:=Hn.out;rw [if_neg (by omega)] at this;exact this
  go_wp2;go_ret
  exact ⟨qax Hn2.out.symm,rfl⟩
theorem qdm (p:Bs):(split p).length=p.count 47+1:=by
 induction p with
 | nil=>rfl
 | cons c l ih =>
   by_cases hc:c=47
   ·subst hc;rw [qal];simp [ih]
   obtain ⟨n,ns,e⟩:=qav l;rw [qak hc e,List.count_cons_of_ne (by simpa using hc),←ih,e];rfl
theorem qkB (p:Bs):Lib.countB (txt p) (txt [47])+1=(split p).length∧Lib.splitB (txt [47]) 0 (Lib.countB (txt p) (txt [47])) (txt p)=(split p).map txt:=by
 have hc:Lib.countB (txt p) (txt [47])=p.count 47:=by
  show Lib.count p [47]=_;rw [Lib.count_one]
 rw [hc];have hd:(Lib.splitB (txt [47]) 0 (p.count 47) (txt p)).map (·.data.toList)=Lib.splitK [47] 0 (p.count 47) p:=Lib.splitB_data (txt [47]) 0 (p.count 47) (txt p);refine ⟨(qdm p).symm,?_⟩;rw [(pieces (p.count 47) p).1 (by rw [qdm];omega)] at hd;rw [←hd,List.map_map]
 have:(txt ∘ fun x:ByteArray=>x.data.toList)=id:=by funext x;exact (qmi x).symm
 rw [this,List.map_id]
def txrow (p:Bs):Obj:=.cells (((split p).map txt).map Value.string).toArray 9
theorem qbW (p:Bs) (w:World) (hm:ML w) (hp:p.length≤1048576) :
 Calls Tryz.prog 114 #[.string (txt p),.string ⟨#[47]⟩] w fun e w'=>e=.returned (.slice (some ⟨w.heap.size,0,none⟩) (split p).length (split p).length)∧w'=w.alloc (txrow p):=by
 obtain ⟨m,hm'⟩:=hm;have h:=Tryz.strings_Split (txt p) (txt [47]) m w (by rw [qaa];omega) hm' (by rw [qaa];simp);obtain ⟨h1,h2⟩:=qkB p;rw [h1,h2] at h;exact h
theorem qdP (p:Bs) (w:World):∀ k x,(split p)[k]? = some x→(w.alloc (txrow p)).cell? ⟨w.heap.size,k,none⟩=some (.string (txt x)):=by
 intro k x hx;unfold txrow;rw [cell_of_row _ w.heap.size k _ 9 (0,0) (heap_alloc_new _ _)];simp [hx]
theorem qgy (a b:Bs) (w:World) (hm:ML w) (ha:a.length≤1048576) (hb:b.length≤1048576) :
 Calls Tryz.prog 66 #[.string (txt a),.string (txt b)] w fun e w'=>e=.returned (.int .i64 (cmpN (split a) (split b)))∧w'=(w.alloc (txrow a)).alloc (txrow b):=by
 have hla:=qcq a;have hlb:=qcq b;have h1:=qbW a w hm ha;have hm2:ML (w.alloc (txrow a)):=hm.below ((Below.refl _ w).alloc (Nat.le_refl _) _) hm.lt;have h2:=qbW b (w.alloc (txrow a)) hm2 hb;have h3:=qlk w.heap.size (w.heap.size+1) (split a).length (split b).length (split a).length (split b).length (split a) (split b) ((w.alloc (txrow a)).alloc (txrow b)) rfl rfl (by omega) (by omega)
  (fun k x hx=>by rw [World.cell?_alloc_old _ _ _ (by simp)];exact qdP a w k x hx)
  (fun k x hx=>by have:=qdP b (w.alloc (txrow a)) k x hx;simp only [World.size_alloc] at this;exact this)
 rw [World.size_alloc] at h2;have H1:=hidI h1;have H2:=hidI h2;have H3:=hidI h3;clear h1 h2 h3 hm2 hm;obtain ⟨A,hA⟩:∃ o,o=txt a:=⟨_,rfl⟩;obtain ⟨B,hB⟩:∃ o,o=txt b:=⟨_,rfl⟩;obtain ⟨N,hN⟩:∃ o,o=(split a).length:=⟨_,rfl⟩;obtain ⟨M,hM⟩:∃ o,o=(split b).length:=⟨_,rfl⟩;obtain ⟨z,hz⟩:∃ o,o=cmpN (split a) (split b):=⟨_,rfl⟩;rw [←hA,←hN] at H1;rw [←hB,←hM] at H2;rw [←hN,←hM,←hz] at H3;rw [←hA,←hB,←hz];clear hA hB hN hM hz hla hlb ha hb
 generalize txrow a=Ra at *
 generalize txrow b=Rb at *
 go_enter Tryz.func66,Tryz.ntmps66
 go_wp2_with fail;refine H1.out.mono ?_;rintro e w' ⟨rfl,hw⟩;subst hw;go_wp2_with fail;refine H2.out.mono ?_;rintro e w' ⟨rfl,hw⟩;subst hw;go_wp2_with fail;refine H3.out.mono ?_;rintro e w' ⟨rfl,hw⟩;subst hw;go_wp2;go_ret
 exact ⟨rfl,rfl⟩
end Go.Proofs.YtodmdkhdbfbfgaaGreatDoor
namespace Go.Proofs.YtodmdkhdbfbfgaaGreatDoor
open Go.RowKit Go.Nt Go.Sort Go.Lib Go.Shelf
abbrev Sh:={ s:Bs // s.length≤1048576 }
instance:Inhabited Sh:=⟨⟨[],by simp⟩⟩
def encSh:Sh→Value:=fun s=>encStr s.1
def cfSh (a b:Sh):Int:=cmpN (split a.1) (split b.1)
theorem qjx (a b:Sh):ltOf cfSh a b=less a.1 b.1:=qcW a.1 b.1
theorem qnn:SWO (ltOf cfSh) where
 irrefl x:=by rw [qjx,qbC]
 trans x y z h1 h2:=by rw [qjx] at *;exact qa7 _ _ _ h1 h2
 ntrans x y z h1 h2:=by
  rw [qjx] at *;cases h:less x.1 z.1 with
  | false=>rfl
  | true =>
    cases h3:less y.1 x.1 with
    | true=>have:=qa7 _ _ _ h3 h;rw [h2] at this;cases this
    | false=>have e:=qa8 _ _ h1 h3;rw [e,h2] at h;cases h
theorem qnm (x y:Sh) (h1:ltOf cfSh x y=false) (h2:ltOf cfSh y x=false):x=y:=by
 rw [qjx] at *;exact Subtype.ext (qa8 _ _ h1 h2)
theorem qfb (w:World) (b o:Nat) (d:Array Sh):putRow encSh w b o d=putRow encStr w b o (d.map (·.1)):=by
 unfold putRow
 congr 1
 funext c
 unfold putCells
 apply Array.ext
 ·simp
 intro i h1 h2;simp only [Array.getElem_mapIdx,Array.size_map]
 split
 ·rename_i h;have hi:i - o<d.size:=by omega
  rw [getElem!_pos d _ hi,getElem!_pos (d.map (·.1)) _ (by simpa using hi)];simp [encSh]
 rfl
def sortP (ss:List Bs):List Bs:=ss.mergeSort fun x y => !less y x
theorem qmo (ds:List Sh):(ds.mergeSort fun x y => !(ltOf cfSh) y x).map (·.1)=sortP (ds.map (·.1)):=by
 unfold sortP;have h:=List.map_mergeSort (f:=fun s:Sh=>s.1) (r:=fun x y => !(ltOf cfSh) y x) (s:=fun x y => !less y x) (l:=ds) (fun a _ b _=>by rw [qjx]);exact h
theorem qjX {w:World} (h:ML w) (hd:∀ c e fr,w.heap[0]? ≠ some (.cells c e fr)∨True) {g n:Nat} {d:Array Bs} {os:Array Obj} (hg:g≠0):ML (grow (putRow encStr (Sort.ahead w n) g 0 d) os):=by
 obtain ⟨m,hm⟩:=h;have h0:0<w.heap.size:=World.block_lt_of_cell? w _ hm;refine ⟨m,?_⟩;rw [←hm];refine World.cell?_of_block ?_;exact (grownBy_sorted (w:=w) (g:=g) (n:=n) (os:=os) d).block 0 h0 (fun e=>hg (by cases e;rfl))
theorem ql0 (w:World) (hm:ML w) (g:Nat) (hg:g≠0) (N:Nat):CmpLays1 Tryz.prog 66 #[] encSh cfSh g 0 N w:=by
 intro m os dk hs x y;have hml:ML (sortWorld encSh w g 0 m dk os):=by
  unfold sortWorld;rw [qfb];exact qjX hm (fun _ _ _=>.inr trivial) hg
 refine (qgy x.1 y.1 _ hml x.2 y.2).mono ?_;rintro e w' ⟨rfl,rfl⟩;refine ⟨rfl,0,#[txrow x.1,txrow y.1],?_⟩;rw [alloc_eq_grow,alloc_eq_grow,grow_grow];rfl
theorem qk7:∀ args w,(callFunc 66 args).run Tryz.prog w=.ok (.enter 66 args) w:=enters_of Tryz.func66 (by kernel_rfl) rfl
theorem qkR:∀ args w,(callFunc 112 args).run Tryz.prog w=.ok (.enter 112 args) w:=enters_of Tryz.func112 (by kernel_rfl) rfl
theorem qlN (mb:Option Nat) (w:World):Calls Tryz.prog 65 #[.map mb] w fun e w'=>e=.returned (.func (.func 112) #[] #[.pointer (some ⟨w.heap.size,0,none⟩)])∧w'=w.alloc (.cells #[.map mb] 77):=
 (callsIn_wide (n:=6)).1 (AnyZ.keys_in Tryz.keys21 Fence.wide 6 trivial rfl mb w)
theorem qf6 (b Bm:Nat) (l:List It) (w:World) (hT:TreeAt w b l) (hn:(l.map (·.path)).Nodup) (hl:l.length≤1000) (hBm:Bm<w.heap.size) (hm:w.cell? ⟨Bm,0,none⟩=some (.map (some b))) :
 Calls Tryz.prog 110 #[.func (.func 112) #[] #[.pointer (some ⟨Bm,0,none⟩)]] w fun e w'=>∃ (v:Value) (ss:List Bs),e=.returned v∧ss.Perm (l.map (·.path))∧w'.ownsRow w.heap.size 9 1 v ss.length (ss.map encStr)∧Below w.heap.size w w':=by
 obtain ⟨D,ho,hh⟩:=hT;have hsz:=qcY ho hh hn;have hk:=keys_perm ho hh hn;refine ((callsIn_wide (n:=6)).1 (AnyZ.collect_in Tryz.collect26 Fence.wide 6 trivial trivial rfl (by omega) 112 #[.pointer (some ⟨Bm,0,none⟩)] trivial qkR (fun ss=>ss.Perm (strKeys D)) (Maps.size D) (by rw [hsz];unfold maxLen;omega) (by rw [hsz];omega) w
  (AnyZ.keys_gives Tryz.iter28 Fence.wide 4 trivial rfl (by omega) Bm b (Maps.size D) D w hBm hm ho))).mono ?_
 rintro e w' ⟨v,ss,rfl,hS,hrow,_,hb⟩;exact ⟨v,ss,rfl,hS.trans hk.symm,hrow,hb⟩
def shs (ss:List Bs) (h:∀ s∈ss,s.length≤1048576):List Sh:=ss.pmap Subtype.mk h
theorem qmr (ss:List Bs) (h:∀ s∈ss,s.length≤1048576):(shs ss h).map (·.1)=ss:=by simp [shs,List.map_pmap]
theorem qb8 (ss:List Bs) (h:∀ s∈ss,s.length≤1048576):(shs ss h).length=ss.length:=by simp [shs]
theorem qk8 {w:World} {g:Nat} {ss:List Bs} (h:∀ s∈ss,s.length≤1048576) (hH:Holds encStr w g 0 ss.toArray):Holds encSh w g 0 (shs ss h).toArray:=by
 intro j hj;have hj':j<ss.length:=by simpa [qb8] using hj
 have:=hH j (by simpa using hj')
 refine ⟨this.1.trans ?_,this.2⟩;rw [getElem!_pos ss.toArray j (by simpa using hj'),getElem!_pos (shs ss h).toArray j (by simpa [qb8] using hj')];simp [encSh,shs]
theorem qma (g cap:Nat) (ss:List Bs) (w:World) (hml:ML w) (hg:g≠0) (hlt:g<w.heap.size) (h:∀ s∈ss,s.length≤1048576) (hl:ss.length≤1000) (hH:Holds encStr w g 0 ss.toArray) :
 Calls Tryz.prog 111 #[.slice (some ⟨g,0,none⟩) ss.length cap,.func (.func 66) #[] #[]] w fun e w'=>e=.returned (.tuple #[])∧∃ n os,w'=grow (putRow encStr (Sort.ahead w n) g 0 (sortP ss).toArray) os:=by
 have hd:(shs ss h).toArray.size=ss.length:=by simp [qb8]
 have:=Any.slices_SortFunc_total Tryz.sort27 encSh (fun _=>rfl) cfSh qnn 66 #[] g 0 cap (shs ss h).toArray w qk7 (ql0 w hml g hg _) (qk8 h hH) hlt (by rw [hd];omega) qnm
 rw [hd] at this;refine this.mono ?_;rintro e w' ⟨rfl,n,os,rfl⟩;refine ⟨rfl,n,os,?_⟩;unfold sortWorld;rw [qfb]
 congr 2
 rw [List.map_toArray,qmo,qmr]
theorem qki (p:Option Addr) (cap:Nat) (fv:Value) (w:World):Calls Tryz.prog 111 #[.slice p 0 cap,fv] w fun e w'=>e=.returned (.tuple #[])∧w'=w:=
 AnyF.slices_SortFunc_none (P:=Tryz.prog) (ρ:=Tryz.sort27_ren) { Tryz.sort27 with } p cap fv w
theorem qid (b Bm:Nat) (l:List It) (w:World) (hT:TreeAt w b l) (hn:(l.map (·.path)).Nodup) (hl:l.length≤1000) (hml:ML w) (hp:∀ x∈l,x.path.length≤1048576) (hBm:Bm<w.heap.size) (hm:w.cell? ⟨Bm,0,none⟩=some (.map (some b))) :
 Calls Tryz.prog 64 #[.func (.func 112) #[] #[.pointer (some ⟨Bm,0,none⟩)],.func (.func 66) #[] #[]] w fun e w'=>∃ (v:Value),e=.returned v∧w'.ownsRow w.heap.size 9 1 v l.length ((sortP (l.map (·.path))).map encStr)∧Below w.heap.size w w':=by
 have HC:=hidI (qf6 b Bm l w hT hn hl hBm hm);have h0:=hml.lt;have Hml:=hidI hml;have Hp:=hidI hp;clear hT hml hm hp;go_enter Tryz.func64,Tryz.ntmps64
 go_wp2_with fail;refine HC.out.mono ?_;rintro e W ⟨v,ss,rfl,hS,hrow,hb⟩;have hlen:ss.length=l.length:=by simpa using hS.length_eq
 have hsort:sortP ss=sortP (l.map (·.path)):=by
  unfold sortP;refine List.Perm.eq_of_pairwise (le:=fun a b:Bs=>(!less b a)=true) (fun a b _ _ h1 h2 => ?_) (List.pairwise_mergeSort ?_ ?_ ss) (List.pairwise_mergeSort ?_ ?_ _) (((List.mergeSort_perm ss _).trans hS).trans (List.mergeSort_perm _ _).symm)
  ·simp at h1 h2;exact qa8 a b h2 h1
  all_goals first
   | (intro a b c h1 h2
      simp at h1 h2 ⊢;cases h:less c a with
      | false=>rfl
      | true =>
        cases h3:less c b with
        | true=>rw [h2] at h3;cases h3
        | false=>have:=qa8 b c (by
                    cases h4:less b c with
                    | false=>rfl
                    | true=>have:=qa7 _ _ _ h4 h;rw [h1] at this;cases this) h3
                 subst this;rw [h1] at h;cases h)
   | (intro a b
      simp;cases h:less b a with
      | false=>exact .inl rfl
      | true=>exact .inr (qhW h))
 have hss:∀ s∈ss,s.length≤1048576:=fun s hs=>by
  obtain ⟨x,hx,rfl⟩:=List.mem_map.1 (hS.mem_iff.1 hs);exact Hp.out x hx
 have hmlW:=Hml.out.below hb h0;have HS:=hidI hsort;clear hsort;rcases hrow.2 with ⟨rfl,hz⟩ | ⟨gb,cap,cur,rfl,hbase,hgb,r1,r2,r3,r4⟩
 ·have HN:=hidI (qki none 0 (.func (.func 66) #[] #[]) W);have hss0:ss=[]:=List.eq_nil_of_length_eq_zero hz;have HF:Hid (W.ownsRow w.heap.size 9 1 (.slice none 0 0) l.length ((sortP (l.map (·.path))).map encStr)):=by
   have h:=hrow;rw [hlen] at h;show W.ownsRow w.heap.size 9 1 (.slice none 0 0) l.length ((sortP (l.map (·.path))).map encStr);rw [←HS.out,hss0];have e0:sortP []=[]:=by simp [sortP]
   rw [e0];rw [hss0] at h;exact h
  clear hrow hlen hz hss0;go_wp2_with fail;refine HN.out.mono ?_;rintro e w' ⟨rfl,hw⟩;have hw':=hw.symm;subst hw';go_wp2;go_ret
  exact ⟨_,rfl,HF.out,hb⟩
 have hH:Holds encStr W gb 0 ss.toArray:=holds_of_block hgb (by simpa using r4);have hgl:gb<W.heap.size:=(Array.getElem?_eq_some_iff.1 hgb).1;have HN:=hidI (qma gb cap ss W hmlW (by omega) hgl hss (by omega) hH);have HF:Hid (∀ n os,(grow (putRow encStr (Sort.ahead W n) gb 0 (sortP ss).toArray) os).ownsRow w.heap.size 9 1 (.slice (some ⟨gb,0,none⟩) ss.length cap) l.length ((sortP (l.map (·.path))).map encStr)):=fun n os=>by
  rw [←hlen,←HS.out];exact ownsRow_sorted (by simp [sortP]) hbase hgb r1 r2 r3
 clear hrow hH hmlW hss hlen r3 r4 hgb;go_wp2_with fail;refine HN.out.mono ?_;rintro e w' ⟨rfl,n,os,hw⟩;have HB:Hid (Below w.heap.size w w'):=by rw [hw];exact hb.grown (grownBy_sorted _) hb.size (fun j hj=>by cases hj;exact hbase)
 have HF':=HF.out n os;rw [←hw] at HF';clear hw HF HN;go_wp2;go_ret
 exact ⟨_,rfl,HF',HB.out⟩
theorem qgd (l:List It):(qaf l).map (·.path)=sortP (l.map (·.path)):=by
 unfold qaf sortP;exact List.map_mergeSort (f:=fun x:It=>x.path) (r:=fun x y:It => !less y.path x.path) (s:=fun x y => !less y x) (l:=l) (fun a _ b _=>rfl)
theorem qao (l:List It):(qaf l).length=l.length:=by simp [qaf]
theorem order_mem {l:List It} {x:It}:x∈qaf l↔x∈l:=by simp [qaf]
theorem qda {w:World} {ops:Array Oper} {rest:List Oper} {o:Oper} {a:Act} {Q:Exit→Act→World→Prop} (hg:o.guard=none) (m:Operand) (hop:o.op=Op.call { callee:=Callee.builtin Builtin.len,args:=#[m],argTypes:=#[77] })
 (b:Nat) (l:List It) (hm:a.eval m=.map (some b)) (hT:TreeAt w b l) (hn:(l.map (·.path)).Nodup)
 (hK:wpList Tryz.prog ops Q rest (a.put o.dst (.int .i64 l.length)) w) :
 wpList Tryz.prog ops Q (o :: rest) a w:=by
 refine wpList_plain hg fun K' hK' => ?_
 unfold Oper.wp;simp [execOp,hop,resolve,invoke,builtin,hm,hT.len hn o.type,Result.andThen];exact hK' _ _ hK
theorem qld {w:World} {B gk cap n:Nat} {ps:List Bs} (h:w.ownsRow B 9 1 (.slice (some ⟨gk,0,none⟩) n cap) n (ps.map encStr)) {k:Nat} {p:Bs} (hk:ps[k]? = some p):w.cell? ⟨gk,k,none⟩=some (.string (txt p)):=by
 rcases h.2 with ⟨e,_⟩ | ⟨g,cap',cur,e,_,hb,h1,h2,h3,h4⟩
 ·cases e
 cases e
 rw [cell_of_row w gk k cur 9 (0,0) hb];have hlt:k<ps.length:=(List.getElem?_eq_some_iff.1 hk).1;have hl:=h.1;simp at hl;have h5:=congrArg (fun z:List Value=>z[k]?) h4;simp only [Nat.mul_one] at h5;rw [List.getElem?_take_of_lt (by omega),List.getElem?_map,hk] at h5;have h6:cur[k]? = some (encStr p):=by simpa using h5
 exact h6
theorem qdo (b:Nat) (l:List It) (w:World) (hT:TreeAt w b l) (hn:(l.map (·.path)).Nodup) (hl:l.length≤1000) (hml:ML w) (hp:∀ x∈l,x.path.length≤1048576) :
 Calls Tryz.prog 37 #[.map (some b)] w fun e w'=>Below w.heap.size w w'∧∃ v,e=.returned v∧w'.ownsRow w.heap.size 39 5 v l.length (its (qaf l)):=by
 obtain ⟨i0,hi,hz0,hz1,hz2⟩:=info_parts Tryz.info24;obtain ⟨w1,hmk,hown1,hg1⟩:=run_make_own (P:=Tryz.prog) w w.heap.size 26 39 i0 _ 5 Tryz.underlying26 hi hz0 hz1 .i64 .i64 l.length (by rw [hz2];omega) (by unfold maxLen;omega) (Nat.le_refl _);have hb1:Below w.heap.size w w1:=(Below.refl _ w).grown hg1 (Nat.le_refl _) (fun q hq=>by cases hq);have hblt:=hT.lt;have hs1:w.heap.size<w1.heap.size:=by
  rcases hown1.2 with ⟨e,_⟩ | ⟨g,cap,cur,e,_,hh,_⟩
  ·cases e
  cases e;exact lt_of_heap hh
 have hT1:TreeAt (w1.alloc (.cells #[.map (some b)] 77)) b l:=(hT.below hb1 hblt).of_block (Below.heap_alloc w1 _ b (by omega));have hml1:ML (w1.alloc (.cells #[.map (some b)] 77)):=(hml.below hb1 hml.lt).below ((Below.refl _ w1).alloc (Nat.le_refl _) _) (by omega);have HK:=hidI (qlN (some b) w1);have HS:=hidI (qid b w1.heap.size l _ hT1 hn hl hml1 hp (by simp) (by simp));have HT:=hidI hT;have Hn:=hidI hn;have Hp:=hidI hp;have Hg1:=hidI hg1;clear hT hn hml hp hT1 hml1 hg1;go_enter Tryz.func37,Tryz.ntmps37
 go_wp2_with (first | (at_len;refine qda rfl _ rfl b l rfl HT.out Hn.out ?_) | (go_at_call 65;refine HK.out.mono ?_;rintro e w' ⟨rfl,rfl⟩) | fail);refine HS.out.mono ?_;rintro e W ⟨v,rfl,hrow,hbW⟩;have hszW:=hbW.size;rw [World.size_alloc] at hszW hbW;have HbW:Hid (Below w.heap.size w W):=(hb1.alloc (by omega) _).trans (hbW.mono (by omega));have Hown1:Hid (W.ownsRow w.heap.size 39 5 (.slice (some ⟨w.heap.size,0,none⟩) 0 l.length) 0 []):=own_below (hown1.alloc _) hbW (fun q hq=>(by simpa [Value.ownBlock] using hq:w.heap.size=q) ▸ (by omega));have Hrow:=hidI hrow;clear hrow hmk HK HS hbW hown1 Hg1 hb1;obtain ⟨ak,ck,rfl,Hak⟩:∃ ak ck,v=.slice ak l.length ck∧Hid (l≠[]→∃ gk,ak=some ⟨gk,0,none⟩∧w1.heap.size<gk∧gk<W.heap.size∧∀ k x,(qaf l)[k]? = some x→W.cell? ⟨gk,k,none⟩=some (.string (txt x.path))):=by
  rcases Hrow.out.2 with ⟨rfl,h0⟩ | ⟨gk,cap,cur,rfl,hbase,hh,h1,h2,h3,h4⟩
  ·refine ⟨none,0,by rw [h0],hidI (fun hne=>absurd (List.eq_nil_of_length_eq_zero h0) hne)⟩
  refine ⟨some ⟨gk,0,none⟩,cap,rfl,hidI (fun _=>⟨gk,rfl,by simp at hbase;omega,lt_of_heap hh,fun k x hx => ?_⟩)⟩;refine qld Hrow.out ?_;rw [←qgd,List.getElem?_map,hx];rfl
 clear Hrow;go_wp2
 go_loopw [3,14] (fun v i wr=>∃ (k:Nat) (a':Option Addr) (c':Nat),v=.slice a' k c'∧k≤l.length∧i=.int .i64 k∧Hid (wr.ownsRow w.heap.size 39 5 v k (its ((qaf l).take k)))∧Hid (Below w.heap.size w wr)∧Hid (∀ j,w1.heap.size<j→j<W.heap.size→wr.heap[j]? = W.heap[j]?)∧Hid (v.ownBlock=some w.heap.size∨∃ q,v.ownBlock=some q∧W.heap.size≤q)∧W.heap.size≤wr.heap.size) (fun _ i _=>l.length - (intOf i).toNat)
 case atStart=>exact ⟨0,_,_,rfl,Nat.zero_le _,rfl,Hown1,HbW,hidI (fun _ _ _=>rfl),hidI (.inl rfl),Nat.le_refl _⟩
 case round =>
  obtain ⟨k,a',c',rfl,hk,rfl,Hown,Hb,Hkeep,Hblk,hszr⟩:=hrel;by_cases hlt:k<l.length
  ·obtain ⟨x,hx⟩:∃ x,(qaf l)[k]? = some x:=⟨_,List.getElem?_eq_getElem (by rw [qao];exact hlt)⟩;have hxl:x∈l:=order_mem.1 (List.mem_of_getElem? hx);obtain ⟨gk,rfl,hgk1,hgk2,hcells⟩:=Hak.out (fun h=>by rw [h] at hlt;simp at hlt);have hcell:wr.cell? ⟨gk,k,none⟩=some (.string (txt x.path)):=(World.cell?_of_block (Hkeep.out gk hgk1 hgk2)).trans (hcells k x hx);have hT':=HT.out.below Hb.out hblt;have hlook:=(hT'.look_some (p:=x.path) (by have:=Hp.out x hxl;unfold maxLen;omega) (at_mem Hn.out hxl)).2;have Hx:=hidI hx;have hszb:=Hb.out.size;unfold ndv nd at hlook;simp only at hlook;obtain ⟨X,hX⟩:∃ X,X=txt x.path:=⟨_,rfl⟩;obtain ⟨D,hD⟩:∃ X,X=txt x.data:=⟨_,rfl⟩;obtain ⟨xd,hxd⟩:∃ X,X=x.dir:=⟨_,rfl⟩;rw [←hX] at hcell hlook;rw [←hD,←hxd] at hlook;have HX:=hidI hX;have HD:=hidI hD;have Hxd:=hidI hxd;clear hx hX hD hxd hT' hcells hxl
   go_wp2_with (at_builtin;refine wpList_append_own_at _ rfl _ _ 26 rfl w.heap.size 39 i0 _ 5 56 Tryz.underlying26 hi hz0 hz1 hz2 rfl (by decide) _ _ _ rfl ((Hown.out.alloc _).alloc _) ⟨wr.heap.size+1,0,none⟩ 1 1 (itl x) rfl ?e1 ?e2 ?e3 ?e4 ?e5 ?e6 ?_)
   case e1=>rfl
   case e2 =>
    intro j u hu;rw [addr_add];have h:=(qcz (wr.alloc (.cells #[.bool xd,.string D,.int .i64 x.mode,.int .i64 x.time] 117)) x).cell hu;unfold boxed at h;rw [←HX.out,←HD.out,←Hxd.out] at h;simpa using h
   case e3=>intro u hu;exact qck (l:=[x]) u (by rw [qcX];exact hu)
   case e4=>unfold maxLen;omega
   case e5=>omega
   case e6=>simp;omega
   intro v2 W2 hown2 hgrow2 _ hloc;obtain ⟨g',cap',rfl⟩:=qmc hown2;have hg2:=(((World.grownBy_alloc wr _ (Value.slice a' k c').ownBlock).trans (World.grownBy_alloc _ _ _)).trans hgrow2);have Hown2:Hid (W2.ownsRow w.heap.size 39 5 (.slice (some ⟨g',0,none⟩) (k+1) cap') (k+1) (its ((qaf l).take (k+1)))):=by
    show W2.ownsRow w.heap.size 39 5 (.slice (some ⟨g',0,none⟩) (k+1) cap') (k+1) (its ((qaf l).take (k+1)));rw [List.take_add_one,Hx.out,qb6];have e:its (some x).toList=itl x:=qcX x;rw [e];exact hown2
   have Hb2:Hid (Below w.heap.size w W2):=Hb.out.grown hg2 hszb (fun q hq=>by
    rcases Hblk.out with h | ⟨q',h,h'⟩
    ·rw [h] at hq;cases hq;exact Nat.le_refl _
    rw [h] at hq;cases hq;omega)
   have Hkeep2:Hid (∀ j,w1.heap.size<j→j<W.heap.size→W2.heap[j]? = W.heap[j]?):=fun j h1 h2=>by
    rw [hg2.block j (by omega) (fun e => ?_)]
    ·exact Hkeep.out j h1 h2
    rcases Hblk.out with h | ⟨q',h,h'⟩
    ·rw [h] at e;cases e;omega
    rw [h] at e;cases e;omega
   have Hblk2:Hid ((Value.slice (some ⟨g',0,none⟩) (k+1) cap').ownBlock=some w.heap.size∨∃ q,(Value.slice (some ⟨g',0,none⟩) (k+1) cap').ownBlock=some q∧W.heap.size≤q):=by
    rcases hloc with h | h
    ·rw [h];exact Hblk.out
    exact .inr ⟨_,h,by first | omega | (simp;omega)⟩
   have hsz2:W.heap.size≤W2.heap.size:=Nat.le_trans hszr hg2.size;clear hown2 hgrow2 hg2 hloc hlook hcell Hblk Hkeep Hown;go_wp2;go_roundw
   case rel=>exact ⟨k+1,some ⟨g',0,none⟩,cap',rfl,by omega,by go_num,Hown2,Hb2,Hkeep2,Hblk2,hsz2⟩
   case measure=>simp [intOf];omega
  have Hfin:Hid (wr.ownsRow w.heap.size 39 5 (.slice a' k c') l.length (its (qaf l))):=by
   have h:=Hown.out;have e:k=l.length:=by omega
   rw [e] at h ⊢;rw [List.take_of_length_le (by rw [qao];exact Nat.le_refl _)] at h;exact h
  clear Hown;go_wp2;go_ret
  exact ⟨Hb.out,_,rfl,Hfin.out⟩
end Go.Proofs.YtodmdkhdbfbfgaaGreatDoor
namespace Go.Proofs.YtodmdkhdbfbfgaaGreatDoor
open Go.RowKit Go.Nt
structure TreeP (l:List It):Prop where
 len:l.length≤60
 ok:∀ x∈l,okItem x=true
 nodup:(l.map (·.path)).Nodup
 up:∀ x∈l,par x.path=[]∨dirAt l (par x.path)=true
theorem qaL (l:List It):isTree l=true↔TreeP l:=by
 unfold isTree;simp only [Bool.and_eq_true,decide_eq_true_eq,List.all_eq_true,Bool.or_eq_true];exact ⟨fun ⟨⟨⟨a,b⟩,c⟩,d⟩=>⟨a,b,c,d⟩,fun ⟨a,b,c,d⟩=>⟨⟨⟨a,b⟩,c⟩,d⟩⟩
theorem dirAt_iff {l:List It} {p:Bs}:dirAt l p=true↔∃ y∈l,y.path=p∧y.dir=true:=by
 unfold dirAt;rw [List.any_eq_true];simp
theorem But.own {t e:TypeId} {a b:World} (h:But t a b) (hne:e≠t) {base s n:Nat} {v:Value} {xs:List Value} (ho:a.ownsRow base e s v n xs):b.ownsRow base e s v n xs:=by
 refine ⟨ho.1,?_⟩;rcases ho.2 with ⟨rfl,h0⟩ | ⟨g,cap,cur,rfl,h1,hh,h2⟩
 ·exact .inl ⟨rfl,h0⟩
 exact .inr ⟨g,cap,cur,rfl,h1,h.cells hh hne,h2⟩
theorem Bytes.str {w:World} {B:Nat} {v:Value} {l:Bs} (h:Bytes w B v l):(convert 111 9 v).run Tryz.prog w=.ok (.string (txt l)) w:=S1.conv_own h
theorem qaM (l:List It):(qaf l).Perm l:=List.mergeSort_perm _ _
theorem qhM (l:List It) (k:Nat):weigh (l.take k)≤weigh l:=by
 have h:weigh l=weigh (l.take k)+weigh (l.drop k):=by
  unfold weigh;rw [←List.sum_append,←List.map_append,List.take_append_drop]
 omega
theorem qhj {l:List It} (hf:∀ x∈l,Fit x):weigh l≤4271*l.length:=
 qju _ 4271 l (fun x hx=>by have h:=hf x hx;have:=h.p;have:=h.d;omega)
theorem qjJ (w:World) (n:Nat) (hn:n≤255):Bytes (w.alloc (.cells #[.int .u8 n] 5)) w.heap.size (.slice (some ⟨w.heap.size,0,none⟩) 1 1) (enc 1 n):=by
 have e:bv (enc 1 n)=[.int .u8 n]:=by
  simp only [enc,bv,List.nil_append,List.map_cons,List.map_nil,UInt8.toNat_ofNat']
  congr 2
  omega
 unfold Bytes;rw [qab,e];exact ⟨rfl,.inr ⟨w.heap.size,1,#[.int .u8 n],rfl,Nat.le_refl _,heap_alloc_new _ _,Nat.le_refl _,by unfold maxLen;omega,rfl,rfl⟩⟩
theorem qmt {L:List It} {k:Nat} {x:It} (h:L[k]? = some x):L.take (k+1)=L.take k++[x]:=by
 rw [List.take_add_one,h];rfl
theorem qmd {u:Bs→Option Bs} (hP:PackC u) (b:Nat) (l:List It) (w:World) (hT:TreeAt w b l) (ht:TreeP l) (hml:ML w) :
 Calls Tryz.prog 43 #[.map (some b)] w fun e w'=>∃ t,e=.returned (.string (txt t))∧IsText u (qaf l) t∧Below w.heap.size w w':=by
 obtain ⟨L,hL⟩:∃ L,L=qaf l:=⟨_,rfl⟩;have hLl:L.length=l.length:=by rw [hL];exact (qaM l).length_eq
 have hfit:∀ x∈L,Fit x:=fun x hx=>qaC (ht.ok x ((qaM l).mem_iff.1 (hL ▸ hx)))
 have h60:=ht.len;have hlen:=fun W (h:TreeAt W b l)=>h.len ht.nodup 3
 have HI:=hidI (fun W (h:TreeAt W b l) (hm:ML W)=>qdo b l W h ht.nodup (by omega) hm (fun x hx=>by have:=(qaC (ht.ok x hx)).p;omega));rw [←hL] at HI ⊢;have HLl:=hidI hLl;have Hfit:=hidI hfit;have HT:=hidI hT;have Hml:=hidI hml;have hlen0:=hlen w hT;have Hw:=hidI (qhj hfit);clear hL hfit ht hlen hT hml;go_enter Tryz.func43,Tryz.ntmps43
 go_wp2_with fail;have HB0:=hidI (qjJ w l.length (by omega));obtain ⟨W1,hW1⟩:∃ W1,W1=w.alloc (.cells #[.int .u8 (l.length:Nat)] 5):=⟨_,rfl⟩;rw [←hW1] at HB0 ⊢;have hB1:Below w.heap.size w W1:=by rw [hW1];exact (Below.refl _ w).alloc (Nat.le_refl _) _
 have hs1:W1.heap.size=w.heap.size+1:=by rw [hW1];simp
 have HB1:=hidI hB1;refine (HI.out W1 (HT.out.below hB1 HT.out.lt) (Hml.out.below hB1 Hml.out.lt)).mono ?_;rintro e w2 ⟨hb2,v2,rfl,hown2⟩;have HB2:=hidI (HB1.out.trans (hb2.mono (by omega)));have HY2:Hid (Bytes w2 w.heap.size (.slice (some ⟨w.heap.size,0,none⟩) 1 1) (enc 1 l.length)):=hidI (HB0.out.below hb2 (Nat.le_refl _));rw [←hLl] at hown2;obtain ⟨a2,c2,rfl,hin2⟩:=qbY hown2;have HO2:=hidI hown2;have hsz2:=hb2.size;rw [hLl] at HO2;clear hb2 hown2 hin2 HI HB0 HB1 hB1 hW1 HT Hml hlen0;obtain ⟨n,hn⟩:∃ n,n=l.length:=⟨_,rfl⟩;rw [hLl];rw [←hn] at HO2 HY2 h60 HLl ⊢;clear hn hLl;go_wp2
 go_loopw [3,13] (fun v i wr=>∃ (k:Nat) (e:Bs),k≤n∧i=.int .i64 k∧Hid (qaJ u (L.take k) e)∧Hid (Bytes wr w.heap.size v (enc 1 n++e))∧Hid (Below w.heap.size w wr)∧Hid (But 5 w2 wr)) (fun _ i _=>n - (intOf i).toNat)
 case atStart=>exact ⟨0,[],Nat.zero_le _,rfl,hidI rfl,hidI (by simpa using HY2.out),HB2,hidI (But.refl _ _)⟩
 case round =>
  obtain ⟨k,e,hk,rfl,He,HY,HB,HK⟩:=hrel;have hszr:=HB.out.size;by_cases hlt:k<n
  ·obtain ⟨x,hx⟩:∃ x,L[k]? = some x:=⟨_,List.getElem?_eq_getElem (by have:=HLl.out;omega)⟩;have hox:=HK.out.own (by decide) HO2.out;have hox':wr.ownsRow W1.heap.size 39 5 (.slice a2 L.length c2) L.length (its L):=by rw [HLl.out];exact hox
   rcases qfd hox' with ⟨_,hnil⟩ | ⟨g,cap,hsl,_,hglt,_,_,hc⟩
   ·rw [hnil] at hx;simp at hx
   cases hsl
   have hh:=hc k x hx;rw [Nat.zero_add] at hh;obtain ⟨x0,x1,x2,x3,x4⟩:=hh;have hel:=qbp He.out;have hwt:=qhM L k;have hwl:=Hw.out;have hel':e.length≤300000:=by have:=HLl.out;omega
   obtain ⟨Wb,hWb⟩:∃ Wb,Wb=wr.alloc (.cells #[.string (txt x.path),.bool x.dir,.string (txt x.data),.int .i64 x.mode,.int .i64 x.time] 39):=⟨_,rfl⟩;have A:=hidI (qf0 hP w.heap.size _ _ x Wb (by rw [hWb];simp;omega) (by rw [hWb];exact HY.out.alloc _) (by rw [List.length_append,qab];omega) (Hfit.out x (List.mem_of_getElem? hx)));unfold itv at A;have HBb:Hid (Below w.heap.size w Wb):=hidI (by rw [hWb];exact HB.out.alloc hszr _);have HKb:Hid (But 5 w2 Wb):=hidI (by rw [hWb];exact HK.out.alloc _);have HWb:=hidI hWb;have Hx:=hidI hx;clear hox hox' hc hx hel hwt hwl hWb;go_wp2_with fail;rw [←HWb.out];refine A.out.mono ?_;rintro e3 w3 ⟨v3,a3,rfl,hit,hY3,hB3,hK3⟩;have HB3:=hidI (HBb.out.trans hB3);have HK3:=hidI (HKb.out.trans hK3);have HY3:=hidI hY3;have He3:Hid (qaJ u (L.take (k+1)) (e++a3)):=hidI (by rw [qmt Hx.out];exact qbJ He.out hit)
   clear hit hY3 hB3 hK3 A x0 x1 x2 x3 x4;go_wp2;go_roundw
   case rel=>exact ⟨k+1,e++a3,by omega,by go_num,He3,hidI (by have:=HY3.out;rwa [List.append_assoc] at this),HB3,HK3⟩
   case measure=>simp [intOf];omega
  have hkn:k=n:=by omega
  subst hkn;have hst:=HY.out.str;have HR:Hid (IsText u L (enc 1 k++e)):=by
   refine hidI ⟨e,?_,by rw [HLl.out]⟩
   have:=He.out
   rwa [List.take_of_length_le (by have:=HLl.out;omega)] at this
  go_wp2;go_ret
  exact ⟨_,rfl,HR.out,HB.out⟩
def BuildP (u:Bs→Option Bs) (l:List It) (lo hi cb:Nat) (L:S1.Loc) (m:S1.M) (w:World) (e:Ending) (w':World):Prop:=
 (isTree l=false∧e=.returned (.int .i64 3)∧S1.CP w' lo hi cb L m∧S1.Only lo hi w w') ∨
 (isTree l=true∧∃ t,IsText u (qaf l) t∧e=.returned (.int .i64 (S1.renA m t).1)∧S1.CP w' lo hi cb L (S1.renA m t).2∧S1.Only lo hi w w')
theorem qdb {u:Bs→Option Bs} (hP:PackC u) (a:Option Addr) (c:Nat) (l:List It) (w:World) (lo hi cb:Nat) (L:S1.Loc) (m:S1.M) (hw:S1.WF m) (h:S1.CP w lo hi cb L m) (hsz:hi≤w.heap.size) (hml:ML w) (hmlo:0<lo) (hl:ItsIn w a l) (hn:l.length≤1048576) (hp:∀ x∈l,x.path.length≤1048576) (hd:∀ x∈l,x.data.length≤1048576) :
 Calls Tryz.prog 16 #[.pointer (some ⟨cb,0,none⟩),.slice a l.length c] w fun e w'=>BuildP u l lo hi cb L m w e w':=by
 have HN:=hidI (new_any a c l w hml hl hn hp hd);have HC:=hidI h;have Hml:=hidI hml;have Hw:=hidI hw;clear h hml hl hp hd hw;go_enter Tryz.func16,Tryz.ntmps16
 go_wp2_with fail;refine HN.out.mono ?_;rintro e W1 ⟨hb1,⟨hno,rfl⟩ | ⟨hyes,b,rfl,hbb,hT⟩⟩
 ·have HC1:=hidI (S1.MemX.below HC.out hsz hb1);have HO1:Hid (S1.Only lo hi w W1):=hidI (S1.Only.of_below hb1);clear hb1;go_wp2_with fail;go_ret
  exact .inl ⟨hno,rfl,HC1.out,HO1.out⟩
 have hC1:S1.CP W1 lo hi cb L m:=S1.MemX.below HC.out hsz hb1;have hml1:=Hml.out.below hb1 Hml.out.lt;have htp:TreeP l:=(qaL l).1 hyes;have HT:=hidI (qmd hP b l W1 hT htp hml1);have HO1:Hid (S1.Only lo hi w W1):=hidI (S1.Only.of_below hb1);have HC1:=hidI hC1;have Hb1:=hidI hb1.size;have Hyes:=hidI hyes;have Hfit:=hidI (qhN hyes);clear hb1 hT hC1 hml1 htp hyes HN;go_wp2_with fail;refine HT.out.mono ?_;rintro e W2 ⟨t,rfl,ht,hb2⟩;have hC2:S1.CP W2 lo hi cb L m:=S1.MemX.below HC1.out (by have:=Hb1.out;omega) hb2;have htl:t.length≤1000000:=by
  have h1:=qce ht;have h2:=qhj (l:=qaf l) (fun x hx=>Hfit.out.1 x ((qaM l).mem_iff.1 hx));have h3:(qaf l).length=l.length:=(qaM l).length_eq;have h4:=Hfit.out.2;rw [h3] at h2
  have:4271*l.length≤4271*60:=Nat.mul_le_mul_left _ h4
  omega
 have HR:=hidI (S1.renew_any W2 lo hi cb L m t Hw.out hC2 (by have:=Hb1.out;have:=hb2.size;omega) htl);rw [show S1.txt t=txt t from rfl] at HR;have HO2:=hidI (HO1.out.trans (S1.Only.of_below hb2));have Ht:=hidI ht;clear hC2 hb2 ht HT;go_wp2_with fail;refine HR.out.mono ?_;rintro e W3 ⟨rfl,hC3,hO3⟩;have HC3:=hidI hC3;have HO3:=hidI (HO2.out.trans hO3);obtain ⟨er,her⟩:∃ er,er=(S1.renA m t).1:=⟨_,rfl⟩;rw [←her];have Her:=hidI her;clear hC3 hO3 HR her;go_wp2_with fail;go_ret
 exact .inr ⟨Hyes.out,t,Ht.out,by rw [←Her.out];rfl,HC3.out,HO3.out⟩
end Go.Proofs.YtodmdkhdbfbfgaaGreatDoor
