/- Lemmas. -/
import Derived.Test.YtodmdkhdbfbfgabGreatDoorM43
set_option linter.unusedVariables false
set_option linter.unusedSimpArgs false
set_option maxRecDepth 100000
set_option maxHeartbeats 8000000
namespace Go.Proofs.YtodmdkhdbfbfgabGreatDoor.S1
open Go.RowKit Pk
structure FrS (B:Nat) (w w':World):Prop where
 bel:Below B w w'
 steps:Keeps 240 w w'
theorem FrS.refl (B:Nat) (w:World):FrS B w w:=⟨Below.refl _ _,Keeps.refl _ _⟩
theorem wf_i64 (a:Nat) (h:a≤4000):(Lit.int .i64 (a:Nat)).wf=true:=by
 have h1:IntKind.i64.min = -9223372036854775808:=by decide
 have h2:IntKind.i64.max=9223372036854775807:=by decide
 simp only [Lit.wf,h1,h2,Bool.and_eq_true,decide_eq_true_eq];omega
theorem PM.drewN {w:World} {B pb mb bb m:Nat} {d:List UInt8} {mp:List UInt8→Option Nat} {bf:Nat→Int} (h:PM w B pb mb bb d m mp bf) (q:Nat):PM (w.drewN q) B pb mb bb d m mp bf:=⟨h.hp,h.hm,h.hb,h.st,h.mo,h.bo⟩
theorem PM.drew {w:World} {B pb mb bb m:Nat} {d:List UInt8} {mp:List UInt8→Option Nat} {bf:Nat→Int} (h:PM w B pb mb bb d m mp bf):PM w.drew B pb mb bb d m mp bf:=⟨h.hp,h.hm,h.hb,h.st,h.mo,h.bo⟩
theorem PM.apart {w:World} {B pb mb bb m:Nat} {d:List UInt8} {mp:List UInt8→Option Nat} {bf:Nat→Int} (h:PM w B pb mb bb d m mp bf):pb≠bb∧mb≠bb∧pb≠mb:=by
 obtain ⟨c,hbo,_⟩:=h.bo;obtain ⟨D,⟨es,ck,hmo,_⟩,_⟩:=h.mo;have hst:=h.st;refine ⟨?_,?_,?_⟩
 ·intro e;subst e;rw [hst] at hbo;simp at hbo
 ·intro e;subst e;rw [hmo] at hbo;simp at hbo
 intro e;subst e;rw [hst] at hmo;simp at hmo
theorem PM.before {w:World} {B pb mb bb m:Nat} {d:List UInt8} {mp:List UInt8→Option Nat} {bf:Nat→Int} (h:PM w B pb mb bb d m mp bf) (a:Nat) (x:Int):PM (w.setCell ⟨bb,a,none⟩ (.int .i64 x)) B pb mb bb d m mp (fun j=>if j=a then x else bf j):=by
 obtain ⟨h1,h2,h3⟩:=h.apart;obtain ⟨D,hD,hM⟩:=h.mo;refine ⟨h.hp,h.hm,h.hb,(Below.heap_setCell w ⟨bb,a,none⟩ _ pb h1).trans h.st,⟨D,hD.setCell h2 _,hM⟩,?_⟩;refine (h.bo.set a (.int .i64 x)).congr fun j _ => ?_
 split<;>rfl
theorem PM.kept {w w':World} {B pb mb bb m:Nat} {d:List UInt8} {mp:List UInt8→Option Nat} {bf:Nat→Int} (h:PM w B pb mb bb d m mp bf) {row:Option Nat} (hg:w.grownBy w' row) (h1:row≠some pb) (h2:row≠some mb) (h3:row≠some bb):PM w' B pb mb bb d m mp bf:=by
 obtain ⟨D,hD,hM⟩:=h.mo;exact ⟨h.hp,h.hm,h.hb,(hg.block pb (lt_of_heap h.st) (fun e=>h1 e.symm)).trans h.st,⟨D,hD.kept hg (fun e=>h2 e.symm),hM⟩,h.bo.of_block (hg.block bb h.bo.lt (fun e=>h3 e.symm))⟩
theorem qoA (w:World) (B pb mb bb m a:Nat) (d:List UInt8) (mp:List UInt8→Option Nat) (bf:Nat→Int) (hd:d.length≤4000) (ha:a≤d.length) (h3:d.length<a+3) (h:PM w B pb mb bb d m mp bf) :
 Calls Tryz.prog 204 #[.pointer (some ⟨pb,0,none⟩),.int .i64 (a:Nat)] w fun e w'=>e=.returned (.tuple #[])∧w'=w:=by
 have Hst:=hidI (qhk w pb a d _ _ hd (by omega) h3 h.st);clear h;go_enter Tryz.func204,Tryz.ntmps204
 go_wp2_with (go_at_call 231;refine Hst.out.mono ?_;rintro e w' ⟨rfl,rfl⟩)
 ((try simp only [Exit.inBlock,Exit.then]);refine bodyPost_ret (results_none rfl _ _ _) rfl ?_)
 exact ⟨rfl,rfl⟩
theorem qjP (w:World) (B pb mb bb m a:Nat) (d:List UInt8) (mp:List UInt8→Option Nat) (bf:Nat→Int) (hd:d.length≤4000) (h3:a+3≤d.length) (hm:m≤1000000) (h:PM w B pb mb bb d m mp bf) :
 Calls Tryz.prog 204 #[.pointer (some ⟨pb,0,none⟩),.int .i64 (a:Nat)] w fun e w'=>e=.returned (.tuple #[])∧PM w' B pb mb bb d (m+1) (fun s=>if s=pkKey3 d a then some a else mp s) (fun j=>if j=a then topV (mp (pkKey3 d a)) else bf j)∧FrS B w w':=by
 have Hst:=hidI (qfd w pb a d _ _ hd h3 h.st);have Htop:Hid (∀ V,PM V B pb mb bb d m mp bf→Calls Tryz.prog 232 #[.pointer (some ⟨pb,0,none⟩),.string (txt (pkKey3 d a))] V _):=fun V hV=>qkw V B pb mb bb m d (pkKey3 d a) mp bf (by have:=qeL d a;omega) hV
 have x1:w.cell? ⟨pb,1,none⟩=some (.map (some mb)):=by rw [cell_of_row w pb 1 _ 287 (0,0) h.st];rfl
 have x2:w.cell? ⟨pb,2,none⟩=some (.slice (some ⟨bb,0,none⟩) d.length d.length):=by rw [cell_of_row w pb 2 _ 287 (0,0) h.st];rfl
 have y0:=h.bo.cell (i:=a) (by omega);have yf:=h.bo.frozen a;have han:a<d.length:=by omega
 have Hpm:=hidI h;clear h;obtain ⟨tv,htv⟩:∃ tv,tv=topV (mp (pkKey3 d a)):=⟨_,rfl⟩;simp only [←htv] at Htop ⊢;clear htv;go_enter Tryz.func204,Tryz.ntmps204
 go_wp2_with (go_at_call 231;refine Hst.out.mono ?_;rintro e w' ⟨rfl,hw⟩;have hw':=hw.symm;subst hw');go_region_with (go_at_call 232;refine (Htop.out _ Hpm.out.drew).mono ?_;rintro e w' ⟨rfl,hw⟩;have hw':=hw.symm;subst hw')
 rotate_left
 rotate_left
 all_goals
  have hpm1:=(Hpm.out.before a tv).drew;have hap:=hpm1.apart;have hfr1:FrS B w (w.setCell ⟨bb,a,none⟩ (.int .i64 tv)).drew:=by
   obtain ⟨c,hbo,_⟩:=Hpm.out.bo;exact ⟨((Below.refl B w).setCell (p:=⟨bb,a,none⟩) Hpm.out.hb _).drew,((Keeps.refl 240 w).set hbo (by decide)).drew⟩
  clear x1 x2 y0 yf Hst Htop Hpm
  generalize (w.setCell ⟨bb,a,none⟩ (.int .i64 tv)).drew=W at *
  have x1:W.cell? ⟨pb,1,none⟩=some (.map (some mb)):=by rw [cell_of_row W pb 1 _ 287 (0,0) hpm1.st];rfl
  obtain ⟨D,hD,hMD⟩:=hpm1.mo;have hk3l:=qeL d a;have hkey:keyOf Tryz.prog 9 (.string (txt (pkKey3 d a)))=some (.string (pkKey3 d a)):=WideMaps.keyOf_string_mk Tryz.underlying9 (by rw [qaa];unfold maxLen;omega);have hval:plainElem (H:=Unit) Tryz.prog 3 (.int .i64 (a:Nat))=some (.lit (.int .i64 (a:Nat)),[]):=plainElem_int Tryz.underlying3 (wf_i64 a (by omega));have Hpm1:=hidI hpm1;have Hfr1:=hidI hfr1;have Hap:=hidI hap;have HMD:=hidI (hMD.put (pkKey3 d a) a);clear hpm1 hfr1 hMD hap
  generalize txt (pkKey3 d a)=tk at *
  go_wp2_with (at_mapUpdate;refine wpList_mapUpdate_own _ rfl _ _ _ 285 rfl 9 3 Tryz.keyed9 Tryz.underlying285 (plainElem Tryz.prog 3) mb m D rfl hD (by unfold maxLen;omega) _ _ (.string (pkKey3 d a)) rfl rfl hkey (.lit (.int .i64 (a:Nat))) [] hval ?_;intro w2 hown2 hgrow2);go_end0
  refine ⟨rfl,⟨Hpm1.out.hp,Hpm1.out.hm,Hpm1.out.hb,(hgrow2.block pb (lt_of_heap Hpm1.out.st) (by simp;exact Hap.out.2.2)).trans Hpm1.out.st,⟨_,hown2,HMD.out⟩,Hpm1.out.bo.of_block (hgrow2.block bb Hpm1.out.bo.lt (by simp;exact fun e=>Hap.out.2.1 e.symm))⟩,?_⟩;refine ⟨Hfr1.out.bel.trans ((Below.refl B W).grown hgrow2 ?_ (fun k hk=>by simp at hk;subst hk;exact Hpm1.out.hm)),Hfr1.out.steps.trans fun k x f e=>hgrow2.block k (lt_of_heap e) ?_⟩
  ·exact Nat.le_trans Hpm1.out.hp (Nat.le_of_lt (lt_of_heap Hpm1.out.st))
  intro hk;simp at hk;subst hk;obtain ⟨D2,⟨es,ck,hmo,_⟩,_⟩:=Hpm1.out.mo;rw [hmo] at e;simp at e
theorem PI.add {d:List UInt8} {mp:List UInt8→Option Nat} {bf:Nat→Int} {a:Nat} (h:PI d mp bf a) (h3:a+3≤d.length):PI d (fun s=>if s=pkKey3 d a then some a else mp s) (fun j=>if j=a then topV (mp (pkKey3 d a)) else bf j) (a+1):=by
 refine ⟨fun s v hv => ?_,fun v h1 h2 => ?_,fun v h1 h2 => ?_⟩
 ·by_cases e:s=pkKey3 d a
  ·rw [if_pos e] at hv;cases hv;exact ⟨by omega,h3,e.symm⟩
  rw [if_neg e] at hv;have:=h.lt s v hv;exact ⟨by omega,this.2⟩
 ·by_cases e:v=a
  ·subst e;simp only [if_pos];cases hm:mp (pkKey3 d v) with
   | none=>exact .inl rfl
   | some u=>have:=h.lt _ _ hm;exact .inr ⟨u,rfl,this.1,this.2.2⟩
  simp only [if_neg e];exact h.ch v (by omega) h2
 by_cases e:pkKey3 d v=pkKey3 d a
 ·exact ⟨a,if_pos e⟩
 simp only [if_neg e];exact h.all v (by
  by_cases e2:v=a
  ·subst e2;exact absurd rfl e
  omega) h2
theorem PI.skip {d:List UInt8} {mp:List UInt8→Option Nat} {bf:Nat→Int} {a:Nat} (h:PI d mp bf a) (h3:d.length<a+3):PI d mp bf (a+1):=
 ⟨fun s v hv=>by have:=h.lt s v hv;exact ⟨by omega,this.2⟩,fun v h1 h2=>h.ch v (by omega) h2,fun v h1 h2=>h.all v (by omega) h2⟩
theorem PI.start (d:List UInt8) (bf:Nat→Int):PI d (fun _=>none) bf 0:=⟨fun s v hv=>(by cases hv),fun v h1=>(by omega),fun v h1=>(by omega)⟩
theorem qi8 (w:World) (d:List UInt8) (h0:0<d.length) (hd:d.length≤4000) :
 Calls Tryz.prog 202 #[.string (txt d)] w fun e w'=>∃ pb mb bb,e=.returned (.pointer (some ⟨pb,0,none⟩))∧PM w' w.heap.size pb mb bb d 0 (fun _=>none) (fun _=>0)∧FrS w.heap.size w w':=by
 obtain ⟨n,hn⟩:∃ n,n=d.length:=⟨_,rfl⟩;obtain ⟨M,hM⟩:∃ M,M=madeCells #[Value.int .i64 0] n:=⟨_,rfl⟩;have hmk:∀ W:World,(Instr.makeSlice 22 (.int .i64 (n:Nat)) (.int .i64 (n:Nat))).run Tryz.prog W=.ok (.slice (some ⟨W.heap.size,0,none⟩) n n) (W.alloc (.cells M 3)):=fun W=>by
  rw [hM];exact run_make_row' (P:=Tryz.prog) 22 3 (.int .i64 0) 8 Tryz.underlying22 Tryz.info3 rfl .i64 .i64 n (by omega) (by omega) W
 have hs:(txt d).size=n:=by rw [qaa,hn]
 have HM:=hidI hM;have Hn:=hidI hn;have Ht:Hid (txt d=txt d):=rfl
 generalize htd:txt d=t at *
 have Htd:=hidI htd;clear hM hn htd;have hmm:=@run_makeMap Tryz.prog;go_enter Tryz.func202,Tryz.ntmps202
 go_wp2;go_ret
 obtain ⟨o3,ho3⟩:∃ o,o=Obj.cells #[.string t,.map (some w.heap.size),.slice (some ⟨w.heap.size+1,0,none⟩) n n] 287:=⟨_,rfl⟩;have h3:(((w.alloc (.map #[] 0)).alloc (.cells M 3)).alloc o3).heap[w.heap.size+1+1]? = some o3:=by
  have:=heap_alloc_new ((w.alloc (.map #[] 0)).alloc (.cells M 3)) o3
  simp only [World.size_alloc] at this;exact this
 have h1:(((w.alloc (.map #[] 0)).alloc (.cells M 3)).alloc o3).ownsMap (H:=Unit) Tryz.prog 9 (plainElem Tryz.prog 3) w.heap.size 0 (.map []):=((World.ownsMap_made w _ _ _).alloc _).alloc _;have h2:(((w.alloc (.map #[] 0)).alloc (.cells M 3)).alloc o3).rowIs (w.heap.size+1) 3 n (fun _=>.int .i64 0):=by
  have:=World.rowIs_made (w.alloc (.map #[] 0)) (.int .i64 0) n 3
  rw [←HM.out] at this;simp only [World.size_alloc] at this;exact this.alloc _
 rw [←ho3];refine ⟨w.heap.size+1+1,rfl,⟨w.heap.size,w.heap.size+1,⟨by omega,by omega,by omega,?_,⟨_,h1,MD.nil⟩,?_⟩⟩,?_⟩
 ·rw [h3,ho3,←Hn.out,Htd.out]
 ·rw [←Hn.out];exact h2
 exact ⟨(((Below.refl _ w).alloc (Nat.le_refl _) _).alloc (by simp) _).alloc (by simp;omega) _,(((Keeps.refl 240 w).alloc _).alloc _).alloc _⟩
end Go.Proofs.YtodmdkhdbfbfgabGreatDoor.S1
namespace Go.Proofs.YtodmdkhdbfbfgabGreatDoor.S1.Pk
open Go
def sumL {α:Type} (f:α→Nat):List α→Nat
 | []=>0
 | x :: l=>f x+sumL f l
theorem qaA {α:Type} (f:α→Nat) (a b:List α):sumL f (a++b)=sumL f a+sumL f b:=by
 induction a with
 | nil=>simp [sumL]
 | cons x a ih=>simp [sumL,ih];omega
theorem qft {α:Type} (f:α→Nat) {a b:List α} (h:List.Perm a b):sumL f a=sumL f b:=by
 induction h with
 | nil=>rfl
 | cons x _ ih=>simp [sumL,ih]
 | swap x y l=>simp [sumL];omega
 | trans _ _ ih1 ih2=>exact ih1.trans ih2
theorem qbN {α:Type} {f g:α→Nat} {l:List α} (h:∀ x∈l,f x=g x):sumL f l=sumL g l:=by
 induction l with
 | nil=>rfl
 | cons x l ih=>simp only [sumL];rw [h x (by simp),ih (fun y hy=>h y (by simp [hy]))]
theorem qnI {α:Type} {f g:α→Nat} {l:List α} (h:∀ x∈l,f x≤g x):sumL f l≤sumL g l:=by
 induction l with
 | nil=>exact Nat.le_refl _
 | cons x l ih=>simp only [sumL];have:=h x (by simp);have:=ih (fun y hy=>h y (by simp [hy]));omega
theorem qeH {α:Type} (f:α→Nat) (k:Nat) (l:List α):sumL (fun x=>k*f x) l=k*sumL f l:=by
 induction l with
 | nil=>simp [sumL]
 | cons x l ih=>simp only [sumL];rw [ih,Nat.mul_add]
def Fb:Nat→Nat
 | 0=>1
 | 1=>2
 | n+2=>Fb (n+1)+Fb n
theorem qgL (d:Nat):Fb (d+1)=Fb d+Fb (d - 1):=by
 cases d with
 | zero=>rfl
 | succ d=>rfl
theorem qgx (d:Nat):Fb d≤Fb (d+1):=by rw [qgL];omega
theorem qkM {a b:Nat} (h:a≤b):Fb a≤Fb b:=by
 induction b with
 | zero=>rw [show a=0 by omega];exact Nat.le_refl _
 | succ b ih =>
   by_cases e:a=b+1
   ·rw [e];exact Nat.le_refl _
   exact Nat.le_trans (ih (by omega)) (qgx b)
theorem qoH:Fb 13=610:=by decide
structure JI (K:Nat) (es:List Ent) (G:Nat→List Nat) (D:Nat→Nat) (ln:Nat→Nat) (S:List Nat) (W:Nat):Prop where
 sym:List.Perm ((es.map fun e=>G e.b).flatten) S
 len:∀ e∈es,∀ i∈G e.b,ln i+1≤(G e.b).length
 kr:∀ e∈es,sumL (fun i=>2^(K - ln i)) (G e.b)=2^K
 dep:∀ e∈es,∀ i∈G e.b,ln i≤D e.b
 fib:∀ e∈es,Fb (D e.b)≤e.wt
 fib2:∀ e∈es,∀ e'∈es,Fb (D e.b - 1)≤e'.wt
 sum:sumL (fun e=>e.wt) es=W
 zero:∀ i,i∉S→ln i=0
theorem JI.perm {K:Nat} {es es':List Ent} {G:Nat→List Nat} {D ln:Nat→Nat} {S:List Nat} {W:Nat} (h:JI K es G D ln S W) (p:List.Perm es' es):JI K es' G D ln S W:=
 ⟨((p.map _).flatten).trans h.sym,fun e he=>h.len e (p.mem_iff.1 he),fun e he=>h.kr e (p.mem_iff.1 he),fun e he=>h.dep e (p.mem_iff.1 he),fun e he=>h.fib e (p.mem_iff.1 he),fun e he e' he'=>h.fib2 e (p.mem_iff.1 he) e' (p.mem_iff.1 he'),(qft _ p).trans h.sum,h.zero⟩
theorem glen {K:Nat} {es:List Ent} {G:Nat→List Nat} {D ln:Nat→Nat} {S:List Nat} {W:Nat} (h:JI K es G D ln S W) {e:Ent} (he:e∈es):(G e.b).length≤S.length:=by
 rw [←h.sym.length_eq];clear h
 induction es with
 | nil=>simp at he
 | cons x es ih =>
   simp only [List.map_cons,List.flatten_cons,List.length_append];rcases List.mem_cons.1 he with rfl | he
   ·omega
   have:=ih he;omega
theorem JI.start (K:Nat) (G:Nat→List Nat):JI K [] G (fun _=>0) (fun _=>0) [] 0:=
 ⟨by simp,by simp,by simp,by simp,by simp,by simp,rfl,by simp⟩
theorem JI.one {K:Nat} {es:List Ent} {G:Nat→List Nat} {S:List Nat} {W:Nat} (h:JI K es G (fun _=>0) (fun _=>0) S W) (c:Ent) (i:Nat) (hw:0<c.wt) (hc:∀ e∈es,e.b≠c.b) :
 JI K (c :: es) (fun b=>if b=c.b then [i] else G b) (fun _=>0) (fun _=>0) (S++[i]) (W+c.wt):=by
 have hG:∀ e∈es,(fun b=>if b=c.b then [i] else G b) e.b=G e.b:=fun e he=>if_neg (hc e he)
 have hm:es.map (fun e=>(fun b=>if b=c.b then [i] else G b) e.b)=es.map fun e=>G e.b:=List.map_congr_left hG
 refine ⟨?_,?_,?_,fun _ _ _ _=>Nat.zero_le _,?_,?_,?_,fun _ _=>rfl⟩
 ·rw [List.map_cons,hm];simp only [if_pos,List.flatten_cons];exact (List.perm_append_comm).trans (h.sym.append_right _)
 ·intro e he j hj;rcases List.mem_cons.1 he with rfl | he
  ·simp
  simp only [hG e he] at hj ⊢;exact h.len e he j hj
 ·intro e he;rcases List.mem_cons.1 he with rfl | he
  ·simp [sumL]
  simp only [hG e he];exact h.kr e he
 ·intro e he;rcases List.mem_cons.1 he with rfl | he
  ·simp [Fb];omega
  exact h.fib e he
 ·intro e he e' he';rcases List.mem_cons.1 he' with rfl | k'
  ·simp [Fb];omega
  rcases List.mem_cons.1 he with rfl | k
  ·have:=h.fib e' k';simp [Fb] at this ⊢;omega
  exact h.fib2 e k e' k'
 simp only [sumL];rw [h.sum];omega
theorem qhj (K a:Nat) (h:a+1≤K):2*2^(K - (a+1))=2^(K - a):=by
 rw [←Nat.pow_succ'];congr 1;omega
theorem JI.join {K:Nat} {r:List Ent} {e1 e2:Ent} {G:Nat→List Nat} {D ln:Nat→Nat} {S:List Nat} {W:Nat} (h:JI K (e1 :: e2 :: r) G D ln S W) (hS:S.Nodup) (hK:S.length≤K) (h12:e1.wt≤e2.wt) (hr:∀ e∈r,e2.wt≤e.wt)
 (c:Ent) (hw:c.wt=e1.wt+e2.wt) (hc:∀ e∈r,e.b≠c.b) (ln':Nat→Nat) (hl1:∀ i,i∈G e1.b++G e2.b→ln' i=ln i+1) (hl2:∀ i,i∉G e1.b++G e2.b→ln' i=ln i) :
 JI K (c :: r) (fun b=>if b=c.b then G e1.b++G e2.b else G b) (fun b=>if b=c.b then max (D e1.b) (D e2.b)+1 else D b) ln' S W:=by
 have m1:e1∈e1 :: e2 :: r:=by simp
 have m2:e2∈e1 :: e2 :: r:=by simp
 have mr:∀ e∈r,e∈e1 :: e2 :: r:=fun e he=>by simp [he]
 have hsym:=h.sym;simp only [List.map_cons,List.flatten_cons] at hsym;have hnd:=hsym.symm.nodup hS;rw [←List.append_assoc] at hnd;have hdis:∀ i,i∈G e1.b++G e2.b→∀ e∈r,i∉G e.b:=by
  intro i hi e he hie;exact (List.nodup_append.1 hnd).2.2 i hi i (List.mem_flatten.2 ⟨G e.b,List.mem_map.2 ⟨e,he,rfl⟩,hie⟩) rfl
 have hln:∀ e∈r,∀ i∈G e.b,ln' i=ln i:=fun e he i hi=>hl2 i fun hm=>hdis i hm e he hi
 have hlen1:∀ i∈G e1.b,ln i+1≤K:=fun i hi=>by
  have a:=h.len e1 m1 i hi;have b:=glen h m1;omega
 have hlen2:∀ i∈G e2.b,ln i+1≤K:=fun i hi=>by
  have a:=h.len e2 m2 i hi;have b:=glen h m2;omega
 have hG:∀ e∈r,(if e.b=c.b then G e1.b++G e2.b else G e.b)=G e.b:=fun e he=>if_neg (hc e he)
 have hD:∀ e∈r,(if e.b=c.b then max (D e1.b) (D e2.b)+1 else D e.b)=D e.b:=fun e he=>if_neg (hc e he)
 have hf1:=h.fib e1 m1;have hf2:=h.fib e2 m2;have hf12:=h.fib2 e1 m1 e2 m2;have hf21:=h.fib2 e2 m2 e1 m1;have hFc:Fb (max (D e1.b) (D e2.b)+1)≤c.wt:=by
  rw [hw];rcases Nat.le_total (D e1.b) (D e2.b) with hle | hle
  ·rw [Nat.max_eq_right hle,qgL];omega
  rw [Nat.max_eq_left hle,qgL];omega
 have hFm:Fb (max (D e1.b) (D e2.b))≤e2.wt:=by
  rcases Nat.le_total (D e1.b) (D e2.b) with hle | hle
  ·rw [Nat.max_eq_right hle];exact hf2
  rw [Nat.max_eq_left hle];omega
 refine ⟨?_,?_,?_,?_,?_,?_,?_,?_⟩
 ·have hm:r.map (fun e=>if e.b=c.b then G e1.b++G e2.b else G e.b)=r.map fun e=>G e.b:=List.map_congr_left hG
  rw [List.map_cons,hm];simp only [if_pos,List.flatten_cons];rw [List.append_assoc];exact hsym
 ·intro e he i hi;rcases List.mem_cons.1 he with rfl | he
  ·simp only [if_pos] at hi ⊢;rw [hl1 i hi];rw [List.length_append];rcases List.mem_append.1 hi with hi | hi
   ·have:=h.len e1 m1 i hi
    have:0<(G e2.b).length:=by
     have hk:=h.kr e2 m2;cases hg:G e2.b with
     | nil=>rw [hg] at hk;simp only [sumL] at hk;have:=Nat.pow_pos (n:=K) (show 0<2 by omega);omega
     | cons x l=>simp
    omega
   have:=h.len e2 m2 i hi
   have:0<(G e1.b).length:=by
    have hk:=h.kr e1 m1;cases hg:G e1.b with
    | nil=>rw [hg] at hk;simp only [sumL] at hk;have:=Nat.pow_pos (n:=K) (show 0<2 by omega);omega
    | cons x l=>simp
   omega
  simp only [hG e he] at hi ⊢;rw [hln e he i hi];exact h.len e (mr e he) i hi
 ·intro e he;rcases List.mem_cons.1 he with rfl | he
  ·simp only [if_pos];rw [qaA];have k1:2*sumL (fun i=>2^(K - ln' i)) (G e1.b)=2^K:=by
    rw [←qeH,←h.kr e1 m1];refine qbN fun i hi => ?_
    rw [hl1 i (List.mem_append.2 (.inl hi))];exact qhj K _ (hlen1 i hi)
   have k2:2*sumL (fun i=>2^(K - ln' i)) (G e2.b)=2^K:=by
    rw [←qeH,←h.kr e2 m2];refine qbN fun i hi => ?_
    rw [hl1 i (List.mem_append.2 (.inr hi))];exact qhj K _ (hlen2 i hi)
   omega
  simp only [hG e he];rw [←h.kr e (mr e he)];exact qbN fun i hi=>by rw [hln e he i hi]
 ·intro e he i hi;rcases List.mem_cons.1 he with rfl | he
  ·simp only [if_pos] at hi ⊢;rw [hl1 i hi];rcases List.mem_append.1 hi with hi | hi
   ·have:=h.dep e1 m1 i hi;omega
   have:=h.dep e2 m2 i hi;omega
  simp only [hG e he] at hi;simp only [hD e he];rw [hln e he i hi];exact h.dep e (mr e he) i hi
 ·intro e he;rcases List.mem_cons.1 he with rfl | he
  ·simp only [if_pos];exact hFc
  simp only [hD e he];exact h.fib e (mr e he)
 ·intro e he e' he';rcases List.mem_cons.1 he with rfl | k
  ·simp only [if_pos,Nat.add_sub_cancel];rcases List.mem_cons.1 he' with rfl | k'
   ·omega
   have:=hr e' k';omega
  simp only [hD e k];rcases List.mem_cons.1 he' with rfl | k'
  ·have:=h.fib2 e (mr e k) e1 m1;omega
  exact h.fib2 e (mr e k) e' (mr e' k')
 ·have:=h.sum
  simp only [sumL] at this ⊢;omega
 intro i hi;have h1:i∉G e1.b++G e2.b:=fun hm=>hi (hsym.mem_iff.1 (by rw [←List.append_assoc];exact List.mem_append.2 (.inl hm)))
 rw [hl2 i h1];exact h.zero i hi
end Go.Proofs.YtodmdkhdbfbfgabGreatDoor.S1.Pk
namespace Go.Proofs.YtodmdkhdbfbfgabGreatDoor.S1
open Go.RowKit Pk
theorem Tryz.info101:(Tryz.prog.info? 240).map (fun i=>(i.zero,i.size,i.bytes))=some (some (.agg #[.int .i64 0,.int .i64 0]),2,16):=by kernel_rfl
def qan:List (Nat × Nat)→List Value
 | []=>[]
 | s :: l=>.int .i64 (s.1:Nat) :: .int .i64 (s.2:Nat) :: qan l
theorem qbs (a b:List (Nat × Nat)):qan (a++b)=qan a++qan b:=by
 induction a with
 | nil=>rfl
 | cons x a ih=>simp [qan,ih]
theorem qcc (l:List (Nat × Nat)) (i:Nat) (h:i<l.length):(qan l)[2*i]? = some (.int .i64 ((l.getD i (0,0)).1:Nat))∧(qan l)[2*i+1]? = some (.int .i64 ((l.getD i (0,0)).2:Nat)):=by
 induction l generalizing i with
 | nil=>simp at h
 | cons x l ih =>
   cases i with
   | zero=>simp [qan]
   | succ i =>
     have:=ih i (by simpa using h)
     rw [show 2*(i+1)=2*i+1+1 by omega,show 2*i+1+1+1=(2*i+1)+1+1 by omega];simpa [qan] using this
def posS (l:List (Nat × Nat)) (k:Nat):Nat:=sumL Pk.slen (l.take k)
theorem qj8 (l:List (Nat × Nat)) (s:Nat × Nat) (k:Nat) (h:k≤l.length):posS (l++[s]) k=posS l k:=by
 unfold posS;rw [List.take_append_of_le_length h]
theorem ql8 (l:List (Nat × Nat)) (s:Nat × Nat):posS (l++[s]) (l.length+1)=posS l l.length+Pk.slen s:=by
 unfold posS;rw [List.take_of_length_le (by simp),List.take_of_length_le (Nat.le_refl _),qaA];simp [sumL]
theorem qdI (l:List (Nat × Nat)) (k:Nat) (h:k<l.length):posS l (k+1)=posS l k+Pk.slen (l.getD k (0,0)):=by
 unfold posS;rw [List.take_add_one,List.getElem?_eq_getElem h,qaA,List.getD_eq_getElem?_getD,List.getElem?_eq_getElem h];simp [sumL]
structure OkS (d:List UInt8) (l:List (Nat × Nat)) (a:Nat):Prop where
 ok:∀ k,k<l.length→okStep d (posS l k) (l.getD k (0,0))
 fin:posS l l.length=a
theorem OkS.snoc {d:List UInt8} {l:List (Nat × Nat)} {a:Nat} (h:OkS d l a) (s:Nat × Nat) (hs:okStep d a s):OkS d (l++[s]) (a+Pk.slen s):=by
 refine ⟨fun k hk => ?_,?_⟩
 ·simp at hk;rw [qj8 l s k (by omega)];by_cases e:k=l.length
  ·subst e;rw [h.fin,List.getD_eq_getElem?_getD,List.getElem?_append_right (Nat.le_refl _)];simpa using hs
  rw [List.getD_eq_getElem?_getD,List.getElem?_append_left (by omega),←List.getD_eq_getElem?_getD];exact h.ok k (by omega)
 rw [List.length_append,List.length_singleton,ql8,h.fin]
def litS (l:List (Nat × Nat)):Nat:=sumL (fun s=>if s.1<256 then 1 else 0) l
def cpS (l:List (Nat × Nat)):Nat:=sumL (fun s=>if s.1<256 then 0 else 1) l
theorem qgo (l:List (Nat × Nat)) (s:Nat × Nat):litS (l++[s])=litS l+if s.1<256 then 1 else 0:=by unfold litS;rw [qaA];simp [sumL]
theorem qhA (l:List (Nat × Nat)) (s:Nat × Nat):cpS (l++[s])=cpS l+if s.1<256 then 0 else 1:=by unfold cpS;rw [qaA];simp [sumL]
inductive AS (n c a:Nat) (l:List (Nat × Nat)):Prop
 | start:a=0→l=[]→AS n c a l
 | run:1≤a→litS l=1→34*cpS l+1=a→(∀ s∈l,s.1=c∨s.1=287)→AS n c a l
 | rest (x:Nat):n<a+3→litS l+(n - a)≤3→34*cpS l≤a+33→(∀ s∈l,s.1=c∨s.1=287∨s.1=x)→AS n c a l
theorem AS.lit {n c a:Nat} {l:List (Nat × Nat)} (h:AS n c a l) (hc:c<256) (ha:a<n) (h3:n<a+3∨a=0):AS n c (a+1) (l++[(c,0)]):=by
 have e1:=qgo l (c,0);have e2:=qhA l (c,0);rw [if_pos hc] at e1 e2;cases h with
 | start h1 h2 =>
   subst h1;subst h2;refine .run (by omega) (by rw [e1];rfl) (by rw [e2];rfl) (fun s hs => ?_);simp at hs;subst hs;exact .inl rfl
 | run h1 h2 h4 h5 =>
   refine .rest c (by omega) (by omega) (by omega) (fun s hs => ?_);rcases List.mem_append.1 hs with hs | hs
   ·rcases h5 s hs with h | h
    ·exact .inl h
    exact .inr (.inl h)
   simp at hs;subst hs;exact .inl rfl
 | rest x h1 h2 h4 h5 =>
   refine .rest x (by omega) (by omega) (by omega) (fun s hs => ?_);rcases List.mem_append.1 hs with hs | hs
   ·exact h5 s hs
   simp at hs;subst hs;exact .inl rfl
theorem AS.cp {n c a len bk:Nat} {l:List (Nat × Nat)} (h:AS n c a l) (h3:a+3≤n) (ha:1≤a) (hl:len=min 34 (n - a)):AS n c (a+len) (l++[(len+253,bk)]):=by
 have e1:=qgo l (len+253,bk);have e2:=qhA l (len+253,bk);rw [if_neg (by simp;omega)] at e1 e2;cases h with
 | start h1 h2=>omega
 | run h1 h2 h4 h5 =>
   by_cases e:len=34
   ·refine .run (by omega) (by omega) (by omega) (fun s hs => ?_);rcases List.mem_append.1 hs with hs | hs
    ·exact h5 s hs
    simp at hs;subst hs;right;simp;omega
   refine .rest (len+253) (by omega) (by omega) (by omega) (fun s hs => ?_);rcases List.mem_append.1 hs with hs | hs
   ·rcases h5 s hs with h | h
    ·exact .inl h
    exact .inr (.inl h)
   simp at hs;subst hs;right;right;rfl
 | rest x h1 h2 h4 h5=>omega
theorem Keeps.ownN {t:TypeId} {w w':World} (h:Keeps t w w') {base n size:Nat} {v:Value} {xs:List Value} (o:w.ownsRow base t size v n xs):w'.ownsRow base t size v n xs:=by
 refine ⟨o.1,?_⟩;rcases o.2 with h1 | ⟨g,cap,cur,h1,h2,h3,h4⟩
 ·exact .inl h1
 exact .inr ⟨g,cap,cur,h1,h2,h.block h3,h4⟩
end Go.Proofs.YtodmdkhdbfbfgabGreatDoor.S1
