/- Lemmas. -/
import Derived.Test.YtodmdkhdbfbfgaaGreatDoorM24
set_option linter.unusedVariables false
set_option linter.unusedSimpArgs false
set_option maxRecDepth 100000
set_option maxHeartbeats 8000000
namespace Go.Proofs.YtodmdkhdbfbfgaaGreatDoor.S1
open Go.RowKit Pk
theorem Tryz.info101:(Tryz.prog.info? 282).map (fun i=>(i.zero,i.size,i.bytes))=some (some (.agg #[.int .i64 0,.int .i64 0]),2,16):=by kernel_rfl
def qaj:List (Nat × Nat)→List Value
 | []=>[]
 | s :: l=>.int .i64 (s.1:Nat) :: .int .i64 (s.2:Nat) :: qaj l
theorem qbj (a b:List (Nat × Nat)):qaj (a++b)=qaj a++qaj b:=by
 induction a with
 | nil=>rfl
 | cons x a ih=>simp [qaj,ih]
theorem qbO (l:List (Nat × Nat)) (i:Nat) (h:i<l.length):(qaj l)[2*i]? = some (.int .i64 ((l.getD i (0,0)).1:Nat))∧(qaj l)[2*i+1]? = some (.int .i64 ((l.getD i (0,0)).2:Nat)):=by
 induction l generalizing i with
 | nil=>simp at h
 | cons x l ih =>
   cases i with
   | zero=>simp [qaj]
   | succ i =>
     have:=ih i (by simpa using h)
     rw [show 2*(i+1)=2*i+1+1 by omega,show 2*i+1+1+1=(2*i+1)+1+1 by omega];simpa [qaj] using this
def posS (l:List (Nat × Nat)) (k:Nat):Nat:=sumL Pk.slen (l.take k)
theorem qkv (l:List (Nat × Nat)) (s:Nat × Nat) (k:Nat) (h:k≤l.length):posS (l++[s]) k=posS l k:=by
 unfold posS;rw [List.take_append_of_le_length h]
theorem qlm (l:List (Nat × Nat)) (s:Nat × Nat):posS (l++[s]) (l.length+1)=posS l l.length+Pk.slen s:=by
 unfold posS;rw [List.take_of_length_le (by simp),List.take_of_length_le (Nat.le_refl _),qay];simp [sumL]
theorem qdc (l:List (Nat × Nat)) (k:Nat) (h:k<l.length):posS l (k+1)=posS l k+Pk.slen (l.getD k (0,0)):=by
 unfold posS;rw [List.take_add_one,List.getElem?_eq_getElem h,qay,List.getD_eq_getElem?_getD,List.getElem?_eq_getElem h];simp [sumL]
structure OkS (d:List UInt8) (l:List (Nat × Nat)) (a:Nat):Prop where
 ok:∀ k,k<l.length→okStep d (posS l k) (l.getD k (0,0))
 fin:posS l l.length=a
theorem OkS.snoc {d:List UInt8} {l:List (Nat × Nat)} {a:Nat} (h:OkS d l a) (s:Nat × Nat) (hs:okStep d a s):OkS d (l++[s]) (a+Pk.slen s):=by
 refine ⟨fun k hk => ?_,?_⟩
 ·simp at hk;rw [qkv l s k (by omega)];by_cases e:k=l.length
  ·subst e;rw [h.fin,List.getD_eq_getElem?_getD,List.getElem?_append_right (Nat.le_refl _)];simpa using hs
  rw [List.getD_eq_getElem?_getD,List.getElem?_append_left (by omega),←List.getD_eq_getElem?_getD];exact h.ok k (by omega)
 rw [List.length_append,List.length_singleton,qlm,h.fin]
def litS (l:List (Nat × Nat)):Nat:=sumL (fun s=>if s.1<256 then 1 else 0) l
def cpS (l:List (Nat × Nat)):Nat:=sumL (fun s=>if s.1<256 then 0 else 1) l
theorem qfT (l:List (Nat × Nat)) (s:Nat × Nat):litS (l++[s])=litS l+if s.1<256 then 1 else 0:=by unfold litS;rw [qay];simp [sumL]
theorem qg3 (l:List (Nat × Nat)) (s:Nat × Nat):cpS (l++[s])=cpS l+if s.1<256 then 0 else 1:=by unfold cpS;rw [qay];simp [sumL]
inductive AS (n c a:Nat) (l:List (Nat × Nat)):Prop
 | start:a=0→l=[]→AS n c a l
 | run:1≤a→litS l=1→34*cpS l+1=a→(∀ s∈l,s.1=c∨s.1=287)→AS n c a l
 | rest (x:Nat):n<a+3→litS l+(n - a)≤3→34*cpS l≤a+33→(∀ s∈l,s.1=c∨s.1=287∨s.1=x)→AS n c a l
theorem AS.lit {n c a:Nat} {l:List (Nat × Nat)} (h:AS n c a l) (hc:c<256) (ha:a<n) (h3:n<a+3∨a=0):AS n c (a+1) (l++[(c,0)]):=by
 have e1:=qfT l (c,0);have e2:=qg3 l (c,0);rw [if_pos hc] at e1 e2;cases h with
 | start h1 h2 =>
   subst h1;subst h2;refine .run (by omega) (by rw [e1];rfl) (by rw [e2];rfl) (fun s hs => ?_);simp at hs;subst hs;exact .inl rfl
 | run h1 h2 h4 h5 =>
   refine .rest c (by omega) (by omega) (by omega) (fun s hs => ?_);rcases List.mem_append.1 hs with hs | hs
   ·rcases h5 s hs with h | h
    ·exact .inl h
    exact .inr (.inl h)
   simp at hs;subst hs;exact .inl rfl
 | rest x h1 h2 h4 h5 =>
   refine .rest x (by omega) (by omega) (by omega) (fun s hs => ?_);rcases List.mem_append.1 hs with hs | hs
   ·exact h5 s hs
   simp at hs;subst hs;exact .inl rfl
theorem AS.cp {n c a len bk:Nat} {l:List (Nat × Nat)} (h:AS n c a l) (h3:a+3≤n) (ha:1≤a) (hl:len=min 34 (n - a)):AS n c (a+len) (l++[(len+253,bk)]):=by
 have e1:=qfT l (len+253,bk);have e2:=qg3 l (len+253,bk);rw [if_neg (by simp;omega)] at e1 e2;cases h with
 | start h1 h2=>omega
 | run h1 h2 h4 h5 =>
   by_cases e:len=34
   ·refine .run (by omega) (by omega) (by omega) (fun s hs => ?_);rcases List.mem_append.1 hs with hs | hs
    ·exact h5 s hs
    simp at hs;subst hs;right;simp;omega
   refine .rest (len+253) (by omega) (by omega) (by omega) (fun s hs => ?_);rcases List.mem_append.1 hs with hs | hs
   ·rcases h5 s hs with h | h
    ·exact .inl h
    exact .inr (.inl h)
   simp at hs;subst hs;right;right;rfl
 | rest x h1 h2 h4 h5=>omega
theorem Keeps.ownN {t:TypeId} {w w':World} (h:Keeps t w w') {base n size:Nat} {v:Value} {xs:List Value} (o:w.ownsRow base t size v n xs):w'.ownsRow base t size v n xs:=by
 refine ⟨o.1,?_⟩;rcases o.2 with h1 | ⟨g,cap,cur,h1,h2,h3,h4⟩
 ·exact .inl h1
 exact .inr ⟨g,cap,cur,h1,h2,h.block h3,h4⟩
structure SS (w0 w:World) (B pb mb bb:Nat) (d:List UInt8) (a m:Nat) (v:Value) (l:List (Nat × Nat)) (mp:List UInt8→Option Nat) (bf:Nat→Int):Prop where
 pm:PM w B pb mb bb d m mp bf
 pi:PI d mp bf a
 own:w.ownsRow B 282 2 v l.length (qaj l)
 bel:Below B w0 w
theorem qkL {w:World} {B:Nat} {v:Value} {n:Nat} {xs:List Value} (h:w.ownsRow B 282 2 v n xs) {pb mb bb m:Nat} {d:List UInt8} {mp:List UInt8→Option Nat} {bf:Nat→Int} (p:PM w B pb mb bb d m mp bf):v.ownBlock≠some pb∧v.ownBlock≠some mb∧v.ownBlock≠some bb:=by
 obtain ⟨c,hbo,_⟩:=p.bo;obtain ⟨D,⟨es,ck,hmo,_⟩,_⟩:=p.mo;have hst:=p.st;refine ⟨?_,?_,?_⟩
 ·intro e;obtain ⟨_,_,hk⟩:=Lib.ownsRow_kind h pb e;rw [hst] at hk;simp at hk
 ·intro e;obtain ⟨_,_,hk⟩:=Lib.ownsRow_kind h mb e;rw [hmo] at hk;simp at hk
 intro e;obtain ⟨_,_,hk⟩:=Lib.ownsRow_kind h bb e;rw [hbo] at hk;simp at hk
theorem qbI (w:World) (a b:Value) (t:TypeId):∀ j u,[a,b][j]? = some u→(w.alloc (.cells #[a,b] t)).cell? ((⟨w.heap.size,0,none⟩:Addr).add j)=some u:=
 World.news_of_block (cs:=#[a,b]) (heap_alloc_new _ _)
theorem slice_form {w:World} {B n:Nat} {e:TypeId} {size:Nat} {v:Value} {xs:List Value} (h:w.ownsRow B e size v n xs):∃ a c,v=.slice a n c:=by
 rcases h.2 with ⟨rfl,h0⟩ | ⟨g,cap,cur,rfl,_⟩
 ·rw [h0];exact ⟨_,_,rfl⟩
 exact ⟨_,_,rfl⟩
theorem qjL (d:List UInt8) (c:Nat) (h:∀ i,i<d.length→(d.getD i 0).toNat=c) (u a:Nat) (hu:u+3≤d.length) (ha:a+3≤d.length):pkKey3 d u=pkKey3 d a:=by
 have key:∀ v,v+3≤d.length→pkKey3 d v=[d.getD v 0,d.getD (v+1) 0,d.getD (v+2) 0]:=fun v hv=>by
  unfold pkKey3
  apply List.ext_getElem?
  intro j;by_cases hj:j<3
  ·rw [List.getElem?_take_of_lt hj,List.getElem?_drop,List.getElem?_eq_getElem (by omega)];have h3:j=0∨j=1∨j=2:=by omega
   rcases h3 with rfl | rfl | rfl<;>simp [List.getD_eq_getElem?_getD,List.getElem?_eq_getElem (show v<d.length by omega),List.getElem?_eq_getElem (show v+1<d.length by omega),List.getElem?_eq_getElem (show v+2<d.length by omega)]
  rw [List.getElem?_eq_none (by rw [List.length_take];omega),List.getElem?_eq_none (by simp;omega)]
 have e:∀ i j,i<d.length→j<d.length→d.getD i 0=d.getD j 0:=fun i j hi hj=>UInt8.toNat_inj.1 ((h i hi).trans (h j hj).symm)
 rw [key u hu,key a ha,e u a (by omega) (by omega),e (u+1) (a+1) (by omega) (by omega),e (u+2) (a+2) (by omega) (by omega)]
def AddP (w:World) (B pb mb bb m a:Nat) (d:List UInt8) (e:Ending) (w':World):Prop:=e=.returned (.tuple #[])∧∃ m2 mp2 bf2,m2≤m+1∧PM w' B pb mb bb d m2 mp2 bf2∧PI d mp2 bf2 (a+1)∧FrS B w w'
theorem qhe (w:World) (B pb mb bb m a:Nat) (d:List UInt8) (mp:List UInt8→Option Nat) (bf:Nat→Int) (hd:d.length≤4000) (ha:a≤d.length) (hm:m≤1000000) (h:PM w B pb mb bb d m mp bf) (hp:PI d mp bf a) :
 Calls Tryz.prog 278 #[.pointer (some ⟨pb,0,none⟩),.int .i64 (a:Nat)] w fun e w'=>AddP w B pb mb bb m a d e w':=by
 by_cases h3:a+3≤d.length
 ·refine (qjr w B pb mb bb m a d mp bf hd h3 hm h).mono ?_;rintro e w' ⟨rfl,h1,h2⟩;exact ⟨rfl,_,_,_,Nat.le_refl _,h1,hp.add h3,h2⟩
 refine (qnr w B pb mb bb m a d mp bf hd ha (by omega) h).mono ?_;rintro e w' ⟨rfl,rfl⟩;exact ⟨rfl,_,_,_,by omega,h,hp.skip (by omega),FrS.refl _ _⟩
theorem qiR (len bk:Nat) (h:3≤len):Pk.slen (len+253,bk)=len:=by
 unfold Pk.slen;rw [if_neg (by simp;omega)];simp
def SplitP (d:List UInt8) (w:World) (e:Ending) (w':World):Prop:=∃ l v,e=.returned v∧w'.ownsRow w.heap.size 282 2 v l.length (qaj l)∧OkS d l d.length∧(∀ c,(∀ i,i<d.length→(d.getD i 0).toNat=c)→AS d.length c d.length l)∧Below w.heap.size w w'
theorem qbW (w:World) (d:List UInt8) (h0:0<d.length) (hd:d.length≤4000):Calls Tryz.prog 245 #[.string (txt d)] w fun e w'=>SplitP d w e w':=by
 obtain ⟨i0,hi,hz0,hz1,hz2⟩:=info_parts Tryz.info101;have Hnew:=hidI (qic w d h0 hd);obtain ⟨t,ht⟩:∃ t,t=txt d:=⟨_,rfl⟩;have hs:t.size=d.length:=by rw [ht,qaa]
 have hgd:∀ k (h:k<t.size),(t[k]'h).toNat=(d.getD k 0).toNat:=fun k h=>by subst ht;rw [qaR]
 rw [←ht] at Hnew ⊢;have Hs:=hidI hs;have Hgd:=hidI hgd;clear ht hs hgd;go_enter Tryz.func245,Tryz.ntmps245
 go_wp2_with fail;refine Hnew.out.mono ?_;rintro e w1 ⟨pb,mb,bb,rfl,hpm,hfr⟩;have Hss0:Hid (SS w w1 w.heap.size pb mb bb d 0 0 (.slice none 0 0) [] (fun _=>none) (fun _=>0)):=⟨hpm,PI.start _ _,World.ownsRow_nil _ _ _ _,hfr.bel⟩;clear hpm hfr Hnew;go_wp2
 go_loopw [5,3] (fun i v wr=>∃ a m:Nat,∃ l mp bf,i=.int .i64 (a:Nat)∧a≤d.length∧m≤a∧l.length≤a∧Hid (SS w wr w.heap.size pb mb bb d a m v l mp bf)∧Hid (OkS d l a)∧Hid (∀ c,(∀ i,i<d.length→(d.getD i 0).toNat=c)→AS d.length c a l)) (fun i _ _=>d.length - (intOf i).toNat)
 case atStart=>exact ⟨0,0,[],_,_,rfl,by omega,by omega,by simp,Hss0,⟨fun k hk=>by simp at hk,rfl⟩,fun c _=>.start rfl rfl⟩
 case round =>
  clear Hss0;obtain ⟨a,m,l,mp,bf,rfl,hal,hma,hla,Hss,Hok,Has⟩:=hrel;have hts:=Hs.out;by_cases hlt:a<d.length
  ·have g1:a<t.size:=by omega
   have e1:=Hgd.out a g1;obtain ⟨c,hc⟩:∃ c,c=(d.getD a 0).toNat:=⟨_,rfl⟩;have hc256:c<256:=by rw [hc];exact UInt8.toNat_lt _
   rw [←hc] at e1;have Hc:=hidI hc;have ht4:t.size≤4000:=by omega
   have Hts:=hidI hts;clear hts hc
   -- what longest answers,in any case
   have Hlong:Hid (Calls Tryz.prog 277 #[.pointer (some ⟨pb,0,none⟩),.int .i64 (a:Nat)] wr fun e w'=>∃ len bk q:Nat,e=.returned (.tuple #[.int .i64 (len:Nat),.int .i64 (bk:Nat)])∧w'=wr.drewN q∧((len=0∧bk=0∧∀ c,(∀ i,i<d.length→(d.getD i 0).toNat=c)→d.length<a+3∨a=0)∨(Good d a len bk∧∀ c,(∀ i,i<d.length→(d.getD i 0).toNat=c)→len=min 34 (d.length - a)))):=by
    by_cases h3:a+3≤d.length
    ·refine (qga wr w.heap.size pb mb bb m a d mp bf hd h3 Hss.out.pm Hss.out.pi).mono ?_;rintro e w' ⟨len,bk,q,rfl,rfl,hg,hlow⟩;have hall:∀ c,(∀ i,i<d.length→(d.getD i 0).toNat=c)→0<a→min 34 (d.length - a)≤len:=fun c hc ha=>by
      obtain ⟨u,hu⟩:=Hss.out.pi.all (a - 1) (by omega) (by omega);have hk:pkKey3 d (a - 1)=pkKey3 d a:=qjL d c hc (a - 1) a (by omega) h3;rw [hk] at hu;have hul:=Hss.out.pi.lt _ _ hu;exact hlow u hu fun j hj=>UInt8.toNat_inj.1 ((hc _ (by omega)).trans (hc _ hj).symm)
     refine ⟨len,bk,q,rfl,rfl,?_⟩;rcases hg with ⟨g1,g2⟩ | g
     ·refine .inl ⟨g1,g2,fun c hc => ?_⟩;by_cases e0:a=0
      ·exact .inr e0
      have:=hall c hc (by omega);omega
     refine .inr ⟨g,fun c hc => ?_⟩;have h1:=hall c hc (by have:=g.b1;have:=g.b2;omega);have h2:=g.hi;have h4:=g.fit;omega
    refine (qh5 wr w.heap.size pb mb bb m a d mp bf hd (by omega) (by omega) Hss.out.pm).mono ?_;rintro e w' ⟨rfl,rfl⟩;exact ⟨0,0,0,rfl,rfl,.inl ⟨rfl,rfl,fun _ _=>.inl (by omega)⟩⟩
   go_wp2_with fail;refine Hlong.out.mono ?_;rintro e w2 ⟨len,bk,q,rfl,rfl,hres⟩;have hpm2:=Hss.out.pm.drewN q;have hown2:=Hss.out.own;obtain ⟨va,vc,hv⟩:=slice_form hown2;subst hv;have Hrow:=hidI (qkL hown2 Hss.out.pm);have Hpm2:=hidI hpm2;have Hpi2:=hidI Hss.out.pi;have Hown2:Hid ((wr.drewN q).ownsRow w.heap.size 282 2 (.slice va l.length vc) l.length (qaj l)):=hown2;have Hbel2:=hidI (below_drewN Hss.out.bel q);have hszq:w.heap.size≤(wr.drewN q).heap.size:=Hbel2.out.size;clear hpm2 hown2 Hlong Hss
   generalize wr.drewN q=W at *
   rcases hres with ⟨rfl,rfl,hlit⟩ | ⟨hgood,hcp⟩
   ·have Hlit:=hidI hlit;clear hlit;have hl2:l.length+1≤4001:=by omega
    go_wp2_with (at_builtin;refine wpList_append_lies _ rfl _ _ 271 rfl w.heap.size 282 i0 _ 2 16 Tryz.underlying271 hi hz0 hz1 hz2 rfl (by decide) (.slice va l.length vc) l.length (qaj l) rfl (Hown2.out.alloc _) ⟨W.heap.size,0,none⟩ 1 1 [.int .i64 (c:Nat),.int .i64 0] rfl rfl (qbI W _ _ _) (by intro u hu;simp at hu;rcases hu with rfl | rfl<;>rfl) (by omega) (by unfold maxLen;omega) (by omega) (by simp;omega) (W.heap.size+1) (by simp) ?_);intro g2 cap2 w3 hown3 hgrow3 hat3 hlt3;have hpm3a:=Hpm2.out.kept (World.grownBy_alloc W (.cells #[.int .i64 (c:Nat),.int .i64 0] 282) none) (by simp) (by simp) (by simp);have Hpm3:=hidI (hpm3a.kept hgrow3 Hrow.out.1 Hrow.out.2.1 Hrow.out.2.2);have Hbel3:Hid (Below w.heap.size w w3):=(Hbel2.out.alloc hszq _).grown hgrow3 (by simp;omega) (fun k hk=>(Hown2.out.lt k hk).1)
    have Hown3:Hid (w3.ownsRow w.heap.size 282 2 (.slice (some ⟨g2,0,none⟩) (l.length+1) cap2) (l.length+1) (qaj (l++[(c,0)]))):=by
     show w3.ownsRow _ _ _ _ _ _;rw [qbj];exact hown3
    have Hok3:Hid (OkS d (l++[(c,0)]) (a+1)):=Hok.out.snoc (c,0) ⟨by simp;omega,by simp [Pk.slen,hc256];omega,fun _=>Hc.out.symm,fun h=>absurd hc256 h⟩ |> fun h=>by
     have:Pk.slen (c,0)=1:=by simp [Pk.slen,hc256]
     rw [this] at h;exact h
    have Has3:Hid (∀ c2,(∀ i,i<d.length→(d.getD i 0).toNat=c2)→AS d.length c2 (a+1) (l++[(c,0)])):=fun c2 hc2=>by
     have e:c=c2:=Hc.out.trans (hc2 a hlt);subst e;exact (Has.out c hc2).lit hc256 hlt (Hlit.out c hc2)
    have hfit:a+1≤d.length∧1≤34∧1≤1:=by omega
    clear hpm3a hown3 hgrow3 hat3 hlt3 Hown2 Hpm2 Hbel2 Hrow;go_wp2
    go_loopw [38,5] (fun i j wq=>∃ k m2:Nat,∃ mp2 bf2,i=.int .i64 (k:Nat)∧j=.int .i64 ((a:Int)+(k:Int))∧k≤1∧m2≤a+k∧Hid (PM wq w.heap.size pb mb bb d m2 mp2 bf2)∧Hid (PI d mp2 bf2 (a+k))∧Hid (wq.ownsRow w.heap.size 282 2 (.slice (some ⟨g2,0,none⟩) (l.length+1) cap2) (l.length+1) (qaj (l++[(c,0)])))∧Hid (Below w.heap.size w wq)) (fun i _ _=>1 - (intOf i).toNat)
    case atStart=>exact ⟨0,m,mp,bf,rfl,by go_num,by omega,by omega,Hpm3,Hpi2,Hown3,Hbel3⟩
    clear Hpm3 Hpi2 Hown3 Hbel3;obtain ⟨k,m2,mp2,bf2,rfl,rfl,hk,hm2,Hpm,Hpi,Hown,Hbel⟩:=hrel;by_cases hkl:k<1
    ·have hcall:=qhe wr w.heap.size pb mb bb m2 (a+k) d mp2 bf2 hd (by omega) (by omega) Hpm.out Hpi.out;rw [show ((a+k:Nat):Int)=(a:Int)+(k:Int) by omega] at hcall;have Hcall:=hidI hcall;clear hcall;go_wp2_with fail;refine Hcall.out.mono ?_;rintro e w4 ⟨rfl,m3,mp3,bf3,hm3,hpm4,hpi4,hfr4⟩;have Hpm4:=hidI hpm4;have Hpi4:Hid (PI d mp3 bf3 (a+(k+1))):=hpi4;have Hown4:=hidI (hfr4.steps.ownN Hown.out);have Hbel4:=hidI (Hbel.out.trans hfr4.bel);clear hpm4 hpi4 hfr4 Hcall Hpm Hpi Hown Hbel;go_wp2;go_roundw
     case rel=>exact ⟨k+1,m3,mp3,bf3,by go_num,by go_num,by omega,by omega,Hpm4,Hpi4,Hown4,Hbel4⟩
     case measure=>simp [intOf];omega
    have hke:k=1:=by omega
    have Hend:Hid (SS w wr w.heap.size pb mb bb d (a+k) m2 (.slice (some ⟨g2,0,none⟩) (l.length+1) cap2) (l++[(c,0)]) mp2 bf2):=⟨Hpm.out,Hpi.out,by rw [List.length_append];exact Hown.out,Hbel.out⟩;have Hok4:Hid (OkS d (l++[(c,0)]) (a+k)):=by rw [hke];exact Hok3
    have Has4:Hid (∀ c2,(∀ i,i<d.length→(d.getD i 0).toNat=c2)→AS d.length c2 (a+k) (l++[(c,0)])):=by rw [hke];exact Has3
    clear Hpm Hpi Hown Hbel;go_wp2;go_roundw
    case rel=>exact ⟨a+k,m2,_,mp2,bf2,by go_num,by omega,by omega,by simp;omega,Hend,Hok4,Has4⟩
    case measure=>simp [intOf];omega
   have hlen0:((len:Int)==0)=false:=by have:=hgood.lo;simp;omega
   have hlen34:len≤34:=hgood.hi;have hbk4:bk≤4000:=by have:=hgood.b2;omega
   have Hgood:=hidI hgood;have Hcp:=hidI hcp;clear hgood hcp;have hl2:l.length+1≤4001:=by omega
   go_wp2_with (at_builtin;refine wpList_append_lies _ rfl _ _ 271 rfl w.heap.size 282 i0 _ 2 16 Tryz.underlying271 hi hz0 hz1 hz2 rfl (by decide) (.slice va l.length vc) l.length (qaj l) rfl (Hown2.out.alloc _) ⟨W.heap.size,0,none⟩ 1 1 [.int .i64 ((len:Int)+253),.int .i64 (bk:Nat)] rfl rfl (qbI W _ _ _) (by intro u hu;simp at hu;rcases hu with rfl | rfl<;>rfl) (by omega) (by unfold maxLen;omega) (by omega) (by simp;omega) (W.heap.size+1) (by simp) ?_);intro g2 cap2 w3 hown3 hgrow3 hat3 hlt3;have hpm3a:=Hpm2.out.kept (World.grownBy_alloc W (.cells #[.int .i64 ((len:Int)+253),.int .i64 (bk:Nat)] 282) none) (by simp) (by simp) (by simp);have Hpm3:=hidI (hpm3a.kept hgrow3 Hrow.out.1 Hrow.out.2.1 Hrow.out.2.2);have Hbel3:Hid (Below w.heap.size w w3):=(Hbel2.out.alloc hszq _).grown hgrow3 (by simp;omega) (fun k hk=>(Hown2.out.lt k hk).1)
   have Hown3:Hid (w3.ownsRow w.heap.size 282 2 (.slice (some ⟨g2,0,none⟩) (l.length+1) cap2) (l.length+1) (qaj (l++[(len+253,bk)]))):=by
    show w3.ownsRow _ _ _ _ _ _;rw [qbj];exact hown3
   have Hok3:Hid (OkS d (l++[(len+253,bk)]) (a+len)):=Hok.out.snoc (len+253,bk) ⟨by have:=Hgood.out.hi;simp;omega,by rw [qiR len bk Hgood.out.lo];exact Hgood.out.fit,fun h=>by have:=Hgood.out.lo;simp at h;omega,fun _=>⟨Hgood.out.b1,by have:=Hgood.out.b2;simp;omega,Hgood.out.b2,fun i hi=>Hgood.out.same i (by simpa using hi)⟩⟩ |> fun h=>by
    have:Pk.slen (len+253,bk)=len:=qiR len bk Hgood.out.lo
    rw [this] at h;exact h
   have Has3:Hid (∀ c2,(∀ i,i<d.length→(d.getD i 0).toNat=c2)→AS d.length c2 (a+len) (l++[(len+253,bk)])):=fun c2 hc2=>(Has.out c2 hc2).cp (by have:=Hgood.out.fit;have:=Hgood.out.lo;omega) (by have:=Hgood.out.b1;have:=Hgood.out.b2;omega) (Hcp.out c2 hc2)
   have hfit:a+len≤d.length∧len≤34∧1≤len:=by have:=Hgood.out.fit;have:=Hgood.out.hi;have:=Hgood.out.lo;omega
   clear hpm3a hown3 hgrow3 hat3 hlt3 Hown2 Hpm2 Hbel2 Hrow;go_wp2
   go_loopw [38,5] (fun i j wq=>∃ k m2:Nat,∃ mp2 bf2,i=.int .i64 (k:Nat)∧j=.int .i64 ((a:Int)+(k:Int))∧k≤len∧m2≤a+k∧Hid (PM wq w.heap.size pb mb bb d m2 mp2 bf2)∧Hid (PI d mp2 bf2 (a+k))∧Hid (wq.ownsRow w.heap.size 282 2 (.slice (some ⟨g2,0,none⟩) (l.length+1) cap2) (l.length+1) (qaj (l++[(len+253,bk)])))∧Hid (Below w.heap.size w wq)) (fun i _ _=>len - (intOf i).toNat)
   case atStart=>exact ⟨0,m,mp,bf,rfl,by go_num,by omega,by omega,Hpm3,Hpi2,Hown3,Hbel3⟩
   clear Hpm3 Hpi2 Hown3 Hbel3;obtain ⟨k,m2,mp2,bf2,rfl,rfl,hk,hm2,Hpm,Hpi,Hown,Hbel⟩:=hrel;by_cases hkl:k<len
   ·have hcall:=qhe wr w.heap.size pb mb bb m2 (a+k) d mp2 bf2 hd (by omega) (by omega) Hpm.out Hpi.out;rw [show ((a+k:Nat):Int)=(a:Int)+(k:Int) by omega] at hcall;have Hcall:=hidI hcall;clear hcall;go_wp2_with fail;refine Hcall.out.mono ?_;rintro e w4 ⟨rfl,m3,mp3,bf3,hm3,hpm4,hpi4,hfr4⟩;have Hpm4:=hidI hpm4;have Hpi4:Hid (PI d mp3 bf3 (a+(k+1))):=hpi4;have Hown4:=hidI (hfr4.steps.ownN Hown.out);have Hbel4:=hidI (Hbel.out.trans hfr4.bel);clear hpm4 hpi4 hfr4 Hcall Hpm Hpi Hown Hbel;go_wp2;go_roundw
    case rel=>exact ⟨k+1,m3,mp3,bf3,by go_num,by go_num,by omega,by omega,Hpm4,Hpi4,Hown4,Hbel4⟩
    case measure=>simp [intOf];omega
   have hke:k=len:=by omega
   have Hend:Hid (SS w wr w.heap.size pb mb bb d (a+k) m2 (.slice (some ⟨g2,0,none⟩) (l.length+1) cap2) (l++[(len+253,bk)]) mp2 bf2):=⟨Hpm.out,Hpi.out,by rw [List.length_append];exact Hown.out,Hbel.out⟩;have Hok4:Hid (OkS d (l++[(len+253,bk)]) (a+k)):=by rw [hke];exact Hok3
   have Has4:Hid (∀ c2,(∀ i,i<d.length→(d.getD i 0).toNat=c2)→AS d.length c2 (a+k) (l++[(len+253,bk)])):=by rw [hke];exact Has3
   clear Hpm Hpi Hown Hbel;go_wp2;go_roundw
   case rel=>exact ⟨a+k,m2,_,mp2,bf2,by go_num,by omega,by omega,by simp;omega,Hend,Hok4,Has4⟩
   case measure=>simp [intOf];omega
  have haq:a=d.length:=by omega
  have g1:¬a<t.size:=by omega
  have Hts:=hidI hts;have Haq:=hidI haq;clear hts haq;go_wp2;go_ret
  refine ⟨l,_,rfl,Hss.out.own,?_,?_,Hss.out.bel⟩
  ·rw [←Haq.out];exact Hok.out
  intro c hc
  have:=Has.out c hc
  rw [Haq.out] at this;exact this
def symsTo (wv:Nat→Nat) (k:Nat):List Nat:=(List.range k).filter fun i=>decide (0<wv i)
def sumW (wv:Nat→Nat):Nat→Nat
 | 0=>0
 | k+1=>sumW wv k+wv k
theorem qcg (wv:Nat→Nat) (k:Nat) (h:0<wv k):symsTo wv (k+1)=symsTo wv k++[k]:=by
 unfold symsTo;rw [List.range_succ,List.filter_append];simp [h]
theorem qdz (wv:Nat→Nat) (k:Nat) (h:wv k=0):symsTo wv (k+1)=symsTo wv k:=by
 unfold symsTo;rw [List.range_succ,List.filter_append];simp [h]
theorem qct (wv:Nat→Nat) (k:Nat):(symsTo wv k).Nodup:=List.Pairwise.filter _ List.nodup_range
theorem qeg (wv:Nat→Nat) (k:Nat):(symsTo wv k).length≤k:=by
 have:=List.length_filter_le (fun i=>decide (0<wv i)) (List.range k)
 simpa [symsTo] using this
theorem qd7 (wv:Nat→Nat) (k i:Nat):i∈symsTo wv k↔i<k∧0<wv i:=by
 unfold symsTo;simp
def GM (w:World) (B:Nat) (es:List Ent) (G:Nat→List Nat):Prop:=∀ e∈es,w.ownsRow B 3 1 (.slice (some ⟨e.b,0,none⟩) e.n e.c) e.n (intsV (G e.b))
theorem GM.fr {w w':World} {B K:Nat} {es:List Ent} {G:Nat→List Nat} (h:GM w B es G) (hf:Keeps 3 w w'):GM w' B es G:=fun e he=>hf.own (h e he)
theorem GM.perm {w:World} {B:Nat} {es es':List Ent} {G:Nat→List Nat} (h:GM w B es G) (p:List.Perm es' es):GM w B es' G:=fun e he=>h e (p.mem_iff.1 he)
theorem GM.lt {w:World} {B:Nat} {es:List Ent} {G:Nat→List Nat} (h:GM w B es G) {e:Ent} (he:e∈es):e.b<w.heap.size:=((h e he).lt e.b rfl).2
theorem GM.cons {w:World} {B:Nat} {es:List Ent} {G:Nat→List Nat} (h:GM w B es G) {c:Ent} {l:List Nat} (hc:w.ownsRow B 3 1 (.slice (some ⟨c.b,0,none⟩) c.n c.c) c.n (intsV l)) (hne:∀ e∈es,e.b≠c.b):GM w B (c :: es) (fun b=>if b=c.b then l else G b):=by
 intro e he;rcases List.mem_cons.1 he with rfl | k
 ·simp only [if_pos];exact hc
 simp only [if_neg (hne e k)];exact h e k
def qlen (w:World) (qb:Nat):Nat:=match w.cell? ⟨qb,0,none⟩ with | some (.slice _ n _)=>n | _=>0
theorem QM.qlen {w:World} {B qb:Nat} {es:List Ent} {pu:Nat} (h:QM w B qb es pu):qlen w qb=es.length:=by
 obtain ⟨a,c,hx⟩:=h.len rfl;unfold S1.qlen;rw [hx]
structure JS (K:Nat) (w:World) (B qb:Nat) (es:List Ent) (pu:Nat) (G:Nat→List Nat) (D ln:Nat→Nat) (S:List Nat) (W:Nat):Prop where
 q:QM w B qb es pu
 h:Pk.Heap es
 g:GM w B es G
 j:JI K es G D ln S W
theorem qm7 (w:World) (B k:Nat) (hB:B≤w.heap.size):(w.alloc (.cells #[.int .i64 (k:Nat)] 3)).ownsRow B 3 1 (.slice (some ⟨w.heap.size,0,none⟩) 1 1) 1 (intsV [k]):=
 ⟨rfl,.inr ⟨_,1,_,rfl,hB,heap_alloc_new _ _,Nat.le_refl _,by unfold maxLen;omega,rfl,rfl⟩⟩
theorem qha {w:World} {B n:Nat} {e:TypeId} {size:Nat} {v:Value} {xs:List Value} (h:w.ownsRow B e size v n xs):w.ownsRow 0 e size v n xs:=by
 refine ⟨h.1,?_⟩;rcases h.2 with h1 | ⟨g,cap,cur,h1,h2,h3⟩
 ·exact .inl h1
 exact .inr ⟨g,cap,cur,h1,Nat.zero_le _,h3⟩
theorem qcw {w w':World} {B n:Nat} {e:TypeId} {size:Nat} {v:Value} {xs:List Value} (h:w.ownsRow B e size v n xs) (hb:∀ k,B≤k→w'.heap[k]? = w.heap[k]?):w'.ownsRow B e size v n xs:=by
 refine ⟨h.1,?_⟩;rcases h.2 with h1 | ⟨g,cap,cur,h1,h2,h3,h4⟩
 ·exact .inl h1
 exact .inr ⟨g,cap,cur,h1,h2,(hb g h2).trans h3,h4⟩
theorem QM.high {w w':World} {B qb:Nat} {es:List Ent} {pu:Nat} (h:QM w B qb es pu) (hb:∀ k,B≤k→w'.heap[k]? = w.heap[k]?):QM w' B qb es pu:=by
 obtain ⟨v,h1,h2⟩:=h.st;exact ⟨h.hB,v,(hb qb h.hB).trans h1,qcw h2 hb⟩
theorem GM.high {w w':World} {B:Nat} {es:List Ent} {G:Nat→List Nat} (h:GM w B es G) (hb:∀ k,B≤k→w'.heap[k]? = w.heap[k]?):GM w' B es G:=fun e he=>qcw (h e he) hb
theorem qcJ {w:World} {B b n c k:Nat} {l:List Nat} (h:w.ownsRow B 3 1 (.slice (some ⟨b,0,none⟩) n c) n (intsV l)) (hk:k<n):w.cell? ⟨b,k,none⟩=some (.int .i64 (l.getD k 0:Nat)):=by
 have hl:l.length=n:=by have:=h.1;unfold intsV at this;simpa using this
 rw [h.cellAt k (by omega)];unfold intsV;rw [List.getElem?_map,List.getD_eq_getElem?_getD,List.getElem?_eq_getElem (by omega)];rfl
theorem qbv {w:World} {B b n c:Nat} {l:List Nat} (h:w.ownsRow B 3 1 (.slice (some ⟨b,0,none⟩) n c) n (intsV l)):l.length=n:=by
 have:=h.1;unfold intsV at this;simpa using this
theorem QM.notnew {w:World} {B qb:Nat} {es:List Ent} {pu:Nat} (h:QM w B qb es pu) (k:Nat) (hk:w.heap.size≤k):∀ n cap,w.cell? ⟨qb,0,none⟩≠some (.slice (some ⟨k,0,none⟩) n cap):=by
 intro n cap hc;obtain ⟨v,h1,h2⟩:=h.st;have hx:w.cell? ⟨qb,0,none⟩=some v:=by rw [cell_of_row w qb 0 _ 341 (0,0) h1];rfl
 rw [hx] at hc;simp at hc;subst hc
 have:=(h2.lt k rfl).2
 omega
theorem qgS {es:List Ent} (h:Pk.Heap es) {x:Ent} (hx:x∈es):wa es 0≤x.wt:=by
 obtain ⟨i,hi,rfl⟩:=List.mem_iff_getElem.1 hx
 have:=qkr h i hi
 unfold wa at this ⊢;rw [List.getD_eq_getElem?_getD (l:=es) (i:=i),List.getElem?_eq_getElem hi] at this;exact this
theorem qgH (w:World) (lb o:Nat) (v:Value):∀ k,lb+1≤k→(w.setCell ⟨lb,o,none⟩ v).heap[k]? = w.heap[k]? := fun k hk=>Below.heap_setCell w ⟨lb,o,none⟩ v k (by simp;omega)
theorem qbG (l:List Nat) (k j:Nat) (hk:k<l.length):j∈l.take (k+1)↔j∈l.take k∨j=l.getD k 0:=by
 rw [List.take_add_one,List.mem_append,List.getD_eq_getElem?_getD,List.getElem?_eq_getElem hk];simp
theorem qg2 (l:List Nat) (k:Nat) (hk:k<l.length):l.getD k 0∈l:=by
 rw [List.getD_eq_getElem?_getD,List.getElem?_eq_getElem hk];exact List.getElem_mem hk
theorem qek (l:List Nat) (k:Nat) (hn:l.Nodup) (hk:k<l.length):l.getD k 0∉l.take k:=by
 intro h
 have:l=l.take k++l.drop k:=(List.take_append_drop k l).symm
 rw [this] at hn;refine (List.nodup_append.1 hn).2.2 _ h (l.getD k 0) ?_ rfl;have hv:l.getD k 0=l[k]:=by rw [List.getD_eq_getElem?_getD,List.getElem?_eq_getElem hk];rfl
 rw [hv,List.drop_eq_getElem_cons hk];exact List.mem_cons_self
theorem JI.last {K:Nat} {e1:Ent} {G:Nat→List Nat} {D ln:Nat→Nat} {S:List Nat} {W:Nat} (h:JI K [e1] G D ln S W) (wv:Nat→Nat) (hm:∀ i,i∈S↔i<288∧0<wv i) (ln':Nat→Nat) (h1:∀ i,i∈G e1.b→ln' i=max (ln i) 1) (h2:∀ i,i∉G e1.b→ln' i=ln i) :
 (∀ i,i<288→(0<ln' i↔0<wv i))∧(∀ i,288≤i→ln' i=0)∧(∀ i,ln' i≤1∨(Fb (ln' i)≤W∧ln' i+1≤S.length))∧sumL (fun i=>2^(K - ln' i)) S≤2^K:=by
 have hp:=h.sym;simp only [List.map_cons,List.map_nil,List.flatten_cons,List.flatten_nil,List.append_nil] at hp;have m1:e1∈[e1]:=by simp
 have hw:e1.wt=W:=by have:=h.sum;simpa [sumL] using this
 refine ⟨fun i hi => ?_,fun i hi => ?_,fun i => ?_,?_⟩
 ·by_cases hg:i∈G e1.b
  ·rw [h1 i hg]
   have:=(hm i).1 (hp.mem_iff.1 hg)
   omega
  rw [h2 i hg];have hs:i∉S:=fun hs=>hg (hp.mem_iff.2 hs)
  rw [h.zero i hs]
  have:¬0<wv i:=fun hv=>hs ((hm i).2 ⟨hi,hv⟩)
  omega
 ·have hs:i∉S:=fun hs=>by have:=((hm i).1 hs).1;omega
  rw [h2 i fun hg=>hs (hp.mem_iff.1 hg),h.zero i hs]
 ·by_cases hg:i∈G e1.b
  ·rw [h1 i hg];by_cases hl:ln i≤1
   ·left;omega
   right
   rw [Nat.max_eq_left (by omega)];have a:=h.len e1 m1 i hg;rw [hp.length_eq] at a;exact ⟨Nat.le_trans (qjR (h.dep e1 m1 i hg)) (by rw [←hw];exact h.fib e1 m1),a⟩
  rw [h2 i hg,h.zero i fun hs=>hg (hp.mem_iff.2 hs)]
  left;omega
 rw [←qfR _ hp,←h.kr e1 m1];refine qm9 fun i hi => ?_
 rw [h1 i hi];exact Nat.pow_le_pow_right (by omega) (by omega)
end Go.Proofs.YtodmdkhdbfbfgaaGreatDoor.S1
