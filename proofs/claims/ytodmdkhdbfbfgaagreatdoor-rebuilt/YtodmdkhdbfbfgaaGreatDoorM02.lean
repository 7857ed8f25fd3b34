/- Lemmas. -/
import Derived.Test.YtodmdkhdbfbfgaaGreatDoorM01
set_option linter.unusedVariables false
set_option linter.unusedSimpArgs false
set_option maxRecDepth 100000
set_option maxHeartbeats 8000000
namespace Go.Proofs.YtodmdkhdbfbfgaaGreatDoor.S1
open Go.RowKit Pk
def scrF (m:M) (i q:Nat) (s:List UInt8):M:=setN (setP m i q (s.take 64)) i (max (m.nx i) (q+1))
def isP (m:M) (b p:Int):Prop:=hasB m b=true∧0≤p∧p<(m.np:Int)
theorem qnu (w:World) (lo hi cb:Nat) (L:Loc) (m:M) (b p:Int) (s:List UInt8) (h:CP w lo hi cb L m) (hm:¬isP m b p) :
 Calls Tryz.prog 17 #[.pointer (some ⟨cb,0,none⟩),.int .i64 b,.int .i64 p,.string (txt s)] w fun e w'=>e=.returned (.tuple #[])∧w'=w:=by
 have Hhas:=hidI (qec w lo hi cb L m b h);have c0:=MemX.c0 h;have c1:=MemX.c1 h
 generalize txt s=t
 cases hh:hasB m b with
 | false =>
   rw [hh] at Hhas;clear h hm hh;go_enter Tryz.func17,Tryz.ntmps17
   go_wp2_with fail;refine Hhas.out.mono ?_;rintro e w1 ⟨rfl,rfl⟩;go_wp2
   ((try simp only [Exit.inBlock,Exit.then]);refine bodyPost_ret (results_none rfl _ _ _) rfl ?_)
   exact ⟨rfl,rfl⟩
 | true =>
   have hy:=qbe hh;have hb1:decide (b<0)=false:=by simp;omega
   have hb2:decide ((m.nb:Int)≤b)=false:=by simp;omega
   rw [hh] at Hhas;by_cases hp:p<0
   ·have hd:decide (p<0)=true:=by simpa using hp
    clear h hm hh;go_enter Tryz.func17,Tryz.ntmps17
    go_wp2_with fail;refine Hhas.out.mono ?_;rintro e w1 ⟨rfl,rfl⟩;go_wp2
    ((try simp only [Exit.inBlock,Exit.then]);refine bodyPost_ret (results_none rfl _ _ _) rfl ?_)
    exact ⟨rfl,rfl⟩
   have hd:decide (p<0)=false:=by simpa using hp
   have hp2:(m.np:Int)≤p:=Int.not_lt.mp (fun e=>hm ⟨hh,by omega,e⟩);have hd2:decide ((m.np:Int)≤p)=true:=by simpa using hp2
   clear h hm hh;go_enter Tryz.func17,Tryz.ntmps17
   go_wp2_with fail;refine Hhas.out.mono ?_;rintro e w1 ⟨rfl,rfl⟩;go_wp2
   ((try simp only [Exit.inBlock,Exit.then]);refine bodyPost_ret (results_none rfl _ _ _) rfl ?_)
   exact ⟨rfl,rfl⟩
theorem qmW (w:World) (lo hi cb:Nat) (L:Loc) (m:M) (i q:Nat) (s:List UInt8) (hw:WF m) (hs:s.length≤140737488351232) (h:CP w lo hi cb L m) (hi':i<m.nb) (hqn:q<m.np) :
 Calls Tryz.prog 17 #[.pointer (some ⟨cb,0,none⟩),.int .i64 (i:Nat),.int .i64 (q:Nat),.string (txt s)] w fun e w'=>e=.returned (.tuple #[])∧CP w' lo hi cb L (scrF m i q s)∧Only lo hi w w':=by
 have Hhas:=hidI (qec w lo hi cb L m (i:Nat) h);have hh:hasB m (i:Nat)=true:=by simp [hasB];omega
 rw [hh] at Hhas;have c0:=MemX.c0 h;have c1:=MemX.c1 h;have cd:=h.data.cell hi';have cp:=(h.page i hi').cell hqn;have cf:=(h.page i hi').frozen q;have hd:decide ((q:Int)<0)=false:=by simp
 have hd2:decide ((m.np:Int)≤(q:Int))=false:=by simp;omega
 have hsz:(txt s).size=s.length:=qaa s;have hq16:q≤16:=by have:=hw.np2;omega
 have hx16:m.nx i≤16:=by have:=hw.nx i hi';have:=hw.np2;omega
 obtain ⟨n,hn⟩:∃ n,n=min s.length 64:=⟨_,rfl⟩;have hex:(txt s).extract 0 n=txt (s.take 64):=by
  rw [qae,hn]
  congr 1
  simp only [List.drop_zero,Nat.sub_zero];by_cases e:s.length≤64
  ·rw [Nat.min_eq_left e,List.take_of_length_le e,List.take_of_length_le (Nat.le_refl _)]
  rw [Nat.min_eq_right (by omega)]
 obtain ⟨Y,hY⟩:∃ Y,Y=txt (s.take 64):=⟨_,rfl⟩;have h3:CP (w.setCell ⟨L.rw i,q,none⟩ (.string Y)) lo hi cb L (setP m i q (s.take 64)):=by
  have:=MemX.setPage h i q hi' hqn (s.take 64)
  rw [hY];exact this
 have ho3:Only lo hi w (w.setCell ⟨L.rw i,q,none⟩ (.string Y)):=(Only.refl _ _ _).set (h.hrw i hi') q _;have hnkb:=h.hnk;rw [←hY] at hex;obtain ⟨t,ht⟩:∃ t,t=txt s:=⟨_,rfl⟩;rw [←ht] at hex hsz ⊢;have Hex:=hidI hex;have hnt:n≤t.size:=by omega
 have hnt2:(n:Int)≤(t.size:Int):=by omega
 have htb:t.size≤140737488351232:=by omega
 have H3:=hidI h3;have Ho3:=hidI ho3;simp only [id] at cp;clear h3 ho3 h hh ht hY hex;by_cases hl:s.length≤64
 ·have hne:(t.size:Int)=(n:Int):=by omega
  have Hne:=hidI hne;have hdm:decide ((t.size:Int)≤64)=true:=by simp;omega
  have htn:t.size=n:=by omega
  have Htn:=hidI htn;have ht64:t.size≤64:=by omega
  clear hn hl hne htn hsz;have hte:t.extract 0 n=t:=by rw [←Htn.out];exact ByteArray.extract_zero_size
  have hyt:Y=t:=Hex.out.symm.trans hte;subst hyt;clear hte Hex Htn Hne hnt hnt2;go_enter Tryz.func17,Tryz.ntmps17
  go_wp2_with fail;refine Hhas.out.mono ?_;rintro e w1 ⟨rfl,rfl⟩;go_wp2;go_region;have hmW:CP (w1.setCell ⟨L.rw i,q,none⟩ (.string Y)).drew lo hi cb L (setP m i q (s.take 64)):=MemX.drew H3.out;have hoW:Only lo hi w1 (w1.setCell ⟨L.rw i,q,none⟩ (.string Y)).drew:=Ho3.out.drew
  generalize (w1.setCell ⟨L.rw i,q,none⟩ (.string Y)).drew=W at hmW hoW ⊢
  clear H3 Ho3 c0 c1 cd cp cf Hhas;have d2:=MemX.c2 hmW;have dn:=hmW.next.cell hi';have df:=hmW.next.frozen i;simp only [setP] at d2 dn;by_cases hx:m.nx i≤q+1
  ·have hmN:=MemX.setNx hmW i (q+1);have hoN:=hoW.set hnkb i (.int .i64 ((q+1:Nat):Int));have Hr:Hid (scrF m i q s=setN (setP m i q (s.take 64)) i (q+1)):=(by show scrF m i q s=_;unfold scrF;rw [Nat.max_eq_right hx]);have Hm:=hidI hmN;have Ho:=hidI hoN;clear hmN hoN hmW hoW;rw [show ((q+1:Nat):Int)=(q:Int)+1 by omega] at Hm Ho;have hx1:(m.nx i:Int)≤(q:Int)+1:=by omega
   have hx2:decide ((m.nx i:Int)≤(q:Int)+1)=true:=by simpa using hx1
   by_cases hx3:m.nx i=q+1
   ·have hx4:(m.nx i:Int)=(q:Int)+1:=by omega
    have Hx4:=hidI hx4;rw [hx4] at dn;clear hx hx1 hx2 hx3 hx4 hx16;go_wp2;go_region;go_end0
    refine ⟨rfl,?_,Ho.out.drew⟩;rw [Hr.out];exact MemX.drew Hm.out
   have hx5:m.nx i<q+1:=by omega
   have hx6:(m.nx i:Int)<(q:Int)+1:=by omega
   have hx7:decide ((m.nx i:Int)<(q:Int)+1)=true:=by simpa using hx6
   have hx8:decide ((q:Int)+1<(m.nx i:Int))=false:=by simp;omega
   generalize m.nx i=x at *
   clear hx hx3;go_wp2;go_region;go_end0
   refine ⟨rfl,?_,Ho.out.drew⟩;rw [Hr.out];exact MemX.drew Hm.out
  have Hr:Hid (scrF m i q s=setN (setP m i q (s.take 64)) i (m.nx i)):=(by show scrF m i q s=_;unfold scrF;rw [Nat.max_eq_left (by omega)]);have hmN:=MemX.setNx hmW i (m.nx i);have hoN:=hoW.set hnkb i (.int .i64 ((m.nx i:Nat):Int));have Hm:=hidI hmN;have Ho:=hidI hoN;clear hmN hoN hmW hoW;have hx1:(q:Int)+1<(m.nx i:Int):=by omega
  have hx2:decide ((m.nx i:Int)≤(q:Int)+1)=false:=by simp;omega
  have hx3:decide ((m.nx i:Int)<(q:Int)+1)=false:=by simp;omega
  have hx4:decide ((q:Int)+1<(m.nx i:Int))=true:=by simpa using hx1
  go_wp2;go_region;go_end0
  refine ⟨rfl,?_,Ho.out.drew⟩;rw [Hr.out];exact MemX.drew Hm.out
 ·have hne:n=64:=by omega
  subst hne;have hdm:decide ((t.size:Int)≤64)=false:=by simp;omega
  have ht64:64<t.size:=by omega
  clear hn hl hsz;have hyt:t.extract 0 64=Y:=Hex.out;rw [←hyt] at H3 Ho3;clear hyt Hex;go_enter Tryz.func17,Tryz.ntmps17
  go_wp2_with fail;refine Hhas.out.mono ?_;rintro e w1 ⟨rfl,rfl⟩;go_wp2;go_region;have hmW:CP (w1.setCell ⟨L.rw i,q,none⟩ (.string (t.extract 0 64))).drew lo hi cb L (setP m i q (s.take 64)):=MemX.drew H3.out;have hoW:Only lo hi w1 (w1.setCell ⟨L.rw i,q,none⟩ (.string (t.extract 0 64))).drew:=Ho3.out.drew
  generalize (w1.setCell ⟨L.rw i,q,none⟩ (.string (t.extract 0 64))).drew=W at hmW hoW ⊢
  clear H3 Ho3 c0 c1 cd cp cf Hhas;have d2:=MemX.c2 hmW;have dn:=hmW.next.cell hi';have df:=hmW.next.frozen i;simp only [setP] at d2 dn;by_cases hx:m.nx i≤q+1
  ·have hmN:=MemX.setNx hmW i (q+1);have hoN:=hoW.set hnkb i (.int .i64 ((q+1:Nat):Int));have Hr:Hid (scrF m i q s=setN (setP m i q (s.take 64)) i (q+1)):=(by show scrF m i q s=_;unfold scrF;rw [Nat.max_eq_right hx]);have Hm:=hidI hmN;have Ho:=hidI hoN;clear hmN hoN hmW hoW;rw [show ((q+1:Nat):Int)=(q:Int)+1 by omega] at Hm Ho;have hx1:(m.nx i:Int)≤(q:Int)+1:=by omega
   have hx2:decide ((m.nx i:Int)≤(q:Int)+1)=true:=by simpa using hx1
   by_cases hx3:m.nx i=q+1
   ·have hx4:(m.nx i:Int)=(q:Int)+1:=by omega
    have Hx4:=hidI hx4;rw [hx4] at dn;clear hx hx1 hx2 hx3 hx4 hx16;go_wp2;go_region;go_end0
    refine ⟨rfl,?_,Ho.out.drew⟩;rw [Hr.out];exact MemX.drew Hm.out
   have hx5:m.nx i<q+1:=by omega
   have hx6:(m.nx i:Int)<(q:Int)+1:=by omega
   have hx7:decide ((m.nx i:Int)<(q:Int)+1)=true:=by simpa using hx6
   have hx8:decide ((q:Int)+1<(m.nx i:Int))=false:=by simp;omega
   generalize m.nx i=x at *
   clear hx hx3;go_wp2;go_region;go_end0
   refine ⟨rfl,?_,Ho.out.drew⟩;rw [Hr.out];exact MemX.drew Hm.out
  have Hr:Hid (scrF m i q s=setN (setP m i q (s.take 64)) i (m.nx i)):=(by show scrF m i q s=_;unfold scrF;rw [Nat.max_eq_left (by omega)]);have hmN:=MemX.setNx hmW i (m.nx i);have hoN:=hoW.set hnkb i (.int .i64 ((m.nx i:Nat):Int));have Hm:=hidI hmN;have Ho:=hidI hoN;clear hmN hoN hmW hoW;have hx1:(q:Int)+1<(m.nx i:Int):=by omega
  have hx2:decide ((m.nx i:Int)≤(q:Int)+1)=false:=by simp;omega
  have hx3:decide ((m.nx i:Int)<(q:Int)+1)=false:=by simp;omega
  have hx4:decide ((q:Int)+1<(m.nx i:Int))=true:=by simpa using hx1
  go_wp2;go_region;go_end0
  refine ⟨rfl,?_,Ho.out.drew⟩;rw [Hr.out];exact MemX.drew Hm.out
instance (m:M) (b p:Int) (s:List UInt8):Decidable (mayP m b p s):=by unfold mayP;infer_instance
instance (m:M) (b p:Int):Decidable (isP m b p):=by unfold isP;infer_instance
def progA (m:M) (b p:Int) (s:List UInt8):Bool × M:=if mayP m b p s then progF m b.toNat p.toNat s else (false,m)
def eraA (m:M) (b:Int):Bool × M:=if badB m b=false then eraF m b.toNat else (false,m)
def scrA (m:M) (b p:Int) (s:List UInt8):M:=if isP m b p then scrF m b.toNat p.toNat s else m
theorem qeu {m:M} {b p:Int} {s:List UInt8} (h:mayP m b p s):∃ i q:Nat,b=(i:Int)∧p=(q:Int)∧i<m.nb∧m.bd i=false∧q=m.nx i∧q<m.np∧s.length=64:=by
 obtain ⟨h1,h2,h3,h4⟩:=h;obtain ⟨i,rfl,hi,hb⟩:=qeA h1;refine ⟨i,m.nx i,rfl,by simpa using h2,hi,hb,rfl,?_,h4⟩
 have:p=(m.nx i:Int):=by simpa using h2
 omega
theorem qla (w:World) (lo hi cb:Nat) (L:Loc) (m:M) (b p:Int) (s:List UInt8) (hw:WF m) (hs:s.length≤140737488351232) (h:CP w lo hi cb L m) :
 Calls Tryz.prog 242 #[.pointer (some ⟨cb,0,none⟩),.int .i64 b,.int .i64 p,.string (txt s)] w fun e w'=>e=.returned (.bool (progA m b p s).1)∧CP w' lo hi cb L (progA m b p s).2∧Only lo hi w w':=by
 by_cases hm:mayP m b p s
 ·have hb:=hm.1;obtain ⟨i,q,rfl,rfl,hi',hbd,hq,hqn,h64⟩:=qeu hm;have e:progA m (i:Nat) (q:Nat) s=progF m i q s:=if_pos hm;rw [e];exact qkZ w lo hi cb L m i q s hw h64 h hb hi' hq hqn
 have e:progA m b p s=(false,m):=if_neg hm;rw [e];exact (qmT w lo hi cb L m b p s hs h hm).mono fun e w' ⟨h1,h2⟩=>⟨h1,by rw [h2];exact h,by rw [h2];exact Only.refl _ _ _⟩
theorem qnp (w:World) (lo hi cb:Nat) (L:Loc) (m:M) (b:Int) (h:CP w lo hi cb L m) (hb:badB m b=true) :
 Calls Tryz.prog 125 #[.pointer (some ⟨cb,0,none⟩),.int .i64 b] w fun e w'=>e=.returned (.bool false)∧w'=w:=by
 have Hbad:=hidI (qdy w lo hi cb L m b h);rw [hb] at Hbad;clear h;go_enter Tryz.func125,Tryz.ntmps125
 go_wp2_with fail;refine Hbad.out.mono ?_;rintro e w1 ⟨rfl,rfl⟩;go_wp2;go_ret
 exact ⟨rfl,rfl⟩
theorem qi5 (w:World) (lo hi cb:Nat) (L:Loc) (m:M) (b:Int) (hw:WF m) (h:CP w lo hi cb L m) (hsz:hi≤w.heap.size) :
 Calls Tryz.prog 125 #[.pointer (some ⟨cb,0,none⟩),.int .i64 b] w fun e w'=>e=.returned (.bool (eraA m b).1)∧CP w' lo hi cb L (eraA m b).2∧Only lo hi w w':=by
 cases hb:badB m b with
 | false =>
   obtain ⟨i,rfl,hi',hbd⟩:=qeA hb;have e:eraA m (i:Nat)=eraF m i:=if_pos hb;rw [e];exact qmC w lo hi cb L m i hw h hb hi' hsz
 | true =>
   have e:eraA m b=(false,m):=if_neg (by rw [hb];decide);rw [e];exact (qnp w lo hi cb L m b h hb).mono fun e w' ⟨h1,h2⟩=>⟨h1,by rw [h2];exact h,by rw [h2];exact Only.refl _ _ _⟩
theorem qjP {m:M} {b p:Int} (h:isP m b p):∃ i q:Nat,b=(i:Int)∧p=(q:Int)∧i<m.nb∧q<m.np:=by
 obtain ⟨h1,h2,h3⟩:=h;have h4:=qbe h1;exact ⟨b.toNat,p.toNat,by omega,by omega,by omega,by omega⟩
theorem scr_any (w:World) (lo hi cb:Nat) (L:Loc) (m:M) (b p:Int) (s:List UInt8) (hw:WF m) (hs:s.length≤140737488351232) (h:CP w lo hi cb L m) :
 Calls Tryz.prog 17 #[.pointer (some ⟨cb,0,none⟩),.int .i64 b,.int .i64 p,.string (txt s)] w fun e w'=>e=.returned (.tuple #[])∧CP w' lo hi cb L (scrA m b p s)∧Only lo hi w w':=by
 by_cases hm:isP m b p
 ·obtain ⟨i,q,rfl,rfl,hi',hqn⟩:=qjP hm;have e:scrA m (i:Nat) (q:Nat) s=scrF m i q s:=if_pos hm;rw [e];exact qmW w lo hi cb L m i q s hw hs h hi' hqn
 have e:scrA m b p s=m:=if_neg hm;rw [e];exact (qnu w lo hi cb L m b p s h hm).mono fun e w' ⟨h1,h2⟩=>⟨h1,by rw [h2];exact h,by rw [h2];exact Only.refl _ _ _⟩
/-! ### They stay well formed. -/
theorem qeq {m:M} (h:WF m) (i q:Nat) (s:List UInt8) (hs:s.length≤64):WF (setP m i q s):=
 ⟨h.nb1,h.nb2,h.np1,h.np2,h.nx,fun a b ha hb=>by
  show (if a=i∧b=q then s else m.pg a b).length≤64
  split
  ·exact hs
  exact h.pg a b ha hb,h.life1,h.life2,h.fail1,h.fail2,h.cut1,h.cut2,h.part1,h.part2⟩
theorem qjj {m:M} (h:WF m) (i n:Nat):WF (setE m i n):=
 ⟨h.nb1,h.nb2,h.np1,h.np2,h.nx,fun a b ha hb=>by
  show (if a=i∧b<n then [] else m.pg a b).length≤64
  split
  ·exact Nat.zero_le _
  exact h.pg a b ha hb,h.life1,h.life2,h.fail1,h.fail2,h.cut1,h.cut2,h.part1,h.part2⟩
theorem qb9 {m:M} (h:WF m) (i v:Nat) (hv:v≤m.np):WF (setN m i v):=
 ⟨h.nb1,h.nb2,h.np1,h.np2,fun a ha=>by
  show (if a=i then v else m.nx a)≤m.np
  split
  ·exact hv
  exact h.nx a ha,h.pg,h.life1,h.life2,h.fail1,h.fail2,h.cut1,h.cut2,h.part1,h.part2⟩
theorem qiK {m:M} (h:WF m) (i:Nat) (v:Bool):WF (setB m i v):=
 ⟨h.nb1,h.nb2,h.np1,h.np2,h.nx,h.pg,h.life1,h.life2,h.fail1,h.fail2,h.cut1,h.cut2,h.part1,h.part2⟩
theorem qaT {m:M} (h:WF m) (b p:Int) (s:List UInt8):WF (progA m b p s).2:=by
 unfold progA
 split
 ·rename_i hm;obtain ⟨i,q,rfl,rfl,hi',hbd,hq,hqn,h64⟩:=qeu hm;simp only [Int.toNat_natCast];have ht:=qj4 h;have hl:∀ n,(s.take n).length≤64:=fun n=>by rw [List.length_take];omega
  unfold progF
  repeat' split
  ·exact qb9 (qeq ht i q s (by omega)) i (q+1) hqn
  ·exact qb9 (qiK (qeq ht i q _ (hl _)) i true) i (q+1) hqn
  ·exact qb9 (qeq ht i q _ (hl _)) i (q+1) hqn
  exact ht
 exact h
theorem qeE {m:M} (h:WF m) (b:Int):WF (eraA m b).2:=by
 unfold eraA;have ht:=qj4 h
 split
 ·unfold eraF
  repeat' split
  ·exact qb9 (qjj ht _ _) _ _ (Nat.zero_le _)
  ·exact qiK ht _ _
  ·exact qb9 (qjj ht _ _) _ _ (Nat.le_refl _)
  exact ht
 exact h
theorem scrA_wf {m:M} (h:WF m) (b p:Int) (s:List UInt8):WF (scrA m b p s):=by
 unfold scrA
 split
 ·rename_i hm;obtain ⟨i,q,rfl,rfl,hi',hqn⟩:=qjP hm;simp only [Int.toNat_natCast];unfold scrF;refine qb9 (qeq h i q _ (by rw [List.length_take];omega)) i _ ?_
  have:=h.nx i hi'
  show max (m.nx i) (q+1)≤m.np;omega
 exact h
end Go.Proofs.YtodmdkhdbfbfgaaGreatDoor.S1
namespace Go.Nt
abbrev Bs:=List UInt8
structure It where
 path:Bs
 dir:Bool
 data:Bs
 mode:Int
 time:Int
deriving DecidableEq,Inhabited
def split:Bs→List Bs
 | []=>[[]]
 | c :: cs=>if c=47 then [] :: split cs else
   match split cs with
   | []=>[[c]]
   | n :: ns=>(c :: n) :: ns
theorem qhh (p:Bs):split p≠[]:=by
 cases p with
 | nil=>simp [split]
 | cons c cs =>
   unfold split
   split
   ·simp
   split<;>simp
theorem qav (p:Bs):∃ n ns,split p=n :: ns:=by
 cases h:split p with
 | nil=>exact absurd h (qhh p)
 | cons n ns=>exact ⟨n,ns,rfl⟩
def key (c:UInt8):Nat:=if c=47 then 0 else c.toNat+1
theorem key_inj {a b:UInt8} (h:key a=key b):a=b:=by
 unfold key at h
 split at h<;>split at h
 ·simp_all
 ·omega
 ·omega
 exact UInt8.toNat_inj.1 (by omega)
def less:Bs→Bs→Bool
 | [],[]=>false
 | [],_ :: _=>true
 | _ :: _,[]=>false
 | a :: as1,b :: bs=>if a=b then less as1 bs else decide (key a<key b)
theorem qbC:∀ a,less a a=false
 | []=>rfl
 | a :: as1=>by simp [less,qbC as1]
theorem qa8:∀ a b,less a b=false→less b a=false→a=b
 | [],[],_,_=>rfl
 | [],_ :: _,h,_=>by simp [less] at h
 | _ :: _,[],_,h=>by simp [less] at h
 | a :: as1,b :: bs,h,h'=>by
   unfold less at h h';by_cases e:a=b
   ·subst e;simp at h h';rw [qa8 as1 bs h h']
   rw [if_neg e] at h;rw [if_neg (fun x=>e x.symm)] at h';simp at h h';exact absurd (key_inj (by omega)) e
theorem qa7:∀ a b c,less a b=true→less b c=true→less a c=true
 | [],[],_,h,_=>by simp [less] at h
 | [],_ :: _,[],_,h=>by simp [less] at h
 | [],_ :: _,_ :: _,_,_=>by simp [less]
 | _ :: _,[],_,h,_=>by simp [less] at h
 | _ :: _,_ :: _,[],_,h=>by simp [less] at h
 | a :: as1,b :: bs,c :: cs,h,h'=>by
   unfold less at h h' ⊢;by_cases e:a=b
   ·subst e;rw [if_pos rfl] at h;by_cases e2:a=c
    ·subst e2;rw [if_pos rfl] at h' ⊢;exact qa7 as1 bs cs h h'
    rw [if_neg e2] at h' ⊢;exact h'
   rw [if_neg e] at h;by_cases e2:b=c
   ·subst e2;rw [if_neg e];exact h
   rw [if_neg e2] at h';simp at h h'
   have:a≠c:=fun x=>by subst x;omega
   rw [if_neg this];simp;omega
theorem qhW {a b:Bs} (h:less a b=true):less b a=false:=by
 cases h':less b a with
 | false=>rfl
 | true=>have:=qa7 a b a h h';rw [qbC] at this;cases this
def ltS:Bs→Bs→Bool
 | [],[]=>false
 | [],_ :: _=>true
 | _ :: _,[]=>false
 | a :: as1,b :: bs=>if a=b then ltS as1 bs else decide (a.toNat<b.toNat)
def cmpS (a b:Bs):Int:=if ltS a b then -1 else if ltS b a then 1 else 0
def cmpN:List Bs→List Bs→Int
 | [],[]=>0
 | [],_ :: _ => -1
 | _ :: _,[]=>1
 | a :: as1,b :: bs=>if cmpS a b=0 then cmpN as1 bs else cmpS a b
theorem qa2:cmpS [] []=0:=by simp [cmpS,ltS]
theorem qbN (c:UInt8) (n:Bs):cmpS [] (c :: n) = -1:=by simp [cmpS,ltS]
theorem qb2 (c:UInt8) (n:Bs):cmpS (c :: n) []=1:=by simp [cmpS,ltS]
theorem qjC (c:UInt8) (n m:Bs):cmpS (c :: n) (c :: m)=cmpS n m:=by simp [cmpS,ltS]
theorem qhT {x y:UInt8} (h:x≠y) (n m:Bs):cmpS (x :: n) (y :: m)=if x.toNat<y.toNat then -1 else 1:=by
 have h2:y≠x:=fun e=>h e.symm
 have h3:x.toNat≠y.toNat:=fun e=>h (UInt8.toNat_inj.1 e)
 simp only [cmpS,ltS,if_neg h,if_neg h2];by_cases hh:x.toNat<y.toNat
 ·simp [hh]
 have:y.toNat<x.toNat:=by omega
 simp [hh,this]
theorem qal (cs:Bs):split (47 :: cs)=[] :: split cs:=by simp [split]
theorem qak {c:UInt8} (h:c≠47) {cs:Bs} {n:Bs} {ns:List Bs} (e:split cs=n :: ns):split (c :: cs)=(c :: n) :: ns:=by
 simp [split,h,e]
theorem qcW:∀ a b:Bs,decide (cmpN (split a) (split b)<0)=less a b
 | [],[]=>by simp [split,cmpN,qa2,less]
 | [],c :: cs=>by
   obtain ⟨n,ns,e⟩:=qav cs;by_cases h:c=47
   ·subst h;rw [qal,e];simp [split,cmpN,qa2,less]
   rw [qak h e];simp [split,cmpN,qbN,less]
 | c :: cs,[]=>by
   obtain ⟨n,ns,e⟩:=qav cs;by_cases h:c=47
   ·subst h;rw [qal,e];simp [split,cmpN,qa2,less]
   rw [qak h e];simp [split,cmpN,qb2,less]
 | x :: as1,y :: bs=>by
   obtain ⟨n,ns,e1⟩:=qav as1;obtain ⟨m,ms,e2⟩:=qav bs;by_cases hx:x=47
   ·by_cases hy:y=47
    ·subst hx;subst hy;rw [qal,qal]
     have:=qcW as1 bs
     simp only [cmpN,qa2,if_pos,less];exact this
    subst hx;rw [qal,qak hy e2];have h1:(47:UInt8)≠y:=fun e=>hy e.symm
    simp [cmpN,qbN,less,h1,key,hy]
   by_cases hy:y=47
   ·subst hy;rw [qal,qak hx e1];simp [cmpN,qb2,less,hx,key]
   rw [qak hx e1,qak hy e2];by_cases e:x=y
   ·subst e
    have:=qcW as1 bs
    rw [e1,e2] at this;simp only [cmpN,qjC,less,if_pos] at this ⊢;exact this
   simp only [cmpN,qhT e,less,if_neg e,key,if_neg hx,if_neg hy];by_cases hh:x.toNat<y.toNat
   ·simp [hh]
   simp [hh]
def okName (n:Bs):Bool:=n≠[]&&n≠[46]&&n≠[46,46]&&decide (n.length≤20) && !n.contains 0
def okPath (p:Bs):Bool:=decide ((split p).length≤6)&&(split p).all okName
def par:Bs→Bs
 | []=>[]
 | c :: cs=>if cs.contains 47 then c :: par cs else []
theorem qle {p:Bs} (h:∀ i,i<p.length→p.getD i 0≠47):par p=[]:=by
 cases p with
 | nil=>rfl
 | cons c cs =>
   unfold par;rw [if_neg];intro hc;obtain ⟨i,hi,he⟩:=List.getElem_of_mem (List.contains_iff_mem.1 hc)
   have:=h (i+1) (by simp;omega)
   simp [List.getD,hi] at this;exact this he
theorem qeo:∀ {p:Bs} {j:Nat},p.getD j 0=47→(∀ i,j<i→i<p.length→p.getD i 0≠47)→par p=p.take j
 | [],j,h,_=>by simp at h
 | c :: cs,0,_,h2=>by
   unfold par;rw [if_neg]
   ·rfl
   intro hc;obtain ⟨i,hi,he⟩:=List.getElem_of_mem (List.contains_iff_mem.1 hc)
   have:=h2 (i+1) (by omega) (by simp;omega)
   simp [List.getD,hi] at this;exact this he
 | c :: cs,j+1,h1,h2=>by
   unfold par;have h1':cs.getD j 0=47:=by simpa [List.getD] using h1
   have hj:j<cs.length:=by
    rcases Nat.lt_or_ge j cs.length with h | h
    ·exact h
    rw [List.getD,List.getElem?_eq_none h] at h1';cases h1'
   have hc:cs.contains 47=true:=by
    rw [List.contains_iff_mem]
    have:cs[j]=47:=by simpa [List.getD,hj] using h1'
    exact this ▸ List.getElem_mem hj
   rw [if_pos hc,qeo h1' (fun i hi hl => ?_)]
   ·rfl
   have:=h2 (i+1) (by omega) (by simp;omega)
   simpa [List.getD] using this
def okItem (x:It):Bool:=
 okPath x.path&&decide (x.data.length≤4000)&&(!x.dir||x.data.isEmpty)&&decide (0≤x.mode)&&decide (x.mode≤4095)&&decide (0≤x.time)&&decide (x.time≤2147483647)
def dirAt (l:List It) (p:Bs):Bool:=l.any fun y=>decide (y.path=p)&&y.dir
def isTree (l:List It):Bool:=
 decide (l.length≤60)&&l.all okItem&&decide ((l.map (·.path)).Nodup)&&l.all fun x=>decide (par x.path=[])||dirAt l (par x.path)
def qaf (l:List It):List It:=l.mergeSort fun x y => !less y.path x.path
def qa3 (l:List It) (p:Bs):Bool:=(List.range p.length).all fun i=>decide (p.getD i 0≠47)||dirAt l (p.take i)
theorem getD_take {p:Bs} {i j:Nat} (h:i<j):(p.take j).getD i 0=p.getD i 0:=by
 simp only [List.getD,List.getElem?_take];rw [if_pos h]
theorem qd6 (p:Bs):(∀ i,i<p.length→p.getD i 0≠47)∨∃ j,j<p.length∧p.getD j 0=47∧∀ i,j<i→i<p.length→p.getD i 0≠47:=by
 have:∀ n,n≤p.length→(∀ i,i<n→p.getD i 0≠47)∨∃ j,j<n∧p.getD j 0=47∧∀ i,j<i→i<n→p.getD i 0≠47:=by
  intro n
  induction n with
  | zero=>exact fun _=>.inl fun i h=>absurd h (Nat.not_lt_zero _)
  | succ n ih =>
    intro hn;by_cases e:p.getD n 0=47
    ·exact .inr ⟨n,Nat.lt_succ_self n,e,fun i h1 h2=>absurd h1 (by omega)⟩
    rcases ih (by omega) with h | ⟨j,hj,hj1,hj2⟩
    ·refine .inl fun i hi => ?_
     rcases Nat.lt_succ_iff_lt_or_eq.1 hi with h' | rfl
     ·exact h i h'
     exact e
    refine .inr ⟨j,by omega,hj1,fun i h1 h2 => ?_⟩;rcases Nat.lt_succ_iff_lt_or_eq.1 h2 with h' | rfl
    ·exact hj2 i h1 h'
    exact e
 exact this p.length (Nat.le_refl _)
theorem qgA {p:Bs} (h:okPath p=true):p.getD 0 0≠47:=by
 intro e;cases p with
 | nil=>simp at e
 | cons c cs =>
   simp [List.getD] at e;subst e;unfold okPath at h;rw [qal] at h;simp [okName] at h
theorem qcU (l:List It) (hok:l.all okItem=true) :
 (l.all fun x=>decide (par x.path=[])||dirAt l (par x.path))=l.all fun x=>qa3 l x.path:=by
 rw [Bool.eq_iff_iff]
 constructor
 ·intro h;have step:∀ n (x:It),x∈l→x.path.length=n→qa3 l x.path=true:=by
   intro n
   induction n using Nat.strongRecOn with
   | ind n ih =>
     intro x hx hn;unfold qa3;rw [List.all_eq_true];intro i hi;have hi':i<x.path.length:=List.mem_range.1 hi;by_cases e:x.path.getD i 0=47
     ·rcases qd6 x.path with hno | ⟨j,hj,hj1,hj2⟩
      ·exact absurd e (hno i hi')
      have hp:=qeo hj1 hj2;have hj0:j≠0:=by
       intro h0;subst h0
       have:=List.all_eq_true.1 hok x hx
       unfold okItem at this;simp only [Bool.and_eq_true] at this;exact qgA this.1.1.1.1.1.1 hj1
      have hx2:=List.all_eq_true.1 h x hx;have hpne:par x.path≠[]:=by
       rw [hp];intro hnil
       have:=congrArg List.length hnil
       rw [List.length_take,List.length_nil] at this;omega
      have hd:dirAt l (par x.path)=true:=by simpa [hpne] using hx2
      by_cases hij:i=j
      ·subst hij;rw [←hp];simp [hd]
      have hlt:i<j:=by
       rcases Nat.lt_or_ge i j with h' | h'
       ·exact h'
       exact absurd e (hj2 i (by omega) hi')
      unfold dirAt at hd;obtain ⟨y,hy,hyp⟩:=List.any_eq_true.1 hd;simp at hyp;have hyl:y.path.length=j:=by rw [hyp.1,hp,List.length_take];omega
      have hy2:=ih j (by omega) y hy hyl;unfold qa3 at hy2
      have:=List.all_eq_true.1 hy2 i (List.mem_range.2 (by omega))
      rw [hyp.1,hp,getD_take hlt,List.take_take,Nat.min_eq_left (by omega)] at this;exact this
     have e':¬(x.path[i]?.getD 0=47):=by simpa [List.getD] using e
     simp [e']
  rw [List.all_eq_true];exact fun x hx=>step _ x hx rfl
 intro h;rw [List.all_eq_true];intro x hx;have hx2:=List.all_eq_true.1 h x hx;rcases qd6 x.path with hno | ⟨j,hj,hj1,hj2⟩
 ·rw [qle hno];simp
 rw [qeo hj1 hj2];unfold qa3 at hx2
 have:=List.all_eq_true.1 hx2 j (List.mem_range.2 hj)
 rw [hj1] at this;simp at this;simp [this]
def num:Bs→Nat
 | b=>b.foldl (fun n x=>n*256+x.toNat) 0
def enc:Nat→Nat→Bs
 | 0,_=>[]
 | k+1,n=>enc k (n/256)++[UInt8.ofNat n]
theorem qab:∀ k n,(enc k n).length=k
 | 0,_=>rfl
 | k+1,n=>by simp [enc,qab k]
theorem qef (b:Bs) (x:UInt8):num (b++[x])=num b*256+x.toNat:=by simp [num]
theorem qch:∀ k n,n<256^k→num (enc k n)=n
 | 0,n,h=>by simp at h;subst h;rfl
 | k+1,n,h=>by
   rw [enc,qef,qch k (n/256) (by rw [Nat.pow_succ] at h;omega),UInt8.toNat_ofNat'];omega
theorem qdN:∀ (b:Bs),num b<256^b.length:=by
 intro b;have h:∀ (l:Bs) (a:Nat),l.foldl (fun n x=>n*256+x.toNat) a<(a+1)*256^l.length:=by
  intro l
  induction l with
  | nil=>intro a;simp
  | cons x xs ih =>
    intro a
    have:=ih (a*256+x.toNat)
    simp only [List.foldl_cons,List.length_cons];refine Nat.lt_of_lt_of_le this ?_;rw [Nat.pow_succ,Nat.mul_comm (256^xs.length) 256,←Nat.mul_assoc];refine Nat.mul_le_mul_right _ ?_
    have:=x.toNat_lt
    omega
 have:=h b 0
 simpa [num] using this
abbrev Rd:=Bs × Bool
def tk (n:Nat) (r:Rd):Bs × Rd:=if r.1.length<n then ([],([],false)) else (r.1.take n,(r.1.drop n,r.2))
def nmb (n:Nat) (r:Rd):Nat × Rd:=(num (tk n r).1,(tk n r).2)
def rdItem (u:Bs→Option Bs) (r:Rd):It × Rd:=
 let k:=nmb 2 r
 let t:=nmb 4 k.2
 let n:=nmb 1 t.2
 let p:=tk n.1 n.2
 if 32768≤k.1 then (⟨p.1,true,[],(k.1%32768:Nat),(t.1:Nat)⟩,p.2)
 else
  let z:=nmb 2 p.2
  let b:=tk z.1 z.2
  (⟨p.1,false,(u b.1).getD [],(k.1%32768:Nat),(t.1:Nat)⟩,(b.2.1,b.2.2&&(u b.1).isSome))
def qaK (u:Bs→Option Bs):Nat→Rd→List It→List It × Rd
 | 0,r,a=>(a,r)
 | k+1,r,a=>if r.2 then qaK u k (rdItem u r).2 (a++[(rdItem u r).1]) else (a,r)
def parse (u:Bs→Option Bs) (t:Bs):Option (List It):=
 let n:=nmb 1 (t,true)
 let r:=qaK u n.1 n.2 []
 if r.2.2 then some r.1 else none
def IsItem (u:Bs→Option Bs) (x:It) (e:Bs):Prop:=
 if x.dir then e=enc 2 (x.mode.toNat+32768)++enc 4 x.time.toNat++enc 1 x.path.length++x.path
 else ∃ t,u t=some x.data∧t.length≤x.data.length+1∧e=enc 2 x.mode.toNat++enc 4 x.time.toNat++enc 1 x.path.length++x.path++enc 2 t.length++t
def qaJ (u:Bs→Option Bs):List It→Bs→Prop
 | [],e=>e=[]
 | x :: l,e=>∃ a b,IsItem u x a∧qaJ u l b∧e=a++b
theorem qbJ {u:Bs→Option Bs}:∀ {l:List It} {e:Bs} {x:It} {a:Bs},qaJ u l e→IsItem u x a→qaJ u (l++[x]) (e++a)
 | [],e,x,a,h,hx=>by
   simp only [qaJ] at h;subst h;exact ⟨a,[],hx,rfl,by simp⟩
 | y :: l,e,x,a,h,hx=>by
   obtain ⟨b,c,hb,hc,rfl⟩:=h;exact ⟨b,c++a,hb,qbJ hc hx,by simp⟩
def IsText (u:Bs→Option Bs) (l:List It) (t:Bs):Prop:=∃ e,qaJ u l e∧t=enc 1 l.length++e
theorem qg8 (a b:Bs) (f:Bool):tk a.length (a++b,f)=(a,(b,f)):=by
 unfold tk;rw [if_neg (by simp)];simp
theorem qmU {n:Nat} {a b:Bs} {f:Bool} (h:n=a.length):tk n (a++b,f)=(a,(b,f)):=by subst h;exact qg8 a b f
theorem qbn (k n:Nat) (b:Bs) (f:Bool) (h:n<256^k):nmb k (enc k n++b,f)=(n,(b,f)):=by
 unfold nmb;rw [qmU (qab k n).symm];simp [qch k n h]
structure Fit (x:It):Prop where
 m0:0≤x.mode
 m1:x.mode≤4095
 t0:0≤x.time
 t1:x.time≤2147483647
 p:x.path.length≤255
 d:x.data.length≤4000
 e:x.dir=true→x.data=[]
theorem qf5 {u:Bs→Option Bs} {x:It} {e:Bs} (h:IsItem u x e) (hf:Fit x) (r:Bs):rdItem u (e++r,true)=(x,(r,true)):=by
 obtain ⟨m0,m1,t0,t1,hp,hd,he⟩:=hf;have ht:((x.time.toNat:Nat):Int)=x.time:=Int.toNat_of_nonneg t0;unfold IsItem at h;cases hdir:x.dir with
 | true =>
   rw [hdir,if_pos rfl] at h;subst h;unfold rdItem;simp only [List.append_assoc];rw [qbn 2 _ _ _ (by omega)];simp only [];rw [qbn 4 _ _ _ (by omega)];simp only [];rw [qbn 1 _ _ _ (by omega)];simp only [];rw [qg8,if_pos (by omega)];obtain ⟨p,d,dt,m,t⟩:=x;simp only at *;subst hdir;rw [he rfl,ht]
   have:((m.toNat+32768)%32768:Nat)=m.toNat:=by omega
   rw [this,Int.toNat_of_nonneg m0]
 | false =>
   rw [hdir] at h;simp only [Bool.false_eq_true,if_false] at h;obtain ⟨t,hu,hl,rfl⟩:=h;unfold rdItem;simp only [List.append_assoc];rw [qbn 2 _ _ _ (by omega)];simp only [];rw [qbn 4 _ _ _ (by omega)];simp only [];rw [qbn 1 _ _ _ (by omega)];simp only [];rw [qg8,if_neg (by omega)];simp only [];rw [qbn 2 _ _ _ (by omega)];simp only [];rw [qg8];simp only [hu];obtain ⟨p,d,dt,m,tt⟩:=x;simp only at *;subst hdir;rw [ht]
   have:(m.toNat%32768:Nat)=m.toNat:=by omega
   rw [this,Int.toNat_of_nonneg m0];rfl
theorem qcp {u:Bs→Option Bs}:∀ {l:List It} {e:Bs} (h:qaJ u l e) (hf:∀ x∈l,Fit x) (r:Bs) (a:List It),qaK u l.length (e++r,true) a=(a++l,(r,true))
 | [],e,h,_,r,a=>by simp only [qaJ] at h;subst h;simp [qaK]
 | x :: l,e,h,hf,r,a=>by
   obtain ⟨b,c,hb,hc,rfl⟩:=h;rw [List.length_cons,qaK,if_pos rfl,List.append_assoc,qf5 hb (hf x (by simp))];simp only [];rw [qcp hc (fun y hy=>hf y (by simp [hy]))];simp
theorem qih {u:Bs→Option Bs} {l:List It} {t:Bs} (h:IsText u l t) (hf:∀ x∈l,Fit x) (hn:l.length≤255) (r:Bs):parse u (t++r)=some l:=by
 obtain ⟨e,he,rfl⟩:=h;unfold parse;rw [List.append_assoc,qbn 1 _ _ _ (by omega)];simp only [];rw [qcp he hf];simp
def weigh (l:List It):Nat:=(l.map fun x=>16+x.path.length+x.data.length).sum
theorem qh8 {u:Bs→Option Bs} {x:It} {e:Bs} (h:IsItem u x e):e.length≤10+x.path.length+x.data.length:=by
 unfold IsItem at h
 split at h
 ·subst h;simp [qab];omega
 obtain ⟨t,_,hl,rfl⟩:=h;simp [qab];omega
theorem qbp {u:Bs→Option Bs}:∀ {l:List It} {e:Bs},qaJ u l e→e.length+6*l.length≤weigh l
 | [],e,h=>by simp only [qaJ] at h;subst h;simp [weigh]
 | x :: l,e,h=>by
   obtain ⟨a,b,ha,hb,rfl⟩:=h;have h1:=qh8 ha;have h2:=qbp hb;simp only [weigh,List.map_cons,List.sum_cons,List.length_append,List.length_cons] at h2 ⊢;omega
theorem qce {u:Bs→Option Bs} {l:List It} {t:Bs} (h:IsText u l t):t.length≤weigh l+1:=by
 obtain ⟨e,he,rfl⟩:=h
 have:=qbp he
 simp [qab];omega
theorem qdT {u:Bs→Option Bs} {l:List It} {t:Bs} (h:IsText u l t):0<t.length:=by
 obtain ⟨e,he,rfl⟩:=h;simp [qab];omega
theorem qeP:∀ p:Bs,((split p).map (fun n=>n.length+1)).sum=p.length+1
 | []=>by simp [split]
 | c :: cs=>by
   obtain ⟨n,ns,e⟩:=qav cs;have ih:=qeP cs;by_cases h:c=47
   ·subst h;rw [qal];simp only [List.map_cons,List.sum_cons,List.length_nil,List.length_cons];omega
   rw [qak h e];rw [e] at ih;simp only [List.map_cons,List.sum_cons,List.length_cons] at ih ⊢;omega
theorem qju {α:Type} (f:α→Nat) (k:Nat):∀ l:List α,(∀ x∈l,f x≤k)→(l.map f).sum≤k*l.length
 | [],_=>by simp
 | x :: l,h=>by
   have h1:=h x (by simp);have h2:=qju f k l (fun y hy=>h y (by simp [hy]));simp only [List.map_cons,List.sum_cons,List.length_cons,Nat.mul_succ];omega
theorem qh2 {p:Bs} (h:okPath p=true):p.length≤125:=by
 unfold okPath at h;simp only [Bool.and_eq_true,decide_eq_true_eq,List.all_eq_true] at h;have h1:=qeP p;have h2:=qju (fun n:Bs=>n.length+1) 21 (split p) (fun n hn=>by
  have:=h.2 n hn
  unfold okName at this;simp only [Bool.and_eq_true,decide_eq_true_eq] at this;omega)
 have h3:21*(split p).length≤21*6:=Nat.mul_le_mul_left _ h.1;omega
theorem qaC {x:It} (h:okItem x=true):Fit x:=by
 unfold okItem at h;simp only [Bool.and_eq_true,decide_eq_true_eq] at h;obtain ⟨⟨⟨⟨⟨⟨h1,h2⟩,h3⟩,h4⟩,h5⟩,h6⟩,h7⟩:=h;refine ⟨h4,h5,h6,h7,by have:=qh2 h1;omega,h2,fun hd => ?_⟩;rw [hd] at h3;simpa using h3
theorem qhN {l:List It} (h:isTree l=true):(∀ x∈l,Fit x)∧l.length≤60:=by
 unfold isTree at h;simp only [Bool.and_eq_true,decide_eq_true_eq,List.all_eq_true] at h;exact ⟨fun x hx=>qaC (h.1.1.2 x hx),h.1.1.1⟩
def fnv1 (n:Nat) (b:UInt8):Nat:=(n ^^^ b.toNat)*16777619%4294967296
def fnv (l:Bs):Nat:=l.foldl fnv1 2166136261
def less7 (n:Nat):Nat:=n/256*256+n%128
def sumP (l:Bs):Nat:=less7 (fnv l)
theorem qm1 (n:Nat) (b:UInt8):fnv1 n b<4294967296:=Nat.mod_lt _ (by decide)
theorem qmh (l:Bs):fnv l<4294967296:=by
 have h:∀ (l:Bs) (a:Nat),a<4294967296→l.foldl fnv1 a<4294967296:=by
  intro l
  induction l with
  | nil=>intro a h;exact h
  | cons x xs ih=>intro a _;exact ih _ (qm1 a x)
 exact h l _ (by decide)
theorem qd8 {α:Type} (f:α→UInt8→α) (a:α) {l:Bs} {i:Nat} (h:i<l.length):(l.take (i+1)).foldl f a=f ((l.take i).foldl f a) (l.getD i 0):=by
 rw [List.take_add_one,List.getElem?_eq_getElem h];simp only [Option.toList_some,List.foldl_append,List.foldl_cons,List.foldl_nil,List.getD,List.getElem?_eq_getElem h,Option.getD_some]
theorem qlD {l:Bs} {i:Nat} (h:i<l.length):fnv (l.take (i+1))=fnv1 (fnv (l.take i)) (l.getD i 0):=qd8 fnv1 _ h
theorem qjZ (l:Bs):sumP l<4294967296:=by have:=qmh l;unfold sumP less7;omega
theorem qiG (l:Bs):sumP l%256<128:=by unfold sumP less7;omega
structure Pg where
 bad:Nat
 num:Nat
 at_:Nat
 of_:Nat
 text:Bs
deriving DecidableEq,Inhabited
def pgHead (p:Pg):Bs:=enc 1 p.bad++enc 4 p.num++enc 2 p.at_++enc 2 p.of_++p.text++List.replicate (51 - p.text.length) 0
def pageB (p:Pg):Bs:=pgHead p++enc 4 (sumP (pgHead p))
theorem qaH (p:Pg) (h:p.text.length≤51):(pgHead p).length=60:=by
 unfold pgHead;simp only [List.length_append,qab,List.length_replicate];omega
theorem pageB_length (p:Pg) (h:p.text.length≤51):(pageB p).length=64:=by
 unfold pageB;rw [List.length_append,qaH p h,qab]
def sayP (s:Bs):Pg:=⟨(s.getD 0 0).toNat,num ((s.drop 1).take 4),num ((s.drop 5).take 2),num ((s.drop 7).take 2),(s.take 60).drop 9⟩
def okP (s:Bs):Bool:=decide (s.length=64)&&decide (num (s.drop 60)=sumP (s.take 60))
def readP (s:Bs):Option Pg:=if okP s&&decide ((sayP s).at_<(sayP s).of_) then some (sayP s) else none
structure PgOk (p:Pg):Prop where
 b:p.bad<256
 n:p.num<4294967296
 a:p.at_<p.of_
 o:p.of_<65536
 t:p.text.length≤51
theorem qbQ {a b:Bs} {n:Nat} (h:n=a.length):(a++b).take n=a:=by subst h;simp
theorem qbM {a b:Bs} {n:Nat} (h:n=a.length):(a++b).drop n=b:=by subst h;simp
theorem qlj {b:Nat} (h:b<256) (r:Bs):((enc 1 b++r).getD 0 0).toNat=b:=by
 simp [enc,List.getD];omega
theorem qil {p:Pg} (h:PgOk p):sayP (pageB p)={ p with text:=p.text++List.replicate (51 - p.text.length) 0 }:=by
 obtain ⟨hb,hn,ha,ho,ht⟩:=h;obtain ⟨b,n,a,o,t⟩:=p;simp only at *;have e60:(pageB ⟨b,n,a,o,t⟩).take 60=pgHead ⟨b,n,a,o,t⟩:=qbQ (qaH _ ht).symm;unfold sayP;rw [e60];unfold pageB pgHead;simp only [List.append_assoc]
 generalize hR:t++(List.replicate (51 - t.length) 0++enc 4 (sumP (enc 1 b++(enc 4 n++(enc 2 a++(enc 2 o++(t++List.replicate (51 - t.length) 0)))))))=R
 have d1:(enc 1 b++(enc 4 n++(enc 2 a++(enc 2 o++R)))).drop 1=enc 4 n++(enc 2 a++(enc 2 o++R)):=qbM (qab _ _).symm;have d5:(enc 1 b++(enc 4 n++(enc 2 a++(enc 2 o++R)))).drop 5=enc 2 a++(enc 2 o++R):=by
  rw [←List.append_assoc];exact qbM (by simp [qab])
 have d7:(enc 1 b++(enc 4 n++(enc 2 a++(enc 2 o++R)))).drop 7=enc 2 o++R:=by
  rw [←List.append_assoc,←List.append_assoc];exact qbM (by simp [qab])
 have d9:(enc 1 b++(enc 4 n++(enc 2 a++(enc 2 o++(t++List.replicate (51 - t.length) 0))))).drop 9=t++List.replicate (51 - t.length) 0:=by
  rw [←List.append_assoc,←List.append_assoc,←List.append_assoc];exact qbM (by simp [qab])
 rw [d1,d5,d7,d9,qlj hb,qbQ (qab _ _).symm,qbQ (qab _ _).symm,qbQ (qab _ _).symm,qch 4 n (by omega),qch 2 a (by omega),qch 2 o (by omega)]
theorem qjM {p:Pg} (h:p.text.length≤51):okP (pageB p)=true:=by
 unfold okP;rw [pageB_length p h];have e60:(pageB p).take 60=pgHead p:=qbQ (qaH _ h).symm;have d60:(pageB p).drop 60=enc 4 (sumP (pgHead p)):=qbM (qaH _ h).symm;rw [e60,d60,qch 4 _ (qjZ _)];simp
theorem qbB {p:Pg} (h:PgOk p):readP (pageB p)=some { p with text:=p.text++List.replicate (51 - p.text.length) 0 }:=by
 unfold readP;rw [qjM h.t,qil h];simp [h.a]
theorem qea {s:Bs} (h:s.getD 63 0=255):readP s=none:=by
 unfold readP okP;by_cases h64:s.length=64
 ·have e:s.drop 60=(s.drop 60).take 3++[s.getD 63 0]:=by
   have h3:(s.drop 60).length=4:=by simp [h64]
   have:=List.take_add_one (l:=s.drop 60) (i:=3)
   rw [List.take_of_length_le (by omega)] at this;refine this.trans ?_
   congr 1
   simp [List.getD];rw [List.getElem?_eq_getElem (by omega)];simp
  have hn:num (s.drop 60)≠sumP (s.take 60):=by
   rw [e,qef,h];intro he
   have:=qiG (s.take 60)
   rw [←he] at this;have h255:(255:UInt8).toNat=255:=rfl;omega
  simp [hn]
 simp [h64]
theorem readP_some {s:Bs} {p:Pg} (h:readP s=some p):s.length=64∧p=sayP s∧p.at_<p.of_:=by
 unfold readP at h
 split at h
 ·rename_i hc;simp only [okP,Bool.and_eq_true,decide_eq_true_eq] at hc;cases h
  exact ⟨hc.1.1,rfl,hc.2⟩
 cases h
theorem qeX {b:Bs} {k:Nat} (h:b.length≤k):num b<256^k:=Nat.lt_of_lt_of_le (qdN b) (Nat.pow_le_pow_right (by decide) h)
theorem sayP_fit (s:Bs):(sayP s).bad<256∧(sayP s).num<4294967296∧(sayP s).at_<65536∧(sayP s).of_<65536:=by
 refine ⟨UInt8.toNat_lt _,?_,?_,?_⟩
 ·exact qeX (k:=4) (by simp;omega)
 ·exact qeX (k:=2) (by simp;omega)
 exact qeX (k:=2) (by simp;omega)
theorem qiQ {s:Bs} (h:s.length=64):(sayP s).text.length=51:=by
 unfold sayP;simp [h]
def pagesN (n:Nat):Nat:=(n+50)/51
def pgOf (b n:Nat) (t:Bs) (k:Nat):Pg:=⟨b,n,k,pagesN t.length,(t.drop (k*51)).take 51⟩
def splitR (b n:Nat) (t:Bs):List Bs:=(List.range (pagesN t.length)).map fun k=>pageB (pgOf b n t k)
theorem splitR_length (b n:Nat) (t:Bs):(splitR b n t).length=pagesN t.length:=by simp [splitR]
theorem qgD {b n:Nat} {t:Bs} {k:Nat} (hb:b<256) (hn:n<4294967296) (hk:k<pagesN t.length) (ho:pagesN t.length<65536):PgOk (pgOf b n t k):=
 ⟨hb,hn,hk,ho,by simp [pgOf];omega⟩
theorem qhK (t:Bs):∀ k,k≤pagesN t.length→((List.range k).map fun i=>(t.drop (i*51)).take 51++List.replicate (51 - ((t.drop (i*51)).take 51).length) (0:UInt8)).flatten=(t++List.replicate (k*51 - t.length) 0).take (k*51):=by
 intro k
 induction k with
 | zero=>intro _;simp
 | succ k ih =>
   intro hk;rw [List.range_succ,List.map_append,List.flatten_append,ih (by omega)];simp only [List.map_cons,List.map_nil,List.flatten_cons,List.flatten_nil,List.append_nil];have hkt:k*51<t.length:=by unfold pagesN at hk;omega
   have h0:k*51 - t.length=0:=by omega
   rw [h0];simp only [List.replicate_zero,List.append_nil];have hl:((t.drop (k*51)).take 51).length=min 51 (t.length - k*51):=by simp
   rw [hl];by_cases h:(k+1)*51≤t.length
   ·have e1:51 - min 51 (t.length - k*51)=0:=by omega
    have e2:(k+1)*51 - t.length=0:=by omega
    rw [e1,e2];simp only [List.replicate_zero,List.append_nil];rw [show (k+1)*51=k*51+51 by omega,List.take_add]
   have e1:51 - min 51 (t.length - k*51)=(k+1)*51 - t.length:=by omega
   rw [e1];rw [List.take_of_length_le (l:=t++_) (by simp;omega)];rw [←List.append_assoc]
   congr 1
   rw [List.take_of_length_le (l:=t.drop (k*51)) (by simp;omega)];exact List.take_append_drop _ _
theorem qlJ (t:Bs):∃ z,((List.range (pagesN t.length)).map fun i=>(t.drop (i*51)).take 51++List.replicate (51 - ((t.drop (i*51)).take 51).length) (0:UInt8)).flatten=t++z:=by
 refine ⟨List.replicate (pagesN t.length*51 - t.length) 0,?_⟩;rw [qhK t _ (Nat.le_refl _)];refine List.take_of_length_le ?_;simp [pagesN];omega
structure Fp where
 bad:Nat
 num:Nat
 at_:Nat
 of_:Nat
 text:Bs
 blk:Nat
deriving DecidableEq,Inhabited
def Fp.mk' (p:Pg) (i:Nat):Fp:=⟨p.bad,p.num,p.at_,p.of_,p.text,i⟩
def oneF (g:Nat→Nat→Bs) (i p:Nat):List Fp:=((readP (g i p)).map fun q=>Fp.mk' q i).toList
def rowF (g:Nat→Nat→Bs) (i:Nat):Nat→List Fp
 | 0=>[]
 | k+1=>rowF g i k++oneF g i k
def scanF (g:Nat→Nat→Bs) (np:Nat):Nat→List Fp
 | 0=>[]
 | k+1=>scanF g np k++rowF g k np
theorem qlp (g:Nat→Nat→Bs) (i p:Nat):(oneF g i p).length≤1:=by
 unfold oneF;cases readP (g i p)<;>simp
theorem qgY (g:Nat→Nat→Bs) (i:Nat):∀ k,(rowF g i k).length≤k
 | 0=>by simp [rowF]
 | k+1=>by
   have h1:=qgY g i k;have h2:=qlp g i k;simp only [rowF,List.length_append];omega
theorem scanF_len (g:Nat→Nat→Bs) (np:Nat):∀ k,(scanF g np k).length≤k*np
 | 0=>by simp [scanF]
 | k+1=>by
   have h1:=scanF_len g np k;have h2:=qgY g k np;simp only [scanF,List.length_append,Nat.succ_mul];omega
theorem qlX {g:Nat→Nat→Bs} {i p:Nat} {f:Fp}:f∈oneF g i p↔∃ q,readP (g i p)=some q∧f=Fp.mk' q i:=by
 unfold oneF;cases h:readP (g i p) with
 | none=>simp
 | some q=>simp
theorem qhf {g:Nat→Nat→Bs} {i:Nat} {f:Fp}:∀ {k},f∈rowF g i k↔∃ p q,p<k∧readP (g i p)=some q∧f=Fp.mk' q i
 | 0=>by simp [rowF]
 | k+1=>by
   rw [rowF,List.mem_append,qhf,qlX]
   constructor
   ·rintro (⟨p,q,hp,h⟩ | ⟨q,h⟩)
    ·exact ⟨p,q,by omega,h⟩
    exact ⟨k,q,by omega,h⟩
   rintro ⟨p,q,hp,h⟩;by_cases e:p=k
   ·subst e;exact .inr ⟨q,h⟩
   exact .inl ⟨p,q,by omega,h⟩
theorem mem_scanF {g:Nat→Nat→Bs} {np:Nat} {f:Fp}:∀ {k},f∈scanF g np k↔∃ i p q,i<k∧p<np∧readP (g i p)=some q∧f=Fp.mk' q i
 | 0=>by simp [scanF]
 | k+1=>by
   rw [scanF,List.mem_append,mem_scanF,qhf]
   constructor
   ·rintro (⟨i,p,q,hi,h⟩ | ⟨p,q,h⟩)
    ·exact ⟨i,p,q,by omega,h⟩
    exact ⟨k,p,q,by omega,h⟩
   rintro ⟨i,p,q,hi,h⟩;by_cases e:i=k
   ·subst e;exact .inr ⟨p,q,h⟩
   exact .inl ⟨i,p,q,by omega,h⟩
structure FpOk (f:Fp):Prop where
 b:f.bad<256
 n:f.num<4294967296
 a:f.at_<f.of_
 o:f.of_<65536
 t:f.text.length=51
theorem scanF_ok {g:Nat→Nat→Bs} {np k:Nat} {f:Fp} (h:f∈scanF g np k):FpOk f∧f.blk<k:=by
 obtain ⟨i,p,q,hi,hp,hr,rfl⟩:=mem_scanF.1 h;obtain ⟨h1,rfl,h3⟩:=readP_some hr
 have:=sayP_fit (g i p)
 exact ⟨⟨this.1,this.2.1,h3,this.2.2.2,qiQ h1⟩,hi⟩
def isAt (b n a:Nat) (f:Fp):Bool:=f.bad==b&&f.num==n&&f.at_==a
theorem isAt_iff {b n a:Nat} {f:Fp}:isAt b n a f=true↔f.bad=b∧f.num=n∧f.at_=a:=by
 simp [isAt,and_assoc]
def lookF (l:List Fp) (b n a:Nat):Option Fp:=l.find? (isAt b n a)
theorem qdO (l:List Fp) (f:Fp) (b n a:Nat):lookF (l++[f]) b n a=if (lookF l b n a).isSome then lookF l b n a else if isAt b n a f then some f else none:=by
 unfold lookF;rw [List.find?_append];cases h:l.find? (isAt b n a) with
 | some x=>simp
 | none=>cases hf:isAt b n a f<;>simp [List.find?,hf]
theorem qaq {l:List Fp} {b n a:Nat} {f:Fp} (h:lookF l b n a=some f):f∈l∧f.bad=b∧f.num=n∧f.at_=a:=
 ⟨List.mem_of_find?_eq_some h,isAt_iff.1 (List.find?_some h)⟩
theorem qcu {l:List Fp} {f:Fp} (h:f∈l) (hu:∀ x∈l,x.bad=f.bad→x.num=f.num→x.at_=f.at_→x=f):lookF l f.bad f.num f.at_=some f:=by
 cases hl:lookF l f.bad f.num f.at_ with
 | some x =>
   obtain ⟨h1,h2,h3,h4⟩:=qaq hl;rw [hu x h1 h2 h3 h4]
 | none =>
   unfold lookF at hl
   have:=List.find?_eq_none.1 hl f h
   simp [isAt] at this
theorem lookF_none {l:List Fp} {b n a:Nat}:lookF l b n a=none↔∀ f∈l,¬(f.bad=b∧f.num=n∧f.at_=a):=by
 unfold lookF;rw [List.find?_eq_none]
 constructor
 ·intro h f hf he;exact h f hf (isAt_iff.2 he)
 intro h f hf he;exact h f hf (isAt_iff.1 he)
def hasL (l:List Fp) (b n:Nat):Bool:=l.any fun f=>f.bad==b&&f.num==n
theorem hasL_iff {l:List Fp} {b n:Nat}:hasL l b n=true↔∃ f∈l,f.bad=b∧f.num=n:=by
 simp [hasL]
def ofF (l:List Fp) (b n:Nat):Nat:=((lookF l b n 0).map Fp.of_).getD 0
def partF (l:List Fp) (b n o:Nat):Nat→Option (List Fp)
 | 0=>some []
 | k+1=>match partF l b n o k,lookF l b n k with
   | some ps,some f=>if f.of_=o then some (ps++[f]) else none
   | _,_=>none
def recF (l:List Fp) (b n:Nat):Option (List Fp):=if ofF l b n=0 then none else partF l b n (ofF l b n) (ofF l b n)
theorem qdJ {l:List Fp} {b n o:Nat}:∀ {k j:Nat},k≤j→partF l b n o k=none→partF l b n o j=none:=by
 intro k j hk h
 induction j with
 | zero=>have:k=0:=by omega
         subst this;exact h
 | succ j ih =>
   by_cases e:k=j+1
   ·subst e;exact h
   rw [partF,ih (by omega)]
def txtF (ps:List Fp):Bs:=(ps.map Fp.text).flatten
def inF (ps:List Fp) (j:Nat):Bool:=ps.any fun f=>f.blk==j
def endF (ps:List Fp):Nat:=(ps.getLast?.map Fp.blk).getD 0
theorem qcL (ps:List Fp) (f:Fp):txtF (ps++[f])=txtF ps++f.text:=by simp [txtF]
theorem qgQ (ps:List Fp) (f:Fp) (j:Nat):inF (ps++[f]) j=(j==f.blk||inF ps j):=by
 simp [inF,Bool.or_comm,BEq.comm (a:=f.blk)]
theorem qfA (ps:List Fp) (f:Fp):endF (ps++[f])=f.blk:=by simp [endF]
def fpR (b n:Nat) (t:Bs) (k i:Nat):Fp:=⟨b,n,k,pagesN t.length,(t.drop (k*51)).take 51++List.replicate (51 - ((t.drop (k*51)).take 51).length) 0,i⟩
theorem qdu {l:List Fp} {b n:Nat} {t:Bs} {blk:Nat→Nat} (h:∀ k,k<pagesN t.length→lookF l b n k=some (fpR b n t k (blk k))):∀ k,k≤pagesN t.length→partF l b n (pagesN t.length) k=some ((List.range k).map fun j=>fpR b n t j (blk j))
 | 0,_=>rfl
 | k+1,hk=>by
   rw [partF,qdu h k (by omega),h k (by omega),List.range_succ];simp [fpR]
theorem qhR {l:List Fp} {b n:Nat} {t:Bs} {blk:Nat→Nat} (h0:0<t.length) (h:∀ k,k<pagesN t.length→lookF l b n k=some (fpR b n t k (blk k))):recF l b n=some ((List.range (pagesN t.length)).map fun j=>fpR b n t j (blk j)):=by
 have hp:0<pagesN t.length:=by unfold pagesN;omega
 have ho:ofF l b n=pagesN t.length:=by
  unfold ofF;rw [h 0 hp];rfl
 unfold recF;rw [ho,if_neg (by omega)];exact qdu h _ (Nat.le_refl _)
theorem qhC (b n:Nat) (t:Bs) (blk:Nat→Nat):∃ z,txtF ((List.range (pagesN t.length)).map fun j=>fpR b n t j (blk j))=t++z:=by
 obtain ⟨z,hz⟩:=qlJ t;refine ⟨z,?_⟩;rw [←hz];unfold txtF;rw [List.map_map];rfl
end Go.Nt
