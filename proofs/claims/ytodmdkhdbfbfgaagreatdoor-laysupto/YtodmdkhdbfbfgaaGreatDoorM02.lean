/- Lemmas. -/
import Derived.Maps.OwnSet
import Derived.Maps.OwnOps
import Derived.Maps.Keyed
import Derived.Test.YtodmdkhdbfbfgaaGreatDoorM01
set_option linter.unusedVariables false
set_option linter.unusedSimpArgs false
set_option maxRecDepth 100000
set_option maxHeartbeats 8000000
open Go.Proofs.Tryz
abbrev Go.Au:=@Go.bodyPost_ret
abbrev Go.Bk:=@Go.Maps.has_put_other
abbrev Go.CJ:=@Go.results_none
abbrev Go.Cj:=@Go.Maps.has_put_same
abbrev Go.Cw:=@Go.World.ownsMap_made
namespace Go.Proofs.YtodmdkhdbfbfgaaGreatDoor.S1
open Go.RowKit Pk
def IL(m:M)(i q:Nat)(s:D8):M:=FA (FD m i q (s.take 64)) i (max (m.nx i) (q+1))
def QO(m:M)(b p:Int):Prop:=hasB m b=true/\0<=p/\p<(m.np:Int)
theorem lZ(w:D7)(lo hi cb:Nat)(L:Loc)(m:M)(b p:Int)(s:D8)(h:CP w lo hi cb L m)(hm:¬QO m b p) :
 Calls prog 17 #[.pointer (some ⟨cb,0,none⟩),.int .i64 b,.int .i64 p,.string (D9 s)] w λe w'=>e=.returned (.tuple #[])/\w'=w:=by
 have a0:=Jy (TI w lo hi cb L m b h);have c0:=Db.c0 h;have c1:=Db.c1 h
 generalize D9 s=t
 cases hh:hasB m b with
 | false =>
   rw[hh]at a0;clear h hm hh;go_enter func17,ntmps17
   go_wp2_with fail;refine a0.o.mono ?_;rintro e w1 ⟨rfl,rfl⟩;go_wp2
   ((try simp only[Exit.inBlock,Exit.then]);refine Au (CJ rfl _ _ _) rfl ?_)
   exact⟨rfl,rfl⟩
 | true =>
   have hy:=P9 hh;have a4:decide (b<0)=false:=by simp;omega
   have a3:decide ((m.nb:Int)<=b)=false:=by simp;omega
   rw[hh]at a0;by_cases hp:p<0
   ·have hd:decide (p<0)=true:=by simpa using hp
    clear h hm hh;go_enter func17,ntmps17
    go_wp2_with fail;refine a0.o.mono ?_;rintro e w1 ⟨rfl,rfl⟩;go_wp2
    ((try simp only[Exit.inBlock,Exit.then]);refine Au (CJ rfl _ _ _) rfl ?_)
    exact⟨rfl,rfl⟩
   have hd:decide (p<0)=false:=by simpa using hp
   have a1:(m.np:Int)<=p:=Int.not_lt.mp (λe=>hm ⟨hh,by omega,e⟩);have a2:decide ((m.np:Int)<=p)=true:=by simpa using a1
   clear h hm hh;go_enter func17,ntmps17
   go_wp2_with fail;refine a0.o.mono ?_;rintro e w1 ⟨rfl,rfl⟩;go_wp2
   ((try simp only[Exit.inBlock,Exit.then]);refine Au (CJ rfl _ _ _) rfl ?_)
   exact⟨rfl,rfl⟩
theorem jZ(w:D7)(lo hi cb:Nat)(L:Loc)(m:M)(i q:Nat)(s:D8)(hw:WF m)(hs:s.length<=140737488351232)(h:CP w lo hi cb L m)(hi':i<m.nb)(hqn:q<m.np) :
 Calls prog 17 #[.pointer (some ⟨cb,0,none⟩),.int .i64 i,.int .i64 q,.string (D9 s)] w λe w'=>e=.returned (.tuple #[])/\CP w' lo hi cb L (IL m i q s)/\Dr lo hi w w':=by
 have a3:=Jy (TI w lo hi cb L m (i:Nat) h);have hh:hasB m (i:Nat)=true:=by simp[hasB];omega
 rw[hh]at a3;have c0:=Db.c0 h;have c1:=Db.c1 h;have cd:=h.data.cell hi';have cp:=(h.Ey i hi').cell hqn;have cf:=(h.Ey i hi').frozen q;have hd:decide ((q:Int)<0)=false:=by simp
 have aD:decide ((m.np:Int)<=(q:Int))=false:=by simp;omega
 have am:(D9 s).size=s.length:=Dd s;have aw:q<=16:=by have:=hw.Jv;omega
 have ac:m.nx i<=16:=by have:=hw.nx i hi';have:=hw.Jv;omega
 obtain⟨n,hn⟩:=Jq (min s.length 64);have af:(D9 s).extract 0 n=D9 (s.take 64):=by
  rw[Jb,hn]
  congr 1
  simp only[List.drop_zero,Cq];by_cases e:s.length<=64
  ·rw[Ce e,AT e,AT (AB _)]
  rw[Nat.min_eq_right (by omega)]
 obtain⟨Y,hY⟩:=Jq (D9 (s.take 64));have h3:CP (w.setCell ⟨L.rw i,q,none⟩ (.string Y)) lo hi cb L (FD m i q (s.take 64)):=by
  have:=Db.ID h i q hi' hqn (s.take 64)
  rw[hY];exact this
 have an:Dr lo hi w (w.setCell ⟨L.rw i,q,none⟩ (.string Y)):=(Dr.refl _ _ _).set (h.Kq i hi') q _;have a6:=h.I0;rw[<-hY]at af;obtain⟨t,ht⟩:=Jq (D9 s);rw[<-ht]at af am ⊢;have ad:=Jy af;have az:n<=t.size:=by omega
 have ah:(n:Int)<=(t.size:Int):=by omega
 have aE:t.size<=140737488351232:=by omega
 have H3:=Jy h3;have aa:=Jy an;simp only[id]at cp;clear h3 an h hh ht hY af;by_cases hl:s.length<=64
 ·have ae:(t.size:Int)=(n:Int):=by omega
  have ax:=Jy ae;have aA:decide ((t.size:Int)<=64)=true:=by simp;omega
  have ao:t.size=n:=by omega
  have au:=Jy ao;have aj:t.size<=64:=by omega
  clear hn hl ae ao am;have ar:t.extract 0 n=t:=by rw[<-au.o];exact ByteArray.extract_zero_size
  have ag:Y=t:=ad.o.symm.trans ar;subst ag;clear ar ad au ax az ah;go_enter func17,ntmps17
  go_wp2_with fail;refine a3.o.mono ?_;rintro e w1 ⟨rfl,rfl⟩;go_wp2;go_region;have a0:CP (w1.setCell ⟨L.rw i,q,none⟩ (.string Y)).drew lo hi cb L (FD m i q (s.take 64)):=Db.drew H3.o;have a1:Dr lo hi w1 (w1.setCell ⟨L.rw i,q,none⟩ (.string Y)).drew:=aa.o.drew
  generalize (w1.setCell ⟨L.rw i,q,none⟩ (.string Y)).drew=W at a0 a1 ⊢
  clear H3 aa c0 c1 cd cp cf a3;have d2:=Db.c2 a0;have dn:=a0.next.cell hi';have df:=a0.next.frozen i;simp only[FD]at d2 dn;by_cases hx:m.nx i<=q+1
  ·have a2:=Db.IQ a0 i (q+1);have a4:=a1.set a6 i (.int .i64 ((q+1:Nat):Int));have Hr:Hid (IL m i q s=FA (FD m i q (s.take 64)) i (q+1)):=(by show IL m i q s=_;unfold IL;rw[Nat.max_eq_right hx]);have Hm:=Jy a2;have Ho:=Jy a4;clear a2 a4 a0 a1;rw[show((q+1:Nat):Int)=(q:Int)+1 by omega]at Hm Ho;have a7:(m.nx i:Int)<=(q:Int)+1:=by omega
   have a9:decide ((m.nx i:Int)<=(q:Int)+1)=true:=by simpa using a7
   by_cases a8:m.nx i=q+1
   ·have a5:(m.nx i:Int)=(q:Int)+1:=by omega
    have ay:=Jy a5;rw[a5]at dn;clear hx a7 a9 a8 a5 ac;go_wp2;go_region;go_end0
    refine⟨rfl,?_,Ho.o.drew⟩;rw[Hr.o];exact Db.drew Hm.o
   have av:m.nx i<q+1:=by omega
   have ai:(m.nx i:Int)<(q:Int)+1:=by omega
   have aB:decide ((m.nx i:Int)<(q:Int)+1)=true:=by simpa using ai
   have aC:decide ((q:Int)+1<(m.nx i:Int))=false:=by simp;omega
   generalize m.nx i=x at *
   clear hx a8;go_wp2;go_region;go_end0
   refine⟨rfl,?_,Ho.o.drew⟩;rw[Hr.o];exact Db.drew Hm.o
  have Hr:Hid (IL m i q s=FA (FD m i q (s.take 64)) i (m.nx i)):=(by show IL m i q s=_;unfold IL;rw[DY (by omega)]);have a2:=Db.IQ a0 i (m.nx i);have a4:=a1.set a6 i (.int .i64 ((m.nx i:Nat):Int));have Hm:=Jy a2;have Ho:=Jy a4;clear a2 a4 a0 a1;have a7:(q:Int)+1<(m.nx i:Int):=by omega
  have a9:decide ((m.nx i:Int)<=(q:Int)+1)=false:=by simp;omega
  have a8:decide ((m.nx i:Int)<(q:Int)+1)=false:=by simp;omega
  have a5:decide ((q:Int)+1<(m.nx i:Int))=true:=by simpa using a7
  go_wp2;go_region;go_end0
  refine⟨rfl,?_,Ho.o.drew⟩;rw[Hr.o];exact Db.drew Hm.o
 ·have ae:n=64:=by omega
  subst ae;have aA:decide ((t.size:Int)<=64)=false:=by simp;omega
  have aj:64<t.size:=by omega
  clear hn hl am;have ag:t.extract 0 64=Y:=ad.o;rw[<-ag]at H3 aa;clear ag ad;go_enter func17,ntmps17
  go_wp2_with fail;refine a3.o.mono ?_;rintro e w1 ⟨rfl,rfl⟩;go_wp2;go_region;have a0:CP (w1.setCell ⟨L.rw i,q,none⟩ (.string (t.extract 0 64))).drew lo hi cb L (FD m i q (s.take 64)):=Db.drew H3.o;have a1:Dr lo hi w1 (w1.setCell ⟨L.rw i,q,none⟩ (.string (t.extract 0 64))).drew:=aa.o.drew
  generalize (w1.setCell ⟨L.rw i,q,none⟩ (.string (t.extract 0 64))).drew=W at a0 a1 ⊢
  clear H3 aa c0 c1 cd cp cf a3;have d2:=Db.c2 a0;have dn:=a0.next.cell hi';have df:=a0.next.frozen i;simp only[FD]at d2 dn;by_cases hx:m.nx i<=q+1
  ·have a2:=Db.IQ a0 i (q+1);have a4:=a1.set a6 i (.int .i64 ((q+1:Nat):Int));have Hr:Hid (IL m i q s=FA (FD m i q (s.take 64)) i (q+1)):=(by show IL m i q s=_;unfold IL;rw[Nat.max_eq_right hx]);have Hm:=Jy a2;have Ho:=Jy a4;clear a2 a4 a0 a1;rw[show((q+1:Nat):Int)=(q:Int)+1 by omega]at Hm Ho;have a7:(m.nx i:Int)<=(q:Int)+1:=by omega
   have a9:decide ((m.nx i:Int)<=(q:Int)+1)=true:=by simpa using a7
   by_cases a8:m.nx i=q+1
   ·have a5:(m.nx i:Int)=(q:Int)+1:=by omega
    have ay:=Jy a5;rw[a5]at dn;clear hx a7 a9 a8 a5 ac;go_wp2;go_region;go_end0
    refine⟨rfl,?_,Ho.o.drew⟩;rw[Hr.o];exact Db.drew Hm.o
   have av:m.nx i<q+1:=by omega
   have ai:(m.nx i:Int)<(q:Int)+1:=by omega
   have aB:decide ((m.nx i:Int)<(q:Int)+1)=true:=by simpa using ai
   have aC:decide ((q:Int)+1<(m.nx i:Int))=false:=by simp;omega
   generalize m.nx i=x at *
   clear hx a8;go_wp2;go_region;go_end0
   refine⟨rfl,?_,Ho.o.drew⟩;rw[Hr.o];exact Db.drew Hm.o
  have Hr:Hid (IL m i q s=FA (FD m i q (s.take 64)) i (m.nx i)):=(by show IL m i q s=_;unfold IL;rw[DY (by omega)]);have a2:=Db.IQ a0 i (m.nx i);have a4:=a1.set a6 i (.int .i64 ((m.nx i:Nat):Int));have Hm:=Jy a2;have Ho:=Jy a4;clear a2 a4 a0 a1;have a7:(q:Int)+1<(m.nx i:Int):=by omega
  have a9:decide ((m.nx i:Int)<=(q:Int)+1)=false:=by simp;omega
  have a8:decide ((m.nx i:Int)<(q:Int)+1)=false:=by simp;omega
  have a5:decide ((q:Int)+1<(m.nx i:Int))=true:=by simpa using a7
  go_wp2;go_region;go_end0
  refine⟨rfl,?_,Ho.o.drew⟩;rw[Hr.o];exact Db.drew Hm.o
variable {m:M} {b p:Int}
instance (m:M) (b p:Int) (s:D8):Decidable (JA m b p s):=by unfold JA;infer_instance
instance (m:M) (b p:Int):Decidable (QO m b p):=by unfold QO;infer_instance
def Dy(m:M)(b p:Int)(s:D8):Bool × M:=if JA m b p s then FR m b.toNat p.toNat s else(false,m)
def EJ(m:M)(b:Int):Bool × M:=if Fe m b=false then Gp m b.toNat else(false,m)
def MG(m:M)(b p:Int)(s:D8):M:=if QO m b p then IL m b.toNat p.toNat s else m
theorem Ql{s:D8}(h:JA m b p s):∃i q:Nat,b=(i:Int)/\p=(q:Int)/\i<m.nb/\m.bd i=false/\q=m.nx i/\q<m.np/\s.length=64:=by
 obtain⟨h1,h2,h3,h4⟩:=h;obtain⟨i,rfl,hi,hb⟩:=Qw h1;refine⟨i,m.nx i,rfl,by simpa using h2,hi,hb,rfl,?_,h4⟩
 have:p=(m.nx i:Int):=by simpa using h2
 omega
theorem qZ(w:D7)(lo hi cb:Nat)(L:Loc)(m:M)(b p:Int)(s:D8)(hw:WF m)(hs:s.length<=140737488351232)(h:CP w lo hi cb L m) :
 Calls prog 242 #[.pointer (some ⟨cb,0,none⟩),.int .i64 b,.int .i64 p,.string (D9 s)] w λe w'=>e=.returned (.bool (Dy m b p s).1)/\CP w' lo hi cb L (Dy m b p s).2/\Dr lo hi w w':=by
 by_cases hm:JA m b p s
 ·have hb:=hm.1;obtain⟨i,q,rfl,rfl,a1,a3,hq,a2,a0⟩:=Ql hm;have e:Dy m (i:Nat) (q:Nat) s=FR m i q s:=AE hm;rw[e];exact rM w lo hi cb L m i q s hw a0 h hb a1 hq a2
 have e:Dy m b p s=(false,m):=AC hm;rw[e];exact(rj w lo hi cb L m b p s hs h hm).mono λe w' ⟨h1,h2⟩=>⟨h1,by rw[h2];exact h,by rw[h2];exact Dr.refl _ _ _⟩
theorem rU(w:D7)(lo hi cb:Nat)(L:Loc)(m:M)(b:Int)(h:CP w lo hi cb L m)(hb:Fe m b=true) :
 Calls prog 125 #[.pointer (some ⟨cb,0,none⟩),.int .i64 b] w λe w'=>e=.returned (.bool false)/\w'=w:=by
 have a0:=Jy (H9 w lo hi cb L m b h);rw[hb]at a0;clear h;go_enter func125,ntmps125
 go_wp2_with fail;refine a0.o.mono ?_;rintro e w1 ⟨rfl,rfl⟩;go_wp2;go_ret
 exact⟨rfl,rfl⟩
theorem YD(w:D7)(lo hi cb:Nat)(L:Loc)(m:M)(b:Int)(hw:WF m)(h:CP w lo hi cb L m)(hsz:hi<=w.heap.size) :
 Calls prog 125 #[.pointer (some ⟨cb,0,none⟩),.int .i64 b] w λe w'=>e=.returned (.bool (EJ m b).1)/\CP w' lo hi cb L (EJ m b).2/\Dr lo hi w w':=by
 cases hb:Fe m b with
 | false =>
   obtain⟨i,rfl,a0,a1⟩:=Qw hb;have e:EJ m (i:Nat)=Gp m i:=AE hb;rw[e];exact iw w lo hi cb L m i hw h hb a0 hsz
 | true =>
   have e:EJ m b=(false,m):=AC (by rw[hb];decide);rw[e];exact(rU w lo hi cb L m b h hb).mono λe w' ⟨h1,h2⟩=>⟨h1,by rw[h2];exact h,by rw[h2];exact Dr.refl _ _ _⟩
theorem YR(h:QO m b p):∃i q:Nat,b=(i:Int)/\p=(q:Int)/\i<m.nb/\q<m.np:=by
 obtain⟨h1,h2,h3⟩:=h;have h4:=P9 h1;exact⟨b.toNat,p.toNat,by omega,by omega,by omega,by omega⟩
theorem OJ(w:D7)(lo hi cb:Nat)(L:Loc)(m:M)(b p:Int)(s:D8)(hw:WF m)(hs:s.length<=140737488351232)(h:CP w lo hi cb L m) :
 Calls prog 17 #[.pointer (some ⟨cb,0,none⟩),.int .i64 b,.int .i64 p,.string (D9 s)] w λe w'=>e=.returned (.tuple #[])/\CP w' lo hi cb L (MG m b p s)/\Dr lo hi w w':=by
 by_cases hm:QO m b p
 ·obtain⟨i,q,rfl,rfl,a0,a1⟩:=YR hm;have e:MG m (i:Nat) (q:Nat) s=IL m i q s:=AE hm;rw[e];exact jZ w lo hi cb L m i q s hw hs h a0 a1
 have e:MG m b p s=m:=AC hm;rw[e];exact(lZ w lo hi cb L m b p s h hm).mono λe w' ⟨h1,h2⟩=>⟨h1,by rw[h2];exact h,by rw[h2];exact Dr.refl _ _ _⟩
/-! ### They stay well formed. -/
theorem Sf(h:WF m)(i q:Nat)(s:D8)(hs:s.length<=64):WF (FD m i q s):=
 ⟨h.KZ,h.Iu,h.Md,h.Jv,h.nx,λa b ha hb=>by
  show(if a=i/\b=q then s else m.pg a b).length<=64
  split
  ·exact hs
  exact h.pg a b ha hb,h.KA,h.Js,h.Ia,h.Ic,h.KM,h.KV,h.I8,h.Io⟩
theorem Z4(h:WF m)(i n:Nat):WF (Fw m i n):=
 ⟨h.KZ,h.Iu,h.Md,h.Jv,h.nx,λa b ha hb=>by
  show(if a=i/\b<n then[]else m.pg a b).length<=64
  split
  ·exact AU _
  exact h.pg a b ha hb,h.KA,h.Js,h.Ia,h.Ic,h.KM,h.KV,h.I8,h.Io⟩
theorem Qh(h:WF m)(i v:Nat)(hv:v<=m.np):WF (FA m i v):=
 ⟨h.KZ,h.Iu,h.Md,h.Jv,λa ha=>by
  show(if a=i then v else m.nx a)<=m.np
  split
  ·exact hv
  exact h.nx a ha,h.pg,h.KA,h.Js,h.Ia,h.Ic,h.KM,h.KV,h.I8,h.Io⟩
theorem Yg(h:WF m)(i:Nat)(v:Bool):WF (JY m i v):=
 ⟨h.KZ,h.Iu,h.Md,h.Jv,h.nx,h.pg,h.KA,h.Js,h.Ia,h.Ic,h.KM,h.KV,h.I8,h.Io⟩
theorem Mx(h:WF m)(b p:Int)(s:D8):WF (Dy m b p s).2:=by
 unfold Dy
 split
 ·rename_i hm;obtain⟨i,q,rfl,rfl,a2,a3,hq,a0,a1⟩:=Ql hm;simp only[Bd];have ht:=X0 h;have hl:∀n,(s.take n).length<=64:=λn=>by rw[Ae];omega
  unfold FR
  repeat' split
  ·exact Qh (Sf ht i q s (by omega)) i (q+1) a0
  ·exact Qh (Yg (Sf ht i q _ (hl _)) i true) i (q+1) a0
  ·exact Qh (Sf ht i q _ (hl _)) i (q+1) a0
  exact ht
 exact h
theorem R8(h:WF m)(b:Int):WF (EJ m b).2:=by
 unfold EJ;have ht:=X0 h
 split
 ·unfold Gp
  repeat' split
  ·exact Qh (Z4 ht _ _) _ _ (AU _)
  ·exact Yg ht _ _
  ·exact Qh (Z4 ht _ _) _ _ (AB _)
  exact ht
 exact h
theorem O1(h:WF m)(b p:Int)(s:D8):WF (MG m b p s):=by
 unfold MG
 split
 ·rename_i hm;obtain⟨i,q,rfl,rfl,a0,a1⟩:=YR hm;simp only[Bd];unfold IL;refine Qh (Sf h i q _ (by rw[Ae];omega)) i _ ?_
  have:=h.nx i a0
  show max (m.nx i) (q+1)<=m.np;omega
 exact h
theorem QI(h:WF m)(a c:Int):WF { m with Da:=KF a 0 1073741824+1,cut:=Mp c }:=by
 have h1:=Oj a 0 1073741824 (by omega);have h2:=ZD c;exact⟨h.KZ,h.Iu,h.Md,h.Jv,h.nx,h.pg,by show -1<=KF a 0 1073741824+1;omega,by show KF a 0 1073741824+1<=_;omega,h.Ia,h.Ic,h2.1,h2.2,h.I8,h.Io⟩
theorem OT(h:WF m)(a c:Int):WF { m with fail:=KF a 0 1073741824,part:=Mp c }:=by
 have h1:=Oj a 0 1073741824 (by omega);have h2:=ZD c;exact⟨h.KZ,h.Iu,h.Md,h.Jv,h.nx,h.pg,h.KA,h.Js,by show -1<=KF a 0 1073741824;omega,h1.2,h.KM,h.KV,h2.1,h2.2⟩
theorem LY(h:WF m):WF { m with Da:=-1 }:=
 ⟨h.KZ,h.Iu,h.Md,h.Jv,h.nx,h.pg,by show(-1:Int) <= -1;omega,by show(-1:Int)<=_;omega,h.Ia,h.Ic,h.KM,h.KV,h.I8,h.Io⟩
end Go.Proofs.YtodmdkhdbfbfgaaGreatDoor.S1
namespace Go.Nt
abbrev Bs:=D8
structure It where
 path:Bs
 dir:Bool
 data:Bs
 mode:Int
 time:Int
deriving DecidableEq,Inhabited
def split:Bs->List Bs
 | []=>[[]]
 | c :: cs=>if c=47 then[] :: split cs else
   match split cs with
   | []=>[[c]]
   | n :: ns=>(c :: n) :: ns
theorem S9(p:Bs):split p≠[]:=by
 cases p with
 | nil=>simp[split]
 | cons c cs =>
   unfold split
   split
   ·simp
   split<;>simp
theorem M8(p:Bs):∃n ns,split p=n :: ns:=by
 cases h:split p with
 | nil=>exact absurd h (S9 p)
 | cons n ns=>exact⟨n,ns,rfl⟩
def key(c:UInt8):Nat:=if c=47 then 0 else c.toNat+1
theorem key_inj{a b:UInt8}(h:key a=key b):a=b:=by
 unfold key at h
 split at h<;>split at h
 ·simp_all
 ·omega
 ·omega
 exact BL.1 (by omega)
def less:Bs->Bs->Bool
 | [],[]=>false
 | [],_ :: _=>true
 | _ :: _,[]=>false
 | a :: as1,b :: bs=>if a=b then less as1 bs else decide (key a<key b)
theorem VU:∀a,less a a=false
 | []=>rfl
 | a :: as1=>by simp[less,VU as1]
theorem Nz:∀a b,less a b=false->less b a=false->a=b
 | [],[],_,_=>rfl
 | [],_ :: _,h,_=>by simp[less]at h
 | _ :: _,[],_,h=>by simp[less]at h
 | a :: as1,b :: bs,h,h'=>by
   unfold less at h h';by_cases e:a=b
   ·subst e;simp at h h';rw[Nz as1 bs h h']
   rw[AC e]at h;rw[AC (λx=>e x.symm)]at h';simp at h h';exact absurd (key_inj (by omega)) e
theorem Oi:∀a b c,less a b=true->less b c=true->less a c=true
 | [],[],_,h,_=>by simp[less]at h
 | [],_ :: _,[],_,h=>by simp[less]at h
 | [],_ :: _,_ :: _,_,_=>by simp[less]
 | _ :: _,[],_,h,_=>by simp[less]at h
 | _ :: _,_ :: _,[],_,h=>by simp[less]at h
 | a :: as1,b :: bs,c :: cs,h,h'=>by
   unfold less at h h' ⊢;by_cases e:a=b
   ·subst e;rw[AE rfl]at h;by_cases e2:a=c
    ·subst e2;rw[AE rfl]at h' ⊢;exact Oi as1 bs cs h h'
    rw[AC e2]at h' ⊢;exact h'
   rw[AC e]at h;by_cases e2:b=c
   ·subst e2;rw[AC e];exact h
   rw[AC e2]at h';simp at h h'
   have:a≠c:=λx=>by subst x;omega
   rw[AC this];simp;omega
theorem SN{a b:Bs}(h:less a b=true):less b a=false:=by
 cases h':less b a with
 | false=>rfl
 | true=>have:=Oi a b a h h';rw[VU]at this;cases this
def Kj:Bs->Bs->Bool
 | [],[]=>false
 | [],_ :: _=>true
 | _ :: _,[]=>false
 | a :: as1,b :: bs=>if a=b then Kj as1 bs else decide (a.toNat<b.toNat)
def F7(a b:Bs):Int:=if Kj a b then -1 else if Kj b a then 1 else 0
def FL:List Bs->List Bs->Int
 | [],[]=>0
 | [],_ :: _ => -1
 | _ :: _,[]=>1
 | a :: as1,b :: bs=>if F7 a b=0 then FL as1 bs else F7 a b
theorem TA:F7 [] []=0:=by simp[F7,Kj]
theorem Z3(c:UInt8)(n:Bs):F7 [] (c :: n) = -1:=by simp[F7,Kj]
theorem Wm(c:UInt8)(n:Bs):F7 (c :: n) []=1:=by simp[F7,Kj]
theorem ia(c:UInt8)(n m:Bs):F7 (c :: n) (c :: m)=F7 n m:=by simp[F7,Kj]
theorem lG{x y:UInt8}(h:x≠y)(n m:Bs):F7 (x :: n) (y :: m)=if x.toNat<y.toNat then -1 else 1:=by
 have h2:y≠x:=λe=>h e.symm
 have h3:x.toNat≠y.toNat:=λe=>h (BL.1 e)
 simp only[F7,Kj,AC h,AC h2];by_cases hh:x.toNat<y.toNat
 ·simp[hh]
 have:y.toNat<x.toNat:=by omega
 simp[hh,this]
theorem Ln(cs:Bs):split (47 :: cs)=[] :: split cs:=by simp[split]
theorem Ll{c:UInt8}(h:c≠47){cs:Bs}{n:Bs}{ns:List Bs}(e:split cs=n :: ns):split (c :: cs)=(c :: n) :: ns:=by
 simp[split,h,e]
theorem UX:∀a b:Bs,decide (FL (split a) (split b)<0)=less a b
 | [],[]=>by simp[split,FL,TA,less]
 | [],c :: cs=>by
   obtain⟨n,ns,e⟩:=M8 cs;by_cases h:c=47
   ·subst h;rw[Ln,e];simp[split,FL,TA,less]
   rw[Ll h e];simp[split,FL,Z3,less]
 | c :: cs,[]=>by
   obtain⟨n,ns,e⟩:=M8 cs;by_cases h:c=47
   ·subst h;rw[Ln,e];simp[split,FL,TA,less]
   rw[Ll h e];simp[split,FL,Wm,less]
 | x :: as1,y :: bs=>by
   obtain⟨n,ns,e1⟩:=M8 as1;obtain⟨m,ms,e2⟩:=M8 bs;by_cases hx:x=47
   ·by_cases hy:y=47
    ·subst hx;subst hy;rw[Ln,Ln]
     have:=UX as1 bs
     simp only[FL,TA,AE,less];exact this
    subst hx;rw[Ln,Ll hy e2];have h1:(47:UInt8)≠y:=λe=>hy e.symm
    simp[FL,Z3,less,h1,key,hy]
   by_cases hy:y=47
   ·subst hy;rw[Ln,Ll hx e1];simp[FL,Wm,less,hx,key]
   rw[Ll hx e1,Ll hy e2];by_cases e:x=y
   ·subst e
    have:=UX as1 bs
    rw[e1,e2]at this;simp only[FL,ia,less,AE]at this ⊢;exact this
   simp only[FL,lG e,less,AC e,key,AC hx,AC hy];by_cases hh:x.toNat<y.toNat
   ·simp[hh]
   simp[hh]
def E3(n:Bs):Bool:=n≠[]&&n≠[46]&&n≠[46,46]&&decide (n.length<=20) && !n.contains 0
def Du(p:Bs):Bool:=decide ((split p).length<=6)&&(split p).all E3
def par:Bs->Bs
 | []=>[]
 | c :: cs=>if cs.contains 47 then c :: par cs else[]
theorem TN{p:Bs}(h:∀i,i<p.length->p.getD i 0≠47):par p=[]:=by
 cases p with
 | nil=>rfl
 | cons c cs =>
   unfold par;rw[AC];intro hc;obtain⟨i,hi,he⟩:=Bl (Bu.1 hc)
   have:=h (i+1) (by simp;omega)
   simp[List.getD,hi]at this;exact this he
theorem Qe:∀{p:Bs} {j:Nat},p.getD j 0=47->(∀i,j<i->i<p.length->p.getD i 0≠47)->par p=p.take j
 | [],j,h,_=>by simp at h
 | c :: cs,0,_,h2=>by
   unfold par;rw[AC]
   ·rfl
   intro hc;obtain⟨i,hi,he⟩:=Bl (Bu.1 hc)
   have:=h2 (i+1) (by omega) (by simp;omega)
   simp[List.getD,hi]at this;exact this he
 | c :: cs,j+1,h1,h2=>by
   unfold par;have h1':cs.getD j 0=47:=by simpa[List.getD]using h1
   have hj:j<cs.length:=by
    rcases CM j cs.length with h | h
    ·exact h
    rw[List.getD,Aw h]at h1';cases h1'
   have hc:cs.contains 47=true:=by
    rw[Bu]
    have:cs[j]=47:=by simpa[List.getD,hj]using h1'
    exact this ▸ Bp hj
   rw[AE hc,Qe h1' (λi hi hl => ?_)]
   ·rfl
   have:=h2 (i+1) (by omega) (by simp;omega)
   simpa[List.getD]using this
def EL(x:It):Bool:=
 Du x.path&&decide (x.data.length<=4000)&&(!x.dir||x.data.isEmpty)&&decide (0<=x.mode)&&decide (x.mode<=4095)&&decide (0<=x.time)&&decide (x.time<=2147483647)
def El(l:List It)(p:Bs):Bool:=l.any λy=>decide (y.path=p)&&y.dir
def Dw(l:List It):Bool:=
 decide (l.length<=60)&&l.all EL&&decide ((l.map (·.path)).Nodup)&&l.all λx=>decide (par x.path=[])||El l (par x.path)
def Eb(l:List It):List It:=l.mergeSort λx y => !less y.path x.path
def Nx(l:List It)(p:Bs):Bool:=(List.range p.length).all λi=>decide (p.getD i 0≠47)||El l (p.take i)
theorem getD_take{p:Bs}{i j:Nat}(h:i<j):(p.take j).getD i 0=p.getD i 0:=by
 simp only[List.getD,List.getElem?_take];rw[AE h]
theorem WQ(p:Bs):(∀i,i<p.length->p.getD i 0≠47)\/∃j,j<p.length/\p.getD j 0=47/\∀i,j<i->i<p.length->p.getD i 0≠47:=by
 have:∀n,n<=p.length->(∀i,i<n->p.getD i 0≠47)\/∃j,j<n/\p.getD j 0=47/\∀i,j<i->i<n->p.getD i 0≠47:=by
  intro n
  induction n with
  | zero=>exact λ_=>.inl λi h=>absurd h (Nat.not_lt_zero _)
  | succ n ih =>
    intro hn;by_cases e:p.getD n 0=47
    ·exact .inr ⟨n,Nat.lt_succ_self n,e,λi h1 h2=>absurd h1 (by omega)⟩
    rcases ih (by omega)with h | ⟨j,hj,hj1,hj2⟩
    ·refine .inl λi hi => ?_
     rcases Nat.lt_succ_iff_lt_or_eq.1 hi with h' | rfl
     ·exact h i h'
     exact e
    refine .inr ⟨j,by omega,hj1,λi h1 h2 => ?_⟩;rcases Nat.lt_succ_iff_lt_or_eq.1 h2 with h' | rfl
    ·exact hj2 i h1 h'
    exact e
 exact this p.length (AB _)
theorem gD{p:Bs}(h:Du p=true):p.getD 0 0≠47:=by
 intro e;cases p with
 | nil=>simp at e
 | cons c cs =>
   simp[List.getD]at e;subst e;unfold Du at h;rw[Ln]at h;simp[E3]at h
theorem Yj(l:List It)(hok:l.all EL=true) :
 (l.all λx=>decide (par x.path=[])||El l (par x.path))=l.all λx=>Nx l x.path:=by
 rw[Bool.eq_iff_iff]
 constructor
 ·intro h;have step:∀n (x:It),x∈l->x.path.length=n->Nx l x.path=true:=by
   intro n
   induction n using Nat.strongRecOn with
   | ind n ih =>
     intro x hx hn;unfold Nx;rw[BB];intro i hi;have a4:i<x.path.length:=CH.1 hi;by_cases e:x.path.getD i 0=47
     ·rcases WQ x.path with hno | ⟨j,hj,hj1,hj2⟩
      ·exact absurd e (hno i a4)
      have hp:=Qe hj1 hj2;have a9:j≠0:=by
       intro h0;subst h0
       have:=BB.1 hok x hx
       unfold EL at this;simp only[Af]at this;exact gD this.1.1.1.1.1.1 hj1
      have a0:=BB.1 h x hx;have a3:par x.path≠[]:=by
       rw[hp];intro a1
       have:=AV List.length a1
       rw[Ae,B7]at this;omega
      have hd:El l (par x.path)=true:=by simpa[a3]using a0
      by_cases a6:i=j
      ·subst a6;rw[<-hp];simp[hd]
      have a8:i<j:=by
       rcases CM i j with h' | h'
       ·exact h'
       exact absurd e (hj2 i (by omega) a4)
      unfold El at hd;obtain⟨y,hy,a2⟩:=Bq.1 hd;simp at a2;have a7:y.path.length=j:=by rw[a2.1,hp,Ae];omega
      have a5:=ih j (by omega) y hy a7;unfold Nx at a5
      have:=BB.1 a5 i (CH.2 (by omega))
      rw[a2.1,hp,getD_take a8,List.take_take,Ce (by omega)]at this;exact this
     have e':¬(x.path[i]?.getD 0=47):=by simpa[List.getD]using e
     simp[e']
  rw[BB];exact λx hx=>step _ x hx rfl
 intro h;rw[BB];intro x hx;have a0:=BB.1 h x hx;rcases WQ x.path with hno | ⟨j,hj,hj1,hj2⟩
 ·rw[TN hno];simp
 rw[Qe hj1 hj2];unfold Nx at a0
 have:=BB.1 a0 j (CH.2 hj)
 rw[hj1]at this;simp at this;simp[this]
variable {u:Bs->Option Bs} {x:It} {e t:Bs} {l:List It}
def num:Bs->Nat
 | b=>b.foldl (λn x=>n*256+x.toNat) 0
def enc:Nat->Nat->Bs
 | 0,_=>[]
 | k+1,n=>enc k (n/256)++[UInt8.ofNat n]
theorem IE:∀k n,(enc k n).length=k
 | 0,_=>rfl
 | k+1,n=>by simp[enc,IE k]
theorem VZ(b:Bs)(x:UInt8):num (b++[x])=num b*256+x.toNat:=by simp[num]
theorem QX:∀k n,n<256^k->num (enc k n)=n
 | 0,n,h=>by simp at h;subst h;rfl
 | k+1,n,h=>by
   rw[enc,VZ,QX k (n/256) (by rw[By]at h;omega),Bw];omega
theorem QP:∀(b:Bs),num b<256^b.length:=by
 intro b;have h:∀(l:Bs) (a:Nat),l.foldl (λn x=>n*256+x.toNat) a<(a+1)*256^l.length:=by
  intro l
  induction l with
  | nil=>intro a;simp
  | cons x xs ih =>
    intro a
    have:=ih (a*256+x.toNat)
    simp only[List.foldl_cons,AY];refine AR this ?_;rw[By,BG (256^xs.length) 256,<-CY];refine Ba _ ?_
    have:=x.toNat_lt
    omega
 have:=h b 0
 simpa[num]using this
abbrev Rd:=Bs × Bool
def tk(n:Nat)(r:Rd):Bs × Rd:=if r.1.length<n then([],([],false))else(r.1.take n,(r.1.drop n,r.2))
def Ez(n:Nat)(r:Rd):Nat × Rd:=(num (tk n r).1,(tk n r).2)
def Es(u:Bs->Option Bs)(r:Rd):It × Rd:=
 let k:=Ez 2 r
 let t:=Ez 4 k.2
 let n:=Ez 1 t.2
 let p:=tk n.1 n.2
 if 32768<=k.1 then(⟨p.1,true,[],(k.1%32768:Nat),(t.1:Nat)⟩,p.2)
 else
  let z:=Ez 2 p.2
  let b:=tk z.1 z.2
  (⟨p.1,false,(u b.1).getD [],(k.1%32768:Nat),(t.1:Nat)⟩,(b.2.1,b.2.2&&(u b.1).isSome))
def MS(u:Bs->Option Bs):Nat->Rd->List It->List It × Rd
 | 0,r,a=>(a,r)
 | k+1,r,a=>if r.2 then MS u k (Es u r).2 (a++[(Es u r).1])else(a,r)
def parse(u:Bs->Option Bs)(t:Bs):Option (List It):=
 let n:=Ez 1 (t,true)
 let r:=MS u n.1 n.2 []
 if r.2.2 then some r.1 else none
def Fv(u:Bs->Option Bs)(x:It)(e:Bs):Prop:=
 if x.dir then e=enc 2 (x.mode.toNat+32768)++enc 4 x.time.toNat++enc 1 x.path.length++x.path
 else ∃t,u t=some x.data/\t.length<=x.data.length+1/\e=enc 2 x.mode.toNat++enc 4 x.time.toNat++enc 1 x.path.length++x.path++enc 2 t.length++t
def Ng(u:Bs->Option Bs):List It->Bs->Prop
 | [],e=>e=[]
 | x :: l,e=>∃a b,Fv u x a/\Ng u l b/\e=a++b
theorem YO{u:Bs->Option Bs}:∀{l:List It} {e:Bs} {x:It} {a:Bs},Ng u l e->Fv u x a->Ng u (l++[x]) (e++a)
 | [],e,x,a,h,hx=>by
   simp only[Ng]at h;subst h;exact⟨a,[],hx,rfl,by simp⟩
 | y :: l,e,x,a,h,hx=>by
   obtain⟨b,c,hb,hc,rfl⟩:=h;exact⟨b,c++a,hb,YO hc hx,by simp⟩
def GP(u:Bs->Option Bs)(l:List It)(t:Bs):Prop:=∃e,Ng u l e/\t=enc 1 l.length++e
theorem SQ(a b:Bs)(f:Bool):tk a.length (a++b,f)=(a,(b,f)):=by
 unfold tk;rw[AC (by simp)];simp
theorem mG{n:Nat}{a b:Bs}{f:Bool}(h:n=a.length):tk n (a++b,f)=(a,(b,f)):=by subst h;exact SQ a b f
theorem Oo(k n:Nat)(b:Bs)(f:Bool)(h:n<256^k):Ez k (enc k n++b,f)=(n,(b,f)):=by
 unfold Ez;rw[mG (IE k n).symm];simp[QX k n h]
structure Fit (x:It):Prop where
 m0:0<=x.mode
 m1:x.mode<=4095
 t0:0<=x.time
 t1:x.time<=2147483647
 p:x.path.length<=255
 d:x.data.length<=4000
 e:x.dir=true->x.data=[]
theorem qz(h:Fv u x e)(hf:Fit x)(r:Bs):Es u (e++r,true)=(x,(r,true)):=by
 obtain⟨m0,m1,t0,t1,hp,hd,he⟩:=hf;have ht:(x.time.toNat:Int)=x.time:=Bz t0;unfold Fv at h;cases hdir:x.dir with
 | true =>
   rw[hdir,AE rfl]at h;subst h;unfold Es;simp only[Ap];rw[Oo 2 _ _ _ (by omega)];simp only[];rw[Oo 4 _ _ _ (by omega)];simp only[];rw[Oo 1 _ _ _ (by omega)];simp only[];rw[SQ,AE (by omega)];obtain⟨p,d,dt,m,t⟩:=x;simp only at *;subst hdir;rw[he rfl,ht]
   have:((m.toNat+32768)%32768:Nat)=m.toNat:=by omega
   rw[this,Bz m0]
 | false =>
   rw[hdir]at h;simp only[BS,C6]at h;obtain⟨t,hu,hl,rfl⟩:=h;unfold Es;simp only[Ap];rw[Oo 2 _ _ _ (by omega)];simp only[];rw[Oo 4 _ _ _ (by omega)];simp only[];rw[Oo 1 _ _ _ (by omega)];simp only[];rw[SQ,AC (by omega)];simp only[];rw[Oo 2 _ _ _ (by omega)];simp only[];rw[SQ];simp only[hu];obtain⟨p,d,dt,m,tt⟩:=x;simp only at *;subst hdir;rw[ht]
   have:(m.toNat%32768:Nat)=m.toNat:=by omega
   rw[this,Bz m0];rfl
theorem Wl{u:Bs->Option Bs}:∀{l:List It} {e:Bs} (h:Ng u l e) (hf:∀x∈l,Fit x) (r:Bs) (a:List It),MS u l.length (e++r,true) a=(a++l,(r,true))
 | [],e,h,_,r,a=>by simp only[Ng]at h;subst h;simp[MS]
 | x :: l,e,h,hf,r,a=>by
   obtain⟨b,c,hb,hc,rfl⟩:=h;rw[AY,MS,AE rfl,Ap,qz hb (hf x (by simp))];simp only[];rw[Wl hc (λy hy=>hf y (by simp[hy]))];simp
theorem Wt(h:GP u l t)(hf:∀x∈l,Fit x)(hn:l.length<=255)(r:Bs):parse u (t++r)=some l:=by
 obtain⟨e,he,rfl⟩:=h;unfold parse;rw[Ap,Oo 1 _ _ _ (by omega)];simp only[];rw[Wl he hf];simp
def FE(l:List It):Nat:=(l.map λx=>16+x.path.length+x.data.length).sum
theorem jQ(h:Fv u x e):e.length<=10+x.path.length+x.data.length:=by
 unfold Fv at h
 split at h
 ·subst h;simp[IE];omega
 obtain⟨t,_,hl,rfl⟩:=h;simp[IE];omega
theorem WX{u:Bs->Option Bs}:∀{l:List It} {e:Bs},Ng u l e->e.length+6*l.length<=FE l
 | [],e,h=>by simp only[Ng]at h;subst h;simp[FE]
 | x :: l,e,h=>by
   obtain⟨a,b,ha,hb,rfl⟩:=h;have h1:=jQ ha;have h2:=WX hb;simp only[FE,Bb,List.sum_cons,AN,AY]at h2 ⊢;omega
theorem VW(h:GP u l t):t.length<=FE l+1:=by
 obtain⟨e,he,rfl⟩:=h
 have:=WX he
 simp[IE];omega
theorem U9(h:GP u l t):0<t.length:=by
 obtain⟨e,he,rfl⟩:=h;simp[IE];omega
theorem Zj:∀p:Bs,((split p).map (λn=>n.length+1)).sum=p.length+1
 | []=>by simp[split]
 | c :: cs=>by
   obtain⟨n,ns,e⟩:=M8 cs;have ih:=Zj cs;by_cases h:c=47
   ·subst h;rw[Ln];simp only[Bb,List.sum_cons,B7,AY];omega
   rw[Ll h e];rw[e]at ih;simp only[Bb,List.sum_cons,AY]at ih ⊢;omega
theorem UU{α:Type}(f:α->Nat)(k:Nat):∀l:List α,(∀x∈l,f x<=k)->(l.map f).sum<=k*l.length
 | [],_=>by simp
 | x :: l,h=>by
   have h1:=h x (by simp);have h2:=UU f k l (λy hy=>h y (by simp[hy]));simp only[Bb,List.sum_cons,AY,Nat.mul_succ];omega
theorem rL{p:Bs}(h:Du p=true):p.length<=125:=by
 unfold Du at h;simp only[Af,BJ,BB]at h;have h1:=Zj p;have h2:=UU (λn:Bs=>n.length+1) 21 (split p) (λn hn=>by
  have:=h.2 n hn
  unfold E3 at this;simp only[Af,BJ]at this;omega)
 have h3:21*(split p).length<=21*6:=D4 _ h.1;omega
theorem Nw(h:EL x=true):Fit x:=by
 unfold EL at h;simp only[Af,BJ]at h;obtain⟨⟨⟨⟨⟨⟨h1,h2⟩,h3⟩,h4⟩,h5⟩,h6⟩,h7⟩:=h;refine⟨h4,h5,h6,h7,by have:=rL h1;omega,h2,λhd => ?_⟩;rw[hd]at h3;simpa using h3
theorem oH(h:Dw l=true):(∀x∈l,Fit x)/\l.length<=60:=by
 unfold Dw at h;simp only[Af,BJ,BB]at h;exact⟨λx hx=>Nw (h.1.1.2 x hx),h.1.1.1⟩
def NM(n:Nat)(b:UInt8):Nat:=(n ^^^ b.toNat)*16777619%4294967296
def Q3(l:Bs):Nat:=l.foldl NM 2166136261
def Jw(n:Nat):Nat:=n/256*256+n%128
def JG(l:Bs):Nat:=Jw (Q3 l)
theorem oB(n:Nat)(b:UInt8):NM n b<4294967296:=BM _ (by decide)
theorem fI(l:Bs):Q3 l<4294967296:=by
 have h:∀(l:Bs) (a:Nat),a<4294967296->l.foldl NM a<4294967296:=by
  intro l
  induction l with
  | nil=>intro a h;exact h
  | cons x xs ih=>intro a _;exact ih _ (oB a x)
 exact h l _ (by decide)
theorem Wj{α:Type}(f:α->UInt8->α)(a:α){l:Bs}{i:Nat}(h:i<l.length):(l.take (i+1)).foldl f a=f ((l.take i).foldl f a) (l.getD i 0):=by
 rw[Ah,AD h];simp only[Option.toList_some,List.foldl_append,List.foldl_cons,List.foldl_nil,List.getD,AD h,Option.getD_some]
theorem sX{l:Bs}{i:Nat}(h:i<l.length):Q3 (l.take (i+1))=NM (Q3 (l.take i)) (l.getD i 0):=Wj NM _ h
theorem YJ(l:Bs):JG l<4294967296:=by have:=fI l;unfold JG Jw;omega
theorem qo(l:Bs):JG l%256<128:=by unfold JG Jw;omega
structure Pg where
 bad:Nat
 num:Nat
 at_:Nat
 JW:Nat
 text:Bs
deriving DecidableEq,Inhabited
def GN(p:Pg):Bs:=enc 1 p.bad++enc 4 p.num++enc 2 p.at_++enc 2 p.JW++p.text++List.replicate (51 - p.text.length) 0
def Ej(p:Pg):Bs:=GN p++enc 4 (JG (GN p))
theorem Qy(p:Pg)(h:p.text.length<=51):(GN p).length=60:=by
 unfold GN;simp only[AN,IE,List.length_replicate];omega
theorem FT(p:Pg)(h:p.text.length<=51):(Ej p).length=64:=by
 unfold Ej;rw[AN,Qy p h,IE]
def GU(s:Bs):Pg:=⟨(s.getD 0 0).toNat,num ((s.drop 1).take 4),num ((s.drop 5).take 2),num ((s.drop 7).take 2),(s.take 60).drop 9⟩
def Oc(s:Bs):Bool:=decide (s.length=64)&&decide (num (s.drop 60)=JG (s.take 60))
def Ef(s:Bs):Option Pg:=if Oc s&&decide ((GU s).at_<(GU s).JW)then some (GU s)else none
structure PS (p:Pg):Prop where
 b:p.bad<256
 n:p.num<4294967296
 a:p.at_<p.JW
 o:p.JW<65536
 t:p.text.length<=51
theorem SC{a b:Bs}{n:Nat}(h:n=a.length):(a++b).take n=a:=by subst h;simp
theorem RQ{a b:Bs}{n:Nat}(h:n=a.length):(a++b).drop n=b:=by subst h;simp
theorem pX{b:Nat}(h:b<256)(r:Bs):((enc 1 b++r).getD 0 0).toNat=b:=by
 simp[enc,List.getD];omega
theorem jt{p:Pg}(h:PS p):GU (Ej p)={ p with text:=p.text++List.replicate (51 - p.text.length) 0 }:=by
 obtain⟨hb,hn,ha,ho,ht⟩:=h;obtain⟨b,n,a,o,t⟩:=p;simp only at *;have a0:(Ej ⟨b,n,a,o,t⟩).take 60=GN ⟨b,n,a,o,t⟩:=SC (Qy _ ht).symm;unfold GU;rw[a0];unfold Ej GN;simp only[Ap]
 generalize hR:t++(List.replicate (51 - t.length) 0++enc 4 (JG (enc 1 b++(enc 4 n++(enc 2 a++(enc 2 o++(t++List.replicate (51 - t.length) 0)))))))=R
 have d1:(enc 1 b++(enc 4 n++(enc 2 a++(enc 2 o++R)))).drop 1=enc 4 n++(enc 2 a++(enc 2 o++R)):=RQ (IE _ _).symm;have d5:(enc 1 b++(enc 4 n++(enc 2 a++(enc 2 o++R)))).drop 5=enc 2 a++(enc 2 o++R):=by
  rw[<-Ap];exact RQ (by simp[IE])
 have d7:(enc 1 b++(enc 4 n++(enc 2 a++(enc 2 o++R)))).drop 7=enc 2 o++R:=by
  rw[<-Ap,<-Ap];exact RQ (by simp[IE])
 have d9:(enc 1 b++(enc 4 n++(enc 2 a++(enc 2 o++(t++List.replicate (51 - t.length) 0))))).drop 9=t++List.replicate (51 - t.length) 0:=by
  rw[<-Ap,<-Ap,<-Ap];exact RQ (by simp[IE])
 rw[d1,d5,d7,d9,pX hb,SC (IE _ _).symm,SC (IE _ _).symm,SC (IE _ _).symm,QX 4 n (by omega),QX 2 a (by omega),QX 2 o (by omega)]
theorem nV{p:Pg}(h:p.text.length<=51):Oc (Ej p)=true:=by
 unfold Oc;rw[FT p h];have a1:(Ej p).take 60=GN p:=SC (Qy _ h).symm;have a0:(Ej p).drop 60=enc 4 (JG (GN p)):=RQ (Qy _ h).symm;rw[a1,a0,QX 4 _ (YJ _)];simp
theorem Sr{p:Pg}(h:PS p):Ef (Ej p)=some { p with text:=p.text++List.replicate (51 - p.text.length) 0 }:=by
 unfold Ef;rw[nV h.t,jt h];simp[h.a]
theorem Xa{s:Bs}(h:s.getD 63 0=255):Ef s=none:=by
 unfold Ef Oc;by_cases a0:s.length=64
 ·have e:s.drop 60=(s.drop 60).take 3++[s.getD 63 0]:=by
   have h3:(s.drop 60).length=4:=by simp[a0]
   have:=Ah (l:=s.drop 60) (i:=3)
   rw[AT (by omega)]at this;refine this.trans ?_
   congr 1
   simp[List.getD];rw[AD (by omega)];simp
  have hn:num (s.drop 60)≠JG (s.take 60):=by
   rw[e,VZ,h];intro he
   have:=qo (s.take 60)
   rw[<-he]at this;have a1:(255:UInt8).toNat=255:=rfl;omega
  simp[hn]
 simp[a0]
theorem Jr{s:Bs}{p:Pg}(h:Ef s=some p):s.length=64/\p=GU s/\p.at_<p.JW:=by
 unfold Ef at h
 split at h
 ·rename_i hc;simp only[Oc,Af,BJ]at hc;cases h
  exact⟨hc.1.1,rfl,hc.2⟩
 cases h
theorem Qx{b:Bs}{k:Nat}(h:b.length<=k):num b<256^k:=AR (QP b) (BD (by decide) h)
theorem Lc(s:Bs):(GU s).bad<256/\(GU s).num<4294967296/\(GU s).at_<65536/\(GU s).JW<65536:=by
 refine⟨UInt8.toNat_lt _,?_,?_,?_⟩
 ·exact Qx (k:=4) (by simp;omega)
 ·exact Qx (k:=2) (by simp;omega)
 exact Qx (k:=2) (by simp;omega)
theorem gW{s:Bs}(h:s.length=64):(GU s).text.length=51:=by
 unfold GU;simp[h]
def De(n:Nat):Nat:=(n+50)/51
def F0(b n:Nat)(t:Bs)(k:Nat):Pg:=⟨b,n,k,De t.length,(t.drop (k*51)).take 51⟩
def EE(b n:Nat)(t:Bs):List Bs:=(List.range (De t.length)).map λk=>Ej (F0 b n t k)
theorem EC(b n:Nat)(t:Bs):(EE b n t).length=De t.length:=by simp[EE]
theorem SX{b n:Nat}{t:Bs}{k:Nat}(hb:b<256)(hn:n<4294967296)(hk:k<De t.length)(ho:De t.length<65536):PS (F0 b n t k):=
 ⟨hb,hn,hk,ho,by simp[F0];omega⟩
theorem jl(t:Bs):∀k,k<=De t.length->((List.range k).map λi=>(t.drop (i*51)).take 51++List.replicate (51 - ((t.drop (i*51)).take 51).length) (0:UInt8)).flatten=(t++List.replicate (k*51 - t.length) 0).take (k*51):=by
 intro k
 induction k with
 | zero=>intro _;simp
 | succ k ih =>
   intro hk;rw[B0,Aq,List.flatten_append,ih (by omega)];simp only[Bb,Ct,CU,List.flatten_nil,CD];have a0:k*51<t.length:=by unfold De at hk;omega
   have h0:k*51 - t.length=0:=by omega
   rw[h0];simp only[List.replicate_zero,CD];have hl:((t.drop (k*51)).take 51).length=min 51 (t.length - k*51):=by simp
   rw[hl];by_cases h:(k+1)*51<=t.length
   ·have e1:51 - min 51 (t.length - k*51)=0:=by omega
    have e2:(k+1)*51 - t.length=0:=by omega
    rw[e1,e2];simp only[List.replicate_zero,CD];rw[show(k+1)*51=k*51+51 by omega,List.take_add]
   have e1:51 - min 51 (t.length - k*51)=(k+1)*51 - t.length:=by omega
   rw[e1];rw[AT (l:=t++_) (by simp;omega)];rw[<-Ap]
   congr 1
   rw[AT (l:=t.drop (k*51)) (by simp;omega)];exact Ca _ _
theorem qY(t:Bs):∃z,((List.range (De t.length)).map λi=>(t.drop (i*51)).take 51++List.replicate (51 - ((t.drop (i*51)).take 51).length) (0:UInt8)).flatten=t++z:=by
 refine⟨List.replicate (De t.length*51 - t.length) 0,?_⟩;rw[jl t _ (AB _)];refine AT ?_;simp[De];omega
structure Fp where
 bad:Nat
 num:Nat
 at_:Nat
 JW:Nat
 text:Bs
 Dg:Nat
deriving DecidableEq,Inhabited
def Fp.mk'(p:Pg)(i:Nat):Fp:=⟨p.bad,p.num,p.at_,p.JW,p.text,i⟩
def LJ(g:Nat->Nat->Bs)(i p:Nat):List Fp:=((Ef (g i p)).map λq=>Fp.mk' q i).toList
def Gg(g:Nat->Nat->Bs)(i:Nat):Nat->List Fp
 | 0=>[]
 | k+1=>Gg g i k++LJ g i k
def EB(g:Nat->Nat->Bs)(np:Nat):Nat->List Fp
 | 0=>[]
 | k+1=>EB g np k++Gg g k np
theorem ko(g:Nat->Nat->Bs)(i p:Nat):(LJ g i p).length<=1:=by
 unfold LJ;cases Ef (g i p)<;>simp
theorem Xy(g:Nat->Nat->Bs)(i:Nat):∀k,(Gg g i k).length<=k
 | 0=>by simp[Gg]
 | k+1=>by
   have h1:=Xy g i k;have h2:=ko g i k;simp only[Gg,AN];omega
theorem Iv(g:Nat->Nat->Bs)(np:Nat):∀k,(EB g np k).length<=k*np
 | 0=>by simp[EB]
 | k+1=>by
   have h1:=Iv g np k;have h2:=Xy g k np;simp only[EB,AN,Nat.succ_mul];omega
theorem mf{g:Nat->Nat->Bs}{i p:Nat}{f:Fp}:f∈LJ g i p↔∃q,Ef (g i p)=some q/\f=Fp.mk' q i:=by
 unfold LJ;cases h:Ef (g i p)with
 | none=>simp
 | some q=>simp
theorem ZU{g:Nat->Nat->Bs}{i:Nat}{f:Fp}:∀{k},f∈Gg g i k↔∃p q,p<k/\Ef (g i p)=some q/\f=Fp.mk' q i
 | 0=>by simp[Gg]
 | k+1=>by
   rw[Gg,An,ZU,mf]
   constructor
   ·rintro(⟨p,q,hp,h⟩ | ⟨q,h⟩)
    ·exact⟨p,q,by omega,h⟩
    exact⟨k,q,by omega,h⟩
   rintro⟨p,q,hp,h⟩;by_cases e:p=k
   ·subst e;exact .inr ⟨q,h⟩
   exact .inl ⟨p,q,by omega,h⟩
theorem FB{g:Nat->Nat->Bs}{np:Nat}{f:Fp}:∀{k},f∈EB g np k↔∃i p q,i<k/\p<np/\Ef (g i p)=some q/\f=Fp.mk' q i
 | 0=>by simp[EB]
 | k+1=>by
   rw[EB,An,FB,ZU]
   constructor
   ·rintro(⟨i,p,q,hi,h⟩ | ⟨p,q,h⟩)
    ·exact⟨i,p,q,by omega,h⟩
    exact⟨k,p,q,by omega,h⟩
   rintro⟨i,p,q,hi,h⟩;by_cases e:i=k
   ·subst e;exact .inr ⟨p,q,h⟩
   exact .inl ⟨i,p,q,by omega,h⟩
structure JZ (f:Fp):Prop where
 b:f.bad<256
 n:f.num<4294967296
 a:f.at_<f.JW
 o:f.JW<65536
 t:f.text.length=51
theorem G9{g:Nat->Nat->Bs}{np k:Nat}{f:Fp}(h:f∈EB g np k):JZ f/\f.Dg<k:=by
 obtain⟨i,p,q,hi,hp,hr,rfl⟩:=FB.1 h;obtain⟨h1,rfl,h3⟩:=Jr hr
 have:=Lc (g i p)
 exact⟨⟨this.1,this.2.1,h3,this.2.2.2,gW h1⟩,hi⟩
def KB(b n a:Nat)(f:Fp):Bool:=f.bad==b&&f.num==n&&f.at_==a
theorem Gb{b n a:Nat}{f:Fp}:KB b n a f=true↔f.bad=b/\f.num=n/\f.at_=a:=by
 simp[KB,and_assoc]
def Dp(l:List Fp)(b n a:Nat):Option Fp:=l.find? (KB b n a)
theorem YS(l:List Fp)(f:Fp)(b n a:Nat):Dp (l++[f]) b n a=if(Dp l b n a).isSome then Dp l b n a else if KB b n a f then some f else none:=by
 unfold Dp;rw[List.find?_append];cases h:l.find? (KB b n a)with
 | some x=>simp
 | none=>cases hf:KB b n a f<;>simp[List.find?,hf]
theorem M0{l:List Fp}{b n a:Nat}{f:Fp}(h:Dp l b n a=some f):f∈l/\f.bad=b/\f.num=n/\f.at_=a:=
 ⟨List.mem_of_find?_eq_some h,Gb.1 (List.find?_some h)⟩
theorem WI{l:List Fp}{f:Fp}(h:f∈l)(hu:∀x∈l,x.bad=f.bad->x.num=f.num->x.at_=f.at_->x=f):Dp l f.bad f.num f.at_=some f:=by
 cases hl:Dp l f.bad f.num f.at_ with
 | some x =>
   obtain⟨h1,h2,h3,h4⟩:=M0 hl;rw[hu x h1 h2 h3 h4]
 | none =>
   unfold Dp at hl
   have:=List.find?_eq_none.1 hl f h
   simp[KB]at this
theorem Lw{l:List Fp}{b n a:Nat}:Dp l b n a=none↔∀f∈l,¬(f.bad=b/\f.num=n/\f.at_=a):=by
 unfold Dp;rw[List.find?_eq_none]
 constructor
 ·intro h f hf he;exact h f hf (Gb.2 he)
 intro h f hf he;exact h f hf (Gb.1 he)
def FJ(l:List Fp)(b n:Nat):Bool:=l.any λf=>f.bad==b&&f.num==n
theorem E0{l:List Fp}{b n:Nat}:FJ l b n=true↔∃f∈l,f.bad=b/\f.num=n:=by
 simp[FJ]
def Ls(l:List Fp)(b n:Nat):Nat:=((Dp l b n 0).map Fp.JW).getD 0
def FH(l:List Fp)(b n o:Nat):Nat->Option (List Fp)
 | 0=>some []
 | k+1=>match FH l b n o k,Dp l b n k with
   | some ps,some f=>if f.JW=o then some (ps++[f])else none
   | _,_=>none
def FG(l:List Fp)(b n:Nat):Option (List Fp):=if Ls l b n=0 then none else FH l b n (Ls l b n) (Ls l b n)
theorem ZH{l:List Fp}{b n o:Nat}:∀{k j:Nat},k<=j->FH l b n o k=none->FH l b n o j=none:=by
 intro k j hk h
 induction j with
 | zero=>have:k=0:=by omega
         subst this;exact h
 | succ j ih =>
   by_cases e:k=j+1
   ·subst e;exact h
   rw[FH,ih (by omega)]
def Ei(ps:List Fp):Bs:=(ps.map Fp.text).flatten
def KG(ps:List Fp)(j:Nat):Bool:=ps.any λf=>f.Dg==j
def GF(ps:List Fp):Nat:=(ps.getLast?.map Fp.Dg).getD 0
theorem TR(ps:List Fp)(f:Fp):Ei (ps++[f])=Ei ps++f.text:=by simp[Ei]
theorem Xm(ps:List Fp)(f:Fp)(j:Nat):KG (ps++[f]) j=(j==f.Dg||KG ps j):=by
 simp[KG,Bool.or_comm,BEq.comm (a:=f.Dg)]
theorem Zd(ps:List Fp)(f:Fp):GF (ps++[f])=f.Dg:=by simp[GF]
def Kx(b n:Nat)(t:Bs)(k i:Nat):Fp:=⟨b,n,k,De t.length,(t.drop (k*51)).take 51++List.replicate (51 - ((t.drop (k*51)).take 51).length) 0,i⟩
theorem eT{l:List Fp}{b n:Nat}{t:Bs}{Dg:Nat->Nat}(h:∀k,k<De t.length->Dp l b n k=some (Kx b n t k (Dg k))):∀k,k<=De t.length->FH l b n (De t.length) k=some ((List.range k).map λj=>Kx b n t j (Dg j))
 | 0,_=>rfl
 | k+1,hk=>by
   rw[FH,eT h k (by omega),h k (by omega),B0];simp[Kx]
theorem Zr{l:List Fp}{b n:Nat}{t:Bs}{Dg:Nat->Nat}(h0:0<t.length)(h:∀k,k<De t.length->Dp l b n k=some (Kx b n t k (Dg k))):FG l b n=some ((List.range (De t.length)).map λj=>Kx b n t j (Dg j)):=by
 have hp:0<De t.length:=by unfold De;omega
 have ho:Ls l b n=De t.length:=by
  unfold Ls;rw[h 0 hp];rfl
 unfold FG;rw[ho,AC (by omega)];exact eT h _ (AB _)
theorem ZN(b n:Nat)(t:Bs)(Dg:Nat->Nat):∃z,Ei ((List.range (De t.length)).map λj=>Kx b n t j (Dg j))=t++z:=by
 obtain⟨z,hz⟩:=qY t;refine⟨z,?_⟩;rw[<-hz];unfold Ei;rw[Ch];rfl
end Go.Nt
namespace Go.Proofs.YtodmdkhdbfbfgaaGreatDoor.S1
open Go.RowKit Pk
variable {i b n:Nat} {w:D7} {S:Nat->Bool}
theorem Lr:Maps.Keyed prog 3:=Maps.int_keyed underlying3
theorem Mf(h:i<=1000000):keyOf prog 3 (.int .i64 i)=some (.int .i64 i):=Maps.keyOf_int_mk underlying3 (by simp[Lit.wf,IntKind.min,IntKind.max,IntKind.signed,IntKind.bits];omega)
theorem Vg(w:D7):(zeroValue 243).run prog w=.ok (.agg #[]) w:=by kernel_rfl
def EK(w:D7)(b:Nat)(n:Nat)(S:Nat->Bool):Prop:=
 ∃D:DataW Unit,w.ownsMap prog 3 unitElem b n D/\∀i:Nat,Maps.has D (.int .i64 i)=S i
def Oh(w:D7)(v:Option Nat)(n:Nat)(S:Nat->Bool):Prop:=(v=none/\∀i,S i=false)\/∃b,v=some b/\EK w b n S
theorem EK.lt(h:EK w b n S):b<w.heap.size:=by obtain⟨D,h,_⟩:=h;exact h.lt
theorem EK.of_block{w':D7}(h:EK w b n S)(hb:w'.heap[b]? = w.heap[b]?):EK w' b n S:=by
 obtain⟨D,⟨es,a0,h1,h2⟩,hh⟩:=h;exact⟨D,⟨es,a0,hb.trans h1,h2⟩,hh⟩
theorem EK.mono{n':Nat}(h:EK w b n S)(hn:n<=n'):EK w b n' S:=by
 obtain⟨D,h1,hh⟩:=h;exact⟨D,h1.mono hn,hh⟩
theorem EK.congr{T:Nat->Bool}(h:EK w b n S)(e:∀i,S i=T i):EK w b n T:=by
 obtain⟨D,h1,hh⟩:=h;exact⟨D,h1,λi=>(hh i).trans (e i)⟩
theorem WR(w:D7):EK (w.alloc (.map #[] 0)) w.heap.size 0 (λ_=>false):=⟨.map [],Cw w _ _ _,λi=>rfl⟩
theorem EK.look(h:EK w b n S)(hi:i<=1000000):(Instr.lookup 92 (.map (some b)) (.int .i64 i) true).run prog w=.ok (.tuple #[.agg #[],.bool (S i)]) w:=by
 obtain⟨D,ho,hh⟩:=h;obtain⟨v,ps,h1,h2⟩:=ho.look_ok Lr underlying92 (Vg w) unitElem_mk (Mf hi);rw[hh i,(unitElem_inv h2).1]at h1;exact h1
theorem qQ(w:D7)(hi:i<=1000000):(Instr.lookup 92 (.map none) (.int .i64 i) true).run prog w=.ok (.tuple #[.agg #[],.bool false]) w:=by
 have:=Maps.look_nil (w:=w) true Lr underlying92 (Vg w) (Mf hi)
 simpa using this
theorem Oh.look{v:Option Nat}(h:Oh w v n S)(hi:i<=1000000):(Instr.lookup 92 (.map v) (.int .i64 i) true).run prog w=.ok (.tuple #[.agg #[],.bool (S i)]) w:=by
 rcases h with⟨rfl,h⟩ | ⟨b,rfl,h⟩
 ·rw[h i];exact qQ w hi
 exact h.look hi
theorem int_ne{j:Nat}(h:i≠j):Lit.int .i64 i≠.int .i64 j:=λe=>h (by cases e;rfl)
theorem EK.store(h:EK w b n S)(hi:i<=1000000)(hn:n<=1000000) :
 ∃w',(Instr.mapUpdate 92 (.map (some b)) (.int .i64 i) (.agg #[])).run prog w=.ok () w'/\EK w' b (n+1) (λj=>j==i||S j)/\w.mapTurned w' b:=by
 obtain⟨D,ho,hh⟩:=h;obtain⟨w',h1,h2,h3⟩:=ho.store Lr underlying92 (by unfold maxLen;omega) (Mf hi) unitElem_mk;refine⟨w',h1,⟨_,h2,λj => ?_⟩,h3⟩;by_cases e:j=i
 ·subst e;rw[Cj ho.isMap (k:=.int .i64 j) trivial];simp
 rw[Bk (int_ne e),hh j];simp[e]
theorem EK.drop(h:EK w b n S)(hi:i<=1000000)(ty:TypeId) :
 ∃w',(Builtin.delete_ #[92,3] ty #[.map (some b),.int .i64 i]).run prog w=.ok (.tuple #[]) w'/\EK w' b n (λj => !(j==i)&&S j)/\w.mapTurned w' b:=by
 obtain⟨D,ho,hh⟩:=h;obtain⟨w',h1,h2,h3⟩:=ho.drop Lr underlying92 (Mf hi) ty;refine⟨w',h1,⟨_,h2,λj => ?_⟩,h3⟩;by_cases e:j=i
 ·subst e;rw[Maps.has_del_same];simp
 rw[Maps.has_del_other (int_ne e),hh j];simp[e]
theorem fD(v:Option Nat)(n i:Nat)(S:Nat->Bool)(w:D7)(h:Oh w v n S)(hi:i<=1000000) :
 Calls prog 243 #[.map v,.int .i64 i] w λe w'=>e=.returned (.bool (S i))/\Below w.heap.size w w':=by
 have hl:=h.look hi;clear h;obtain⟨r,hr⟩:=Jq (S i);rw[<-hr]at hl ⊢;clear hr;go_enter func243,ntmps243
 go_wp2;go_ret
 exact⟨rfl,(AM _ w).alloc (AB _) _⟩
theorem JU(t:D8)(w:D7)(ht:t.length<=1000000000):Calls prog 123 #[.string (D9 t)] w λe w'=>e=.returned (.int .i64 (Go.Nt.De t.length:Nat))/\w'=w:=by
 have hs:(D9 t).size=t.length:=Dd t;obtain⟨X,hX⟩:=Jq (D9 t);rw[<-hX]at hs ⊢;obtain⟨n,hn⟩:=Jq t.length;rw[<-hn]at ht hs ⊢;clear hX hn;have e:((n:Int)+51 - 1).tdiv 51=(Go.Nt.De n:Nat):=by
  rw[BX (by omega)];unfold Go.Nt.De;omega
 obtain⟨q,hq⟩:=Jq (Go.Nt.De n);rw[<-hq]at e ⊢;have a0:X.size<=1000000000:=by omega
 have Hs:=Jy hs;have He:=Jy e;clear hs hq e;go_enter func123,ntmps123
 go_wp2;go_ret
 refine⟨KH ?_,rfl⟩;have h1:=Hs.o;have h2:=He.o;rw[<-h1]at h2;rw[<-h2]
 first | rfl | (rw[BX (by omega)])
def Dt(m:M):Nat:=(List.range m.nb).countP λi=>m.bd i
theorem Fc(m:M):Dt m<=m.nb:=by
 have:=List.countP_le_length (p:=λi=>m.bd i) (l:=List.range m.nb)
 simpa[Dt]using this
def Eg(m:M):Nat:=m.nb - Dt m
theorem gu(m:M):Eg m<=m.nb:=Nat.sub_le _ _
def Ec(m:M):Nat:=Eg m/2*m.np
theorem Im(m:M)(h:i<m.nb):Fe m (i:Nat)=m.bd i:=by
 unfold Fe hasB;simp[h]
theorem Yo(w:D7)(lo hi cb:Nat)(L:Loc)(m:M)(hw:WF m)(h:CP w lo hi cb L m) :
 Calls prog 189 #[.pointer (some ⟨cb,0,none⟩)] w λe w'=>e=.returned (.int .i64 (Dt m:Nat))/\w'=w:=by
 have HB:=Jy (Em w lo hi cb L m h);have HD:=Jy (λi (hi':i<m.nb)=>by have:=H9 w lo hi cb L m (i:Nat) h;rw[Im m hi']at this;exact this);have h1:=hw.Iu;clear h hw;go_enter func189,ntmps189
 go_wp2_with fail;refine Jj HB.o ?_;go_wp2_with fail
 go_loopw [3,7] (λg i wr=>wr=w/\∃k c:Nat,k<=m.nb/\i=.int .i64 k/\g=.int .i64 c/\c<=k/\Hid (c=(List.range k).countP λi=>m.bd i)) (λ_ i _=>m.nb - (intOf i).toNat)
 case atStart=>exact⟨rfl,0,0,AU _,rfl,rfl,AB _,Jy rfl⟩
 case round =>
  obtain⟨rfl,k,c,hk,rfl,rfl,hc,Hc⟩:=hrel;by_cases a3:k<m.nb
  ·have A:=Jy (HD.o k a3);have Hn:Hid ((List.range (k+1)).countP (λi=>m.bd i)=c+if m.bd k then 1 else 0):=Jy (by
    rw[B0,List.countP_append,<-Hc.o];cases GW:m.bd k<;>simp[GW])
   obtain⟨b,hb⟩:=Jq (m.bd k);rw[<-hb]at A Hn;clear hb;cases b with
   | true =>
     go_wp2_with (go_at_call 94;refine Jj A.o ?_);go_roundw
     case rel=>exact⟨trivial,k+1,c+1,by omega,by go_num,by go_num,by omega,Jy (by rw[Hn.o];simp)⟩
     case measure=>simp[intOf];omega
   | false =>
     go_wp2_with (go_at_call 94;refine Jj A.o ?_);go_roundw
     case rel=>exact⟨trivial,k+1,c,by omega,by go_num,rfl,by omega,Jy (by rw[Hn.o];simp)⟩
     case measure=>simp[intOf];omega
  have a2:k=m.nb:=by omega
  subst a2;go_wp2;go_ret
  have a1:Dt m=c:=by have h9:=Hc.o;unfold Dt;exact h9.symm
  exact⟨by rw[a1];rfl,rfl⟩
theorem gO(w:D7)(lo hi cb:Nat)(L:Loc)(m:M)(hw:WF m)(h:CP w lo hi cb L m) :
 Calls prog 124 #[.pointer (some ⟨cb,0,none⟩)] w λe w'=>e=.returned (.int .i64 (Ec m:Nat))/\w'=w:=by
 have HB:=Jy (Em w lo hi cb L m h);have HP:=Jy (Er w lo hi cb L m h);have HD:=Jy (Yo w lo hi cb L m hw h);have h1:=hw.Iu;have h2:=hw.Jv;have h3:=Fc m;obtain⟨bn,a1⟩:=Jq (Dt m);rw[<-a1]at HD h3;obtain⟨nb,a2⟩:=Jq m.nb;rw[<-a2]at HB h1 h3;obtain⟨np,a3⟩:=Jq m.np;rw[<-a3]at HP h2;have HR:Hid (Ec m=(nb - bn)/2*np):=Jy (by unfold Ec Eg;rw[a1,a2,a3]);have e2:((nb:Int) - (bn:Int)).tdiv 2=(((nb - bn)/2:Nat):Int):=by rw[BX (by omega)];omega
 obtain⟨q,hq⟩:=Jq ((nb - bn)/2);have a5:q<=16:=by omega
 have e3:((nb:Int) - (bn:Int))/2=(q:Nat):=by omega
 rw[<-hq]at e2 HR;have a4:q*np<=256:=Cn a5 h2;clear h hw a1 a2 a3 hq;go_enter func124,ntmps124
 go_wp2_with (first | (go_at_call 76;refine Jj HB.o ?_) | (go_at_call 77;refine Jj HP.o ?_) | (go_at_call 189;refine Jj HD.o ?_));go_ret
 exact⟨by rw[HR.o];simp,rfl⟩
theorem Up(b n i:Nat)(S:Nat->Bool)(w:D7)(h:EK w b n S)(hi:i<=1000000)(hn:n<=1000000) :
 Calls prog 126 #[.map (some b),.int .i64 i] w λe w'=>e=.returned (.tuple #[])/\EK w' b (n+1) (λj=>j==i||S j)/\w.mapTurned w' b:=by
 obtain⟨V,hu,hS,hm⟩:=h.store hi hn;have HS:=Jy hS;have HM:=Jy hm;clear h hS hm;go_enter func126,ntmps126
 go_wp2;go_end0
 exact⟨rfl,HS.o,HM.o⟩
end Go.Proofs.YtodmdkhdbfbfgaaGreatDoor.S1
