/- Lemmas. -/
import Derived.Test.YtodmdkhdbfbfgaaGreatDoorM02
set_option linter.unusedVariables false
set_option linter.unusedSimpArgs false
set_option maxRecDepth 100000
set_option maxHeartbeats 8000000
open Go.Proofs.Tryz
abbrev Go.BE:=@Go.wp_region_held_drew
abbrev Go.BT:=@Go.wpAnyH_done
namespace Go.Proofs.YtodmdkhdbfbfgaaGreatDoor
namespace S1
open Go.RowKit Pk
structure Fm (S:Nat->Prop) (w w':D7):Prop where
 os:w'.os=w.os
 tape:w'.tape=w.tape
 output:w'.output=w.output
 size:w.heap.size<=w'.heap.size
 block:∀k,k<w.heap.size->¬S k->w'.heap[k]? = w.heap[k]?
namespace Fm
variable {S T:Nat->Prop} {a b c:D7}
theorem refl(S:Nat->Prop)(w:D7):Fm S w w:=⟨rfl,rfl,rfl,AB _,λ_ _ _=>rfl⟩
theorem trans(h:Fm S a b)(k:Fm S b c):Fm S a c:=
 ⟨k.os.trans h.os,k.tape.trans h.tape,k.output.trans h.output,AF h.size k.size,λi hi hn=>(k.block i (AR hi h.size) hn).trans (h.block i hi hn)⟩
theorem mono(h:Fm S a b)(e:∀k,k<a.heap.size->S k->T k):Fm T a b:=⟨h.os,h.tape,h.output,h.size,λk hk hn=>h.block k hk (λhs=>hn (e k hk hs))⟩
theorem of_below{B:Nat}(h:Below B a b)(hB:∀k,B<=k->k<a.heap.size->S k):Fm S a b:=
 ⟨h.os,h.tape,h.output,h.size,λk hk hn=>h.block k (by
  rcases CM k B with h1 | h1
  ·exact h1
  exact absurd (hB k h1 hk) hn)⟩
theorem HQ(h:Below a.heap.size a b):Fm S a b:=of_below h λk h1 h2=>absurd h1 (by omega)
theorem Kv{lo hi:Nat}(h:Dr lo hi a b)(e:∀k,lo<=k->k<hi->S k):Fm S a b:=
 ⟨h.os,h.tape,h.output,h.size,λk hk hn=>h.block k hk (λhs=>hn (e k hs.1 hs.2))⟩
theorem only{lo hi:Nat}(h:Fm S a b)(e:∀k,k<a.heap.size->S k->lo<=k/\k<hi):Dr lo hi a b:=
 ⟨h.os,h.tape,h.output,h.size,λk hk hn=>h.block k hk (λhs=>hn (e k hk hs))⟩
theorem below{B:Nat}(h:Fm S a b)(e:∀k,S k->B<=k)(hB:B<=a.heap.size):Below B a b:=
 ⟨h.os,h.tape,h.output,h.size,λk hk=>h.block k (by omega) (λhs=>by have:=e k hs;omega)⟩
theorem drew(h:Fm S a b):Fm S a b.drew:=h.trans ⟨rfl,rfl,rfl,AB _,λ_ _ _=>rfl⟩
theorem alloc(h:Fm S a b)(o:Obj):Fm S a (b.alloc o):=h.trans ⟨rfl,rfl,rfl,by simp,λk hk _=>AO b o k hk⟩
theorem set(h:Fm S a b){g:Nat}(hg:g<a.heap.size->S g)(o:Nat)(v:Value):Fm S a (b.setCell ⟨g,o,none⟩ v):=
 ⟨h.os,h.tape,h.output,by have:=h.size;simpa using this,λk hk hn=>(AH b ⟨g,o,none⟩ v k (λe=>hn (by have e':k=g:=e;subst e';exact hg hk))).trans (h.block k hk hn)⟩
theorem map(h:Fm S a b){g:Nat}(hg:g<a.heap.size->S g)(hm:b.mapTurned c g):Fm S a c:=
 ⟨hm.grown.os.trans h.os,hm.grown.tape.trans h.tape,hm.grown.output.trans h.output,AF h.size hm.grown.size,λk hk hn=>(hm.grown.block k (AR hk h.size) (λe=>by cases e;exact hn (hg hk))).trans (h.block k hk hn)⟩
end Fm
theorem MF(w:D7):(Instr.makeMap 92 none).run prog w=.ok (.map (some w.heap.size)) (w.alloc (.map #[] 0)):=by
 simp[Instr.makeMap,Result.andThen]
def Ee(m:M)(n:Nat):Int:=if m.Da=0 then 10 else if Ec m<Go.Nt.De n then 9 else 0
theorem Xu(w:D7)(lo hi cb:Nat)(L:Loc)(m:M)(t:D8)(hw:WF m)(h:CP w lo hi cb L m)(ht:t.length<=1000000000) :
 Calls prog 74 #[.pointer (some ⟨cb,0,none⟩),.string (D9 t)] w λe w'=>e=.returned (.int .i64 (Ee m t.length))/\w'=w:=by
 have HD:=Jy (EW w lo hi cb L m h);have HP:=Jy (JU t w ht);have HR:=Jy (gO w lo hi cb L m hw h);obtain⟨X,hX⟩:=Jq (D9 t);rw[<-hX]at HP ⊢;by_cases h0:m.Da=0
 ·have e:Ee m t.length=10:=by unfold Ee;rw[AE h0]
  have hb:(m.Da==0)=true:=DI.2 h0;rw[e];rw[hb]at HD;clear h hw hX e hb h0;go_enter func74,ntmps74
  go_wp2_with (go_at_call 25;refine Jj HD.o ?_);go_ret
  exact⟨rfl,rfl⟩
 have hb:(m.Da==0)=false:=BI.2 h0;rw[hb]at HD;have e:Ee m t.length=if Ec m<Go.Nt.De t.length then 9 else 0:=by unfold Ee;rw[AC h0]
 rw[e];obtain⟨p,hp⟩:=Jq (Go.Nt.De t.length);obtain⟨r,hr⟩:=Jq (Ec m);rw[<-hp]at HP ⊢;rw[<-hr]at HR ⊢;clear h hw hX e hb h0 hp hr;by_cases a2:r<p
 focus
  have a1:(r:Int)<(p:Int):=by omega
  rw[AE a2]
 rotate_left
 focus
  have a1:¬(r:Int)<(p:Int):=by omega
  rw[AC a2]
 rotate_left
 all_goals
  go_enter func74,ntmps74
  go_wp2_with (first | (go_at_call 25;refine Jj HD.o ?_) | (go_at_call 123;refine Jj HP.o ?_) | (go_at_call 124;refine Jj HR.o ?_));go_ret
  exact⟨rfl,rfl⟩
theorem UC(m:M)(b:Int):(EJ m b).2.nb=m.nb:=by
 unfold EJ Gp
 repeat' split
 all_goals rfl
theorem Wd(m:M)(b:Int):(EJ m b).2.np=m.np:=by
 unfold EJ Gp
 repeat' split
 all_goals rfl
theorem V9(m:M)(b p:Int)(s:D8):(Dy m b p s).2.nb=m.nb:=by
 unfold Dy FR
 repeat' split
 all_goals rfl
theorem S8(m:M)(b p:Int)(s:D8):(Dy m b p s).2.np=m.np:=by
 unfold Dy FR
 repeat' split
 all_goals rfl
def Ds(m:M):Nat->M × (Nat->Bool)
 | 0=>(m,λ_=>false)
 | k+1=>((EJ (Ds m k).1 (k:Nat)).2,if(EJ (Ds m k).1 (k:Nat)).1 then(λj=>j==k||(Ds m k).2 j)else(Ds m k).2)
theorem ZK(m:M):∀k,(Ds m k).1.nb=m.nb
 | 0=>rfl
 | k+1=>by rw[Ds];exact(UC _ _).trans (ZK m k)
theorem To{m:M}(h:WF m):∀k,WF (Ds m k).1
 | 0=>h
 | k+1=>by rw[Ds];exact R8 (To h k) _
theorem jU(w:D7)(lo hi cb:Nat)(L:Loc)(m:M)(hw:WF m)(h:CP w lo hi cb L m)(hsz:hi<=w.heap.size) :
 Calls prog 75 #[.pointer (some ⟨cb,0,none⟩)] w λe w'=>e=.returned (.map (some w.heap.size))/\CP w' lo hi cb L (Ds m m.nb).1/\EK w' w.heap.size m.nb (Ds m m.nb).2/\Dr lo hi w w':=by
 have aw:=hw.Iu;obtain⟨W0,a2⟩:=Jq (w.alloc (.map #[] 0));have a7:Below w.heap.size w W0:=by rw[a2];exact(AM _ w).alloc (AB _) _
 have ac:CP W0 lo hi cb L m:=Db.below h hsz a7;have af:EK W0 w.heap.size 0 (λ_=>false):=by rw[a2];exact WR w
 have a8:=Jy (Em W0 lo hi cb L m ac);have an:=Jy ac;have a9:=Jy af;have aj:Hid (Dr lo hi w W0):=Jy (Dr.of_below a7);have ax:=Jy a2;have HW:=Jy hw;have am:=MF w;rw[<-a2]at am;obtain⟨g,hg⟩:=Jq w.heap.size;rw[<-hg]at a9 hsz am ⊢;have Hg:=Jy hg;obtain⟨nb,aa⟩:=Jq m.nb;rw[<-aa]at a8 aw ⊢;have az:=Jy aa;clear h hw a7 ac af a2 aa hg;go_enter func75,ntmps75
 go_wp2_with fail;refine Jj a8.o ?_;go_wp2_with fail
 go_loopw [8] (λi wr=>∃k:Nat,k<=nb/\i=.int .i64 k/\Hid (CP wr lo hi cb L (Ds m k).1)/\Hid (EK wr g k (Ds m k).2)/\Hid (Dr lo hi w wr)) (λi _=>nb - (intOf i).toNat)
 case atStart=>exact⟨0,AU _,rfl,an,a9,aj⟩
 case round =>
  clear an a9 aj ax a8;obtain⟨k,hk,rfl,HC,HS,HO⟩:=hrel;have ah:g<wr.heap.size:=HS.o.lt;by_cases aA:k<nb
  ·have A:=Jy (YD wr lo hi cb L (Ds m k).1 (k:Nat) (To HW.o k) HC.o (by omega));obtain⟨r,hr⟩:=Jq ((EJ (Ds m k).1 (k:Nat)).1);have a4:Hid (Ds m (k+1)=((EJ (Ds m k).1 (k:Nat)).2,if r then(λj=>j==k||(Ds m k).2 j)else(Ds m k).2)):=Jy (by rw[hr];rfl);rw[<-hr]at A;clear hr;go_wp2_with fail;refine A.o.mono ?_;rintro e w1 ⟨rfl,ai,a3⟩;have ag:EK w1 g k (Ds m k).2:=HS.o.of_block (a3.block g ah (by omega));have a6:Hid (CP w1 lo hi cb L (Ds m (k+1)).1):=Jy (by rw[a4.o];exact ai);have a0:=Jy (HO.o.trans a3);have au:=AR ah a3.size;have ad:=Jy ag;clear A ai a3 HC HS HO ag;cases r with
   | true =>
     have A2:=Jy (Up g k k _ w1 ad.o (by omega) (by omega));go_wp2_with fail;refine A2.o.mono ?_;rintro e V ⟨rfl,ae,a1⟩;have ar:Hid (CP V lo hi cb L (Ds m (k+1)).1):=Jy (Db.Dn a6.o λj _ h2=>a1.grown.block j (by omega) (λe=>by cases e;omega));have a5:Hid (EK V g (k+1) (Ds m (k+1)).2):=Jy (by rw[a4.o];exact ae);have ay:Hid (Dr lo hi w V):=Jy ⟨a1.grown.os.trans a0.o.os,a1.grown.tape.trans a0.o.tape,a1.grown.output.trans a0.o.output,AF a0.o.size a1.grown.size,λj hj hn=>(a1.grown.block j (AR hj a0.o.size) (λe=>by cases e;have:=Hg.o;omega)).trans (a0.o.block j hj hn)⟩;clear ae a1 ad a6 a0 A2;go_wp2;go_roundw
     case rel=>exact⟨k+1,by omega,by go_num,ar,a5,ay⟩
     case measure=>simp[intOf];omega
   | false =>
     have a5:Hid (EK w1 g (k+1) (Ds m (k+1)).2):=Jy (by rw[a4.o];exact ad.o.mono (by omega));go_wp2;go_roundw
     case rel=>exact⟨k+1,by omega,by go_num,a6,a5,a0⟩
     case measure=>simp[intOf];omega
  have ao:k=nb:=by omega
  subst ao;go_wp2;go_ret
  exact⟨rfl,HC.o,HS.o,HO.o⟩
end S1
namespace S1
open Go.RowKit Pk
theorem oD{P:Program}{c:Code}{Q:Exit->Act->D7->Prop}{a:Act}{w:D7}{F:Act}{W:D7}(reg:c.wp P (NoPanic λe a' w'=>e=.normal/\a'=F/\w'=W) a w)(cont:Q .normal F W):c.wp P Q a w:=by
 refine Code.wp_mono (λe a' w' h => ?_) reg;cases e with
 | panic c=>exact(h:False).elim
 | normal =>
   obtain⟨_,h2,h3⟩:Exit.normal=Exit.normal/\a'=F/\w'=W:=h;rw[h2,h3];exact cont
 | _ =>
   have h':=NoPanic.imp _ _ _ h;obtain⟨h1,_,_⟩:=h';cases h1
structure Lv where
 nb:Nat
 nn:Nat
 tk:Option Nat
def E8(w:D7)(lb cb:Nat)(lv:Lv)(kv qv:Option Nat)(b p:Nat):Prop:=w.heap[lb]? = some (.cells #[.pointer (some ⟨cb,0,none⟩),.int .i64 lv.nb,.int .u32 lv.nn,.map kv,.map lv.tk,.map qv,.int .i64 b,.int .i64 p] 132 (0,0))
namespace E8
variable {w:D7} {lb cb:Nat} {lv:Lv} {kv qv:Option Nat} {b p:Nat}
theorem lt(h:E8 w lb cb lv kv qv b p):lb<w.heap.size:=lt_of_heap h
theorem of_block{w':D7}(h:E8 w lb cb lv kv qv b p)(e:w'.heap[lb]? = w.heap[lb]?):E8 w' lb cb lv kv qv b p:=e.trans h
theorem c0(h:E8 w lb cb lv kv qv b p):w.cell? ⟨lb,0,none⟩=some (.pointer (some ⟨cb,0,none⟩)):=by rw[AG w lb 0 _ 132 (0,0) h];rfl
theorem n0(h:E8 w lb cb lv kv qv b p):w.cell? ⟨lb,1,none⟩=some (.int .i64 lv.nb):=by rw[AG w lb 1 _ 132 (0,0) h];rfl
theorem n1(h:E8 w lb cb lv kv qv b p):w.cell? ⟨lb,2,none⟩=some (.int .u32 lv.nn):=by rw[AG w lb 2 _ 132 (0,0) h];rfl
theorem c2(h:E8 w lb cb lv kv qv b p):w.cell? ⟨lb,3,none⟩=some (.map kv):=by rw[AG w lb 3 _ 132 (0,0) h];rfl
theorem t4(h:E8 w lb cb lv kv qv b p):w.cell? ⟨lb,4,none⟩=some (.map lv.tk):=by rw[AG w lb 4 _ 132 (0,0) h];rfl
theorem c3(h:E8 w lb cb lv kv qv b p):w.cell? ⟨lb,5,none⟩=some (.map qv):=by rw[AG w lb 5 _ 132 (0,0) h];rfl
theorem c4(h:E8 w lb cb lv kv qv b p):w.cell? ⟨lb,6,none⟩=some (.int .i64 b):=by rw[AG w lb 6 _ 132 (0,0) h];rfl
theorem c5(h:E8 w lb cb lv kv qv b p):w.cell? ⟨lb,7,none⟩=some (.int .i64 p):=by rw[AG w lb 7 _ 132 (0,0) h];rfl
theorem fz(h:E8 w lb cb lv kv qv b p)(k:Nat):w.frozen? ⟨lb,k,none⟩=false:=Al w lb k _ 132 h
theorem set2(h:E8 w lb cb lv kv qv b p)(x:Option Nat):E8 (w.setCell ⟨lb,3,none⟩ (.map x)) lb cb lv x qv b p:=AK w lb 3 _ 132 (.map x) h
theorem SD(h:E8 w lb cb lv kv qv b p)(x:Option Nat):E8 (w.setCell ⟨lb,4,none⟩ (.map x)) lb cb ⟨lv.nb,lv.nn,x⟩ kv qv b p:=AK w lb 4 _ 132 (.map x) h
theorem MY(h:E8 w lb cb lv kv qv b p)(x:Nat):E8 (w.setCell ⟨lb,6,none⟩ (.int .i64 x)) lb cb lv kv qv x p:=AK w lb 6 _ 132 _ h
theorem JF(h:E8 w lb cb lv kv qv b p)(x:Nat):E8 (w.setCell ⟨lb,7,none⟩ (.int .i64 x)) lb cb lv kv qv b x:=AK w lb 7 _ 132 _ h
end E8
def Apart(v:Option Nat)(lo hi lb:Nat):Prop:=∀g,v=some g->g≠lb/\¬(lo<=g/\g<hi)
theorem Oh.Dn{w w':D7}{v:Option Nat}{n:Nat}{S:Nat->Bool}(h:Oh w v n S)(e:∀g,v=some g->g<w.heap.size->w'.heap[g]? = w.heap[g]?):Oh w' v n S:=by
 rcases h with⟨rfl,h⟩ | ⟨b,rfl,h⟩
 ·exact .inl ⟨rfl,h⟩
 exact .inr ⟨b,rfl,h.of_block (e b rfl h.lt)⟩
structure EO (w:D7) (lo hi cb lb:Nat) (L:Loc) (lv:Lv) (kv qv:Option Nat) (nk nq:Nat) (m:M) (K Q:Nat->Bool) (b p:Nat):Prop where
 log:E8 w lb cb lv kv qv b p
 E2:CP w lo hi cb L m
 wf:WF m
 kept:Oh w kv nk K
 clean:Oh w qv nq Q
 ak:Apart kv lo hi lb
 aq:Apart qv lo hi lb
 kq:∀g,kv=some g->qv≠some g
 al:¬(lo<=lb/\lb<hi)
 sz:hi<=w.heap.size
def Ew(lo hi lb:Nat)(kv qv:Option Nat)(k:Nat):Prop:=(lo<=k/\k<hi)\/k=lb\/kv=some k\/qv=some k
namespace EO
variable {w w':D7} {lo hi cb lb:Nat} {L:Loc} {lv:Lv} {kv qv:Option Nat} {nk nq:Nat} {m m':M} {K Q:Nat->Bool} {b p:Nat}
theorem Dn(h:EO w lo hi cb lb L lv kv qv nk nq m K Q b p)(hs:hi<=w'.heap.size)(e:∀k,Ew lo hi lb kv qv k->k<w.heap.size->w'.heap[k]? = w.heap[k]?):EO w' lo hi cb lb L lv kv qv nk nq m K Q b p:=
 ⟨h.log.of_block (e lb (.inr (.inl rfl)) h.log.lt),Db.Dn h.E2 λk h1 h2=>e k (.inl ⟨h1,h2⟩) (AR h2 h.sz),h.wf,h.kept.Dn λg hg hl=>e g (.inr (.inr (.inl hg))) hl,h.clean.Dn λg hg hl=>e g (.inr (.inr (.inr hg))) hl,h.ak,h.aq,h.kq,h.al,hs⟩
theorem new(h:EO w lo hi cb lb L lv kv qv nk nq m K Q b p)(hb:Below w.heap.size w w'):EO w' lo hi cb lb L lv kv qv nk nq m K Q b p:=
 h.Dn (AF h.sz hb.size) λk _ hk=>hb.block k hk
theorem drew(h:EO w lo hi cb lb L lv kv qv nk nq m K Q b p):EO w.drew lo hi cb lb L lv kv qv nk nq m K Q b p:=h.Dn h.sz λk _ hk=>rfl
theorem field(h:EO w lo hi cb lb L lv kv qv nk nq m K Q b p){o:Nat}{x:Value}{lv':Lv}{b' p':Nat}(hl:E8 (w.setCell ⟨lb,o,none⟩ x) lb cb lv' kv qv b' p'):EO (w.setCell ⟨lb,o,none⟩ x) lo hi cb lb L lv' kv qv nk nq m K Q b' p':=by
 have e:∀k,k≠lb->(w.setCell ⟨lb,o,none⟩ x).heap[k]? = w.heap[k]? := λk hk=>AH w ⟨lb,o,none⟩ x k hk
 exact⟨hl,Db.Dn h.E2 λk h1 h2=>e k (λe'=>h.al (by subst e';exact⟨h1,h2⟩)),h.wf,h.kept.Dn λg hg _=>e g (h.ak g hg).1,h.clean.Dn λg hg _=>e g (h.aq g hg).1,h.ak,h.aq,h.kq,h.al,by have:=h.sz;simpa using this⟩
theorem MY(h:EO w lo hi cb lb L lv kv qv nk nq m K Q b p)(x:Nat):EO (w.setCell ⟨lb,6,none⟩ (.int .i64 x)) lo hi cb lb L lv kv qv nk nq m K Q x p:=h.field (h.log.MY x)
theorem JF(h:EO w lo hi cb lb L lv kv qv nk nq m K Q b p)(x:Nat):EO (w.setCell ⟨lb,7,none⟩ (.int .i64 x)) lo hi cb lb L lv kv qv nk nq m K Q b x:=h.field (h.log.JF x)
theorem turn(h:EO w lo hi cb lb L lv kv qv nk nq m K Q b p)(hc:CP w' lo hi cb L m')(hw:WF m')(ho:Dr lo hi w w'):EO w' lo hi cb lb L lv kv qv nk nq m' K Q b p:=
 ⟨h.log.of_block (ho.block lb h.log.lt h.al),hc,hw,h.kept.Dn λg hg hl=>ho.block g hl (h.ak g hg).2,h.clean.Dn λg hg hl=>ho.block g hl (h.aq g hg).2,h.ak,h.aq,h.kq,h.al,AF h.sz ho.size⟩
theorem VY{g:Nat}(h:EO w lo hi cb lb L lv kv (some g) nk nq m K Q b p){nq':Nat}{Q':Nat->Bool}(hq:EK w' g nq' Q')(hm:w.mapTurned w' g):EO w' lo hi cb lb L lv kv (some g) nk nq' m K Q' b p:=by
 have e:∀k,k<w.heap.size->k≠g->w'.heap[k]? = w.heap[k]? := λk hk hn=>hm.grown.block k hk (λe=>by cases e;exact hn rfl)
 have hg:=h.aq g rfl;exact⟨h.log.of_block (e lb h.log.lt (λe=>hg.1 e.symm)),Db.Dn h.E2 λk h1 h2=>e k (AR h2 h.sz) (λe'=>hg.2 (by subst e';exact⟨h1,h2⟩)),h.wf,h.kept.Dn λg' a0 hl=>e g' hl (λe'=>h.kq g' a0 (by rw[e'])),.inr ⟨g,rfl,hq⟩,h.ak,h.aq,h.kq,h.al,AF h.sz hm.grown.size⟩
theorem del(h:EO w lo hi cb lb L lv kv qv nk nq m K Q b p){i:Nat}(hi':i<=1000000):∃V,(Builtin.delete_ #[92,3] 0 #[.map qv,.int .i64 i]).run prog w=.ok (.tuple #[]) V/\EO V lo hi cb lb L lv kv qv nk nq m K (λj => !(j==i)&&Q j) b p/\Fm (Ew lo hi lb kv qv) w V:=by
 rcases h.clean with⟨rfl,hn⟩ | ⟨g,rfl,hg⟩
 ·refine⟨w,Maps.drop_nil Lr underlying92 (Mf hi') 0,⟨h.log,h.E2,h.wf,h.kept,.inl ⟨rfl,λj=>by simp[hn j]⟩,h.ak,h.aq,h.kq,h.al,h.sz⟩,Fm.refl _ _⟩
 obtain⟨V,h1,h2,h3⟩:=hg.drop hi' 0;exact⟨V,h1,h.VY h2 h3,(Fm.refl _ _).map (λ_=>.inr (.inr (.inr rfl))) h3⟩
end EO
def Di(m:M)(K Q:Nat->Bool)(b:Nat):Bool × M × (Nat->Bool) × Nat:=
 if K ((b+1)%m.nb)then(false,m,Q,m.np)
 else if Q ((b+1)%m.nb)then(true,m,(λj => !(j==(b+1)%m.nb)&&Q j),0)
 else if(EJ m (((b+1)%m.nb:Nat):Int)).1 then(true,(EJ m (((b+1)%m.nb:Nat):Int)).2,(λj => !(j==(b+1)%m.nb)&&Q j),0)
 else(false,(EJ m (((b+1)%m.nb:Nat):Int)).2,Q,m.np)
end S1
namespace S1
open Go.RowKit Pk
def RV(w:D7)(lo hi cb lb:Nat)(L:Loc)(lv:Lv)(kv qv:Option Nat)(nk nq:Nat)(m:M)(K Q:Nat->Bool)(b:Nat)(e:Ending)(w':D7):Prop:=
 e=.returned (.bool (Di m K Q b).1)/\EO w' lo hi cb lb L lv kv qv nk nq (Di m K Q b).2.1 K (Di m K Q b).2.2.1 ((b+1)%m.nb) (Di m K Q b).2.2.2/\Fm (Ew lo hi lb kv qv) w w'
theorem o0(w:D7)(lo hi cb lb:Nat)(L:Loc)(lv:Lv)(kv qv:Option Nat)(nk nq:Nat)(m:M)(K Q:Nat->Bool)(b p:Nat)(h:EO w lo hi cb lb L lv kv qv nk nq m K Q b p)(hb:b<1000000) :
 Calls prog 193 #[.pointer (some ⟨lb,0,none⟩)] w λe w'=>RV w lo hi cb lb L lv kv qv nk nq m K Q b e w':=by
 have H:=Jy h;have h4:=h.wf.KZ;have h32:=h.wf.Iu;have HB:=Jy (λ(V:D7) (hV:CP V lo hi cb L m)=>Em V lo hi cb L m hV);have HP:=Jy (λ(V:D7) (hV:CP V lo hi cb L m)=>Er V lo hi cb L m hV);have c0:=h.log.c0;have c4:=h.log.c4;have f4:=h.log.fz 6;obtain⟨nb,hnb⟩:=Jq m.nb;rw[<-hnb]at HB h4 h32;have Hnb:=Jy hnb;have hmod:((b:Int)+1).tmod (nb:Int)=(((b+1)%nb:Nat):Int):=by rw[Int.tmod_eq_emod_of_nonneg (by omega)];rfl
 obtain⟨b1,hb1⟩:=Jq ((b+1)%nb);have hb1lt:b1<nb:=by rw[hb1];exact BM _ (by omega)
 rw[<-hb1]at hmod;have Hb1:=Jy hb1;have HBd:=Jy (HB.o w.drew h.E2.drew);have hne:(nb:Int)≠0:=by omega
 have hw1:IntKind.i64.wrap ((b:Int)+1)=(b:Int)+1:=by rw[Av];omega
 clear hnb hb1 h;go_enter func193,ntmps193
 go_wp2_with fail
 apply oD
 case reg =>
  go_region_with (go_at_call 76;refine Jj HBd.o ?_)
  all_goals exact⟨rfl,rfl,rfl⟩
 case cont =>
  obtain⟨W1,hW1⟩:=Jq ((w.setCell ⟨lb,6,none⟩ (.int .i64 b1)).drew);rw[<-hW1];have hL1:EO W1 lo hi cb lb L lv kv qv nk nq m K Q b1 p:=by rw[hW1];exact(H.o.MY b1).drew
  have hF1:Fm (Ew lo hi lb kv qv) w W1:=by rw[hW1];exact((Fm.refl _ w).set (λ_=>.inr (.inl rfl)) 6 _).drew
  have A:=Jy (HP.o W1 hL1.E2);obtain⟨np,hnp⟩:=Jq m.np;rw[<-hnp]at A;have a0:=hL1.log.c0;have a5:=hL1.log.c5;have g5:=hL1.log.fz 7;obtain⟨W2,hW2⟩:=Jq (W1.setCell ⟨lb,7,none⟩ (.int .i64 np));have hL2:EO W2 lo hi cb lb L lv kv qv nk nq m K Q b1 np:=by rw[hW2];exact hL1.JF np
  have hF2:Fm (Ew lo hi lb kv qv) w W2:=by rw[hW2];exact hF1.set (λ_=>.inr (.inl rfl)) 7 _
  have HW2:=Jy hW2;have H2:=Jy hL2;have HF2:=Jy hF2;have Hnp:=Jy hnp;clear hW1 hL1 hF1 hW2 hL2 hF2 hnp HBd c0 c4 f4 HB HP;go_wp2_with fail;refine Jj A.o ?_;clear A;have k2:=H2.o.log.c2;have k4:=H2.o.log.c4;have k2d:W2.drew.cell? ⟨lb,3,none⟩=some (.map kv):=k2;have k4d:W2.drew.cell? ⟨lb,6,none⟩=some (.int .i64 b1):=k4;have A:=Jy (fD kv nk b1 K W2.drew H2.o.drew.kept (by omega));have hlb2:lb<W2.heap.size:=H2.o.log.lt;go_wp2_with (first | (rw[<-HW2.o]) | fail);go_region_held3 (λV=>V.cell? ⟨lb,3,none⟩=some (.map kv)/\V.cell? ⟨lb,6,none⟩=some (.int .i64 b1)) (go_keep) (first
   | (go_at_call 243;refine A.o.mono ?_;rintro e W3 ⟨rfl,hb3⟩;have k23:W3.cell? ⟨lb,3,none⟩=some (.map kv):=(by rw[hb3.cell (p:=⟨lb,3,none⟩) hlb2];exact k2d);have k43:W3.cell? ⟨lb,6,none⟩=some (.int .i64 b1):=(by rw[hb3.cell (p:=⟨lb,6,none⟩) hlb2];exact k4d);have H3:=Jy (H2.o.drew.new hb3);have HF3:=Jy (HF2.o.drew.trans (Fm.HQ hb3));clear hb3))
  rename_i hHeld;clear hHeld k2d k4d k2 k4 A a0 a5 g5;obtain⟨y,hy⟩:=Jq (K b1);rw[<-hy];have Hy:=Jy hy;clear hy;cases y
  ·have k33:=H3.o.log.c3;have k03:=H3.o.log.c0;have A:=Jy (fD qv nq b1 Q W3.drew H3.o.drew.clean (by omega));have hlb3:lb<W3.heap.size:=H3.o.log.lt;have k33d:W3.drew.cell? ⟨lb,5,none⟩=some (.map qv):=k33;have k43d:W3.drew.cell? ⟨lb,6,none⟩=some (.int .i64 b1):=k43;have k03d:W3.drew.cell? ⟨lb,0,none⟩=some (.pointer (some ⟨cb,0,none⟩)):=k03;obtain⟨z,hz⟩:=Jq (Q b1);rw[<-hz]at A;have Hz:=Jy hz;clear hz;cases z
   focus
    have HEr:=Jy (λ(V:D7) (h:EO V lo hi cb lb L lv kv qv nk nq m K Q b1 np)=>YD V lo hi cb L m (b1:Nat) h.wf h.E2 h.sz);have HWf:=Jy (R8 H2.o.wf (b1:Nat));obtain⟨m5,hm5⟩:=Jq ((EJ m (b1:Nat)).2);obtain⟨r,hr⟩:=Jq ((EJ m (b1:Nat)).1);have HR:Hid (Di m K Q b=if r then(true,m5,(λj => !(j==b1)&&Q j),0)else(false,m5,Q,np)):=Jy (by unfold Di;rw[<-Hnb.o,<-Hb1.o,<-Hy.o,<-Hz.o,hr,hm5,Hnp.o];rfl);rw[<-hr,<-hm5]at HEr;rw[<-hm5]at HWf;clear hr hm5
   rotate_left
   focus
    have HR:Hid (Di m K Q b=(true,m,(λj => !(j==b1)&&Q j),0)):=Jy (by unfold Di;rw[<-Hnb.o,<-Hb1.o,<-Hy.o,<-Hz.o];rfl)
   rotate_left
   all_goals
    go_wp2_with fail;refine BE (S:=λV=>V.cell? ⟨lb,5,none⟩=some (.map qv)/\V.cell? ⟨lb,6,none⟩=some (.int .i64 b1)/\V.cell? ⟨lb,0,none⟩=some (.pointer (some ⟨cb,0,none⟩))) (by kernel_rfl) ⟨k33d,k43d,k03d⟩ (λhHeld => ?_);refine tk 0 ⟨some 34,.move (.tmp 0),_,_,_,none⟩ (.pointer (some ⟨lb,0,none⟩)) rfl (λw h=>by go_simp) hHeld ?_;simp only[zP,List.set];refine tk 1 ⟨some 35,.nilCheck (.tmp 34),_,_,_,none⟩ (.pointer (some ⟨lb,0,none⟩)) rfl (λw h=>by go_simp) hHeld ?_;simp only[zP,List.set];refine tk 2 ⟨some 36,.fieldAddr 132 (.tmp 35) 4,_,_,_,none⟩ (.pointer (some ⟨lb,5,none⟩)) rfl (λw h=>by go_simp) hHeld ?_
    simp only[zP,List.set];refine tk 3 ⟨some 37,.load 92 (.tmp 36),_,_,_,none⟩ (.map qv) rfl (λw h=>by go_simp) hHeld ?_;simp only[zP,List.set];refine tk 4 ⟨some 38,.move (.tmp 0),_,_,_,none⟩ (.pointer (some ⟨lb,0,none⟩)) rfl (λw h=>by go_simp) hHeld ?_;simp only[zP,List.set];refine tk 5 ⟨some 39,.nilCheck (.tmp 38),_,_,_,none⟩ (.pointer (some ⟨lb,0,none⟩)) rfl (λw h=>by go_simp) hHeld ?_;simp only[zP,List.set];refine tk 6 ⟨some 40,.fieldAddr 132 (.tmp 39) 5,_,_,_,none⟩ (.pointer (some ⟨lb,6,none⟩)) rfl (λw h=>by go_simp) hHeld ?_;simp only[zP,List.set]
    refine tk 7 ⟨some 41,.load 3 (.tmp 40),_,_,_,none⟩ (.int .i64 b1) rfl (λw h=>by go_simp) hHeld ?_;simp only[zP,List.set];refine rd 8 rfl (λK hK => ?_);go_simp;refine A.o.mono ?_;rintro e W4 ⟨rfl,hb4⟩;have H4:=Jy (H3.o.drew.new hb4);have HF4:=Jy (HF3.o.drew.trans (Fm.HQ hb4));clear hb4;have k34:=H4.o.log.c3;have k44:=H4.o.log.c4;have k04:=H4.o.log.c0;refine hK.o _ _ ⟨k34,k44,k04⟩ (λhHeld => ?_)
   ·have A5:=Jy (HEr.o W4 H4.o);refine tk 9 ⟨some 43,.unOp .not 4 (.tmp 42),_,_,_,none⟩ (.bool true) rfl (λw h=>by go_simp) hHeld ?_;simp only[zP,List.set];refine tk 10 ⟨some 44,.move (.tmp 43),_,_,_,none⟩ (.bool true) rfl (λw h=>by go_simp) hHeld ?_;simp only[zP,List.set];refine tk 11 ⟨some 45,.move (.tmp 0),_,_,_,some (10,true)⟩ (.pointer (some ⟨lb,0,none⟩)) rfl (λw h=>by go_simp) hHeld ?_;simp only[zP,List.set]
    refine tk 12 ⟨some 46,.nilCheck (.tmp 45),_,_,_,some (10,true)⟩ (.pointer (some ⟨lb,0,none⟩)) rfl (λw h=>by go_simp) hHeld ?_;simp only[zP,List.set];refine tk 13 ⟨some 47,.fieldAddr 132 (.tmp 46) 0,_,_,_,some (10,true)⟩ (.pointer (some ⟨lb,0,none⟩)) rfl (λw h=>by go_simp) hHeld ?_;simp only[zP,List.set];refine tk 14 ⟨some 48,.load 28 (.tmp 47),_,_,_,some (10,true)⟩ (.pointer (some ⟨cb,0,none⟩)) rfl (λw h=>by go_simp) hHeld ?_;simp only[zP,List.set]
    refine tk 15 ⟨some 49,.move (.tmp 0),_,_,_,some (10,true)⟩ (.pointer (some ⟨lb,0,none⟩)) rfl (λw h=>by go_simp) hHeld ?_;simp only[zP,List.set];refine tk 16 ⟨some 50,.nilCheck (.tmp 49),_,_,_,some (10,true)⟩ (.pointer (some ⟨lb,0,none⟩)) rfl (λw h=>by go_simp) hHeld ?_;simp only[zP,List.set];refine tk 17 ⟨some 51,.fieldAddr 132 (.tmp 50) 5,_,_,_,some (10,true)⟩ (.pointer (some ⟨lb,6,none⟩)) rfl (λw h=>by go_simp) hHeld ?_;simp only[zP,List.set]
    refine tk 18 ⟨some 52,.load 3 (.tmp 51),_,_,_,some (10,true)⟩ (.int .i64 b1) rfl (λw h=>by go_simp) hHeld ?_;simp only[zP,List.set];refine rd 19 rfl (λK hK => ?_);go_simp;refine A5.o.mono ?_;rintro e W5 ⟨rfl,hC5,hO5⟩;have H5:=Jy (H4.o.turn hC5 HWf.o hO5);have HF5:=Jy (HF4.o.trans (Fm.Kv hO5 λk h1 h2=>.inl ⟨h1,h2⟩));clear hC5 hO5;have k35:=H5.o.log.c3;have k45:=H5.o.log.c4;have k05:=H5.o.log.c0;refine hK.o _ _ ⟨k35,k45,k05⟩ (λhHeld => ?_);cases r
    ·refine Bh (i:=20) (oi:=⟨some 54,.unOp .not 4 (.tmp 53),4, "log.go:79",#[⟨19,.data⟩,⟨10,.guard⟩],some (10,true)⟩) (v:=(.bool true)) rfl (by kernel_rfl) (by kernel_rfl) (by kernel_rfl) (λ_ _ _ h=>h) (Or.inl ⟨by kernel_rfl,λw hSw=>by(try dsimp only at hSw);go_simp⟩) hHeld ?_;simp only[zP,List.set];refine tk 21 ⟨some 55,.pick (.tmp 44) (.tmp 54) (.const (.bool false)),_,_,_,none⟩ (.bool true) rfl (λw h=>by go_simp) hHeld ?_;simp only[zP,List.set];refine BT (by kernel_rfl) ?_ _;clear hHeld hK A A5;go_wp2;go_ret
     exact⟨Ir (by rw[HR.o];rfl),by rw[HR.o,<-Hnb.o,<-Hb1.o];exact H5.o,HF5.o⟩
    refine tk 20 ⟨some 54,.unOp .not 4 (.tmp 53),_,_,_,some (10,true)⟩ (.bool false) rfl (λw h=>by go_simp) hHeld ?_;simp only[zP,List.set];refine tk 21 ⟨some 55,.pick (.tmp 44) (.tmp 54) (.const (.bool false)),_,_,_,none⟩ (.bool false) rfl (λw h=>by go_simp) hHeld ?_;simp only[zP,List.set];refine BT (by kernel_rfl) ?_ _;clear hHeld hK A A5;obtain⟨V,hdel,hV,hFV⟩:=H5.o.drew.del (i:=b1) (by omega);have HV:=Jy hV;have HFV:=Jy (HF5.o.drew.trans hFV);have k3d:W5.drew.cell? ⟨lb,5,none⟩=some (.map qv):=H5.o.log.c3;have k4d:W5.drew.cell? ⟨lb,6,none⟩=some (.int .i64 b1):=H5.o.log.c4;have k3V:=HV.o.log.c3;have k4V:=HV.o.log.c4;have k5V:=HV.o.log.c5;have f5V:=HV.o.log.fz 7
    have HE:=Jy (HV.o.JF 0);have HFE:=Jy (HFV.o.set (g:=lb) (λ_=>.inr (.inl rfl)) 7 (.int .i64 ((0:Nat):Int)));clear hV hFV;go_wp2_with fail;refine BE (S:=λV=>V.cell? ⟨lb,5,none⟩=some (.map qv)/\V.cell? ⟨lb,6,none⟩=some (.int .i64 b1)) (by kernel_rfl) ⟨k3d,k4d⟩ (λhHeld => ?_);refine tk 0 ⟨some 56,.move (.tmp 0),_,_,_,none⟩ (.pointer (some ⟨lb,0,none⟩)) rfl (λw h=>by go_simp) hHeld ?_;simp only[zP,List.set];refine tk 1 ⟨some 57,.nilCheck (.tmp 56),_,_,_,none⟩ (.pointer (some ⟨lb,0,none⟩)) rfl (λw h=>by go_simp) hHeld ?_;simp only[zP,List.set]
    refine tk 2 ⟨some 58,.fieldAddr 132 (.tmp 57) 4,_,_,_,none⟩ (.pointer (some ⟨lb,5,none⟩)) rfl (λw h=>by go_simp) hHeld ?_;simp only[zP,List.set];refine tk 3 ⟨some 59,.load 92 (.tmp 58),_,_,_,none⟩ (.map qv) rfl (λw h=>by go_simp) hHeld ?_;simp only[zP,List.set];refine tk 4 ⟨some 60,.move (.tmp 0),_,_,_,none⟩ (.pointer (some ⟨lb,0,none⟩)) rfl (λw h=>by go_simp) hHeld ?_;simp only[zP,List.set];refine tk 5 ⟨some 61,.nilCheck (.tmp 60),_,_,_,none⟩ (.pointer (some ⟨lb,0,none⟩)) rfl (λw h=>by go_simp) hHeld ?_;simp only[zP,List.set]
    refine tk 6 ⟨some 62,.fieldAddr 132 (.tmp 61) 5,_,_,_,none⟩ (.pointer (some ⟨lb,6,none⟩)) rfl (λw h=>by go_simp) hHeld ?_;simp only[zP,List.set];refine tk 7 ⟨some 63,.load 3 (.tmp 62),_,_,_,none⟩ (.int .i64 b1) rfl (λw h=>by go_simp) hHeld ?_;simp only[zP,List.set];refine rd 8 rfl (λK hK => ?_);go_simp;refine hK.o _ _ ⟨k3V,k4V⟩ (λhHeld => ?_);refine BT (by kernel_rfl) ?_ _;clear hHeld hK hdel;go_wp2;go_ret
    exact⟨Ir (by rw[HR.o];rfl),by rw[HR.o,<-Hnb.o,<-Hb1.o];exact HE.o,HFE.o⟩
   refine tk 9 ⟨some 43,.unOp .not 4 (.tmp 42),_,_,_,none⟩ (.bool false) rfl (λw h=>by go_simp) hHeld ?_;simp only[zP,List.set];refine tk 10 ⟨some 44,.move (.tmp 43),_,_,_,none⟩ (.bool false) rfl (λw h=>by go_simp) hHeld ?_;simp only[zP,List.set];refine Bh (i:=11) (oi:=⟨some 45,.move (.tmp 0),_,_,_,some (10,true)⟩) (v:=undef) rfl (by kernel_rfl) (by kernel_rfl) (by kernel_rfl) (λ_ _ _ h=>h) (Or.inr ⟨by kernel_rfl,rfl⟩) hHeld ?_;simp only[zP,List.set]
   refine Bh (i:=12) (oi:=⟨some 46,.nilCheck (.tmp 45),0, "log.go:79",#[⟨11,.data⟩,⟨10,.guard⟩],some (10,true)⟩) (v:=undef) rfl (by kernel_rfl) (by kernel_rfl) (by kernel_rfl) (λ_ _ _ h=>h) (Or.inr ⟨by kernel_rfl,rfl⟩) hHeld ?_;simp only[zP,List.set];refine Bh (i:=13) (oi:=⟨some 47,.fieldAddr 132 (.tmp 46) 0,0, "log.go:79",#[⟨12,.data⟩,⟨10,.guard⟩],some (10,true)⟩) (v:=undef) rfl (by kernel_rfl) (by kernel_rfl) (by kernel_rfl) (λ_ _ _ h=>h) (Or.inr ⟨by kernel_rfl,rfl⟩) hHeld ?_;simp only[zP,List.set];refine Bh (i:=14) (oi:=⟨some 48,.load 28 (.tmp 47),28, "log.go:79",#[⟨13,.data⟩,⟨10,.guard⟩],some (10,true)⟩) (v:=undef) rfl (by kernel_rfl) (by kernel_rfl) (by kernel_rfl) (λ_ _ _ h=>h) (Or.inr ⟨by kernel_rfl,rfl⟩) hHeld ?_;simp only[zP,List.set]
   refine Bh (i:=15) (oi:=⟨some 49,.move (.tmp 0),75, "log.go:79",#[⟨10,.guard⟩],some (10,true)⟩) (v:=undef) rfl (by kernel_rfl) (by kernel_rfl) (by kernel_rfl) (λ_ _ _ h=>h) (Or.inr ⟨by kernel_rfl,rfl⟩) hHeld ?_;simp only[zP,List.set];refine Bh (i:=16) (oi:=⟨some 50,.nilCheck (.tmp 49),0, "log.go:79",#[⟨15,.data⟩,⟨10,.guard⟩],some (10,true)⟩) (v:=undef) rfl (by kernel_rfl) (by kernel_rfl) (by kernel_rfl) (λ_ _ _ h=>h) (Or.inr ⟨by kernel_rfl,rfl⟩) hHeld ?_;simp only[zP,List.set];refine Bh (i:=17) (oi:=⟨some 51,.fieldAddr 132 (.tmp 50) 5,0, "log.go:79",#[⟨16,.data⟩,⟨10,.guard⟩],some (10,true)⟩) (v:=undef) rfl (by kernel_rfl) (by kernel_rfl) (by kernel_rfl) (λ_ _ _ h=>h) (Or.inr ⟨by kernel_rfl,rfl⟩) hHeld ?_;simp only[zP,List.set]
   refine Bh (i:=18) (oi:=⟨some 52,.load 3 (.tmp 51),3, "log.go:79",#[⟨17,.data⟩,⟨10,.guard⟩],some (10,true)⟩) (v:=undef) rfl (by kernel_rfl) (by kernel_rfl) (by kernel_rfl) (λ_ _ _ h=>h) (Or.inr ⟨by kernel_rfl,rfl⟩) hHeld ?_;simp only[zP,List.set];refine Bh (i:=19) (oi:=⟨some 53,.call { callee:=Callee.value (Operand.func 125),args:=#[.tmp 48,.tmp 52],argTypes:=#[28,3] },4, "log.go:79",#[⟨14,.data⟩,⟨18,.data⟩,⟨10,.chain⟩,⟨10,.guard⟩],some (10,true)⟩) (v:=undef) rfl (by kernel_rfl) (by kernel_rfl) (by kernel_rfl) (λ_ _ _ h=>h) (Or.inr ⟨by kernel_rfl,rfl⟩) hHeld ?_;simp only[zP,List.set];refine Bh (i:=20) (oi:=⟨some 54,.unOp .not 4 (.tmp 53),4, "log.go:79",#[⟨19,.data⟩,⟨10,.guard⟩],some (10,true)⟩) (v:=undef) rfl (by kernel_rfl) (by kernel_rfl) (by kernel_rfl) (λ_ _ _ h=>h) (Or.inr ⟨by kernel_rfl,rfl⟩) hHeld ?_;simp only[zP,List.set]
   refine tk 21 ⟨some 55,.pick (.tmp 44) (.tmp 54) (.const (.bool false)),_,_,_,none⟩ (.bool false) rfl (λw h=>by go_simp) hHeld ?_;simp only[zP,List.set];refine BT (by kernel_rfl) ?_ _;clear hHeld hK A;obtain⟨V,hdel,hV,hFV⟩:=H4.o.drew.del (i:=b1) (by omega);have HV:=Jy hV;have HFV:=Jy (HF4.o.drew.trans hFV);have k3d:W4.drew.cell? ⟨lb,5,none⟩=some (.map qv):=H4.o.log.c3;have k4d:W4.drew.cell? ⟨lb,6,none⟩=some (.int .i64 b1):=H4.o.log.c4;have k3V:=HV.o.log.c3;have k4V:=HV.o.log.c4;have k5V:=HV.o.log.c5;have f5V:=HV.o.log.fz 7;have HE:=Jy (HV.o.JF 0);have HFE:=Jy (HFV.o.set (g:=lb) (λ_=>.inr (.inl rfl)) 7 (.int .i64 ((0:Nat):Int)));clear hV hFV;go_wp2_with fail
   refine BE (S:=λV=>V.cell? ⟨lb,5,none⟩=some (.map qv)/\V.cell? ⟨lb,6,none⟩=some (.int .i64 b1)) (by kernel_rfl) ⟨k3d,k4d⟩ (λhHeld => ?_);refine tk 0 ⟨some 56,.move (.tmp 0),_,_,_,none⟩ (.pointer (some ⟨lb,0,none⟩)) rfl (λw h=>by go_simp) hHeld ?_;simp only[zP,List.set];refine tk 1 ⟨some 57,.nilCheck (.tmp 56),_,_,_,none⟩ (.pointer (some ⟨lb,0,none⟩)) rfl (λw h=>by go_simp) hHeld ?_;simp only[zP,List.set];refine tk 2 ⟨some 58,.fieldAddr 132 (.tmp 57) 4,_,_,_,none⟩ (.pointer (some ⟨lb,5,none⟩)) rfl (λw h=>by go_simp) hHeld ?_;simp only[zP,List.set]
   refine tk 3 ⟨some 59,.load 92 (.tmp 58),_,_,_,none⟩ (.map qv) rfl (λw h=>by go_simp) hHeld ?_;simp only[zP,List.set];refine tk 4 ⟨some 60,.move (.tmp 0),_,_,_,none⟩ (.pointer (some ⟨lb,0,none⟩)) rfl (λw h=>by go_simp) hHeld ?_;simp only[zP,List.set];refine tk 5 ⟨some 61,.nilCheck (.tmp 60),_,_,_,none⟩ (.pointer (some ⟨lb,0,none⟩)) rfl (λw h=>by go_simp) hHeld ?_;simp only[zP,List.set];refine tk 6 ⟨some 62,.fieldAddr 132 (.tmp 61) 5,_,_,_,none⟩ (.pointer (some ⟨lb,6,none⟩)) rfl (λw h=>by go_simp) hHeld ?_;simp only[zP,List.set]
   refine tk 7 ⟨some 63,.load 3 (.tmp 62),_,_,_,none⟩ (.int .i64 b1) rfl (λw h=>by go_simp) hHeld ?_;simp only[zP,List.set];refine rd 8 rfl (λK hK => ?_);go_simp;refine hK.o _ _ ⟨k3V,k4V⟩ (λhHeld => ?_);refine BT (by kernel_rfl) ?_ _;clear hHeld hK hdel;go_wp2;go_ret
   exact⟨Ir (by rw[HR.o]),by rw[HR.o,<-Hnb.o,<-Hb1.o];exact HE.o,HFE.o⟩
  have HR:Hid (Di m K Q b=(false,m,Q,np)):=Jy (by unfold Di;rw[<-Hnb.o,<-Hb1.o,<-Hy.o,AE rfl,Hnp.o]);go_wp2;go_ret
  exact⟨Ir (by rw[HR.o]),by rw[HR.o,<-Hnb.o,<-Hb1.o];exact H3.o,HF3.o⟩
def Df(b:Nat):List D8->M->Nat->(Nat->Bool)->List D8 × M × Nat × (Nat->Bool)
 | [],m,p,S=>([],m,p,S)
 | x :: xs,m,p,S =>
   if p<m.np then
    if(Dy m (b:Nat) (p:Nat) x).1 then Df b xs (Dy m (b:Nat) (p:Nat) x).2 (p+1) (λj=>j==b||S j)
    else(x :: xs,(Dy m (b:Nat) (p:Nat) x).2,m.np,S)
   else(x :: xs,m,p,S)
def Ff(w:D7)(g o:Nat)(l:List D8):Prop:=∀k x,l[k]? = some x->w.cell? ⟨g,o+k,none⟩=some (.string (D9 x))
theorem Ff.tail{w:D7}{g o:Nat}{x:D8}{l:List D8}(h:Ff w g o (x :: l)):Ff w g (o+1) l:=λk y hy=>by
 have:=h (k+1) y (by simpa using hy)
 rwa[show o+(k+1)=o+1+k by omega]at this
theorem Ff.of_block{w w':D7}{g o:Nat}{l:List D8}(h:Ff w g o l)(e:w'.heap[g]? = w.heap[g]?):Ff w' g o l:=λk x hx=>by
 rw[AJ e];exact h k x hx
end S1
end Go.Proofs.YtodmdkhdbfbfgaaGreatDoor
