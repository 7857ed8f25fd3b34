/- Lemmas. -/
import Derived.Test.YtodmdkhdbfbfgaaGreatDoorM23
set_option linter.unusedVariables false
set_option linter.unusedSimpArgs false
set_option maxRecDepth 100000
set_option maxHeartbeats 8000000
open Go.Proofs.Tryz
namespace Go.Proofs.YtodmdkhdbfbfgaaGreatDoor
section
open Go.RowKit Go.Nt
variable {w w':D7} {sb:Nat} {a:Option Addr} {l:List It}
theorem Ut(w:D7)(lo hi cb:Nat)(L:S1.Loc)(m:S1.M)(hw:S1.WF m)(h:S1.CP w lo hi cb L m) :
 Calls prog 55 #[.pointer (some ⟨cb,0,none⟩)] w λe w'=>e=.returned (.int .i64 (S1.Dt m:Nat))/\w'=w:=by
 have HB:=Jy (S1.Em w lo hi cb L m h);have HD:=Jy (λi (hi':i<m.nb)=>by have:=S1.H9 w lo hi cb L m (i:Nat) h;rw[S1.Im m hi']at this;exact this);have h1:=hw.Iu;obtain⟨nb,a1⟩:=Jq m.nb;rw[<-a1]at HB HD h1;have a3:=Jy a1;clear h hw a1;go_enter func55,ntmps55
 go_wp2_with fail
 go_loopw [3,4] (λg i wr=>wr=w/\∃k c:Nat,k<=nb/\i=.int .i64 k/\g=.int .i64 c/\c<=k/\Hid (c=(List.range k).countP λi=>m.bd i)) (λ_ i _=>nb - (intOf i).toNat)
 case atStart=>exact⟨rfl,0,0,AU _,rfl,rfl,AB _,Jy rfl⟩
 case round =>
  obtain⟨rfl,k,c,hk,rfl,rfl,hc,Hc⟩:=hrel;by_cases a6:k<nb
  ·have a2:(k:Int)<(nb:Nat):=by omega
   have A:=Jy (HD.o k a6);have Hn:Hid ((List.range (k+1)).countP (λi=>m.bd i)=c+if m.bd k then 1 else 0):=Jy (by
    rw[B0,List.countP_append,<-Hc.o];cases GW:m.bd k<;>simp[GW])
   obtain⟨b,hb⟩:=Jq (m.bd k);rw[<-hb]at A Hn;clear hb;go_wp2_with fail;refine Jj HB.o ?_;go_wp2_with fail;refine Jj A.o ?_;cases b with
   | true =>
     go_wp2_with fail;go_roundw
     case rel=>exact⟨trivial,k+1,c+1,by omega,by go_num,by go_num,by omega,Jy (by rw[Hn.o];simp)⟩
     case measure=>simp[intOf];omega
   | false =>
     go_wp2_with fail;go_roundw
     case rel=>exact⟨trivial,k+1,c,by omega,by go_num,rfl,by omega,Jy (by rw[Hn.o];simp)⟩
     case measure=>simp[intOf];omega
  have a5:k=nb:=by omega
  have a2:¬(k:Int)<(nb:Nat):=by omega
  go_wp2_with fail;refine Jj HB.o ?_;go_wp2_with fail;go_ret
  have a4:S1.Dt m=c:=by have h9:=Hc.o;unfold S1.Dt;rw[<-a3.o,<-a5];exact h9.symm
  exact⟨by rw[a4];rfl,rfl⟩
def Gu(l:List It)(Eg pages:Nat):Bool:=decide (4<=Eg)&&decide (FE l<=Eg*pages*4)
theorem fw(a:Option Addr)(c:Nat)(l:List It)(g p:Nat)(w:D7)(ha:Dz w a l)(hn:l.length<=1000)(hp:∀x∈l,x.path.length<=1048576)(hd:∀x∈l,x.data.length<=1048576)(hg:g<=32)(hpp:p<=16) :
 Calls prog 210 #[.slice a l.length c,.int .i64 g,.int .i64 p] w λe w'=>e=.returned (.bool (Gu l g p))/\∃q,w'=w.drewN q:=by
 obtain⟨N,hN⟩:=Jq l.length;rw[<-hN]at hn ⊢;have HN:=Jy hN;have Ha:=Jy ha;have Hp:=Jy hp;have Hd:=Jy hd;clear hN ha hp hd;go_enter func210,ntmps210
 go_wp2
 go_loopw [7,8] (λs i wr=>∃k m:Nat,k<=N/\i=.int .i64 k/\s=.int .i64 m/\m<=k*4000000/\(∃q,wr=w.drewN q)/\Hid (m=FE (l.take k))) (λ_ i _=>N - (intOf i).toNat)
 case atStart=>exact⟨0,0,AU _,rfl,rfl,by omega,⟨0,rfl⟩,Jy (by simp[FE])⟩
 case round =>
  obtain⟨k,m,hk,rfl,rfl,hm,⟨q,rfl⟩,Hm⟩:=hrel;by_cases ag:k<N
  ·have a2:k<l.length:=by have:=HN.o;omega
   obtain⟨b1,o1,rfl,h1⟩:=Ha.o (λh=>by rw[h]at a2;simp at a2);obtain⟨x,hx⟩:∃x,l[k]? = some x:=⟨_,AD a2⟩;obtain⟨x0,x1,x2,x3,x4⟩:=h1 k x hx;have a7:=Hp.o x (Ab hx);have a8:=Hd.o x (Ab hx);have Hw:=Jy (sO hx);obtain⟨X,hX⟩:=Jq (D9 x.path);obtain⟨D,hD⟩:=Jq (D9 x.data);have a3:X.size=x.path.length:=by rw[hX,Dd]
   have a5:D.size=x.data.length:=by rw[hD,Dd]
   rw[<-hX]at x0;rw[<-hD]at x2;have ai:X.size<=1048576:=by omega
   have aj:D.size<=1048576:=by omega
   have a9:=Jy a3;have a6:=Jy a5;clear h1 hx a2 x1 x3 x4 hX hD a3 a5 a7 a8;go_wp2
   go_quiet (fail)
   go_wp2;go_roundw
   case rel=>exact⟨k+1,m+16+X.size+D.size,by omega,by go_num,by go_num,by omega,⟨_,rfl⟩,Jy (by rw[Hw.o,<-Hm.o,a9.o,a6.o];omega)⟩
   case measure=>simp[intOf];omega
  have ah:k=N:=by omega
  have a4:Hid (m=FE l):=Jy (by have:=Hm.o;rw[AT (by have:=HN.o;omega)]at this;exact this);have ae:m<=4000000000:=by omega
  have af:g*p<=512:=by
   calc g*p<=32*16:=Cn hg hpp
    _<=512:=by omega
  obtain⟨gp,a0⟩:=Jq (g*p);have ad:(g:Int)*(p:Int)=(gp:Nat):=by rw[a0];push_cast;rfl
  have w1:=zW (x:=(gp:Int));have w2:=zW (x:=((gp:Int)*4));have a1:Hid (Gu l g p=(decide (4<=g)&&decide (m<=gp*4))):=Jy (by unfold Gu;rw[a4.o,a0]);clear Hm a4 a0;by_cases h4:4<=g
  ·have aa:(4:Int)<=(g:Nat):=by omega
   by_cases h5:m<=gp*4
   ·have ac:(m:Int)<=(gp:Nat)*4:=by omega
    go_wp2;go_ret
    exact⟨by rw[a1.o];simp[h4,h5],_,rfl⟩
   have ac:¬(m:Int)<=(gp:Nat)*4:=by omega
   go_wp2;go_ret
   exact⟨by rw[a1.o];simp[h4,h5],_,rfl⟩
  have aa:¬(4:Int)<=(g:Nat):=by omega
  go_wp2;go_ret
  exact⟨by rw[a1.o];simp[h4],_,rfl⟩
abbrev Sl:=Option Addr × Nat × Nat
def sl(x:Sl):Value:=.slice x.1 x.2.1 x.2.2
structure Sv where
 c:Nat
 f:Option Nat
 now:Sl
 may:Sl
 FF:Bool
 Fi:Bool
 free:Bool
 En:Nat
 lists:Sl
 texts:Sl
def Sv.arr(s:Sv):Array Value:=#[.pointer (some ⟨s.c,0,none⟩),.pointer (s.f.map λb=>⟨b,0,none⟩),.slice s.now.1 s.now.2.1 s.now.2.2,.slice s.may.1 s.may.2.1 s.may.2.2,.bool s.FF,.bool s.Fi,.bool s.free,.int .i64 s.En,.slice s.lists.1 s.lists.2.1 s.lists.2.2,.slice s.texts.1 s.texts.2.1 s.texts.2.2]
def Dh(w:D7)(sb:Nat)(s:Sv):Prop:=w.heap[sb]? = some (.cells s.arr 106 (0,0))
theorem Dh.of_block{s:Sv}(h:Dh w sb s)(e:w'.heap[sb]? = w.heap[sb]?):Dh w' sb s:=e.trans h
theorem Dh.cell{s:Sv}(h:Dh w sb s)(k:Nat):w.cell? ⟨sb,k,none⟩=s.arr[k]? := AG w sb k _ 106 (0,0) h
theorem Dh.frozen{s:Sv}(h:Dh w sb s)(k:Nat):w.frozen? ⟨sb,k,none⟩=false:=by
 unfold Dh at h;simp[World.frozen?,h]
theorem Dh.VF{s:Sv}(h:Dh w sb s)(x:Nat):Dh (w.setCell ⟨sb,0,none⟩ (.pointer (some ⟨x,0,none⟩))) sb { s with c:=x }:=AK w sb 0 _ 106 _ h
theorem Dh.Lu{s:Sv}(h:Dh w sb s)(x:Option Nat):Dh (w.setCell ⟨sb,1,none⟩ (.pointer (x.map λb=>⟨b,0,none⟩))) sb { s with f:=x }:=AK w sb 1 _ 106 _ h
theorem Dh.P3{s:Sv}(h:Dh w sb s)(x:Sl):Dh (w.setCell ⟨sb,2,none⟩ (.slice x.1 x.2.1 x.2.2)) sb { s with now:=x }:=AK w sb 2 _ 106 _ h
theorem Dh.Nj{s:Sv}(h:Dh w sb s)(x:Sl):Dh (w.setCell ⟨sb,3,none⟩ (.slice x.1 x.2.1 x.2.2)) sb { s with may:=x }:=AK w sb 3 _ 106 _ h
theorem Dh.Je{s:Sv}(h:Dh w sb s)(x:Bool):Dh (w.setCell ⟨sb,4,none⟩ (.bool x)) sb { s with FF:=x }:=AK w sb 4 _ 106 _ h
theorem Dh.Pj{s:Sv}(h:Dh w sb s)(x:Bool):Dh (w.setCell ⟨sb,5,none⟩ (.bool x)) sb { s with Fi:=x }:=AK w sb 5 _ 106 _ h
theorem Dh.Km{s:Sv}(h:Dh w sb s)(x:Bool):Dh (w.setCell ⟨sb,6,none⟩ (.bool x)) sb { s with free:=x }:=AK w sb 6 _ 106 _ h
theorem Dh.NS{s:Sv}(h:Dh w sb s)(x:Sl):Dh (w.setCell ⟨sb,8,none⟩ (.slice x.1 x.2.1 x.2.2)) sb { s with lists:=x }:=AK w sb 8 _ 106 _ h
theorem Dh.ND{s:Sv}(h:Dh w sb s)(x:Sl):Dh (w.setCell ⟨sb,9,none⟩ (.slice x.1 x.2.1 x.2.2)) sb { s with texts:=x }:=AK w sb 9 _ 106 _ h
theorem Kz(w:D7)(sb k:Nat)(v:Value):S1.Dr sb (sb+1) w (w.setCell ⟨sb,k,none⟩ v):=(S1.Dr.refl _ _ _).set ⟨AB _,by omega⟩ k v
def Ka(s:Sv)(m:S1.M):Bool:=s.free||decide (s.En<S1.Dt m)
theorem fC(w:D7)(sb:Nat)(s:Sv)(lo hi:Nat)(L:S1.Loc)(m:S1.M)(hs:Dh w sb s)(hw:S1.WF m)(hC:S1.CP w lo hi s.c L m) :
 Calls prog 103 #[.pointer (some ⟨sb,0,none⟩)] w λe w'=>e=.returned (.bool (Ka s m))/\Dh w' sb { s with free:=Ka s m }/\S1.Dr sb (sb+1) w w':=by
 obtain⟨cb,f,now,may,FF,Fi,free,En,lists,texts⟩:=s;have c0:w.drew.cell? ⟨sb,0,none⟩=some (.pointer (some ⟨cb,0,none⟩)):=hs.cell 0;have c7:w.drew.cell? ⟨sb,7,none⟩=some (.int .i64 En):=hs.cell 7;have c6:w.drew.cell? ⟨sb,6,none⟩=some (.bool free):=hs.cell 6;have z6:w.drew.frozen? ⟨sb,6,none⟩=false:=hs.frozen 6;have B:=Jy (Ut w.drew lo hi cb L m hw (S1.Db.below hC (AB _) (AM _ _).drew));have Hs:Hid (Dh w.drew sb ⟨cb,f,now,may,FF,Fi,free,En,lists,texts⟩):=Jy hs;obtain⟨bn,a1⟩:=Jq (S1.Dt m);rw[<-a1]at B;have a4:Ka ⟨cb,f,now,may,FF,Fi,free,En,lists,texts⟩ m=(free||decide (En<bn)):=by unfold Ka;rw[a1]
 rw[a4];clear hC hw a1 a4 hs;go_enter func103,ntmps103
 by_cases a0:En<bn
 ·have a3:(En:Int)<(bn:Nat):=by omega
  go_wp2_with fail;go_region_held3 (λV=>V.cell? ⟨sb,0,none⟩=some (.pointer (some ⟨cb,0,none⟩))/\V.cell? ⟨sb,7,none⟩=some (.int .i64 En)) (go_keep) (first
   | (go_at_call 55;refine Jj B.o ?_))
  rename_i hHeld;clear hHeld;obtain⟨W,hW⟩:=Jq w.drew;rw[<-hW]at Hs z6 c6 ⊢;have k6:(W.setCell ⟨sb,6,none⟩ (.bool true)).cell? ⟨sb,6,none⟩=some (.bool true):=(Hs.o.Km true).cell 6;have HO:Hid (S1.Dr sb (sb+1) w W):=Jy (by rw[hW];exact(S1.Dr.refl _ _ _).drew);clear hW c0 c7 B;go_wp2_with fail;go_ret
  refine⟨by simp[a0],?_,HO.o.trans (Kz _ _ _ _)⟩
  have:=Hs.o.Km true
  simpa[a0]using this
 have a3:¬(En:Int)<(bn:Nat):=by omega
 go_wp2_with fail;go_region_held3 (λV=>V.cell? ⟨sb,0,none⟩=some (.pointer (some ⟨cb,0,none⟩))/\V.cell? ⟨sb,7,none⟩=some (.int .i64 En)) (go_keep) (first
  | (go_at_call 55;refine Jj B.o ?_))
 rename_i hHeld;clear hHeld;go_wp2_with fail;go_ret
 refine⟨by simp[a0],?_,(S1.Dr.refl _ _ _).drew⟩;simpa[a0]using Hs.o
theorem Dz.only(h:Dz w a l)(hb:∀b off,a=some ⟨b,off,none⟩->l≠[]->w'.heap[b]? = w.heap[b]?):Dz w' a l:=λhn=>by
 obtain⟨b,off,e,h1⟩:=h hn;refine⟨b,off,e,λk x hx => ?_⟩;have hbb:=hb b off e hn;obtain⟨x0,x1,x2,x3,x4⟩:=h1 k x hx;exact⟨by rw[AJ hbb];exact x0,by rw[AJ hbb];exact x1,by rw[AJ hbb];exact x2,by rw[AJ hbb];exact x3,by rw[AJ hbb];exact x4⟩
theorem Dh.apart{s:Sv}(hs:Dh w sb s)(ha:Dz w a l)(hn:l≠[]){b off:Nat}(e:a=some ⟨b,off,none⟩):b≠sb:=by
 intro hb;subst hb;obtain⟨b',a0,e',h1⟩:=ha hn;rw[e]at e';cases e'
 cases l with
 | nil=>exact hn rfl
 | cons x l =>
   obtain⟨x0,_⟩:=h1 0 x rfl;have h2:w.cell? ⟨b,off,none⟩=some (.string (D9 x.path)):=by simpa using x0
   rw[hs.cell off]at h2;unfold Sv.arr at h2
   match off,h2 with
   | 0,h2=>simp at h2
   | 1,h2=>simp at h2
   | 2,h2=>simp at h2
   | 3,h2=>simp at h2
   | 4,h2=>simp at h2
   | 5,h2=>simp at h2
   | 6,h2=>simp at h2
   | 7,h2=>simp at h2
   | 8,h2=>simp at h2
   | 9,h2=>simp at h2
   | _+10,h2=>simp at h2
theorem Dz.side{s:Sv}(ha:Dz w a l)(hs:Dh w sb s)(ho:S1.Dr sb (sb+1) w w'):Dz w' a l:=
 ha.only λb off e hn=>by
  have h1:=hs.apart ha hn e;refine ho.block b ?_ (by omega);obtain⟨b',off',e',h2⟩:=ha hn;rw[e]at e';cases e'
  cases l with
  | nil=>exact absurd rfl hn
  | cons x l=>exact Aj w _ (h2 0 x rfl).1
theorem S1.Db.side{lo hi cb:Nat}{L:S1.Loc}{m:S1.M}(h:S1.CP w lo hi cb L m)(hsz:hi<=w.heap.size)(hsb:¬(lo<=sb/\sb<hi))(ho:S1.Dr sb (sb+1) w w'):S1.CP w' lo hi cb L m:=
 S1.Db.Dn h λk h1 h2=>ho.block k (by omega) (by omega)
theorem oh(w:D7)(sb:Nat)(s:Sv)(lo hi:Nat)(L:S1.Loc)(m:S1.M)(a:Option Addr)(c:Nat)(l:List It)(hs:Dh w sb s)(hw:S1.WF m)(hC:S1.CP w lo hi s.c L m)(hsz:hi<=w.heap.size)(hsb:¬(lo<=sb/\sb<hi))(ha:Dz w a l)(hn:l.length<=1000)(hp:∀x∈l,x.path.length<=1048576)(hd:∀x∈l,x.data.length<=1048576) :
 Calls prog 156 #[.pointer (some ⟨sb,0,none⟩),.slice a l.length c] w λe w'=>e=.returned (.bool (Gu l (S1.Eg m) m.np && !Ka s m))/\Dh w' sb { s with free:=Ka s m }/\S1.Dr sb (sb+1) w w':=by
 have a0:=S1.Db.below hC (AB _) (AM _ _).drew;have HB:=Jy (S1.Em w.drew lo hi s.c L m a0);have HD:=Jy (Ut w.drew lo hi s.c L m hw a0);have HF:=Jy (fC w.drew sb s lo hi L m hs hw a0);have c0:w.drew.cell? ⟨sb,0,none⟩=some (.pointer (some ⟨s.c,0,none⟩)):=hs.cell 0;have ah:=S1.Fc m;have ay:=hw.Iu;obtain⟨bn,a2⟩:=Jq (S1.Dt m);obtain⟨nb,a4⟩:=Jq m.nb;obtain⟨g,hg⟩:=Jq (S1.Eg m);have ac:g=nb - bn:=by rw[hg,a2,a4];rfl
 have az:(nb:Int) - (bn:Int)=(g:Nat):=by rw[ac];rw[<-a2,<-a4]at ah;omega
 have wg:=zW (x:=(g:Int));have a7:g<=32:=by omega
 have a6:=hw.Jv;rw[<-a2]at HD;rw[<-a4]at HB;obtain⟨np,aa⟩:=Jq m.np;have av:=Jy aa;rw[<-hg,<-aa];obtain⟨fr,ad⟩:=Jq (Ka s m);rw[<-ad]at HF ⊢;have aj:Hid (Dh w.drew sb s):=Jy hs;have ar:Hid (Dz w.drew a l):=Jy (ha.side hs (S1.Dr.refl _ _ _).drew);have ao:=Jy a0;have Hw:=Jy hw;have Hp:=Jy hp;have Hd:=Jy hd;obtain⟨cb,Fg⟩:=Jq s.c;rw[<-Fg]at c0 HB HD;obtain⟨n,a8⟩:=Jq l.length;have af:=Jy Fg;have ae:=Jy a8;rw[<-a8]at hn ⊢;clear hC a0 hs ha hw hp hd a2 a4 hg ac ad Fg a8 ah aa;go_enter func156,ntmps156
 go_wp2_with fail;go_region_held3 (λV=>V.cell? ⟨sb,0,none⟩=some (.pointer (some ⟨cb,0,none⟩))) (go_keep) (first
  | (go_at_call 76;refine Jj HB.o ?_)
  | (go_at_call 55;refine Jj HD.o ?_))
 rename_i hHeld;clear hHeld;go_wp2_with fail;refine HF.o.mono ?_;rintro e w2 ⟨rfl,a5,a3⟩;have ai:=S1.Db.side ao.o (by simpa using hsz) hsb a3;have ag:=ar.o.side aj.o a3;have k0:w2.cell? ⟨sb,0,none⟩=some (.pointer (some ⟨cb,0,none⟩)):=by rw[af.o];exact a5.cell 0
 have HP:=Jy (S1.Er w2 lo hi s.c L m ai);have HR:=Jy (fw a c l g m.np w2 ag (by rw[<-ae.o];exact hn) Hp.o Hd.o a7 a6);rw[<-af.o]at HP;rw[<-ae.o]at HR;rw[<-av.o]at HP HR;have an:=Jy a5;have ax:Hid (S1.Dr sb (sb+1) w w2):=Jy (S1.Dr.trans (S1.Dr.refl _ _ _).drew a3);obtain⟨rb,a9⟩:=Jq (Gu l g np);rw[<-a9]at HR;have am:=Jy a9;clear a5 a3 ai ag HF HB HD c0 a9;go_wp2_with fail;refine Jj HP.o ?_;go_wp2_with fail;refine HR.o.mono ?_;rintro e w3 ⟨rfl,q,rfl⟩;have aw:Hid (Dh (w2.drewN q) sb { s with free:=fr }):=an;have au:Hid (S1.Dr sb (sb+1) w (w2.drewN q)):=Jy (ax.o.drewN q);clear HR HP k0;cases rb<;>cases fr
 all_goals
  go_wp2_with fail;go_ret
  exact⟨by rw[<-am.o];rfl,aw.o,au.o⟩
def Ko(s:Sv)(m:S1.M)(l:List It)(e:Int):Bool:=(decide (e=9) && !(Gu l (S1.Eg m) m.np && !Ka s m))||(decide (e=10)&&(decide (m.Da=0)||Ka s m))
theorem rX(w:D7)(sb:Nat)(s:Sv)(lo hi:Nat)(L:S1.Loc)(m:S1.M)(a:Option Addr)(c:Nat)(l:List It)(x:Int)(hx:x=0\/x=9\/x=10)(hs:Dh w sb s)(hw:S1.WF m)(hC:S1.CP w lo hi s.c L m)(hsz:hi<=w.heap.size)(hsb:¬(lo<=sb/\sb<hi))(ha:Dz w a l)(hn:l.length<=1000)(hp:∀x∈l,x.path.length<=1048576)(hd:∀x∈l,x.data.length<=1048576) :
 Calls prog 98 #[.pointer (some ⟨sb,0,none⟩),.int .i64 x,.slice a l.length c] w λe w'=>e=.returned (.bool (Ko s m l x))/\Dh w' sb { s with free:=Ka s m }/\S1.Dr sb (sb+1) w w':=by
 have HD:=Jy (S1.EW w lo hi s.c L m hC);have HF:=Jy (fC w sb s lo hi L m hs hw hC);have c0:w.cell? ⟨sb,0,none⟩=some (.pointer (some ⟨s.c,0,none⟩)):=hs.cell 0;obtain⟨dd,a7⟩:=Jq ((m.Da==0));rw[<-a7]at HD;obtain⟨fr,a3⟩:=Jq (Ka s m);rw[<-a3]at HF;have a6:=Jy a3;have Hs:=Jy hs;have Ha:=Jy ha;have HC:=Jy hC;have Hw:=Jy hw;have Hp:=Jy hp;have Hd:=Jy hd;obtain⟨cb,Fg⟩:=Jq s.c;rw[<-Fg]at c0 HD;have ai:=Jy Fg;obtain⟨n,a4⟩:=Jq l.length;have aa:=Jy a4;have a0:Hid (∀rb,rb=(Gu l (S1.Eg m) m.np && !Ka s m)->Ko s m l x=((decide (x=9) && !rb)||(decide (x=10)&&(dd||fr)))):=Jy (λrb h=>by
  unfold Ko;rw[<-h,a7,a3]
  congr 3)
 rw[<-a4]at hn ⊢;clear hC hs ha hw hp hd a7 a3 Fg a4;go_enter func98,ntmps98
 go_wp2_with fail;refine Jj HD.o ?_;go_wp2_with fail;refine HF.o.mono ?_;rintro e w2 ⟨rfl,a9,a2⟩;have HR:=Jy (oh w2 sb { s with free:=fr } lo hi L m a c l a9 Hw.o (S1.Db.side HC.o hsz hsb a2) (by have:=a2.size;omega) hsb (Ha.o.side Hs.o a2) (by rw[<-aa.o];exact hn) Hp.o Hd.o);have ac:Ka { s with free:=fr } m=fr:=by
  have:=a6.o
  unfold Ka at this ⊢;dsimp only;rw[this];cases s.free<;>simp
 rw[ac,<-aa.o]at HR;obtain⟨rb,a5⟩:=Jq ((Gu l (S1.Eg m) m.np && !fr));rw[<-a5]at HR;have a1:Hid (Ko s m l x=((decide (x=9) && !rb)||(decide (x=10)&&(dd||fr)))):=Jy (a0.o rb (by rw[a5,a6.o]));have ag:=Jy a2;clear a9 a2 ac a5 HF HD c0 a0;go_wp2_with fail;refine HR.o.mono ?_;rintro e w3 ⟨rfl,a8,ad⟩;have af:=Jy a8;have ae:=Jy (ag.o.trans ad);clear a8 ad HR;rcases hx with rfl | rfl | rfl<;>cases rb<;>cases dd<;>cases fr
 all_goals
  go_wp2_with fail;go_ret
  exact⟨by rw[a1.o];rfl,by rw[<-a6.o];exact af.o,ae.o⟩
end
namespace S1
open Go.RowKit
variable {w w' w2:D7} {v v' u vo:Value} {n B N m p:Nat} {ys L:List Value} {A:Nat->Option Addr} {O:Obj}
theorem GD(a b:Option Addr)(n c d:Nat)(f:Nat->ByteArray)(w:D7)(hn:n<=1000)(ha:Kf w a n f)(hb:Kf w b n f) :
 Calls prog 106 #[.slice a n c,.slice b n d] w λe w'=>e=.returned (.bool true)/\∃q,w'=w.drewN q:=by
 go_enter func106,ntmps106
 go_wp2
 go_loopw [5] (λi wr=>∃k:Nat,k<=n/\i=.int .i64 k/\∃q,wr=w.drewN q) (λi _=>n - (intOf i).toNat)
 case atStart=>exact⟨0,AU _,rfl,0,rfl⟩
 case round =>
  obtain⟨k,hk,rfl,q,rfl⟩:=hrel;by_cases a0:k<n
  ·obtain⟨b1,o1,e1,h1⟩:=ha (by omega);obtain⟨b2,o2,e2,h2⟩:=hb (by omega);subst e1;subst e2;have a2:=h1 k a0;have a1:=h2 k a0;clear h1 h2 ha hb
   generalize f k=s at *
   go_wp2
   go_quiet (fail)
   go_wp2;go_roundw
   case rel=>exact⟨k+1,by omega,by go_num,_,rfl⟩
   case measure=>simp[intOf];omega
  go_wp2;go_ret
  exact⟨rfl,q,rfl⟩
theorem Rk{base:Nat}{mk:Value}(h:w.ownsRow base 9 1 v n (List.replicate n mk)):∃a c,v=.slice a n c/\Dj w base mk a n:=by
 rcases h.2 with⟨rfl,rfl⟩ | ⟨g,cap,cur,rfl,hb,hh,h1,h2,h3,h4⟩
 ·exact⟨none,0,rfl,λh=>absurd h (by omega)⟩
 refine⟨_,cap,rfl,λ_=>⟨g,cur,rfl,hb,hh,λj hj => ?_⟩⟩
 have:=AV (λl:List Value=>l[j]?) h4
 simpa[hj]using this
theorem VC{mk:Value}{a:Option Addr}(h:Dj w B mk a n)(hg:w.grownBy w' v.ownBlock)(hN:n<=N)
 (hown:w'.ownsRow B 9 1 v' N (List.replicate N mk)) (hk:∀g,v.ownBlock=some g->w'.heap[g]? = w.heap[g]? \/ v'.ownBlock=some g):Dj w' B mk a n:=by
 intro hn;obtain⟨g,a1,rfl,hB,hh,hc⟩:=h hn;by_cases e:v.ownBlock=some g
 ·rcases hk g e with h1 | h1
  ·exact⟨g,a1,rfl,hB,h1.trans hh,hc⟩
  obtain⟨a0,a2,rfl,_,h2,h3⟩:=Mj hown h1;refine⟨g,a0,rfl,hB,h2,λj hj => ?_⟩
  have:=AV (λl:List Value=>l[j]?) h3
  have a3:j<N:=by omega
  simpa[a3]using this
 exact⟨g,a1,rfl,hB,(hg.block g (lt_of_heap hh) (λe'=>e e'.symm)).trans hh,hc⟩
theorem Rc{base:Nat}{e:TypeId}{xs:List Value}{e':TypeId}(h:w.ownsRow base e 1 v n xs)(hu:w.ownsRow base e' 1 u m ys)(hne:e≠e')(hg:w.grownBy w' u.ownBlock) :
 w'.ownsRow base e 1 v n xs:=by
 refine h.kept hg ?_;cases hv:v.ownBlock with
 | none=>exact .inl rfl
 | some g =>
   refine .inr λhe => ?_
   obtain⟨c1,_,_,_,h1,_⟩:=Mj h hv;obtain⟨c2,_,_,_,h2,_⟩:=Mj hu he.symm;rw[h1]at h2;simp at h2;exact hne h2.2
theorem VO{base:Nat}(hu:w.ownsRow base 40 1 u m ys):∀g cur,u.ownBlock=some g->w.heap[g]? ≠ some (.cells cur 9 (0,0)):=by
 intro g cur hg hh;obtain⟨c2,_,_,_,h2,_⟩:=Mj hu hg;rw[hh]at h2;simp at h2
theorem gA{wr:D7}{ag:Option Addr}{cg:Nat}{mk:Value}
 (hvg:wr.ownsRow B 9 1 (.slice ag N cg) N (List.replicate N mk)) (hvo:wr.ownsRow B 40 1 vo p L) (hM:∀q,q<p->Dj wr B mk (A q) (n+q)) (hb:Below B w wr) (hB:B<=w.heap.size)
 (hg:(wr.alloc O).grownBy w2 vo.ownBlock) :
 w2.ownsRow B 9 1 (.slice ag N cg) N (List.replicate N mk)/\(∀q,q<p->Dj w2 B mk (A q) (n+q))/\Below B w w2:=by
 have hs:=hb.size;have a0:Below wr.heap.size wr (wr.alloc O):=(AM _ _).alloc (AB _) _;refine⟨Rc (hvg.alloc O) (hvo.alloc O) (by decide) hg,λq hq=>((hM q hq).below a0).grown hg (VO (hvo.alloc O)),?_⟩;exact(hb.alloc (by omega) O).grown hg (by simp;omega) (λk hk=>((hvo.alloc O).lt k hk).1)
theorem qC{w3:D7}{mk:Value}
 (hv:w2.ownsRow B 9 1 v N (List.replicate N mk)) (hv':w3.ownsRow B 9 1 v' (N+1) (List.replicate (N+1) mk)) (hvo:w2.ownsRow B 40 1 vo p L) (hM:∀q,q<p->Dj w2 B mk (A q) (n+q)) (hN:n+p<=N+1) (hb:Below B w w2) (hB:B<=w.heap.size)
 (hg:(w2.alloc O).grownBy w3 v.ownBlock) (hk:∀g,v.ownBlock=some g->w3.heap[g]? = (w2.alloc O).heap[g]? \/ v'.ownBlock=some g) :
 w3.ownsRow B 40 1 vo p L/\(∀q,q<p->Dj w3 B mk (A q) (n+q))/\Below B w w3:=by
 have hs:=hb.size;have a0:Below w2.heap.size w2 (w2.alloc O):=(AM _ _).alloc (AB _) _;refine⟨Rc (hvo.alloc O) (hv.alloc O) (by decide) hg,λq hq => ?_,?_⟩
 ·exact VC ((hM q hq).below a0) hg (by omega) hv' hk
 exact(hb.alloc (by omega) O).grown hg (by simp;omega) (λk hk=>((hv.alloc O).lt k hk).1)
theorem UR(k:Nat)(f:Nat->Value)(r:Value):(List.range k).map f++[r]=(List.range (k+1)).map (λj=>if j<k then f j else r):=by
 rw[B0,Aq]
 congr 1
 ·apply BU
  intro j hj;rw[AE (by simpa using hj)]
 simp
theorem WC(p n:Nat)(A:Nat->Option Addr)(C:Nat->Nat)(ag:Option Addr)(cg:Nat) :
 ((List.range p).map λq=>Value.slice (A q) (n+q) (C q))++[.slice ag (n+p) cg]=(List.range (p+1)).map λq=>Value.slice (if q<p then A q else ag) (n+q) (if q<p then C q else cg):=by
 rw[UR]
 apply BU
 intro q hq
 have:q<p+1:=by simpa using hq
 by_cases e:q<p
 ·rw[AE e,AE e,AE e]
 rw[AC e,AC e,AC e,show q=p by omega]
theorem OG(a:Option Addr)(n cap B:Nat)(xs:List Value)(mk:ByteArray)(w:D7)(hn:n<=1000)(hB:B<=w.heap.size)(hl:w.ownsRow B 9 1 (.slice a n cap) n xs) :
 Calls prog 159 #[.slice a n cap,.string mk] w λe w'=>∃v,e=.returned v/\Marks w' B v n (.string mk)/\Below B w w':=by
 obtain⟨i0,hi,az,aG,ax⟩:=Ai Kl;obtain⟨j0,gi,aF,aw,aA⟩:=Ai JK;go_enter func159,ntmps159
 go_wp2
 go_loopw [5] (λi wr=>∃k:Nat,k<=n/\i=.int .i64 k/\(∃ys,wr.ownsRow B 9 1 (.slice a n cap) n ys/\∀j,j<k->ys[j]? = some (.string mk))/\Below B w wr) (λi _=>n - (intOf i).toNat)
 case atStart=>exact⟨0,AU _,rfl,⟨xs,hl,λj hj=>absurd hj (by omega)⟩,AM _ _⟩
 case round =>
  clear hl;obtain⟨k,hk,rfl,⟨ys,a0,au⟩,a1⟩:=hrel;have ai:Hid (∀j,j<k->ys[j]? = some (.string mk)):=au;clear au;by_cases aM:k<n
  ·obtain⟨g,ha⟩:∃g,a=some ⟨g,0,none⟩:=by
    rcases a0.2 with⟨h,h0⟩ | ⟨g,_,_,h,_⟩
    ·omega
    simp at h;exact⟨g,h.1⟩
   subst ha;have a9:=a0.1;obtain⟨u,hu⟩:∃u,ys[k]? = some u:=⟨_,AD (by omega)⟩;have aR:wr.cell? ⟨g,k,none⟩=some u:=(a0.cellAt k (by omega)).trans hu;have aN:=a0.frozenAt k;have aD:=a0.stored k (.string mk);have aJ:=(a0.lt g rfl).1;clear hu;have Hl:Hid (ys.length=n*1):=a9;clear a9;go_wp2;go_roundw
   case rel =>
    refine⟨k+1,by omega,by go_num,⟨_,aD.1,λj hj => ?_⟩,a1.setCell aJ _⟩;rw[List.getElem?_set];by_cases e:k=j
    ·rw[AE e];subst e;rw[AE (by have:=Hl.o;omega)]
    rw[AC e];exact ai.o j (by omega)
   case measure=>simp[intOf];omega
  have ah:ys=List.replicate n (.string mk):=by
   apply Cy
   intro j;have a9:=a0.1;by_cases hj:j<n
   ·rw[ai.o j (by omega)];simp[hj]
   rw[Aw (by omega),Aw (by simp;omega)]
  subst ah;clear ai;go_wp2
  go_loopw [6,7,8] (λaC vg i wr=>∃p:Nat,p<=4/\i=.int .i64 p/\∃(vo:Value),vo=aC/\∃(ag:Option Addr) (cg:Nat) (A:Nat->Option Addr) (C:Nat->Nat),vg=.slice ag (n+p) cg/\wr.ownsRow B 9 1 vg (n+p) (List.replicate (n+p) (.string mk))/\wr.ownsRow B 40 1 vo p ((List.range p).map λq=>.slice (A q) (n+q) (C q))/\(∀q,q<p->Dj wr B (.string mk) (A q) (n+q))/\Below B w wr) (λ_ _ i _=>4 - (intOf i).toNat)
  case atStart=>exact⟨0,by omega,rfl,_,rfl,a,cap,λ_=>none,λ_=>0,rfl,a0,AZ _ _ _ _,λq hq=>absurd hq (by omega),a1⟩
  clear a0 a1;obtain⟨p,hp,rfl,vo,rfl,ag,cg,A,C,rfl,af,aa,hM,a1⟩:=hrel;have aS:=a1.size;by_cases aK:p<4
  ·have HM:Hid (∀q,q<p->Dj wr B (.string mk) (A q) (n+q)):=hM;clear hM;go_wp2_with (at_builtin;refine Z0 _ rfl (.tmp 24) (.tmp 26) 71 rfl B 40 i0 (.slice none 0 0) 1 24 underlying71 hi az aG ax rfl (by decide) _ _ _ rfl (aa.alloc _) ⟨wr.heap.size,0,none⟩ 1 1 [.slice ag (n+p) cg] rfl rfl ?c1 ?c2 ?c3 ?c4 ?c5 ?_)
   case c1=>exact Bg _ _ _
   case c2=>intro u hu;simp at hu;subst hu;rfl
   case c3=>unfold maxLen;omega
   case c4=>omega
   case c5=>simp;omega
   intro aO w2 a8 a2 a4;have S:=gA af aa HM.o a1 hB a2;obtain⟨a6,ar,a5⟩:=S;rw[WC]at a8;have a3:=Rk a6;obtain⟨aP,aL,am,a3⟩:=a3;simp at am;obtain⟨rfl,rfl⟩:=am;have ac:∀q,q<p+1->Dj w2 B (.string mk) (if q<p then A q else ag) (n+q):=λq hq=>by
    by_cases e:q<p
    ·rw[AE e];exact ar q e
    rw[AC e,show q=p by omega];exact a3
   have ao:Hid (∀q,q<p+1->Dj w2 B (.string mk) (if q<p then A q else ag) (n+q)):=ac;have aB:=a5.size;clear aa af HM a1 a2 a4 a3 ar ac;go_wp2_with (at_builtin;refine Z0 _ rfl (.tmp 28) (.tmp 30) 40 rfl B 9 j0 (.string ⟨#[]⟩) 1 16 underlying40 gi aF aw aA rfl (by decide) _ _ _ rfl (a6.alloc _) ⟨w2.heap.size,0,none⟩ 1 1 [.string mk] rfl rfl ?d1 ?d2 ?d3 ?d4 ?d5 ?_)
   case d1=>exact Bg _ _ _
   case d2=>intro u hu;simp at hu;subst hu;rfl
   case d3=>unfold maxLen;omega
   case d4=>omega
   case d5=>simp;omega
   intro aQ w3 a7 a2 a4;rw[<-List.replicate_succ']at a7;have S:=qC a6 a7 a8 ao.o (by omega) a5 hB a2 a4;obtain⟨ae,an,ad⟩:=S;obtain⟨aI,av,ay,_⟩:=Rk a7;subst ay;have aE:Hid (∀q,q<p+1->Dj w3 B (.string mk) (if q<p then A q else ag) (n+q)):=an;clear a6 a8 ao a5 a2 a4 an;go_wp2;go_roundw
   case rel=>exact⟨p+1,by omega,by go_num,_,rfl,aI,av,_,_,rfl,a7,ae,aE.o,ad⟩
   case measure=>simp[intOf];omega
  have aj:p=4:=by omega
  subst aj;have aH:Hid (Marks wr B vo n (.string mk)):=by
   rcases aa.2 with⟨_,h0⟩ | ⟨O,co,cur,rfl,hO,hh,_⟩
   ·omega
   refine⟨O,co,A,C,rfl,hO,λp hp=>⟨?_,hM p hp⟩⟩;rw[aa.cellAt p (by omega)];simp[hp]
  clear aa af hM;go_wp2;go_ret
  exact⟨vo,rfl,aH.o,a1⟩
end S1
section
open Go.RowKit Go.Nt
variable {P:Program} {a:Option Addr} {w w':D7} {e:TypeId} {v v':Value} {n k Z:Nat} {xs ys:List Value}
def NF(w w':D7)(e:TypeId)(size:Nat)(v v':Value)(n:Nat)(xs:List Value):Prop:=
 (v'.ownBlock=v.ownBlock/\w.grownBy w' v.ownBlock)\/(w'.ownsRow w.heap.size e size v' n xs/\w.grownBy w' none)
theorem iJ(w:D7)(base:Nat)(t ty e:TypeId)(i:TypeInfo)(z:Value)(size bytes:Nat)(ht:P.underlying t=some (.slice e))(hi:P.info? e=some i)(hz:i.zero=some z)
 (hsize:i.size=size) (hby:i.bytes=bytes) (hzs:z.cells.size=size) (hsz:0<size)
 (v:Value) (n:Nat) (xs:List Value) (hown:w.ownsRow base e size v n xs)
 (a:Addr) (m c:Nat) (news:List Value) (hl:news.length=m*size) (hnews:∀j u,news[j]? = some u->w.cell? (a.add j)=some u) (h1:∀u∈news,u.oneCell'=true)
 (h63:n+m<=maxLen) (hbytes:(n+m)*bytes<=140737488355328) (hbase:base<=w.heap.size) :
 ∃v' w',(Builtin.append_ #[t,t] ty #[v,.slice (some a) m c]).run P w=.ok v' w'/\w'.ownsRow base e size v' (n+m) (xs++news)/\NF w w' e size v v' (n+m) (xs++news):=by
 rcases hown.2 with⟨rfl,rfl⟩ | ⟨g,cap,cur,rfl,hbg,hg,hnc,hcm,hcs,htake⟩
 ·have hx:xs=[]:=BN.1 (by have:=hown.1;omega);subst hx;obtain⟨v',w',h2,h3,h4,_⟩:=run_append_own (P:=P) w w.heap.size t ty e i z size bytes ht hi hz hsize hby hzs hsz _ _ [] (AZ _ _ _ _) a m c news hl hnews h1 h63 hbytes (AB _);exact⟨v',w',h2,M3 h3 hbase,.inr ⟨h3,h4⟩⟩
 by_cases a0:n+m<=cap
 ·obtain⟨w',h2,h3,h4⟩:=run_append_fits (P:=P) w base t ty e i size ht hi hsize g n cap xs hown a m c news hl hnews h1 a0;exact⟨_,w',h2,h3,.inl ⟨rfl,h4⟩⟩
 obtain⟨v',w',h2,h3,h4⟩:=run_append_arg_grows (P:=P) w t ty e i z size bytes ht hi hz hsize hby hzs hsz ⟨g,0,none⟩ n cap xs hown.1 (hown.cells (g:=g) rfl) a m c news hl hnews (by omega) h63 hbytes;exact⟨v',w',h2,M3 h3 hbase,.inr ⟨h3,h4⟩⟩
theorem Sg(w:D7){ops:Array Oper}{rest:List Oper}{o:Oper}{a:Act}{Q:Exit->Act->D7->Prop}(hgd:o.guard=none)(s x:Operand)(t:TypeId)
 (ho:o.op=.call { callee:=.builtin .append,args:=#[s,x],argTypes:=#[t,t] })
 (base:Nat) (e:TypeId) (i:TypeInfo) (z:Value) (size bytes:Nat) (ht:P.underlying t=some (.slice e)) (hi:P.info? e=some i) (hz:i.zero=some z)
 (hsize:i.size=size) (hby:i.bytes=bytes) (hzs:z.cells.size=size) (hsz:0<size)
 (v:Value) (n:Nat) (xs:List Value) (hs:a.eval s=v) (hown:w.ownsRow base e size v n xs)
 (ad:Addr) (m c:Nat) (news:List Value) (hx:a.eval x=.slice (some ad) m c) (hl:news.length=m*size) (hnews:∀j u,news[j]? = some u->w.cell? (ad.add j)=some u) (h1:∀u∈news,u.oneCell'=true)
 (h63:n+m<=maxLen) (hbytes:(n+m)*bytes<=140737488355328) (hbase:base<=w.heap.size)
 (h:∀v' w',w'.ownsRow base e size v' (n+m) (xs++news)->NF w w' e size v v' (n+m) (xs++news)->wpList P ops Q rest (a.put o.dst v') w'):wpList P ops Q (o :: rest) a w:=by
 refine wpList_plain hgd λK a0 => ?_
 obtain⟨v',w',hr,h2,h3⟩:=iJ (P:=P) w base t o.type e i z size bytes ht hi hz hsize hby hzs hsz v n xs hown ad m c news hl hnews h1 h63 hbytes hbase;unfold Oper.wp execOp;simp only[ho,resolve,invoke,builtin,Sem.run_bind,Sem.run_pure,Result.andThen_ok,List.map_toArray,Bb,Ct,hs,hx,hr];exact a0 _ _ (h v' w' h2 h3)
theorem TU{size:Nat}(h:NF w w' e size v v' n xs):w.grownBy w' v.ownBlock:=by
 rcases h with h | ⟨_,h⟩
 ·exact h.2
 exact⟨h.os,h.tape,h.output,h.size,λk hk _=>h.block k hk (by simp)⟩
theorem oQ{base:Nat}{size:Nat}(hown:w.ownsRow base e size v k ys)(h:NF w w' e size v v' n xs):∀g,v.ownBlock=some g->w'.heap[g]? = w.heap[g]? \/ v'.ownBlock=some g:=λg hg=>by
 rcases h with h | ⟨_,h⟩
 ·exact .inr (h.1.trans hg)
 exact .inl (h.block g (hown.lt g hg).2 (by simp))
def KL(Z:Nat)(a:Option Addr)(v:Value):Prop:=∀r,v.ownBlock=some r->a=some ⟨r,0,none⟩\/Z<=r
def MI(Z:Nat)(a b:Option Addr)(n:Nat):Prop:=0<n->∃r,b=some ⟨r,0,none⟩/\(a=some ⟨r,0,none⟩\/Z<=r)
theorem KL.self(Z:Nat)(a:Option Addr)(n c:Nat)(h:∀x,a=some x->x.off=0/\x.spot=none):KL Z a (.slice a n c):=λr hr=>by
 cases a with
 | none=>cases hr
 | some x =>
   left
   obtain⟨b,o,sp⟩:=x
   have:=h _ rfl
   dsimp only at this;obtain⟨rfl,rfl⟩:=this;simp[Value.ownBlock]at hr;rw[hr]
theorem KL.row{ag:Option Addr}{c B:Nat}{m:Int}(h:KL Z a (.slice ag n c))(hm:Dj w B m ag n):MI Z a ag n:=λhn=>by
 obtain⟨g,cur,rfl,_⟩:=hm hn;exact⟨g,rfl,h g rfl⟩
theorem oe{size:Nat}(h:NF w w' e size v v' n xs)(hv:KL Z a v)(hZ:Z<=w.heap.size):KL Z a v':=λr hr=>by
 rcases h with h | ⟨h,_⟩
 ·exact hv r (h.1.symm.trans hr)
 exact .inr (AF hZ (h.lt r hr).1)
theorem Tg{S:Nat->Prop}{a b:D7}{row:Option Nat}(h:S1.Fm S w a)(hg:a.grownBy b row)(hr:∀r,row=some r->S r\/w.heap.size<=r):S1.Fm S w b:=
 ⟨hg.os.trans h.os,hg.tape.trans h.tape,hg.output.trans h.output,AF h.size hg.size,λk hk hn=>(hg.block k (AR hk h.size) (λe=>by
  rcases hr k e.symm with h1 | h1
  ·exact hn h1
  omega)).trans (h.block k hk hn)⟩
theorem gv{size:Nat}(h:w'.ownsRow 0 e size v n xs)(hz:w.ownsRow Z e size v k ys):w'.ownsRow Z e size v n xs:=by
 refine⟨h.1,?_⟩;rcases h.2 with h1 | ⟨g,cap,cur,rfl,_,h2⟩
 ·exact .inl h1
 exact .inr ⟨g,cap,cur,rfl,(hz.lt g rfl).1,h2⟩
def N8(w:D7)(Z:Nat)(a:Option Addr)(v:Value)(n:Nat)(m:Int):Prop:=
 ∃(O co:Nat) (A:Nat->Option Addr) (C:Nat->Nat),v=.slice (some ⟨O,0,none⟩) 4 co/\Z<=O/\(∃cur,w.heap[O]? = some (.cells cur 26 (0,0)))/\∀p,p<4->w.cell? ⟨O,p,none⟩=some (.slice (A p) (n+p) (C p))/\Dj w 0 m (A p) (n+p)/\MI Z a (A p) (n+p)
theorem lD(a:Option Addr)(cap:Nat)(l:List It)(m:Int)(w:D7)(hn:l.length<=1000)(hl:w.ownsRow 0 39 5 (.slice a l.length cap) l.length (E9 l)) :
 Calls prog 157 #[.slice a l.length cap,.int .i64 m] w λe w'=>∃v,e=.returned v/\N8 w' w.heap.size a v l.length m/\S1.Fm (λk=>a=some ⟨k,0,none⟩) w w':=by
 obtain⟨i0,hi,aP,aU,aN⟩:=Ai N0;obtain⟨j0,gi,aT,aM,aQ⟩:=Ai Iw;obtain⟨n,az⟩:=Jq l.length;rw[<-az]at hn hl ⊢;have au:=Jy az;obtain⟨Z,aJ⟩:=Jq w.heap.size;have HZ:=Jy aJ;clear az aJ;go_enter func157,ntmps157
 go_wp2
 go_loopw [5] (λi wr=>∃k:Nat,k<=n/\i=.int .i64 k/\Hid (wr.ownsRow 0 39 5 (.slice a n cap) n (E9 (FY k m++l.drop k)))/\Hid (S1.Fm (λk=>a=some ⟨k,0,none⟩) w wr)) (λi _=>n - (intOf i).toNat)
 case atStart=>exact⟨0,AU _,rfl,hl,Jy (S1.Fm.refl _ _)⟩
 case round =>
  clear hl;obtain⟨k,hk,rfl,a0,a2⟩:=hrel;by_cases aZ:k<n
  ·obtain⟨g,ha⟩:∃g,a=some ⟨g,0,none⟩:=by
    rcases a0.o.2 with⟨h,h0⟩ | ⟨g,_,_,h,_⟩
    ·omega
    simp at h;exact⟨g,h.1⟩
   subst ha;have aK:k<l.length:=by have:=au.o;omega
   have aA:(FY k m++l.drop k).length=n:=by rw[AN,Np,Bo];have:=au.o;omega
   obtain⟨y,hy⟩:∃y,(FY k m++l.drop k)[k]? = some y:=⟨_,AD (by omega)⟩;have c0:wr.cell? ⟨g,k*5,none⟩=some (.string (D9 y.path)):=(a0.o.cellAt _ (by omega)).trans (MB hy 0 (by omega));have c1:wr.cell? ⟨g,k*5+1,none⟩=some (.bool y.dir):=(a0.o.cellAt _ (by omega)).trans (MB hy 1 (by omega));have c2:wr.cell? ⟨g,k*5+2,none⟩=some (.string (D9 y.data)):=(a0.o.cellAt _ (by omega)).trans (MB hy 2 (by omega));have c3:wr.cell? ⟨g,k*5+3,none⟩=some (.int .i64 y.mode):=(a0.o.cellAt _ (by omega)).trans (MB hy 3 (by omega));have c4:wr.cell? ⟨g,k*5+4,none⟩=some (.int .i64 y.time):=(a0.o.cellAt _ (by omega)).trans (MB hy 4 (by omega));have f0:=a0.o.frozenAt (k*5);have f1:=a0.o.frozenAt (k*5+1);have f2:=a0.o.frozenAt (k*5+2);have f3:=a0.o.frozenAt (k*5+3);have f4:=a0.o.frozenAt (k*5+4)
   have aE:=Jy (((((a0.o.stored (k*5) (.string (D9 []))).1.stored (k*5+1) (.bool false)).1.stored (k*5+2) (.string (D9 []))).1.stored (k*5+3) (.int .i64 m)).1.stored (k*5+4) (.int .i64 0)).1;have ax:Hid ((((((E9 (FY k m++l.drop k)).set (k*5) (.string (D9 []))).set (k*5+1) (.bool false)).set (k*5+2) (.string (D9 []))).set (k*5+3) (.int .i64 m)).set (k*5+4) (.int .i64 0)=E9 (FY (k+1) m++l.drop (k+1))):=by
    show _=_;rw[<-qy l k m aK,<-VH _ k (Fq m) (by omega)];rfl
   clear aA hy aK;go_wp2;go_roundw
   case rel =>
    refine⟨k+1,by omega,by go_num,?_,Jy (((((a2.o.set (λ_=>rfl) _ _).set (λ_=>rfl) _ _).set (λ_=>rfl) _ _).set (λ_=>rfl) _ _).set (λ_=>rfl) _ _)⟩;rw[ax.o]at aE;exact aE
   case measure=>simp[intOf];omega
  have ah:wr.ownsRow 0 39 5 (.slice a n cap) n (E9 (FY n m)):=by
   have h:=a0.o;have e:k=l.length:=by have:=au.o;omega
   rw[e,List.drop_length,CD]at h;rw[au.o]at h ⊢;exact h
  have aj:=a2.o;clear a0 a2;go_wp2
  go_loopw [6,7,8] (λaR vg i wr=>∃p:Nat,p<=4/\i=.int .i64 p/\∃(vo:Value),vo=aR/\∃(ag:Option Addr) (cg:Nat) (A:Nat->Option Addr) (C:Nat->Nat),vg=.slice ag (n+p) cg/\Hid (wr.ownsRow 0 39 5 vg (n+p) (E9 (FY (n+p) m))/\KL w.heap.size a vg)/\Hid (wr.ownsRow Z 26 1 vo p ((List.range p).map λq=>.slice (A q) (n+q) (C q)))/\Hid (∀q,q<p->Dj wr 0 m (A q) (n+q)/\MI w.heap.size a (A q) (n+q))/\Hid (S1.Fm (λk=>a=some ⟨k,0,none⟩) w wr)) (λ_ _ i _=>4 - (intOf i).toNat)
  case atStart=>exact⟨0,by omega,rfl,_,rfl,a,cap,λ_=>none,λ_=>0,rfl,Jy ⟨ah,KL.self w.heap.size a n cap (λx hx=>by rcases ah.2 with⟨h,_⟩ | ⟨g,_,_,h,_⟩<;>simp at h<;>rw[hx]at h<;>simp at h<;>(obtain⟨rfl,_⟩:=h;exact⟨rfl,rfl⟩))⟩,Jy (AZ _ _ _ _),Jy (λq hq=>absurd hq (by omega)),aj⟩
  clear ah aj;obtain⟨p,hp,rfl,vo,rfl,ag,cg,A,C,rfl,ar,a9,HM,a2⟩:=hrel;have b4:=a2.o.size;have hZ:Z<=w.heap.size:=by rw[HZ.o];exact AB _
  by_cases aX:p<4
  ·go_wp2_with (at_builtin;refine Sg _ rfl (.tmp 25) (.tmp 27) 54 rfl Z 26 i0 (.slice none 0 0) 1 24 underlying54 hi aP aU aN rfl (by decide) _ _ _ rfl (a9.o.alloc _) ⟨wr.heap.size,0,none⟩ 1 1 [.slice ag (n+p) cg] rfl rfl ?c1 ?c2 ?c3 ?c4 ?c5 ?_)
   case c1=>exact Bg _ _ _
   case c2=>intro u hu;simp at hu;subst hu;rfl
   case c3=>unfold maxLen;omega
   case c4=>omega
   case c5=>simp;omega
   intro b0 w2 ae a4;have a1:=TU a4;have af:=Rc (ar.o.1.alloc _) ((M3 a9.o (AU _)).alloc _) (by decide) a1;have aI:∀q,q<p->Dj w2 0 m (A q) (n+q)/\MI w.heap.size a (A q) (n+q):=λq hq=>⟨((HM.o q hq).1.below ((AM _ _).alloc (AB _) _)).grown a1 (VO ((M3 a9.o (AU _)).alloc _)),(HM.o q hq).2⟩
   have a7:S1.Fm (λk=>a=some ⟨k,0,none⟩) w w2:=Tg (a2.o.alloc _) a1 (λr hr=>.inr (by rw[<-HZ.o];exact(a9.o.lt r hr).1));have aw:=ar.o.2;rw[WC]at ae;have a3:=Rk af;obtain⟨b3,aY,aF,a3⟩:=a3;simp at aF;obtain⟨rfl,rfl⟩:=aF;have aB:Hid (∀q,q<p+1->Dj w2 0 m (if q<p then A q else ag) (n+q)/\MI w.heap.size a (if q<p then A q else ag) (n+q)):=λq hq=>by
    by_cases e:q<p
    ·rw[AE e];exact aI q e
    rw[AC e,show q=p by omega];exact⟨a3,aw.row a3⟩
   have ay:=a7.size;have a6:Hid (w2.ownsRow 0 39 5 (.slice ag (n+p) cg) (n+p) (E9 (FY (n+p) m))/\KL w.heap.size a (.slice ag (n+p) cg)):=Jy ⟨af,aw⟩;have ad:=Jy ae;have aa:=Jy a7;clear a9 ar HM a2 a1 a4 a3 aI af ae a7 aw;go_wp2_with (at_builtin;refine Sg _ rfl (.tmp 29) (.tmp 32) 26 rfl 0 39 j0 _ 5 56 underlying26 gi aT aM aQ rfl (by decide) _ _ _ rfl (a6.o.1.alloc _) ⟨w2.heap.size,0,none⟩ 1 1 (IU (Fq m)) rfl rfl ?d1 ?d2 ?d3 ?d4 ?d5 ?_)
   case d1=>intro j u hu;rw[addr_add];exact(NN w2 (Fq m)).cell hu
   case d2=>intro u hu;exact N3 (l:=[Fq m]) u (by rw[OA];exact hu)
   case d3=>unfold maxLen;omega
   case d4=>omega
   case d5=>exact AU _
   intro aH w3 an a4;have a1:=TU a4;have ac:=oQ (a6.o.1.alloc _) a4;have am:KL w.heap.size a aH:=oe a4 a6.o.2 (by have:=ay;simp;omega);have a5:w3.ownsRow 0 39 5 aH (n+p+1) (E9 (FY (n+p+1) m)):=by
    rw[Wu,Oq,OA];exact an
   have ai:=gv (Rc ((M3 ad.o (AU _)).alloc _) (a6.o.1.alloc _) (by decide) a1) ad.o;have aG:∀q,q<p+1->Dj w3 0 m (if q<p then A q else ag) (n+q)/\MI w.heap.size a (if q<p then A q else ag) (n+q):=λq hq=>⟨VC ((aB.o q hq).1.below ((AM _ _).alloc (AB _) _)) a1 (by omega) a5 ac,(aB.o q hq).2⟩
   have a8:S1.Fm (λk=>a=some ⟨k,0,none⟩) w w3:=Tg (aa.o.alloc _) a1 (λr hr=>a6.o.2 r hr);obtain⟨aW,aL,aO,_⟩:=Rk a5;subst aO;have aS:Hid (∀q,q<p+1->Dj w3 0 m (if q<p then A q else ag) (n+q)/\MI w.heap.size a (if q<p then A q else ag) (n+q)):=aG;have av:=Jy (And.intro a5 am);have aD:=Jy ai;have ao:=Jy a8;clear a6 ad aB aa a1 ac a4 am aG an a5 ai a8;go_wp2;go_roundw
   case rel=>exact⟨p+1,by omega,by go_num,_,rfl,aW,aL,_,_,rfl,av,aD,aS,ao⟩
   case measure=>simp[intOf];omega
  have aC:p=4:=by omega
  subst aC;have aV:Hid (N8 wr w.heap.size a vo n m):=by
   rcases a9.o.2 with⟨_,h0⟩ | ⟨O,co,cur,rfl,hO,hh,_⟩
   ·omega
   refine⟨O,co,A,C,rfl,by rw[<-HZ.o];exact hO,⟨_,hh⟩,λp hp=>⟨?_,HM.o p hp⟩⟩;rw[a9.o.cellAt p (by omega)];simp[hp]
  clear a9 ar HM;go_wp2;go_ret
  exact⟨vo,rfl,aV.o,a2.o⟩
end
end Go.Proofs.YtodmdkhdbfbfgaaGreatDoor
