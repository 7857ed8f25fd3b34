/- Lemmas. -/
import Derived.Maps.RangeWalk
import Derived.Test.YtodmdkhdbfbfgaaGreatDoorM06
set_option linter.unusedVariables false
set_option linter.unusedSimpArgs false
set_option maxRecDepth 100000
set_option maxHeartbeats 8000000
open Go.Proofs.Tryz
abbrev Go.C5:=@Go.Maps.has_true_of_atKey
abbrev Go.DL:=@Go.Maps.sameKey_ne
namespace Go.Proofs.YtodmdkhdbfbfgaaGreatDoor
namespace S1
open Go.RowKit Pk
open Go.Nt (Fp Pg Ef Dp YS KB Gb EB Gg LJ JZ G9)
theorem jf(l:List Fp)(f:Fp)(b n a:Nat):Dp (l++[f]) b n a=if(Dp l f.bad f.num f.at_).isSome then Dp l b n a else NP (Dp l) f.bad f.num f.at_ f b n a:=by
 rw[YS];unfold NP;by_cases e:b=f.bad/\n=f.num/\a=f.at_
 ·obtain⟨rfl,rfl,rfl⟩:=e;have h1:KB f.bad f.num f.at_ f=true:=Gb.2 ⟨rfl,rfl,rfl⟩;rw[h1];simp
 have h1:KB b n a f=false:=by
  cases h:KB b n a f with
  | false=>rfl
  | true=>have:=Gb.1 h;exact absurd ⟨this.1.symm,this.2.1.symm,this.2.2.symm⟩ e
 rw[h1,AC e]
 have:(if(Dp l b n a).isSome=true then Dp l b n a else if false=true then some f else none)=Dp l b n a:=by
  cases Dp l b n a<;>simp
 rw[this];simp
theorem jh(w:D7)(g n:Nat)(l:List Fp)(f:Fp)(hP:Gk w g n (Dp l))(hn:n<=100000)(h0:f.bad<=1000000)(h1:f.num<=4294967295)(h2:f.at_<=1000000) :
 Calls prog 134 #[.map (some g),fv f] w λe w'=>e=.returned (.tuple #[])/\Gk w' g (n+1) (Dp (l++[f]))/\Fm (λk=>k=g) w w':=by
 have ae:=hP.lt;have HL:=Jy (jf l f);obtain⟨b,hb⟩:∃x,x=f.bad:=⟨_,rfl⟩;obtain⟨r,hr⟩:∃x,x=f.num:=⟨_,rfl⟩;obtain⟨a,ha⟩:∃x,x=f.at_:=⟨_,rfl⟩;have aj:Hid (fv f=.agg #[.int .i64 b,.int .u32 r,.int .i64 a,.int .i64 f.JW,.string (D9 f.text),.int .i64 f.Dg]):=Jy (by rw[hb,hr,ha];rfl);rw[aj.o];rw[<-hb,<-hr,<-ha]at HL;rw[<-hb]at h0;rw[<-hr]at h1;rw[<-ha]at h2;obtain⟨o,ho⟩:∃x,x=f.JW:=⟨_,rfl⟩;obtain⟨X,hX⟩:∃x,x=D9 f.text:=⟨_,rfl⟩;obtain⟨bk,GW⟩:∃x,x=f.Dg:=⟨_,rfl⟩;rw[<-ho,<-hX,<-GW]at aj ⊢;clear hb hr ha ho hX GW;obtain⟨W1,a1⟩:=Jq (w.alloc (.cells #[.int .i64 b,.int .u32 r,.int .i64 a,.int .i64 o,.string X,.int .i64 bk] 187));obtain⟨W2,a2⟩:=Jq (W1.alloc (.cells #[.int .i64 b,.int .u32 r,.int .i64 a] 189));have af:=L0 a1
 obtain⟨g3,a9⟩:∃g,g=w.heap.size:=⟨_,rfl⟩;have a8:W1.heap[g3]? = some (.cells #[.int .i64 b,.int .u32 r,.int .i64 a,.int .i64 o,.string X,.int .i64 bk] 187 (0,0)):=by rw[a1,a9];exact AQ w _
 have a5:W2.heap[g3]? = some (.cells #[.int .i64 b,.int .u32 r,.int .i64 a,.int .i64 o,.string X,.int .i64 bk] 187 (0,0)):=by rw[a2,Lh];exact a8
 have a3:W2.heap[g3+1]? = some (.cells #[.int .i64 b,.int .u32 r,.int .i64 a] 189 (0,0)):=by rw[a2,a9,<-af];exact AQ W1 _
 have ah:Gk W2 g n (Dp l):=hP.of_block (by rw[a2,Lh,a1,AO w _ _ ae]);have a7:Fm (λk=>k=g) w W2:=by rw[a2,a1];exact((Fm.refl _ w).alloc _).alloc _
 have d0:=Dv 0 a8;have d1:=Dv 1 a8;have d2:=Dv 2 a8;have k0:=Dv 0 a3;have k1:=Dv 1 a3;have k2:=Dv 2 a3;have ar:=(ah.look h0 h1 h2).1;obtain⟨q,hq⟩:=Jq ((Dp l b r a).getD P1);obtain⟨z,hz⟩:=Jq ((Dp l b r a).isSome);rw[<-hq,<-hz]at ar;rw[<-hz]at HL;unfold fv pv at ar;have av:=Jy a1;have am:=Jy a2;have ao:=Jy ah;have ag:=Jy a7;have az:=Jy a5;have au:=Jy a3;have ai:=Jy af;rw[<-a9]at ai;have aw:=Jy a9;have aD:=Jy ae;clear a1 a2 af a8 a5 a3 ah a7 hq hz hP a9 ae;obtain⟨W3,ac⟩:=Jq (W2.alloc (.cells #[.int .i64 q.bad,.int .u32 q.num,.int .i64 q.at_,.int .i64 q.JW,.string (D9 q.text),.int .i64 q.Dg] 187));have ad:∀k,k<W2.heap.size->W3.heap[k]? = W2.heap[k]? := λk hk=>by rw[ac];exact AO W2 _ k hk
 have a6:Hid (Fm (λk=>k=g) w W3):=Jy (by rw[ac];exact ag.o.alloc _);have aA:Hid (Gk W3 g n (Dp l)):=Jy (ao.o.of_block (ad g ao.o.lt));have a0:=(ad g3 (lt_of_heap az.o)).trans az.o;have aa:=(ad (g3+1) (lt_of_heap au.o)).trans au.o;have ay:=Jy ac;obtain⟨V,a4,an,ax⟩:=aA.o.store h0 h1 h2 (by omega) f;rw[aj.o]at a4;unfold pv at a4;have aB:=Jy an;have aC:=Jy (a6.o.map (λ_=>rfl) ax);have c0:=Dv 0 aa;have c1:=Dv 1 aa;have c2:=Dv 2 aa;have e0:=Dv 0 a0;have e1:=Dv 1 a0;have e2:=Dv 2 a0;have e3:=Dv 3 a0;have e4:=Dv 4 a0;have e5:=Dv 5 a0;clear ad ac an ax a0 aa;cases z with
 | true =>
   have HR:Hid (∀x y z,Dp l x y z=Dp (l++[f]) x y z):=Jy (λx y z=>by rw[HL.o];rfl);go_enter func134,ntmps134
   go_wp2_with (first | (rw[<-av.o,<-aw.o]) | (rw[<-am.o,ai.o]) | (rw[<-ay.o]) | fail);go_end0
   exact⟨rfl,(aA.o.congr HR.o).mono (by omega),a6.o⟩
 | false =>
   have HR:Hid (∀x y z,NP (Dp l) b r a f x y z=Dp (l++[f]) x y z):=Jy (λx y z=>by rw[HL.o];rfl);go_enter func134,ntmps134
   go_wp2_with (first | (rw[<-av.o,<-aw.o]) | (rw[<-am.o,ai.o]) | (rw[<-ay.o]) | fail);go_end0
   exact⟨rfl,aB.o.congr HR.o,aC.o⟩
theorem l6(w:D7):(Instr.makeMap 135 none).run prog w=.ok (.map (some w.heap.size)) (w.alloc (.map #[] 0)):=by
 simp[Instr.makeMap,Result.andThen]
def Fs(m:M)(i p:Nat):D8:=pad (m.pg i p)
theorem lh{m:M}(hw:WF m){i p:Nat}(hi:i<m.nb)(hp:p<m.np):(Fs m i p).length=64:=by
 have:=hw.pg i p hi hp
 unfold Fs pad;simp;omega
def Og(m:M)(w:D7)(e:Ending)(w':D7):Prop:=
 e=.returned (.map (some w.heap.size))/\Gk w' w.heap.size (m.nb*m.np) (Dp (EB (Fs m) m.np m.nb))/\Below w.heap.size w w'
theorem O9(w:D7)(lo hi cb:Nat)(L:Loc)(m:M)(hw:WF m)(h:CP w lo hi cb L m)(hsz:hi<=w.heap.size)(hl:m.Da≠0) :
 Calls prog 80 #[.pointer (some ⟨cb,0,none⟩)] w λe w'=>Og m w e w':=by
 have aQ:=hw.Iu;have aA:=hw.Jv;obtain⟨W0,a8⟩:=Jq (w.alloc (.map #[] 0));have an:=KD a8;have aj:Gk W0 w.heap.size 0 (λ_ _ _=>none):=by rw[a8];exact lN w
 have HC:=Jy (λ(V:D7) (hV:Below w.heap.size w V)=>(Db.below h hsz hV:CP V lo hi cb L m));have ao:=l6 w;rw[<-a8]at ao;obtain⟨g,hg⟩:=Jq w.heap.size;unfold Og;rw[<-hg]at aj hsz ao an HC ⊢;have aC:=Jy (λV hV=>Em V lo hi cb L m (HC.o V hV));have aB:=Jy (λV hV=>Er V lo hi cb L m (HC.o V hV));have a6:Hid (∀(V:D7),Below g w V->∀(i p:Nat),i<m.nb->p<m.np->Calls prog 132 #[.pointer (some ⟨cb,0,none⟩),.int .i64 i,.int .i64 p] V λe w'=>e=.returned (.tuple #[.string (D9 (Fs m i p)),.bool true])/\Below V.heap.size V w'):=Jy (λV hV i p aw ax=>by
  have:=jr V lo hi cb L m (i:Nat) (p:Nat) hw (HC.o V hV)
  have e:GX m (i:Nat) (p:Nat)=some (Fs m i p):=by
   unfold GX;rw[AE ⟨hl,by simp[hasB,aw],by omega,by omega⟩];rfl
  rw[e]at this;exact this)
 have ae:Hid (∀(V:D7) (i p:Nat),i<m.nb->p<m.np->Calls prog 133 #[.string (D9 (Fs m i p))] V λe w'=>Nf (Fs m i p) V e w'):=Jy (λV i p aw ax=>kh (Fs m i p) V (lh hw aw ax));obtain⟨nb,aH⟩:=Jq m.nb;obtain⟨np,aG⟩:=Jq m.np;rw[<-aH]at aC a6 ae aQ ⊢;rw[<-aG]at aB a6 ae aA ⊢;have aD:=Jy aj;have af:=Jy an;have Hg:=Jy hg;obtain⟨G,hG⟩:=Jq (Fs m);rw[<-hG]at a6 ae ⊢;clear h hw an aj a8 aH aG hg hl hG HC;go_enter func80,ntmps80
 go_wp2_with fail;refine(aC.o _ af.o).mono ?_;rintro e w' ⟨rfl,hw⟩;have am:=hw.symm;subst am;clear hw;go_wp2_with fail
 go_loopw [13] (λi wr=>∃k n:Nat,k<=nb/\n<=k*np/\i=.int .i64 k/\Hid (Gk wr g n (Dp (EB G np k)))/\Hid (Below g w wr)) (λi _=>nb - (intOf i).toNat)
 case atStart=>exact⟨0,0,AU _,AU _,rfl,Jy (aD.o.congr λb r a=>rfl),af⟩
 case round =>
  clear aD af ao;obtain⟨k,n,hk,hn,rfl,HS,HB⟩:=hrel;by_cases az:k<nb
  ·go_wp2_with fail;refine(aB.o _ HB.o).mono ?_;rintro e w' ⟨rfl,hw⟩;have am:=hw.symm;subst am;clear hw;go_wp2_with fail
   go_loopw [18] (λi wr=>∃p n':Nat,p<=np/\n'<=n+p/\i=.int .i64 p/\Hid (Gk wr g n' (Dp (EB G np k++Gg G k p)))/\Hid (Below g w wr)) (λi _=>np - (intOf i).toNat)
   case atStart=>exact⟨0,n,AU _,AB _,rfl,Jy (HS.o.congr λb r a=>by rw[Gg,CD]),HB⟩
   clear HS HB;obtain⟨p,n',hp,aS,rfl,HS,HB⟩:=hrel;by_cases aF:p<np
   ·have aO:=HS.o.lt;have A1:=Jy (a6.o wr HB.o k p az aF);go_wp2_with fail;refine A1.o.mono ?_;rintro e V1 ⟨rfl,au⟩;have A2:=Jy (ae.o V1 k p az aF);have ag:=Jy (HB.o.trans (au.zM));have ad:=Jy (HS.o.of_block (au.block g aO));have ah:=ad.o.lt;obtain⟨Y,hY⟩:=Jq (D9 (G k p));rw[<-hY]at A2;rw[<-hY];clear A1 au HS HB hY;go_wp2_with fail;refine A2.o.mono ?_;rintro e V2 ⟨q,rfl,hq,ac⟩;have ai:=Jy (ag.o.trans (ac.zM));have a5:=Jy (ad.o.of_block (ac.block g ah));have ar:=a5.o.lt;unfold OU;rw[show Go.Proofs.YtodmdkhdbfbfgaaGreatDoor.D9 q.text=D9 q.text from rfl];obtain⟨W3,a3⟩:=Jq (V2.alloc (.cells #[.int .i64 q.bad,.int .u32 q.num,.int .i64 q.at_,.int .i64 q.JW,.string (D9 q.text)] 182));have aI:=Jy a3;obtain⟨pb,a9⟩:=Jq V2.heap.size;have aK:=Jy a9
    have a1:=K5 a3 a9.symm;have aa:=KD a3;have av:=Jy (ai.o.trans (aa.zM));have a7:=Jy (a5.o.of_block (aa.block g ar));have aN:=a7.o.lt;have c0:=Dv 0 a1;have c1:=Dv 1 a1;have c2:=Dv 2 a1;have c3:=Dv 3 a1;have c4:=Dv 4 a1;have aJ:n'<=600:=by have:k*np<=32*16:=Cn (by omega) aA;omega
    cases hr:Ef (G k p)with
    | none =>
      have a0:Hid (Gg G k (p+1)=Gg G k p):=Jy (by rw[Gg,LJ,hr];simp);clear a3 a9 a1 aa hq ad ag A2 a5 ai ac;simp only[Option.isSome_none];go_wp2_with (first | (rw[<-aI.o,<-aK.o]) | fail);go_roundw
      case rel=>exact⟨p+1,n',by omega,by omega,by go_num,Jy (by rw[a0.o];exact a7.o),av⟩
      case measure=>simp[intOf];omega
    | some q' =>
      have aP:q=q':=hq q' hr;subst aP;have a4:=Go.Nt.Lc (G k p);have a2:=(Go.Nt.Jr hr).2.1;have a0:Hid (EB G np k++Gg G k (p+1)=(EB G np k++Gg G k p)++[Fp.mk' q k]):=Jy (by rw[Gg,LJ,hr];simp);rw[<-a2]at a4;have A3:=Jy (jh W3 g n' (EB G np k++Gg G k p) (Fp.mk' q k) a7.o (by omega) (by show q.bad<=_;omega) (by show q.num<=_;omega) (by show q.at_<=_;omega));unfold fv Fp.mk' at A3;clear a3 a9 a1 aa hq ad ag A2 a5 ai ac hr a2 a4;simp only[Option.isSome_some];go_wp2_with (first | (rw[<-aI.o,<-aK.o]) | fail);refine A3.o.mono ?_;rintro e V4 ⟨rfl,ay,aE⟩;have aR:Hid (Gk V4 g (n'+1) (Dp (EB G np k++Gg G k (p+1)))):=Jy (by rw[a0.o];exact ay);have aL:=Jy (av.o.trans (aE.below (B:=g) (λk hk=>Cf hk.symm) (by omega)));clear ay aE A3 a7 av;go_wp2_with fail;go_roundw
      case rel=>exact⟨p+1,n'+1,by omega,by omega,by go_num,aR,aL⟩
      case measure=>simp[intOf];omega
   have aJ:p=np:=by omega
   subst aJ;go_wp2_with fail;go_roundw
   case rel=>exact⟨k+1,n',by omega,by rw[Nat.succ_mul];omega,by go_num,HS,HB⟩
   case measure=>simp[intOf];omega
  have aM:k=nb:=by omega
  subst aM;go_wp2;go_ret
  exact⟨rfl,HS.o.mono hn,HB.o⟩
end S1
namespace S1
open Go.RowKit Pk
open Go.Nt (Fp Dp FJ E0 JZ M0)
theorem rK(g n b r:Nat)(S:Nat->Nat->Bool)(w:D7)(h:FK w g n S)(hb:b<=1000000)(hr:r<=4294967295)(hn:n<=1000000) :
 Calls prog 135 #[.map (some g),lv b r] w λe w'=>e=.returned (.tuple #[])/\FK w' g (n+1) (λx y=>(x==b&&y==r)||S x y)/\Fm (λk=>k=g) w w':=by
 obtain⟨W1,a0⟩:=Jq (w.alloc (.cells #[.int .i64 b,.int .u32 r] 90));obtain⟨g3,a1⟩:=Jq w.heap.size;have a2:=K5 a0 a1.symm;have h1:FK W1 g n S:=h.of_block (by rw[a0];exact AO w _ _ h.lt);have a3:Fm (λk=>k=g) w W1:=by rw[a0];exact(Fm.refl _ w).alloc _
 have c0:=Dv 0 a2;have c1:=Dv 1 a2;obtain⟨V,hu,hS,hm⟩:=h1.store hb hr hn;unfold lv at hu ⊢;have HS:=Jy hS;have HF:=Jy (a3.map (λ_=>rfl) hm);have a5:=Jy a0;have a4:=Jy a1;clear h h1 a2 a0 hS hm a3 a1;go_enter func135,ntmps135
 go_wp2_with (first | (rw[<-a5.o,<-a4.o]) | fail);go_end0
 exact⟨rfl,HS.o,HF.o⟩
theorem mI(g n b r:Nat)(S:Nat->Nat->Bool)(w:D7)(h:FK w g n S)(hb:b<=1000000)(hr:r<=4294967295) :
 Calls prog 191 #[.map (some g),lv b r] w λe w'=>e=.returned (.bool (S b r))/\Below w.heap.size w w':=by
 obtain⟨W1,a0⟩:=Jq (w.alloc (.cells #[.int .i64 b,.int .u32 r] 90));obtain⟨g3,a1⟩:=Jq w.heap.size;have a2:=K5 a0 a1.symm;have h1:FK W1 g n S:=h.of_block (by rw[a0];exact AO w _ _ h.lt);have c0:=Dv 0 a2;have c1:=Dv 1 a2;have a3:=KD a0;have hl:=h1.look hb hr;obtain⟨z,hz⟩:=Jq (S b r);rw[<-hz]at hl ⊢;unfold lv at hl ⊢;have HB:=Jy a3;have a5:=Jy a0;have a4:=Jy a1;clear h h1 a2 a0 a3 a1 hz;go_enter func191,ntmps191
 go_wp2_with (first | (rw[<-a5.o,<-a4.o]) | fail);go_ret
 exact⟨rfl,HB.o.alloc HB.o.size _⟩
theorem qG(w:D7):(Instr.makeMap 130 none).run prog w=.ok (.map (some w.heap.size)) (w.alloc (.map #[] 0)):=by
 simp[Instr.makeMap,Result.andThen]
def YX(l:List Fp)(w:D7)(e:Ending)(w':D7):Prop:=
 e=.returned (.map (some w.heap.size))/\FK w' w.heap.size 100000 (FJ l)/\Below w.heap.size w w'
theorem Ya(w:D7)(g n:Nat)(l:List Fp)(hF:Gk w g n (Dp l))(hn:n<=100000)(hok:∀f∈l,JZ f) :
 Calls prog 81 #[.map (some g)] w λe w'=>YX l w e w':=by
 obtain⟨D,ho,hh,hk⟩:=hF;have aM:=ho.lt;have b5:Maps.size D<=100000:=AF ho.size_le hn;obtain⟨W0,af⟩:=Jq (w.alloc (.map #[] 0));have ag:=KD af;have ah:FK W0 w.heap.size 0 (λ_ _=>false):=by rw[af];exact oA w
 have az:=qG w;rw[<-af]at az;have aB:W0.ownsMap prog 189 KW g n D:=by
  obtain⟨es,ac,h1,h2⟩:=ho;exact⟨es,ac,(ag.block g aM).trans h1,h2⟩
 obtain⟨lb,aR⟩:=Jq w.heap.size;unfold YX;rw[<-aR]at ah az ag aM ⊢;have aO:=Jy aB;have aH:=Jy ah;have aE:=Jy ag;have Hh:=Jy hh;have Hk:=Jy hk;have aZ:=Jy hok;have aJ:lb<W0.heap.size:=ah.lt;clear ho hh hk af ag ah aB aR hok;go_enter func81,ntmps81
 go_wp2_with (first | (at_range;refine wpList_range_own _ rfl _ 135 rfl 189 187 IV underlying135 _ g _ D rfl aO.o ?_;intro w0 a4 aw a7) | go_in)
 go_frame
 have aK:Hid (Below lb w w0):=Jy (aE.o.grown aw (by omega) (λq hq=>by cases hq));have aG:Hid (FK w0 lb 0 (λ_ _=>false)):=Jy (aH.o.of_block (aw.block lb aJ (λe=>by cases e)));have a3:=Jy a4;have am:=a7;obtain⟨r,hr⟩:=Jq W0.heap.size;rw[<-hr]at a3 aJ am ⊢;clear a4 aw aO aH aE az a7 hr
 go_loopw [4] (λ_ wx=>∃(left:Lit->Bool) (cnt k:Nat) (S:Nat->Nat->Bool),wx.ranges prog 189 KW g r n D left cnt/\k+cnt<=Maps.size D/\Hid (∀b n,S b n=true->FJ l b n=true)/\Hid (∀b n a,b<=1000000->n<=4294967295->a<=1000000->(Dp l b n a).isSome=true->left (pk b n a)=false->S b n=true)/\Hid (FK wx lb k S)/\Hid (Below lb w wx))
  (λ_ wx=>wx.rangeLeft g r)
 case atStart=>exact⟨_,_,0,_,a3.o,by omega,Jy (λb n h=>by cases h),Jy (λb n a h1 h2 h3 h4 h5=>by rw[(Hh.o b n a h1 h2 h3).1,h4]at h5;cases h5),aG,aK⟩
 case round =>
  clear a3 aK aG;obtain⟨left,cnt,k,S,ae,b4,H1,H2,HL,HB⟩:=hrel;go_wp2_with (first | (at_next;refine wpList_next_ranges _ rfl _ rfl 189 IV KW id id (λkey kl hk=>⟨key,rfl⟩) (λv _ _=>⟨v,rfl⟩) g r _ _ _ _ rfl ae ?_ ?_) | go_in)
  ·intro _ aU;have HS:Hid (∀b n,S b n=FJ l b n):=Jy (λb n=>by
    cases hs:S b n with
    | true=>exact(H1.o b n hs).symm
    | false =>
      cases hh:FJ l b n with
      | false=>rfl
      | true =>
        obtain⟨f,hf,rfl,rfl⟩:=E0.1 hh;have ok:=aZ.o f hf;have hx:(Dp l f.bad f.num f.at_).isSome=true:=by
         cases hl:Dp l f.bad f.num f.at_ with
         | some _=>rfl
         | none=>exact absurd ⟨rfl,rfl,rfl⟩ (Go.Nt.Lw.1 hl f hf)
        have:=H2.o f.bad f.num f.at_ (by have:=ok.b;omega) (by have:=ok.n;omega) (by have:=ok.a;have:=ok.o;omega) hx (aU _)
        rw[hs]at this;cases this)
   clear ae H1 H2;go_wp2;go_ret
   exact⟨rfl,(HL.o.congr HS.o).mono (by omega),HB.o⟩
  intro x cv kl yd yp w2 a2 aa aT hv aL ad au ar aC aN;have a0:Maps.has D kl=true:=C5 aL;obtain⟨b,rr,a,hb,ai,ha,rfl⟩:=Hk.o kl a0;have hx:x=pv b rr a:=IV.inj (aa.trans rfl) (Iz hb ai ha);subst hx;have aF:(Dp l b rr a).isSome=true:=by rw[<-(Hh.o b rr a hb ai ha).1];exact a0
  have a6:FJ l b rr=true:=by
   obtain⟨f,hf⟩:=CC.1 aF
   have:=M0 hf
   exact E0.2 ⟨f,this.1,this.2.1,this.2.2.1⟩
  have av:Hid (Below lb w w2):=Jy (HB.o.grown ar (CN HL.o.lt) (λq hq=>by cases hq;omega));have aj:Hid (FK w2 lb k S):=Jy (HL.o.of_block (ar.block lb HL.o.lt (λe=>by cases e;omega)));have a8:=Jy ad;have aX:=Jy ae;have ay:=Jy a6;have aW:r<w2.heap.size:=by rw[aC];exact ae.lt
  clear aL hv aa aT ar aC ad ae a0 aF a6 HB HL
  try simp only[id]at aN
  unfold pv at aN
  try simp only[id]
  unfold pv;obtain⟨W3,a9⟩:=Jq (w2.alloc (.cells #[.int .i64 b,.int .u32 rr,.int .i64 a] 189));obtain⟨kb,an⟩:=Jq w2.heap.size;have ax:=K5 a9 an.symm;have aA:=KD a9;have c0:=Dv 0 ax;have c1:=Dv 1 ax;have ao:=Jy (aj.o.of_block (aA.block lb aj.o.lt));have aP:=Jy (av.o.trans (aA.mono (by have:=av.o.size;have h9:=aj.o.lt;omega)));have a5:Hid (W3.ranges prog 189 KW g r n D (λz=>left z && !z.sameKey (pk b rr a)) a2):=Jy (by rw[a9];exact a8.o.alloc _);have A:=Jy (rK lb k b rr S W3 ao.o hb ai (by omega));unfold lv at A;have b0:=Jy a9;have aY:=Jy an;clear a9 an ax aA aj av a8;go_wp2_with (first | (rw[<-b0.o,<-aY.o]) | fail);refine A.o.mono ?_;rintro e W4 ⟨rfl,aQ,a1⟩
  have aI:W4.ranges prog 189 KW g r n D (λz=>left z && !z.sameKey (pk b rr a)) a2:=a5.o.kept (row:=some lb) ⟨a1.os,a1.tape,a1.output,a1.size,λj hj aV=>a1.block j hj (λe=>aV (by rw[e]))⟩ (by intro e;cases e;omega) (by intro e;cases e;omega);have aS:=Jy (aP.o.trans (a1.below (B:=lb) (λk hk=>Cf hk.symm) (CN ao.o.lt)));have b3:=Jy aQ;have aD:=Jy aI;clear aQ a1 aI A ao aP a5;go_wp2_with fail;go_roundw
  case rel =>
   refine⟨_,a2,k+1,_,aD.o,by omega,Jy (λx y h => ?_),Jy (λx y z h1 h2 h3 h4 h5 => ?_),b3,aS⟩
   ·simp only[DH,Af,DI]at h;rcases h with⟨rfl,rfl⟩ | h
    ·exact ay.o
    exact H1.o x y h
   by_cases e:x=b/\y=rr
   ·obtain⟨rfl,rfl⟩:=e;simp
   have hs:Lit.sameKey (pk x y z) (pk b rr a)=false:=DL (λh=>e (by have:=Yi h1 h2 h3 hb ai ha h;exact⟨this.1,this.2.1⟩));rw[hs]at h5
   have:=H2.o x y z h1 h2 h3 h4 (by simpa using h5)
   simp[this]
  rw[aD.o.left_eq,aX.o.left_eq];exact au
end S1
end Go.Proofs.YtodmdkhdbfbfgaaGreatDoor
namespace Go.Nt
variable {S:Nat->Bool} {k:Nat}
def GG(S:Nat->Bool):Nat->Nat->Nat
 | 0,_=>0
 | f+1,k=>if S k then GG S f ((k+1)%4294967296)+1 else 0
def Ky(S:Nat->Bool)(k:Nat):Nat:=(k+GG S 700 k)%4294967296
theorem VN(S:Nat->Bool):∀(f k j:Nat),k<4294967296->j<f->S ((k+j)%4294967296)=false->S ((k+GG S f k)%4294967296)=false/\GG S f k<=j/\GG S (f+1) k=GG S f k
 | 0,k,j,hk,hj,_=>by omega
 | f+1,k,j,hk,hj,h=>by
   rw[GG,GG];cases hs:S k with
   | false =>
     simp only[BS,C6,Br];rw[Bi hk];refine⟨hs,AU _,?_⟩
     first | rfl | trivial
   | true =>
     simp only[if_true];cases j with
     | zero=>rw[Br,Bi hk,hs]at h;cases h
     | succ j =>
       have e:((k+1)%4294967296+j)%4294967296=(k+(j+1))%4294967296:=by rw[Nat.mod_add_mod,show k+1+j=k+(j+1) by omega]
       obtain⟨h1,h2,h3⟩:=VN S f ((k+1)%4294967296) j (BM _ (by decide)) (by omega) (by rw[e];exact h);refine⟨?_,by omega,by rw[h3]⟩;rw[Nat.mod_add_mod]at h1;rw[show k+(GG S f ((k+1)%4294967296)+1)=k+1+GG S f ((k+1)%4294967296) by omega];exact h1
def LZ(S:Nat->Bool):Prop:=∀k,k<4294967296->∃j,j<=600/\S ((k+j)%4294967296)=false
theorem Jm(h:LZ S)(hk:k<4294967296):S (Ky S k)=false/\Ky S k<4294967296:=by
 obtain⟨j,hj,hs⟩:=h k hk;exact⟨(VN S 700 k j hk (by omega) hs).1,BM _ (by decide)⟩
theorem Gs(hk:k<4294967296)(h:S k=false):Ky S k=k:=by
 unfold Ky;rw[show GG S 700 k=0 by rw[GG,h];rfl,Br,Bi hk]
theorem Ur(h:LZ S)(hk:k<4294967296)(hs:S k=true):Ky S k=Ky S ((k+1)%4294967296)/\GG S 700 ((k+1)%4294967296)<GG S 700 k:=by
 obtain⟨j,hj,hf⟩:=h ((k+1)%4294967296) (BM _ (by decide));have h1:=(VN S 699 ((k+1)%4294967296) j (BM _ (by decide)) (by omega) hf).2.2;have h2:GG S 700 k=GG S 699 ((k+1)%4294967296)+1:=by
  show(if S k then GG S 699 ((k+1)%4294967296)+1 else 0)=_;rw[hs,AE rfl]
 have h3:GG S 700 ((k+1)%4294967296)=GG S 699 ((k+1)%4294967296):=h1;refine⟨?_,by omega⟩;unfold Ky;rw[h2,h3,Nat.mod_add_mod]
 congr 1
 omega
theorem filter_one{f:Nat->Nat}(x:Nat):∀(js:List Nat),js.Nodup->(∀a∈js,∀b∈js,f a=f b->a=b)->js.length<=(js.filter λj=>f j != x).length+1
 | [],_,_=>by simp
 | j :: js,hn,hi=>by
   rw[List.nodup_cons]at hn;have ih:=filter_one x js hn.2 (λa ha b hb=>hi a (by simp[ha]) b (by simp[hb]));by_cases e:f j=x
   ·have hall:js.filter (λj=>f j != x)=js:=by
     rw[List.filter_eq_self];intro a ha;simp only[bne_iff_ne,ne_eq];intro e2
     have:=hi a (by simp[ha]) j (by simp) (by rw[e,e2])
     subst this;exact hn.1 ha
    rw[List.filter_cons_of_neg (by simp[e]),hall];simp
   rw[List.filter_cons_of_pos (by simp[e])];simp only[AY];omega
theorem NU{f:Nat->Nat}:∀(l js:List Nat),js.Nodup->(∀a∈js,∀b∈js,f a=f b->a=b)->l.length<js.length->∃j∈js,f j∉l
 | [],js,_,_,h=>by
   cases js with
   | nil=>simp at h
   | cons j js=>exact⟨j,by simp,by simp⟩
 | x :: l,js,hn,hi,h=>by
   have h1:=filter_one x js hn hi;obtain⟨j,hj,hf⟩:=NU l (js.filter λj=>f j != x) (hn.filter _) (λa ha b hb=>hi a (BC.1 ha).1 b (BC.1 hb).1) (by simp only[AY]at h;omega);obtain⟨h2,h3⟩:=BC.1 hj;refine⟨j,h2,?_⟩;simp only[As,not_or];exact⟨by simpa using h3,hf⟩
theorem ZQ{l:List Fp}(hl:l.length<=512)(b:Nat):LZ (FJ l b):=by
 intro k hk;obtain⟨j,hj,hf⟩:=NU (f:=λj=>(k+j)%4294967296) (l.map Fp.num) (List.range 601) List.nodup_range (λa ha c hc h=>by
  simp only[CH]at ha hc;have h':(k+a)%4294967296=(k+c)%4294967296:=h;omega) (by simp;omega)
 refine⟨j,by simp at hj;omega,?_⟩;cases hh:FJ l b ((k+j)%4294967296)with
 | false=>rfl
 | true =>
   obtain⟨f,a0,_,hn⟩:=E0.1 hh;exact absurd (Am.2 ⟨f,a0,hn⟩) hf
end Go.Nt
namespace Go.Proofs.YtodmdkhdbfbfgaaGreatDoor
namespace S1
open Go.RowKit Pk
variable {m m0:M} {Q K:Nat->Bool} {b p b0:Nat} {x:D8} {xs:List D8} {s:LS}
structure IZ (m:M) (Q:Nat->Bool) (b p:Nat):Prop where
 open_:p<m.np->b<m.nb/\m.bd b=false/\m.nx b=p/\Q b=false
 clean:∀i,Q i=true->i<m.nb/\m.bd i=false/\m.nx i=0
theorem IZ.shut(m:M)(Q:Nat->Bool)(b:Nat)(h:∀i,Q i=true->i<m.nb/\m.bd i=false/\m.nx i=0):IZ m Q b m.np:=⟨λh=>absurd h (Nat.lt_irrefl _),h⟩
theorem Tm(hw:WF m)(h:IZ m Q b p)(hp:p<m.np):IZ (Dy m (b:Nat) (p:Nat) x).2 Q b (if(Dy m (b:Nat) (p:Nat) x).1 then p+1 else m.np):=by
 obtain⟨h1,h2,h3,h4⟩:=h.open_ hp;have hq:∀i,Q i=true->i≠b:=λi hi e=>by rw[e,h4]at hi;cases hi
 rcases Od m b p x hw with⟨ht,_,_,_,_,_,_,e⟩ | ⟨hf,e | ⟨e,_⟩ | ⟨_,_,_,_,_,c,_,⟨e,_⟩ | ⟨e,_⟩⟩⟩
 ·rw[ht,AE rfl,e];refine⟨λ_=>⟨h1,h2,AE rfl,h4⟩,λi hi => ?_⟩;obtain⟨a1,a2,a3⟩:=h.clean i hi;exact⟨a1,a2,(AC (hq i hi)).trans a3⟩
 ·rw[hf];simp only[BS,C6];rw[e];exact IZ.shut m Q b h.clean
 ·rw[hf];simp only[BS,C6];rw[e];exact IZ.shut (tick m) Q b h.clean
 ·rw[hf];simp only[BS,C6];rw[e];refine⟨λa0=>absurd a0 (Nat.lt_irrefl _),λi hi => ?_⟩;obtain⟨a1,a2,a3⟩:=h.clean i hi;exact⟨a1,a2,(AC (hq i hi)).trans a3⟩
 rw[hf];simp only[BS,C6];rw[e];refine⟨λa0=>absurd a0 (Nat.lt_irrefl _),λi hi => ?_⟩;obtain⟨a1,a2,a3⟩:=h.clean i hi;exact⟨a1,(AC (hq i hi)).trans a2,(AC (hq i hi)).trans a3⟩
theorem Qd{Q:Nat->Bool}(b:Nat):∀(l:List D8) (m:M) (p:Nat) (S:Nat->Bool),WF m->IZ m Q b p->IZ (Df b l m p S).2.1 Q b (Df b l m p S).2.2.1
 | [],m,p,S,_,h=>h
 | x :: xs,m,p,S,hw,h=>by
   rw[Df]
   split
   ·rename_i hp;have hr:=Tm (x:=x) hw h hp
    split
    ·rename_i ht;rw[ht,AE rfl]at hr;exact Qd b xs _ _ _ (Mx hw _ _ _) hr
    rename_i ht;rw[AC ht]at hr;exact hr
   exact h
theorem SK(hw:WF m)(K:Nat->Bool)(h:IZ m Q b p):IZ (Di m K Q b).2.1 (Di m K Q b).2.2.1 ((b+1)%m.nb) (Di m K Q b).2.2.2:=by
 have hn:=hw.KZ;have a0:(b+1)%m.nb<m.nb:=BM _ (by omega);unfold Di
 split
 ·exact IZ.shut m Q _ h.clean
 split
 ·rename_i hQ;obtain⟨a1,a2,a3⟩:=h.clean _ hQ;refine⟨λ_=>⟨a1,a2,a3,by simp⟩,λi hi=>h.clean i ?_⟩;simp only[Af]at hi;exact hi.2
 rename_i hQ;have hq:∀i,Q i=true->i≠(b+1)%m.nb:=λi hi e=>hQ (by rw[<-e];exact hi)
 rcases QY m ((b+1)%m.nb)with⟨ht,_,hb,_,e⟩ | ⟨hf,⟨e,_⟩ | ⟨e,_⟩ | ⟨_,_,⟨e,_⟩ | ⟨⟨k,e⟩,_⟩⟩⟩
 ·rw[ht,AE rfl];simp only[];rw[e];refine⟨λ_=>⟨a0,hb,AE rfl,by simp⟩,λi hi => ?_⟩;simp only[Af]at hi;obtain⟨a1,a2,a3⟩:=h.clean i hi.2;exact⟨a1,a2,(AC (hq i hi.2)).trans a3⟩
 all_goals
  rw[hf];simp only[BS,C6];rw[e]
 ·exact IZ.shut m Q _ h.clean
 ·exact IZ.shut (tick m) Q _ h.clean
 ·refine⟨λhl=>absurd hl (Nat.lt_irrefl _),λi hi => ?_⟩;obtain⟨a1,a2,a3⟩:=h.clean i hi;exact⟨a1,(AC (hq i hi)).trans a2,a3⟩
 refine⟨λhl=>absurd hl (Nat.lt_irrefl _),λi hi => ?_⟩;obtain⟨a1,a2,a3⟩:=h.clean i hi;exact⟨a1,a2,(AC (hq i hi)).trans a3⟩
theorem ZY(h:m.fail<0):(tick m).fail=m.fail/\(m.Da=0->(tick m).Da=0):=by
 unfold tick Dl;refine⟨?_,λh0 => ?_⟩
 ·repeat' split
  all_goals first | rfl | omega
 rw[AE h0];exact h0
theorem ow(hw:WF m)(hf:m.fail<0)(hb:b<m.nb)(hbd:m.bd b=false)(hp:p=m.nx b)(hn:p<m.np)(hx:x.length=64) :
 (Dy m (b:Nat) (p:Nat) x).2.fail<0/\(Dy m (b:Nat) (p:Nat) x).2.bd=m.bd/\((Dy m (b:Nat) (p:Nat) x).1=true\/(Dy m (b:Nat) (p:Nat) x).2.Da=0):=by
 have ht:=ZY hf;rcases Od m b p x hw with⟨h1,_,_,_,_,_,_,e⟩ | ⟨h1,e | ⟨e,h0⟩ | ⟨_,_,_,_,_,c,_,⟨e,h0⟩ | ⟨e,h0⟩⟩⟩
 ·refine⟨by rw[e];show(tick m).fail<0;rw[ht.1];exact hf,by rw[e];rfl,.inl h1⟩
 ·have hm:JA m (b:Nat) (p:Nat) x:=⟨by unfold Fe hasB;simp[hb,hbd],by rw[hp];simp,by omega,hx⟩;refine⟨by rw[e];exact hf,by rw[e],.inr ?_⟩;rw[e];unfold Dy at h1 e;rw[AE hm]at h1 e;have h2:=AV M.nx e;unfold FR at h1 h2;simp only[Bd]at h1 h2;rcases QR m.Da m.fail with hk | hk | hk | hk
  ·rw[AE hk]at h1;cases h1
  ·unfold Dl at hk
   repeat' split at hk
   all_goals simp at hk
   all_goals omega
  ·rw[AC (by rw[hk];decide),AC (by rw[hk];decide),AE hk]at h2
   have:=congrFun h2 b
   have h3:(if b=b then p+1 else m.nx b)=m.nx b:=this;rw[AE rfl]at h3;omega
  unfold Dl at hk
  repeat' split at hk
  all_goals simp at hk
  all_goals assumption
 ·refine⟨by rw[e,ht.1];exact hf,by rw[e];rfl,.inr (by rw[e];exact ht.2 h0)⟩
 ·refine⟨by rw[e];show(tick m).fail<0;rw[ht.1];exact hf,by rw[e];rfl,.inr (by rw[e];exact h0)⟩
 omega
theorem Qt(hf:m.fail<0)(hb:b<m.nb)(hbd:m.bd b=false) :
 (EJ m (b:Nat)).2.fail<0/\(EJ m (b:Nat)).2.bd=m.bd/\((EJ m (b:Nat)).1=true\/(EJ m (b:Nat)).2.Da=0):=by
 have ht:=ZY hf;rcases QY m b with⟨h1,_,_,_,e⟩ | ⟨h1,⟨e,h0⟩ | ⟨e,h0⟩ | ⟨_,_,⟨e,h0⟩ | ⟨⟨k,e⟩,h0⟩⟩⟩
 ·exact⟨by rw[e];show(tick m).fail<0;rw[ht.1];exact hf,by rw[e];rfl,.inl h1⟩
 ·rcases h0 with h0 | h0
  ·omega
  rw[hbd]at h0;cases h0
 ·exact⟨by rw[e,ht.1];exact hf,by rw[e];rfl,.inr (by rw[e];exact ht.2 h0)⟩
 ·omega
 exact⟨by rw[e];show(tick m).fail<0;rw[ht.1];exact hf,by rw[e];rfl,.inr (by rw[e];exact h0)⟩
theorem TO(hbd:m.bd b=true):EJ m (b:Nat)=(false,m):=by
 unfold EJ;rw[AC];unfold Fe;simp[hbd]
theorem QZ{Q:Nat->Bool}(b:Nat):∀(l:List D8) (m:M) (p:Nat) (S:Nat->Bool),WF m->m.fail<0->IZ m Q b p->(∀x∈l,x.length=64) ->
 (Df b l m p S).2.1.fail<0/\(Df b l m p S).2.1.bd=m.bd/\((Df b l m p S).2.1.Da=0\/(Df b l m p S).1.length<=l.length - (m.np - p))
 | [],m,p,S,_,hf,_,_=>⟨hf,rfl,.inr (by simp[Df])⟩
 | x :: xs,m,p,S,hw,hf,h,hx=>by
   rw[Df]
   split
   ·rename_i hp;obtain⟨h1,h2,h3,h4⟩:=h.open_ hp;obtain⟨k1,k2,k3⟩:=ow hw hf h1 h2 h3.symm hp (hx x (by simp));have hr:=Tm (x:=x) hw h hp
    split
    ·rename_i ht;rw[ht,AE rfl]at hr;obtain⟨a1,a2,a3⟩:=QZ b xs _ (p+1) (λj=>j==b||S j) (Mx hw _ _ _) k1 hr (λy hy=>hx y (by simp[hy]));refine⟨a1,a2.trans k2,?_⟩;rcases a3 with a3 | a3
     ·exact .inl a3
     right
     rw[S8]at a3;refine AF a3 ?_;simp only[AY];omega
    rename_i ht;refine⟨k1,k2,.inl ?_⟩;rcases k3 with k3 | k3
    ·exact absurd k3 ht
    exact k3
   exact⟨hf,rfl,.inr (by simp only[];omega)⟩
def cntF(f:Nat->Bool)(n c:Nat):Nat->Nat
 | 0=>0
 | k+1=>cntF f n c k+if f ((c+k)%n)then 1 else 0
theorem fX(f:Nat->Bool)(n c:Nat):∀k,cntF f n (c+1) k+(if f (c%n)then 1 else 0)=cntF f n c (k+1)
 | 0=>by simp[cntF]
 | k+1=>by
   have ih:=fX f n c k;rw[cntF,cntF,<-ih,show c+1+k=c+(k+1) by omega];omega
theorem ZJ(f:Nat->Bool)(n:Nat):∀c,cntF f n c n=cntF f n 0 n
 | 0=>rfl
 | c+1=>by
   have h1:=fX f n c n;rw[cntF,Nat.add_mod_right]at h1
   have:=ZJ f n c
   omega
theorem ZO(f:Nat->Bool)(n:Nat):∀k,k<=n->cntF f n 0 k=(List.range k).countP f
 | 0,_=>rfl
 | k+1,hk=>by
   rw[cntF,ZO f n k (by omega),B0,List.countP_append,Ao,Bi (by omega)];simp[C0]
theorem qh(f:Nat->Bool)(n c:Nat):cntF f n c n=(List.range n).countP f:=(ZJ f n c).trans (ZO f n n (AB _))
structure IY (m0:M) (K:Nat->Bool) (xs:List D8) (b0 v:Nat) (s:LS):Prop where
 wf:WF s.m
 nb:s.m.nb=m0.nb
 np:s.m.np=m0.np
 b:s.b=(b0+v)%m0.nb
 fail:s.m.fail<0
 bd:s.m.bd=m0.bd
 MM:IZ s.m s.Q s.b s.p
 lens:∀x∈s.left,x.length=64
 NX:s.m.Da=0\/s.left.length<=xs.length - m0.np*cntF (λi => !K i && !m0.bd i) m0.nb (b0+1) v
theorem XX(b:Nat):∀(l:List D8) (m:M) (p:Nat) (S:Nat->Bool),∀x∈(Df b l m p S).1,x∈l
 | [],m,p,S,x,h=>h
 | y :: ys,m,p,S,x,h=>by
   rw[Df]at h
   split at h
   ·split at h
    ·exact CF _ (XX b ys _ _ _ x h)
    exact h
   exact h
theorem IY.round{v:Nat}(h:IY m0 K xs b0 v s)(hd:s.m.Da≠0):IY m0 K xs b0 (v+1) (EF K s):=by
 have ad:=h.wf.KZ;have a9:(s.b+1)%s.m.nb=(b0+(v+1))%m0.nb:=by
  rw[h.nb,h.b,Nat.add_mod,Nat.mod_mod,<-Nat.add_mod,Cx]
 have aa:(s.b+1)%s.m.nb<s.m.nb:=BM _ (by omega);have a0:=h.NX.resolve_left hd;have a4:cntF (λi => !K i && !m0.bd i) m0.nb (b0+1) (v+1)=cntF (λi => !K i && !m0.bd i) m0.nb (b0+1) v+if(!K ((s.b+1)%s.m.nb) && !m0.bd ((s.b+1)%s.m.nb))then 1 else 0:=by
  rw[cntF,a9,show b0+1+v=b0+(v+1) by omega]
 obtain⟨k1,k2,k3⟩:=OW s.m K s.Q s.b;have a7:=SK h.wf K h.MM;have a5:=Nq h.wf K s.Q s.b;have a6:(Di s.m K s.Q s.b).2.1.fail<0/\(Di s.m K s.Q s.b).2.1.bd=s.m.bd:=by
  unfold Di
  split
  ·exact⟨h.fail,rfl⟩
  split
  ·exact⟨h.fail,rfl⟩
  cases hbd:s.m.bd ((s.b+1)%s.m.nb)with
  | true=>rw[TO hbd];exact⟨h.fail,rfl⟩
  | false =>
    have:=Qt h.fail aa hbd
    split<;>exact⟨this.1,this.2.1⟩
 unfold EF
 split
 ·rename_i ho;have ac:(Di s.m K s.Q s.b).2.2.2=0:=by
   unfold Di at ho ⊢
   repeat' split at ho
   all_goals first | cases ho | skip
   all_goals simp_all
  obtain⟨q1,q2,q3,q4⟩:=MW ((s.b+1)%s.m.nb) s.left (Di s.m K s.Q s.b).2.1 (Di s.m K s.Q s.b).2.2.2 s.S;obtain⟨a1,a2,a3⟩:=QZ (Q:=(Di s.m K s.Q s.b).2.2.1) ((s.b+1)%s.m.nb) s.left (Di s.m K s.Q s.b).2.1 (Di s.m K s.Q s.b).2.2.2 s.S a5 a6.1 a7 h.lens;refine⟨Mq _ _ _ _ _ a5,(q1.trans k1).trans h.nb,(q2.trans k2).trans h.np,a9,a1,a2.trans (a6.2.trans h.bd),Qd _ _ _ _ _ a5 a7,λx hx=>h.lens x (XX _ _ _ _ _ x hx),?_⟩;rcases a3 with a3 | a3
  ·exact .inl a3
  right
  have e9:(Di s.m K s.Q s.b).2.1.np - (Di s.m K s.Q s.b).2.2.2=m0.np:=by rw[ac,k2,h.np];omega
  rw[e9]at a3;refine AF (show(LS.IM K s).prog.left.length<=s.left.length - m0.np from a3) ?_;rw[a4]
  split<;>simp only[Nat.mul_add,DT,Nat.mul_zero]<;>omega
 rename_i ho;refine⟨a5,k1.trans h.nb,k2.trans h.np,a9,a6.1,a6.2.trans h.bd,a7,h.lens,?_⟩;rw[a4];by_cases hK:K ((s.b+1)%s.m.nb)=true
 ·right
  simp only[hK,Bool.not_true,Bool.false_and,BS,C6,Br];exact a0
 cases hbd:s.m.bd ((s.b+1)%s.m.nb)with
 | true =>
   right
   have a8:m0.bd ((s.b+1)%s.m.nb)=true:=by rw[<-h.bd];exact hbd
   simp only[a8,Bool.not_true,Bool.and_false,BS,C6,Br];exact a0
 | false =>
   left
   have hn:=Qt h.fail aa hbd;show(Di s.m K s.Q s.b).2.1.Da=0;unfold Di at ho ⊢;rw[AC hK]at ho ⊢
   split at ho
   ·exact absurd rfl ho
   rename_i hQ;rw[AC hQ]
   split at ho
   ·exact absurd rfl ho
   rename_i he;rw[AC he];exact hn.2.2.resolve_left he
theorem IY.rounds{m0:M}{K:Nat->Bool}{xs:List D8}{b0:Nat}:∀(k v:Nat) (s:LS),IY m0 K xs b0 v s->(EV K k s).m.Da=0\/(EV K k s).left=[]\/IY m0 K xs b0 (v+k) (EV K k s)
 | 0,v,s,h=>.inr (.inr h)
 | k+1,v,s,h=>by
   rw[EV]
   split
   ·rename_i hc;rcases hc with hc | hc
    ·exact .inr (.inl hc)
    exact .inl hc
   rename_i hc
   have:=IY.rounds k (v+1) (EF K s) (h.round (λe=>hc (.inr e)))
   rw[show v+(k+1)=v+1+k by omega];exact this
theorem Z2(h:IY m0 K xs b0 0 s)(hr:xs.length<=m0.np*(List.range m0.nb).countP (λi => !K i && !m0.bd i)):(EV K m0.nb s).m.Da=0\/(EV K m0.nb s).left=[]:=by
 rcases IY.rounds m0.nb 0 s h with h1 | h1 | h1
 ·exact .inl h1
 ·exact .inr h1
 rcases h1.NX with h2 | h2
 ·exact .inl h2
 right
 rw[Ao,qh]at h2;exact Bf (by omega)
end S1
namespace S1
open Go.RowKit Pk
open Go.Nt (Fp Dp FJ EB Ky GG LZ Jm Gs Ur)
def LG(w:D7)(g:Nat):Nat:=match w.cell? ⟨g,1,none⟩with
 | some (.int _ z)=>z.toNat
 | _=>0
def WB(w:D7)(lo hi cb lb:Nat)(L:Loc)(v0:Lv)(kv qv:Option Nat)(nk nq:Nat)(m:M)(K Q:Nat->Bool)(b p:Nat)(S:Nat->Nat->Bool)(e:Ending)(w':D7):Prop:=
 ∃tb nt,e=.returned (.agg #[.int .i64 (Dt m:Nat),.int .u32 (Ky (S (Dt m)) ((v0.nn+1)%4294967296):Nat)])/\EO w' lo hi cb lb L ⟨v0.nb,v0.nn,some tb⟩ kv qv nk nq m K Q b p/\FK w' tb nt S/\nt<=100000/\¬Ew lo hi lb kv qv tb/\(v0.tk=some tb\/w.heap.size<=tb)/\Fm (λk=>k=lb) w w'
theorem TE{w:D7}{lo hi cb lb:Nat}{L:Loc}{v0:Lv}{kv qv:Option Nat}{nk nq:Nat}{m:M}{K Q:Nat->Bool}{b p:Nat}(h:EO w lo hi cb lb L v0 kv qv nk nq m K Q b p){k:Nat}(hk:Ew lo hi lb kv qv k):k<w.heap.size:=by
 rcases hk with⟨_,h2⟩ | rfl | h3 | h3
 ·exact AR h2 h.sz
 ·exact h.log.lt
 ·rcases h.kept with⟨h4,_⟩ | ⟨g,h4,h5⟩
  ·rw[h4]at h3;cases h3
  rw[h4]at h3;cases h3;exact h5.lt
 rcases h.clean with⟨h4,_⟩ | ⟨g,h4,h5⟩
 ·rw[h4]at h3;cases h3
 rw[h4]at h3;cases h3;exact h5.lt
end S1
section
open Go.RowKit Go.Nt
theorem Po:(prog.info? 9).map (λi=>(i.zero,i.size,i.bytes))=some (some (.string ⟨#[]⟩),1,16):=by kernel_rfl
theorem gZ(n:Nat)(hn:n<=100000):∃cells:Array Value,(∀W:D7,(Instr.makeSlice 40 (.int .i64 n) (.int .i64 n)).run prog W=.ok (.slice (some ⟨W.heap.size,0,none⟩) n n) (W.alloc (.cells cells 9)))/\(∀W:D7,S1.Rw (W.alloc (.cells cells 9)) W.heap.size 9 n (λ_=>.string ⟨#[]⟩)):=
 ⟨madeCells #[Value.string ⟨#[]⟩] n,λW=>Cz (P:=prog) 40 9 (.string ⟨#[]⟩) 16 underlying40 Po rfl .i64 .i64 n (by omega) (by omega) W,λW=>S1.LW (Co W (.string ⟨#[]⟩) n 9)⟩
def VS(b n:Nat):Value:=.agg #[.int .i64 b,.int .u32 n]
def Ks(b n:Nat)(t:Bs)(w:D7)(e:Ending)(w':D7):Prop:=
 ∃g,e=.returned (.slice (some ⟨g,0,none⟩) (De t.length) (De t.length))/\w.heap.size<=g/\S1.Rw w' g 9 (De t.length) (λk=>.string (D9 (Ej (F0 b n t k))))/\Below w.heap.size w w'
theorem m6(b n:Nat)(t:Bs)(w:D7)(hb:b<256)(hn:n<4294967296)(ht:t.length<=1000000) :
 Calls prog 129 #[VS b n,.string (D9 t)] w λe w'=>Ks b n t w e w':=by
 have ao:=Jy (λW=>S1.JU t W (by omega));have hK:De t.length<=19608:=by unfold De;omega
 obtain⟨K,a4⟩:=Jq (De t.length);have ah:∀k,k<K->k*51<t.length:=λk hk=>by rw[a4]at hk;unfold De at hk;omega
 obtain⟨X,hX⟩:=Jq (D9 t);have Sx:X.size=t.length:=by rw[hX,Dd]
 rw[<-hX];have ad:Hid (∀W,Calls prog 123 #[.string X] W λe w'=>e=.returned (.int .i64 K)/\w'=W):=Jy (by rw[hX,a4];exact ao.o);have a7:Hid (∀k,k<K->X.extract (k*51) (min ((k+1)*51) X.size)=D9 ((t.drop (k*51)).take 51)):=Jy (λk hk=>by
  have:=ah k hk
  rw[Sx,hX,Jb]
  congr 1
  by_cases e:(k+1)*51<=t.length
  ·rw[Ce e,show(k+1)*51 - k*51=51 by omega]
  rw[Nat.min_eq_right (by omega),AT (by simp),AT (by simp;omega)])
 have ay:Hid (∀k W,k<K->Calls prog 194 #[.agg #[.int .i64 b,.int .u32 n,.int .i64 (k:Nat),.int .i64 K,.string (D9 ((t.drop (k*51)).take 51))]] W λe w'=>e=.returned (.string (D9 (Ej (F0 b n t k))))/\Below W.heap.size W w'):=Jy (λk W hk=>by
  have:=rf (F0 b n t k) W hb hn (by show k<65536;omega) (by show De t.length<65536;omega) (by simp[F0];omega)
  unfold OU at this;rw[a4];exact this)
 unfold Ks;rw[<-a4];obtain⟨cells,ar,a5⟩:=gZ K (by omega);obtain⟨W1,a6⟩:=Jq (w.alloc (.cells #[.int .i64 b,.int .u32 n] 90));have r1:W1.heap[w.heap.size]? = some (.cells #[.int .i64 b,.int .u32 n] 90 (0,0)):=by rw[a6];exact AQ _ _
 have ai:Below w.heap.size w W1:=by rw[a6];exact(AM _ w).alloc (AB _) _
 have ae:W1.heap.size=w.heap.size+1:=by rw[a6];simp
 obtain⟨W2,af⟩:=Jq (W1.alloc (.cells cells 9));have a3:=ar W1;have a0:=a5 W1;rw[<-af]at a3 a0;have aa:Below W1.heap.size W1 W2:=by rw[af];exact(AM _ W1).alloc (AB _) _
 obtain⟨g,hg⟩:=Jq W1.heap.size;obtain⟨lb,aj⟩:=Jq w.heap.size;rw[<-hg]at a3 a0 aa ae;rw[<-aj]at r1 ai ae ⊢;have am:lb<g:=by omega
 have r2:=(aa.block lb am).trans r1;have an:=Jy (ai.trans (aa.mono (by omega)));have R2:=Jy r2;have a8:=Jy (a0.congr (g:=λk=>if k<0 then .string (D9 (Ej (F0 b n t k)))else .string ⟨#[]⟩) (λi _=>by simp));have aw:=Jy a6;have az:=Jy aj;have Hg:=Jy hg;have aC:X.size<=1000000:=by omega
 have au:Hid (∀k,k<K->k*51<X.size):=Jy (by rw[Sx];exact ah);have aD:K<=19608:=by rw[a4];exact hK
 clear hK ao a4 hX Sx a6 af r1 r2 ai aa a5 ar ae hg aj a0 ah;unfold VS;go_enter func129,ntmps129
 go_wp2_with (first | (rw[<-aw.o]) | (rw[<-az.o]) | (go_at_call 123;refine(ad.o _).mono ?_;rintro e w' ⟨rfl,hw⟩;have ax:=hw.symm;subst ax;clear hw) | fail)
 go_loopw [13] (λi wr=>∃k:Nat,k<=K/\i=.int .i64 k/\Hid (S1.Rw wr g 9 K (λj=>if j<k then .string (D9 (Ej (F0 b n t j)))else .string ⟨#[]⟩))/\Hid (wr.heap[lb]? = some (.cells #[.int .i64 b,.int .u32 n] 90 (0,0)))/\Hid (Below lb w wr)) (λi _=>K - (intOf i).toNat)
 case atStart=>exact⟨0,AU _,rfl,a8,R2,an⟩
 case round =>
  clear a8 R2 an a3;obtain⟨k,hk,rfl,ac,Hl,HB⟩:=hrel;by_cases a9:k<K
  ·have c0:wr.cell? ⟨lb,0,none⟩=some (.int .i64 b):=by rw[AG wr lb 0 _ 90 (0,0) Hl.o];rfl
   have c1:wr.cell? ⟨lb,1,none⟩=some (.int .u32 n):=by rw[AG wr lb 1 _ 90 (0,0) Hl.o];rfl
   have aE:=au.o k a9;have A:=Jy (ay.o k wr a9);have a1:=a7.o k a9;obtain⟨Y,hY⟩:=Jq (D9 ((t.drop (k*51)).take 51));rw[<-hY]at A a1;obtain⟨Z,hZ⟩:=Jq (D9 (Ej (F0 b n t k)));rw[<-hZ]at A;have HZ:=Jy hZ;have aA:g<wr.heap.size:=ac.o.lt;have fin:∀W1:D7,Below wr.heap.size wr W1->W1.cell? ⟨g,k,none⟩=some (.string ⟨#[]⟩)/\W1.frozen? ⟨g,k,none⟩=false/\Hid (S1.Rw (W1.setCell ⟨g,k,none⟩ (.string Z)) g 9 K (λj=>if j<k+1 then .string (D9 (Ej (F0 b n t j)))else .string ⟨#[]⟩))/\Hid ((W1.setCell ⟨g,k,none⟩ (.string Z)).heap[lb]? = some (.cells #[.int .i64 b,.int .u32 n] 90 (0,0)))/\Hid (Below lb w (W1.setCell ⟨g,k,none⟩ (.string Z))):=by
    intro W1 hW;have hr:=ac.o.of_block (hW.block g aA);refine⟨by have:=hr.cell a9;simpa using this,hr.frozen k,Jy ((hr.set k (.string Z)).congr λj hj => ?_),Jy ?_,Jy ?_⟩
    ·by_cases e:j=k
     ·subst e;rw[AE rfl,AE (by omega),HZ.o]
     by_cases e2:j<k
     ·rw[AC e,AE e2,AE (by omega)]
     rw[AC e,AC e2,AC (by omega)]
    ·exact(AH W1 ⟨g,k,none⟩ _ lb (by simp;omega)).trans ((hW.block lb (lt_of_heap Hl.o)).trans Hl.o)
    exact(HB.o.trans (hW.mono (by have:=HB.o.size;have h9:=lt_of_heap Hl.o;omega))).setCell (by simp;omega) _
   have a2:=Jy fin;clear hY hZ fin;by_cases e:(k+1)*51<=X.size
   ·rw[Ce e]at a1;have ei:((k:Int)+1)*51<=(X.size:Int):=by omega
    have em:min (((k:Int)+1)*51) (X.size:Int)=((k:Int)+1)*51:=Int.min_eq_left ei;go_wp2_with fail;refine A.o.mono ?_;rintro e W3 ⟨rfl,ag⟩;obtain⟨q1,q2,q3,q4,q5⟩:=a2.o W3 ag;clear a2;go_wp2;go_roundw
    case rel=>exact⟨k+1,by omega,by go_num,q3,q4,q5⟩
    case measure=>simp[intOf];omega
   rw[Nat.min_eq_right (by omega)]at a1;have ei:¬((k:Int)+1)*51<=(X.size:Int):=by omega
   have aB:(X.size:Int)<((k:Int)+1)*51:=by omega
   have em:min (((k:Int)+1)*51) (X.size:Int)=(X.size:Int):=Int.min_eq_right (by omega);go_wp2_with fail;refine A.o.mono ?_;rintro e W3 ⟨rfl,ag⟩;obtain⟨q1,q2,q3,q4,q5⟩:=a2.o W3 ag;clear a2;go_wp2;go_roundw
   case rel=>exact⟨k+1,by omega,by go_num,q3,q4,q5⟩
   case measure=>simp[intOf];omega
  have av:k=K:=by omega
  subst av;go_wp2;go_ret
  exact⟨g,rfl,CN am,ac.o.congr λi hi=>by rw[AE hi],HB.o⟩
end
end Go.Proofs.YtodmdkhdbfbfgaaGreatDoor
