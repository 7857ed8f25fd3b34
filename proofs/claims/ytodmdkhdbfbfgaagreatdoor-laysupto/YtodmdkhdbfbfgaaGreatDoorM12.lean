/- Lemmas. -/
import Derived.Deep.AppendLies
import Derived.Lib.OwnKind
import Derived.Test.YtodmdkhdbfbfgaaGreatDoorM11
set_option linter.unusedVariables false
set_option linter.unusedSimpArgs false
set_option maxRecDepth 100000
set_option maxHeartbeats 8000000
open Go.Proofs.Tryz
abbrev Go.B8:=@Go.ownsRow_setCell_other
namespace Go.Proofs.YtodmdkhdbfbfgaaGreatDoor
namespace S1
open Go.RowKit Pk
def put{α:Type}(f:Nat->α)(p:Nat)(x:α):Nat->α:=λj=>if j=p then x else f j
def Dm(t:TypeId)(w w':D7):Prop:=∀(k:Nat) (c:Array Value) (fz:Nat × Nat),w.heap[k]? = some (.cells c t fz)->w'.heap[k]? = w.heap[k]?
namespace Dm
variable {t:TypeId} {a b c w w':D7}
theorem refl(t:TypeId)(w:D7):Dm t w w:=λ_ _ _ _=>rfl
theorem trans(h:Dm t a b)(k:Dm t b c):Dm t a c:=λi x f e=>(k i x f ((h i x f e).trans e)).trans (h i x f e)
theorem drew(h:Dm t a b):Dm t a b.drew:=h
theorem alloc(h:Dm t a b)(o:Obj):Dm t a (b.alloc o):=h.trans λk _ _ e=>AO b o k (lt_of_heap e)
theorem below(h:Dm t a b)(hb:Below b.heap.size b c):Dm t a c:=h.trans λk _ _ e=>hb.block k (lt_of_heap e)
theorem set(h:Dm t a b){g o:Nat}{v:Value}{x:Array Value}{T:TypeId}{f:Nat × Nat}(hg:b.heap[g]? = some (.cells x T f))(hT:T≠t):Dm t a (b.setCell ⟨g,o,none⟩ v):=
 h.trans λk _ _ e=>AH b ⟨g,o,none⟩ v k (LO e hg (λh=>hT h.symm))
theorem grown(h:Dm t a b){base n:Nat}{e:TypeId}{v:Value}{xs:List Value}(hown:b.ownsRow base e 1 v n xs)(he:e≠t)(hg:b.grownBy c v.ownBlock):Dm t a c:=by
 refine h.trans λk x f hk=>hg.block k (lt_of_heap hk) ?_
 rcases hown.2 with⟨rfl,_⟩ | ⟨g,cap,cur,rfl,_,hh,_⟩
 ·simp[Value.ownBlock]
 intro e2;simp[Value.ownBlock]at e2;subst e2;rw[hk]at hh;simp at hh;exact he hh.2.1.symm
theorem block(h:Dm t w w'){k:Nat}{x:Array Value}{f:Nat × Nat}(e:w.heap[k]? = some (.cells x t f)):w'.heap[k]? = some (.cells x t f):=(h k x f e).trans e
theorem rw(h:Dm t w w'){g n:Nat}{f:Nat->Value}(r:Rw w g t n f):Rw w' g t n f:=by
 obtain⟨c,hb,hc⟩:=r;exact⟨c,h.block hb,hc⟩
theorem own(h:Dm t w w'){base n:Nat}{v:Value}{xs:List Value}(o:w.ownsRow base t 1 v n xs):w'.ownsRow base t 1 v n xs:=by
 refine⟨o.1,?_⟩;rcases o.2 with h1 | ⟨g,cap,cur,h1,h2,h3,h4⟩
 ·exact .inl h1
 exact .inr ⟨g,cap,cur,h1,h2,h.block h3,h4⟩
end Dm
theorem Rw.news{w:D7}{b n:Nat}{t:TypeId}{f:Nat->Value}(h:Rw w b t n f):∀j u,((List.range n).map f)[j]? = some u->w.cell? ((⟨b,0,none⟩:Addr).add j)=some u:=by
 intro j u hu;have hj:j<n:=by
  rcases CM j n with h | h
  ·exact h
  rw[Aw (by simpa using h)]at hu;cases hu
 have a0:(⟨b,0,none⟩:Addr).add j=⟨b,j,none⟩:=by unfold Addr.add;split<;>simp_all
 rw[a0,h.cell hj,<-hu];simp[hj]
theorem mO(n:Nat)(f:Nat->Value)(x:Value):(List.range n).map f++[x]=(List.range (n+1)).map (put f n x):=by
 rw[B0,Aq]
 congr 1
 ·apply BU
  intro i hi
  have:i<n:=by simpa using hi
  show f i=put f n x i;unfold put;rw[AC (by omega)]
 simp[put]
structure Data (w:D7) (base:Nat) (v:Value) (k np:Nat) (rw cr:Nat->Nat) (pg:Nat->Nat->D8):Prop where
 own:w.ownsRow base 40 1 v k ((List.range k).map λi=>.slice (some ⟨rw i,0,none⟩) np (cr i))
 row:∀i,i<k->base<=rw i/\Rw w (rw i) 9 np (λp=>.string (D9 (pg i p)))
 inj:∀i j,i<k->j<k->rw i=rw j->i=j
namespace Data
variable {w w':D7} {base:Nat} {v v':Value} {k np:Nat} {rw cr:Nat->Nat} {pg:Nat->Nat->D8}
theorem nil(w:D7)(base np:Nat)(rw cr:Nat->Nat)(pg:Nat->Nat->D8):Data w base (.slice none 0 0) 0 np rw cr pg:=
 ⟨AZ _ _ _ _,λi h=>by omega,λi j h=>by omega⟩
theorem keep(h:Data w base v k np rw cr pg)(k9:Dm 9 w w')(k23:Dm 40 w w'):Data w' base v k np rw cr pg:=
 ⟨k23.own h.own,λi hi=>⟨(h.row i hi).1,k9.rw (h.row i hi).2⟩,h.inj⟩
theorem push(h:Data w base v k np rw cr pg)(k9:Dm 9 w w'){r c:Nat}{f:Nat->D8}(hr:base<=r)(hnew:w.heap.size<=r)(Kq:Rw w' r 9 np (λp=>.string (D9 (f p))))
 (ho:w'.ownsRow base 40 1 v' (k+1) ((List.range k).map (λi=>.slice (some ⟨rw i,0,none⟩) np (cr i))++[.slice (some ⟨r,0,none⟩) np c])):Data w' base v' (k+1) np (put rw k r) (put cr k c) (put pg k f):=by
 have a0:∀i,i<k->rw i<w.heap.size:=λi hi=>(h.row i hi).2.lt
 refine⟨?_,λi hi => ?_,λi j hi hj e => ?_⟩
 ·rw[mO]at ho
  have:(List.range (k+1)).map (put (λi=>Value.slice (some ⟨rw i,0,none⟩) np (cr i)) k (.slice (some ⟨r,0,none⟩) np c))=(List.range (k+1)).map (λi=>Value.slice (some ⟨put rw k r i,0,none⟩) np (put cr k c i)):=by
   apply BU
   intro i _;unfold put;by_cases e:i=k
   ·rw[AE e,AE e,AE e]
   rw[AC e,AC e,AC e]
  rw[this]at ho;exact ho
 ·by_cases e:i=k
  ·unfold put;rw[AE e,AE e];exact⟨hr,Kq⟩
  unfold put;rw[AC e,AC e]
  have:=h.row i (by omega)
  exact⟨this.1,k9.rw this.2⟩
 unfold put at e;by_cases e1:i=k
 ·by_cases e2:j=k
  ·omega
  rw[AE e1,AC e2]at e
  have:=a0 j (by omega)
  omega
 by_cases e2:j=k
 ·rw[AC e1,AE e2]at e
  have:=a0 i (by omega)
  omega
 rw[AC e1,AC e2]at e;exact h.inj i j (by omega) (by omega) e
end Data
theorem Db.built{w:D7}{base g:Nat}{T:TypeId}{m:M}{enc:D8->D8}{dv nv bv:Value}{rw cr:Nat->Nat}{pg:Nat->Nat->D8}{g4 g5 g6 g7:Int}(hn:0<m.nb)
 (hT:T≠40/\T≠3/\T≠4/\T≠9) (hg:base<=g)
 (hst:w.heap[g]? = some (.cells #[.int .i64 m.np,dv,nv,bv,.int .i64 g4,.int .i64 g5,.int .i64 g6,.int .i64 g7] T (0,0)))
 (hd:Data w base dv m.nb m.np rw cr pg) (hp:∀i p,i<m.nb->p<m.np->pg i p=enc (m.pg i p))
 (hnx:w.ownsRow base 3 1 nv m.nb ((List.range m.nb).map λi=>.int .i64 (m.nx i:Nat)))
 (hbd:w.ownsRow base 4 1 bv m.nb ((List.range m.nb).map λi=>.bool (m.bd i))) :
 ∃L,Db w base w.heap.size g T L m enc g4 g5 g6 g7:=by
 obtain⟨db,cd,rfl,Kp,a0⟩:=TZ hd.own hn;obtain⟨nk,cn,rfl,I0,a1⟩:=TZ hnx hn;obtain⟨bk,ck,rfl,GW,a2⟩:=TZ hbd hn;refine⟨⟨db,nk,bk,rw,cd,cn,ck,cr⟩,⟨hg,lt_of_heap hst⟩,⟨Kp,a0.lt⟩,⟨I0,a1.lt⟩,⟨GW,a2.lt⟩,λi hi=>⟨(hd.row i hi).1,(hd.row i hi).2.lt⟩,hd.inj,hT,hst,a0,a1,a2,λi hi => ?_⟩;exact(hd.row i hi).2.congr λp a3=>by rw[hp i p hi a3]
end S1
namespace S1
open Go.RowKit Pk
structure BW (w:D7) (B g:Nat) (b:D8) (pos:Nat):Prop where
 hg:B<=g
 st:∃v,w.heap[g]? = some (.cells #[v,.int .i64 ((8*b.length - pos:Nat):Int)] 279 (0,0))/\w.ownsRow B 5 1 v b.length (b.map λc=>.int .u8 (c.toNat:Nat))
 wr:Wr b pos
theorem eN{w:D7}{B n:Nat}{e:TypeId}{v:Value}{xs:List Value}(h:w.ownsRow B e 1 v n xs)(hn:0<n):∃r cap,v=.slice (some ⟨r,0,none⟩) n cap/\B<=r:=by
 obtain⟨r,cap,h1,h2,_⟩:=h.form hn;exact⟨r,cap,h1,h2⟩
theorem S0(u x q:Nat)(hq:q<=7)(hx:x<2)(hu:u<256)(hm:u%2^(q+1)=0):bits .or .u8 (u:Int) ((x*2^q:Nat):Int)=((u+x*2^q:Nat):Int):=by
 have h1:x*2^q<2^(q+1):=by
  rw[By]
  have:=DA (n:=q) (show 0<2 by omega)
  have:x*2^q<=1*2^q:=Ba _ (by omega)
  omega
 have h2:2^(q+1)<=2^8:=BD (by omega) (by omega);rw[bits_join .u8 8 (by decide) wraps_u8 (q+1) (u:Int) ((x*2^q:Nat):Int) (by omega) (by exact_mod_cast hm) (by omega) (by omega) (by exact_mod_cast h1) (by omega)];omega
theorem Tf(n k j q:Nat)(hq:q<=7):bits BinOp.and IntKind.i64 ((n:Int)/2^(k - 1 - j)) 1%256*2^q%256=((n/2^(k - 1 - j)%2*2^q:Nat):Int):=by
 rw[jK];have h:((n:Int)/2^(k - 1 - j))=((n/2^(k - 1 - j):Nat):Int):=by simp
 rw[h];have h2:(2:Nat)^q<=2^7:=BD (by omega) hq;have h3:((2:Int)^q)=((2^q:Nat):Int):=by simp
 rw[h3]
 generalize n/2^(k - 1 - j)=y
 generalize 2^q=p at *
 have h4:y%2=0\/y%2=1:=by omega
 rcases h4 with h4 | h4
 ·rw[h4];have:(y:Int)%2=0:=by omega
  rw[this];simp
 rw[h4];have:(y:Int)%2=1:=by omega
 rw[this];simp;omega
theorem S5{W:D7}{B g r cap:Nat}{c:D8}{p q x y:Nat}(hg:B<=g)(hst:W.heap[g]? = some (.cells #[.slice (some ⟨r,0,none⟩) c.length cap,.int .i64 q] 279 (0,0)))(hown:W.ownsRow B 5 1 (.slice (some ⟨r,0,none⟩) c.length cap) c.length (c.map λc=>.int .u8 (c.toNat:Nat)))
 (h1:p<8*c.length) (h2:8*c.length<=p+8) (hz:∀i,p<=i->bt c i=0) (hx:x<2) (hq:8*c.length - p - 1=q) (hy:y=(c.getD (c.length - 1) 0).toNat+x*2^q) :
 ∃c',BW (W.setCell ⟨r,c.length - 1,none⟩ (.int .u8 y)) B g c' (p+1)/\Ag c c' p/\bt c' p=x/\c'.length=c.length:=by
 obtain⟨_,a3,a1⟩:=Ty c p x h1 h2 hz hx;rw[hq]at a3 a1;have a2:(UInt8.ofNat y).toNat=y:=by rw[Bw];omega
 obtain⟨hw,ha,hb⟩:=a1 (UInt8.ofNat y) (by rw[a2,hy]);have a0:(c.set (c.length - 1) (UInt8.ofNat y)).length=c.length:=List.length_set ..;have a4:g≠r:=by
  intro e;subst e;obtain⟨_,_,hk⟩:=Lib.ownsRow_kind hown g rfl;rw[hst]at hk;simp at hk
 refine⟨_,⟨hg,⟨.slice (some ⟨r,0,none⟩) c.length cap,?_,?_⟩,hw⟩,ha,hb,a0⟩
 ·rw[a0,show 8*c.length - (p+1)=q by omega];rw[AH W ⟨r,c.length - 1,none⟩ _ g a4];exact hst
 have:=(hown.stored (c.length - 1) (.int .u8 y)).1
 rw[a0];rw[List.map_set,a2];exact this
theorem fQ(w:D7)(B g:Nat)(b:D8)(pos n k:Nat)(hB:B<=w.heap.size)(hb:0<b.length)(hp:pos<=400000)(hk:k<=12)(hn:n<2^k)(h:BW w B g b pos) :
 Calls prog 250 #[.pointer (some ⟨g,0,none⟩),.int .i64 n,.int .i64 k] w λe w'=>e=.returned (.tuple #[])/\∃b',BW w' B g b' (pos+k)/\Ag b b' pos/\val b' pos k=n/\Below B w w':=by
 have Hn:=Jy hn;have Hh:=Jy h;have aW:n<4096:=by
  have:=BD (show 0<2 by omega) hk
  omega
 clear hn h;obtain⟨i0,hi,aL,aA,aK⟩:=Ai Fz;go_enter func250,ntmps250
 go_wp2
 go_loopw [6] (λi wr=>∃j:Nat,j<=k/\i=.int .i64 ((k:Int) - 1 - (j:Int))/\∃c,BW wr B g c (pos+j)/\Ag b c pos/\val c pos j=n/2^(k - j)/\Below B w wr) (λi _=>(intOf i+1).toNat)
 case atStart =>
  refine⟨0,by omega,by go_num,b,Hh.o,Ag.refl _ _,?_,AM _ _⟩;rw[Cq,Nat.div_eq_of_lt Hn.o];rfl
 case round =>
  clear Hh;obtain⟨j,hj,rfl,c,hc,an,hv,a5⟩:=hrel;by_cases aH:j<k
  ·obtain⟨v,a8,a1⟩:=hc.st;have aw:=hc.wr;have hg:=hc.hg;have aX:0<c.length:=AR hb an.len;have aG:=Jy aw;have Hv:=Jy hv;have ax:=Jy an;have b3:=aw.lo;have b4:=aw.hi;obtain⟨r,aC,rfl,hr⟩:=eN a1 aX;clear hc aw hv an;have aV:decide (0<=(k:Int) - 1 - (j:Int))=true:=by simp;omega
   by_cases h0:pos+j=8*c.length
   ·have aI:8*c.length - (pos+j)=0:=by omega
    rw[aI]at a8;have x0:=Dv 0 a8;have x1:=Dv 1 a8;have aU:B<=wr.heap.size:=AF hB a5.size;have Fg:c.length<=100000:=by omega
    have aD:=Jy a8;have a7:=Jy a5;clear a8 a5 aI;go_wp2_with (at_builtin;refine wpList_append_lies _ rfl (.tmp 22) (.tmp 23) 111 rfl B 5 i0 (.int .u8 0) 1 1 underlying111 hi aL aA aK rfl (by decide) (.slice (some ⟨r,0,none⟩) c.length aC) c.length _ rfl (a1.alloc _) ⟨wr.heap.size,0,none⟩ 1 1 [.int .u8 0] rfl rfl (Bg _ _ _) (by intro u hu;simp at hu;subst hu;rfl) (by omega) (by unfold maxLen;omega) (by omega) (by simp;omega) (wr.heap.size+1) (by simp) ?_);intro r2 a2 w2 a0 a9 aP aN;have aa:=(((Dm.refl 279 wr).alloc _).grown (a1.alloc _) (by decide) a9).block aD.o;have af:Hid (Below B w w2):=(a7.o.alloc aU _).grown a9 (by simp;omega) (λq hq=>(a1.lt q hq).1);have a0:w2.ownsRow B 5 1 (.slice (some ⟨r2,0,none⟩) (c++[0]).length a2) (c++[0]).length ((c++[(0:UInt8)]).map λ(y:UInt8)=>.int .u8 y.toNat):=by
     rw[AN,Aq];exact a0
    have aM:B<=r2:=(a0.lt r2 rfl).1;have y0:=Dv 0 aa;have aR:=FU 0 aa;have a3:=AK w2 g 0 _ 279 (.slice (some ⟨r2,0,none⟩) (c.length+1) a2) aa;have y1:=Dv 1 a3;have aZ:=FU 1 a3;have ad:=AK _ g 1 _ 279 (.int .i64 8) a3;have z1:=Dv 1 ad;have aY:=FU 1 ad;have ae:=AK _ g 1 _ 279 (.int .i64 7) ad;have av:g≠r2:=by
     intro e;subst e;obtain⟨_,_,hk⟩:=Lib.ownsRow_kind a0 g rfl;rw[aa]at hk;simp at hk
    have az:(Value.slice (some ⟨r2,0,none⟩) (c++[0]).length a2).ownBlock≠some g:=by simp[Value.ownBlock];exact λe=>av e.symm
    have a6:=B8 (a:=⟨g,1,none⟩) (B8 (a:=⟨g,1,none⟩) (B8 (a:=⟨g,0,none⟩) a0 az (.slice (some ⟨r2,0,none⟩) (c.length+1) a2)) az (.int .i64 8)) az (.int .i64 7);have ag:=Jy (((af.o.setCell (p:=⟨g,0,none⟩) hg (.slice (some ⟨r2,0,none⟩) (c.length+1) a2)).setCell (p:=⟨g,1,none⟩) hg (.int .i64 8)).setCell (p:=⟨g,1,none⟩) hg (.int .i64 7));have aE:(c++[0]).length=c.length+1:=by simp
    have v0:=Dv 0 ae;have v1:=Dv 1 ae;have vr:(((w2.setCell ⟨g,0,none⟩ (.slice (some ⟨r2,0,none⟩) (c.length+1) a2)).setCell ⟨g,1,none⟩ (.int .i64 8)).setCell ⟨g,1,none⟩ (.int .i64 7)).cell? ⟨r2,c.length,none⟩=some (.int .u8 0):=by
     rw[a6.cellAt c.length (by simp),Aq,Ad (by simp)];simp
    have vf:=a6.frozenAt c.length;have am:Hid ((((w2.setCell ⟨g,0,none⟩ (.slice (some ⟨r2,0,none⟩) (c.length+1) a2)).setCell ⟨g,1,none⟩ (.int .i64 8)).setCell ⟨g,1,none⟩ (.int .i64 7)).heap[g]? = some (.cells #[.slice (some ⟨r2,0,none⟩) (c++[0]).length a2,.int .i64 ((7:Nat):Int)] 279 (0,0))):=by
     show _=_;rw[ae,aE];rfl
    have ah:=Jy a6;clear aa a3 ad ae a1 a0 a6 a9 aP x0 x1 aD a7 af aE;go_wp2;go_region;have aF:bits BinOp.or IntKind.u8 0 (bits BinOp.and IntKind.i64 ((n:Int)/2^(k - 1 - j)) 1%256*128%256)=((0+n/2^(k - 1 - j)%2*2^7:Nat):Int):=by
     have h1:=Tf n k j 7 (by omega);rw[show(2:Int)^7=128 by decide]at h1;rw[h1];exact S0 0 _ 7 (by omega) (BM _ (by omega)) (by omega) (by simp)
    rw[aF];have hz:∀i,pos+j<=i->bt (c++[0]) i=0:=λi hi=>fG c i (by omega)
    obtain⟨c',ac,ha,ar,aj⟩:=S5 (c:=c++[0]) (p:=pos+j) (q:=7) (x:=n/2^(k - 1 - j)%2) (y:=0+n/2^(k - 1 - j)%2*2^7) hg am.o ah.o (by simp;omega) (by simp;omega) hz (BM _ (by omega)) (by simp;omega) (by simp);rw[show(c++[(0:UInt8)]).length - 1=c.length by simp]at ac;have a4:=ag.o.setCell (p:=⟨r2,c.length,none⟩) aM (.int .u8 ((0+n/2^(k - 1 - j)%2*2^7:Nat):Int));have aS:Ag c c' pos:=⟨by rw[aj];simp,λi hi=>by rw[ha.bit i (by omega),Te c [0] i (by omega)]⟩;have aQ:val c' pos j=val c pos j:=by
     rw[ha.val pos j (by omega)];have aT:Ag c (c++[0]) (8*c.length):=⟨by simp,λi hi=>Te c [0] i hi⟩;exact aT.val pos j (by omega)
    have ao:val c' pos (j+1)=n/2^(k - (j+1)):=by
     rw[Me,ar,aQ,Hv.o];exact SR n k j aH
    generalize ((((w2.setCell ⟨g,0,none⟩ (.slice (some ⟨r2,0,none⟩) (c.length+1) a2)).setCell ⟨g,1,none⟩ (.int .i64 8)).setCell ⟨g,1,none⟩ (.int .i64 7)).setCell ⟨r2,c.length,none⟩ (.int .u8 ((0+n/2^(k - 1 - j)%2*2^7:Nat):Int)))=W2 at *
    have ai:Hid (BW W2.drew B g c' (pos+(j+1))/\Ag b c' pos/\val c' pos (j+1)=n/2^(k - (j+1))/\Below B w W2.drew):=⟨⟨ac.hg,ac.st,ac.wr⟩,ax.o.trans aS (AB _),ao,a4.drew⟩;clear y0 aR y1 aZ z1 aY v0 v1 vr vf ac ha ar ao a4 aF am ah ag;go_wp2;go_roundw
    case rel=>exact⟨j+1,by omega,by go_num,c',ai.o⟩
    case measure=>simp[intOf];omega
   obtain⟨q,hq⟩:∃q,8*c.length - (pos+j)=q+1:=⟨8*c.length - (pos+j) - 1,by omega⟩;rw[hq]at a8;have b0:q<=6:=by omega
   have x0:=Dv 0 a8;have x1:=Dv 1 a8;have f1:=FU 1 a8;have aO:(((q+1:Nat):Int)==0)=false:=by simp;omega
   have a3:=AK wr g 1 _ 279 (.int .i64 q) a8;have y0:=Dv 0 a3;have y1:=Dv 1 a3;have av:g≠r:=by
    intro e;subst e;obtain⟨_,_,hk⟩:=Lib.ownsRow_kind a1 g rfl;rw[a8]at hk;simp at hk
   obtain⟨u,hu⟩:=Jq ((c.getD (c.length - 1) 0).toNat);have yr:(wr.setCell ⟨g,1,none⟩ (.int .i64 q)).cell? ⟨r,c.length - 1,none⟩=some (.int .u8 u):=by
    rw[Ws _ (λe=>av e.symm),a1.cellAt (c.length - 1) (by omega),hu,BQ,AI,AD (by omega)];rfl
   have fr:(wr.setCell ⟨g,1,none⟩ (.int .i64 q)).frozen? ⟨r,c.length - 1,none⟩=false:=by
    rw[Xn _ (λe=>av e.symm)];exact a1.frozenAt (c.length - 1)
   have au:u<256:=by rw[hu];exact UInt8.toNat_lt _
   have Hu:=Jy hu;have Hq:=Jy hq;have aB:=Jy a3;have ay:=Jy a1;have a7:=Jy a5;clear a8 a3 a1 a5 hu hq;rw[show((q+1:Nat):Int)=(q:Int)+1 by omega]at x1 aO;go_wp2;go_region;rw[Tf n k j q (by omega),S0 u (n/2^(k - 1 - j)%2) q (by omega) (BM _ (by omega)) au (by
    have:=(Ty c (pos+j) 0 (by omega) (by omega) aG.o.zero (by omega)).1
    rw[Hq.o]at this;rw[Hu.o];exact this)]
   have a0:(wr.setCell ⟨g,1,none⟩ (.int .i64 q)).ownsRow B 5 1 (.slice (some ⟨r,0,none⟩) c.length aC) c.length (c.map λc=>.int .u8 (c.toNat:Nat)):=B8 ay.o (by simp[Value.ownBlock];exact λe=>av e.symm) _;obtain⟨c',ac,ha,ar,aj⟩:=S5 (p:=pos+j) (q:=q) (x:=n/2^(k - 1 - j)%2) (y:=u+n/2^(k - 1 - j)%2*2^q) hg aB.o a0 (by omega) (by omega) aG.o.zero (BM _ (by omega)) (by have:=Hq.o;omega) (by rw[Hu.o]);have a4:=(a7.o.setCell (p:=⟨g,1,none⟩) hg (.int .i64 q)).setCell (p:=⟨r,c.length - 1,none⟩) hr (.int .u8 ((u+n/2^(k - 1 - j)%2*2^q:Nat):Int));have ao:val c' pos (j+1)=n/2^(k - (j+1)):=by
    rw[Me,ar,ha.val pos j (by omega),Hv.o];exact SR n k j aH
   generalize ((wr.setCell ⟨g,1,none⟩ (.int .i64 q)).setCell ⟨r,c.length - 1,none⟩ (.int .u8 ((u+n/2^(k - 1 - j)%2*2^q:Nat):Int)))=W2 at *
   have ai:Hid (BW W2.drew B g c' (pos+(j+1))/\Ag b c' pos/\val c' pos (j+1)=n/2^(k - (j+1))/\Below B w W2.drew):=⟨⟨ac.hg,ac.st,ac.wr⟩,ax.o.trans ha (by omega),ao,a4.drew⟩;clear x0 x1 f1 y0 y1 yr fr ac ha ar ao a4 a0;go_wp2;go_roundw
   case rel=>exact⟨j+1,by omega,by go_num,c',ai.o⟩
   case measure=>simp[intOf];omega
  have aJ:j=k:=by omega
  subst aJ;have aV:decide (0<=(j:Int) - 1 - (j:Int))=false:=by simp;omega
  have Hc:=Jy hc;have ax:=Jy an;have Hv:=Jy hv;have a7:=Jy a5;clear hc an hv a5;go_wp2;go_end0
  refine⟨rfl,c,Hc.o,ax.o,?_,a7.o⟩
  have:=Hv.o
  rw[D5,Nat.pow_zero,Nat.div_one]at this;exact this
end S1
namespace S1.Pk
variable {b b' d:D8} {z:Nat->Int} {p F i a:Nat}
theorem Yk(f:D8)(k i:Nat):bt (f.drop k) i=bt f (8*k+i):=by
 unfold bt;rw[AI,AI,C7,show k+i/8=(8*k+i)/8 by omega,show(8*k+i)%8=i%8 by omega]
theorem Qj(f:D8)(k p d:Nat):val (f.drop k) p d=val f (8*k+p) d:=by
 induction d with
 | zero=>rfl
 | succ d ih=>rw[Me,Me,ih,Yk,Cx]
def zp(z:Nat->Int)(p:Nat):Nat->Int:=λj=>if j<p then z j else 0
theorem l9(z:Nat->Int):zp z 0=λ_=>0:=by funext j;simp[zp]
theorem lQ(z:Nat->Int)(n:Nat)(h:∀i,n<=i->z i=0):zp z n=z:=by
 funext j;unfold zp;split
 ·rfl
 exact(h j (by omega)).symm
theorem lB(z:Nat->Int)(p:Nat):upd (zp z p) p (z p)=zp z (p+1):=by
 funext j;unfold upd zp
 by_cases e:j=p
 ·subst e;simp
 rw[AC e];by_cases h:j<p
 ·rw[AE h,AE (by omega)]
 rw[AC h,AC (by omega)]
theorem kY(z:Nat->Int)(p k:Nat)(h:∀i,i<k->z (p+i)=0):zp z p=zp z (p+k):=by
 funext j;unfold zp
 by_cases h1:j<p
 ·rw[AE h1,AE (by omega)]
 rw[AC h1];by_cases h2:j<p+k
 ·rw[AE h2]
  have:=h (j - p) (by omega)
  rw[show p+(j - p)=j by omega]at this;exact this.symm
 rw[AC h2]
theorem jT{pos:Nat}(hp:p<288)(h24:24<=pos)(hz:1<=z p)(hlen:pos+4<=8*b'.length)(hv:val b' pos 4=(z p).toNat)(hag:Ag b b' pos)
 (R:D8->Option ((Nat->Int) × Nat)) (h:∀f,Ag b f pos->R f=EZ (f.drop 3) (F+1) p (pos - 24) (zp z p)) :
 ∀f,Ag b' f (pos+4)->R f=EZ (f.drop 3) F (p+1) (pos+4 - 24) (zp z (p+1)):=by
 intro f hf;rw[h f (hag.trans (hf.mono (by omega)) (AB _))];have hl:(f.drop 3).length=f.length - 3:=Bo ..;have a1:=hf.len;have a0:val (f.drop 3) (pos - 24) 4=(z p).toNat:=by rw[Qj,show 8*3+(pos - 24)=pos by omega,hf.val pos 4 (by omega),hv]
 rw[fO _ _ _ _ _ hp (by omega) (by omega),a0,show((z p).toNat:Int)=z p by omega,lB,show pos - 24+4=pos+4 - 24 by omega]
theorem kV{pos k:Nat}(hp:p+k<288)(h24:24<=pos)(hz:∀i,i<k+1->z (p+i)=0)(hlen:pos+9<=8*b'.length)(hv:val b' pos 4=0)(hv2:val b' (pos+4) 5=k)(hag:Ag b b' pos)
 (R:D8->Option ((Nat->Int) × Nat)) (h:∀f,Ag b f pos->R f=EZ (f.drop 3) (F+1) p (pos - 24) (zp z p)) :
 ∀f,Ag b' f (pos+9)->R f=EZ (f.drop 3) F (p+1+k) (pos+9 - 24) (zp z (p+1+k)):=by
 intro f hf;rw[h f (hag.trans (hf.mono (by omega)) (AB _))];have hl:(f.drop 3).length=f.length - 3:=Bo ..;have a2:=hf.len;have a1:val (f.drop 3) (pos - 24) 4=0:=by rw[Qj,show 8*3+(pos - 24)=pos by omega,hf.val pos 4 (by omega),hv]
 have a0:val (f.drop 3) (pos - 24+4) 5=k:=by rw[Qj,show 8*3+(pos - 24+4)=pos+4 by omega,hf.val (pos+4) 5 (by omega),hv2]
 rw[XQ _ _ _ _ _ (by omega) (by omega) a1 (by omega) (by omega),a0,kY z p (k+1) hz,show p+(k+1)=p+1+k by omega,show pos - 24+9=pos+9 - 24 by omega]
def nz(z:Nat->Int):Nat->Nat
 | 0=>0
 | p+1=>nz z p+if z p=0 then 0 else 1
theorem oY(z:Nat->Int)(p k:Nat)(h:∀i,i<k->z (p+i)=0):nz z (p+k)=nz z p:=by
 induction k with
 | zero=>rfl
 | succ k ih=>rw[<-Cx,nz,ih (λi hi=>h i (by omega)),AE (h k (by omega))];rfl
theorem Z7(z:Nat->Int)(p:Nat):nz z p<=p:=by
 induction p with
 | zero=>exact AB _
 | succ p ih=>unfold nz;split<;>omega
def G8(s:Nat × Nat):Nat:=if s.1<256 then 1 else s.1 - 253
structure N6 (d:D8) (at_:Nat) (s:Nat × Nat):Prop where
 lt:s.1<288
 fit:at_+G8 s<=d.length
 byte:s.1<256->(d.getD at_ 0).toNat=s.1
 copy:¬s.1<256->1<=s.2/\s.2<=4096/\s.2<=at_/\∀i,i<s.1 - 253->d.getD (at_+i) 0=d.getD (at_+i - s.2) 0
theorem fT(d:D8)(n:Nat)(h:n<d.length):d.take (n+1)=d.take n++[d.getD n 0]:=by
 rw[Ah,AI,AD h];rfl
theorem iV(d:D8)(a back k:Nat)(hb:1<=back)(hba:back<=a)(hk:a+k<=d.length)(h:∀i,i<k->d.getD (a+i) 0=d.getD (a+i - back) 0):Li (d.take a) back k=d.take (a+k):=by
 induction k with
 | zero=>rfl
 | succ k ih =>
   rw[Li,ih (by omega) (λi hi=>h i (by omega)),<-Cx,fT d (a+k) (by omega),Ae,Ce (by omega),h k (by omega)]
   congr 2
   rw[AI,Ak (by omega),AI]
theorem X1{f:D8}{pos:Nat}(hi:i<288)(hz:1<=z i)(hl:pos+(z i).toNat<=8*f.length)(hv:val f pos (z i).toNat=num z 288 i):Gw f z pos 288=some i:=
 Rl f z pos i hi ((Ob f z pos i).2 ⟨hz,hl,hv.symm⟩)
theorem oj{pos:Nat}(h24:24<=pos)(hi:i<256)(hz:1<=z i)(ha:a<d.length)(hd:(d.getD a 0).toNat=i)(hlen:pos+(z i).toNat<=8*b'.length)(hv:val b' pos (z i).toNat=num z 288 i)(hag:Ag b b' pos)
 (R:D8->Option (D8 × Nat)) (h:∀f,Ag b f pos->R f=EX (f.drop 3) z 288 d.length (F+1) (d.take a) (pos - 24)) :
 ∀f,Ag b' f (pos+(z i).toNat)->R f=EX (f.drop 3) z 288 d.length F (d.take (a+1)) (pos+(z i).toNat - 24):=by
 intro f hf;rw[h f (hag.trans (hf.mono (by omega)) (AB _))];have hl:(f.drop 3).length=f.length - 3:=Bo ..;have a0:=hf.len;have hs:Gw (f.drop 3) z (pos - 24) 288=some i:=X1 (by omega) hz (by omega) (by rw[Qj,show 8*3+(pos - 24)=pos by omega,hf.val pos _ (by omega),hv]);rw[Wh _ _ _ _ _ _ _ i (by rw[Ae];omega) hs hi,fT d a ha,show pos - 24+(z i).toNat=pos+(z i).toNat - 24 by omega];rw[<-hd,UInt8.ofNat_toNat]
theorem mE{pos back:Nat}(h24:24<=pos)(hi:¬i<256)(hi2:i<288)(hz:1<=z i)(ha:a+(i - 253)<=d.length)(hb:1<=back)(hb2:back<=a)(hd:∀j,j<i - 253->d.getD (a+j) 0=d.getD (a+j - back) 0)(hlen:pos+(z i).toNat+12<=8*b'.length)(hv:val b' pos (z i).toNat=num z 288 i)(hv2:val b' (pos+(z i).toNat) 12=back - 1)(hag:Ag b b' pos)
 (R:D8->Option (D8 × Nat)) (h:∀f,Ag b f pos->R f=EX (f.drop 3) z 288 d.length (F+1) (d.take a) (pos - 24)) :
 ∀f,Ag b' f (pos+(z i).toNat+12)->R f=EX (f.drop 3) z 288 d.length F (d.take (a+(i - 253))) (pos+(z i).toNat+12 - 24):=by
 intro f hf;rw[h f (hag.trans (hf.mono (by omega)) (AB _))];have hl:(f.drop 3).length=f.length - 3:=Bo ..;have a2:=hf.len;have hs:Gw (f.drop 3) z (pos - 24) 288=some i:=X1 (by omega) hz (by omega) (by rw[Qj,show 8*3+(pos - 24)=pos by omega,hf.val pos _ (by omega),hv]);have a0:val (f.drop 3) (pos - 24+(z i).toNat) 12=back - 1:=by rw[Qj,show 8*3+(pos - 24+(z i).toNat)=pos+(z i).toNat by omega,hf.val _ 12 (by omega),hv2]
 have a1:(d.take a).length=a:=by rw[Ae];omega
 rw[Yb _ _ _ _ _ _ _ i (by omega) hs hi (by omega) (by rw[a0,a1];omega),a0,show back - 1+1=back by omega,iV d a back _ hb hb2 ha hd,show pos - 24+(z i).toNat+12=pos+(z i).toNat+12 - 24 by omega]
theorem sM(s:D8)(p k:Nat)(h:∀i,p<=i->bt s i=0):val s p k=0:=by
 induction k with
 | zero=>rfl
 | succ k ih=>rw[Me,ih,h _ (by omega)]
theorem ru{T:D8}{p1 p2:Nat}(h24:24<=p2)(hf:Fits z 288)(hw:Wr T p2)(hl:EZ (T.drop 3) 288 0 0 (λ_=>0)=some (z,p1 - 24))(hd:EX (T.drop 3) z 288 d.length d.length [] (p1 - 24)=some (d,p2 - 24)) :
 GL (T.drop 3) 288 d.length=some d:=by
 have a2:(T.drop 3).length=T.length - 3:=Bo ..;have a0:=hw.lo;have a1:=hw.hi;rw[Yv _ _ _ z (p1 - 24) (p2 - 24) d hl ((Vd z 288).2 hf) hd,AE];refine⟨by omega,sM _ _ _ λi hi => ?_⟩;rw[Yk];exact hw.zero _ (by omega)
end S1.Pk
namespace S1
open Go.RowKit Pk
variable {z:Nat->Int} {c c':D8} {p:Nat}
structure WL (z:Nat->Int) (c:D8) (p pos:Nat):Prop where
 hp:p<=288
 ps:∃ch,pos=24+4*nz z p+9*ch/\(32*ch<=p+32*nz z p\/(32*ch<=p+32*(nz z p+1)/\(p=288\/z p≠0)))
 rd:∃F,288<=p+F/\∀f,Ag c f pos->EZ (f.drop 3) 288 0 0 (λ_=>0)=EZ (f.drop 3) F p (pos - 24) (zp z p)
theorem WL.init(z:Nat->Int)(c:D8):WL z c 0 24:=
 ⟨by omega,⟨0,rfl,.inl (by omega)⟩,288,by omega,λf _=>by rw[l9]⟩
theorem WL.bound{pos:Nat}(h:WL z c p pos):24<=pos/\pos<=24+13*nz z p+90:=by
 obtain⟨ch,h1,h2⟩:=h.ps
 have:=h.hp
 omega
theorem WL.one{pos:Nat}(h:WL z c p pos)(hp:p<288)(hz:1<=z p)(hw:Wr c' (pos+4))(hv:val c' pos 4=(z p).toNat)(ha:Ag c c' pos):WL z c' (p+1) (pos+4):=by
 obtain⟨ch,h1,h2⟩:=h.ps;obtain⟨F,hF,hr⟩:=h.rd;have hn:nz z (p+1)=nz z p+1:=by rw[nz,AC (by omega)]
 obtain⟨F',rfl⟩:∃F',F=F'+1:=⟨F - 1,by omega⟩;exact⟨by omega,⟨ch,by omega,.inl (by omega)⟩,F',by omega,jT hp h.bound.1 hz hw.lo hv ha _ hr⟩
theorem WL.run{pos k:Nat}(h:WL z c p pos)(hp:p+k<288)(hk:k<=31)(hz:∀i,i<k+1->z (p+i)=0)(he:k=31\/p+1+k=288\/z (p+1+k)≠0)(hw:Wr c' (pos+9))(hv:val c' pos 4=0)(hv2:val c' (pos+4) 5=k)(ha:Ag c c' pos):WL z c' (p+1+k) (pos+9):=by
 obtain⟨ch,h1,h2⟩:=h.ps;obtain⟨F,hF,hr⟩:=h.rd;have hn:nz z (p+1+k)=nz z p:=by rw[show p+1+k=p+(k+1) by omega];exact oY z p (k+1) hz
 obtain⟨F',rfl⟩:∃F',F=F'+1:=⟨F - 1,by omega⟩;have a0:=hz 0 (by omega);rw[Br]at a0;have h3:32*ch<=p+32*nz z p:=by
  rcases h2 with h2 | ⟨_,h2 | h2⟩
  ·exact h2
  ·omega
  exact absurd a0 h2
 refine⟨by omega,⟨ch+1,by omega,?_⟩,F',by omega,kV hp h.bound.1 hz hw.lo hv hv2 ha _ hr⟩;rw[hn];rcases he with he | he | he
 ·left;omega
 ·right;exact⟨by omega,.inl he⟩
 right;exact⟨by omega,.inr he⟩
theorem WL.done{pos:Nat}(h:WL z c 288 pos)(hz:∀i,288<=i->z i=0):∀f,Ag c f pos->EZ (f.drop 3) 288 0 0 (λ_=>0)=some (z,pos - 24):=by
 intro f hf;obtain⟨F,hF,hr⟩:=h.rd;rw[hr f hf,YU,lQ z 288 hz]
theorem gR(w:D7)(B g lb:Nat)(b:D8)(z:Nat->Int)(hB:B<=w.heap.size)(hb:0<b.length)(hlb:lb<B)(hrow:w.rowIs lb 3 288 (λj=>.int .i64 (z j)))(hz:∀i,0<=z i/\z i<=12)(hz0:∀i,288<=i->z i=0)(h:BW w B g b 24) :
 Calls prog 249 #[.pointer (some ⟨g,0,none⟩),.slice (some ⟨lb,0,none⟩) 288 288] w λe w'=>e=.returned (.tuple #[])/\∃b' pos,BW w' B g b' pos/\Ag b b' 24/\24<=pos/\pos<=24+13*nz z 288+90/\(∀f,Ag b' f pos->EZ (f.drop 3) 288 0 0 (λ_=>0)=some (z,pos - 24))/\Below B w w':=by
 have Hh:=Jy h;have Hz:=Jy hz;have aM:=Jy hz0;have aw:=Jy hrow;clear hz hz0 h hrow;go_enter func249,ntmps249
 go_wp2
 go_loopw [4] (λi wr=>∃p pos:Nat,∃c,i=.int .i64 p/\Hid (WL z c p pos)/\Hid (BW wr B g c pos)/\Hid (Ag b c 24)/\Hid (Below B w wr)) (λi _=>288 - (intOf i).toNat)
 case atStart=>exact⟨0,24,b,rfl,WL.init z b,Hh,Ag.refl _ _,AM _ _⟩
 case round =>
  clear Hh;obtain⟨p,pos,c,rfl,Hw,aA,ax,ac⟩:=hrel;have hp:=Hw.o.hp;have ah:=Hw.o.bound;have aQ:=Z7 z p;by_cases az:p<288
  ·have aE:=(Mc aw.o ac.o hlb).cell (i:=p) az;have aK:=Hz.o p;obtain⟨n,hn⟩:∃n:Nat,z p=(n:Int):=⟨(z p).toNat,by omega⟩;have Hn:=Jy hn;rw[hn]at aE;have aP:n<=12:=by omega
   clear hn aK;have aO:B<=wr.heap.size:=AF hB ac.o.size;go_wp2_with fail;refine(fQ _ B g c pos n 4 aO (AR hb ax.o.len) (by omega) (by omega) (by omega) aA.o).mono ?_;rintro e w1 ⟨rfl,c1,ar,aC,aF,aH⟩;have a5:=Jy (ac.o.trans aH);have a6:=Mc aw.o a5.o hlb;have aG:=a6.cell (i:=p) az;rw[Hn.o]at aG;have ad:=Jy (ax.o.trans aC ah.1);have am:=Jy ar;have ao:=Jy aC;have an:=Jy aF;have aB:B<=w1.heap.size:=AF hB a5.o.size;clear ar aC aF aH aE ac ax aA;by_cases h0:n=0
   ·subst h0;go_wp2;have aD:∀i,i<288->w1.cell? ⟨lb,i,none⟩=some (.int .i64 (z i)):=λi hi=>a6.cell hi
    have av:=Jy aD;have aU:=Jy (λi=>(Hz.o i).1);clear aD a6 aG
    go_loopw [5] (λi wr=>∃q:Nat,i=.int .i64 q/\q<=31/\p+q<288/\Hid (∀j,j<q+1->z (p+j)=0)/\wr=w1) (λi _=>32 - (intOf i).toNat)
    case atStart=>exact⟨0,rfl,by omega,by omega,λj hj=>by rw[show p+j=p by omega];exact Hn.o,rfl⟩
    obtain⟨q,rfl,hq,aJ,Hq,rfl⟩:=hrel;have a9:Hid (q=31\/p+1+q=288\/z (p+1+q)≠0->∀c2,Wr c2 (pos+9)->Ag c1 c2 (pos+4)->val c2 (pos+4) 5=q->WL z c2 (p+q+1) (pos+9)):=λhe c2 aI a7 ae=>by
     rw[show p+q+1=p+1+q by omega];exact Hw.o.run aJ hq Hq.o he aI (by rw[a7.val pos 4 (AB _)];exact an.o) ae (ao.o.trans a7 (by omega))
    by_cases hg:q<31/\p+q+1<288/\z (p+q+1)=0
    ·obtain⟨g1,g2,g3⟩:=hg;have hx:=av.o (p+q+1) g2;rw[g3]at hx;have aN:Hid (∀j,j<q+1+1->z (p+j)=0):=λj hj=>by
      by_cases e:j=q+1
      ·subst e;exact g3
      exact Hq.o j (by omega)
     clear Hq g3 a9;have aV:decide ((q:Int)<31)=true:=by simp;omega
     have aT:decide ((p:Int)+(q:Int)+1<288)=true:=by simp;omega
     go_wp2;go_roundw
     case rel=>exact⟨q+1,by go_num,by omega,by omega,aN,by trivial⟩
     case measure=>simp[intOf];omega
    have a4:Hid (∀c2,Wr c2 (pos+9)->Ag c1 c2 (pos+4)->val c2 (pos+4) 5=q->WL z c2 (p+q+1) (pos+9)):=a9.o (by
     by_cases a:q=31
     ·exact .inl a
     by_cases b:p+1+q=288
     ·exact .inr (.inl b)
     refine .inr (.inr λh=>hg ⟨by omega,by omega,?_⟩);rw[show p+q+1=p+1+q by omega];exact h)
    clear a9 Hq;have au:=fQ wr B g c1 (pos+4) q 5 aB (AR hb ad.o.len) (by omega) (by omega) (by omega) am.o;have a8:=Jy au;clear au;have aL:(31<=q)\/(q<31/\p+q+1=288)\/(q<31/\p+q+1<288/\z (p+q+1)≠0):=by
     by_cases a:31<=q
     ·exact .inl a
     by_cases b:p+q+1=288
     ·exact .inr (.inl ⟨by omega,b⟩)
     exact .inr (.inr ⟨by omega,by omega,λh=>hg ⟨by omega,by omega,h⟩⟩)
    clear hg;rcases aL with a | ⟨a,b⟩ | ⟨a,b,c0⟩
    focus
     have a1:decide ((q:Int)<31)=false:=by simp;omega
     go_wp2_with fail;refine a8.o.mono ?_;rintro e w2 ⟨rfl,c2,a0,a7,ae,af⟩;have aj:=Jy (a4.o c2 a0.wr a7 ae);have ai:=Jy (ad.o.trans a7 (by omega));have aa:=Jy (a5.o.trans af);have ag:=Jy a0;clear a0 a7 ae af a8 a4 av an ao
    rotate_left
    focus
     have a1:decide ((q:Int)<31)=true:=by simp;omega
     have a2:decide ((p:Int)+(q:Int)+1<288)=false:=by simp;omega
     go_wp2_with fail;refine a8.o.mono ?_;rintro e w2 ⟨rfl,c2,a0,a7,ae,af⟩;have aj:=Jy (a4.o c2 a0.wr a7 ae);have ai:=Jy (ad.o.trans a7 (by omega));have aa:=Jy (a5.o.trans af);have ag:=Jy a0;clear a0 a7 ae af a8 a4 av an ao
    rotate_left
    focus
     have a1:decide ((q:Int)<31)=true:=by simp;omega
     have a2:decide ((p:Int)+(q:Int)+1<288)=true:=by simp;omega
     have hx:=av.o (p+q+1) b;have aR:=Hz.o (p+q+1);have a3:(z (p+q+1)==0)=false:=by simp;exact c0
     clear c0
     generalize z (p+q+1)=y at *
     go_wp2_with fail;refine a8.o.mono ?_;rintro e w2 ⟨rfl,c2,a0,a7,ae,af⟩;have aj:=Jy (a4.o c2 a0.wr a7 ae);have ai:=Jy (ad.o.trans a7 (by omega));have aa:=Jy (a5.o.trans af);have ag:=Jy a0;clear a0 a7 ae af a8 a4 av an ao hx
    rotate_left
    all_goals
     go_wp2;go_roundw
     case rel=>exact⟨p+q+1,pos+9,c2,by go_num,aj,ag,ai,aa⟩
     case measure=>simp[intOf];omega
   have aS:(0:Int)<(n:Int):=by omega
   have a9:=Jy (Hw.o.one az (by have:=Hn.o;omega) am.o.wr (by rw[an.o,Hn.o];rfl) ao.o);clear Hw Hn an ao a6;go_wp2;go_roundw
   case rel=>exact⟨p+1,pos+4,c1,by go_num,a9,am,ad,a5⟩
   case measure=>simp[intOf];omega
  have ay:p=288:=by omega
  subst ay;go_wp2;go_end0
  exact⟨rfl,c,pos,aA.o,ax.o,ah.1,ah.2,Hw.o.done aM.o,ac.o⟩
end S1
namespace S1.Pk
open Go
structure Eo where
 wt:Nat
 tn:Nat
 b:Nat
 n:Nat
 c:Nat
def Eo.v(e:Eo):Value:=.slice (some ⟨e.b,0,none⟩) e.n e.c
def FP:Eo:=⟨0,0,0,0,0⟩
def Gt:List Eo->List Value
 | []=>[]
 | e :: es=>.int .i64 e.wt :: .int .i64 e.tn :: e.v :: Gt es
theorem tB(es:List Eo):(Gt es).length=es.length*3:=by
 induction es with
 | nil=>rfl
 | cons e es ih=>simp[Gt,ih];omega
theorem oP(a b:List Eo):Gt (a++b)=Gt a++Gt b:=by
 induction a with
 | nil=>rfl
 | cons e a ih=>simp[Gt,ih]
theorem QH(es:List Eo)(i:Nat)(h:i<es.length) :
 (Gt es)[3*i]? = some (.int .i64 ((es.getD i FP).wt:Nat))/\(Gt es)[3*i+1]? = some (.int .i64 ((es.getD i FP).tn:Nat))/\(Gt es)[3*i+2]? = some (es.getD i FP).v:=by
 induction es generalizing i with
 | nil=>simp at h
 | cons e es ih =>
   cases i with
   | zero=>simp[Gt]
   | succ i =>
     have:=ih i (by simpa using h)
     rw[show 3*(i+1)=3*i+1+1+1 by omega,show 3*i+1+1+1+1=(3*i+1)+1+1+1 by omega,show 3*i+1+1+1+2=(3*i+2)+1+1+1 by omega];simpa[Gt]using this
theorem gK(es:List Eo)(i:Nat)(e:Eo) :
 (((Gt es).set (3*i) (.int .i64 e.wt)).set (3*i+1) (.int .i64 e.tn)).set (3*i+2) e.v=Gt (es.set i e):=by
 induction es generalizing i with
 | nil=>simp[Gt]
 | cons x es ih =>
   cases i with
   | zero=>simp[Gt]
   | succ i =>
     have:=ih i
     rw[show 3*(i+1)=3*i+1+1+1 by omega,show 3*i+1+1+1+1=(3*i+1)+1+1+1 by omega,show 3*i+1+1+1+2=(3*i+2)+1+1+1 by omega];simpa[Gt]using this
theorem i6(es:List Eo)(k:Nat):(Gt es).take (k*3)=Gt (es.take k):=by
 induction es generalizing k with
 | nil=>simp[Gt]
 | cons x es ih =>
   cases k with
   | zero=>simp[Gt]
   | succ k=>rw[Cg,show k*3+1*3=k*3+1+1+1 by omega];simp[Gt,ih]
def wa(es:List Eo)(i:Nat):Nat:=(es.getD i FP).wt
def swp(es:List Eo)(i j:Nat):List Eo:=(es.set i (es.getD j FP)).set j (es.getD i FP)
theorem OC(es:List Eo)(i j:Nat):(swp es i j).length=es.length:=by simp[swp]
theorem Yz(es:List Eo)(i j:Nat)(hi:i<es.length)(hj:j<es.length):List.Perm (swp es i j) es:=by
 have:=List.set_set_perm hi hj
 unfold swp;rw[AI,AD hj,AI,AD hi];exact this
theorem Oz(es:List Eo)(i j k:Nat)(hi:i<es.length)(hj:j<es.length):wa (swp es i j) k=if k=j then wa es i else if k=i then wa es j else wa es k:=by
 unfold wa swp;rw[AI,List.getElem?_set];by_cases h:j=k
 ·subst h;simp[hi,hj]
 rw[AC h,AC (λe=>h e.symm),List.getElem?_set];by_cases h2:i=k
 ·subst h2;simp[hi,hj]
 rw[AC h2,AC (λe=>h2 e.symm),AI]
def JE(es:List Eo):Prop:=∀i,0<i->i<es.length->wa es ((i - 1)/2)<=wa es i
structure RI (es:List Eo) (a:Nat):Prop where
 all:∀i,0<i->i<es.length->i≠a->wa es ((i - 1)/2)<=wa es i
 skip:∀i,0<i->i<es.length->(i - 1)/2=a->0<a->wa es ((a - 1)/2)<=wa es i
structure SI (es:List Eo) (a:Nat):Prop where
 all:∀i,0<i->i<es.length->(i - 1)/2≠a->wa es ((i - 1)/2)<=wa es i
 skip:∀i,0<i->i<es.length->(i - 1)/2=a->0<a->wa es ((a - 1)/2)<=wa es i
theorem oo{es:List Eo}{a:Nat}(h:RI es a)(h0:0<a)(ha:a<es.length)(hw:wa es a<=wa es ((a - 1)/2)):RI (swp es a ((a - 1)/2)) ((a - 1)/2):=by
 have hb:(a - 1)/2<es.length:=by omega
 obtain⟨b,a0⟩:=Jq ((a - 1)/2);rw[<-a0]at hw hb ⊢
 constructor
 ·intro i h1 h2 h3;rw[OC]at h2;rw[Oz es a b _ ha hb,Oz es a b _ ha hb];rw[AC h3];by_cases e:i=a
  ·subst e;rw[AE a0.symm,AE rfl];exact hw
  rw[AC e];have hi:=h.all i h1 h2 e;by_cases e1:(i - 1)/2=b
  ·rw[AE e1];rw[e1]at hi;omega
  rw[AC e1];by_cases e2:(i - 1)/2=a
  ·rw[AE e2]
   have:=h.skip i h1 h2 e2 h0
   rw[<-a0]at this;exact this
  rw[AC e2];exact hi
 intro i h1 h2 h3 h4;rw[OC]at h2;rw[Oz es a b _ ha hb,Oz es a b _ ha hb];have a1:=h.all b h4 hb (by omega);rw[AC (by omega),AC (by omega:¬(b - 1)/2=a)];by_cases e:i=b
 ·omega
 rw[AC e];by_cases e2:i=a
 ·rw[AE e2];exact a1
 rw[AC e2];have hi:=h.all i h1 h2 e2;rw[h3]at hi;omega
theorem Z1{es:List Eo}{a:Nat}(h:RI es a)(hw:a=0\/wa es ((a - 1)/2)<=wa es a):JE es:=by
 intro i h1 h2;by_cases e:i=a
 ·subst e;rcases hw with hw | hw
  ·omega
  exact hw
 exact h.all i h1 h2 e
theorem gX{es:List Eo}{a b:Nat}(h:SI es a)(hab:(b - 1)/2=a)(h0:0<b)(hb:b<es.length)(hw:wa es b<=wa es a)(hc:∀i,0<i->i<es.length->(i - 1)/2=a->wa es b<=wa es i):SI (swp es a b) b:=by
 have ha:a<es.length:=by omega
 constructor
 ·intro i h1 h2 h3;rw[OC]at h2;rw[Oz es a b _ ha hb,Oz es a b _ ha hb];rw[AC h3];by_cases e:i=b
  ·subst e;rw[AE hab,AE rfl];exact hw
  rw[AC e];by_cases e1:(i - 1)/2=a
  ·rw[AE e1,AC (by omega)];exact hc i h1 h2 e1
  rw[AC e1];have hi:=h.all i h1 h2 e1;by_cases e2:i=a
  ·rw[AE e2,e2]
   have:=h.skip b h0 hb hab (by omega)
   exact this
  rw[AC e2];exact hi
 intro i h1 h2 h3 h4;rw[OC]at h2;rw[Oz es a b _ ha hb,Oz es a b _ ha hb];rw[AC (by omega),AE hab,AC (by omega),AC (by omega)]
 have:=h.all i h1 h2 (by omega)
 rw[h3]at this;exact this
theorem iP{es:List Eo}{a:Nat}(h:SI es a)(hc:∀i,0<i->i<es.length->(i - 1)/2=a->wa es a<=wa es i):JE es:=by
 intro i h1 h2;by_cases e:(i - 1)/2=a
 ·rw[e];exact hc i h1 h2 e
 exact h.all i h1 h2 e
theorem fo{es:List Eo}(h:JE es):∀i,i<es.length->wa es 0<=wa es i:=by
 intro i
 induction i using Nat.strongRecOn with
 | _ i ih =>
   intro hi;by_cases e:i=0
   ·subst e;exact AB _
   exact AF (ih ((i - 1)/2) (by omega) (by omega)) (h i (by omega) hi)
theorem Yl(es:List Eo)(e:Eo)(i:Nat)(h:i<es.length):wa (es++[e]) i=wa es i:=by
 unfold wa;rw[AI,Ax h,AI]
theorem mN{es:List Eo}(h:JE es)(e:Eo):RI (es++[e]) es.length:=by
 constructor
 ·intro i h1 h2 h3;have a0:i<es.length:=by simp at h2;omega
  rw[Yl es e i a0,Yl es e _ (by omega)];exact h i h1 a0
 intro i h1 h2 h3 h4;simp at h2;omega
def FM(es:List Eo):List Eo:=(es.set 0 (es.getD (es.length - 1) FP)).take (es.length - 1)
theorem Ua(es:List Eo):(FM es).length=es.length - 1:=by simp[FM]
theorem Xh(es:List Eo)(i:Nat)(h:0<i)(hi:i<es.length - 1):wa (FM es) i=wa es i:=by
 unfold wa FM;rw[AI,Ak hi,DU (by omega),AI]
theorem kU{es:List Eo}(h:JE es):SI (FM es) 0:=by
 constructor
 ·intro i h1 h2 h3;rw[Ua]at h2;rw[Xh es i h1 h2,Xh es _ (by omega) (by omega)];exact h i h1 (by omega)
 intro i h1 h2 h3 h4;omega
theorem Zf(e:Eo)(r:List Eo):List.Perm (FM (e :: r)) r:=by
 cases h:r.reverse with
 | nil =>
   have:r=[]:=by simpa using h
   subst this;exact List.Perm.refl _
 | cons x l =>
   have hr:r=l.reverse++[x]:=by
    have:=AV List.reverse h
    simpa using this
   subst hr
   have:FM (e :: (l.reverse++[x]))=x :: l.reverse:=by
    unfold FM;have hx:(e :: (l.reverse++[x])).getD ((e :: (l.reverse++[x])).length - 1) FP=x:=by
     rw[AI];simp[List.getElem?_cons]
    rw[hx];simp[List.take_append]
   rw[this];exact(List.perm_append_singleton x _).symm
end S1.Pk
namespace S1
open Go.RowKit Pk
theorem Zo(w:D7)(p s q t:Nat)(x y:Value):Calls prog 338 #[.agg #[.int .i64 p,.int .i64 s,x],.agg #[.int .i64 q,.int .i64 t,y]] w λe w'=>∃r:Bool,e=.returned (.bool r)/\(r=true->p<=q)/\(r=false->q<=p)/\∃c d,w'=(w.alloc c).alloc d:=by
 by_cases h:(p:Int)=(q:Int)
 ·have h1:((p:Int) != (q:Int))=false:=by simp[h]
  go_enter func338,ntmps338
  go_wp2;go_ret
  exact⟨_,rfl,by omega,by omega,_,_,rfl⟩
 have h1:((p:Int) != (q:Int))=true:=by simp[h]
 go_enter func338,ntmps338
 go_wp2;go_ret
 exact⟨_,rfl,by intro h2;simp at h2;omega,by intro h2;simp at h2;omega,_,_,rfl⟩
structure QM (w:D7) (B qb:Nat) (es:List Eo) (pu:Nat):Prop where
 hB:B<=qb
 st:∃v,w.heap[qb]? = some (.cells #[v,.int .i64 pu] 341 (0,0))/\w.ownsRow B 344 3 v es.length (Gt es)
structure Fr (B:Nat) (w w':D7):Prop where
 Gr:Below B w w'
 ints:Dm 3 w w'
theorem Fr.refl(B:Nat)(w:D7):Fr B w w:=⟨AM _ _,Dm.refl _ _⟩
theorem Fr.trans{B:Nat}{a b c:D7}(h:Fr B a b)(k:Fr B b c):Fr B a c:=⟨h.Gr.trans k.Gr,h.ints.trans k.ints⟩
theorem Uq{w:D7}{B n:Nat}{e:TypeId}{v:Value}{xs:List Value}(h:w.ownsRow B e 3 v n xs)(hn:0<n):∃r cap,v=.slice (some ⟨r,0,none⟩) n cap/\B<=r/\n<=cap:=by
 rcases h.2 with⟨rfl,rfl⟩ | ⟨g,cap,cur,rfl,h2,h3,h4,_⟩
 ·omega
 exact⟨g,cap,rfl,h2,h4⟩
theorem QM.of{w w':D7}{B qb:Nat}{es:List Eo}{pu:Nat}(h:QM w B qb es pu)(hb:∀k,k<w.heap.size->w'.heap[k]? = w.heap[k]?):QM w' B qb es pu:=by
 obtain⟨v,h1,h2⟩:=h.st;refine⟨h.hB,v,(hb qb (lt_of_heap h1)).trans h1,h2.1,?_⟩;rcases h2.2 with h3 | ⟨g,cap,cur,h3,h4,h5,h6⟩
 ·exact .inl h3
 exact .inr ⟨g,cap,cur,h3,h4,(hb g (lt_of_heap h5)).trans h5,h6⟩
theorem Fr.alloc{B:Nat}{a b:D7}(h:Fr B a b)(hB:B<=b.heap.size)(o:Obj):Fr B a (b.alloc o):=⟨h.Gr.alloc hB o,h.ints.alloc o⟩
theorem Fr.drew{B:Nat}{a b:D7}(h:Fr B a b):Fr B a b.drew:=⟨h.Gr.drew,h.ints.drew⟩
theorem Fr.size{B:Nat}{a b:D7}(h:Fr B a b)(hB:B<=a.heap.size):B<=b.heap.size:=AF hB h.Gr.size
theorem QT(w:D7)(o1 o2:Obj)(k:Nat)(hk:k<w.heap.size):((w.alloc o1).alloc o2).drew.heap[k]? = w.heap[k]? := by
 show((w.alloc o1).alloc o2).heap[k]? = _;rw[AO _ _ k (by simp;omega),AO _ _ k hk]
theorem QM.drew{w:D7}{B qb:Nat}{es:List Eo}{pu:Nat}(h:QM w B qb es pu):QM w.drew B qb es pu:=h.of λ_ _=>rfl
theorem QM.make{w:D7}{B qb:Nat}{es:List Eo}{pu n:Nat}{v:Value}(hB:B<=qb)(h:w.heap[qb]? = some (.cells #[v,.int .i64 pu] 341 (0,0)))(hn:es.length=n)(ho:w.ownsRow B 344 3 v n (Gt es)):QM w B qb es pu:=by
 subst hn;exact⟨hB,v,h,ho⟩
def EA(W:D7)(r i:Nat)(e:Eo):D7:=((W.setCell ⟨r,i*3,none⟩ (.int .i64 e.wt)).setCell ⟨r,i*3+1,none⟩ (.int .i64 e.tn)).setCell ⟨r,i*3+2,none⟩ (.slice (some ⟨e.b,0,none⟩) e.n e.c)
theorem Rm{W:D7}{B n r cap:Nat}{xs:List Eo}(h:W.ownsRow B 344 3 (.slice (some ⟨r,0,none⟩) n cap) n (Gt xs))(i:Nat)(e:Eo):(EA W r i e).ownsRow B 344 3 (.slice (some ⟨r,0,none⟩) n cap) n (Gt (xs.set i e)):=by
 have h1:=(h.stored (i*3) (.int .i64 e.wt)).1;have h2:=(h1.stored (i*3+1) (.int .i64 e.tn)).1;have h3:=(h2.stored (i*3+2) (.slice (some ⟨e.b,0,none⟩) e.n e.c)).1
 have:=gK xs i e
 rw[BG 3 i]at this;rw[<-this];exact h3
theorem Mh(W:D7)(r i:Nat)(e:Eo)(k:Nat)(hk:k≠r):(EA W r i e).heap[k]? = W.heap[k]? := by
 unfold EA;rw[AH _ _ _ k hk,AH _ _ _ k hk,AH _ _ _ k hk]
theorem Qp{B:Nat}{a W:D7}{v:Value}{n r cap:Nat}{xs:List Value}(h:Fr B a W)(ho:W.ownsRow B 344 3 (.slice (some ⟨r,0,none⟩) n cap) n xs)(i:Nat)(e:Eo):Fr B a (EA W r i e):=by
 have hr:B<=r:=(ho.lt r rfl).1;refine⟨((h.Gr.setCell (p:=⟨r,i*3,none⟩) hr _).setCell (p:=⟨r,i*3+1,none⟩) hr _).setCell (p:=⟨r,i*3+2,none⟩) hr _,?_⟩;obtain⟨_,_,hk⟩:=Lib.ownsRow_kind ho r rfl;refine h.ints.trans λk x f e2=>Mh W r i e k ?_
 intro ee;subst ee;rw[hk]at e2;simp at e2
theorem r8(w:D7)(B qb:Nat)(es:List Eo)(pu a:Nat)(hB:B<=w.heap.size)(hes:es.length<=1000)(ha:a<es.length)(hri:RI es a)(h:QM w B qb es pu) :
 Calls prog 330 #[.pointer (some ⟨qb,0,none⟩),.int .i64 a] w λe w'=>e=.returned (.tuple #[])/\∃es',List.Perm es' es/\Pk.JE es'/\QM w' B qb es' pu/\Fr B w w':=by
 have a4:=Jy hri;have Hq:=Jy h;clear hri h;go_enter func330,ntmps330
 go_wp2
 go_loopw [1] (λi wr=>∃b:Nat,∃xs,i=.int .i64 b/\b<xs.length/\xs.length=es.length/\Hid (RI xs b)/\Hid (List.Perm xs es)/\Hid (QM wr B qb xs pu)/\Hid (Fr B w wr)) (λi _=>(intOf i).toNat)
 case atStart=>exact⟨a,es,rfl,ha,rfl,a4,List.Perm.refl _,Hq,Fr.refl _ _⟩
 case round =>
  clear a4 Hq ha;obtain⟨b,xs,rfl,hb,a7,a4,Hp,Hq,Hf⟩:=hrel;by_cases h0:b=0
  ·subst h0;go_wp2;go_end0
   exact⟨rfl,xs,Hp.o,Z1 a4.o (.inl rfl),Hq.o,Hf.o⟩
  have aL:(0:Int)<(b:Int):=by omega
  obtain⟨v,a2,a0⟩:=Hq.o.st;have aF:=Hq.o.hB;obtain⟨r,an,rfl,hr,a5⟩:=Uq a0 (by omega);obtain⟨c,hc⟩:=Jq ((b - 1)/2);have x0:wr.cell? ⟨qb,0,none⟩=some (.slice (some ⟨r,0,none⟩) xs.length an):=by rw[AG wr qb 0 _ 341 (0,0) a2];rfl
  obtain⟨g1,g2,g3⟩:=QH xs b hb;obtain⟨k1,k2,k3⟩:=QH xs c (by omega);have aJ:c<xs.length:=by omega
  obtain⟨eb,aj⟩:∃e,e=xs.getD b FP:=⟨_,rfl⟩;obtain⟨ec,ag⟩:∃e,e=xs.getD c FP:=⟨_,rfl⟩;rw[<-aj]at g1 g2 g3;rw[<-ag]at k1 k2 k3;have y1:wr.cell? ⟨r,b*3,none⟩=some (.int .i64 eb.wt):=by rw[a0.cellAt (b*3) (by omega),BG];exact g1
  have y2:wr.cell? ⟨r,b*3+1,none⟩=some (.int .i64 eb.tn):=by rw[a0.cellAt (b*3+1) (by omega),BG];exact g2
  have y3:wr.cell? ⟨r,b*3+2,none⟩=some (.slice (some ⟨eb.b,0,none⟩) eb.n eb.c):=by rw[a0.cellAt (b*3+2) (by omega),BG];exact g3
  have z1:wr.cell? ⟨r,c*3,none⟩=some (.int .i64 ec.wt):=by rw[a0.cellAt (c*3) (by omega),BG];exact k1
  have z2:wr.cell? ⟨r,c*3+1,none⟩=some (.int .i64 ec.tn):=by rw[a0.cellAt (c*3+1) (by omega),BG];exact k2
  have z3:wr.cell? ⟨r,c*3+2,none⟩=some (.slice (some ⟨ec.b,0,none⟩) ec.n ec.c):=by rw[a0.cellAt (c*3+2) (by omega),BG];exact k3
  have a8:=Jy aj;have a9:=Jy ag;obtain⟨n,hn⟩:=Jq xs.length;have ac:((b:Int) - 1)/2=(c:Int):=by omega
  have a6:=Jy a2;have a1:=Jy a0;have Hc:=Jy hc;have af:=Jy a7;have a3:xs.length<=1000:=by omega
  rw[<-hn]at x0 aJ hb a3;have Hn:=Jy hn;clear g1 g2 g3 k1 k2 k3 a2 a0 hc a7 aj ag hn a5 hes;go_wp2;rw[ac];go_region_held3 (λw'=>w'.cell? ⟨qb,0,none⟩=some (.slice (some ⟨r,0,none⟩) n an)/\w'.cell? ⟨r,b*3,none⟩=some (.int .i64 eb.wt)/\w'.cell? ⟨r,b*3+1,none⟩=some (.int .i64 eb.tn)/\w'.cell? ⟨r,b*3+2,none⟩=some (.slice (some ⟨eb.b,0,none⟩) eb.n eb.c)/\w'.cell? ⟨r,c*3,none⟩=some (.int .i64 ec.wt)/\w'.cell? ⟨r,c*3+1,none⟩=some (.int .i64 ec.tn)/\w'.cell? ⟨r,c*3+2,none⟩=some (.slice (some ⟨ec.b,0,none⟩) ec.n ec.c)) (go_keep) (first | (go_at_call 338;refine(Zo _ eb.wt eb.tn ec.wt ec.tn (.slice (some ⟨eb.b,0,none⟩) eb.n eb.c) (.slice (some ⟨ec.b,0,none⟩) ec.n ec.c)).mono ?_;rintro e w' ⟨rr,rfl,az,aw,o1,o2,rfl⟩));have ah:=Jy (Hq.o.of (QT wr o1 o2))
  have ai:=Jy (((Hf.o.alloc (Hf.o.size hB) o1).alloc (by have:=Hf.o.size hB;simp;omega) o2).drew);rename_i hHeld;clear hHeld x0 y1 y2 y3 z1 z2 z3 a6 a1 Hq Hf
  generalize ((wr.alloc o1).alloc o2).drew=W at *
  cases rr with
  | false =>
    go_wp2
    ((try simp only[Exit.inBlock,Exit.then]);refine Au (CJ rfl _ _ _) rfl ?_)
    refine⟨rfl,xs,Hp.o,Z1 a4.o (.inr ?_),ah.o,ai.o⟩
    have:=aw (by trivial)
    rw[<-Hc.o];unfold wa;rw[<-a8.o,<-a9.o];exact this
  | true =>
    have ar:=az (by trivial);have aB:Hid (wa xs b<=wa xs ((b - 1)/2)):=by
     show _<=_;rw[<-Hc.o];unfold wa;rw[<-a8.o,<-a9.o];exact ar
    clear az aw ar;obtain⟨v,a2,a0⟩:=ah.o.st;obtain⟨r2,ad,rfl,aK,a5⟩:=Uq a0 (by have:=Hn.o;omega);obtain⟨g1,g2,g3⟩:=QH xs b (by have:=Hn.o;omega);obtain⟨k1,k2,k3⟩:=QH xs c (by have:=Hn.o;omega);rw[<-a8.o]at g1 g2 g3;rw[<-a9.o]at k1 k2 k3;rw[<-Hn.o]at a2 a0;have x0:W.cell? ⟨qb,0,none⟩=some (.slice (some ⟨r2,0,none⟩) n ad):=by rw[AG W qb 0 _ 341 (0,0) a2];rfl
    have y1:W.cell? ⟨r2,b*3,none⟩=some (.int .i64 eb.wt):=by rw[a0.cellAt (b*3) (by omega),BG];exact g1
    have y2:W.cell? ⟨r2,b*3+1,none⟩=some (.int .i64 eb.tn):=by rw[a0.cellAt (b*3+1) (by omega),BG];exact g2
    have y3:W.cell? ⟨r2,b*3+2,none⟩=some (.slice (some ⟨eb.b,0,none⟩) eb.n eb.c):=by rw[a0.cellAt (b*3+2) (by omega),BG];exact g3
    have z1:W.cell? ⟨r2,c*3,none⟩=some (.int .i64 ec.wt):=by rw[a0.cellAt (c*3) (by omega),BG];exact k1
    have z2:W.cell? ⟨r2,c*3+1,none⟩=some (.int .i64 ec.tn):=by rw[a0.cellAt (c*3+1) (by omega),BG];exact k2
    have z3:W.cell? ⟨r2,c*3+2,none⟩=some (.slice (some ⟨ec.b,0,none⟩) ec.n ec.c):=by rw[a0.cellAt (c*3+2) (by omega),BG];exact k3
    have f1:=a0.frozenAt (b*3);have f2:=a0.frozenAt (b*3+1);have f3:=a0.frozenAt (b*3+2);have f4:=a0.frozenAt (c*3);have f5:=a0.frozenAt (c*3+1);have f6:=a0.frozenAt (c*3+2);have a6:=Jy a2;have a1:=Jy a0;clear a2 a0 g1 g2 g3 k1 k2 k3 a5;go_wp2;go_region;have av:qb≠r2:=by
     intro e;subst e;obtain⟨_,_,hk⟩:=Lib.ownsRow_kind a1.o qb rfl;rw[a6.o]at hk;simp at hk
    have ae:=Rm a1.o b ec;have aa:=Rm ae c eb;have au:Fr B w (EA (EA W r2 b ec) r2 c eb):=Qp (v:=.slice none 0 0) (Qp (v:=.slice none 0 0) ai.o a1.o b ec) ae c eb;have ao:(xs.set b ec).set c eb=swp xs b c:=by unfold swp;rw[a8.o,a9.o]
    have ax:(EA (EA W r2 b ec) r2 c eb).heap[qb]? = W.heap[qb]? := (Mh _ _ _ _ _ av).trans (Mh _ _ _ _ _ av);rw[ao]at aa;have aD:(swp xs b c).length=n:=by rw[OC,Hn.o]
    have aE:=QM.make aF (ax.trans a6.o) aD aa;have aI:=Jy aE.drew;have aA:=Jy au.drew;have am:Hid (RI (swp xs b c) c):=by
     have:=oo a4.o (by omega) (by have:=Hn.o;omega) aB.o
     rw[<-Hc.o]at this;exact this
    have aH:Hid (List.Perm (swp xs b c) es):=(Yz xs b c (by have:=Hn.o;omega) (by have:=Hn.o;omega)).trans Hp.o;have ay:(swp xs b c).length=es.length:=by rw[OC,af.o]
    have aG:c<(swp xs b c).length:=by omega
    have Fg:c<b:=by have:=Hc.o;omega
    have HW:Hid (EA (EA W r2 b ec) r2 c eb=((((((W.setCell ⟨r2,b*3,none⟩ (.int .i64 ec.wt)).setCell ⟨r2,b*3+1,none⟩ (.int .i64 ec.tn)).setCell ⟨r2,b*3+2,none⟩ (.slice (some ⟨ec.b,0,none⟩) ec.n ec.c)).setCell ⟨r2,c*3,none⟩ (.int .i64 eb.wt)).setCell ⟨r2,c*3+1,none⟩ (.int .i64 eb.tn)).setCell ⟨r2,c*3+2,none⟩ (.slice (some ⟨eb.b,0,none⟩) eb.n eb.c))):=rfl;rw[<-HW.o];clear ae aa au ao ax HW x0 y1 y2 y3 z1 z2 z3 f1 f2 f3 f4 f5 f6 a6 a1 ah ai Hp a4
    generalize (EA (EA W r2 b ec) r2 c eb).drew=W3 at *
    have aC:=Jy ay;clear ay;go_wp2;go_roundw
    case rel=>exact⟨c,swp xs b c,rfl,aG,aC.o,am,aH,aI,aA⟩
    case measure=>simp[intOf];omega
end S1
end Go.Proofs.YtodmdkhdbfbfgaaGreatDoor
