/- Lemmas. -/
import Derived.Lib.UnsafeStr
import Derived.Lib.Buffer
import Derived.Test.YtodmdkhdbfbfgaaGreatDoorRows
import Derived.SizedLaws
import Derived.ProofKit
import Derived.OpenShut
import Derived.JoinedCond
import Derived.ShutString
import Derived.ChangeOld
import Derived.Deep.Slices
import Derived.Test.YtodmdkhdbfbfgaaGreatDoorCards
import Derived.Test.YtodmdkhdbfbfgaaGreatDoorM30
import Derived.Test.YtodmdkhdbfbfgaaGreatDoorM31
set_option linter.unusedVariables false
set_option linter.unusedSimpArgs false
set_option maxRecDepth 100000
set_option maxHeartbeats 8000000
open Go.Proofs.Tryz
abbrev Go.DQ:=@Go.DataW.trod_string
namespace Go.Proofs.YtodmdkhdbfbfgaaGreatDoor
namespace S1
open Go.RowKit Pk
variable {d c c':D8} {ln:Nat->Nat} {l:List (Nat × Nat)} {p1 k:Nat}
def UE(d:D8)(w:D7)(e:Ending)(w':D7):Prop:=∃T,e=.returned (.string (D9 T))/\Gq 288 T=some d/\T.length<=50000/\(∀c,(∀i,i<d.length->(d.getD i 0).toNat=c)->T.length<=40+d.length/16)/\Below w.heap.size w w'
theorem gS(s:Nat × Nat)(h:s.1<256\/254<=s.1):1<=Pk.G8 s:=by unfold Pk.G8;split<;>omega
theorem Tv(l:List (Nat × Nat))(k:Nat)(hk:k<=l.length):k<=Gv l k:=by
 induction k with
 | zero=>omega
 | succ k ih =>
   rw[VT l k (by omega)]
   have:=gS (l.getD k (0,0)) (by omega)
   have:=ih (by omega);omega
theorem XT(f:(Nat × Nat)->Nat)(l:List (Nat × Nat))(k:Nat)(h:k<l.length):EG f (l.take (k+1))=EG f (l.take k)+f (l.getD k (0,0)):=by
 rw[Ah,AD h,PC,AI,AD h];simp[EG]
theorem sx(l:List (Nat × Nat))(k:Nat)(h:k<l.length):l.getD k (0,0)∈l:=by
 rw[AI,AD h];exact Bp h
structure WS (d:D8) (ln:Nat->Nat) (l:List (Nat × Nat)) (p1:Nat) (c:D8) (k pos:Nat):Prop where
 ps:pos=p1+EG (K8 ln) (l.take k)
 rd:∀f,Ag c f pos->EX (f.drop 3) (λi=>(ln i:Int)) 288 d.length d.length [] (p1 - 24)=EX (f.drop 3) (λi=>(ln i:Int)) 288 d.length (d.length - k) (d.take (Gv l k)) (pos - 24)
theorem WS.init(d:D8)(ln:Nat->Nat)(l:List (Nat × Nat))(p1:Nat)(c:D8):WS d ln l p1 c 0 p1:=⟨by simp[EG],λf _=>by simp[Gv,EG]⟩
theorem WS.byte{pos:Nat}(h:WS d ln l p1 c k pos)(hk:k<l.length)(h24:24<=p1)(hok:Mn d l d.length)(hs:(l.getD k (0,0)).1<256)(hln:1<=ln (l.getD k (0,0)).1)
 (hw:Wr c' (pos+ln (l.getD k (0,0)).1)) (ha:Ag c c' pos) (hv:val c' pos (ln (l.getD k (0,0)).1)=num (λi=>(ln i:Int)) 288 (l.getD k (0,0)).1):WS d ln l p1 c' (k+1) (pos+ln (l.getD k (0,0)).1):=by
 have a3:=h.ps;have a2:=hok.ok k hk;have a4:=Tv l k (by omega);have a1:Pk.G8 (l.getD k (0,0))=1:=by unfold Pk.G8;rw[AE hs]
 have a0:=a2.fit;rw[a1]at a0;refine⟨?_,?_⟩
 ·rw[XT _ l k hk,a3];unfold K8;rw[AE hs];omega
 rw[VT l k hk,a1]
 have:=oj (b:=c) (b':=c') (z:=λi=>(ln i:Int)) (d:=d) (a:=Gv l k) (pos:=pos) (F:=d.length - (k+1)) (i:=(l.getD k (0,0)).1) (by omega) hs (by omega) (by omega) (a2.byte hs) (by simpa using hw.lo) (by simpa using hv) ha (λf=>EX (f.drop 3) (λi=>(ln i:Int)) 288 d.length d.length [] (p1 - 24)) (by
  intro f hf;rw[show d.length - (k+1)+1=d.length - k by omega];exact h.rd f hf)
 simpa using this
theorem WS.copy{pos:Nat}(h:WS d ln l p1 c k pos)(hk:k<l.length)(h24:24<=p1)(hok:Mn d l d.length)(hs:¬(l.getD k (0,0)).1<256)(hln:1<=ln (l.getD k (0,0)).1)
 (hw:Wr c' (pos+ln (l.getD k (0,0)).1+12)) (ha:Ag c c' pos) (hv:val c' pos (ln (l.getD k (0,0)).1)=num (λi=>(ln i:Int)) 288 (l.getD k (0,0)).1) (hv2:val c' (pos+ln (l.getD k (0,0)).1) 12=(l.getD k (0,0)).2 - 1):WS d ln l p1 c' (k+1) (pos+ln (l.getD k (0,0)).1+12):=by
 have a3:=h.ps;have a1:=hok.ok k hk;have a4:=Tv l k (by omega);have a2:Pk.G8 (l.getD k (0,0))=(l.getD k (0,0)).1 - 253:=by unfold Pk.G8;rw[AC hs]
 have a0:=a1.fit;rw[a2]at a0;obtain⟨c1,c2,c3,c4⟩:=a1.copy hs;refine⟨?_,?_⟩
 ·rw[XT _ l k hk,a3];unfold K8;rw[AC hs];omega
 rw[VT l k hk,a2]
 have:=mE (b:=c) (b':=c') (z:=λi=>(ln i:Int)) (d:=d) (a:=Gv l k) (pos:=pos) (F:=d.length - (k+1)) (i:=(l.getD k (0,0)).1) (back:=(l.getD k (0,0)).2) (by omega) hs a1.lt (by omega) a0 c1 c3 c4 (by simpa using hw.lo) (by simpa using hv) (by simpa using hv2) ha (λf=>EX (f.drop 3) (λi=>(ln i:Int)) 288 d.length d.length [] (p1 - 24)) (by
  intro f hf;rw[show d.length - (k+1)+1=d.length - k by omega];exact h.rd f hf)
 simpa using this
theorem WS.done{pos:Nat}(h:WS d ln l p1 c l.length pos)(hok:Mn d l d.length):EX (c.drop 3) (λi=>(ln i:Int)) 288 d.length d.length [] (p1 - 24)=some (d,pos - 24):=by
 rw[h.rd c (Ag.refl _ _),hok.fin,AT (AB _)];exact Xw _ _ _ _ _ _ _ (AB _)
theorem BW.of{w w':D7}{B g pos:Nat}{b:D8}(h:BW w B g b pos)(hb:∀k,k<w.heap.size->w'.heap[k]? = w.heap[k]?):BW w' B g b pos:=by
 obtain⟨v,h1,h2⟩:=h.st;refine⟨h.hg,⟨v,(hb g (lt_of_heap h1)).trans h1,h2.1,?_⟩,h.wr⟩;rcases h2.2 with h3 | ⟨r,cap,cur,h3,h4,h5,h6⟩
 ·exact .inl h3
 exact .inr ⟨r,cap,cur,h3,h4,(hb r (lt_of_heap h5)).trans h5,h6⟩
theorem jz(w:D7)(n:Nat)(hn:n<=4000):BW ((w.alloc (.cells #[.int .u8 1,.int .u8 ((n:Int)/256),.int .u8 ((n:Int)%256)] 5)).alloc (.cells #[.slice (some ⟨w.heap.size,0,none⟩) 3 3,.int .i64 0] 279)) w.heap.size (w.heap.size+1) [1,UInt8.ofNat (n/256),UInt8.ofNat (n%256)] 24:=by
 refine⟨by omega,⟨.slice (some ⟨w.heap.size,0,none⟩) 3 3,?_,?_⟩,⟨by simp,by simp,λi hi=>XP _ i (by simp;omega)⟩⟩
 ·have:=AQ (w.alloc (.cells #[.int .u8 1,.int .u8 ((n:Int)/256),.int .u8 ((n:Int)%256)] 5)) (.cells #[.slice (some ⟨w.heap.size,0,none⟩) 3 3,.int .i64 0] 279)
  simp only[BF]at this;rw[this];rfl
 refine⟨rfl,.inr ⟨_,3,_,rfl,AB _,(AO _ _ _ (by simp)).trans (AQ _ _),AB _,by unfold maxLen;omega,rfl,?_⟩⟩;have e1:((n:Int)/256)=((n/256:Nat):Int):=by omega
 have e2:((n:Int)%256)=((n%256:Nat):Int):=by omega
 have e3:(UInt8.ofNat (n/256)).toNat=n/256:=by rw[Bw];omega
 have e4:(UInt8.ofNat (n%256)).toNat=n%256:=by rw[Bw];omega
 simp only[Bb,Ct,e3,e4,e1,e2];rfl
theorem iN(w:D7)(d:D8)(h0:0<d.length)(hd:d.length<=4000):Calls prog 195 #[.string (D9 d)] w λe w'=>UE d w e w':=by
 have bV:=Jy (TK w d h0 hd);have cA:(D9 d).size=d.length:=Dd d
 generalize D9 d=t at *
 go_enter func195,ntmps195
 go_wp2_with fail;refine bV.o.mono ?_;rintro e w1 ⟨l,v,rfl,a1,b0,has,bY⟩;have ci:0<l.length:=by
  cases l with
  | nil=>have:=b0.fin;simp[Gv,EG]at this;omega
  | cons x l=>simp
 have cF:l.length<=d.length:=by have:=Tv l l.length (AB _);rw[b0.fin]at this;exact this
 have bj:∀s∈l,s.1<288:=λs hs=>by
  obtain⟨i,hi,rfl⟩:=DB.1 hs
  have:=(b0.ok i hi).lt
  rw[AI,AD hi]at this;exact this
 obtain⟨sb,bi,rfl,cB⟩:∃sb bi,v=.slice (some ⟨sb,0,none⟩) l.length bi/\w.heap.size<=sb:=by
  rcases a1.2 with⟨_,h⟩ | ⟨g,c,cur,rfl,h2,_⟩
  ·omega
  exact⟨g,c,rfl,h2⟩
 have bX:=(a1.lt sb rfl).2;have bQ:=Jy (jd w1 sb l.length bi l rfl (by omega) bj (M3 a1 (AU _)));have aB:=Jy a1;have bh:=Jy b0;have Has:=Jy has;have aw:=Jy bY;have cf:=Jy bj;clear a1 b0 has bY bj bV;go_wp2_with fail;refine bQ.o.mono ?_;rintro e w2 ⟨rfl,ar,bs⟩;have af:=bs.size;have hW:E6 (λi=>((List.range 288).map (F8 l)).getD i 0) 288=l.length:=by
  rw[S7 _ (F8 l) 288 (λi hi=>WK _ _ _ hi)];exact nW l cf.o
 have cb:=Jy (nC w2 w1.heap.size 288 ((List.range 288).map (F8 l)) (oS ar (by unfold maxLen;omega)) (by rw[hW];exact ci) (by rw[hW];omega));have bz:=Jy bs;clear ar bs hW bQ;go_wp2_with fail;refine cb.o.mono ?_;rintro e w3 ⟨ln,L,rfl,hL,a3,bM,c1,c2,c3,c4,c5⟩;have aH:=bM.size;have ai:EI (λi=>((List.range 288).map (F8 l)).getD i 0) 288=EI (F8 l) 288:=Zl _ _ 288 λi hi=>by rw[WK _ _ _ hi]
 rw[ai]at c4 c5;have bC:∀i,i<288->(0<ln i↔0<F8 l i):=λi hi=>by rw[c1 i hi,WK _ _ _ hi]
 have aa:=kK ln (F8 l) bC c3 c5;have aS:=Jy (lf (some ⟨L,0,none⟩) 288 288 (λi=>(ln i:Int)) w3 (by omega) (Yc a3) aa);have am:=Jy a3;have bO:=Jy bM;have C1:=Jy bC;have C2:=Jy c2;have C3:=Jy c3;have C4:=Jy c4;have a6:=Jy aa;have bJ:=a3.lt;clear a3 bM c1 bC c2 c3 c4 c5 aa ai cb;go_wp2_with fail;refine aS.o.mono ?_;rintro e w4 ⟨rfl,bx,a9⟩;have aU:=bx.size;have b9:=Jy bx;have aj:=Jy a9;have ae:=a9.lt;clear bx a9 aS;go_wp2_with fail;have bR:=jz w4 d.length hd;have bN:Below w4.heap.size w4 ((w4.alloc (.cells #[.int .u8 1,.int .u8 ((d.length:Int)/256),.int .u8 ((d.length:Int)%256)] 5)).alloc (.cells #[.slice (some ⟨w4.heap.size,0,none⟩) 3 3,.int .i64 0] 279)):=(Nu).alloc (by simp) _
 have an:((w4.alloc (.cells #[.int .u8 1,.int .u8 ((d.length:Int)/256),.int .u8 ((d.length:Int)%256)] 5)).alloc (.cells #[.slice (some ⟨w4.heap.size,0,none⟩) 3 3,.int .i64 0] 279)).rowIs L 3 288 (λj=>.int .i64 ((λi=>(ln i:Int)) j)):=Mc (Mc am.o b9.o bJ) bN (by omega);have bZ:=Jy (gR ((w4.alloc (.cells #[.int .u8 1,.int .u8 ((d.length:Int)/256),.int .u8 ((d.length:Int)%256)] 5)).alloc (.cells #[.slice (some ⟨w4.heap.size,0,none⟩) 3 3,.int .i64 0] 279)) w4.heap.size (w4.heap.size+1) L [1,UInt8.ofNat (d.length/256),UInt8.ofNat (d.length%256)] (λi=>(ln i:Int)) (by simp;omega) (by simp) (by omega) an (λi=>⟨by omega,by have:=C3.o i;omega⟩) (λi hi=>by rw[C2.o i hi];rfl) bR);have be:=Jy bN
 have cz:w4.heap.size<=((w4.alloc (.cells #[.int .u8 1,.int .u8 ((d.length:Int)/256),.int .u8 ((d.length:Int)%256)] 5)).alloc (.cells #[.slice (some ⟨w4.heap.size,0,none⟩) 3 3,.int .i64 0] 279)).heap.size:=by simp;omega
 clear bR bN an
 generalize ((w4.alloc (.cells #[.int .u8 1,.int .u8 ((d.length:Int)/256),.int .u8 ((d.length:Int)%256)] 5)).alloc (.cells #[.slice (some ⟨w4.heap.size,0,none⟩) 3 3,.int .i64 0] 279))=V at *
 refine bZ.o.mono ?_;rintro e w6 ⟨rfl,b6,p1,aT,aL,bK,c9,ao,b7⟩;have cC:nz (λi=>(ln i:Int)) 288<=288:=Z7 _ _;have cs:p1<=4000:=by omega
 have aV:Hid (∀U,Below w4.heap.size w6 U->∀i,i<l.length->U.cell? ⟨sb,i*2,none⟩=some (.int .i64 ((l.getD i (0,0)).1:Nat))/\U.cell? ⟨sb,i*2+1,none⟩=some (.int .i64 ((l.getD i (0,0)).2:Nat))):=λU hU i hi=>by
  have aP:∀o,U.cell? ⟨sb,o,none⟩=w1.cell? ⟨sb,o,none⟩:=λo=>by
   rw[hU.cell (p:=⟨sb,o,none⟩) (by simp;omega),b7.cell (p:=⟨sb,o,none⟩) (by simp;omega),be.o.cell (p:=⟨sb,o,none⟩) (by simp;omega),b9.o.cell (p:=⟨sb,o,none⟩) (by simp;omega),bO.o.cell (p:=⟨sb,o,none⟩) (by simp;omega),bz.o.cell (p:=⟨sb,o,none⟩) (by simp;omega)]
  rw[aP,aP,aB.o.cellAt (i*2) (by omega),aB.o.cellAt (i*2+1) (by omega),BG i 2];exact fY l i hi
 have aR:Hid (∀U,Below w4.heap.size w6 U->∀s,s<288->1<=ln s->U.cell? ⟨w3.heap.size,s*2,none⟩=some (.int .i64 (num (λi=>(ln i:Int)) 288 s:Nat))/\U.cell? ⟨w3.heap.size,s*2+1,none⟩=some (.int .i64 (ln s:Nat))):=λU hU s hs h1=>by
  have hr:=Mc (Mc (Mc aj.o be.o ae) b7 ae) hU ae;have hc:=jv (λi=>(ln i:Int)) 288 s a6.o hs;have e1:=hr.cell (i:=s*2) (by omega);have e2:=hr.cell (i:=s*2+1) (by omega);rw[hc.1]at e1;rw[hc.2]at e2;unfold QF at e1;rw[AE (by show 1<=(ln s:Int);omega)]at e1;exact⟨e1,e2⟩
 have b8:=Jy aT;have bP:=Jy aL;have aX:=Jy ao;have cy:=Jy c9;have cm:Hid (Below w.heap.size w w6):=aw.o.trans ((bz.o.mono aw.o.size).trans ((bO.o.mono (AF aw.o.size af)).trans ((b9.o.mono (AF aw.o.size (AF af aH))).trans ((be.o.trans b7).mono (AF aw.o.size (AF af (AF aH aU)))))));have cq:w4.heap.size<=w6.heap.size:=AF cz b7.size;have bH:w.heap.size<=w4.heap.size:=AF aw.o.size (AF af (AF aH aU));clear aT aL ao c9 b7 bZ be am aj aw bz bO b9 aB;go_wp2
 go_loopw [31] (λi wr=>∃k pos:Nat,∃c,i=.int .i64 k/\k<=l.length/\pos<=p1+24*k/\w4.heap.size<=wr.heap.size/\Hid (BW wr w4.heap.size (w4.heap.size+1) c pos)/\Hid (WS d ln l p1 c k pos)/\Hid (Ag b6 c p1)/\p1<=pos/\Hid (Below w4.heap.size w6 wr)) (λi _=>l.length - (intOf i).toNat)
 case atStart=>exact⟨0,p1,b6,rfl,by omega,by omega,cq,b8,WS.init _ _ _ _ _,Ag.refl _ _,AB _,AM _ _⟩
 case round =>
  clear b8;obtain⟨k,pos,c,rfl,hk,cc,bD,aI,aD,aG,bp,ag⟩:=hrel;have bT:0<c.length:=by
   have h1:=aI.o.wr.lo;omega
  by_cases aM:k<l.length
  ·have aK:=bh.o.ok k aM;have aO:=sx l k aM;obtain⟨x1,x2⟩:=aV.o wr ag.o k aM;obtain⟨s,hs⟩:=Jq ((l.getD k (0,0)).1);obtain⟨bk,GW⟩:∃b,b=(l.getD k (0,0)).2:=⟨_,rfl⟩;have a5:s<288:=by rw[hs];exact aK.lt
   have aE:1<=ln s:=by
    have:=(C1.o s a5).2 ((Xp l s).2 ⟨_,aO,hs.symm⟩)
    omega
   have b5:=C3.o s;rw[<-hs]at x1;rw[<-GW]at x2;have aY:num (λi=>(ln i:Int)) 288 s<2^ln s:=by
    have:=QP (λi=>(ln i:Int)) 288 s a6.o a5 (by show 1<=(ln s:Int);omega)
    simpa using this
   obtain⟨nm,bb⟩:=Jq (num (λi=>(ln i:Int)) 288 s);rw[<-bb]at aY;obtain⟨O,hO⟩:=Jq (Obj.cells #[.int .i64 s,.int .i64 bk] 282);have a7:Below w4.heap.size w6 (wr.alloc O):=ag.o.alloc bD O;obtain⟨y1,y2⟩:=aR.o _ a7 s a5 aE;rw[<-bb]at y1;have aF:(wr.alloc O).heap[wr.heap.size]? = some (.cells #[.int .i64 s,.int .i64 bk] 282 (0,0)):=by rw[hO];exact AQ _ _
   have z0:=Dv 0 aF;have aZ:BW (wr.alloc O).drew w4.heap.size (w4.heap.size+1) c pos:=aI.o.of λj hj=>AO _ _ j hj
   have ac:=Jy (YZ (wr.alloc O).drew w4.heap.size (w4.heap.size+1) c pos nm (ln s) (by simp;omega) bT (by omega) b5 aY aZ);have ah:=Jy aF;have au:=Jy a7;have Hs:=Jy hs;have cv:=Jy GW;have bS:=Jy bb;have HO:=Jy hO;have co:=Jy aK;have bL:w4.heap.size<=(wr.alloc O).drew.heap.size:=by simp;omega
   obtain⟨sl,bF⟩:=Jq wr.heap.size;have cx:=Jy bF;rw[<-bF]at z0 ah;clear bF;clear aF aZ aO aK a7 ag aI;have bm:((λi=>(ln i:Int)) s)=(ln s:Int):=rfl
   generalize hlns:ln s=lns at *
   have a2:=Jy hlns;clear hlns;clear bm hs GW bb;go_wp2;rw[<-HO.o,<-cx.o];clear HO hO;have bU:w3.heap.size<w4.heap.size:=ae;have cD:(s:Int)<288:=by omega
   have cg:(0:Int)<=(s:Int):=by omega
   generalize wr.alloc O=W at *
   go_region_held3 (λw'=>w'.cell? ⟨sl,0,none⟩=some (.int .i64 s)/\w'.cell? ⟨w3.heap.size,s*2,none⟩=some (.int .i64 nm)/\w'.cell? ⟨w3.heap.size,s*2+1,none⟩=some (.int .i64 lns)) (go_keep) (first | (go_at_call 250;refine ac.o.mono ?_;rintro e w7 ⟨rfl,c7,a8,aJ,bc,aQ,bq⟩;have k0:w7.cell? ⟨sl,0,none⟩=some (.int .i64 s):=(by rw[AG w7 sl 0 _ 282 (0,0) (bq.block (w:=W.drew) ah.o)];rfl);have k1:w7.cell? ⟨w3.heap.size,s*2,none⟩=some (.int .i64 nm):=(by rw[aQ.cell (p:=⟨w3.heap.size,s*2,none⟩) bU];exact y1);have k2:w7.cell? ⟨w3.heap.size,s*2+1,none⟩=some (.int .i64 lns):=(by rw[aQ.cell (p:=⟨w3.heap.size,s*2+1,none⟩) bU];exact y2)))
   ·have aW:=bq.block (w:=W.drew) ah.o;have k3:=Dv 1 aW;have a4:=Jy (au.o.drew.trans aQ);have ax:w4.heap.size<=w7.heap.size:=AF bL aQ.size;have az:=Jy (aG.o.trans aJ bp);have a0:(l.getD k (0,0)).1=s:=Hs.o.symm;have ad:(l.getD k (0,0)).2=bk:=cv.o.symm;have bG:0<c7.length:=AR bT aJ.len;rename_i hHeld;clear hHeld k1 k2 y1 y2 z0 aW aQ bq ac ah au;by_cases av:s<256
    ·have br:Hid (WS d ln l p1 c7 (k+1) (pos+lns)):=by
      have:=aD.o.byte (c':=c7) aM bK bh.o (by rw[a0];exact av) (by rw[a0,a2.o];exact aE) (by rw[a0,a2.o];exact a8.wr) aJ (by rw[a0,a2.o,bc,bS.o])
      rw[a0,a2.o]at this;exact this
     have bl:=Jy a8;clear a8 aJ bc a0 ad aD;go_wp2;go_roundw
     case rel=>exact⟨k+1,pos+lns,c7,by go_num,by omega,by omega,ax,bl,br,az,by omega,a4⟩
     case measure=>simp[intOf];omega
    obtain⟨b1,b2,b3,b4⟩:=co.o.copy (by rw[a0];exact av);rw[ad]at b1 b2 b3;have aC:=YZ w7 w4.heap.size (w4.heap.size+1) c7 (pos+lns) (bk - 1) 12 ax bG (by omega) (by omega) (by omega) a8;rw[show((bk - 1:Nat):Int)=(bk:Int) - 1 by omega]at aC;have ac:=Jy aC;have cw:=Jy bc;have ce:=Jy aJ;have cl:bk<=4096:=b2;clear aC a8 bc aJ b4 b3;go_wp2_with fail;refine ac.o.mono ?_;rintro e w8 ⟨rfl,c8,ay,bg,bW,bu,cu⟩;have bA:Hid (WS d ln l p1 c8 (k+1) (pos+lns+12)):=by
     have:=aD.o.copy (c':=c8) aM bK bh.o (by rw[a0];exact av) (by rw[a0,a2.o];exact aE) (by rw[a0,a2.o];exact ay.wr) (ce.o.trans bg (by omega)) (by rw[a0,a2.o,bg.val pos lns (AB _),cw.o,bS.o]) (by rw[a0,a2.o,bW,ad])
     rw[a0,a2.o]at this;exact this
    have bE:=Jy ay;have aN:=Jy (a4.o.trans bu);have bI:w4.heap.size<=w8.heap.size:=AF ax bu.size;have bB:=Jy (az.o.trans bg (by omega));clear ay bg bW bu cu a0 ad aD ac a4 az;go_wp2;go_roundw
    case rel=>exact⟨k+1,pos+lns+12,c8,by go_num,by omega,by omega,bI,bE,bA,bB,by omega,aN⟩
    case measure=>simp[intOf];omega
  have cj:k=l.length:=by omega
  subst cj;obtain⟨v,aK,a1⟩:=aI.o.st;have x0:=Dv 0 aK;obtain⟨va,vc,hv⟩:=slice_form a1;subst hv;obtain⟨tc,bn⟩:=Jq (D9 c);have cE:=XU (l:=c) a1 tc bn;have ct:=Jy bn;have bf:=aI.o.wr;have aA:Hid (Gq 288 c=some d/\c.length<=50000/\(∀e,(∀i,i<d.length->(d.getD i 0).toNat=e)->c.length<=40+d.length/16)):=by
   have ca:=aD.o.ps;rw[AT (AB _)]at ca;refine⟨?_,?_,?_⟩
   ·refine oW (p1:=p1) (p2:=pos) h0 hd rfl (bP.o.trans aG.o bK) (by omega) a6.o bf ?_ (aD.o.done bh.o);exact aX.o c (aG.o.mono (AB _))
   ·have h1:=bf.hi;omega
   intro e he;exact oZ h0 (Has.o e he) C1.o C4.o (by rw[ca];have:=cy.o;omega) bf.hi
  clear bn aK a1 bf aI aD;go_wp2;go_ret
  refine⟨c,?_,aA.o.1,aA.o.2.1,aA.o.2.2,cm.o.trans (ag.o.mono bH)⟩;rw[<-ct.o];rfl
def SB(d:D8)(w:D7)(e:Ending)(w':D7):Prop:=∃T,e=.returned (.tuple #[.string (D9 T),.int .i64 0])/\Gq 288 T=some d/\T.length<=d.length+1/\(∀c,(∀i,i<d.length->(d.getD i 0).toNat=c)->T.length<=40+d.length/16)/\Below w.heap.size w w'
theorem pY(d:D8):D9 [0]++D9 d=D9 (0 :: d):=by
 apply ByteArray.ext
 simp[D9]
theorem fA(W:D7):(convert 111 9 (.slice (some ⟨W.heap.size,0,none⟩) 1 1)).run prog (W.alloc (.cells #[.int .u8 0] 5))=.ok (.string (D9 [0])) (W.alloc (.cells #[.int .u8 0] 5)):=
 GY (base:=0) (n:=1) (l:=[0]) ⟨rfl,.inr ⟨_,1,_,rfl,AU _,AQ _ _,AB _,by unfold maxLen;omega,rfl,rfl⟩⟩
theorem NW(w:D7)(d:D8)(hd:d.length<=4000):Calls prog 131 #[.string (D9 d)] w λe w'=>SB d w e w':=by
 have ad:(D9 d).size=d.length:=Dd d;have a6:Gq 288 (0 :: d)=some d:=Xv 288 d hd;have hz:=pY d;obtain⟨i0,hi,aj,ar,ai⟩:=Ai Fz;by_cases h0:d.length=0
 ·have a7:d=[]:=BN.1 h0;subst a7;have ac:=fA w;have a8:(D9 ([]:D8)).size=0:=ad;have a3:(D9 [0]).size=1:=rfl;obtain⟨z0,a2⟩:∃z,z=D9 [0]:=⟨_,rfl⟩;obtain⟨t,ht⟩:∃z,z=D9 ([]:D8):=⟨_,rfl⟩;have Hz:Hid (z0++t=D9 [0]):=by rw[a2,ht];exact hz
  rw[<-a2]at ac a3;rw[<-ht]at a8 ⊢;clear hz ad a2 ht;go_enter func131,ntmps131
  go_wp2;go_ret2
  refine⟨[0],?_,a6,by simp,λ_ _=>by simp,(AM _ w).alloc (AB _) _⟩;rw[<-Hz.o];rfl
 have a5:=Jy (iN w d (by omega) hd);have an:0<d.length:=by omega
 have ah:=Jy a6;have Hz:=Jy hz;clear a6 hz;have ae:Hid (∃t,t=D9 d):=⟨_,rfl⟩
 generalize htd:D9 d=t at *
 have ae:=Jy htd;clear htd;go_enter func131,ntmps131
 go_wp2_with fail;refine a5.o.mono ?_;rintro e w1 ⟨T,rfl,a4,ao,a0,hb⟩;have ag:(D9 T).size=T.length:=Dd T;obtain⟨tT,aa⟩:∃x,x=D9 T:=⟨_,rfl⟩;rw[<-aa]at ag ⊢;have af:=Jy aa;have a9:=Jy a4;have a1:=Jy a0;have Hb:=Jy hb;clear aa a4 a0 hb a5;by_cases am:T.length<=d.length
 ·go_wp2;go_ret2
  refine⟨T,?_,a9.o,by omega,a1.o,Hb.o⟩;rw[<-af.o];rfl
 have ac:=fA w1;have a3:(D9 [0]).size=1:=rfl
 generalize D9 [0]=z0 at *
 go_wp2;go_ret2
 refine⟨0 :: d,?_,ah.o,by simp,λc hc => ?_,Hb.o.alloc Hb.o.size _⟩
 ·rw[<-Hz.o];rfl
 have:=a1.o c hc
 simp only[AY];omega
theorem NY(s:ByteArray)(w:D7)(hlim:s.size<=140737488351232):Calls prog 122 #[.string s] w λe w'=>e=.returned (.string s)/\Below w.heap.size w w':=by
 by_cases h0:s.size=0
 ·have hs:s=⟨#[]⟩:=by
   apply ByteArray.ext
   exact Array.eq_empty_of_size_eq_zero h0
  subst hs;go_enter func122,ntmps122
  go_wp2;go_ret
  exact⟨rfl,AM _ _⟩
 obtain⟨i0,hi,ae,a3,ad⟩:=Ai Fz;have a0:(prog.info? 5).map (·.size)=some 1:=by rw[hi];simp[a3]
 have a7:prog.cellsOf 5=1:=by simp[Program.cellsOf,hi,a3]
 obtain⟨M,hM⟩:=Jq (madeCells #[Value.int .u8 0] s.size);have aa:M.size=s.size:=by rw[hM,size_madeCells]
 have af:∀W:D7,(Instr.makeSlice 111 (.int .i64 (s.size:Int)) (.int .i64 (s.size:Int))).run prog W=.ok (.slice (some ⟨W.heap.size,0,none⟩) s.size s.size) (W.alloc (.cells M 5)):=λW=>by
  rw[hM];exact Cz (P:=prog) 111 5 (.int .u8 0) 1 underlying111 Fz rfl .i64 .i64 s.size (by omega) (by omega) W
 clear hM;have a5:=Lib.run_copy_row_string (P:=prog) (w.alloc (.cells M 5)) 111 9 3 5 w.heap.size 0 s.size s.size s M 5 underlying111 a0 (AQ w _) (AB _) (by omega);obtain⟨Y,hY⟩:=Jq ((M.toList.take 0++Lib.byteCells s.data.toList++M.toList.drop (0+s.size)).toArray);rw[<-hY]at a5;have a2:Y.toList=Lib.byteCells s.data.toList:=by
  rw[hY,List.toList_toArray,List.take_zero,BH,List.drop_of_length_le (by rw[Cl];omega),CD]
 have ac:Y.size=s.size:=by rw[<-Cl,a2,Lib.byteCells_length,<-Lib.size_eq]
 have a1:((w.alloc (.cells M 5)).setRow w.heap.size Y).heap[w.heap.size]? = some (.cells Y 5 (0,0)):=setRow_heap _ _ M _ 5 (0,0) (AQ w _);have a4:s.data.toList≠[]:=λe=>h0 (by rw[Lib.size_eq,e];rfl)
 have a8:=Lib.run_unsafeString_row (P:=prog) ((w.alloc (.cells M 5)).setRow w.heap.size Y) 242 3 9 5 underlying242 a7 w.heap.size Y.size (by unfold World.shape?;rw[a1]) s.data.toList a4 (by rw[<-Lib.size_eq];omega) (by rw[<-Lib.size_eq];omega)
  (λj x hx=>Lib.cells_of_row a1 Y.size j _ (by rw[AT (by rw[Cl];exact AB _),a2];simp[Lib.byteCells,hx]))
 rw[<-Lib.size_eq]at a8;clear hY;go_enter func122,ntmps122
 go_wp2;go_ret
 have a9:Below w.heap.size w (w.alloc (.cells M 5)):=(AM _ w).alloc (AB _) _;have a6:Below w.heap.size (w.alloc (.cells M 5)) ((w.alloc (.cells M 5)).setRow w.heap.size Y):=⟨rfl,rfl,rfl,by simp,λk hk=>setRow_other _ _ _ _ (by omega)⟩;exact⟨rfl,Lib.below_freeze (a9.trans a6) (p:=⟨w.heap.size,0,none⟩) (AB _) _⟩
theorem IG(s:ByteArray)(w:D7)(hlim:s.size<=140737488351232):Calls prog 72 #[.string s] w λe w'=>e=.returned (.string s)/\Below w.heap.size w w':=by
 go_enter func72,ntmps72
 go_wp2_with fail;refine(NY s w hlim).mono ?_;rintro e w1 ⟨rfl,hb⟩;go_wp2;go_ret
 exact⟨rfl,hb⟩
theorem gl(c:UInt8)(r:D8):∃t,t=D9 (c :: r)/\t.size=r.length+1/\(∀h:0<t.size,(t[0]'h).toNat=c.toNat)/\t.extract 1 t.size=D9 r:=by
 refine⟨_,rfl,by rw[Dd];rfl,λh=>by rw[MP];rfl,?_⟩;rw[Jb,Dd];simp
theorem oX(c:UInt8)(r:D8)(w:D7)(hr:r.length+1<=140737488351232):Calls prog 145 #[.string (D9 (c :: r))] w λe w'=>e=PW (Gq 288 (c :: r))/\Below w.heap.size w w':=by
 obtain⟨t,ht,hs,hc,a5⟩:=gl c r;have hs0:0<t.size:=by omega
 have a0:=hc hs0;rw[<-ht];have ai:t.size<=140737488351232:=by omega
 have ad:(D9 r).size<=140737488351232:=by rw[Dd];omega
 have aa:t.size<=r.length+1:=by omega
 have a6:r.length+1<=t.size:=by omega
 have a4:=Jy a5;clear ht hc hs a5;have af:((t.size:Int)==0)=false:=BI.2 (by omega);have ag:(0:Int)<(t.size:Int):=by omega
 have ah:(1:Int)<=(t.size:Int):=by omega
 by_cases h0:c=0
 ·have ae:(t[0]'hs0).toNat=0:=by rw[a0,h0];rfl
  clear a0;subst h0;by_cases h4:r.length<=4000
  ·have Hu:=Jy (Xv 288 r h4);have a9:decide (((t.size - 1:Nat):Int)<=4000)=true:=Cm (by omega);go_enter func145,ntmps145
   go_wp2
   go_quiet (fail)
   go_wp2_with fail;rw[a4.o];refine(IG (D9 r) _ ad).mono ?_;rintro e w1 ⟨rfl,a3⟩;have hB:Below w.heap.size w w1:=NL (by simpa using a3);go_wp2;go_ret2
   refine⟨?_,hB⟩;rw[Hu.o];rfl
  have Hu:=Jy (lA 288 r (by omega));have a9:decide (((t.size - 1:Nat):Int)<=4000)=false:=Bc (by omega);go_enter func145,ntmps145
  go_wp2
  go_quiet (fail)
  go_wp2;go_ret2
  refine⟨?_,below_drewN (AM _ _) _⟩;rw[Hu.o];rfl
 have a7:c.toNat≠0:=λh=>h0 (BL.1 h)
 have a2:((c.toNat:Int)==0)=false:=BI.2 (by omega);by_cases h1:c=1
 ·have ae:(t[0]'hs0).toNat=1:=by rw[a0,h1];rfl
  clear a0 a7 a2;have a1:=Jy (λw=>jN r w (by omega));subst h1;go_enter func145,ntmps145
  go_wp2
  go_quiet (fail)
  go_wp2_with fail;rw[a4.o];refine(a1.o _).mono ?_;rintro e w1 ⟨rfl,a3⟩;have hB:Below w.heap.size w w1:=NL (by simpa using a3);cases hu:Gq 288 (1 :: r)with
  | none =>
    have Hu:=Jy hu;clear hu;show _;unfold Ma;go_wp2;go_ret2
    refine⟨?_,hB⟩;rw[Hu.o];rfl
  | some l =>
    have Hu:=Jy hu;clear hu;unfold Ma;go_wp2;go_ret2
    refine⟨?_,hB⟩;rw[Hu.o];rfl
 have a8:c.toNat≠1:=λh=>h1 (BL.1 h)
 have ac:((c.toNat:Int)==1)=false:=BI.2 (by omega);have Hu:=Jy (qN 288 c r h0 h1);go_enter func145,ntmps145
 go_wp2
 go_quiet (fail)
 go_wp2;go_ret2
 refine⟨?_,below_drewN (AM _ _) _⟩;rw[Hu.o];rfl
theorem oJ(w:D7):Calls prog 145 #[.string (D9 [])] w λe w'=>e=PW none/\w'=w:=by
 have hs:(((D9 []).size:Int)==0)=true:=by rw[Dd];rfl
 go_enter func145,ntmps145
 go_wp2;go_ret2
 exact⟨rfl,rfl⟩
theorem Jk(T:D8)(w:D7)(hT:T.length<=140737488351232):Calls prog 145 #[.string (D9 T)] w λe w'=>e=PW (Gq 288 T)/\Below w.heap.size w w':=by
 cases T with
 | nil=>exact(oJ w).mono λe w' ⟨he,hw⟩=>by rw[he,hw];exact⟨rfl,AM _ _⟩
 | cons c r=>exact oX c r w (by simpa using hT)
theorem jA(s:D8)(z:Nat->Int)(N size f:Nat)(out:D8)(pos:Nat)(x:D8 × Nat)(ho:out.length<=size)(h:EX s z N size f out pos=some x):x.1.length<=size:=by
 induction f generalizing out pos with
 | zero =>
   rw[EX]at h
   split at h
   ·cases h;exact ho
   cases h
 | succ f ih =>
   rw[EX]at h
   split at h
   ·cases h;exact ho
   rename_i a1
   split at h
   ·cases h
   rename_i i hi
   split at h
   ·exact ih _ _ (by simp;omega) h
   split at h
   ·cases h
   split at h
   ·cases h
   rename_i a0;exact ih _ _ (by rw[Tp];omega) h
theorem NC(t y:D8)(h:Gq 288 t=some y):y.length<=4000:=by
 cases t with
 | nil=>cases h
 | cons c r =>
   rw[Pv]at h
   split at h
   ·split at h
    ·cases h;assumption
    cases h
   split at h
   ·split at h
    ·cases h
    split at h
    ·cases h
    rename_i a1
    generalize 256*(r.getD 0 0).toNat+(r.getD 1 0).toNat=size at *
    unfold GL at h
    split at h
    ·cases h
    split at h
    ·cases h
    split at h
    ·cases h
    rename_i out p a0
    split at h
    ·cases h
     have:=jA _ _ _ _ _ _ _ _ (by simp) a0
     simp at this;omega
    cases h
   cases h
end S1
section
open Go.RowKit Go.Nt
theorem R9:Fj (S1.Pk.Gq 288) where
 small:=λt d h=>S1.NC t d h
 pack:=λw d hd=>(S1.NW w d hd).mono λe w' ⟨t,he,hu,hl,_,hb⟩=>⟨t,he,hu,hl,hb⟩
 some:=λw t d ht hu=>(S1.Jk t w (by omega)).mono λe w' ⟨he,hb⟩=>⟨by rw[he,hu];rfl,hb⟩
 none:=λw t ht hu=>(S1.Jk t w (by omega)).mono λe w' ⟨he,hb⟩=>⟨by rw[he,hu];rfl,hb⟩
end
namespace lays
open Go.ChangeShapes Go.WideShapes Go.ChangeAt Go.RowKit Go.Nt
variable {H:Type} {W:D7} {spare:Nat->Bool} {v:Value}
theorem jP:prog.cellsOf 39=5:=by kernel_rfl
theorem pZ:prog.cellsOf 65=8:=by kernel_rfl
theorem o8:prog.cellsOf 26=1:=by kernel_rfl
theorem cells3:prog.cellsOf 3=1:=by kernel_rfl
theorem NB:prog.cellsOf 4=1:=by kernel_rfl
theorem Mw:prog.cellsOf 9=1:=by kernel_rfl
theorem bounds{n:Int}(h:(Lit.int .i64 n).wf=true):-9223372036854775808<=n/\n<=9223372036854775807:=by
 have m1:IntKind.i64.min = -9223372036854775808:=by decide
 have m2:IntKind.i64.max=9223372036854775807:=by decide
 simp only[Lit.wf,m1,m2,Af,BJ]at h;exact h
theorem my(d:DataW H):1<=Rows.uptoBulk d:=by
 cases d with
 | lit l=>cases l<;>simp[Rows.uptoBulk]
 | nil=>simp[Rows.uptoBulk]
 | ptr d=>simp[Rows.uptoBulk]
 | slice elems spare=>simp[Rows.uptoBulk]
 | agg parts=>simp[Rows.uptoBulk]
 | iface t d=>simp[Rows.uptoBulk]
 | map entries=>simp[Rows.uptoBulk]
 | held h=>simp[Rows.uptoBulk]
theorem Xf{d:DataW H}{l:List (DataW H)}(h:d∈l):Rows.uptoBulk d<=Rows.uptoBulkAll l:=by
 induction l with
 | nil=>cases h
 | cons x r ih =>
   simp only[Rows.uptoBulkAll];rcases As.1 h with e | e
   ·subst e;omega
   have:=ih e;omega
theorem length_le(l:List (DataW H)):l.length<=Rows.uptoBulkAll l:=by
 induction l with
 | nil=>simp[Rows.uptoBulkAll]
 | cons x r ih=>have:=my x;simp only[Rows.uptoBulkAll,AY];omega
theorem Qv(b o k:Nat):(⟨b,o,none⟩:Addr).add k=⟨b,o+k,none⟩:=by unfold Addr.add;split<;>simp_all
theorem sw{enc:TypeId × Value->H}{fuel:Nat}{x:DataW H × List MemPlace}(h:DataW.trod enc prog W 0 spare true fuel 26 [v]=some x) :
 ∃sa sn scap,∃l:List It,v=.slice sa sn scap/\l.length=sn/\Dz W sa l/\(sa=none->sn=0/\scap=0)/\l.length<=Rows.uptoBulk x.1/\∀y∈l,y.path.length<=Rows.uptoBulk x.1/\y.data.length<=Rows.uptoBulk x.1:=by
 rcases Deep.open_slice underlying26 h with⟨hcs,_⟩ | ⟨a,sn,scap,m,nn,D,Pl,hcs,_,hl,hm,hmm,rfl,hx⟩
 ·simp at hcs;exact⟨none,0,0,[],hcs,rfl,λh=>absurd rfl h,λ_=>⟨rfl,rfl⟩,by simp,by simp⟩
 simp at hcs;have ac:sn<=m:=by rw[hmm];split<;>omega
 rw[jP]at hx;have a5:∀i,i<sn->∃y:It,W.cell? (a.add (i*5))=some (.string (D9 y.path))/\W.cell? ((a.add (i*5)).add 1)=some (.bool y.dir)/\W.cell? ((a.add (i*5)).add 2)=some (.string (D9 y.data))/\W.cell? ((a.add (i*5)).add 3)=some (.int .i64 y.mode)/\W.cell? ((a.add (i*5)).add 4)=some (.int .i64 y.time)/\y.path.length<=Rows.uptoBulk (D i)/\y.data.length<=Rows.uptoBulk (D i):=by
  intro i hi;obtain⟨cs,hc,ht⟩:=hx i (by omega);obtain⟨_,a4,a0⟩:=World.cells?_some hc;obtain⟨xs,q,_,hD,a8,a7,hf⟩:=DataW.trod_struct underlying39 ht
  match cs,a4 with
  | [u0,u1,u2,u3,u4],_ =>
    match xs,a7 with
    | [y0,y1,y2,y3,y4],_ =>
      have f0:DataW.trod enc prog W 0 spare true q 9 (([u0,u1,u2,u3,u4].drop 0).take (prog.cellsOf 9))=[y0,y1,y2,y3,y4][0]? := hf 0 _ rfl;have f1:DataW.trod enc prog W 0 spare true q 4 (([u0,u1,u2,u3,u4].drop 1).take (prog.cellsOf 4))=[y0,y1,y2,y3,y4][1]? := hf 1 _ rfl;have f2:DataW.trod enc prog W 0 spare true q 9 (([u0,u1,u2,u3,u4].drop 2).take (prog.cellsOf 9))=[y0,y1,y2,y3,y4][2]? := hf 2 _ rfl;have f3:DataW.trod enc prog W 0 spare true q 3 (([u0,u1,u2,u3,u4].drop 3).take (prog.cellsOf 3))=[y0,y1,y2,y3,y4][3]? := hf 3 _ rfl;have f4:DataW.trod enc prog W 0 spare true q 3 (([u0,u1,u2,u3,u4].drop 4).take (prog.cellsOf 3))=[y0,y1,y2,y3,y4][4]? := hf 4 _ rfl;rw[Mw]at f0 f2;rw[NB]at f1;rw[cells3]at f3 f4;have f0:DataW.trod enc prog W 0 spare true q 9 [u0]=some y0:=f0
      have f1:DataW.trod enc prog W 0 spare true q 4 [u1]=some y1:=f1;have f2:DataW.trod enc prog W 0 spare true q 9 [u2]=some y2:=f2;have f3:DataW.trod enc prog W 0 spare true q 3 [u3]=some y3:=f3;have f4:DataW.trod enc prog W 0 spare true q 3 [u4]=some y4:=f4;obtain⟨s0,e0,x0,_⟩:=DQ underlying9 f0;obtain⟨b1,e1,_⟩:=DataW.trod_bool underlying4 f1;obtain⟨s2,e2,x2,_⟩:=DQ underlying9 f2;obtain⟨n3,e3,_,_⟩:=DataW.trod_int underlying3 f3;obtain⟨n4,e4,_,_⟩:=DataW.trod_int underlying3 f4;simp only[List.cons.injEq,and_true]at e0 e1 e2 e3 e4;subst e0 e1 e2 e3 e4;have hd:D i=.agg [y0.1,y1.1,y2.1,y3.1,y4.1]:=by
       have:=AV Prod.fst hD
       simpa using this
      have aa:s0.data.toList.length+1<=Rows.uptoBulk (D i):=by
       rw[hd,x0];simp only[Rows.uptoBulk,Rows.uptoBulkAll];omega
      have a9:s2.data.toList.length+1<=Rows.uptoBulk (D i):=by
       rw[hd,x2];simp only[Rows.uptoBulk,Rows.uptoBulkAll];omega
      refine⟨⟨s0.data.toList,b1,s2.data.toList,n3,n4⟩,?_,?_,?_,?_,?_,by show s0.data.toList.length<=_;omega,by show s2.data.toList.length<=_;omega⟩
      ·have:=a0 0 (by omega)
       rw[show(a.add (i*5)).add 0=a.add (i*5) by simp[Addr.add]]at this;exact this
      ·exact a0 1 (by omega)
      ·exact a0 2 (by omega)
      ·exact a0 3 (by omega)
      exact a0 4 (by omega)
 obtain⟨Y,hY⟩:=Deep.choose_lt a5;have a1:∀i,i<sn->Rows.uptoBulk (D i)<=Rows.uptoBulk (.slice ((List.range sn).map D) ((List.range (m - sn)).map λj=>D (sn+j))):=λi hi=>by
  have h1:Rows.uptoBulk (D i)<=Rows.uptoBulkAll ((List.range sn).map D):=Xf (Am.2 ⟨i,CH.2 hi,rfl⟩);simp only[Rows.uptoBulk];omega
 refine⟨some a,sn,scap,(List.range sn).map Y,hcs,by simp,λh0 => ?_,(λh=>by cases h),?_,λy hy => ?_⟩
 ·have h0:0<sn:=by
   rcases DJ sn with e | e
   ·subst e;exact absurd rfl h0
   exact e
  obtain⟨b,off,spot⟩:=a;have hc:=(hY 0 h0).1;have a2:spot=none:=by simpa[Addr.add]using World.cell?_spot hc
  subst a2;refine⟨b,off,rfl,λi x hi => ?_⟩;have a3:i<sn:=by have:=(AP.1 hi).1;simpa using this
  have a6:Y i=x:=by simpa[a3]using hi
  subst a6;obtain⟨h0,h1,h2,h3,h4,_,_⟩:=hY i a3;rw[Qv]at h0 h1 h2 h3 h4;rw[Qv]at h1 h2 h3 h4;exact⟨h0,h1,h2,h3,h4⟩
 ·have h1:=length_le ((List.range sn).map D);simp only[Bn,List.length_range]at h1 ⊢;simp only[Rows.uptoBulk];omega
 obtain⟨i,hi,rfl⟩:=Am.1 hy;have a3:=CH.1 hi;have hb:=a1 i a3;obtain⟨_,_,_,_,_,h1,h2⟩:=hY i a3;exact⟨AF h1 hb,AF h2 hb⟩
theorem qq{enc:TypeId × Value->H}{fuel:Nat}{x:DataW H × List MemPlace}(h:DataW.trod enc prog W 0 spare true fuel 23 [v]=some x)(hx:Rows.uptoBulk x.1<=1048576) :
 ∃sa sn scap,∃(ops:Nat->Gi) (ls:Nat->List It),v=.slice sa sn scap/\sn<=1048576/\MO W sa sn ops/\∀k,k<sn->Kh W (λb=>b<W.heap.size) (ops k) (ls k):=by
 rcases Deep.open_slice underlying23 h with⟨hcs,_⟩ | ⟨a,sn,scap,m,nn,D,Pl,hcs,_,hl,hm,hmm,rfl,hxx⟩
 ·simp at hcs;exact⟨none,0,0,λ_=>⟨0,(none,0,0),[],[],[],0,0,false⟩,λ_=>[],hcs,by omega,λh=>absurd h (by omega),λk hk=>absurd hk (by omega)⟩
 simp at hcs;have ai:sn<=m:=by rw[hmm];split<;>omega
 rw[pZ]at hxx;dsimp only at hx;have a4:∀i,i<sn->Rows.uptoBulk (D i)<=1048576:=λi hi=>by
  have h1:Rows.uptoBulk (D i)<=Rows.uptoBulkAll ((List.range sn).map D):=Xf (Am.2 ⟨i,CH.2 hi,rfl⟩);simp only[Rows.uptoBulk]at hx;omega
 have a5:∀i,i<sn->∃y:Gi × List It,(W.cell? (a.add (i*8))=some (.int .i64 y.1.kind)/\W.cell? ((a.add (i*8)).add 1)=some (.slice y.1.tree.1 y.1.tree.2.1 y.1.tree.2.2)/\W.cell? ((a.add (i*8)).add 2)=some (.string (D9 y.1.path))/\W.cell? ((a.add (i*8)).add 3)=some (.string (D9 y.1.dst))/\W.cell? ((a.add (i*8)).add 4)=some (.string (D9 y.1.data))/\W.cell? ((a.add (i*8)).add 5)=some (.int .i64 y.1.a)/\W.cell? ((a.add (i*8)).add 6)=some (.int .i64 y.1.b)/\W.cell? ((a.add (i*8)).add 7)=some (.bool y.1.other))/\Kh W (λb=>b<W.heap.size) y.1 y.2:=by
  intro i hi;have a1:=a4 i hi;obtain⟨cs,hc,ht⟩:=hxx i (by omega);obtain⟨_,a7,a0⟩:=World.cells?_some hc;obtain⟨xs,q,_,hD,aj,ah,hf⟩:=DataW.trod_struct underlying65 ht
  match cs,a7 with
  | [u0,u1,u2,u3,u4,u5,u6,u7],_ =>
    match xs,ah with
    | [y0,y1,y2,y3,y4,y5,y6,y7],_ =>
      have f0:DataW.trod enc prog W 0 spare true q 3 (([u0,u1,u2,u3,u4,u5,u6,u7].drop 0).take (prog.cellsOf 3))=[y0,y1,y2,y3,y4,y5,y6,y7][0]? := hf 0 _ rfl;have f1:DataW.trod enc prog W 0 spare true q 26 (([u0,u1,u2,u3,u4,u5,u6,u7].drop 1).take (prog.cellsOf 26))=[y0,y1,y2,y3,y4,y5,y6,y7][1]? := hf 1 _ rfl;have f2:DataW.trod enc prog W 0 spare true q 9 (([u0,u1,u2,u3,u4,u5,u6,u7].drop 2).take (prog.cellsOf 9))=[y0,y1,y2,y3,y4,y5,y6,y7][2]? := hf 2 _ rfl;have f3:DataW.trod enc prog W 0 spare true q 9 (([u0,u1,u2,u3,u4,u5,u6,u7].drop 3).take (prog.cellsOf 9))=[y0,y1,y2,y3,y4,y5,y6,y7][3]? := hf 3 _ rfl;have f4:DataW.trod enc prog W 0 spare true q 9 (([u0,u1,u2,u3,u4,u5,u6,u7].drop 4).take (prog.cellsOf 9))=[y0,y1,y2,y3,y4,y5,y6,y7][4]? := hf 4 _ rfl
      have f5:DataW.trod enc prog W 0 spare true q 3 (([u0,u1,u2,u3,u4,u5,u6,u7].drop 5).take (prog.cellsOf 3))=[y0,y1,y2,y3,y4,y5,y6,y7][5]? := hf 5 _ rfl;have f6:DataW.trod enc prog W 0 spare true q 3 (([u0,u1,u2,u3,u4,u5,u6,u7].drop 6).take (prog.cellsOf 3))=[y0,y1,y2,y3,y4,y5,y6,y7][6]? := hf 6 _ rfl;have f7:DataW.trod enc prog W 0 spare true q 4 (([u0,u1,u2,u3,u4,u5,u6,u7].drop 7).take (prog.cellsOf 4))=[y0,y1,y2,y3,y4,y5,y6,y7][7]? := hf 7 _ rfl;rw[cells3]at f0 f5 f6;rw[o8]at f1;rw[Mw]at f2 f3 f4;rw[NB]at f7;have f0:DataW.trod enc prog W 0 spare true q 3 [u0]=some y0:=f0;have f1:DataW.trod enc prog W 0 spare true q 26 [u1]=some y1:=f1;have f2:DataW.trod enc prog W 0 spare true q 9 [u2]=some y2:=f2;have f3:DataW.trod enc prog W 0 spare true q 9 [u3]=some y3:=f3
      have f4:DataW.trod enc prog W 0 spare true q 9 [u4]=some y4:=f4;have f5:DataW.trod enc prog W 0 spare true q 3 [u5]=some y5:=f5;have f6:DataW.trod enc prog W 0 spare true q 3 [u6]=some y6:=f6;have f7:DataW.trod enc prog W 0 spare true q 4 [u7]=some y7:=f7;obtain⟨n0,e0,_,_⟩:=DataW.trod_int underlying3 f0;obtain⟨s2,e2,x2,_⟩:=DQ underlying9 f2;obtain⟨s3,e3,x3,_⟩:=DQ underlying9 f3;obtain⟨s4,e4,x4,_⟩:=DQ underlying9 f4;obtain⟨n5,e5,_,_⟩:=DataW.trod_int underlying3 f5;obtain⟨n6,e6,_,w6⟩:=DataW.trod_int underlying3 f6;obtain⟨b7,e7,_⟩:=DataW.trod_bool underlying4 f7;obtain⟨sa,tn,tc,l,ad,aa,a8,a6,an,a2⟩:=sw f1;simp only[List.cons.injEq,and_true]at e0 e2 e3 e4 e5 e6 e7;subst e0 e2 e3 e4 e5 e6 e7 ad;have hd:D i=.agg [y0.1,y1.1,y2.1,y3.1,y4.1,y5.1,y6.1,y7.1]:=by
       have:=AV Prod.fst hD
       simpa using this
      rw[hd]at a1;have am:Rows.uptoBulk y1.1<=1048576:=by
       simp only[Rows.uptoBulk,Rows.uptoBulkAll]at a1;omega
      have ag:s2.data.toList.length<=1048576:=by
       rw[x2]at a1;simp only[Rows.uptoBulk,Rows.uptoBulkAll]at a1;omega
      have a9:s4.data.toList.length<=1048576:=by
       rw[x4]at a1;simp only[Rows.uptoBulk,Rows.uptoBulkAll]at a1;omega
      have hw:=bounds w6;refine⟨(⟨n0,(sa,tn,tc),s2.data.toList,s3.data.toList,s4.data.toList,n5,n6,b7⟩,l),⟨?_,a0 1 (by omega),a0 2 (by omega),a0 3 (by omega),a0 4 (by omega),a0 5 (by omega),a0 6 (by omega),a0 7 (by omega)⟩,⟨aa.symm,λe => ?_,a8,λb off e h0 => ?_,by show l.length<=_;omega,λy hy=>by have:=(a2 y hy).1;omega,λy hy=>by have:=(a2 y hy).2;omega,ag,a9,hw.1,hw.2⟩⟩
      ·have:=a0 0 (by omega)
       rw[show(a.add (i*8)).add 0=a.add (i*8) by simp[Addr.add]]at this;exact this
      ·obtain⟨e1,e2⟩:=a6 e;have e:sa=none:=e;subst e e1 e2;rfl
      obtain⟨b',ae,e',af⟩:=a8 (Bt.1 h0);have e:sa=some ⟨b,off,none⟩:=e;rw[e]at e';cases e'
      cases l with
      | nil=>simp at h0
      | cons y ys=>exact(af 0 y rfl).lt
 haveI:Inhabited (Gi × List It):=⟨(⟨0,(none,0,0),[],[],[],0,0,false⟩,[])⟩
 obtain⟨Y,hY⟩:=Deep.choose_lt a5;refine⟨some a,sn,scap,λi=>(Y i).1,λi=>(Y i).2,hcs,?_,λh0 => ?_,λk hk=>(hY k hk).2⟩
 ·have h1:=length_le ((List.range sn).map D);simp only[Bn,List.length_range]at h1;simp only[Rows.uptoBulk]at hx;omega
 obtain⟨b,off,spot⟩:=a;have hc:=(hY 0 h0).1.1;have a3:spot=none:=by simpa[Addr.add]using World.cell?_spot hc
 subst a3;refine⟨b,off,rfl,λi ac => ?_⟩;obtain⟨⟨h0,h1,h2,h3,h4,h5,h6,h7⟩,_⟩:=hY i ac;rw[Qv]at h0 h1 h2 h3 h4 h5 h6 h7;rw[Qv]at h1 h2 h3 h4 h5 h6 h7;exact⟨h0,h1,h2,h3,h4,h5,h6,h7⟩
end lays
namespace lays
theorem ku:Rows.laysUptoRow.wf (OpenSpec.ofChange (Rows.OpenSpec.upto Rows.laysSpec).bare)=true:=by kernel_rfl
theorem sf:laidOutB prog=true:=by kernel_rfl
theorem ov:mapsRowed prog=true:=by kernel_rfl
theorem fh:f3.params.all (prog.readableRec ·)=true:=by kernel_rfl
theorem oT:namedTie prog Rows.laysUptoRow.named (Rows.OpenSpec.upto Rows.laysSpec).bare.vars=true:=by kernel_rfl
theorem iQ:(Rows.laysUptoRow.stops==[])=true:=by kernel_rfl
theorem j9:(prog.stops==[])=true:=by kernel_rfl
theorem iK:(Rows.laysUptoRow.knobs==[])=true:=by kernel_rfl
theorem l7:(prog.stopKnobs==[])=true:=by kernel_rfl
theorem rP:(Rows.laysUptoRow.inPlace==prog.inPlace 3)=true:=by kernel_rfl
theorem WJ:(Rows.laysUptoRow.unfollowed==prog.unfollowed 3)=true:=by kernel_rfl
theorem Vj:(Rows.laysUptoRow.recurses==prog.recurses 3)=true:=by kernel_rfl
theorem Uh:(Rows.laysUptoRow.named==prog.varsNamed 3)=true:=by kernel_rfl
theorem Tt:(Rows.laysUptoRow.maps==(f3.params.toList++(Rows.OpenSpec.upto Rows.laysSpec).bare.plain.varTypes prog).any (prog.mapsRec ·))=true:=by kernel_rfl
theorem Uv:(Rows.laysUptoRow.ifaces==(f3.params.toList++(Rows.OpenSpec.upto Rows.laysSpec).bare.plain.varTypes prog).any (prog.ifacesRec ·))=true:=by kernel_rfl
theorem WU:(Rows.laysUptoRow.mapsOut==prog.mapsAmong f3.resultTypes.toList)=true:=by kernel_rfl
theorem UI:(Rows.laysUptoRow.loops==(f3.params.toList++(Rows.OpenSpec.upto Rows.laysSpec).bare.plain.varTypes prog).any (prog.loopsFrom ·))=true:=by kernel_rfl
theorem WZ:(Rows.laysUptoRow.wideKeys==(f3.params.toList++(Rows.OpenSpec.upto Rows.laysSpec).bare.plain.varTypes prog++f3.resultTypes.toList).any (prog.wideKeysFrom ·))=true:=by kernel_rfl
theorem Vr:(Rows.OpenSpec.upto Rows.laysSpec).bare.vars.all (prog.varReadable ·)=true:=by kernel_rfl
theorem Uf:f3.resultTypes.all (λt=>prog.readableRec t&&decide (t<prog.types.size))=true:=by kernel_rfl
theorem U0:(Rows.laysUptoRow.ifacesOut==f3.resultTypes.toList.any (prog.ifacesRec ·))=true:=by kernel_rfl
theorem U7:(Rows.laysUptoRow.loopsOut==f3.resultTypes.toList.any (prog.loopsFrom ·))=true:=by kernel_rfl
theorem VP:(Rows.laysUptoRow.plainKeys==prog.plainKeys)=true:=by kernel_rfl
theorem VE:Rows.laysUptoRow.shortTexts.isNone=true:=by kernel_rfl
theorem WW:prog.stopsHeard=true:=by kernel_rfl
theorem WG:prog.mayEnter=true:=by kernel_rfl
theorem UB:(Rows.laysUptoRow.lifted==prog.liftsFinal)=true:=by kernel_rfl
theorem WN:(prog.make==some Rows.laysUptoRow.make)=true:=by kernel_rfl
theorem Vk:(Rows.laysUptoRow.kinds==(if Rows.laysUptoRow.domain.isEmpty then[]else f3.params.toList.map λt=>match prog.underlying t with | some (.int k)=>some k | _=>none))=true:=by kernel_rfl
theorem Vx:(Rows.laysUptoRow.pinned==Rows.laysUptoRow.pinnedBy)=true:=by kernel_rfl
theorem WH:(Rows.laysUptoRow.veiled==(f3.params.toList++(Rows.OpenSpec.upto Rows.laysSpec).bare.plain.varTypes prog++f3.resultTypes.toList).any (prog.veiledRec ·))=true:=by kernel_rfl
theorem Uc:Rows.laysUptoRow.veiledFits prog f3.params.toList (f3.params.toList++(Rows.OpenSpec.upto Rows.laysSpec).bare.plain.varTypes prog++f3.resultTypes.toList)=true:=by kernel_rfl
theorem closed:joinedFacts prog 3 f3 (Rows.OpenSpec.upto Rows.laysSpec).bare Rows.laysUptoRow=true:=by
 unfold joinedFacts
 exact(AW.2 ⟨(AW.2 ⟨(AW.2 ⟨(AW.2 ⟨(AW.2 ⟨(AW.2 ⟨(AW.2 ⟨(AW.2 ⟨(AW.2 ⟨(AW.2 ⟨(AW.2 ⟨(AW.2 ⟨(AW.2 ⟨(AW.2 ⟨(AW.2 ⟨(AW.2 ⟨(AW.2 ⟨(AW.2 ⟨(AW.2 ⟨(AW.2 ⟨(AW.2 ⟨(AW.2 ⟨(AW.2 ⟨(AW.2 ⟨(AW.2 ⟨(AW.2 ⟨(AW.2 ⟨(AW.2 ⟨(AW.2 ⟨(AW.2 ⟨(AW.2 ⟨ku,sf⟩),ov⟩),fh⟩),oT⟩),iQ⟩),j9⟩),iK⟩),l7⟩),rP⟩),WJ⟩),Vj⟩),Uh⟩),Tt⟩),Uv⟩),WU⟩),UI⟩),WZ⟩),Vr⟩),Uf⟩),U0⟩),U7⟩),VP⟩),VE⟩),WW⟩),WG⟩),UB⟩),WN⟩),Vk⟩),Vx⟩),WH⟩),Uc⟩)
end lays
end Go.Proofs.YtodmdkhdbfbfgaaGreatDoor
