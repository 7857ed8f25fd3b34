/- Lemmas. -/
import Derived.Test.YtodmdkhdbfbfgaaGreatDoorM24
set_option linter.unusedVariables false
set_option linter.unusedSimpArgs false
set_option maxRecDepth 100000
set_option maxHeartbeats 8000000
open Go.Proofs.Tryz
namespace Go.Proofs.YtodmdkhdbfbfgaaGreatDoor
section
open Go.RowKit Go.Nt
variable {w:D7} {e:TypeId} {x:Sl} {v:Value} {n B g k:Nat} {xs:List Value}
theorem oV(O off co:Nat)(a:Option Addr)(n cp B:Nat)(m:Int)(w:D7)(hn:n<=1000)(hc:w.cell? ⟨O,off,none⟩=some (.slice a n cp))(hm:Dj w B m a n) :
 Calls prog 62 #[.slice (some ⟨O,off,none⟩) 1 co,.int .i64 m] w λe w'=>e=.returned (.bool true)/\w'=w:=by
 have a2:∀w,(binOp .neq 39 (.agg #[.string ByteArray.empty,.bool false,.string ByteArray.empty,.int .i64 m,.int .i64 0]) (.agg #[.string ByteArray.empty,.bool false,.string ByteArray.empty,.int .i64 m,.int .i64 0])).run prog w=.ok (.bool false) w:=λw=>by
  have h:=Yr (Fq m) (Fq m) w;rw[Cm rfl]at h;exact h
 have a3:=Vn;have Hm:=Jy hm;clear hm;go_enter func62,ntmps62
 go_wp2
 go_loop [5] (λi=>i=.int .i64 0\/i=.int .i64 1) (λi=>1 - (intOf i).toNat)
 case atStart=>exact .inl rfl
 case round =>
  rcases hrel with rfl | rfl
  ·go_wp2
   go_loop [6] (λi=>∃k:Nat,k<=n/\i=.int .i64 k) (λi=>n - (intOf i).toNat)
   case atStart=>exact⟨0,by omega,rfl⟩
   obtain⟨k,hk,rfl⟩:=hrel;by_cases a1:k<n
   ·obtain⟨g,hA,a0⟩:=Hm.o.cell (by omega);rw[hA]at hc;obtain⟨y0,y1,y2,y3,y4⟩:=a0 k a1;have x0:w.cell? ⟨g,k*5,none⟩=some (.string ByteArray.empty):=y0;have x1:w.cell? ⟨g,k*5+1,none⟩=some (.bool false):=y1;have x2:w.cell? ⟨g,k*5+2,none⟩=some (.string ByteArray.empty):=y2;have x3:w.cell? ⟨g,k*5+3,none⟩=some (.int .i64 m):=y3;have x4:w.cell? ⟨g,k*5+4,none⟩=some (.int .i64 0):=y4;clear a0 hA y0 y1 y2 y3 y4;go_wp2
    go_round
    case rel=>exact⟨k+1,by omega,by go_num⟩
    case measure=>simp[intOf];omega
   go_wp2
   go_round
   case rel=>exact .inr rfl
   case measure=>simp[intOf]
  go_wp2;go_ret
  exact⟨rfl,rfl⟩
theorem pU(O off co:Nat)(a:Option Addr)(n cp B:Nat)(mk:ByteArray)(w:D7)(hn:n<=1000)(hc:w.cell? ⟨O,off,none⟩=some (.slice a n cp))(hm:S1.Dj w B (.string mk) a n) :
 Calls prog 63 #[.slice (some ⟨O,off,none⟩) 1 co,.string mk] w λe w'=>e=.returned (.bool true)/\w'=w:=by
 have Hm:=Jy hm;clear hm;go_enter func63,ntmps63
 go_wp2
 go_loop [5] (λi=>i=.int .i64 0\/i=.int .i64 1) (λi=>1 - (intOf i).toNat)
 case atStart=>exact .inl rfl
 case round =>
  rcases hrel with rfl | rfl
  ·go_wp2
   go_loop [6] (λi=>∃k:Nat,k<=n/\i=.int .i64 k) (λi=>n - (intOf i).toNat)
   case atStart=>exact⟨0,by omega,rfl⟩
   obtain⟨k,hk,rfl⟩:=hrel;by_cases a1:k<n
   ·obtain⟨g,hA,a0⟩:=Hm.o.cell (by omega);rw[hA]at hc;have x0:=a0 k a1;clear a0 hA;go_wp2
    go_round
    case rel=>exact⟨k+1,by omega,by go_num⟩
    case measure=>simp[intOf];omega
   go_wp2
   go_round
   case rel=>exact .inr rfl
   case measure=>simp[intOf]
  go_wp2;go_ret
  exact⟨rfl,rfl⟩
def Nl(n:Nat):Bs:=[126,UInt8.ofNat n,UInt8.ofNat (n/256),UInt8.ofNat (n/65536)]
def LQ(w:D7)(T:Nat->Prop)(x:Sl)(es:List Sl):Prop:=
 w.ownsRow 0 26 1 (.slice x.1 x.2.1 x.2.2) es.length (es.map sl)/\∀i e,es[i]? = some e->e.2.1<=1000/\Dj w 0 (-1 - ((i/4:Nat):Int)) e.1 e.2.1/\(∀k,e.1=some ⟨k,0,none⟩->0<e.2.1->T k)
def LM(w:D7)(T:Nat->Prop)(x:Sl)(es:List Sl):Prop:=
 w.ownsRow 0 40 1 (.slice x.1 x.2.1 x.2.2) es.length (es.map sl)/\∀i e,es[i]? = some e->e.2.1<=1000/\S1.Dj w 0 (.string (D9 (Nl (i/4)))) e.1 e.2.1/\(∀k,e.1=some ⟨k,0,none⟩->0<e.2.1->T k)
theorem Vo{es:List Sl}(h:w.ownsRow 0 e 1 (.slice x.1 x.2.1 x.2.2) es.length (es.map sl))(hn:es≠[]):∃g cap,x=(some ⟨g,0,none⟩,es.length,cap)/\es.length<=cap/\cap<=maxLen/\(∃cur,w.heap[g]? = some (.cells cur e (0,0)))/\∀i y,es[i]? = some y->w.cell? ⟨g,i,none⟩=some (.slice y.1 y.2.1 y.2.2):=by
 rcases h.2 with⟨h1,h0⟩ | ⟨g,cap,cur,h1,h2,h3,h4,h5,h6⟩
 ·exact absurd (BN.1 h0) hn
 obtain⟨x1,x2,x3⟩:=x;simp at h1;obtain⟨rfl,rfl,rfl⟩:=h1;refine⟨g,x3,rfl,h4,h5,⟨cur,h3⟩,λi y hy => ?_⟩;have hi:i<es.length:=(AP.1 hy).1;have h':w.ownsRow 0 e 1 (.slice (some ⟨g,0,none⟩) es.length x3) es.length (es.map sl):=h;rw[h'.cellAt i (by omega),BQ,hy];rfl
theorem Qo(W:D7)(a b c:Nat)(ha:a<256)(hb:b<256)(hc:c<256):(convert 111 9 (.slice (some ⟨W.heap.size,0,none⟩) 4 4)).run prog (W.alloc (.cells #[.int .u8 126,.int .u8 a,.int .u8 b,.int .u8 c] 5))=.ok (.string (D9 [126,UInt8.ofNat a,UInt8.ofNat b,UInt8.ofNat c])) (W.alloc (.cells #[.int .u8 126,.int .u8 a,.int .u8 b,.int .u8 c] 5)):=by
 refine S1.GY (base:=W.heap.size) (n:=4) ⟨?_,.inr ⟨W.heap.size,4,_,rfl,AB _,AQ _ _,?_,?_,?_,?_⟩⟩
 ·simp[Lib.strCells,S1.Dd]
 ·omega
 ·unfold maxLen;omega
 ·rfl
 simp[Lib.strCells,S1.D9,Bi ha,Bi hb,Bi hc]
theorem WE(n:Nat):Nl n=[126,UInt8.ofNat (n%256),UInt8.ofNat (n/256%256),UInt8.ofNat (n/65536%256)]:=by
 unfold Nl;have h:∀k:Nat,UInt8.ofNat (k%256)=UInt8.ofNat k:=λk=>by
  apply BL.1
  simp
 rw[h,h,h]
theorem Qr(W:D7)(j:Nat):(convert 111 9 (.slice (some ⟨W.heap.size,0,none⟩) 4 4)).run prog (W.alloc (.cells #[.int .u8 126,.int .u8 ((j:Int)%256),.int .u8 ((j:Int)/256%256),.int .u8 ((j:Int)/65536%256)] 5))=.ok (.string (D9 (Nl j))) (W.alloc (.cells #[.int .u8 126,.int .u8 ((j:Int)%256),.int .u8 ((j:Int)/256%256),.int .u8 ((j:Int)/65536%256)] 5)):=by
 have h:=Qo W (j%256) (j/256%256) (j/65536%256) (BM _ (by decide)) (BM _ (by decide)) (BM _ (by decide));rw[WE];exact h
theorem Rq(W:D7)(g j:Nat)(h:W.heap[g]? = some (.cells #[.int .u8 126,.int .u8 ((j:Int)%256),.int .u8 ((j:Int)/256%256),.int .u8 ((j:Int)/65536%256)] 5 (0,0))):(convert 111 9 (.slice (some ⟨g,0,none⟩) 4 4)).run prog W=.ok (.string (D9 (Nl j))) W:=by
 refine S1.GY (base:=0) (n:=4) (l:=Nl j) ⟨?_,.inr ⟨g,4,_,rfl,AU _,h,?_,?_,?_,?_⟩⟩
 ·rw[WE];simp[Lib.strCells,S1.Dd]
 ·omega
 ·unfold maxLen;omega
 ·rfl
 rw[WE];simp[Lib.strCells,S1.D9]
theorem PU:(prog.info? 40).map (λi=>(i.zero,i.size,i.bytes))=some (some (.slice none 0 0),1,24):=S1.Kl
def YF(w:D7)(B sb:Nat)(s:Sv)(es:List Sl)(j:Nat)(e:Ending)(w':D7):Prop:=
 e=.returned (.tuple #[])/\∃(x:Sl) (es':List Sl),Dh w' sb { s with texts:=x }/\w'.ownsRow 0 40 1 (.slice x.1 x.2.1 x.2.2) (es++es').length ((es++es').map sl)/\es'.length=4/\(∀y∈es',y.2.1<=1000/\S1.Dj w' B (.string (D9 (Nl j))) y.1 y.2.1) /\
  (∀k,(Value.slice x.1 x.2.1 x.2.2).ownBlock=some k->(Value.slice s.texts.1 s.texts.2.1 s.texts.2.2).ownBlock=some k\/B<=k)/\S1.Fm (λk=>k=sb\/(Value.slice s.texts.1 s.texts.2.1 s.texts.2.2).ownBlock=some k\/B<=k) w w'
theorem YW{size:Nat}(h:w.ownsRow 0 e size v n xs):∃x:Sl,v=.slice x.1 x.2.1 x.2.2:=by
 rcases h.2 with⟨rfl,h0⟩ | ⟨g,cap,cur,rfl,_⟩
 ·exact⟨(none,0,0),rfl⟩
 exact⟨(some ⟨g,0,none⟩,n,cap),rfl⟩
theorem Nr(h:w.ownsRow 0 e 1 (.slice x.1 x.2.1 x.2.2) n xs):x.2.1=n:=by
 rcases h.2 with⟨h1,h0⟩ | ⟨g,cp,cur,h1,_⟩
 ·simp at h1;omega
 simp at h1;omega
theorem NV{w':D7}{size:Nat}(h:w.ownsRow B e size v n xs)(hb:∀g,v.ownBlock=some g->w'.heap[g]? = w.heap[g]?):w'.ownsRow B e size v n xs:=by
 obtain⟨h1,⟨rfl,h0⟩ | ⟨g,a0,a4,rfl,a1,a2,a3⟩⟩:=h
 ·exact⟨h1,.inl ⟨rfl,h0⟩⟩
 exact⟨h1,.inr ⟨g,a0,a4,rfl,a1,(hb g rfl).trans a2,a3⟩⟩
theorem Kb{a b:Array Value}{t u:TypeId}{f f':Nat × Nat}(h:w.heap[g]? = some (.cells a t f))(h':w.heap[k]? = some (.cells b u f'))(hne:t≠u):g≠k:=λe=>by
 subst e;rw[h]at h';cases h'
 exact hne rfl
theorem LD{size:Nat}(h:w.ownsRow B e size v n xs)(hg:v.ownBlock=some g):∃cur,w.heap[g]? = some (.cells cur e (0,0)):=by
 obtain⟨cur,a0,_,_,h3,_⟩:=Mj h hg;exact⟨cur,h3⟩
theorem Dh.Kk{sb:Nat}{s:Sv}(hs:Dh w sb s){size:Nat}(h:w.ownsRow B e size v n xs)(he:e≠106)(hg:v.ownBlock=some g):g≠sb:=by
 obtain⟨a0,hc⟩:=LD h hg;exact Kb hc hs he
theorem SO(w:D7)(sb o:Nat)(v:Value)(h:k≠sb):(w.setCell ⟨sb,o,none⟩ v).heap[k]? = w.heap[k]? := AH w ⟨sb,o,none⟩ v k h
theorem nZ(w:D7)(sb:Nat)(s:Sv)(es:List Sl)(j:Nat)(a:Option Addr)(n cap B:Nat)(xs:List Value)(hs:Dh w sb s)(hl:w.ownsRow 0 40 1 (.slice s.texts.1 s.texts.2.1 s.texts.2.2) es.length (es.map sl))(h4:es.length=4*j)(hj:j<=100000000)(hrow:w.ownsRow B 9 1 (.slice a n cap) n xs)(hn:n<=900)(hB:B<=w.heap.size)(hsb:sb<B)(htb:∀k,(Value.slice s.texts.1 s.texts.2.1 s.texts.2.2).ownBlock=some k->k<B) :
 Calls prog 107 #[.pointer (some ⟨sb,0,none⟩),.slice a n cap] w λe w'=>YF w B sb s es j e w':=by
 obtain⟨i0,hi,aw,aB,av⟩:=Ai PU;have c9:w.cell? ⟨sb,9,none⟩=some (.slice s.texts.1 s.texts.2.1 s.texts.2.2):=hs.cell 9;have a5:s.texts.2.1=4*j:=by rw[Nr hl,h4]
 have q1:(((4*j:Nat):Int)).tdiv 4=(j:Nat):=by rw[BX (by omega)];omega
 have q2:=zW (x:=(j:Int));obtain⟨W1,a6⟩:=Jq (w.alloc (.cells #[.int .u8 126,.int .u8 ((j:Int)%256),.int .u8 ((j:Int)/256%256),.int .u8 ((j:Int)/65536%256)] 5));have aa:=Jy (Qr w j);rw[<-a6]at aa;obtain⟨X,hX⟩:=Jq (D9 (Nl j));rw[<-hX]at aa;have s1:=L0 a6;have b1:=KD a6;have A:=Jy (S1.OG a n cap B xs X W1 (by omega) (by omega) (by rw[a6];exact hrow.alloc _));have HX:=Jy hX;have az:=Jy a6;have aA:=Jy b1;have Hs:=Jy hs;have Hl:=Jy hl;have am:=Jy htb;obtain⟨tx,ae⟩:=Jq s.texts;rw[<-ae]at c9 a5 Hl am;have ai:=Jy ae;obtain⟨t1,t2,t3⟩:=tx;dsimp only at c9 a5;subst a5;clear hs hl hrow hX a6 b1 htb ae;go_enter func107,ntmps107
 go_wp2_with (first | (rw[<-az.o]) | fail);rw[aa.o];go_wp2_with fail;refine A.o.mono ?_;rintro e w2 ⟨v2,rfl,⟨O,co,Aa,C,rfl,hO,hp⟩,ar⟩;have a1:Below B w w2:=(aA.o.mono hB).trans ar;have ac:Dh w2 sb s:=Hs.o.of_block (a1.block sb hsb);have k9:w2.cell? ⟨sb,9,none⟩=some (.slice t1 (4*j) t3):=by
  have:=ac.cell 9
  rw[this];unfold Sv.arr;rw[<-ai.o];rfl
 have a9:w2.ownsRow 0 40 1 (.slice t1 (4*j) t3) (4*j) (es.map sl):=by
  have h:=Hl.o;rw[h4]at h;exact NV h (λg hg=>a1.block g (am.o g hg))
 have a0:∀p,p<4->w2.cell? ⟨O,p,none⟩=some (.slice (Aa p) (n+p) (C p)):=λp h=>(hp p h).1
 have Hp:=Jy hp;have ad:=Jy ac;have aj:=Jy a1;have af:B<=w2.heap.size:=AF hB a1.size;clear hp ar a1 A aa ac;go_wp2_with (at_builtin;refine Sg _ rfl (.tmp 28) (.tmp 29) 71 rfl 0 40 i0 (.slice none 0 0) 1 24 underlying71 hi aw aB av rfl (by decide) _ _ _ rfl a9 ⟨O,0,none⟩ 4 co [.slice (Aa 0) (n+0) (C 0),.slice (Aa 1) (n+1) (C 1),.slice (Aa 2) (n+2) (C 2),.slice (Aa 3) (n+3) (C 3)] rfl rfl ?c1 ?c2 ?c3 ?c4 ?c5 ?_)
 case c1 =>
  intro q u hu
  match q,hu with
  | 0,hu=>simp at hu;rw[<-hu];exact a0 0 (by omega)
  | 1,hu=>simp at hu;rw[<-hu];exact a0 1 (by omega)
  | 2,hu=>simp at hu;rw[<-hu];exact a0 2 (by omega)
  | 3,hu=>simp at hu;rw[<-hu];exact a0 3 (by omega)
  | _+4,hu=>simp at hu
 case c2=>intro u hu;simp at hu;rcases hu with rfl | rfl | rfl | rfl<;>rfl
 case c3=>unfold maxLen;omega
 case c4=>omega
 case c5=>exact AU _
 intro v3 w3 a2 a4;obtain⟨x,rfl⟩:=YW a2;have a3:=TU a4;have a7:∀k,(Value.slice t1 (4*j) t3).ownBlock=some k->k≠sb:=λk hk=>ad.o.Kk a9 (by decide) hk
 have a8:Dh w3 sb s:=ad.o.of_block (a3.block sb (lt_of_heap ad.o) (λe=>a7 sb e.symm rfl));have m9:w3.cell? ⟨sb,9,none⟩=some (.slice s.texts.1 s.texts.2.1 s.texts.2.2):=a8.cell 9;have z9:=a8.frozen 9;have ay:=Jy a2;have ag:=Jy a8;have an:=Jy a3;have ah:=Jy a4;have ax:=Jy a9;clear a2 a4 a3 a8 a0 k9 a9 a7;go_wp2_with fail;go_end0
 refine⟨rfl,x,[(Aa 0,n+0,C 0),(Aa 1,n+1,C 1),(Aa 2,n+2,C 2),(Aa 3,n+3,C 3)],ag.o.ND x,?_,rfl,λy hy => ?_,λk hk => ?_,?_⟩
 ·have h:=ay.o;have e1:(es++[(Aa 0,n+0,C 0),(Aa 1,n+1,C 1),(Aa 2,n+2,C 2),(Aa 3,n+3,C 3)]).length=4*j+4:=by rw[AN,h4];rfl
  rw[e1,Aq];exact NV h (λg hg=>SO _ _ _ _ (ag.o.Kk h (by decide) hg))
 ·have key:∀p,p<4->(Aa p,n+p,C p).2.1<=1000/\S1.Dj (w3.setCell ⟨sb,9,none⟩ (.slice x.1 x.2.1 x.2.2)) B (.string (D9 (Nl j))) (Aa p) (n+p):=λp hp=>by
   refine⟨by dsimp only;omega,λh0 => ?_⟩;obtain⟨g,au,e1,e2,e3,e4⟩:=(Hp.o p hp).2 h0;have ao:w3.heap[g]? = some (.cells au 9 (0,0)):=(an.o.block g (lt_of_heap e3) (λe=>by
    obtain⟨c',aC⟩:=LD ax.o e.symm;exact Kb e3 aC (by decide) rfl)).trans e3
   refine⟨g,au,e1,e2,(SO _ _ _ _ (Kb ao ag.o (by decide))).trans ao,?_⟩;rw[<-HX.o];exact e4
  simp only[As,List.mem_nil_iff,or_false]at hy;rcases hy with rfl | rfl | rfl | rfl
  ·exact key 0 (by omega)
  ·exact key 1 (by omega)
  ·exact key 2 (by omega)
  exact key 3 (by omega)
 ·rw[<-ai.o];rcases ah.o with⟨h1,_⟩ | ⟨h1,_⟩
  ·exact .inl (h1.symm.trans hk)
  exact .inr (AF af (h1.lt k hk).1)
 rw[<-ai.o];have f1:S1.Fm (λk=>k=sb\/(Value.slice t1 (4*j) t3).ownBlock=some k\/B<=k) w w2:=S1.Fm.of_below aj.o (λk h1 h2=>.inr (.inr h1));have f2:=Tg f1 an.o (λr hr=>.inl (.inr (.inl hr)));exact f2.set (λ_=>.inl rfl) _ _
def SF(w:D7)(B sb:Nat)(s:Sv)(es:List Sl)(j:Nat)(a:Option Addr)(e:Ending)(w':D7):Prop:=
 e=.returned (.tuple #[])/\∃(x:Sl) (es':List Sl),Dh w' sb { s with lists:=x }/\w'.ownsRow 0 26 1 (.slice x.1 x.2.1 x.2.2) (es++es').length ((es++es').map sl)/\es'.length=4/\(∀y∈es',y.2.1<=1000/\Dj w' B (-1 - (j:Int)) y.1 y.2.1) /\
  (∀k,(Value.slice x.1 x.2.1 x.2.2).ownBlock=some k->(Value.slice s.lists.1 s.lists.2.1 s.lists.2.2).ownBlock=some k\/w.heap.size<=k)/\S1.Fm (λk=>k=sb\/(Value.slice s.lists.1 s.lists.2.1 s.lists.2.2).ownBlock=some k\/a=some ⟨k,0,none⟩) w w'
theorem Wk(w:D7)(sb:Nat)(s:Sv)(es:List Sl)(j:Nat)(a:Option Addr)(l:List It)(cap B:Nat)(hs:Dh w sb s)(hl:w.ownsRow 0 26 1 (.slice s.lists.1 s.lists.2.1 s.lists.2.2) es.length (es.map sl))(h4:es.length=4*j)(hj:j<=100000000)(hrow:w.ownsRow B 39 5 (.slice a l.length cap) l.length (E9 l))(hn:l.length<=900)(hB:B<=w.heap.size) :
 Calls prog 100 #[.pointer (some ⟨sb,0,none⟩),.slice a l.length cap] w λe w'=>SF w B sb s es j a e w':=by
 obtain⟨i0,hi,aw,aC,av⟩:=Ai N0;have c8:w.cell? ⟨sb,8,none⟩=some (.slice s.lists.1 s.lists.2.1 s.lists.2.2):=hs.cell 8;have a5:s.lists.2.1=4*j:=by rw[Nr hl,h4]
 have q1:(((4*j:Nat):Int)).tdiv 4=(j:Nat):=by rw[BX (by omega)];omega
 have q2:=zW (x:=(j:Int));have q3:=zW (x:=(-1 - (j:Int)));have A:=Jy (lD a cap l (-1 - (j:Int)) w (by omega) (M3 hrow (AU _)));have Hs:=Jy hs;have Hl:=Jy hl;have a6:=Jy hrow;obtain⟨tx,af⟩:=Jq s.lists;rw[<-af]at c8 a5 Hl;have am:=Jy af;obtain⟨t1,t2,t3⟩:=tx;dsimp only at c8 a5;subst a5;obtain⟨n,an⟩:=Jq l.length;rw[<-an]at A hn a6 ⊢;clear hs hl hrow af an;go_enter func100,ntmps100
 go_wp2_with fail;refine A.o.mono ?_;rintro e w2 ⟨v2,rfl,⟨O,co,Aa,C,rfl,hO,⟨ax,aA⟩,hp⟩,a9⟩;have a3:∀k,a=some ⟨k,0,none⟩->∃a7,w.heap[k]? = some (.cells a7 39 (0,0)):=λk hk=>LD a6.o (by rw[hk];rfl)
 have ad:Dh w2 sb s:=Hs.o.of_block (a9.block sb (lt_of_heap Hs.o) (λe=>by
  obtain⟨a7,hc⟩:=a3 sb e;exact Kb hc Hs.o (by decide) rfl))
 have k8:w2.cell? ⟨sb,8,none⟩=some (.slice t1 (4*j) t3):=by
  have:=ad.cell 8
  rw[this];unfold Sv.arr;rw[<-am.o];rfl
 have ac:w2.ownsRow 0 26 1 (.slice t1 (4*j) t3) (4*j) (es.map sl):=by
  have h:=Hl.o;rw[h4]at h;exact NV h (λg hg=>a9.block g (h.lt g hg).2 (λe=>by
   obtain⟨a7,hc⟩:=a3 g e;obtain⟨au,aj⟩:=LD h hg;exact Kb hc aj (by decide) rfl))
 have a0:∀p,p<4->w2.cell? ⟨O,p,none⟩=some (.slice (Aa p) (n+p) (C p)):=λp h=>(hp p h).1
 have Hp:=Jy hp;have ae:=Jy ad;have aD:=Jy a9;have ag:w.heap.size<=w2.heap.size:=a9.size;clear hp a9 A ad aA;go_wp2_with (at_builtin;refine Sg _ rfl (.tmp 18) (.tmp 19) 54 rfl 0 26 i0 (.slice none 0 0) 1 24 underlying54 hi aw aC av rfl (by decide) _ _ _ rfl ac ⟨O,0,none⟩ 4 co [.slice (Aa 0) (n+0) (C 0),.slice (Aa 1) (n+1) (C 1),.slice (Aa 2) (n+2) (C 2),.slice (Aa 3) (n+3) (C 3)] rfl rfl ?c1 ?c2 ?c3 ?c4 ?c5 ?_)
 case c1 =>
  intro q u hu
  match q,hu with
  | 0,hu=>simp at hu;rw[<-hu];exact a0 0 (by omega)
  | 1,hu=>simp at hu;rw[<-hu];exact a0 1 (by omega)
  | 2,hu=>simp at hu;rw[<-hu];exact a0 2 (by omega)
  | 3,hu=>simp at hu;rw[<-hu];exact a0 3 (by omega)
  | _+4,hu=>simp at hu
 case c2=>intro u hu;simp at hu;rcases hu with rfl | rfl | rfl | rfl<;>rfl
 case c3=>unfold maxLen;omega
 case c4=>omega
 case c5=>exact AU _
 intro v3 w3 a1 a4;obtain⟨x,rfl⟩:=YW a1;have a2:=TU a4;have a8:∀k,(Value.slice t1 (4*j) t3).ownBlock=some k->k≠sb:=λk hk=>ae.o.Kk ac (by decide) hk
 have aa:Dh w3 sb s:=ae.o.of_block (a2.block sb (lt_of_heap ae.o) (λe=>a8 sb e.symm rfl));have m8:w3.cell? ⟨sb,8,none⟩=some (.slice s.lists.1 s.lists.2.1 s.lists.2.2):=aa.cell 8;have z8:=aa.frozen 8;have az:=Jy a1;have ah:=Jy aa;have ao:=Jy a2;have ai:=Jy a4;have ay:=Jy ac;have aB:=Jy a3;clear a1 a4 a2 aa a0 k8 ac a8 a3;go_wp2_with fail;go_end0
 refine⟨rfl,x,[(Aa 0,n+0,C 0),(Aa 1,n+1,C 1),(Aa 2,n+2,C 2),(Aa 3,n+3,C 3)],ah.o.NS x,?_,rfl,λy hy => ?_,λk hk => ?_,?_⟩
 ·have h:=az.o;have e1:(es++[(Aa 0,n+0,C 0),(Aa 1,n+1,C 1),(Aa 2,n+2,C 2),(Aa 3,n+3,C 3)]).length=4*j+4:=by rw[AN,h4];rfl
  rw[e1,Aq];exact NV h (λg hg=>SO _ _ _ _ (ah.o.Kk h (by decide) hg))
 ·have key:∀p,p<4->(Aa p,n+p,C p).2.1<=1000/\Dj (w3.setCell ⟨sb,8,none⟩ (.slice x.1 x.2.1 x.2.2)) B (-1 - (j:Int)) (Aa p) (n+p):=λp hp=>by
   refine⟨by dsimp only;omega,λh0 => ?_⟩;obtain⟨g,a7,e1,_,e3,e4⟩:=(Hp.o p hp).2.1 h0;obtain⟨g',e5,e6⟩:=(Hp.o p hp).2.2 h0;rw[e1]at e5;cases e5
   have aE:B<=g:=by
    rcases e6 with e6 | e6
    ·exact(a6.o.lt g (by rw[e6];rfl)).1
    omega
   have ar:w3.heap[g]? = some (.cells a7 39 (0,0)):=(ao.o.block g (lt_of_heap e3) (λe=>by
    obtain⟨c',aj⟩:=LD ay.o e.symm;exact Kb e3 aj (by decide) rfl)).trans e3
   exact⟨g,a7,e1,aE,(SO _ _ _ _ (Kb ar ah.o (by decide))).trans ar,e4⟩
  simp only[As,List.mem_nil_iff,or_false]at hy;rcases hy with rfl | rfl | rfl | rfl
  ·exact key 0 (by omega)
  ·exact key 1 (by omega)
  ·exact key 2 (by omega)
  exact key 3 (by omega)
 ·rw[<-am.o];rcases ai.o with⟨h1,_⟩ | ⟨h1,_⟩
  ·exact .inl (h1.symm.trans hk)
  exact .inr (AF ag (h1.lt k hk).1)
 rw[<-am.o];have f1:S1.Fm (λk=>k=sb\/(Value.slice t1 (4*j) t3).ownBlock=some k\/a=some ⟨k,0,none⟩) w w2:=aD.o.mono (λk _ h=>.inr (.inr h));have f2:=Tg f1 ao.o (λr hr=>.inl (.inr (.inl hr)));exact f2.set (λ_=>.inl rfl) _ _
theorem qc(w:D7)(sb:Nat)(s:Sv)(R:Nat->Prop)(es ts:List Sl)(hs:Dh w sb s)(hl:LQ w R s.lists es)(ht:LM w R s.texts ts)(hn:es.length<=1000000000)(hm:ts.length<=1000000000) :
 Calls prog 32 #[.pointer (some ⟨sb,0,none⟩)] w λe w'=>e=.returned (.bool true)/\Below w.heap.size w w':=by
 have c8:w.cell? ⟨sb,8,none⟩=some (.slice s.lists.1 s.lists.2.1 s.lists.2.2):=hs.cell 8;have a8:Hid (∀W,Below w.heap.size w W->W.cell? ⟨sb,9,none⟩=some (.slice s.texts.1 s.texts.2.1 s.texts.2.2)):=Jy (λW hW=>(Dh.of_block hs (hW.block sb (lt_of_heap hs))).cell 9);have a6:=Nr hl.1;have a5:=Nr ht.1;have Hl:=Jy hl;have Ht:=Jy ht;obtain⟨x,hx⟩:=Jq s.lists;obtain⟨y,hy⟩:=Jq s.texts;rw[<-hx]at c8 a6 Hl;rw[<-hy]at a8 a5 Ht;obtain⟨x1,x2,x3⟩:=x;obtain⟨y1,y2,y3⟩:=y;dsimp only at c8 a6 a5 a8;clear hs hl ht hx hy;rw[<-a6]at hn;rw[<-a5]at hm;have HN:=Jy a6;have HM:=Jy a5;clear a6 a5;go_enter func32,ntmps32
 go_wp2_with fail
 go_loopw [3] (λi wr=>wr=w/\∃k:Nat,k<=x2/\i=.int .i64 k) (λi _=>x2 - (intOf i).toNat)
 case atStart=>exact⟨rfl,0,by omega,rfl⟩
 case round =>
  obtain⟨rfl,k,hk,rfl⟩:=hrel;by_cases ac:k<x2
  ·have a3:k<es.length:=by have:=HN.o;omega
   obtain⟨g,ae,e,h5,h6,_,a0⟩:=Vo Hl.o.1 (λh=>by rw[h]at a3;simp at a3);simp only[Prod.mk.injEq]at e;obtain⟨rfl,e2,rfl⟩:=e;obtain⟨z,hz⟩:∃z,es[k]? = some z:=⟨_,AD a3⟩;have hc:=a0 k z hz;obtain⟨h7,h8,_⟩:=Hl.o.2 k z hz;obtain⟨z1,z2,z3⟩:=z;dsimp only at hc h7 h8;have A:=Jy (oV g k (x3 - k) z1 z2 z3 0 _ wr h7 hc h8);have a1:(k:Int)<(x2:Nat):=by omega
   have b1:(k:Int)+1<=(x3:Nat):=by omega
   have b0:(0:Int)<=(k:Int):=by omega
   have ai:x2<=x3:=by omega
   have ah:x3<=9223372036854775807:=by unfold maxLen at h6;omega
   have q1:(k:Int).tdiv 4=((k/4:Nat):Int):=by rw[BX (by omega)];omega
   obtain⟨q,hq⟩:=Jq (k/4);rw[<-hq]at A q1;have aj:q<=1000000000:=by omega
   have q2:IntKind.i64.wrap (q:Int)=(q:Nat):=by rw[Av];omega
   have q3:IntKind.i64.wrap (-1 - (q:Int)) = -1 - (q:Nat):=by rw[Av];omega
   clear a0 hz hc h8 hq e2 h5 h6;go_wp2_with fail;refine Jj A.o ?_;clear A;go_wp2_with fail;go_roundw
   case rel=>exact⟨trivial,k+1,by omega,by go_num⟩
   case measure=>simp[intOf];omega
  have a1:¬(k:Int)<(x2:Nat):=by omega
  obtain⟨W0,am⟩:=Jq wr;subst am;go_wp2_with fail
  go_loopw [5] (λi wx=>∃k:Nat,k<=y2/\i=.int .i64 k/\Hid (Below W0.heap.size W0 wx)) (λi _=>y2 - (intOf i).toNat)
  case atStart=>exact⟨0,by omega,rfl,Jy (AM _ _)⟩
  clear hk ac a1 c8;obtain⟨k,hk,rfl,HB⟩:=hrel;have c9:=a8.o wr HB.o;have ag:W0.heap.size<=wr.heap.size:=HB.o.size;by_cases ac:k<y2
  ·have a3:k<ts.length:=by have:=HM.o;omega
   obtain⟨g,ae,e,h5,h6,⟨ax,a4⟩,a0⟩:=Vo Ht.o.1 (λh=>by rw[h]at a3;simp at a3);simp only[Prod.mk.injEq]at e;obtain⟨rfl,e2,rfl⟩:=e;obtain⟨z,hz⟩:∃z,ts[k]? = some z:=⟨_,AD a3⟩;have hc:=a0 k z hz;obtain⟨h7,h8,_⟩:=Ht.o.2 k z hz;obtain⟨z1,z2,z3⟩:=z;dsimp only at hc h7 h8;have q1:(k:Int).tdiv 4=((k/4:Nat):Int):=by rw[BX (by omega)];omega
   obtain⟨q,hq⟩:=Jq (k/4);rw[<-hq]at h8 q1;have aj:q<=1000000000:=by omega
   have q2:IntKind.i64.wrap (q:Int)=(q:Nat):=by rw[Av];omega
   obtain⟨W1,a2⟩:=Jq ((wr.alloc (.cells #[.int .u8 126,.int .u8 ((q:Int)%256),.int .u8 ((q:Int)/256%256),.int .u8 ((q:Int)/65536%256)] 5)).drew);have a7:Below W0.heap.size W0 W1:=by rw[a2];exact(HB.o.alloc ag _).drew
   obtain⟨X,hX⟩:=Jq (D9 (Nl q));have ad:Hid ((convert 111 9 (.slice (some ⟨wr.heap.size,0,none⟩) 4 4)).run prog W1=.ok (.string X) W1):=Jy (by rw[hX];exact Rq _ _ q (by rw[a2];exact AQ _ _));rw[<-hX]at h8;have ar:g<W0.heap.size:=lt_of_heap a4;have A:=Jy (pU g k (y3 - k) z1 z2 z3 0 X W1 h7 (by rw[a7.cell (p:=⟨g,k,none⟩) ar];exact hc) (h8.below a7));have a1:(k:Int)<(y2:Nat):=by omega
   have b1:(k:Int)+1<=(y3:Nat):=by omega
   have b0:(0:Int)<=(k:Int):=by omega
   have ai:y2<=y3:=by omega
   have ah:y3<=9223372036854775807:=by unfold maxLen at h6;omega
   have g1:IntKind.i64.wrap ((k:Int)+1)=(k:Int)+1:=by rw[Av];omega
   have g3:(0:Int)<=(k:Int)+1:=by omega
   have g5:((k:Int)+1).toNat=k+1:=by omega
   have g6:(k:Int)<=(k:Int)+1:=by omega
   have g7:¬((k:Int)<0):=by omega
   have g8:¬((k:Int)+1<(k:Int)):=by omega
   have g9:¬((y3:Int)<(k:Int)+1):=by omega
   have aw:k+1 - k=1:=by omega
   have au:¬(y3=k):=by omega
   have v1:IntKind.u8.wrap (q:Int)=(q:Int)%256:=by simp[IntKind.wrap,IntKind.signed,IntKind.bits]
   have v2:IntKind.u8.wrap ((q:Int)/256)=(q:Int)/256%256:=by simp[IntKind.wrap,IntKind.signed,IntKind.bits]
   have v3:IntKind.u8.wrap ((q:Int)/65536)=(q:Int)/65536%256:=by simp[IntKind.wrap,IntKind.signed,IntKind.bits]
   have a9:=ad.o;rw[a2]at a9;have af:(convert 111 9 (.slice (some ⟨wr.heap.size,0,none⟩) 4 4)).run prog (wr.alloc (.cells #[.int .u8 126,.int .u8 ((q:Int)%256),.int .u8 ((q:Int)/256%256),.int .u8 ((q:Int)/65536%256)] 5)).drew=.ok (.string X) W1:=by rw[a2];exact a9
   have av:=Jy a2;have ao:=Jy a7;have d9:W1.cell? ⟨sb,9,none⟩=some (.slice (some ⟨g,0,none⟩) y2 y3):=a8.o W1 a7;have an:wr.drew.cell? ⟨sb,9,none⟩=some (.slice (some ⟨g,0,none⟩) y2 y3):=c9;have e9:(wr.alloc (.cells #[.int .u8 126,.int .u8 ((q:Int)%256),.int .u8 ((q:Int)/256%256),.int .u8 ((q:Int)/65536%256)] 5)).drew.cell? ⟨sb,9,none⟩=some (.slice (some ⟨g,0,none⟩) y2 y3):=by rw[<-a2];exact d9
   clear a0 hz hc h8 hq e2 h5 h6 a2 a7 a4 hX a9 ad;go_wp2_with fail;refine BE (S:=λV=>V.cell? ⟨sb,9,none⟩=some (.slice (some ⟨g,0,none⟩) y2 y3)) (by kernel_rfl) an (λhHeld => ?_);refine tk 0 ⟨some 42,.move (.tmp 0),_,_,_,none⟩ (.pointer (some ⟨sb,0,none⟩)) rfl (λw h=>by go_simp) hHeld ?_;simp only[zP,List.set];refine tk 1 ⟨some 43,.nilCheck (.tmp 42),_,_,_,none⟩ (.pointer (some ⟨sb,0,none⟩)) rfl (λw h=>by go_simp) hHeld ?_;simp only[zP,List.set];refine tk 2 ⟨some 44,.fieldAddr 106 (.tmp 43) 9,_,_,_,none⟩ (.pointer (some ⟨sb,9,none⟩)) rfl (λw h=>by go_simp) hHeld ?_;simp only[zP,List.set]
   refine tk 3 ⟨some 45,.load 71 (.tmp 44),_,_,_,none⟩ (.slice (some ⟨g,0,none⟩) y2 y3) rfl (λw h=>by go_simp) hHeld ?_;simp only[zP,List.set];refine tk 4 ⟨some 46,.move (.tmp 5),_,_,_,none⟩ (.int .i64 (k:Int)) rfl (λw h=>by go_simp) hHeld ?_;simp only[zP,List.set];refine tk 5 ⟨some 47,.move (.tmp 5),_,_,_,none⟩ (.int .i64 (k:Int)) rfl (λw h=>by go_simp) hHeld ?_;simp only[zP,List.set];refine tk 6 ⟨some 48,.binOp .add 3 (.tmp 47) (.const (.int .i64 1)) 3,_,_,_,none⟩ (.int .i64 ((k:Int)+1)) rfl (λw h=>by go_simp) hHeld ?_;simp only[zP,List.set]
   refine tk 7 ⟨some 49,.slice 71 (.tmp 45) (some (.tmp 46)) (some (.tmp 48)) none,_,_,_,none⟩ (.slice (some ⟨g,k,none⟩) 1 (y3 - k)) rfl (λw h=>by go_simp) hHeld ?_;simp only[zP,List.set];refine tk 8 ⟨some 50,.move (.tmp 6),_,_,_,none⟩ (.int .i64 (q:Int)) rfl (λw h=>by go_simp) hHeld ?_;simp only[zP,List.set];refine tk 9 ⟨some 51,.convert 3 5 (.tmp 50),_,_,_,none⟩ (.int .u8 ((q:Int)%256)) rfl (λw h=>by go_simp) hHeld ?_;simp only[zP,List.set]
   refine tk 10 ⟨some 52,.move (.tmp 6),_,_,_,none⟩ (.int .i64 (q:Int)) rfl (λw h=>by go_simp) hHeld ?_;simp only[zP,List.set];refine tk 11 ⟨some 53,.binOp .shr 3 (.tmp 52) (.const (.int .u64 8)) 110,_,_,_,none⟩ (.int .i64 ((q:Int)/256)) rfl (λw h=>by go_simp) hHeld ?_;simp only[zP,List.set];refine tk 12 ⟨some 54,.convert 3 5 (.tmp 53),_,_,_,none⟩ (.int .u8 ((q:Int)/256%256)) rfl (λw h=>by go_simp) hHeld ?_;simp only[zP,List.set];refine tk 13 ⟨some 55,.move (.tmp 6),_,_,_,none⟩ (.int .i64 (q:Int)) rfl (λw h=>by go_simp) hHeld ?_;simp only[zP,List.set]
   refine tk 14 ⟨some 56,.binOp .shr 3 (.tmp 55) (.const (.int .u64 16)) 110,_,_,_,none⟩ (.int .i64 ((q:Int)/65536)) rfl (λw h=>by go_simp) hHeld ?_;simp only[zP,List.set];refine tk 15 ⟨some 57,.convert 3 5 (.tmp 56),_,_,_,none⟩ (.int .u8 ((q:Int)/65536%256)) rfl (λw h=>by go_simp) hHeld ?_;simp only[zP,List.set];refine rd 16 rfl (λK hK => ?_);go_simp;refine hK.o _ _ e9 (λhHeld => ?_);clear hK K
   (try simp only[zP,List.set])
   refine rd 17 rfl (λK hK => ?_);go_simp;refine hK.o _ _ d9 (λhHeld => ?_);clear hK K
   (try simp only[zP,List.set])
   refine rd 18 rfl (λK hK => ?_);go_simp;refine Jj A.o ?_;refine hK.o _ _ d9 (λhHeld => ?_);clear hK K
   (try simp only[zP,List.set])
   refine tk 19 ⟨some 7,.assign (.tmp 60),_,_,_,none⟩ (.bool true) rfl (λw h=>by go_simp) hHeld ?_;simp only[zP,List.set];refine BT (by kernel_rfl) ?_ _;clear hHeld;go_wp2_with fail;go_roundw
   case rel=>exact⟨k+1,by omega,by go_num,ao⟩
   case measure=>simp[intOf];omega
  have a1:¬(k:Int)<(y2:Nat):=by omega
  go_wp2_with fail;go_ret
  exact⟨rfl,HB.o⟩
end
namespace S1
open Go.RowKit Pk
def Gz(z:Nat->Int)(n:Nat)(i:Nat):Bool:=(List.range n).any λj=>z j==(i:Int)
def Jl(blocks pages:Int)(n:Nat)(z:Nat->Int):M:=⟨(KF blocks 4 32).toNat,(KF pages 4 16).toNat,λ_ _=>[],λ_=>0,Gz z n,-1,0,-1,0⟩
theorem Ly(blocks pages:Int)(n:Nat)(z:Nat->Int):WF (Jl blocks pages n z):=by
 have h1:=Oj blocks 4 32 (by omega);have h2:=Oj pages 4 16 (by omega);refine⟨?_,?_,?_,?_,λi _=>AU _,λi p _ _=>AU _,?_,?_,?_,?_,?_,?_,?_,?_⟩<;>(simp only[Jl];omega)
theorem Vv(z:Nat->Int)(k:Nat):Gz z (k+1)=λi=>Gz z k i||(z k==(i:Int)):=by
 funext i
 unfold Gz;rw[B0,List.any_append];simp
theorem Wy{α:Type}(n:Nat)(x:α):(List.range n).map (λ_=>x)++[x]=(List.range (n+1)).map λ_=>x:=by
 rw[B0,Aq];rfl
theorem Pm(np:Nat)(h:np<=16):∃M:Array Value,(∀W:D7,(Instr.makeSlice 40 (.int .i64 np) (.int .i64 np)).run prog W=.ok (.slice (some ⟨W.heap.size,0,none⟩) np np) (W.alloc (.cells M 9)))/\∀W:D7,(W.alloc (.cells M 9)).rowIs W.heap.size 9 np (λ_=>.string ⟨#[]⟩):=
 ⟨madeCells #[Value.string ⟨#[]⟩] np,λW=>Cz (P:=prog) 40 9 (.string ⟨#[]⟩) 16 underlying40 JK rfl .i64 .i64 np (by omega) (by omega) W,λW=>Co W (.string ⟨#[]⟩) np 9⟩
theorem Uj{B:Nat}{a w:D7}(h:Below B a w)(q:Nat):Below B a (w.drewN q):=⟨h.os,h.tape,h.output,h.size,h.block⟩
theorem Db.UO{w:D7}{lo hi cb:Nat}{T:TypeId}{L:Loc}{m:M}{enc:D8->D8}{g4 g5 g6 g7:Int}(h:Db w lo hi cb T L m enc g4 g5 g6 g7)(bd:Nat->Bool)(e:∀i,i<m.nb->m.bd i=bd i):Db w lo hi cb T L { m with bd:=bd } enc g4 g5 g6 g7:=
 ⟨h.Fg,h.Kp,h.I0,h.GW,h.Kq,h.inj,h.hT,h.st,h.data,h.next,h.bad.congr (λi hi=>by rw[e i hi]),h.Ey⟩
theorem pj(w:D7)(p:Addr)(x v:Value)(t:TypeId):∀j u,[v][j]? = some u->((w.setCell p x).alloc (.cells #[v] t)).cell? ((⟨w.heap.size,0,none⟩:Addr).add j)=some u:=by
 have:=Bg (w.setCell p x) v t
 simpa using this
theorem cell_two_new(w:D7)(o:Obj)(v:Value)(t:TypeId):∀j u,[v][j]? = some u->((w.alloc o).alloc (.cells #[v] t)).cell? ((⟨w.heap.size+1,0,none⟩:Addr).add j)=some u:=by
 have:=Bg (w.alloc o) v t
 simpa using this
theorem Ii(w:D7)(blocks pages:Int)(a:Option Addr)(n cap:Nat)(z:Nat->Int)(hn:n<=17592186043904)(hin:IntsIn w a n z) :
 Calls prog 10 #[.int .i64 blocks,.int .i64 pages,.slice a n cap] w λe w'=>∃L hi,e=.returned (.pointer (some ⟨w.heap.size,0,none⟩))/\hi<=w'.heap.size/\CP w' w.heap.size hi w.heap.size L (Jl blocks pages n z)/\Below w.heap.size w w':=by
 have aV:=Jy (λw=>TP blocks 4 32 (by omega) w);have bg:=Jy (λw=>TP pages 4 16 (by omega) w);have bn:=Oj blocks 4 32 (by omega);have bj:=Oj pages 4 16 (by omega);obtain⟨nb,b6⟩:∃nb:Nat,KF blocks 4 32=(nb:Int):=Ay (by omega);obtain⟨np,b9⟩:∃np:Nat,KF pages 4 16=(np:Int):=Ay (by omega);have HM:Hid (Jl blocks pages n z=⟨nb,np,λ_ _=>[],λ_=>0,Gz z n,-1,0,-1,0⟩):=by
  show Jl blocks pages n z=_;unfold Jl;rw[b6,b9];rfl
 rw[b6]at aV bn;rw[b9]at bg bj;have bS:4<=nb:=by omega
 have bL:nb<=32:=by omega
 have bQ:4<=np:=by omega
 have b7:np<=16:=by omega
 clear b6 b9 bn bj;obtain⟨MC,bU,bl⟩:=Pm np b7;have bO:=Jy bl;clear bl;have b8:=Jy hin;clear hin;go_enter func10,ntmps10
 go_wp2_with (first | (go_at_call 36;refine(bg.o _).mono ?_;rintro e w1 ⟨rfl,h1⟩;subst h1));have aC:=Jy (AQ w1 (Obj.cells #[.int .i64 np,.slice none 0 0,.slice none 0 0,.slice none 0 0,.int .i64 (-1),.int .i64 0,.int .i64 (-1),.int .i64 0] 74));have be:=Jy ((AM w1.heap.size w1).alloc (AB _) (Obj.cells #[.int .i64 np,.slice none 0 0,.slice none 0 0,.slice none 0 0,.int .i64 (-1),.int .i64 0,.int .i64 (-1),.int .i64 0] 74));obtain⟨i0,bI,bA,bR,bJ⟩:=Ai Kl;obtain⟨k0,ki,bF,bN,bx⟩:=Ai JQ;obtain⟨l0,li,bP,bD,bK⟩:=Ai On;obtain⟨G,aR⟩:=Jq w1.heap.size;have b8:Hid (∀W,Below G w1 W->IntsIn W a n z):=λW hb=>b8.o.below (aR ▸ hb)
 rw[<-aR]at aC be ⊢;have b5:=Jy aR;clear aR
 go_loopw [8] (λx wr=>∃k:Nat,k<=nb/\x=.int .i64 k/\∃da dc na nc ba bc rw cr,wr.heap[G]? = some (.cells #[.int .i64 np,.slice da k dc,.slice na k nc,.slice ba k bc,.int .i64 (-1),.int .i64 0,.int .i64 (-1),.int .i64 0] 74 (0,0))/\Data wr G (.slice da k dc) k np rw cr (λ_ _=>[])/\wr.ownsRow G 3 1 (.slice na k nc) k ((List.range k).map λ_=>.int .i64 0)/\wr.ownsRow G 4 1 (.slice ba k bc) k ((List.range k).map λ_=>.bool false)/\Below G w1 wr) (λx _=>nb - (intOf x).toNat)
 case atStart=>exact⟨0,by omega,rfl,none,0,none,0,none,0,λ_=>0,λ_=>0,aC.o,Data.nil _ _ _ _ _ _,AZ _ _ _ _,AZ _ _ _ _,be.o⟩
 case round =>
  clear aC be;obtain⟨k,hk,rfl,da,dc,na,nc,ba,bc,rw,cr,aE,am,aQ,aU,a3⟩:=hrel;have aS:G<wr.heap.size:=lt_of_heap aE;by_cases bh:k<nb
  ·have x0:=Dv 0 aE;have x1:=Dv 1 aE;have bq:∀o,(wr.drew.alloc o).cell? ⟨G,1,none⟩=some (.slice da k dc):=λo=>(AJ (w:=wr) (AO wr.drew o G aS)).trans x1
   have bE:∀o o',((wr.drew.alloc o).alloc o').cell? ⟨G,1,none⟩=some (.slice da k dc):=λo o'=>(AJ (w:=wr.drew.alloc o) (AO (wr.drew.alloc o) o' G (by simp;omega))).trans (bq o)
   have bp:=Jy aE;have ae:=Jy am;have bi:=Jy aQ;have bs:=Jy aU;have a1:=Jy a3;clear aE am aQ aU a3;go_wp2_with (first | (go_at_call 36;refine(aV.o _).mono ?_;rintro e w2 ⟨rfl,h2⟩;subst h2));go_region_law (first
    | (refine step_append_lies _ (by rfl) _ _ _ (by rfl) G 40 i0 _ 1 24 underlying71 bI bA bR bJ rfl (by omega) (.slice da k dc) k _ (by rfl) ((ae.o.own.drew.alloc _).alloc _) ⟨w2.heap.size+1,0,none⟩ 1 1 [.slice (some ⟨w2.heap.size,0,none⟩) np np] (by rfl) rfl (cell_two_new w2.drew (.cells MC 9) (.slice (some ⟨w2.heap.size,0,none⟩) np np) 40) (by intro u hu;simp at hu;subst hu;rfl) (by omega) (by unfold maxLen;omega) (by omega) (by simp;omega) (w2.heap.size+2) (by simp) ?_;intro g2 a0 w3 aw aa b4 bC;have K2:∀t,t≠40->Dm t (w2.drew.alloc (.cells MC 9)) w3:=(λt ht=>((Dm.refl t _).alloc _).grown ((ae.o.own.drew.alloc _).alloc _) (λe=>ht e.symm) aa);have ah:=(((Dm.refl 74 w2).drew.alloc (.cells MC 9)).trans (K2 74 (by decide))).block bp.o;have y1:w3.cell? ⟨G,1,none⟩=some (.slice da k dc):=(by rw[AG w3 G 1 _ 74 (0,0) ah];rfl);have yf:=FU 1 ah;have a6:Hid (Below G w1 w3):=((a1.o.drew.alloc (CN aS) _).zA).grown aa (by simp;omega) (λq hq=>(ae.o.own.lt q hq).1);have aY:=Jy K2;have ac:=Jy ah;have ax:=Jy aw;clear aw aa b4 K2 ah))
   all_goals have aP:∀t,t≠40->Dm t w2 w3:=(λt ht=>((Dm.refl t w2).drew.alloc (.cells MC 9)).trans (aY.o t ht))
   all_goals have an:=AK w3 G 1 _ 74 (.slice (some ⟨g2,0,none⟩) (k+1) a0) ac.o
   all_goals have au:Rw (w3.setCell ⟨G,1,none⟩ (.slice (some ⟨g2,0,none⟩) (k+1) a0)) w2.heap.size 9 np (λp=>.string (D9 ((λ_=>[]:Nat->D8) p))):=((aY.o 9 (by decide)).set (o:=1) (v:=.slice (some ⟨g2,0,none⟩) (k+1) a0) ac.o (by decide)).rw (LW (bO.o w2.drew))
   all_goals have ad:=ae.o.push ((aP 9 (by decide)).set (o:=1) (v:=.slice (some ⟨g2,0,none⟩) (k+1) a0) ac.o (by decide)) (r:=w2.heap.size) (c:=np) (f:=λ_=>[]) (CN aS) (AB _) au (((Dm.refl 40 w3).set (o:=1) (v:=.slice (some ⟨g2,0,none⟩) (k+1) a0) ac.o (by decide)).own ax.o)
   all_goals have br:put (λ(_:Nat) (_:Nat)=>([]:D8)) k (λ_=>[])=λ_ _=>[]:=(by
    funext x y
    unfold put
    split<;>rfl)
   all_goals rw[br]at ad
   all_goals have aj:=((aP 3 (by decide)).set (o:=1) (v:=.slice (some ⟨g2,0,none⟩) (k+1) a0) ac.o (by decide)).own bi.o
   all_goals have aI:=((aP 4 (by decide)).set (o:=1) (v:=.slice (some ⟨g2,0,none⟩) (k+1) a0) ac.o (by decide)).own bs.o
   all_goals have av:=a6.o.setCell (p:=⟨G,1,none⟩) (AB _) (.slice (some ⟨g2,0,none⟩) (k+1) a0)
   all_goals generalize w3.setCell ⟨G,1,none⟩ (.slice (some ⟨g2,0,none⟩) (k+1) a0)=wa at *
   all_goals clear au br aP ac aY ax y1 yf a6 x0 x1 bq bE bp ae bi bs a1
   all_goals have bG:G<wa.heap.size:=lt_of_heap an
   all_goals have x2:wa.cell? ⟨G,2,none⟩=some (.slice na k nc):=(by rw[AG wa G 2 _ 74 (0,0) an];rfl)
   all_goals have aN:=Jy an
   all_goals have ar:=Jy ad
   all_goals have aH:=Jy aI
   all_goals have a6:=Jy av
   all_goals clear an ad aI av
   all_goals go_wp2_with (at_builtin;refine wpList_append_lies _ rfl (.tmp 38) (.tmp 39) 22 rfl G 3 k0 (.int .i64 0) 1 8 underlying22 ki bF bN bx rfl (by decide) (.slice na k nc) k _ rfl (aj.alloc _) ⟨wa.heap.size,0,none⟩ 1 1 [.int .i64 0] rfl rfl (Bg _ _ _) (by intro u hu;simp at hu;subst hu;rfl) (by omega) (by unfold maxLen;omega) (by omega) (by simp;omega) (wa.heap.size+1) (by simp) ?_)
   all_goals intro g4 a2 w4 af a7 aX bB
   all_goals have K4:∀t,t≠3->Dm t wa w4:=(λt ht=>((Dm.refl t wa).alloc _).grown (aj.alloc _) (λe=>ht e.symm) a7)
   all_goals have a4:=(K4 74 (by decide)).block aN.o
   all_goals have y2:w4.cell? ⟨G,2,none⟩=some (.slice na k nc):=(by rw[AG w4 G 2 _ 74 (0,0) a4];rfl)
   all_goals have bH:=FU 2 a4
   all_goals have aB:=AK w4 G 2 _ 74 (.slice (some ⟨g4,0,none⟩) (k+1) a2) a4
   all_goals rw[Wy]at af
   all_goals have aL:=((Dm.refl 3 w4).set (o:=2) (v:=.slice (some ⟨g4,0,none⟩) (k+1) a2) a4 (by decide)).own af
   all_goals have ay:=ar.o.keep ((K4 9 (by decide)).set (o:=2) (v:=.slice (some ⟨g4,0,none⟩) (k+1) a2) a4 (by decide)) ((K4 40 (by decide)).set (o:=2) (v:=.slice (some ⟨g4,0,none⟩) (k+1) a2) a4 (by decide))
   all_goals have ai:=((K4 4 (by decide)).set (o:=2) (v:=.slice (some ⟨g4,0,none⟩) (k+1) a2) a4 (by decide)).own aH.o
   all_goals have az:Below G w1 (w4.setCell ⟨G,2,none⟩ (.slice (some ⟨g4,0,none⟩) (k+1) a2)):=((a6.o.alloc (CN bG) _).grown a7 (by simp;omega) (λq hq=>(aj.lt q hq).1)).zS
   all_goals have bT:G<w4.heap.size:=lt_of_heap a4
   all_goals have x3:(w4.setCell ⟨G,2,none⟩ (.slice (some ⟨g4,0,none⟩) (k+1) a2)).cell? ⟨G,3,none⟩=some (.slice ba k bc):=(by rw[AG _ G 3 _ 74 (0,0) aB];rfl)
   all_goals have aJ:=Jy aB
   all_goals have ao:=Jy ay
   all_goals have aG:=Jy aL
   all_goals have aA:=Jy az
   all_goals clear a4 aB ay aL az af a7 aX K4 aN ar aH a6 aj x2
   all_goals go_wp2_with (at_builtin;refine wpList_append_lies _ rfl (.tmp 47) (.tmp 48) 72 rfl G 4 l0 (.bool false) 1 1 underlying72 li bP bD bK rfl (by decide) (.slice ba k bc) k _ rfl (ai.alloc _) ⟨w4.heap.size,0,none⟩ 1 1 [.bool false] rfl rfl (pj _ _ _ _ _) (by intro u hu;simp at hu;subst hu;rfl) (by omega) (by unfold maxLen;omega) (by omega) (by simp;omega) (w4.heap.size+1) (by simp) ?_)
   all_goals intro g6 a8 w6 ag a9 aZ bM
   all_goals have K6:∀t,t≠4->Dm t (w4.setCell ⟨G,2,none⟩ (.slice (some ⟨g4,0,none⟩) (k+1) a2)) w6:=(λt ht=>((Dm.refl t _).alloc _).grown (ai.alloc _) (λe=>ht e.symm) a9)
   all_goals have a5:=(K6 74 (by decide)).block aJ.o
   all_goals have y3:w6.cell? ⟨G,3,none⟩=some (.slice ba k bc):=(by rw[AG w6 G 3 _ 74 (0,0) a5];rfl)
   all_goals have bV:=FU 3 a5
   all_goals rw[Wy]at ag
   all_goals have bf:=Jy (AK w6 G 3 _ 74 (.slice (some ⟨g6,0,none⟩) (k+1) a8) a5)
   all_goals have b0:=Jy (((Dm.refl 4 w6).set (o:=3) (v:=.slice (some ⟨g6,0,none⟩) (k+1) a8) a5 (by decide)).own ag)
   all_goals have b3:=Jy (((K6 3 (by decide)).set (o:=3) (v:=.slice (some ⟨g6,0,none⟩) (k+1) a8) a5 (by decide)).own aG.o)
   all_goals have aO:=Jy (ao.o.keep ((K6 9 (by decide)).set (o:=3) (v:=.slice (some ⟨g6,0,none⟩) (k+1) a8) a5 (by decide)) ((K6 40 (by decide)).set (o:=3) (v:=.slice (some ⟨g6,0,none⟩) (k+1) a8) a5 (by decide)))
   all_goals have aF:Hid (Below G w1 (w6.setCell ⟨G,3,none⟩ (.slice (some ⟨g6,0,none⟩) (k+1) a8))):=((aA.o.zA).grown a9 (by simp;omega) (λq hq=>(ai.lt q hq).1)).zS
   all_goals clear a5 ag a9 aZ K6 aJ ao aG aA ai x3 y2 bH
   all_goals go_wp2
   all_goals(go_roundw;(case rel=>exact⟨k+1,by omega,by go_num,some ⟨_,0,none⟩,a0,some ⟨_,0,none⟩,a2,some ⟨_,0,none⟩,a8,_,_,bf.o,aO.o,b3.o,b0.o,aF.o⟩);(case measure=>simp[intOf];omega))
  have bb:nb=k:=by omega
  subst bb;obtain⟨L,hL⟩:=Db.built (T:=74) (enc:=id) (m:=⟨nb,np,λ_ _=>[],λ_=>0,Gz z 0,-1,0,-1,0⟩) (g4:=-1) (g5:=0) (g6:=-1) (g7:=0) (by show 0<nb;omega) (by decide) (AB G) aE am (λi p _ _=>rfl) aQ aU;obtain⟨H,hH⟩:=Jq wr.heap.size;rw[<-hH]at hL;have aD:Hid (H<=wr.heap.size):=Cf hH;have HL:=Jy hL;have a1:=Jy a3;clear aE am aQ aU a3 hL hH aS;go_wp2_with (first | (go_at_call 36;refine(aV.o _).mono ?_;rintro e w2 ⟨rfl,h2⟩;subst h2))
  go_loopw [9] (λx wr=>∃k:Nat,k<=n/\x=.int .i64 k/\CP wr G H G L ⟨nb,np,λ_ _=>[],λ_=>0,Gz z k,-1,0,-1,0⟩/\Below G w1 wr/\H<=wr.heap.size) (λx _=>n - (intOf x).toNat)
  case atStart=>exact⟨0,by omega,rfl,HL.o,a1.o,aD.o⟩
  clear HL a1 aD;obtain⟨k,hk,rfl,hm,a3,aW⟩:=hrel;have c1:=Db.c1 hm;have c3:=Db.c3 hm;have aD:=Jy aW;have a1:=Jy a3;have Hm:=Jy hm;simp only[]at c1 c3;by_cases bh:k<n
  ·obtain⟨b,off,rfl,hc⟩:=b8.o _ a3 (by omega);have bz:=hc k bh;clear hc hm a3 aW;by_cases h0:z k<0
   ·have hd:decide (0<=z k)=false:=by simp;omega
    have aM:Hid (CP wr G H G L ⟨nb,np,λ_ _=>[],λ_=>0,Gz z (k+1),-1,0,-1,0⟩):=(Hm.o.UO (Gz z (k+1)) (λi _=>by rw[Vv];show _=(Gz z k i||(z k==(i:Int)));rw[show(z k==(i:Int))=false by simp;omega,Bool.or_false]));go_wp2_with fail
    go_quiet (fail)
    go_wp2;go_roundw
    case rel=>exact⟨k+1,by omega,by go_num,Db.drewN aM.o _,Uj a1.o _,aD.o⟩
    case measure=>simp[intOf];omega
   have hd:decide (0<=z k)=true:=by simp;omega
   obtain⟨i,aT⟩:∃i:Nat,z k=(i:Int):=Ay (by omega);have bm:=Jy aT;rw[aT]at bz;by_cases h1:i<nb
   ·have bu:decide ((i:Int)<(nb:Int))=true:=by simp;omega
    have hf:=Hm.o.bad.frozen i;have Fg:=Hm.o.bad.cell h1;have aM:Hid (∀q,CP ((wr.drewN q).setCell ⟨L.bk,i,none⟩ (.bool true)) G H G L ⟨nb,np,λ_ _=>[],λ_=>0,Gz z (k+1),-1,0,-1,0⟩):=λq=>((Db.Nh (Db.drewN Hm.o q) i true).UO (Gz z (k+1)) (λa _=>by
     rw[Vv];show(if a=i then true else Gz z k a)=(Gz z k a||(z k==(a:Int)));rw[bm.o];by_cases e:a=i
     ·rw[AE e,e];simp
     rw[AC e,show((i:Int)==(a:Int))=false by simp;omega,Bool.or_false]))
    have aK:Hid (∀q,Below G w1 ((wr.drewN q).setCell ⟨L.bk,i,none⟩ (.bool true))):=λq=>(Uj a1.o q).setCell (p:=⟨L.bk,i,none⟩) Hm.o.GW.1 (.bool true)
    clear h0 hd aT;go_wp2_with fail
    go_quiet (fail)
    go_wp2_with fail;go_region;go_wp2;go_roundw
    case rel=>exact⟨k+1,by omega,by go_num,aM.o _,aK.o _,by simpa using aD.o⟩
    case measure=>simp[intOf];omega
   have bu:decide ((i:Int)<(nb:Int))=false:=by simp;omega
   have aM:Hid (CP wr G H G L ⟨nb,np,λ_ _=>[],λ_=>0,Gz z (k+1),-1,0,-1,0⟩):=(Hm.o.UO (Gz z (k+1)) (λa ha=>by rw[Vv];show _=(Gz z k a||(z k==(a:Int)));have:a<nb:=ha;rw[bm.o,show((i:Int)==(a:Int))=false by simp;omega,Bool.or_false]));clear h0 hd aT;go_wp2_with fail
   go_quiet (fail)
   go_wp2;go_roundw
   case rel=>exact⟨k+1,by omega,by go_num,Db.drewN aM.o _,Uj a1.o _,aD.o⟩
   case measure=>simp[intOf];omega
  have bb:n=k:=by omega
  subst bb;clear hm a3 aW;go_wp2;go_ret
  refine⟨L,H,by rw[<-b5.o];rfl,aD.o,?_,?_⟩
  ·rw[HM.o,<-b5.o];exact Hm.o
  rw[<-b5.o];exact a1.o
end S1
section
open Go.RowKit Go.Nt
def JJ(w:D7)(x:Sl)(ms:List (Sl × List It)):Prop:=
 w.ownsRow 0 26 1 (.slice x.1 x.2.1 x.2.2) ms.length (ms.map λy=>sl y.1)/\∀y∈ms,y.1.2.1=y.2.length/\y.2.length<=1000/\Dz w y.1.1 y.2
theorem pJ(w:D7)(sb:Nat)(s:Sv)(ms:List (Sl × List It))(a:Option Addr)(c:Nat)(l:List It)(hs:Dh w sb s)(hm:JJ w s.may ms)(hn:ms.length<=1000000000)(ha:Dz w a l)(hl:l.length<=1000) :
 Calls prog 99 #[.pointer (some ⟨sb,0,none⟩),.slice a l.length c] w λe w'=>e=.returned (.bool (ms.any λy=>decide (y.2=l)))/\∃q,w'=w.drewN q:=by
 have c3:w.cell? ⟨sb,3,none⟩=some (.slice s.may.1 s.may.2.1 s.may.2.2):=hs.cell 3;have a1:=Nr hm.1;have Hm:=Jy hm;have Ha:=Jy ha;obtain⟨x,hx⟩:=Jq s.may;rw[<-hx]at c3 a1 Hm;obtain⟨x1,x2,x3⟩:=x;dsimp only at c3 a1;rw[<-a1]at hn;have HN:=Jy a1;have a8:Hid (∀q,(w.drewN q).cell? ⟨sb,3,none⟩=some (.slice x1 x2 x3)):=Jy (λq=>c3);obtain⟨n,a3⟩:=Jq l.length;have a6:=Jy a3;rw[<-a3]at hl ⊢;clear hs hm ha hx a1 c3 a3;go_enter func99,ntmps99
 go_wp2_with fail
 go_loopw [5] (λi wr=>∃k:Nat,k<=x2/\i=.int .i64 k/\(∃q,wr=w.drewN q)/\Hid (∀y∈ms.take k,y.2≠l)) (λi _=>x2 - (intOf i).toNat)
 case atStart=>exact⟨0,by omega,rfl,⟨0,rfl⟩,Jy (by simp)⟩
 case round =>
  obtain⟨k,hk,rfl,⟨q,rfl⟩,HF⟩:=hrel;have c3:=a8.o q;by_cases aa:k<x2
  ·have a5:(k:Int)<(x2:Nat):=by omega
   have a4:k<ms.length:=by have:=HN.o;omega
   obtain⟨z,hz⟩:∃z,ms[k]? = some z:=⟨_,AD a4⟩;have a2:w.ownsRow 0 26 1 (.slice (x1,x2,x3).1 (x1,x2,x3).2.1 (x1,x2,x3).2.2) (ms.map (·.1)).length ((ms.map (·.1)).map sl):=by
    have h:=Hm.o.1;rw[Bn,Ch];exact h
   obtain⟨g,a9,e,h5,h6,_,a0⟩:=Vo a2 (λh=>by rw[List.map_eq_nil_iff]at h;rw[h]at a4;simp at a4);simp only[Prod.mk.injEq]at e;obtain⟨rfl,e2,rfl⟩:=e;have hc:=a0 k z.1 (by rw[BQ,hz];rfl);obtain⟨h7,h8,h9⟩:=Hm.o.2 z (Ab hz);have HT:Hid (ms.take (k+1)=ms.take k++[z]):=Jy (by rw[Ah,hz];rfl);have Hz:=Jy (Ab hz);obtain⟨⟨z1,z2,z3⟩,zl⟩:=z;dsimp only at hc h7 h8 h9;rw[h7]at hc;have A:=Jy (GD z1 a z3 c zl l (w.drewN q) h9 Ha.o (by omega) (by rw[<-a6.o];omega));rw[<-a6.o]at A;have a7:(w.drewN q).cell? ⟨g,k,none⟩=some (.slice z1 zl.length z3):=hc;obtain⟨b,hb⟩:=Jq (decide (zl=l));rw[<-hb]at A;have Hb:=Jy hb;clear a2 a0 hz hc h7 h9 e2 h5 h6 hb;go_wp2_with fail;refine A.o.mono ?_;rintro e w' ⟨rfl,q',rfl⟩;clear A a7;cases b with
   | true =>
     go_wp2_with fail;go_ret
     refine⟨?_,q+q',by simp⟩
     have:(ms.any λy=>decide (y.2=l))=true:=Bq.2 ⟨_,Hz.o,Hb.o.symm⟩
     rw[this];rfl
   | false =>
     go_wp2_with fail;go_roundw
     case rel =>
      refine⟨k+1,by omega,by go_num,⟨q+q',by simp⟩,Jy (λy hy => ?_)⟩;rw[HT.o]at hy;rcases An.1 hy with hy | hy
      ·exact HF.o y hy
      simp at hy;subst hy
      have:=Hb.o
      simpa using this.symm
     case measure=>simp[intOf];omega
  have a5:¬(k:Int)<(x2:Nat):=by omega
  have HA:Hid ((ms.any λy=>decide (y.2=l))=false):=Jy (by
   rw[List.any_eq_false];intro y hy
   have:=HF.o y (by rw[AT (by rw[<-HN.o];omega)];exact hy)
   simpa using this)
  go_wp2_with fail;go_ret
  exact⟨by rw[HA.o];rfl,q,rfl⟩
def PO(cb b:Nat):Sv:=⟨cb,none,(none,0,0),(none,0,0),true,false,false,b,(none,0,0),(none,0,0)⟩
def Pf(bl pg:Int)(n:Nat)(z:Nat->Int)(w:D7)(e:Ending)(w':D7):Prop:=
 ∃L hi sb,e=.returned (.pointer (some ⟨sb,0,none⟩))/\hi<=sb/\sb<w'.heap.size/\S1.CP w' w.heap.size hi w.heap.size L (S1.Jl bl pg n z)/\Dh w' sb (PO w.heap.size (S1.Dt (S1.Jl bl pg n z)))/\Below w.heap.size w w'
theorem X3(w:D7)(bl pg:Int)(a:Option Addr)(n cap:Nat)(z:Nat->Int)(hn:n<=17592186043904)(hin:S1.IntsIn w a n z) :
 Calls prog 30 #[.int .i64 bl,.int .i64 pg,.slice a n cap] w λe w'=>Pf bl pg n z w e w':=by
 have A:=Jy (S1.Ii w bl pg a n cap z hn hin);obtain⟨z0,a3⟩:=Jq w.heap.size;rw[<-a3]at A;have a1:=Jy a3;clear hin a3;go_enter func30,ntmps30
 go_wp2_with fail;refine A.o.mono ?_;rintro e w1 ⟨L,hi,rfl,a8,hC,a4⟩;obtain⟨m,hm⟩:=Jq (S1.Jl bl pg n z);have ad:S1.WF m:=by rw[hm];exact S1.Ly _ _ _ _
 rw[<-hm]at hC;have B:=Jy (Ut w1 z0 hi z0 L m ad hC);obtain⟨bn,a2⟩:=Jq (S1.Dt m);rw[<-a2]at B;obtain⟨W2,a0⟩:=Jq (w1.alloc (.cells (PO z0 bn).arr 106));have a7:S1.CP W2 z0 hi z0 L m:=S1.Db.below hC (B:=w1.heap.size) a8 (by rw[a0];exact(AM _ _).alloc (AB _) _);have a5:Dh W2 w1.heap.size (PO z0 bn):=by rw[a0];exact AQ _ _
 have a6:Below z0 w W2:=by rw[a0];exact a4.alloc (by have:=a4.size;rw[<-a1.o]at this;exact this) _
 have s2:W2.heap.size=w1.heap.size+1:=by rw[a0];simp
 have a9:Hid (W2=w1.alloc (.cells #[.pointer (some ⟨z0,0,none⟩),.pointer none,.slice none 0 0,.slice none 0 0,.bool true,.bool false,.bool false,.int .i64 bn,.slice none 0 0,.slice none 0 0] 106)):=Jy a0;have aa:=Jy a7;have ac:=Jy a5;have af:=Jy a6;have Hs:=Jy s2;have Hm:=Jy hm;have ae:=Jy a2;clear hC a7 a5 a6 s2 a0 a4 A hm a2;go_wp2_with fail;refine Jj B.o ?_;clear B;go_wp2_with (first | (rw[<-a9.o]) | fail);go_ret
 refine⟨L,hi,w1.heap.size,rfl,a8,by rw[Hs.o];omega,?_,?_,?_⟩
 ·rw[<-a1.o,<-Hm.o];exact aa.o
 ·rw[<-a1.o,<-Hm.o,<-ae.o];exact ac.o
 rw[<-a1.o];exact af.o
end
end Go.Proofs.YtodmdkhdbfbfgaaGreatDoor
