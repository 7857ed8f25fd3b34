/- Lemmas. -/
import Derived.Test.YtodmdkhdbfbfgaaGreatDoorM16
set_option linter.unusedVariables false
set_option linter.unusedSimpArgs false
set_option maxRecDepth 100000
set_option maxHeartbeats 8000000
open Go.Proofs.Tryz
namespace Go.Proofs.YtodmdkhdbfbfgaaGreatDoor
section
open Go.RowKit Go.Nt Go.Shelf
attribute [local go_sem] Oper.semAt_some
def ML(w:D7):Prop:=∃m:Int,w.cell? ⟨0,0,none⟩=some (.int .i64 m)
theorem ML.lt{w:D7}(h:ML w):0<w.heap.size:=by obtain⟨m,hm⟩:=h;exact Aj w _ hm
theorem ML.below{w w':D7}{B:Nat}(h:ML w)(hb:Below B w w')(hB:0<B):ML w':=by
 obtain⟨m,hm⟩:=h;exact⟨m,(hb.cell (p:=⟨0,0,none⟩) hB).trans hm⟩
theorem jD(p:Bs)(w:D7)(hp:p.length<=1048576):Calls prog 186 #[.string (D9 p)] w λe w'=>e=.returned (.int .i64 ((split p).length:Nat))/\w'=w:=by
 have HC:=Jy (SH (D9 p) w);have hc:Lib.countByte (D9 p).data.toList 47=p.count 47:=rfl;rw[hc]at HC;have hl:p.count 47<=p.length:=List.count_le_length;have Hs:=Jy (gL p);obtain⟨k,hk⟩:=Jq (p.count 47);rw[<-hk]at HC Hs hl;clear hk hc;go_enter func186,ntmps186
 go_wp2_with (go_at_call 233;refine Jj HC.o ?_);go_ret
 rw[Hs.o];exact⟨by go_num,rfl⟩
theorem jR(s:ByteArray)(w:D7):Calls prog 240 #[.string s,.string ⟨#[47]⟩,.int .i64 0] w λe w'=>e=.returned (.func (.func 274) #[] #[.pointer (some ⟨w.heap.size+1,0,none⟩),.pointer (some ⟨w.heap.size,0,none⟩),.pointer (some ⟨w.heap.size+2,0,none⟩)])/\w'=((w.alloc (.cells #[.string s] 9)).alloc (.cells #[.string ⟨#[47]⟩] 9)).alloc (.cells #[.int .i64 0] 3):=by
 go_enter func240,ntmps240
 go_wp2;go_ret
 exact⟨rfl,rfl⟩
theorem mR(s:ByteArray)(w:D7):Calls prog 187 #[.string s,.string ⟨#[47]⟩] w λe w'=>e=.returned (.func (.func 274) #[] #[.pointer (some ⟨w.heap.size+1,0,none⟩),.pointer (some ⟨w.heap.size,0,none⟩),.pointer (some ⟨w.heap.size+2,0,none⟩)])/\w'=((w.alloc (.cells #[.string s] 9)).alloc (.cells #[.string ⟨#[47]⟩] 9)).alloc (.cells #[.int .i64 0] 3):=by
 go_enter func187,ntmps187
 go_wp2_with (go_at_call 240;refine(jR _ _).mono ?_;rintro e w' ⟨rfl,hw⟩;have a0:=hw.symm;subst a0;clear hw);go_ret
 exact⟨rfl,rfl⟩
theorem Wp{p:Bs}(h6:(split p).length<=6):Du p=(split p).all E3:=by
 unfold Du;simp[h6]
theorem Zk(p:Bs)(w:D7)(hm:ML w)(hp:p.length<=1048576) :
 Calls prog 121 #[.string (D9 p)] w λe w'=>Below w.heap.size w w'/\e=.returned (.bool (Du p)):=by
 refine(BP (n:=5)).1 ?_;refine callsIn_of_wp_marks func121 rfl trivial ?_ rfl;simp only[ntmps121,BK,AY,B7,Nat.reduceAdd,Nat.reduceSub,BZ,BY,Bj,B9,BH,BR];have HD:=Jy (λW=>jD p W hp);gi_wp2;refine⟨trivial,(BP.2 (HD.o _)).mono ?_⟩;rintro e w' ⟨rfl,hw⟩;have aa:=hw.symm;subst aa;clear hw;obtain⟨L,hL⟩:=Jq ((split p).length);have HL:=Jy hL;rw[<-hL];clear hL;by_cases h6:L<=6
 ·gi_wp2;refine⟨trivial,(BP.2 (mR _ _)).mono ?_⟩;rintro e w' ⟨rfl,hw⟩;have aa:=hw.symm;subst aa;clear hw;gi_wp2;obtain⟨W0,a4⟩:=Jq ((((w.alloc (.cells #[.bool false] 4)).alloc (.cells #[.string (D9 p)] 9)).alloc (.cells #[.string ⟨#[47]⟩] 9)).alloc (.cells #[.int .i64 0] 3));have am:W0.heap.size=w.heap.size+4:=by rw[a4];simp
  have b0:W0.heap[w.heap.size]? = some (.cells #[.bool false] 4 (0,0)):=by
   rw[a4];exact(((AO _ _ _ (by simp;omega)).trans (AO _ _ _ (by simp;omega))).trans (AO _ _ _ (by simp))).trans (World.alloc_heap_new w _)
  have b1:W0.heap[w.heap.size+1]? = some (.cells #[.string (D9 p)] 9 (0,0)):=by
   rw[a4];refine((AO _ _ _ (by simp)).trans (AO _ _ _ (by simp))).trans ?_
   have:=World.alloc_heap_new (w.alloc (.cells #[.bool false] 4)) (.cells #[.string (D9 p)] 9);rwa[BF]at this
  have b2:W0.heap[w.heap.size+1+1]? = some (.cells #[.string ⟨#[47]⟩] 9 (0,0)):=by
   rw[a4];refine(AO _ _ _ (by simp)).trans ?_
   have:=World.alloc_heap_new ((w.alloc (.cells #[.bool false] 4)).alloc (.cells #[.string (D9 p)] 9)) (.cells #[.string ⟨#[47]⟩] 9);rwa[BF,BF]at this
  have b3:W0.heap[w.heap.size+1+2]? = some (.cells #[.int .i64 0] 3 (0,0)):=by
   rw[a4]
   have:=World.alloc_heap_new (((w.alloc (.cells #[.bool false] 4)).alloc (.cells #[.string (D9 p)] 9)).alloc (.cells #[.string ⟨#[47]⟩] 9)) (.cells #[.int .i64 0] 3);rwa[BF,BF,BF]at this
  have ah:Below w.heap.size w W0:=by rw[a4];exact((((AM _ w).alloc (AB _) _).alloc (by simp) _).alloc (by simp;omega) _).alloc (by simp;omega) _
  rw[<-a4];clear a4;refine p8 rfl (by decide) (gf:=274) (lb:=#[.pointer (some ⟨w.heap.size+1+1,0,none⟩),.pointer (some ⟨w.heap.size+1,0,none⟩),.pointer (some ⟨w.heap.size+1+2,0,none⟩)]) rfl trivial (enters_of func274 (by kernel_rfl) rfl)
   (rV 4 (w.heap.size+1) W0.heap.size p W0 hp (by omega) (AB _) b1 b2 b3) (by omega) rfl
   (λa6 W=>(∀y∈a6,E3 y=true)/\W.heap[w.heap.size]? = some (.cells #[.bool false] 4 (0,0))/\Below w.heap.size w W)
   (λa6 W=>(∃y∈a6,E3 y=false)/\W.heap[w.heap.size]? = some (.cells #[.bool false] 4 (0,0))/\Below w.heap.size w W)
   (λs A C row hs hg hr=>⟨hs.1,(hg.block _ (lt_of_heap hs.2.1) (λe=>by have:=(hr _ e.symm).1;omega)).trans hs.2.1,hs.2.2.grown hg hs.2.2.size (λk e=>by have:=(hr k e).1;omega)⟩)
   ⟨λs A v hs=>⟨hs.1,(AH A ⟨w.heap.size+1,0,none⟩ v _ (by simp)).trans hs.2.1,hs.2.2.setCell (p:=⟨w.heap.size+1,0,none⟩) (by simp) _⟩,λs A q hs=>⟨hs.1,hs.2.1,⟨hs.2.2.os,hs.2.2.tape,hs.2.2.output,hs.2.2.size,hs.2.2.block⟩⟩⟩
   (λs A C row hs hg hr=>⟨hs.1,(hg.block _ (lt_of_heap hs.2.1) (λe=>by have:=(hr _ e.symm).1;omega)).trans hs.2.1,hs.2.2.grown hg hs.2.2.size (λk e=>by have:=(hr k e).1;omega)⟩)
   ⟨λs A v hs=>⟨hs.1,(AH A ⟨w.heap.size+1,0,none⟩ v _ (by simp)).trans hs.2.1,hs.2.2.setCell (p:=⟨w.heap.size+1,0,none⟩) (by simp) _⟩,λs A q hs=>⟨hs.1,hs.2.1,⟨hs.2.2.os,hs.2.2.tape,hs.2.2.output,hs.2.2.size,hs.2.2.block⟩⟩⟩
   ⟨by simp,b0,ah⟩
   (λx=>{ tmps:=#[.string (D9 p),undef,.pointer (some ⟨w.heap.size,0,none⟩),.string (D9 x),.string (D9 p),.int .i64 L,.bool (decide (6<(L:Int))),.string (D9 p),.func (.func 274) #[] #[.pointer (some ⟨w.heap.size+1+1,0,none⟩),.pointer (some ⟨w.heap.size+1,0,none⟩),.pointer (some ⟨w.heap.size+1+2,0,none⟩)],.string (D9 x),undef,undef,undef],defers:=[] }) ?assign ?body ?done ?stop
  case assign =>
   intro l x W K hK;gi_wp2;exact hK
  case body =>
   rintro l a6 x W ⟨a7,a0,hB⟩ a2 ag;have a5:x∈split p:=a2.subset (by simp);have HN:=Jy (lJ x W (iT p x a5) (by have:=jx p x a5;omega));have aj:=Jy a7;clear a7 a2 a5;obtain⟨o,ho⟩:=Jq (E3 x);rw[<-ho]at HN;have Ho:=Jy ho;clear ho;gi_wp2;refine⟨trivial,(CallsIn.inRound l (BP.2 HN.o)).mono ?_⟩;rintro e W' ⟨hb,rfl⟩;have a1:W'.heap[w.heap.size]? = some (.cells #[.bool false] 4 (0,0)):=(hb.block _ (lt_of_heap a0)).trans a0;have a8:W'.cell? ⟨w.heap.size,0,none⟩=some (.bool false):=by rw[AG W' w.heap.size 0 _ 4 (0,0) a1];rfl
   have ai:W'.frozen? ⟨w.heap.size,0,none⟩=false:=Al W' w.heap.size 0 _ 4 a1;have ae:Below w.heap.size w W':=hB.trans (hb.mono hB.size);have a3:=Jy a1;have Hb:=Jy hb;have ad:=Jy ae;clear a1 hb ae a0;cases o with
   | true =>
     gi_wp2;exact⟨⟨Hb.o.size,λk o _ hk _=>(Hb.o.block k (lt_of_heap hk)).trans hk⟩,Hb.o.mono ag,λy hy=>(An.1 hy).elim (aj.o y) (λe=>by simp at e;subst e;exact Ho.o.symm),a3.o,ad.o⟩
   | false =>
     gi_wp2;refine⟨⟨by simpa using Hb.o.size,λk o an hk ho=>(AH W' ⟨w.heap.size,0,none⟩ _ k (by simp;omega)).trans ((Hb.o.block k (lt_of_heap hk)).trans hk)⟩,⟨x,by simp,Ho.o.symm⟩,AK W' w.heap.size 0 _ 4 (.bool false) a3.o,ad.o.setCell (p:=⟨w.heap.size,0,none⟩) (by simp) _⟩
  case done =>
   rintro D W hD ⟨a7,a0,hB⟩ hK;have a8:W.cell? ⟨w.heap.size,0,none⟩=some (.bool false):=by rw[AG W w.heap.size 0 _ 4 (0,0) a0];rfl
   have ai:W.frozen? ⟨w.heap.size,0,none⟩=false:=Al W w.heap.size 0 _ 4 a0;have HR:Hid (Du p=true):=Jy (by rw[Wp (by have:=HL.o;omega)];exact BB.2 a7);have a3:=Jy a0;have HB:=Jy hB;have HK:=Jy hK;clear a7 a0 hB hK;gi_wp2;have a9:(W.setCell ⟨w.heap.size,0,none⟩ (.bool true)).heap[D]? = some (.deferred (some [])):=(AH W ⟨w.heap.size,0,none⟩ _ D (by simp;omega)).trans HK.o;refine⟨by simp,.inl ⟨_,_,rfl,run_takeDeferred a9,?_⟩⟩;have hs:=AK W w.heap.size 0 _ 4 (.bool true) a3.o;have ac:=cell_kept (World.cell?_setCell_same' W ⟨w.heap.size,0,none⟩ (.bool true) (by rw[a8];rfl)) (grownBy_putObj' _ D (.deferred none)) (λr e=>by cases e;exact⟨_,a9,rfl⟩)
   refine⟨.bool true,?_,(HB.o.setCell (p:=⟨w.heap.size,0,none⟩) (by simp) _).trans (belowK_b (w:=w) (AB _) _ D _ _ (by omega) a9 rfl rfl),by rw[HR.o]⟩;simp[results,f121,go_sem,ac]
  rintro D a6 W hD a2 ⟨⟨y,hy,af⟩,a0,hB⟩ hK;have HR:Hid (Du p=false):=Jy (by
   rw[Wp (by have:=HL.o;omega)];cases h:(split p).all E3 with
   | false=>rfl
   | true=>have:=BB.1 h y (a2.subset hy);rw[af]at this;cases this)
  have a8:W.cell? ⟨w.heap.size,0,none⟩=some (.bool false):=by rw[AG W w.heap.size 0 _ 4 (0,0) a0];rfl
  have HB:=Jy hB;have HK:=Jy hK;clear hy af a2 a0 hB hK;gi_wp2;refine⟨by simp,.inl ⟨_,_,rfl,run_takeDeferred HK.o,?_⟩⟩;have ac:=cell_kept a8 (grownBy_putObj' _ D (.deferred none)) (λr e=>by cases e;exact⟨_,HK.o,rfl⟩);refine⟨.bool false,?_,HB.o.trans (belowK_b (w:=w) (AB _) W D _ _ (by omega) HK.o rfl rfl),by rw[HR.o]⟩;simp[results,f121,go_sem,ac]
 have HR:Hid (Du p=false):=Jy (by unfold Du;have:=HL.o;simp;intro h;omega);gi_wp2;refine⟨.bool false,?_,(AM _ w).alloc (AB _) _,by rw[HR.o]⟩;simp[results,f121,go_sem]
end
section
open Go.RowKit Go.Nt
def KY(n:Int):Bool:=decide (0<=n)&&decide (n<=4095)
def Kc(n:Int):Bool:=decide (0<=n)&&decide (n<=2147483647)
theorem gh(n:Int)(w:D7):Calls prog 119 #[.int .i64 n] w λe w'=>e=.returned (.bool (KY n))/\w'=w:=by
 unfold KY;by_cases h:0<=n
 ·by_cases h2:n<=4095
  ·go_enter func119,ntmps119
   go_wp2;go_ret
   exact⟨by simp[h,h2],rfl⟩
  go_enter func119,ntmps119
  go_wp2;go_ret
  exact⟨by simp[h2],rfl⟩
 go_enter func119,ntmps119
 go_wp2;go_ret
 exact⟨by rw[Bc (by omega:¬0<=n)];rfl,rfl⟩
theorem mi(n:Int)(w:D7):Calls prog 120 #[.int .i64 n] w λe w'=>e=.returned (.bool (Kc n))/\w'=w:=by
 unfold Kc;by_cases h:0<=n
 ·by_cases h2:n<=2147483647
  ·go_enter func120,ntmps120
   go_wp2;go_ret
   exact⟨by simp[h,h2],rfl⟩
  go_enter func120,ntmps120
  go_wp2;go_ret
  exact⟨by simp[h2],rfl⟩
 go_enter func120,ntmps120
 go_wp2;go_ret
 exact⟨by rw[Bc (by omega:¬0<=n)];rfl,rfl⟩
theorem gT(x:It)(D:ByteArray)(hD:D=D9 x.data)(xd:Bool)(hxd:xd=x.dir) :
 (EL x=false/\(KY x.mode=false\/(KY x.mode=true/\(Kc x.time=false\/(Kc x.time=true/\(4000<D.size\/(D.size<=4000/\xd=true/\D.toList.isEmpty=false))))))) \/
 (EL x=Du x.path/\KY x.mode=true/\Kc x.time=true/\D.size<=4000/\(xd=false\/(xd=true/\D.toList.isEmpty=true))):=by
 subst hxd;subst hD;rw[LC,Dd];unfold EL KY Kc;by_cases h4:0<=x.mode
 ·by_cases h5:x.mode<=4095
  ·by_cases h6:0<=x.time
   ·by_cases h7:x.time<=2147483647
    ·by_cases h1:x.data.length<=4000
     ·by_cases h2:x.dir=true
      ·by_cases h3:x.data=[]
       ·exact .inr ⟨by simp[h2,h3,h4,h5,h6,h7],by simp[h4,h5],by simp[h6,h7],h1,.inr ⟨h2,by simp[h3]⟩⟩
       exact .inl ⟨by simp[h2,h3],.inr ⟨by simp[h4,h5],.inr ⟨by simp[h6,h7],.inr ⟨h1,h2,by simpa using h3⟩⟩⟩⟩
      have a0:x.dir=false:=by simpa using h2
      exact .inr ⟨by simp[h1,a0,h4,h5,h6,h7],by simp[h4,h5],by simp[h6,h7],h1,.inl a0⟩
     exact .inl ⟨by simp[h1],.inr ⟨by simp[h4,h5],.inr ⟨by simp[h6,h7],.inl (by omega)⟩⟩⟩
    exact .inl ⟨by simp[h7],.inr ⟨by simp[h4,h5],.inl (by simp[h7])⟩⟩
   exact .inl ⟨by simp[h6],.inr ⟨by simp[h4,h5],.inl (by simp[h6])⟩⟩
  exact .inl ⟨by simp[h5],.inl (by simp[h5])⟩
 exact .inl ⟨by simp[h4],.inl (by simp[h4])⟩
theorem nw(x:It)(w:D7)(hm:ML w)(hp:x.path.length<=1048576) :
 Calls prog 71 #[JB x] w λe w'=>Below w.heap.size w w'/\e=.returned (.bool (EL x)):=by
 have HP:=Jy (λW (h:ML W)=>Zk x.path W h hp);have Hm:=Jy hm;have HM:=Jy (λW=>gh x.mode W);have HT:=Jy (λW=>mi x.time W);unfold JB;obtain⟨D,hD⟩:∃o,o=D9 x.data:=⟨_,rfl⟩;obtain⟨xd,a1⟩:∃o,o=x.dir:=⟨_,rfl⟩;obtain⟨X,hX⟩:∃o,o=D9 x.path:=⟨_,rfl⟩;have hc:=gT x D hD xd a1;rw[<-hD,<-a1,<-hX];rw[<-hX]at HP;clear hm hD a1 hX;rcases hc with⟨hbad,hh⟩ | ⟨hgood,g1,g2,g5,g6⟩
 ·rw[hbad];clear HP hbad Hm;rcases hh with h1 | ⟨h1,h2 | ⟨h2,h5 | ⟨h5,h6,h7⟩⟩⟩
  all_goals(try subst h6)
  all_goals(rw[h1]at HM)
  all_goals(try rw[h2]at HT)
  all_goals
   go_enter func71,ntmps71
   go_wp2_with (first | (go_at_call 119;refine(HM.o _).mono ?_;rintro e w' ⟨rfl,hw⟩;have a0:=hw.symm;subst a0;clear hw) | (go_at_call 120;refine(HT.o _).mono ?_;rintro e w' ⟨rfl,hw⟩;have a0:=hw.symm;subst a0;clear hw));go_ret
   exact⟨(AM _ w).alloc (AB _) _,rfl⟩
 rw[hgood];have a2:=Jy (HP.o (w.alloc (.cells #[.string X,.bool xd,.string D,.int .i64 x.mode,.int .i64 x.time] 39)) (Hm.o.below ((AM _ w).alloc (AB _) _) Hm.o.lt));clear HP hgood;obtain⟨o,ho⟩:=Jq (Du x.path);rw[<-ho]at a2 ⊢;rw[g1]at HM;rw[g2]at HT;clear ho;rcases g6 with g6 | ⟨g6,g7⟩<;>subst g6
 all_goals
  go_enter func71,ntmps71
  go_wp2_with (first | (go_at_call 119;refine(HM.o _).mono ?_;rintro e w' ⟨rfl,hw⟩;have a0:=hw.symm;subst a0;clear hw) | (go_at_call 120;refine(HT.o _).mono ?_;rintro e w' ⟨rfl,hw⟩;have a0:=hw.symm;subst a0;clear hw) | (go_at_call 121;refine a2.o.mono ?_;rintro e W ⟨hb,rfl⟩;have a3:Below w.heap.size w W:=((AM _ w).alloc (AB _) _).trans (hb.mono (by simp));clear hb));go_ret
  exact⟨a3,rfl⟩
end
section
open Go.Nt
variable {l m:List It} {x:It} {k:Nat}
def Nv(l:List It):Prop:=l.Pairwise λx y=>less x.path y.path=true
theorem fK(l:List It)(x:It):(ins l x).Perm (x :: l):=by
 unfold ins;have h:l.takeWhile (λy=>less y.path x.path)++l.dropWhile (λy=>less y.path x.path)=l:=List.takeWhile_append_dropWhile
 have:(l.takeWhile (λy=>less y.path x.path)++x :: l.dropWhile (λy=>less y.path x.path)).Perm (x :: (l.takeWhile (λy=>less y.path x.path)++l.dropWhile (λy=>less y.path x.path))):=List.perm_middle
 rw[h]at this;exact this
theorem sQ(h:Nv l)(hx:∀y∈l,y.path≠x.path):Nv (ins l x):=by
 induction l with
 | nil=>simp[ins,Nv]
 | cons y l ih =>
   have hy:=DK.1 h;have hl:Nv l:=hy.2;have a1:=ih hl (λz hz=>hx z (by simp[hz]));by_cases e:less y.path x.path=true
   ·have e1:ins (y :: l) x=y :: ins l x:=by simp[ins,e]
    rw[e1];refine DK.2 ⟨λz hz => ?_,a1⟩
    have:=(fK l x).mem_iff.1 hz
    rcases As.1 this with rfl | hz'
    ·exact e
    exact hy.1 z hz'
   have e1:ins (y :: l) x=x :: y :: l:=by simp[ins,e]
   rw[e1];have a0:less x.path y.path=true:=by
    cases h':less x.path y.path with
    | true=>rfl
    | false=>exact absurd (Nz _ _ (by simpa using e) h') (hx y (by simp))
   refine DK.2 ⟨λz hz => ?_,h⟩;rcases As.1 hz with rfl | hz'
   ·exact a0
   exact Oi _ _ _ a0 (hy.1 z hz')
def EY(l:List It):List It:=l.foldl ins []
theorem U5(l:List It)(x:It):EY (l++[x])=ins (EY l) x:=by simp[EY]
theorem Yd:∀(l m:List It),(l.foldl ins m).Perm (m++l)
 | [],m=>by simp
 | x :: l,m=>by
   rw[List.foldl_cons];refine(Yd l (ins m x)).trans ?_;refine((fK m x).append_right l).trans ?_;rw[BR];exact List.perm_middle.symm
theorem VR(l:List It):(EY l).Perm l:=by unfold EY;simpa using Yd l []
theorem qw(l:List It):(EY l).length=l.length:=(VR l).length_eq
theorem Ss(l:List It)(x:It):x∈EY l↔x∈l:=(VR l).mem_iff
theorem YA(l:List It)(hn:(l.map (·.path)).Nodup):Nv (EY l):=by
 have:∀k,k<=l.length->Nv (EY (l.take k)):=by
  intro k
  induction k with
  | zero=>intro _;simp[EY,Nv]
  | succ k ih =>
    intro hk;have a1:k<l.length:=by omega
    rw[Ah,AD a1];simp only[Option.toList_some];rw[U5];refine sQ (ih (by omega)) λy hy he => ?_
    have a2:=(Ss _ _).1 hy;obtain⟨j,hj,a0⟩:=Bl a2;have a3:j<k:=by rw[Ae]at hj;omega
    rw[List.getElem_take]at a0;have h1:=CL.1 hn j k (by simp;omega) (by simp;omega) a3;simp at h1;exact h1 (by rw[a0];exact he)
 have:=this l.length (AB _)
 rwa[CZ]at this
theorem jE(h:l.Perm m)(h1:Nv l)(h2:Nv m):l=m:=by
 refine Ci (le:=λx y:It=>less x.path y.path=true) (λa b _ _ h1 h2 => ?_) h1 h2 h;rw[SN h1]at h2;cases h2
theorem iC(h:l.Perm m)(hn:(l.map (·.path)).Nodup):(m.map (·.path)).Nodup:=(h.map _).nodup_iff.1 hn
theorem XY(l:List It)(hn:(l.map (·.path)).Nodup):EY l=Eb l:=by
 have hp:(Eb l).Perm l:=CI _ _;refine jE ((VR l).trans hp.symm) (YA l hn) ?_;have hs:(Eb l).Pairwise λx y=>(!less y.path x.path)=true:=CE
  (λa b c h1 h2=>by
    simp at h1 h2 ⊢;cases h:less c.path a.path with
    | false=>rfl
    | true =>
      by_cases e:less b.path a.path=true
      ·rw[h1]at e;cases e
      by_cases e2:a.path=b.path
      ·rw[e2]at h;rw[h2]at h;cases h
      have a0:less a.path b.path=true:=by
       cases h':less a.path b.path with
       | true=>rfl
       | false=>exact absurd (Nz _ _ h' h1) e2
      have:=Oi _ _ _ h a0
      rw[h2]at this;cases this)
  (λa b=>by
    cases h:less b.path a.path with
    | false=>simp
    | true=>simp[SN h]) l
 have a1:((Eb l).map (·.path)).Nodup:=iC hp.symm hn;have a2:(Eb l).Pairwise λx y=>x.path≠y.path:=CT.1 a1
 refine(hs.and a2).imp λ{a b} hh => ?_
 obtain⟨h1,h2⟩:=hh;cases h':less a.path b.path with
 | true=>rfl
 | false=>exact absurd (Nz _ _ h' (by simpa using h1)) h2
theorem il(l:List It)(hn:(l.map (·.path)).Nodup):Nv (Eb l):=by rw[<-XY l hn];exact YA l hn
/-! ### What makes a list no tree -/
theorem Ux(hx:x∈l)(h:EL x=false):Dw l=false:=by
 have:l.all EL=false:=by
  cases e:l.all EL with
  | false=>rfl
  | true=>have:=BB.1 e x hx;rw[h]at this;cases this
 unfold Dw;rw[this];simp
theorem Zh(h:60<l.length):Dw l=false:=by
 unfold Dw
 have:decide (l.length<=60)=false:=by simp;omega
 rw[this];simp
theorem VX(h:¬(l.map (·.path)).Nodup):Dw l=false:=by
 unfold Dw;simp[h]
theorem ZG(hx:x∈l)(h:par x.path≠[])(h2:El l (par x.path)=false):Dw l=false:=by
 have:(l.all λx=>decide (par x.path=[])||El l (par x.path))=false:=by
  cases e:l.all λx=>decide (par x.path=[])||El l (par x.path)with
  | false=>rfl
  | true=>have:=BB.1 e x hx;simp[h,h2]at this
 unfold Dw;rw[this];simp
theorem TF{j:Nat}{y:It}(hx:l[k]? = some x)(hy:l[j]? = some y)(hj:j<k)(h:y.path=x.path):¬(l.map (·.path)).Nodup:=by
 intro hn;obtain⟨hk,rfl⟩:=AP.1 hx;obtain⟨a0,rfl⟩:=AP.1 hy;have h1:=CL.1 hn j k (by simp;omega) (by simp;omega) hj;simp at h1;exact h1 h
theorem pK(hx:l[k]? = some x)(hn:((l.take k).map (·.path)).Nodup)(h:∀y∈l.take k,y.path≠x.path):((l.take (k+1)).map (·.path)).Nodup:=by
 rw[Ah,hx];simp only[Option.toList_some,Aq,Bb,Ct];rw[CG];refine⟨hn,by simp,λa ha b hb => ?_⟩;obtain⟨y,hy,rfl⟩:=Am.1 ha;simp at hb;subst hb;exact h y hy
end
section
open Go.RowKit Go.Nt
structure JP (l:List It) (k:Nat):Prop where
 ok:∀x∈l.take k,EL x=true
 nd:((l.take k).map (·.path)).Nodup
 pa:∀x∈l.take k,par x.path=[]\/El l (par x.path)=true
theorem JP.next{l:List It}{k:Nat}{x:It}(h:JP l k)(hx:l[k]? = some x)(h1:EL x=true)(h2:∀y∈l.take k,y.path≠x.path)(h3:par x.path=[]\/El l (par x.path)=true):JP l (k+1):=by
 have e:l.take (k+1)=l.take k++[x]:=by rw[Ah,hx];rfl
 refine⟨λy hy => ?_,pK hx h.nd h2,λy hy => ?_⟩
 ·rw[e,An]at hy;rcases hy with hy | hy
  ·exact h.ok y hy
  simp at hy;subst hy;exact h1
 rw[e,An]at hy;rcases hy with hy | hy
 ·exact h.pa y hy
 simp at hy;subst hy;exact h3
theorem JP.all{l:List It}(h:JP l l.length)(hl:l.length<=60):Dw l=true:=by
 obtain⟨h1,h2,h3⟩:=h;rw[CZ]at h1 h2 h3;unfold Dw;simp only[Af,BJ,BB,DH];exact⟨⟨⟨hl,h1⟩,h2⟩,h3⟩
theorem iF(x:It)(D:ByteArray)(hD:D=D9 x.data)(xd:Bool)(hxd:xd=x.dir)(hp:Du x.path=true) :
 (EL x=false/\(4000<D.size\/(D.size<=4000/\((xd=true/\¬D.toList=[])\/((xd=false\/(xd=true/\D.toList=[]))/\(x.mode<0\/(0<=x.mode/\(4095<x.mode\/(x.mode<=4095/\(x.time<0\/(0<=x.time/\2147483647<x.time))))))))))) \/
 (EL x=true/\D.size<=4000/\(xd=false\/(xd=true/\D.toList=[]))/\0<=x.mode/\x.mode<=4095/\0<=x.time/\x.time<=2147483647):=by
 subst hxd;subst hD;rw[LC,Dd];unfold EL;rw[hp];by_cases h1:x.data.length<=4000
 ·by_cases h2:x.dir=true
  ·by_cases h3:x.data=[]
   ·by_cases h4:0<=x.mode
    ·by_cases h5:x.mode<=4095
     ·by_cases h6:0<=x.time
      ·by_cases h7:x.time<=2147483647
       ·exact .inr ⟨by simp[h2,h3,h4,h5,h6,h7],h1,.inr ⟨h2,by simp[h3]⟩,h4,h5,h6,h7⟩
       exact .inl ⟨by simp[h7],.inr ⟨h1,.inr ⟨.inr ⟨h2,by simp[h3]⟩,.inr ⟨h4,.inr ⟨h5,.inr ⟨h6,by omega⟩⟩⟩⟩⟩⟩
      exact .inl ⟨by simp[h6],.inr ⟨h1,.inr ⟨.inr ⟨h2,by simp[h3]⟩,.inr ⟨h4,.inr ⟨h5,.inl (by omega)⟩⟩⟩⟩⟩
     exact .inl ⟨by simp[h5],.inr ⟨h1,.inr ⟨.inr ⟨h2,by simp[h3]⟩,.inr ⟨h4,.inl (by omega)⟩⟩⟩⟩
    exact .inl ⟨by simp[h4],.inr ⟨h1,.inr ⟨.inr ⟨h2,by simp[h3]⟩,.inl (by omega)⟩⟩⟩
   exact .inl ⟨by simp[h2,h3],.inr ⟨h1,.inl ⟨h2,by simp[h3]⟩⟩⟩
  have a0:x.dir=false:=by simpa using h2
  by_cases h4:0<=x.mode
  ·by_cases h5:x.mode<=4095
   ·by_cases h6:0<=x.time
    ·by_cases h7:x.time<=2147483647
     ·exact .inr ⟨by simp[h1,a0,h4,h5,h6,h7],h1,.inl a0,h4,h5,h6,h7⟩
     exact .inl ⟨by simp[h7],.inr ⟨h1,.inr ⟨.inl a0,.inr ⟨h4,.inr ⟨h5,.inr ⟨h6,by omega⟩⟩⟩⟩⟩⟩
    exact .inl ⟨by simp[h6],.inr ⟨h1,.inr ⟨.inl a0,.inr ⟨h4,.inr ⟨h5,.inl (by omega)⟩⟩⟩⟩⟩
   exact .inl ⟨by simp[h5],.inr ⟨h1,.inr ⟨.inl a0,.inr ⟨h4,.inl (by omega)⟩⟩⟩⟩
  exact .inl ⟨by simp[h4],.inr ⟨h1,.inr ⟨.inl a0,.inl (by omega)⟩⟩⟩
 exact .inl ⟨by simp[h1],.inl (by omega)⟩
theorem kg{l:List It}{p:Bs}{k:Nat}{x:It}(hx:l[k]? = some x)(e:x.path=p)(hn:(l.map (·.path)).Nodup):El l p=x.dir:=by
 cases hd:x.dir with
 | true =>
   unfold El;rw[Bq];exact⟨x,Ab hx,by simp[e,hd]⟩
 | false =>
   cases h:El l p with
   | false=>rfl
   | true =>
     unfold El at h;obtain⟨y,hy,a0⟩:=Bq.1 h;simp at a0;obtain⟨j,hj,rfl⟩:=Bl hy;obtain⟨hk,rfl⟩:=AP.1 hx;by_cases a1:j=k
     ·subst a1;rw[hd]at a0;cases a0.2
     exfalso
     rcases Nat.lt_or_gt_of_ne a1 with h' | h'
     ·exact TF (AD hk) (AD hj) h' (a0.1.trans e.symm) hn
     exact TF (AD hj) (AD hk) h' (e.trans a0.1.symm) hn
variable {w:D7} {e:TypeId} {v:Value} {n:Nat} {xs:List Value}
theorem M3{base base':Nat}{size:Nat}(h:w.ownsRow base e size v n xs)(hb:base'<=base):w.ownsRow base' e size v n xs:=by
 refine⟨h.1,?_⟩;rcases h.2 with h0 | ⟨g,cap,cur,rfl,h1,h2,h3⟩
 ·exact .inl h0
 exact .inr ⟨g,cap,cur,rfl,AF hb h1,h2,h3⟩
theorem own_below{w':D7}{B N:Nat}{size:Nat}(h:w.ownsRow B e size v n xs)(hb:Below N w w')(hlt:∀q,v.ownBlock=some q->q<N):w'.ownsRow B e size v n xs:=by
 refine⟨h.1,?_⟩;rcases h.2 with h0 | ⟨g,cap,cur,rfl,h1,h2,h3⟩
 ·exact .inl h0
 exact .inr ⟨g,cap,cur,rfl,h1,(hb.block g (hlt g rfl)).trans h2,h3⟩
theorem Uw(a:Option Addr)(c:Nat)(l:List It)(w:D7)(hl:Dz w a l)(hn:l.length<=1048576)(hp:∀x∈l,x.path.length<=1048576) :
 Calls prog 96 #[.slice a l.length c] w λe w'=>Below w.heap.size w w' /\
  ((Dw l=false/\e=.returned (.tuple #[.slice none 0 0,.int .i64 3]))\/(Dw l=true/\∃v,e=.returned (.tuple #[v,.int .i64 0])/\w'.ownsRow w.heap.size 39 5 v l.length (E9 (Eb l)))):=by
 have Hl:=Jy hl;have Hp:=Jy hp;clear hl hp;by_cases b3:l.length<=60
 ·go_enter func96,ntmps96
  go_wp2
  go_loopw [4,5] (λv i wr=>∃(k:Nat) (a':Option Addr) (c':Nat),v=.slice a' k c'/\k<=l.length/\i=.int .i64 k/\Hid (wr.ownsRow w.heap.size 39 5 v k (E9 (EY (l.take k))))/\Hid (JP l k)/\Hid (Below w.heap.size w wr)) (λ_ i _=>l.length - (intOf i).toNat)
  case atStart=>exact⟨0,none,0,rfl,AU _,rfl,Jy (AZ _ _ _ _),Jy ⟨by simp,by simp,by simp⟩,Jy (AM _ _)⟩
  obtain⟨k,a',c',rfl,hk,rfl,a5,a4,a1⟩:=hrel;by_cases ah:k<l.length
  ·have aX:decide ((k:Int)<(l.length:Int))=true:=by simpa using ah
   obtain⟨x,hx⟩:∃x,l[k]? = some x:=⟨_,AD ah⟩;obtain⟨b,off,rfl,hc⟩:=(Hl.o.below a1.o) (λh=>by rw[h]at ah;simp at ah);obtain⟨x0,x1,x2,x3,x4⟩:=hc k x hx;have aw:=Hp.o x (Ab hx);have Hx:=Jy hx;have Hc:=Jy hc;have aK:=Jy (λW=>SG x.path W aw);clear hx hc;go_wp2_with fail;refine(aK.o _).mono ?_;rintro e W ⟨aN,vn,rfl,_⟩;have a3:Below (wr.heap.size+1) (boxed wr x) W:=by have h:=aN;simp at h;exact h
   have ai:=a1.o.size;have aY:=a3.size;have a6:Hid (Below w.heap.size w W):=(a1.o.alloc ai _).trans (a3.mono (by omega));have b4:E4 W wr.heap.size 0 x:=(NN wr x).below a3 (by omega);have aR:Hid (Dz W (some ⟨b,off,none⟩) l):=Hl.o.below a6.o;have aG:Hid (W.ownsRow w.heap.size 39 5 (.slice a' k c') k (E9 (EY (l.take k)))):=by
    have h1:=a5.o.alloc (.cells #[.string (D9 x.path),.bool x.dir,.string (D9 x.data),.int .i64 x.mode,.int .i64 x.time] 39);exact own_below h1 a3 (λq hq=>by have:=(h1.lt q hq).2;simp at this;exact this)
   have Hk:Hid ((EY (l.take k)).length=k):=by
    show(EY (l.take k)).length=k;rw[qw,Ae];omega
   have ad:=Jy (Ti x.path W aw);have av:=Jy (O9 (some ⟨b,off,none⟩) c l (par x.path) W aR.o hn);have aC:Hid (Calls prog 154 #[.slice a' k c',.string (D9 x.path)] W λe w'=>e=.returned (.int .i64 (Gm (EY (l.take k)) x.path))/\w'=W):=by
    have ho:W.ownsRow w.heap.size 39 5 (.slice a' k c') (EY (l.take k)).length (E9 (EY (l.take k))):=by rw[Hk.o];exact aG.o
    obtain⟨a2,c2,e2,h2⟩:=OY ho;rw[Hk.o]at e2;cases e2
    have:=O9 a' c' (EY (l.take k)) x.path W h2 (by rw[Hk.o];omega)
    rw[Hk.o]at this;exact this
   obtain⟨y0,y1,y2,y3,y4⟩:=b4;rw[Ao]at y1 y2 y3 y4;have aW:True:=trivial;clear aN a3 x0 x1 x2 x3 x4 ai aK a5 a1;obtain⟨aU,ag⟩:∃o,o=Du x.path:=⟨_,rfl⟩;rw[<-ag];have ao:=Jy ag;obtain⟨up,ax⟩:∃o,o=D9 (par x.path):=⟨_,rfl⟩;rw[<-ax]at ad av;have aF:=Jy ax;obtain⟨f1,ac⟩:∃o,o=Gm l (par x.path):=⟨_,rfl⟩;rw[<-ac]at av;have aL:=Jy ac;obtain⟨f2,ae⟩:∃o,o=Gm (EY (l.take k)) x.path:=⟨_,rfl⟩;rw[<-ae]at aC;have aP:=Jy ae;obtain⟨D,hD⟩:∃o,o=D9 x.data:=⟨_,rfl⟩;rw[<-hD]at y2;have HD:=Jy hD;obtain⟨xd,ay⟩:∃o,o=x.dir:=⟨_,rfl⟩;rw[<-ay]at y1;have aH:=Jy ay;clear ag ax ac ae hD ay;go_wp2_with fail;refine Jj ad.o ?_;go_wp2_with fail;refine Jj av.o ?_;go_wp2_with fail;refine Jj aC.o ?_;clear ad av aC;have af:Hid (∀(j:Nat) y,l[j]? = some y->W.cell? ⟨b,off+j*5+1,none⟩=some (.bool y.dir)):=λj y hy=>by
    obtain⟨b',b0,e',aV⟩:=aR.o (λh=>by rw[h]at ah;simp at ah);cases e'
    exact(aV j y hy).2.1
   have HA:Hid (Calls prog 155 #[.slice a' k c',.agg #[.string (D9 x.path),.bool xd,.string D,.int .i64 x.mode,.int .i64 x.time]] W λe w'=>Below W.heap.size W w'/\∃v',e=.returned v'/\w'.ownsRow W.heap.size 39 5 v' (k+1) (E9 (ins (EY (l.take k)) x))):=by
    have ho:W.ownsRow w.heap.size 39 5 (.slice a' k c') (EY (l.take k)).length (E9 (EY (l.take k))):=by rw[Hk.o];exact aG.o
    have:=Tb _ _ x _ W ho (by rw[Hk.o];omega) aw (λy hy=>Hp.o y (List.mem_of_mem_take ((Ss _ _).1 hy)))
    rw[Hk.o]at this;unfold JB at this;rw[<-HD.o,<-aH.o]at this;exact this
   have a7:w.heap.size<=W.heap.size:=a6.o.size;cases aU with
   | false =>
     have HR:Hid (Dw l=false):=Ux (Ab Hx.o) (by unfold EL;rw[<-ao.o];simp);clear HA af;go_wp2;go_ret2
     exact⟨a6.o,.inl ⟨HR.o,rfl⟩⟩
   | true =>
     rcases Tj (EY (l.take k)) x.path with⟨hf,hno⟩ | ⟨j,z,hf,hz,hzp,_⟩
     ·have ae:f2 = -1:=aP.o.trans hf;subst ae;have aJ:Hid (∀y∈l.take k,y.path≠x.path):=λy hy=>hno y ((Ss _ _).2 hy)
      clear hf hno;rcases iF x D HD.o xd aH.o ao.o.symm with⟨hbad,hh⟩ | ⟨hgood,g1,g2,g3,g4,g5,g6⟩
      ·have HR:Hid (Dw l=false):=Ux (Ab Hx.o) hbad;clear HA af hbad;rcases hh with h1 | ⟨h1,⟨h2,h3⟩ | ⟨h2 | ⟨h2,h3⟩,h4 | ⟨h4,h5 | ⟨h5,h6 | ⟨h6,h7⟩⟩⟩⟩⟩
       all_goals(try subst h2)
       all_goals
        go_wp2;go_ret2
        exact⟨a6.o,.inl ⟨HR.o,rfl⟩⟩
      have a9:=Jy hgood;clear hgood;by_cases a8:par x.path=[]
      ·have hu:up.toList.isEmpty=true:=by rw[aF.o,LC,a8];rfl
       have az:Hid (JP l (k+1)):=a4.o.next Hx.o a9.o aJ.o (.inl a8);clear a8 af;rcases g2 with g2 | ⟨g2,g7⟩<;>subst g2
       all_goals
        go_wp2_with fail;refine HA.o.mono ?_;rintro e W2 ⟨an,v',rfl,ho⟩;obtain⟨g',a0,rfl⟩:=PZ ho;have aa:Hid (Below w.heap.size w W2):=a6.o.trans (an.mono a7);have aD:Hid (W2.ownsRow w.heap.size 39 5 (.slice (some ⟨g',0,none⟩) (k+1) a0) (k+1) (E9 (EY (l.take (k+1))))):=by
         have e:l.take (k+1)=l.take k++[x]:=by rw[Ah,Hx.o];rfl
         rw[e,U5];exact M3 ho a7
        clear an ho HA y0 y1 y2 y3 y4;go_wp2;go_roundw
        case rel=>exact⟨k+1,some ⟨g',0,none⟩,a0,rfl,by omega,by go_num,aD,az,aa⟩
        case measure=>simp[intOf];omega
      have hu:up.toList.isEmpty=false:=by rw[aF.o,LC];simpa using a8
      rcases Tj l (par x.path)with⟨hf,hno⟩ | ⟨j,z,hf,hz,hzp,_⟩
      ·have ac:f1 = -1:=aL.o.trans hf;subst ac;have HR:Hid (Dw l=false):=ZG (Ab Hx.o) a8 (by
        cases h:El l (par x.path)with
        | false=>rfl
        | true =>
          unfold El at h;obtain⟨y,hy,aE⟩:=Bq.1 h;simp at aE;exact absurd aE.1 (hno y hy))
       clear HA af a8 hno hf;rcases g2 with g2 | ⟨g2,g7⟩<;>subst g2
       all_goals
        go_wp2;go_ret2
        exact⟨a6.o,.inl ⟨HR.o,rfl⟩⟩
      have ac:f1=(j:Nat):=aL.o.trans hf;subst ac;have hj:j<l.length:=(AP.1 hz).1;have aQ:=af.o j z hz;have Hz:=Jy hz;have aO:=Jy hzp;have aZ:=Jy a8;clear hf hz hzp a8 af;obtain⟨zd,aB⟩:∃o,o=z.dir:=⟨_,rfl⟩;rw[<-aB]at aQ;have aM:=Jy aB;clear aB;cases zd with
      | false =>
        have HR:Hid (Dw l=false):=by
         by_cases au:(l.map (·.path)).Nodup
         ·exact ZG (Ab Hx.o) aZ.o ((kg Hz.o aO.o au).trans aM.o.symm)
         exact VX au
        clear HA;rcases g2 with g2 | ⟨g2,g7⟩<;>subst g2
        all_goals
         go_wp2;go_ret2
         exact⟨a6.o,.inl ⟨HR.o,rfl⟩⟩
      | true =>
        have az:Hid (JP l (k+1)):=a4.o.next Hx.o a9.o aJ.o (.inr (by
         unfold El;rw[Bq];exact⟨z,Ab Hz.o,by simp[aO.o,aM.o.symm]⟩))
        rcases g2 with g2 | ⟨g2,g7⟩<;>subst g2
        all_goals
         go_wp2_with fail;refine HA.o.mono ?_;rintro e W2 ⟨an,v',rfl,ho⟩;obtain⟨g',a0,rfl⟩:=PZ ho;have aa:Hid (Below w.heap.size w W2):=a6.o.trans (an.mono a7);have aD:Hid (W2.ownsRow w.heap.size 39 5 (.slice (some ⟨g',0,none⟩) (k+1) a0) (k+1) (E9 (EY (l.take (k+1))))):=by
          have e:l.take (k+1)=l.take k++[x]:=by rw[Ah,Hx.o];rfl
          rw[e,U5];exact M3 ho a7
         clear an ho HA y0 y1 y2 y3 y4 aQ;go_wp2;go_roundw
         case rel=>exact⟨k+1,some ⟨g',0,none⟩,a0,rfl,by omega,by go_num,aD,az,aa⟩
         case measure=>simp[intOf];omega
     have ae:f2=(j:Nat):=aP.o.trans hf;subst ae;have HR:Hid (Dw l=false):=by
      have hm:=(Ss _ _).1 (Ab hz);obtain⟨j',aT,aI⟩:=Bl hm;have aS:j'<k:=by rw[Ae]at aT;omega
      rw[List.getElem_take]at aI;exact VX (TF Hx.o (AD (by omega)) aS (by rw[aI];exact hzp))
     clear HA af hf hz hzp;go_wp2;go_ret2
     exact⟨a6.o,.inl ⟨HR.o,rfl⟩⟩
  have ar:k=l.length:=by omega
  have am:Hid (Dw l=true):=by have h:=a4.o;rw[ar]at h;exact h.all b3
  have aA:Hid (wr.ownsRow w.heap.size 39 5 (.slice a' k c') l.length (E9 (Eb l))):=by
   have h:=a5.o;have au:(l.map (·.path)).Nodup:=by have h2:=a4.o.nd;rw[ar,CZ]at h2;exact h2
   rw[<-XY l au];rw[ar]at h ⊢;rw[CZ]at h;exact h
  clear ar a5;go_wp2;go_ret2
  exact⟨a1.o,.inr ⟨am.o,_,rfl,aA.o⟩⟩
 have HR:Hid (Dw l=false):=Zh (by omega);go_enter func96,ntmps96
 go_wp2;go_ret2
 exact⟨AM _ _,.inl ⟨HR.o,rfl⟩⟩
variable {w W V:D7} {l:List It} {k g:Nat} {x:It}
theorem below_grown{w':D7}(h:Below w.heap.size w w'):w.grownBy w' none:=⟨h.os,h.tape,h.output,h.size,λk hk _=>h.block k hk⟩
theorem IG(s:ByteArray)(w:D7)(hs:s.size<=1048576):Calls prog 72 #[.string s] w λe w'=>e=.returned (.string s)/\Below w.heap.size w w':=by
 have HC:=Jy (stringslite_Clone s w (by omega));go_enter func72,ntmps72
 go_wp2_with (go_at_call 122;refine HC.o.mono ?_;rintro e w' ⟨rfl,hb⟩);go_ret
 exact⟨rfl,hb⟩
structure Jt (l:List It) (k:Nat):Prop where
 ok:∀x∈l.take k,EL x=true
 nd:((l.take k).map (·.path)).Nodup
theorem Jt.next(h:Jt l k)(hx:l[k]? = some x)(ho:EL x=true)(hn:at? (l.take k) x.path=none):Jt l (k+1):=by
 have e:l.take (k+1)=l.take k++[x]:=by rw[Ah,hx];rfl
 refine⟨λy hy => ?_,?_⟩
 ·rw[e]at hy;rcases An.1 hy with hy | hy
  ·exact h.ok y hy
  simp at hy;subst hy;exact ho
 rw[e,Aq,CG];refine⟨h.nd,by simp,λa ha b hb => ?_⟩;obtain⟨y,hy,rfl⟩:=Am.1 ha;simp at hb;subst hb;exact Ge.1 hn y hy
def IP(w W V:D7)(l:List It)(k:Nat):Prop:=W.grownBy V (some w.heap.size)/\Below w.heap.size w V/\(Dk V w.heap.size (l.take k)\/Dk V w.heap.size (l.take (k+1)))
theorem X2{V':D7}(h:Hid (IP w W V l k))(hb:Below V.heap.size V V'):Hid (IP w W V' l k):=by
 obtain⟨h1,h2,h3⟩:=h;have hs:=h2.size;refine⟨h1.trans ((below_grown hb).but _),h2.trans (hb.mono hs),?_⟩;rcases h3 with h | h
 ·exact .inl (h.below hb h.lt)
 exact .inr (h.below hb h.lt)
theorem oC(h:Hid (IP w W V l k))(hn:Jt l (k+1))(hx:l[k]? = some x)(hno:at? (l.take k) x.path=none)(hl:l.length<=60)(hp:x.path.length<=maxLen) :
 ∃V',(Instr.mapUpdate 77 (.map (some w.heap.size)) (.string (D9 x.path)) (JX (nd x))).run prog V=.ok () V'/\Hid (IP w W V' l k)/\Hid (Dk V' w.heap.size (l.take (k+1))):=by
 obtain⟨h1,h2,h3⟩:=h;have e:l.take (k+1)=l.take k++[x]:=by rw[Ah,hx];rfl
 have a5:((l.take k).map (·.path)).Nodup:=by
  have:=hn.nd
  rw[e,Aq]at this;exact(CG.1 this).1
 have fin:∀m,Dk V w.heap.size m->(m.map (·.path)).Nodup->m.length<=60->(∀p,at? (Ie m x) p=at? (l.take (k+1)) p)->∃V',(Instr.mapUpdate 77 (.map (some w.heap.size)) (.string (D9 x.path)) (JX (nd x))).run prog V=.ok () V'/\Hid (IP w W V' l k)/\Hid (Dk V' w.heap.size (l.take (k+1))):=by
  intro m hT a4 hm a0;obtain⟨V',r1,⟨D,o1,o2⟩,r3⟩:=hT.store a4 (by unfold maxLen;omega) x hp;have a3:Dk V' w.heap.size (l.take (k+1)):=⟨D,o1,o2.same a0⟩;exact⟨V',r1,Jy ⟨h1.trans r3.grown,h2.grown r3.grown h2.size (λq hq=>by cases hq;exact AB _),.inr a3⟩,Jy a3⟩
 have a2:(l.take k).length<=60:=by rw[Ae];omega
 have a1:(l.take (k+1)).length<=60:=by rw[Ae];omega
 rcases h3 with h | h
 ·refine fin _ h a5 a2 (λp => ?_);rw[kH (Ge.1 hno),e]
 refine fin _ h hn.nd a1 (λp => ?_);by_cases ep:p=x.path
 ·subst ep;rw[YL];exact(at_mem hn.nd (by rw[e];simp)).symm
 rw[YB ep]
def QE(V:D7)(g:Nat)(x:It):Prop:=
 V.cell? ⟨g,0,none⟩=some (.string (D9 x.path))/\V.cell? ⟨g,1,none⟩=some (.bool x.dir)/\V.cell? ⟨g,2,none⟩=some (.string (D9 x.data)) /\
 V.cell? ⟨g,3,none⟩=some (.int .i64 x.mode)/\V.cell? ⟨g,4,none⟩=some (.int .i64 x.time)
theorem E4.Qz(h:E4 V g 0 x):QE V g x:=by
 obtain⟨h0,h1,h2,h3,h4⟩:=h;rw[Ao]at h1 h2 h3 h4;exact⟨h0,h1,h2,h3,h4⟩
theorem TS(h:Hid (IP w W V l k))(hf:Hid (QE W g x))(hg:g<W.heap.size)(hne:w.heap.size<g):QE V g x:=by
 have hb:V.heap[g]? = W.heap[g]? := h.o.1.block g hg (λe=>by cases e;omega);obtain⟨h0,h1,h2,h3,h4⟩:=hf;exact⟨(AJ hb).trans h0,(AJ hb).trans h1,(AJ hb).trans h2,(AJ hb).trans h3,(AJ hb).trans h4⟩
theorem jO(h60:l.length<=60)(hok:∀x∈l,EL x=true)(hnd:(l.map (·.path)).Nodup)(he:∀x∈l,ER l x.path=0):Dw l=true:=by
 have h1:l.all EL=true:=BB.2 hok;unfold Dw;rw[Yj l h1,h1];have h2:(l.all λx=>Nx l x.path)=true:=BB.2 λx hx=>by rw[YG l _ hnd,he x hx];rfl
 rw[h2];simp[h60,hnd]
theorem Z5(hok:∀x∈l,EL x=true)(hnd:(l.map (·.path)).Nodup)(hx:x∈l)(he:ER l x.path≠0):Dw l=false:=by
 have h1:l.all EL=true:=BB.2 hok;unfold Dw;rw[Yj l h1];have h2:(l.all λx=>Nx l x.path)=false:=by
  cases h:l.all λx=>Nx l x.path with
  | false=>rfl
  | true =>
    have:=BB.1 h x hx
    rw[YG l _ hnd]at this;exact absurd (by simpa using this) he
 rw[h2];simp
theorem Ii(a:Option Addr)(c:Nat)(l:List It)(w:D7)(hml:ML w)(hl:Dz w a l)(hn:l.length<=1048576)(hp:∀x∈l,x.path.length<=1048576)(hd:∀x∈l,x.data.length<=1048576) :
 Calls prog 41 #[.slice a l.length c] w λe w'=>Below w.heap.size w w' /\
  ((Dw l=false/\e=.returned (.tuple #[.map none,.int .i64 3]))\/(Dw l=true/\∃b,e=.returned (.tuple #[.map (some b),.int .i64 0])/\w.heap.size<=b/\Dk w' b l)):=by
 have Hl:=Jy hl;have Hp:=Jy hp;have Hd:=Jy hd;have be:=Jy hml;have h0:=hml.lt;clear hl hp hml hd;have bm:=ig;by_cases aY:l.length<=60
 ·go_enter func41,ntmps41
  go_wp2
  go_loopw [18] (λi wr=>∃k:Nat,k<=l.length/\i=.int .i64 k/\Hid (Jt l k)/\Hid (Dk wr w.heap.size (l.take k))/\Hid (Below w.heap.size w wr)) (λi _=>l.length - (intOf i).toNat)
  case atStart=>exact⟨0,AU _,rfl,Jy ⟨by simp,by simp⟩,Jy (lL w),Jy (Nu)⟩
  obtain⟨k,hk,rfl,ax,HT,Hb⟩:=hrel;by_cases aA:k<l.length
  ·obtain⟨x,hx⟩:∃x,l[k]? = some x:=⟨_,AD aA⟩;obtain⟨b,off,rfl,hc⟩:=(Hl.o.below Hb.o) (λh=>by rw[h]at aA;simp at aA);obtain⟨x0,x1,x2,x3,x4⟩:=hc k x hx;have a8:=Hp.o x (Ab hx);have aH:=Hd.o x (Ab hx);have ae:=Hb.o.size;have a1:=HT.o.lt;have Hx:=Jy hx;have an:Dk (boxed wr x) w.heap.size (l.take k):=HT.o.of_block (AO wr _ _ a1);have aa:x.path.length<=maxLen:=by unfold maxLen;omega
   cases ha:at? (l.take k) x.path with
   | some y =>
     have a0:=(an.H7 aa ha).1;have HR:Hid (Dw l=false):=by
      obtain⟨hy,b7⟩:=Ml ha;obtain⟨j',b8,aT⟩:=Bl hy;have b4:j'<k:=by rw[Ae]at b8;omega
      rw[List.getElem_take]at aT;exact VX (TF hx (AD (by omega)) b4 (by rw[aT];exact b7))
     unfold boxed JX nd at a0;clear hx hc ha an;go_wp2;go_ret2
     exact⟨(Hb.o.alloc ae _).zA,.inl ⟨HR.o,rfl⟩⟩
   | none =>
     have a0:=(an.Iy aa ha).1;have Ha:=Jy ha;obtain⟨W0,au⟩:=Jq ((boxed wr x).alloc (.cells #[.bool false,.string (D9 []),.int .i64 0,.int .i64 0] 117));have a3:Below w.heap.size w W0:=by rw[au];exact(Hb.o.alloc ae _).zA
     have HI:=Jy (nw x W0 (be.o.below a3 h0) a8);rw[au]at HI;unfold boxed JB at HI;unfold boxed JX at a0;obtain⟨o,ho⟩:=Jq (EL x);rw[<-ho]at HI;have Ho:=Jy ho;have am:=Jy au;clear hx hc ha an ho au;go_wp2_with fail;refine HI.o.mono ?_;rintro e W ⟨aC,rfl⟩;have a2:Below (wr.heap.size+2) W0 W:=by
      rw[am.o];have h:=aC;simp only[BF]at h;exact h
     have ar:W0.heap.size=wr.heap.size+2:=by rw[am.o];simp[boxed]
     have bg:=a2.size;have aQ:Hid (Below w.heap.size w W):=a3.trans (a2.zM);cases o with
     | false =>
       have HR:Hid (Dw l=false):=Ux (Ab Hx.o) Ho.o.symm;clear aC a2 a0 x0 x1 x2 x3 x4 HI ar a3;go_wp2;go_ret2
       exact⟨aQ.o,.inl ⟨HR.o,rfl⟩⟩
     | true =>
       have av:wr.heap.size<W.heap.size:=by omega
       have aD:E4 W wr.heap.size 0 x:=by
        have h1:E4 W0 wr.heap.size 0 x:=by rw[am.o];exact(NN wr x).of_block (AO _ _ _ (by simp[boxed]))
        exact h1.below a2 (by omega)
       have HF:=Jy aD.Qz;have aM:Hid (Dk W w.heap.size (l.take k)):=by
        have h1:Dk W0 w.heap.size (l.take k):=by rw[am.o];exact(HT.o.of_block (w':=boxed wr x) (AO wr _ _ a1)).of_block (AO _ _ _ (by simp[boxed];omega))
        exact h1.below a2 (by omega)
       have aN:Hid (Jt l (k+1)):=ax.o.next Hx.o Ho.o.symm Ha.o;have bj:Hid (IP w W W.drew l k):=⟨⟨rfl,rfl,rfl,AB _,λ_ _ _=>rfl⟩,aQ.o.drew,.inl (aM.o.of_block rfl)⟩;have HU:Hid (∀V,Hid (IP w W V l k)->∃V',(Instr.mapUpdate 77 (.map (some w.heap.size)) (.string (D9 x.path)) (.agg #[.bool x.dir,.string (D9 x.data),.int .i64 x.mode,.int .i64 x.time])).run prog V=.ok () V'/\Hid (IP w W V' l k)/\Hid (Dk V' w.heap.size (l.take (k+1)))):=
        λV hV=>oC hV aN.o Hx.o Ha.o aY aa
       have aU:=Jy (λV=>IG (D9 x.path) V (by rw[Dd];exact a8));have aR:=Jy (λV=>IG (D9 x.data) V (by rw[Dd];exact aH));obtain⟨f0,f1,f2,f3,f4⟩:=aD.Qz;clear aC a2 a0 x0 x1 x2 x3 x4 HI ar a3 aD aM ax HT Hb am Ho Ha;clear bg W0;go_wp2_with fail;go_region_held3 (λV=>Hid (IP w W V l k)/\V.cell? ⟨wr.heap.size,0,none⟩=some (.string (D9 x.path))/\V.cell? ⟨wr.heap.size,1,none⟩=some (.bool x.dir)/\V.cell? ⟨wr.heap.size,2,none⟩=some (.string (D9 x.data))/\V.cell? ⟨wr.heap.size,3,none⟩=some (.int .i64 x.mode)/\V.cell? ⟨wr.heap.size,4,none⟩=some (.int .i64 x.time)) (go_keep) (first
        | (go_at_call_of 72 (D9 x.path);refine(aU.o _).mono ?_;rintro e V ⟨rfl,ao⟩;have HS:=X2 (w:=w) (W:=W) (l:=l) (k:=k) (by go_split_ands;assumption) ao;obtain⟨c0,c1,c2,c3,c4⟩:=TS HS HF av a1;obtain⟨V',af,ag,b0⟩:=HU.o V HS;obtain⟨d0,d1,d2,d3,d4⟩:=TS ag HF av a1)
        | (go_at_call_of 72 (D9 x.data);refine(aR.o _).mono ?_;rintro e V ⟨rfl,ao⟩;have HS:=X2 (w:=w) (W:=W) (l:=l) (k:=k) (by go_split_ands;assumption) ao;obtain⟨c0,c1,c2,c3,c4⟩:=TS HS HF av a1;obtain⟨V',af,ag,b0⟩:=HU.o V HS;obtain⟨d0,d1,d2,d3,d4⟩:=TS ag HF av a1))
       all_goals
        have ay:Hid (Below w.heap.size w V'):=ag.o.2.1;clear c0 c1 c2 c3 c4 d0 d1 d2 d3 d4 af HS ag ao f0 f1 f2 f3 f4 aU aR HU bj;rename_i hHeld;clear hHeld;go_wp2;go_roundw
        case rel=>exact⟨k+1,by omega,by go_num,aN,b0,ay⟩
        case measure=>simp[intOf];omega
  have b6:k=l.length:=by omega
  subst b6;have HN:Hid (Jt l l.length):=ax;have aX:Hid (Dk wr w.heap.size l):=by
   have h:=HT.o;rw[CZ]at h;exact h
  have aZ:Hid (∀x∈l,EL x=true):=by
   have h:=HN.o.ok;rw[CZ]at h;exact h
  have aJ:Hid ((l.map (·.path)).Nodup):=by
   have h:=HN.o.nd;rw[CZ]at h;exact h
  obtain⟨D,ho,hh⟩:=aX.o;have Hh:=Jy hh;have ad:=Jy ho;clear ho hh HT ax HN;go_wp2_with (first | (at_range;refine wpList_range_own _ rfl _ 77 rfl 9 117 J0 underlying77 _ w.heap.size _ D rfl ad.o ?_;intro w0 a9 aS ar) | go_in)
  go_frame
  have aO:Hid (Below w.heap.size w w0):=Hb.o.grown aS Hb.o.size (λq hq=>by cases hq);have a5:=Jy a9;have aV:=Hb.o.size;clear a9 aS ad aX ar Hb;obtain⟨r,hr⟩:=Jq wr.heap.size;rw[<-hr]at a5 aV ⊢;clear hr
  go_loopw [9] (λ_ wx=>∃(left:Lit->Bool) (cnt:Nat),wx.ranges prog 9 IJ w.heap.size r (Maps.size D) D left cnt/\Hid (∀p,Maps.has D (.string p)=true->left (.string p)=false->ER l p=0)/\Hid (Below w.heap.size w wx))
   (λ_ wx=>wx.rangeLeft w.heap.size r)
  case atStart=>exact⟨_,_,a5.o,Jy (λp h1 h2=>by rw[h1]at h2;cases h2),aO⟩
  obtain⟨left,cnt,aw,He,aI⟩:=hrel;clear aO a5;go_wp2_with (first | (at_next;refine wpList_next_ranges _ rfl _ rfl 9 J0 IJ (λx:Bs=>.string (D9 x)) id (λkey kl hk=>by obtain⟨x,hx,_⟩:=Maps.keyOf_str underlying9 hk;exact⟨x,hx⟩) (λv _ _=>⟨v,rfl⟩) w.heap.size r _ _ _ _ rfl aw ?_ ?_) | go_in)
  ·intro _ bc;have HR:Hid (Dw l=true):=jO aY aZ.o aJ.o (λx hx=>He.o x.path (by rw[(Hh.o x.path).1,at_mem aJ.o hx];rfl) (bc _));have b3:Hid (Dk _ w.heap.size l):=⟨D,tight aw.owns,Hh.o⟩;go_wp2;go_ret2
   exact⟨aI.o,.inr ⟨HR.o,_,rfl,AB _,b3.o⟩⟩
  intro p cv kl yd yp w2 aB ah bb hv aP a6 az aK b5 bl;obtain⟨p',ep,rfl,_⟩:=Maps.keyOf_str underlying9 ah;obtain rfl:p=p':=by cases ep;rfl
  have a4:Maps.has D (.string p)=true:=C5 aP;rw[(Hh.o p).1]at a4;obtain⟨x,hx⟩:=CC.1 a4;obtain⟨aE,a8⟩:=Ml hx;have aa:p.length<=1048576:=by rw[<-a8];exact Hp.o x aE
  have aL:Dk w2 w.heap.size l:=⟨D,tight a6.owns,Hh.o⟩;have HE:=Jy (Zt w.heap.size l p w2 aL aa);have a7:Hid (Below w.heap.size w w2):=aI.o.grown aK aI.o.size (λq hq=>by cases hq;exact aV);have ai:=a7.o.size;have ac:=Jy a6;have bi:=Jy aw;have b9:=Jy aE;have bh:=Jy a8;obtain⟨ee,aF⟩:=Jq (ER l p);rw[<-aF]at HE;have aW:=Jy aF;clear aF aP hv ah bb aK b5 a6 aw aL a4 hx aE a8 ep;by_cases aG:ee=0
  ·subst aG;go_wp2_with (go_at_call 73;refine HE.o.mono ?_;rintro e w3 ⟨aj,rfl⟩);go_roundw
   case rel =>
    refine⟨_,aB,ac.o.kept (below_grown aj) (by simp) (by simp),Jy (λq h1 h2 => ?_),Jy (a7.o.trans (aj.mono ai))⟩;by_cases e:q=p
    ·rw[e];exact aW.o.symm
    refine He.o q h1 ?_;have hs:Lit.sameKey (.string q) (.string p)=false:=DL (λh=>e (by cases h;rfl));rw[hs]at h2;simpa using h2
   rw[(ac.o.kept (below_grown aj) (by simp) (by simp)).left_eq,bi.o.left_eq];exact az
  have bf:(ee != 0)=true:=bne_iff_ne.2 aG;have HR:Hid (Dw l=false):=Z5 aZ.o aJ.o b9.o (by rw[bh.o,<-aW.o];exact aG);go_wp2_with (go_at_call 73;refine HE.o.mono ?_;rintro e w3 ⟨aj,rfl⟩);go_ret2
  exact⟨a7.o.trans (aj.mono ai),.inl ⟨HR.o,rfl⟩⟩
 have HR:Hid (Dw l=false):=Zh (by omega);go_enter func41,ntmps41
 go_wp2;go_ret2
 exact⟨AM _ _,.inl ⟨HR.o,rfl⟩⟩
end
end Go.Proofs.YtodmdkhdbfbfgaaGreatDoor
