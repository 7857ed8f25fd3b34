/- Lemmas. -/
import Derived.Test.YtodmdkhdbfbfgaaGreatDoorM26
set_option linter.unusedVariables false
set_option linter.unusedSimpArgs false
set_option maxRecDepth 100000
set_option maxHeartbeats 8000000
open Go.Proofs.Tryz
namespace Go.Proofs.YtodmdkhdbfbfgaaGreatDoor
open Go.RowKit Go.Nt
variable {S R:Nat->Prop} {w w':D7} {u:Bs->Option Bs} {sb n:Nat} {s:Sv} {d:Sd}
structure Gi where
 kind:Int
 tree:Sl
 path:Bs
 dst:Bs
 data:Bs
 a:Int
 b:Int
 other:Bool
def Gi.arr(o:Gi):Array Value:=#[.int .i64 o.kind,.slice o.tree.1 o.tree.2.1 o.tree.2.2,.string (D9 o.path),.string (D9 o.dst),.string (D9 o.data),.int .i64 o.a,.int .i64 o.b,.bool o.other]
def Lz(o:Gi):Value:=.agg o.arr
theorem KS(h:Below w.heap.size w w'):S1.Fm S w w':=⟨h.os,h.tape,h.output,h.size,λk hk _=>h.block k hk⟩
theorem KO{lo hi:Nat}(h:S1.Dr lo hi w w')(hS:∀k,lo<=k->k<hi->S k):S1.Fm S w w':=⟨h.os,h.tape,h.output,h.size,λk hk hn=>h.block k hk (λe=>hn (hS k e.1 e.2))⟩
theorem II{a b c:D7}(h1:S1.Fm S a b)(h2:S1.Fm S b c):S1.Fm S a c:=⟨h2.os.trans h1.os,h2.tape.trans h1.tape,h2.output.trans h1.output,AF h1.size h2.size,λk hk hn=>(h2.block k (AR hk h1.size) hn).trans (h1.block k hk hn)⟩
theorem EM.of_below{w1 w2:D7}{n1:Nat}(h:ED u w sb R s d n1)(hb:Below w.heap.size w w1)(h2:EM u w1 sb R s d n w2):EM u w sb R s d n w2:=
 EM.trans h (λ_ h=>h) (λ_ h=>.inl h) (λ_ h=>.inl h) (KS hb) h2
theorem ED.put{s':Sv}{m':S1.M}(h:ED u w sb R s d n)(hs:Dh w' sb s')(hC:S1.CP w' d.lo d.hi s'.c d.L m')(hF:S1.Fm (λk=>k=sb\/(d.lo<=k/\k<d.hi)) w w')(wf:S1.WF m')(ef:s'.f=none\/(s'.f=s.f/\s'.now=s.now))(em:s'.may=s.may)(el:s'.lists=s.lists)(et:s'.texts=s.texts)(hb:s'.En<=S1.Dt m')(hok:s'.Fi=false->S1.Lj m')(hsc:s'.Fi=true->s'.free=true/\s'.FF=true)(hfi:s'.FF=false->∃y∈d.ms,Finds u m' y.2):EM u w sb R s d n w':=by
 have hz:=hF.size;have same:∀k,k<w.heap.size->k≠sb->¬(d.lo<=k/\k<d.hi)->w'.heap[k]? = w.heap[k]? := λk h1 h2 h3=>hF.block k h1 (λe=>e.elim h2 h3)
 have a0:∀k,R k->w'.heap[k]? = w.heap[k]? := λk hk=>same k (h.rl k hk) (λe=>(h.mu k (.inl e)).1 hk) (λe=>(h.mu k (.inr (.inl e))).1 hk)
 have a5:∀k,Mu sb s' { d with m:=m' } k↔Mu sb s d k:=λk=>by
  unfold Mu;rw[el,et]
 refine⟨s',{ d with m:=m' },R,?_,λ_ h=>h,λ_ h=>.inl h,λk hk=>.inl ((a5 k).1 hk),⟨hF.os,hF.tape,hF.output,hF.size,λk hk hn=>hF.block k hk (λe=>hn (e.elim .inl (λe=>.inr (.inl e))))⟩⟩;refine⟨hs,hC,wf,AF h.hi hz,h.lo,λfb hf => ?_,?_,?_,?_,?_,h.lj,h.tk,h.mn,λk hk=>⟨(h.mu k ((a5 k).1 hk)).1,AR (h.mu k ((a5 k).1 hk)).2 hz⟩,?_,hb,hok,hsc,hfi,λk hk=>AR (h.rl k hk) hz⟩
 ·rcases ef with e | ⟨e1,e2⟩
  ·rw[e]at hf;cases hf
  rw[e1]at hf;rw[e2];obtain⟨a1,⟨cb,lb,tb,b1,b2,b3,b4⟩,a2,a3,a4⟩:=h.fs fb hf;exact⟨a1,⟨cb,lb,tb,(a0 fb b3).trans b1,b2.of_block (a0 tb b4),b3,b4⟩,a2,a3.NH (by rw[KC];exact a4) a0,a4⟩
 ·rw[em];exact h.may.keep h.FV.1 h.FV.2 a0
 ·rw[em];exact h.FV
 ·rw[el];refine h.li.keep (λk hk => ?_);rcases hk with hk | hk
  ·have a7:=(h.mu k (.inr (.inr (.inl hk)))).2;obtain⟨c1,a6⟩:=LD h.li.1 hk;exact same k a7 (λe=>by
    subst e;exact Kb a6 h.side (by decide) rfl) (h.ap.2.1 k hk)
  exact a0 k hk
 ·rw[et];refine h.tx.keep (λk hk => ?_);rcases hk with hk | hk
  ·have a7:=(h.mu k (.inr (.inr (.inr hk)))).2;obtain⟨c1,a6⟩:=LD h.tx.1 hk;exact same k a7 (λe=>by
    subst e;exact Kb a6 h.side (by decide) rfl) (h.ap.2.2 k hk)
  exact a0 k hk
 rw[el,et];exact h.ap
theorem iR(m:S1.M)(b p:Int)(s:D8):S1.Dt (S1.MG m b p s)=S1.Dt m:=by
 unfold S1.MG
 split<;>rfl
theorem QU(w:D7)(o:Gi)(k:Nat):(w.alloc (.cells o.arr 65)).cell? ⟨w.heap.size,k,none⟩=o.arr[k]? := AG _ _ _ _ 65 (0,0) (AQ _ _)
theorem qm(h:ED u w sb R s d n)(o:Gi)(hk:14<=o.kind/\o.kind<=17)(hb1:-9223372036854775808<=o.b)(hb2:o.b<=9223372036854775807)(hd:o.data.length<=1048576) :
 Calls prog 58 #[.pointer (some ⟨sb,0,none⟩),Lz o] w λe w'=>e=.returned (.tuple #[])/\EM u w sb R s d n w':=by
 obtain⟨kd,⟨t1,t2,t3⟩,pa,tp,da,oa,a1,ot⟩:=o;dsimp only at hk hb1 hb2 hd;obtain⟨W,hW⟩:=Jq (w.alloc (.cells (Gi.arr ⟨kd,(t1,t2,t3),pa,tp,da,oa,a1,ot⟩) 65));have av:=KD hW;obtain⟨g,hg⟩:=Jq w.heap.size;have aa:∀k,W.cell? ⟨g,k,none⟩=(Gi.arr ⟨kd,(t1,t2,t3),pa,tp,da,oa,a1,ot⟩)[k]? := λk=>by rw[hW,hg];exact QU w _ k
 have y0:W.cell? ⟨g,0,none⟩=some (.int .i64 kd):=aa 0;have z5:W.drew.cell? ⟨g,5,none⟩=some (.int .i64 oa):=aa 5;have z6:W.drew.cell? ⟨g,6,none⟩=some (.int .i64 a1):=aa 6;have z4:W.drew.cell? ⟨g,4,none⟩=some (.string (D9 da)):=aa 4;have H:=Jy (h.below av);have H0:=Jy h;have a6:=Jy av;have c0:W.cell? ⟨sb,0,none⟩=some (.pointer (some ⟨s.c,0,none⟩)):=H.o.side.cell 0;have x0:W.drew.cell? ⟨sb,0,none⟩=some (.pointer (some ⟨s.c,0,none⟩)):=c0;have aN:g≠sb:=by rw[hg];have:=(h.mu sb (.inl rfl)).2;omega
 have aA:¬(d.lo<=g/\g<d.hi):=by rw[hg];have:=h.hi;omega
 have az:g<W.drew.heap.size:=Aj _ _ z5;have ag:Hid (S1.CP W.drew d.lo d.hi s.c d.L d.m):=Jy H.o.E2.drew;have HD:=Jy (S1.EW W d.lo d.hi s.c d.L d.m H.o.E2);have HW:Hid (W=w.alloc (.cells #[.int .i64 kd,.slice t1 t2 t3,.string (D9 pa),.string (D9 tp),.string (D9 da),.int .i64 oa,.int .i64 a1,.bool ot] 65)):=Jy hW;have Hg:=Jy hg;have HF:Hid (∀W',S1.Dr d.lo d.hi W.drew W'->S1.Fm (λk=>k=sb\/(d.lo<=k/\k<d.hi)) W W'):=Jy (λW' hO=>II (KS (AM _ W).drew) (KO hO (λk a b=>.inr ⟨a,b⟩)));have HS:Hid (∀W',S1.Dr d.lo d.hi W.drew W'->Dh W' sb s):=Jy (λW' hO=>H.o.side.of_block (hO.block sb (by have:=(H.o.mu sb (.inl rfl)).2;exact this) H.o.ap.1));have HK:Hid (∀W' k,S1.Dr d.lo d.hi W.drew W'->W'.cell? ⟨g,k,none⟩=W.drew.cell? ⟨g,k,none⟩):=Jy (λW' k hO=>AJ (hO.block g az aA))
 clear h hW av aa hg aA az;unfold Lz Gi.arr;dsimp only;obtain⟨cb,Fg⟩:=Jq s.c;rw[<-Fg]at c0 x0 ag HD;have a2:=Jy Fg;clear Fg;have HX:Hid (∀W',S1.Dr d.lo d.hi W.drew W'->W'.cell? ⟨sb,0,none⟩=some (.pointer (some ⟨cb,0,none⟩))):=Jy (λW' hO=>by rw[a2.o];exact(HS.o W' hO).cell 0);have a8:kd=14\/kd=15\/kd=16\/kd=17:=by omega
 rcases a8 with rfl | rfl | rfl | rfl
 ·have A:=Jy (S1.OZ W.drew d.lo d.hi cb d.L d.m oa a1 hb1 hb2 ag.o);clear z4 HD;go_enter func58,ntmps58
  go_wp2_with (first | (rw[<-HW.o,<-Hg.o]) | fail);go_region_held3 (λV=>V.cell? ⟨sb,0,none⟩=some (.pointer (some ⟨cb,0,none⟩))/\V.cell? ⟨g,5,none⟩=some (.int .i64 oa)/\V.cell? ⟨g,6,none⟩=some (.int .i64 a1)) (go_keep) (first
   | (go_at_call 27;refine A.o.mono ?_;rintro e V5 ⟨rfl,a3,a0⟩;have f0:=HX.o V5 a0;have f1:=(HK.o V5 5 a0).trans z5;have f2:=(HK.o V5 6 a0).trans z6;have HV:=Jy a3;have HO:=Jy a0;clear a3 a0))
  rename_i hHeld;clear hHeld f0 f1 f2;go_wp2_with fail;go_end0
  refine⟨rfl,EM.of_below H0.o a6.o (H.o.put (HS.o _ HO.o) (by rw[<-a2.o];exact HV.o) (HF.o _ HO.o) (S1.QI H.o.wf _ _) (.inr ⟨rfl,rfl⟩) rfl rfl rfl H.o.En (λe => ?_) H.o.Fi H.o.find)⟩
  have:=H.o.K3 e
  exact⟨this.uniq,this.bad⟩
 ·have HE:Hid (∀W',S1.Dr d.lo d.hi W W'->S1.Fm (λk=>k=sb\/(d.lo<=k/\k<d.hi)) W W'):=Jy (λW' hO=>KO hO (λk a b=>.inr ⟨a,b⟩));have aB:Hid (sb<W.heap.size):=Jy (H.o.mu sb (.inl rfl)).2;clear z4 z5 z6 x0 HS HF HK HX;by_cases hl:d.m.Da=0
  ·rw[show(d.m.Da==0)=true by rw[hl];rfl]at HD;obtain⟨W2,aj⟩:=Jq (W.setCell ⟨sb,1,none⟩ (.pointer none));have ar:Dh W2 sb { s with f:=none }:=by rw[aj];exact H.o.side.Lu none
   have aw:S1.Dr sb (sb+1) W W2:=by rw[aj];exact Kz _ _ _ _
   have aD:S1.CP W2 d.lo d.hi cb d.L d.m:=by rw[a2.o];exact S1.Db.side H.o.E2 H.o.hi H.o.ap.1 aw
   have P:=Jy (S1.K0 W2 d.lo d.hi cb d.L d.m aD H.o.wf);have k1:W.cell? ⟨sb,1,none⟩=some (.pointer (s.f.map λb=>⟨b,0,none⟩)):=H.o.side.cell 1;have z1:W.frozen? ⟨sb,1,none⟩=false:=H.o.side.frozen 1;have k0:W2.cell? ⟨sb,0,none⟩=some (.pointer (some ⟨cb,0,none⟩)):=by rw[a2.o];exact ar.cell 0
   have aG:=Jy aj;have aI:=Jy ar;have ax:=Jy aw;clear aj ar aw aD;go_enter func58,ntmps58
   go_wp2_with (first | (rw[<-HW.o,<-Hg.o]) | fail);refine Jj HD.o ?_;go_wp2_with (first | (rw[<-aG.o]) | fail);refine P.o.mono ?_;rintro e W3 ⟨rfl,a9,a4⟩;have a7:=Jy a9;have a5:=Jy a4;clear a9 a4;go_wp2_with fail;go_end0
   have ao:Dh W3 sb { s with f:=none }:=aI.o.of_block (a5.o.block sb (AR aB.o ax.o.size) H.o.ap.1);refine⟨rfl,EM.of_below H0.o a6.o (H.o.put ao (by rw[a2.o]at a7;exact a7.o) (II (KO ax.o (λk a b=>.inl (by omega))) (KO a5.o (λk a b=>.inr ⟨a,b⟩))) (S1.LY H.o.wf) (.inl rfl) rfl rfl rfl H.o.En (λe => ?_) H.o.Fi H.o.find)⟩
   have:=H.o.K3 e
   exact⟨this.uniq,this.bad⟩
  rw[show(d.m.Da==0)=false by simpa using hl]at HD;have P:=Jy (S1.K0 W d.lo d.hi cb d.L d.m (by rw[a2.o];exact H.o.E2) H.o.wf);go_enter func58,ntmps58
  go_wp2_with (first | (rw[<-HW.o,<-Hg.o]) | fail);refine Jj HD.o ?_;go_wp2_with fail;refine P.o.mono ?_;rintro e W3 ⟨rfl,a9,a4⟩;have a7:=Jy a9;have a5:=Jy a4;clear a9 a4;go_wp2_with fail;go_end0
  have ao:Dh W3 sb s:=H.o.side.of_block (a5.o.block sb aB.o H.o.ap.1);refine⟨rfl,EM.of_below H0.o a6.o (H.o.put ao (by rw[a2.o]at a7;exact a7.o) (HE.o _ a5.o) (S1.LY H.o.wf) (.inr ⟨rfl,rfl⟩) rfl rfl rfl H.o.En (λe => ?_) H.o.Fi H.o.find)⟩
  have:=H.o.K3 e
  exact⟨this.uniq,this.bad⟩
 ·have A:=Jy (S1.Ms W.drew d.lo d.hi cb d.L d.m oa a1 hb1 hb2 ag.o);clear z4 HD;go_enter func58,ntmps58
  go_wp2_with (first | (rw[<-HW.o,<-Hg.o]) | fail);go_region_held3 (λV=>V.cell? ⟨sb,0,none⟩=some (.pointer (some ⟨cb,0,none⟩))/\V.cell? ⟨g,5,none⟩=some (.int .i64 oa)/\V.cell? ⟨g,6,none⟩=some (.int .i64 a1)) (go_keep) (first
   | (go_at_call 101;refine A.o.mono ?_;rintro e V5 ⟨rfl,a3,a0⟩;have f0:=HX.o V5 a0;have f1:=(HK.o V5 5 a0).trans z5;have f2:=(HK.o V5 6 a0).trans z6;have HV:=Jy a3;have HO:=Jy a0;clear a3 a0))
  rename_i hHeld;clear hHeld f0 f1 f2;go_wp2_with fail;go_end0
  refine⟨rfl,EM.of_below H0.o a6.o (H.o.put (HS.o _ HO.o) (by rw[<-a2.o];exact HV.o) (HF.o _ HO.o) (S1.OT H.o.wf _ _) (.inr ⟨rfl,rfl⟩) rfl rfl rfl H.o.En (λe => ?_) H.o.Fi H.o.find)⟩
  have:=H.o.K3 e
  exact⟨this.uniq,this.bad⟩
 have A:=Jy (S1.OJ W.drew d.lo d.hi cb d.L d.m oa a1 da H.o.wf (by omega) ag.o);obtain⟨X,hX⟩:=Jq (S1.D9 da);have ay:D9 da=X:=by rw[hX];rfl
 rw[<-hX]at A;rw[ay]at z4 HW ⊢;clear HD hX ay;go_enter func58,ntmps58
 go_wp2_with (first | (rw[<-HW.o,<-Hg.o]) | fail);go_region_held3 (λV=>V.cell? ⟨sb,0,none⟩=some (.pointer (some ⟨cb,0,none⟩))/\V.cell? ⟨g,5,none⟩=some (.int .i64 oa)/\V.cell? ⟨g,6,none⟩=some (.int .i64 a1)/\V.cell? ⟨g,4,none⟩=some (.string X)) (go_keep) (first
  | (go_at_call 17;refine A.o.mono ?_;rintro e V5 ⟨rfl,a3,a0⟩;have f0:=HX.o V5 a0;have f1:=(HK.o V5 5 a0).trans z5;have f2:=(HK.o V5 6 a0).trans z6;have f3:=(HK.o V5 4 a0).trans z4;have HV:=Jy a3;have HO:=Jy a0;clear a3 a0))
 rename_i hHeld;clear hHeld f0 f1 f2 f3 z4 z5 z6 c0 x0 y0 A;have ae:=HS.o V5 HO.o;obtain⟨U1,an⟩:=Jq (V5.setCell ⟨sb,1,none⟩ (.pointer none));have ac:Dh U1 sb { s with f:=none }:=by rw[an];exact ae.Lu none
 obtain⟨U2,af⟩:=Jq (U1.setCell ⟨sb,4,none⟩ (.bool true));have am:Dh U2 sb { s with f:=none,FF:=true }:=by rw[af];exact ac.Je true
 obtain⟨U3,ah⟩:=Jq (U2.setCell ⟨sb,5,none⟩ (.bool true));have ai:Dh U3 sb { s with f:=none,FF:=true,Fi:=true }:=by rw[ah];exact am.Pj true
 obtain⟨U4,ad⟩:=Jq (U3.setCell ⟨sb,6,none⟩ (.bool true));have aC:Dh U4 sb { s with f:=none,FF:=true,Fi:=true,free:=true }:=by rw[ad];exact ai.Km true
 have aE:S1.Dr sb (sb+1) V5 U4:=by
  rw[ad,ah,af,an];exact(((Kz _ _ _ _).trans (Kz _ _ _ _)).trans (Kz _ _ _ _)).trans (Kz _ _ _ _)
 have k1:V5.cell? ⟨sb,1,none⟩=some (.pointer (s.f.map λb=>⟨b,0,none⟩)):=ae.cell 1;have k4:U1.cell? ⟨sb,4,none⟩=some (.bool s.FF):=ac.cell 4;have k5:U2.cell? ⟨sb,5,none⟩=some (.bool s.Fi):=am.cell 5;have k6:U3.cell? ⟨sb,6,none⟩=some (.bool s.free):=ai.cell 6;have q1:V5.frozen? ⟨sb,1,none⟩=false:=ae.frozen 1;have q4:U1.frozen? ⟨sb,4,none⟩=false:=ac.frozen 4;have q5:U2.frozen? ⟨sb,5,none⟩=false:=am.frozen 5;have q6:U3.frozen? ⟨sb,6,none⟩=false:=ai.frozen 6;have aJ:=Jy an;have aM:=Jy af;have aH:=Jy ah;have aK:=Jy ad;have aL:=Jy aC;have aF:=Jy aE;clear ae ac am ai aC aE an af ah ad;go_wp2_with (first | (rw[<-aJ.o]) | (rw[<-aM.o]) | (rw[<-aH.o]) | (rw[<-aK.o]) | fail);go_end0
 refine⟨rfl,EM.of_below H0.o a6.o (H.o.put aL.o (S1.Db.side (by rw[<-a2.o];exact HV.o) (AF H.o.hi (HF.o _ HO.o).size) H.o.ap.1 aF.o) (II (HF.o _ HO.o) (KO aF.o (λk a b=>.inl (by omega)))) (S1.O1 H.o.wf _ _ _) (.inl rfl) rfl rfl rfl (by rw[iR];exact H.o.En) (λe => ?_) (λ_=>⟨rfl,rfl⟩) (λe => ?_))⟩
 ·cases e
 cases e
variable {u:Bs->Option Bs} {w:D7} {sb n fb:Nat} {R:Nat->Prop} {s:Sv} {d:Sd}
structure Ni (w:D7) (sb:Nat) (s:Sv) (d:Sd) (fb:Nat):Prop where
 c:w.cell? ⟨sb,0,none⟩=some (.pointer (some ⟨s.c,0,none⟩))
 f:w.cell? ⟨sb,1,none⟩=some (.pointer (some ⟨fb,0,none⟩))
 now:w.cell? ⟨sb,2,none⟩=some (.slice s.now.1 d.tl.length s.now.2.2)
 E2:S1.CP w d.lo d.hi s.c d.L d.m
 fs:∃cb lb tb,Ja w fb cb lb tb/\Dk w tb d.tl
 E9:Dz w s.now.1 (Eb d.tl)
theorem ED.Nb(h:ED u w sb R s d n)(hf:s.f=some fb):Ni w sb s d fb:=by
 obtain⟨ht,⟨a0,lb,tb,hF,hT,_,_⟩,a1,a3,a2⟩:=h.fs fb hf;refine⟨h.side.cell 0,?_,h.Oa hf,h.E2,⟨a0,lb,tb,hF,hT⟩,a3⟩
 have:=h.side.cell 1
 rw[this];unfold Sv.arr;rw[hf];rfl
theorem mg(h:ED u w sb R s d n)(hml:ML w)(hf:s.f=some fb)(o:Gi)(hk:o.kind=8)(hp:o.path.length<=1048576) :
 Calls prog 60 #[.pointer (some ⟨sb,0,none⟩),Lz o] w λe w'=>e=.returned (.bool true)/\Below w.heap.size w w':=by
 obtain⟨kd,⟨t1,t2,t3⟩,pa,tp,da,oa,a5,ot⟩:=o;dsimp only at hk hp;subst hk;obtain⟨W,hW⟩:=Jq (w.alloc (.cells (Gi.arr ⟨8,(t1,t2,t3),pa,tp,da,oa,a5,ot⟩) 65));have a3:Below w.heap.size w W:=by rw[hW];exact(AM _ w).alloc (AB _) _
 obtain⟨g,hg⟩:=Jq w.heap.size;have aa:∀k,W.cell? ⟨g,k,none⟩=(Gi.arr ⟨8,(t1,t2,t3),pa,tp,da,oa,a5,ot⟩)[k]? := λk=>by rw[hW,hg];exact QU w _ k
 have y0:W.cell? ⟨g,0,none⟩=some (.int .i64 8):=aa 0;obtain⟨P,hP⟩:=Jq (D9 pa);have y2:W.cell? ⟨g,2,none⟩=some (.string P):=by rw[hP];exact aa 2
 have ae:g<W.heap.size:=Aj _ _ y0;have HG:Hid (∀V,Below W.heap.size W V->V.cell? ⟨g,2,none⟩=some (.string P)):=Jy (λV hV=>(hV.cell ae).trans y2);have HV:Hid (∀V,Below W.heap.size W V->Ni V sb s d fb):=Jy (λV hV=>(h.below (a3.trans (hV.mono (by have:=a3.size;omega)))).Nb hf);have HM:Hid (∀V,Below W.heap.size W V->ML V):=Jy (λV hV=>(hml.below a3 hml.lt).below hV (by have:=a3.size;have:=hml.lt;omega));have ht:=(h.fs fb hf).1;have a4:=AM W.heap.size W;have s0:=HV.o W a4;have c0:=s0.c;have D0:=Jy (S1.EW W d.lo d.hi s.c d.L d.m s0.E2);have sd:=HV.o W.drew a4.drew;have av:=sd.f;have au:=HG.o W.drew a4.drew;obtain⟨an,lb,tb,hF,hT⟩:=sd.fs;have F:=Jy (sF W.drew fb an lb tb d.tl pa hF hT (HM.o _ a4.drew) hp);obtain⟨hE,hD⟩:=sS ht pa;rw[<-hE,<-hD]at F
 have RR:=Jy (λV (hV:Below W.heap.size W V)=>iG s.now.1 s.now.2.2 (Eb d.tl) pa V (HV.o V hV).E9 (by rw[KC];have:=ht.len;omega) hp);rw[KC]at RR;obtain⟨E,ah⟩:=Jq (GQ (Eb d.tl) pa);obtain⟨D,am⟩:=Jq (D9 (JH (Eb d.tl) pa));rw[<-ah,<-am,<-hP]at F RR;have HW:Hid (W=w.alloc (.cells #[.int .i64 8,.slice t1 t2 t3,.string P,.string (D9 tp),.string (D9 da),.int .i64 oa,.int .i64 a5,.bool ot] 65)):=Jy (by rw[hP];exact hW);have Hg:=Jy hg;have af:=Jy a3;unfold Lz Gi.arr;dsimp only;rw[<-hP];obtain⟨dd,a6⟩:=Jq ((d.m.Da==0));rw[<-a6]at D0;have ar:Hid (∀V,Below W.heap.size W V->Calls prog 25 #[.pointer (some ⟨s.c,0,none⟩)] V λe w'=>e=.returned (.bool dd)/\w'=V):=Jy (λV hV=>by rw[a6];exact S1.EW V d.lo d.hi s.c d.L d.m (HV.o V hV).E2)
 obtain⟨p1,a9⟩:=Jq s.now.1;obtain⟨p3,ac⟩:=Jq s.now.2.2;obtain⟨N,hN⟩:=Jq d.tl.length;rw[<-a9,<-ac,<-hN]at RR;have ad:Hid (∀V,Below W.heap.size W V->V.cell? ⟨sb,2,none⟩=some (.slice p1 N p3)):=Jy (λV hV=>by rw[a9,ac,hN];exact(HV.o V hV).now);clear h hml hW a3 aa hg ae ht s0 sd hF hT hE hD ah am hP a6 a9 ac hN y2 hf;go_enter func60,ntmps60
 go_wp2_with (first | (rw[<-HW.o,<-Hg.o]) | fail);refine Jj D0.o ?_;go_wp2_with fail;go_region_held3 (λV=>V.cell? ⟨sb,1,none⟩=some (.pointer (some ⟨fb,0,none⟩))/\V.cell? ⟨g,2,none⟩=some (.string P)) (go_keep) (first
  | (go_at_call 14;refine F.o.mono ?_;rintro e V1 ⟨ai,rfl⟩;have a0:=a4.drew.trans ai;have f0:=(HV.o V1 a0).f;have f1:=HG.o V1 a0;have ao:=Jy a0;clear ai a0))
 rename_i hHeld;clear hHeld f0 f1 av au c0 y0 F D0;have a2:=ao.o.drew;have e2:=ad.o _ a2;have e3:=HG.o _ a2;have ag:=Jy (RR.o _ a2);clear RR;go_wp2_with fail;go_region_held3 (λV=>V.cell? ⟨sb,2,none⟩=some (.slice p1 N p3)/\V.cell? ⟨g,2,none⟩=some (.string P)) (go_keep) (first
  | (go_at_call 104;refine ag.o.mono ?_;rintro e V2 ⟨rfl,aj⟩;have a1:=a2.trans (aj.mono a2.size);have f0:=ad.o V2 a1;have f1:=HG.o V2 a1;have a7:=Jy a1;clear aj a1))
 rename_i hHeld;clear hHeld f0 f1 e2 e3 ag a2;have c2:=(HV.o _ a7.o).c;have D2:=Jy (ar.o _ a7.o);go_wp2_with fail;refine Jj D2.o ?_;cases dd
 all_goals
  go_wp2_with fail;go_ret
  exact⟨rfl,af.o.trans (a7.o.mono af.o.size)⟩
variable {w w':D7} {B n sb fb:Nat} {e:Ending} {l:List It} {p:Bs} {u:Bs->Option Bs} {R:Nat->Prop} {s:Sv} {d:Sd}
theorem i7{x:It}(h:EL x=true):Du x.path=true:=by
 unfold EL at h;simp only[Af]at h;exact h.1.1.1.1.1.1
def Nk(l:List It)(p:Bs):List Bs:=if GB l p=0 then GJ l p else[]
def Vp(l:List It)(p:Bs)(w:D7)(e:Ending)(w':D7):Prop:=
 Below w.heap.size w w'/\∃a c,e=.returned (.tuple #[.slice a (Nk l p).length c,.int .i64 (GB l p)])/\w'.ownsRow w.heap.size 9 1 (.slice a (Nk l p).length c) (Nk l p).length (J8 (Nk l p))
theorem rN{e:TypeId}{size:Nat}{v:Value}{xs:List Value}(h:w.ownsRow B e size v n xs):∃a c,v=.slice a n c:=by
 rcases h.2 with⟨rfl,rfl⟩ | ⟨g,cap,cur,rfl,_⟩
 ·exact⟨_,_,rfl⟩
 exact⟨_,_,rfl⟩
theorem Ij.ls(h:Ij l p w e w'):Vp l p w e w':=by
 obtain⟨hb,⟨h0,rfl⟩ | ⟨h0,v,rfl,ho⟩⟩:=h
 ·refine⟨hb,none,0,?_,?_⟩
  ·rw[show Nk l p=[]from AC h0];rfl
  rw[show Nk l p=[]from AC h0];exact⟨rfl,.inl ⟨rfl,rfl⟩⟩
 have e1:Nk l p=GJ l p:=AE h0;obtain⟨a,c,rfl⟩:=rN ho;refine⟨hb,a,c,?_,?_⟩
 ·rw[e1,h0]
 rw[e1];exact ho
theorem QV.ls(ht:Ev l)(h:QV (Eb l) p w e w'):Vp l p w e w':=by
 obtain⟨q1,q2⟩:=ZB ht p;unfold QV at h;rw[q1,q2]at h;exact Ij.ls (h:Ij l p w e w')
theorem ij(ht:Ev l)(p:Bs):(Nk l p).length<=60:=by
 unfold Nk
 split
 ·rw[<-(ZB ht p).2];unfold E1;rw[Bn];refine AF (DO _ _) ?_;rw[KC];exact ht.len
 exact AU _
theorem YM{a:Option Addr}{c:Nat}{l:List Bs}(h:w.ownsRow B 9 1 (.slice a n c) n (J8 l)):S1.Kf w a n (λk=>D9 (l[k]?.getD [])):=by
 intro h0;obtain⟨hl,⟨e,rfl⟩ | ⟨g,a2,a1,e,hb,hh,h1,h2,h3,h4⟩⟩:=h
 ·omega
 cases e
 refine⟨g,0,rfl,λk hk => ?_⟩;rw[AG w g _ a1 9 (0,0) hh,Ao];have a0:l.length=n:=by have:=hl;rw[J8,Bn]at this;omega
 have hx:(J8 l)[k]? = some (.string (D9 (l[k]?.getD []))):=by
  rw[J8,BQ,AD (by omega)];rfl
 rw[<-h4,Ak (by omega)]at hx;simpa using hx
theorem kf(h:ED u w sb R s d n)(hml:ML w)(hn:n<=100000000)(hf:s.f=some fb)(o:Gi)(hk:o.kind=9)(hp:o.path.length<=1048576) :
 Calls prog 60 #[.pointer (some ⟨sb,0,none⟩),Lz o] w λe w'=>e=.returned (.bool true)/\EM u w sb R s d (n+1) w':=by
 obtain⟨kd,⟨t1,t2,t3⟩,pa,tp,da,oa,ad,ot⟩:=o;dsimp only at hk hp;subst hk;obtain⟨W,hW⟩:=Jq (w.alloc (.cells (Gi.arr ⟨9,(t1,t2,t3),pa,tp,da,oa,ad,ot⟩) 65));have a9:Below w.heap.size w W:=by rw[hW];exact(AM _ w).alloc (AB _) _
 obtain⟨g,hg⟩:=Jq w.heap.size;have ah:∀k,W.cell? ⟨g,k,none⟩=(Gi.arr ⟨9,(t1,t2,t3),pa,tp,da,oa,ad,ot⟩)[k]? := λk=>by rw[hW,hg];exact QU w _ k
 have y0:W.cell? ⟨g,0,none⟩=some (.int .i64 9):=ah 0;obtain⟨P,hP⟩:=Jq (D9 pa);have y2:W.cell? ⟨g,2,none⟩=some (.string P):=by rw[hP];exact ah 2
 have aw:g<W.heap.size:=Aj _ _ y0;have HG:Hid (∀V,Below W.heap.size W V->V.cell? ⟨g,2,none⟩=some (.string P)):=Jy (λV hV=>(hV.cell aw).trans y2);have HS:Hid (∀V,Below W.heap.size W V->ED u V sb R s d n):=Jy (λV hV=>h.below (a9.trans (hV.mono (by have:=a9.size;omega))));have HV:Hid (∀V,Below W.heap.size W V->Ni V sb s d fb):=Jy (λV hV=>(HS.o V hV).Nb hf);have HM:Hid (∀V,Below W.heap.size W V->ML V):=Jy (λV hV=>(hml.below a9 hml.lt).below hV (by have:=a9.size;have:=hml.lt;omega));have ht:=(h.fs fb hf).1;have Ht:=Jy ht;have H0:=Jy h;have aa:=AM W.heap.size W;have s0:=HV.o W aa;have c0:=s0.c;have D0:=Jy (S1.EW W d.lo d.hi s.c d.L d.m s0.E2);have sd:=HV.o W.drew aa.drew;have aE:=sd.f;have aD:=HG.o W.drew aa.drew;obtain⟨aA,lb,tb,hF,hT⟩:=sd.fs
 have F:=Jy ((pA W.drew fb aA lb tb d.tl pa hF hT ht (HM.o _ aa.drew) hp).mono (λe w' hh=>hh.ls));have RR:=Jy (λV (hV:Below W.heap.size W V)=>(ri s.now.1 s.now.2.2 (Eb d.tl) pa V (HV.o V hV).E9 (by rw[KC];have:=ht.len;omega) hp (λx hx=>⟨i7 (ht.ok x (ET.1 hx)),by have:=(Nw (ht.ok x (ET.1 hx))).p;omega⟩)).mono (λe w' hh=>QV.ls ht hh));rw[KC]at RR;have av:=ij ht pa;unfold Vp at F RR;obtain⟨E,ay⟩:=Jq (GB d.tl pa);obtain⟨ls,am⟩:=Jq (Nk d.tl pa);rw[<-ay,<-am,<-hP]at F RR;rw[<-am]at av;obtain⟨K,hK⟩:=Jq ls.length;rw[<-hK]at F RR av;have HW:Hid (W=w.alloc (.cells #[.int .i64 9,.slice t1 t2 t3,.string P,.string (D9 tp),.string (D9 da),.int .i64 oa,.int .i64 ad,.bool ot] 65)):=Jy (by rw[hP];exact hW);have Hg:=Jy hg;have ac:=Jy a9
 unfold Lz Gi.arr;dsimp only;rw[<-hP];obtain⟨dd,ae⟩:=Jq ((d.m.Da==0));rw[<-ae]at D0;have aC:Hid (∀V,Below W.heap.size W V->Calls prog 25 #[.pointer (some ⟨s.c,0,none⟩)] V λe w'=>e=.returned (.bool dd)/\w'=V):=Jy (λV hV=>by rw[ae];exact S1.EW V d.lo d.hi s.c d.L d.m (HV.o V hV).E2);obtain⟨p1,ag⟩:=Jq s.now.1;obtain⟨p3,a6⟩:=Jq s.now.2.2;obtain⟨N,hN⟩:=Jq d.tl.length;rw[<-ag,<-a6,<-hN]at RR;have au:Hid (∀V,Below W.heap.size W V->V.cell? ⟨sb,2,none⟩=some (.slice p1 N p3)):=Jy (λV hV=>by rw[ag,a6,hN];exact(HV.o V hV).now);clear h hml hW a9 ah hg aw ht s0 sd hF hT ay am hP ae ag a6 hN y2 hf hK;go_enter func60,ntmps60
 go_wp2_with (first | (rw[<-HW.o,<-Hg.o]) | fail);refine Jj D0.o ?_;go_wp2_with fail;go_region_held3 (λV=>V.cell? ⟨sb,1,none⟩=some (.pointer (some ⟨fb,0,none⟩))/\V.cell? ⟨g,2,none⟩=some (.string P)) (go_keep) (first
  | (go_at_call 15;refine F.o.mono ?_;rintro e V1 ⟨az,a1,k1,rfl,a5⟩;have a0:=aa.drew.trans az;have f0:=(HV.o V1 a0).f;have f1:=HG.o V1 a0;have aB:=Jy a0;have aj:=Jy a5;clear az a0 a5))
 rename_i hHeld;clear hHeld f0 f1 aE aD c0 y0 F D0;have a7:=aB.o.drew;have e2:=au.o _ a7;have e3:=HG.o _ a7;have ax:=Jy (RR.o _ a7);clear RR;go_wp2_with fail;go_region_held3 (λV=>V.cell? ⟨sb,2,none⟩=some (.slice p1 N p3)/\V.cell? ⟨g,2,none⟩=some (.string P)) (go_keep) (first
  | (go_at_call 105;refine ax.o.mono ?_;rintro e V2 ⟨ai,a2,k2,rfl,a4⟩;have a3:=a7.trans (ai.mono a7.size);have f0:=au.o V2 a3;have f1:=HG.o V2 a3;have a8:=Jy a3;have ao:=Jy a4;have ar:=Jy ai;clear ai a3 a4))
 rename_i hHeld;clear hHeld f0 f1 e2 e3 ax a7;have c2:=(HV.o _ a8.o).c;have D2:=Jy (aC.o _ a8.o);have an:Hid (V2.ownsRow w.heap.size 9 1 (.slice a1 K k1) K (J8 ls)):=Jy (NV (M3 aj.o (by have:=ac.o.size;exact this)) (λq hq=>ar.o.block q (aj.o.lt q hq).2));have S:=Jy (S1.GD a1 a2 K k1 k2 _ V2 (by omega) (YM an.o) (YM ao.o));have KT:=Jy (λq=>nZ (V2.drewN q) sb s d.ts d.k a1 K k1 w.heap.size (J8 ls) (HS.o _ (QA a8.o q)).side (HS.o _ (QA a8.o q)).tx.1 H0.o.tk.1 (by have:=H0.o.tk.2;omega) (NV an.o (λ_ _=>rfl)) (by omega) (AF ac.o.size a8.o.size) (H0.o.mu sb (.inl rfl)).2 (λk hk=>(H0.o.mu k (.inr (.inr (.inr hk)))).2));clear aj ao ar;go_wp2_with fail;refine Jj D2.o ?_;clear D2
 go_wp2_with fail;refine S.o.mono ?_;rintro e w2 ⟨rfl,q,rfl⟩;clear S;go_wp2_with fail;refine(KT.o q).mono ?_;rintro e w3 a6;have he:=a6.1;subst he;have HP:=Jy (H0.o.M2 (ac.o.trans ((QA a8.o q).mono ac.o.size)) a6);clear a6 KT c2;cases dd
 all_goals
  go_wp2_with fail;go_ret
  exact⟨rfl,HP.o⟩
theorem rB(h:ED u w sb R s d n)(hml:ML w)(hn:n<=100000000)(hf:s.f=some fb)(o:Gi)(hk8:o.kind≠8)(hk9:o.kind≠9) :
 Calls prog 60 #[.pointer (some ⟨sb,0,none⟩),Lz o] w λe w'=>e=.returned (.bool true)/\EM u w sb R s d (n+1) w':=by
 obtain⟨kd,⟨t1,t2,t3⟩,pa,tp,da,oa,a1,ot⟩:=o;dsimp only at hk8 hk9;obtain⟨W,hW⟩:=Jq (w.alloc (.cells (Gi.arr ⟨kd,(t1,t2,t3),pa,tp,da,oa,a1,ot⟩) 65));have a0:Below w.heap.size w W:=by rw[hW];exact(AM _ w).alloc (AB _) _
 obtain⟨g,hg⟩:=Jq w.heap.size;have a2:∀k,W.cell? ⟨g,k,none⟩=(Gi.arr ⟨kd,(t1,t2,t3),pa,tp,da,oa,a1,ot⟩)[k]? := λk=>by rw[hW,hg];exact QU w _ k
 have y0:W.cell? ⟨g,0,none⟩=some (.int .i64 kd):=a2 0;have hI:=h.below a0;have c0:=(hI.Nb hf).c;have D0:=Jy (S1.EW W d.lo d.hi s.c d.L d.m hI.E2);have T:=Jy (qH hI (hml.below a0 hml.lt) hn hf);have HW:Hid (W=w.alloc (.cells #[.int .i64 kd,.slice t1 t2 t3,.string (D9 pa),.string (D9 tp),.string (D9 da),.int .i64 oa,.int .i64 a1,.bool ot] 65)):=Jy hW;have Hg:=Jy hg;have a3:=Jy a0;have H0:=Jy h;unfold Lz Gi.arr;dsimp only;clear h hI hml hW a0 a2 hg;go_enter func60,ntmps60
 go_wp2_with (first | (rw[<-HW.o,<-Hg.o]) | fail);refine Jj D0.o ?_;clear D0;go_wp2_with fail;refine T.o.mono ?_;rintro e w2 ⟨rfl,hS⟩;have HS:=Jy hS;clear hS T;go_wp2_with fail;go_ret
 exact⟨rfl,EM.of_below H0.o a3.o HS.o⟩
theorem lW(h:ED u w sb R s d n)(hml:ML w)(hn:n<=100000000)(hf:s.f=some fb)(o:Gi)(hp:o.path.length<=1048576) :
 Calls prog 60 #[.pointer (some ⟨sb,0,none⟩),Lz o] w λe w'=>e=.returned (.bool true)/\EM u w sb R s d (n+1) w':=by
 by_cases h8:o.kind=8
 ·exact(mg h hml hf o h8 hp).mono (λe w' hh=>⟨hh.1,EM.of_below h hh.2 (EM.refl ((h.below hh.2).later (Cp n)))⟩)
 by_cases h9:o.kind=9
 ·exact kf h hml hn hf o h9 hp
 exact rB h hml hn hf o h8 h9
variable {m:S1.M} {u:Bs->Option Bs} {l:List It} {t:Bs}
theorem XH(hw:S1.WF m)(t:D8):S1.WF (S1.EU m t).2/\(S1.EU m t).2.nb=m.nb/\(∀i,m.bd i=true->(S1.EU m t).2.bd i=true)/\((S1.EU m t).1=0\/(S1.EU m t).1=9\/(S1.EU m t).1=10)/\((S1.EU m t).1=0->m.Da≠0):=by
 have a1:∀(m:S1.M) n,S1.Ee m n=0\/S1.Ee m n=9\/S1.Ee m n=10:=λm n=>by
  unfold S1.Ee
  split
  ·exact .inr (.inr rfl)
  split
  ·exact .inr (.inl rfl)
  exact .inl rfl
 unfold S1.EU;by_cases h1:S1.Ee m t.length=0
 ·rw[AC (by simp[h1])];have a2:=S1.IA h1;have hE:=S1.Ju hw m.nb (AB _);obtain⟨me,a3⟩:=Jq ((S1.Ds m m.nb).1);obtain⟨Q,hQ⟩:=Jq ((S1.Ds m m.nb).2);rw[<-a3,<-hQ]at hE ⊢;by_cases h2:S1.Ee me t.length=0
  ·rw[AC (by simp[h2])];obtain⟨s,hs⟩:=Jq (S1.Ib me Q t);have a0:(∀i,me.bd i=true->s.m.bd i=true)/\S1.WF s.m/\s.m.nb=me.nb:=by
    rw[hs];unfold S1.Ib S1.KR;exact S1.K7 (λ_=>false) ⟨EE (S1.Dt me) (S1.KP me ⟨0,0,none⟩ (FJ (EB (S1.Fs me) me.np me.nb))) t,me,Q,me.nb - 1,me.np,λ_=>false⟩ hE.wf
   rw[<-hs];refine⟨a0.2.1,a0.2.2.trans hE.nb,λi hi=>a0.1 i (hE.mono i hi),?_,λ_=>a2⟩;dsimp only
   split
   ·exact .inl rfl
   split
   ·exact .inr (.inr rfl)
   exact .inr (.inl rfl)
  rw[AE h2];exact⟨hE.wf,hE.nb,hE.mono,a1 _ _,λ_=>a2⟩
 rw[AE h1];exact⟨hw,rfl,λi h=>h,a1 _ _,λh=>absurd h h1⟩
theorem lE(hT:GP u (Eb l) t)(hw:S1.WF m)(hr:Gu (Eb l) (S1.Eg m) m.np=true):De t.length<=S1.Ec m:=by
 have h1:=VW hT;unfold Gu at hr;simp only[Af,BJ]at hr;obtain⟨h2,h3⟩:=hr;have h4:=hw.Md;unfold S1.Ec De;obtain⟨g,hg⟩:=Jq (S1.Eg m);obtain⟨p,hp⟩:=Jq m.np;rw[<-hg,<-hp]at h3 ⊢;rw[<-hg]at h2;rw[<-hp]at h4;obtain⟨k,hk⟩:=Jq (g/2);rw[<-hk];have h5:g<=2*k+1:=by omega
 have h6:2<=k:=by omega
 have h7:g*p<=(2*k+1)*p:=Ba _ h5;have h8:(2*k+1)*p=2*(k*p)+p:=by rw[Cg,DS,CY]
 have h9:2*p<=k*p:=Ba _ h6;have a0:g*p*4<=(2*(k*p)+p)*4:=Ba _ (by omega);omega
theorem jI{s:Sv}(hT:GP u (Eb l) t)(hw:S1.WF m)(hb:s.En<=S1.Dt m)(hok:s.Fi=false->S1.Lj m)(hsc:s.Fi=true->s.free=true)(h0:(S1.EU m t).1≠0):Ko s (S1.EU m t).2 (Eb l) (S1.EU m t).1=true:=by
 obtain⟨a1,a2,a3,a4,a5⟩:=XH hw t;have ha:(S1.EU m t).1=9\/(S1.EU m t).1=10:=a4.resolve_left h0;cases hscr:s.Fi with
 | true =>
   have hf:Ka s (S1.EU m t).2=true:=by unfold Ka;rw[hsc hscr];rfl
   unfold Ko;rw[hf];rcases ha with e | e<;>rw[e]<;>simp
 | false =>
   obtain⟨b1,b2,b3,b4,b5,b6⟩:=(hok hscr).renew hw (U9 hT);rcases b6 with⟨e,_⟩ | ⟨e,hr⟩ | ⟨e,hl⟩
   ·exact absurd e h0
   ·rw[e];unfold Ko;cases hfr:Ka s (S1.EU m t).2 with
    | true=>simp
    | false =>
      cases hroom:Gu (Eb l) (S1.Eg (S1.EU m t).2) (S1.EU m t).2.np with
      | false=>simp
      | true =>
        exfalso
        unfold Ka at hfr;simp only[Bool.or_eq_false_iff,decide_eq_false_iff_not]at hfr;have a6:=S1.IF b2 b4;have a0:S1.Dt (S1.EU m t).2=S1.Dt m:=by omega
        rcases hr with hr | hr
        ·have hg:S1.Eg (S1.EU m t).2=S1.Eg m:=by unfold S1.Eg;rw[a0,b2]
         rw[hg,b3]at hroom
         have:=lE hT hw hroom
         omega
        have:=S1.GH.Dt hr b4 b2
        omega
   rw[e];unfold Ko;rw[hl];simp
def Rn(R:Nat->Prop)(w w':D7)(d:Sd)(Ex:Nat->Prop)(k:Nat):Prop:=R k\/(w.heap.size<=k/\k<w'.heap.size/\¬(d.lo<=k/\k<d.hi)/\¬Ex k)
theorem ED.make{u:Bs->Option Bs}{w w':D7}{sb:Nat}{R:Nat->Prop}{s s':Sv}{d d':Sd}{n n':Nat}(Ex:Nat->Prop)(h:ED u w sb R s d n)(el:s'.lists=s.lists)(et:s'.texts=s.texts)(des:d'.es=d.es)(dts:d'.ts=d.ts)(dj:d'.j=d.j)(dk:d'.k=d.k)
 (hs:Dh w' sb s') (hC:S1.CP w' d'.lo d'.hi s'.c d'.L d'.m) (wf:S1.WF d'.m) (hhi:d'.hi<=w'.heap.size) (hlo:0<d'.lo) (hch:(d'.lo=d.lo/\d'.hi=d.hi)\/w.heap.size<=d'.lo) (hF:S1.Fm (λk=>k=sb\/(d.lo<=k/\k<d.hi)) w w')
 (hfs:∀fb,s'.f=some fb->Ev d'.tl/\(∃cb lb tb,Ja w' fb cb lb tb/\Dk w' tb d'.tl/\Rn R w w' d' Ex fb/\Rn R w w' d' Ex tb)/\s'.now.2.1=d'.tl.length/\Dz w' s'.now.1 (Eb d'.tl)/\PD (Rn R w w' d' Ex) s'.now.1 d'.tl.length)
 (hmay:JJ w' s'.may d'.ms) (hmR:(∀k,ob s'.may=some k->Rn R w w' d' Ex k)/\∀y∈d'.ms,PD (Rn R w w' d' Ex) y.1.1 y.2.length) (hmn:d'.ms.length<=n'+1) (hn:n<=n')
 (hb:s'.En<=S1.Dt d'.m) (hok:s'.Fi=false->S1.Lj d'.m) (hsc:s'.Fi=true->s'.free=true/\s'.FF=true) (hfi:s'.FF=false->∃y∈d'.ms,Finds u d'.m y.2) :
 ED u w' sb (Rn R w w' d' Ex) s' d' n'/\(∀k,R k->Rn R w w' d' Ex k)/\(∀k,Rn R w w' d' Ex k->R k\/(w.heap.size<=k/\k<w'.heap.size))/\(∀k,Mu sb s' d' k->Mu sb s d k\/w.heap.size<=k)/\S1.Fm (Mu sb s d) w w':=by
 have hz:=hF.size;have same:∀k,k<w.heap.size->k≠sb->¬(d.lo<=k/\k<d.hi)->w'.heap[k]? = w.heap[k]? := λk h1 h2 h3=>hF.block k h1 (λe=>e.elim h2 h3)
 have a6:∀k,R k->w'.heap[k]? = w.heap[k]? := λk hk=>same k (h.rl k hk) (λe=>(h.mu k (.inl e)).1 hk) (λe=>(h.mu k (.inr (.inl e))).1 hk)
 have a7:sb<w.heap.size:=(h.mu sb (.inl rfl)).2;have a8:=h.hi;have a4:∀k,k<w.heap.size->¬(d.lo<=k/\k<d.hi)->¬(d'.lo<=k/\k<d'.hi):=λk h1 h2 h3=>by
  rcases hch with⟨e1,e2⟩ | e
  ·rw[e1,e2]at h3;exact h2 h3
  omega
 have a5:∀k,Mu sb s' d' k->Mu sb s d k\/(w.heap.size<=k/\d'.lo<=k/\k<d'.hi):=λk hk=>by
  rcases hk with hk | hk | hk | hk
  ·exact .inl (.inl hk)
  ·rcases hch with⟨e1,e2⟩ | e
   ·rw[e1,e2]at hk;exact .inl (.inr (.inl hk))
   exact .inr ⟨by omega,hk⟩
  ·rw[el]at hk;exact .inl (.inr (.inr (.inl hk)))
  rw[et]at hk;exact .inl (.inr (.inr (.inr hk)))
 refine⟨⟨hs,hC,wf,hhi,hlo,hfs,hmay,hmR,?_,?_,?_,?_,hmn,?_,?_,hb,hok,hsc,hfi,?_⟩,λk hk=>.inl hk,λk hk=>hk.imp id (λe=>⟨e.1,e.2.1⟩),λk hk=>(a5 k hk).imp id (λe=>e.1),?_⟩
 ·rw[el,des];refine(h.li.keep (λk hk => ?_)).grow (λk hk=>.inl hk);rcases hk with hk | hk
  ·have a3:=(h.mu k (.inr (.inr (.inl hk)))).2;obtain⟨c1,a0⟩:=LD h.li.1 hk;exact same k a3 (λe=>by
    subst e;exact Kb a0 h.side (by decide) rfl) (h.ap.2.1 k hk)
  exact a6 k hk
 ·rw[et,dts];refine(h.tx.keep (λk hk => ?_)).grow (λk hk=>.inl hk);rcases hk with hk | hk
  ·have a3:=(h.mu k (.inr (.inr (.inr hk)))).2;obtain⟨c1,a0⟩:=LD h.tx.1 hk;exact same k a3 (λe=>by
    subst e;exact Kb a0 h.side (by decide) rfl) (h.ap.2.2 k hk)
  exact a6 k hk
 ·rw[des,dj];exact⟨h.lj.1,AF h.lj.2 hn⟩
 ·rw[dts,dk];exact⟨h.tk.1,AF h.tk.2 hn⟩
 ·intro k hk;rcases a5 k hk with hm | ⟨e1,e2⟩
  ·obtain⟨a1,a2⟩:=h.mu k hm;refine⟨λhr => ?_,by omega⟩;rcases hr with hr | hr
   ·exact a1 hr
   omega
  refine⟨λhr => ?_,by omega⟩;rcases hr with hr | hr
  ·have:=h.rl k hr;omega
  exact hr.2.2.1 e2
 ·refine⟨a4 sb a7 h.ap.1,λk hk => ?_,λk hk => ?_⟩
  ·rw[el]at hk;exact a4 k (h.mu k (.inr (.inr (.inl hk)))).2 (h.ap.2.1 k hk)
  rw[et]at hk;exact a4 k (h.mu k (.inr (.inr (.inr hk)))).2 (h.ap.2.2 k hk)
 ·intro k hk;rcases hk with hk | hk
  ·have:=h.rl k hk;omega
  exact hk.2.1
 exact⟨hF.os,hF.tape,hF.output,hF.size,λk hk hn=>hF.block k hk (λe=>hn (e.elim .inl (λe=>.inr (.inl e))))⟩
theorem XK{w:D7}{g:Nat}{x:Sl}{l:List It}(h:w.heap[g]? = some (.cells #[.slice x.1 x.2.1 x.2.2] 26 (0,0)))(h1:x.2.1=l.length)(h2:l.length<=1000)(h3:Dz w x.1 l):JJ w (some ⟨g,0,none⟩,1,1) [(x,l)]:=by
 refine⟨⟨rfl,.inr ⟨g,1,_,rfl,AU _,h,AB _,by decide,rfl,rfl⟩⟩,λy hy => ?_⟩;simp at hy;subst hy;exact⟨h1,h2,h3⟩
variable {u:Bs->Option Bs} {w:D7} {sb n:Nat} {R:Nat->Prop} {s:Sv} {d:Sd}
theorem EM.later{w':D7}{n':Nat}(h:EM u w sb R s d n w')(hn:n<=n'):EM u w sb R s d n' w':=by
 obtain⟨s',d',R',a1,a2,a3,a4,a5⟩:=h;exact⟨s',d',R',a1.later hn,a2,a3,a4,a5⟩
theorem iq(hP:Fj u)(h:ED u w sb R s d n)(hml:ML w)(o:Gi)(l:List It)(hol:o.tree.2.1=l.length)(hnil:o.tree.1=none->o.tree=(none,0,0))(hin:Dz w o.tree.1 l)(hinR:PD R o.tree.1 l.length)(hn:l.length<=1048576)(hp:∀x∈l,x.path.length<=1048576)(hd:∀x∈l,x.data.length<=1048576) :
 Calls prog 56 #[.pointer (some ⟨sb,0,none⟩),Lz o] w λe w'=>e=.returned (.bool true)/\EM u w sb R s d (n+1) w':=by
 obtain⟨kd,⟨t1,t2,t3⟩,pa,tp,da,oa,aO,ot⟩:=o;dsimp only at hol hnil hin hinR;subst hol;obtain⟨W,hW⟩:=Jq (w.alloc (.cells (Gi.arr ⟨kd,(t1,l.length,t3),pa,tp,da,oa,aO,ot⟩) 65));have au:=KD hW;obtain⟨g,hg⟩:=Jq w.heap.size;have bg:∀k,W.cell? ⟨g,k,none⟩=(Gi.arr ⟨kd,(t1,l.length,t3),pa,tp,da,oa,aO,ot⟩)[k]? := λk=>by rw[hW,hg];exact QU w _ k
 obtain⟨N,hN⟩:=Jq l.length;have y1:W.cell? ⟨g,1,none⟩=some (.slice t1 N t3):=by rw[hN];exact bg 1
 have bi:g<W.heap.size:=Aj _ _ y1;have ac:Dz W t1 l:=hin.below au;have hI:=h.below au;have an:=hml.below au hml.lt;have HW:Hid (W=w.alloc (.cells #[.int .i64 kd,.slice t1 N t3,.string (D9 pa),.string (D9 tp),.string (D9 da),.int .i64 oa,.int .i64 aO,.bool ot] 65)):=Jy (by rw[hN];exact hW);have Hg:=Jy hg;have aW:=Jy au;have H0:=Jy h;have HI:=Jy hI;have HN:=Jy hN;have a6:=Jy ac;have aP:=Jy hinR;have a7:=Jy an;have Hp:=Jy hp;have Hd:=Jy hd;have LE:=Jy (ma t1 t3 l W ac hn);unfold Lz Gi.arr;dsimp only;rw[<-hN]at LE hn hinR ⊢;obtain⟨G,hG⟩:=Jq W.heap.size;rw[<-hG]at LE;have HG:=Jy hG;have bc:g<G:=by rw[hG];exact bi
 have bu:(N:Int)<=((N+2:Nat):Int):=by omega
 have bN:(0:Int)<=(N:Int):=by omega
 have bz:(t1=none/\N=0/\t3=0)\/∃ta,t1=some ta:=by
  cases t1 with
  | none=>left;have:=hnil rfl;rw[hN];simp at this;exact⟨rfl,by rw[this.1];rfl,this.2⟩
  | some ta=>exact .inr ⟨ta,rfl⟩
 clear h hI hml an hW au bg hg bi ac hN hG hin hinR hnil hp hd;rcases bz with⟨rfl,rfl,rfl⟩ | ⟨ta,rfl⟩
 case' inl =>
  go_enter func56,ntmps56
  go_wp2_with (first | (rw[<-HW.o,<-Hg.o]) | fail);refine LE.o.mono ?_;rintro e w1 ⟨rfl,ad,aG⟩;obtain⟨T,hT⟩:∃T:Option Addr,T=none:=⟨_,rfl⟩;obtain⟨C,bZ⟩:∃C:Nat,C=0:=⟨_,rfl⟩;have q1:w1.cell? ⟨g,1,none⟩=some (.slice none 0 0):=(ad.cell bc).trans y1;have RC:=Jy (Uw none 0 l w1 (a6.o.below (by rw[<-HG.o];exact ad)) (by rw[<-HN.o];omega) Hp.o);have BA:=Jy (λV (hV:Below W.heap.size W V) (_:EP V G (l++FY 2 (-77)))=>Vf hP none 0 l V d.lo d.hi s.c d.L d.m HI.o.wf (HI.o.below hV).E2 (HI.o.below hV).hi (a7.o.below hV a7.o.lt) HI.o.lo (a6.o.below hV) (by rw[<-HN.o];omega) Hp.o Hd.o);have AL:=Jy (λV hB (hI:Dz V none l)=>Xe G none 0 l V hB hI (by rw[<-HN.o];omega))
 case' inr =>
  go_enter func56,ntmps56
  go_wp2_with (first | (rw[<-HW.o,<-Hg.o]) | fail);refine LE.o.mono ?_;rintro e w1 ⟨rfl,ad,aG⟩;have q1:w1.cell? ⟨g,1,none⟩=some (.slice (some ta) N t3):=(ad.cell bc).trans y1;have RC:=Jy (Uw (some ta) t3 l w1 (a6.o.below (by rw[<-HG.o];exact ad)) (by rw[<-HN.o];omega) Hp.o);have BA:=Jy (λV (hV:Below W.heap.size W V) (hB:EP V G (l++FY 2 (-77)))=>Vf hP (some ⟨G,0,none⟩) (N+2) l V d.lo d.hi s.c d.L d.m HI.o.wf (HI.o.below hV).E2 (HI.o.below hV).hi (a7.o.below hV a7.o.lt) HI.o.lo hB.front (by rw[<-HN.o];omega) Hp.o Hd.o);have AL:=Jy (λV hB (hI:Dz V (some ta) l)=>Xe G (some ta) t3 l V hB hI (by rw[<-HN.o];omega))
 all_goals
  rw[<-HN.o]at RC BA AL;have bs:=Jy aG;have aT:Hid (Below W.heap.size W w1):=Jy (by rw[<-HG.o];exact ad);have bx:G<w1.heap.size:=lt_of_heap aG;clear y1 LE aG ad;go_wp2_with (first | (rw[Go.Lib.run_eql_slice_nil (P:=prog) _ 26 39 _ _ _ _ _ underlying26]) | fail);refine RC.o.mono ?_;rintro e w2 ⟨am,ao⟩;have aD:Hid (Below W.heap.size W w2):=Jy (aT.o.trans (am.mono aT.o.size));have aF:=Jy (bs.o.below am bx);have q2:=(am.cell (show g<w1.heap.size by omega)).trans q1;have S2:=Jy (HI.o.below aD.o);have c0:w2.cell? ⟨sb,0,none⟩=some (.pointer (some ⟨s.c,0,none⟩)):=S2.o.side.cell 0;have D:=Jy (S1.EW w2 d.lo d.hi s.c d.L d.m S2.o.E2);have B:=Jy (BA.o w2 aD.o aF.o);have bO:G<w2.heap.size:=by have:=am.size;omega
  have b0:=Jy (a6.o.below aD.o);have bM:Hid (w.heap.size<=W.heap.size):=Jy aW.o.size;obtain⟨dd,b8⟩:=Jq ((d.m.Da==0));rw[<-b8]at D;have bK:=Jy b8;have aA:Hid (Below w.heap.size w w2):=Jy (aW.o.trans (aD.o.mono aW.o.size));have H3:Hid (∀V,S1.Dr d.lo d.hi w2 V->EP V G (l++FY 2 (-77))/\Dz V _ l/\Dh V sb s/\V.cell? ⟨g,1,none⟩=w2.cell? ⟨g,1,none⟩):=Jy (λV hV=>⟨(hV.block G bO (λe=>by have:=HI.o.hi;have:=HG.o;omega)).trans aF.o,b0.o.NH aP.o (λk hk=>hV.block k (S2.o.rl k hk) (λe=>(S2.o.mu k (.inr (.inl e))).1 hk)),S2.o.side.of_block (hV.block sb (S2.o.mu sb (.inl rfl)).2 S2.o.ap.1),AJ (hV.block g (by omega) (λe=>by have:=H0.o.hi;have:=Hg.o;omega))⟩);clear am RC BA q1 b8;rcases ao with⟨aC,rfl⟩ | ⟨hyes,v,rfl,hown⟩
  ·clear aF;go_wp2_with fail;refine Jj D.o ?_;clear D;go_wp2_with fail;refine B.o.mono ?_;rintro e w3 (⟨_,rfl,ah,af⟩ | ⟨hy,_⟩)
   ·obtain⟨x1,x2,x3,x4⟩:=H3.o w3 af;have q3:=x4.trans q2;have A:=Jy (AL.o w3 x1 x2);have aJ:=Jy x3;have az:=Jy ah;have aL:=Jy af;clear x1 x2 x3 x4 B AL q2 ah af c0;go_wp2_with fail;refine A.o.mono ?_;rintro e w4 ⟨rfl,q,rfl⟩;clear A q3;go_wp2_with fail;go_ret
    refine⟨rfl,EM.later (EM.of_below H0.o aA.o (S2.o.put (w':=w3.drewN q) aJ.o (S1.Db.drewN az.o q) (II (KO aL.o (λk a b=>.inr ⟨a,b⟩)) (KS (Ph (AM _ _) q))) S2.o.wf (.inr ⟨rfl,rfl⟩) rfl rfl rfl S2.o.En S2.o.K3 S2.o.Fi S2.o.find)) (Cp n)⟩
   rw[aC]at hy;cases hy
  have ht:Ev l:=(O5 l).1 hyes;have be:=(KC l).trans HN.o.symm;rw[<-be]at hown;obtain⟨av,cv,rfl,bj⟩:=OY hown;obtain⟨M,aS⟩:=Jq ((Eb l).length);rw[<-aS]at hown ⊢;have b9:Hid (∀b off,av=some ⟨b,off,none⟩->w.heap.size<=b/\b<w2.heap.size):=Jy (λb off e=>by
   have:=hown.lt b (by rw[e];rfl)
   have h1:=aT.o.size;have h2:=bM.o;exact⟨by omega,this.2⟩)
  have bG:=Jy bj;have bl:=Jy aS;have Ht:=Jy ht;clear aF hown bj aS ht be;go_wp2_with fail;refine Jj D.o ?_;clear D;go_wp2_with fail;refine B.o.mono ?_;rintro e w3 (⟨aC,_⟩ | ⟨_,t,hT,rfl,ah,af⟩)
  ·rw[hyes]at aC;cases aC
  obtain⟨x1,x2,x3,x4⟩:=H3.o w3 af;have q3:=x4.trans q2;have A:=Jy (AL.o w3 x1 x2);have aJ:=Jy x3;have HR:=Jy (XH S2.o.wf t);have aX:Hid ((S1.EU d.m t).1≠0->∀s':Sv,s'.En=s.En->s'.Fi=s.Fi->s'.free=s.free->Ko s' (S1.EU d.m t).2 (Eb l) (S1.EU d.m t).1=true):=Jy (λh0 s' e1 e2 e3=>jI hT S2.o.wf (by rw[e1];exact S2.o.En) (by rw[e2];exact S2.o.K3) (by rw[e2,e3];exact λe=>(S2.o.Fi e).1) h0);have aN:Hid (s.Fi=false->S1.Lj (S1.EU d.m t).2/\((S1.EU d.m t).1=0->Finds u (S1.EU d.m t).2 (Eb l))):=Jy (λe=>by
   obtain⟨b1,b2,b3,b4,b5,b6⟩:=(S2.o.K3 e).renew S2.o.wf (U9 hT);refine⟨b5,λh0 => ?_⟩;rcases b6 with⟨_,_,c,k,K,hcog⟩ | ⟨e9,_⟩ | ⟨e10,_⟩
   ·exact Finds.laid hcog b1 hT Ht.o
   ·rw[h0]at e9;cases e9
   rw[h0]at e10;cases e10)
  obtain⟨m',aR⟩:=Jq ((S1.EU d.m t).2);obtain⟨r,hr⟩:=Jq ((S1.EU d.m t).1);rw[<-aR,<-hr]at HR aX aN;rw[<-aR]at ah;rw[<-hr];have az:=Jy ah;have aL:=Jy af;clear x1 x2 x3 x4 B AL q2 ah af c0 hT aR hr;go_wp2_with fail;refine A.o.mono ?_;rintro e w4 ⟨rfl,q,aB⟩;have ai:Dh w4 sb s:=by rw[aB];exact aJ.o
  have bh:Hid (S1.CP w4 d.lo d.hi s.c d.L m'):=Jy (by rw[aB];exact S1.Db.drewN az.o q);have ar:Hid (S1.Fm (λk=>k=sb\/(d.lo<=k/\k<d.hi)) w2 w4):=Jy (by rw[aB];exact II (KO aL.o (λk a b=>.inr ⟨a,b⟩)) (KS (Ph (AM _ _) q)));clear aB A q3 aJ az aL;obtain⟨W5,aH⟩:=Jq (w4.setCell ⟨sb,1,none⟩ (.pointer none));have a9:Dh W5 sb { s with f:=none }:=by rw[aH];exact ai.Lu none
  have aa:S1.Dr sb (sb+1) w4 W5:=by rw[aH];exact Kz _ _ _ _
  have k1:w4.cell? ⟨sb,1,none⟩=some (.pointer (s.f.map λb=>⟨b,0,none⟩)):=ai.cell 1;have z1:w4.frozen? ⟨sb,1,none⟩=false:=ai.frozen 1;have bn:=Jy aH;obtain⟨a1,a2,a3,a4,a5⟩:=HR.o;have bC:=(S2.o.mu sb (.inl rfl)).2;have HL:Hid (∀V,S1.Fm (λk=>k=sb\/(d.lo<=k/\k<d.hi)) w2 V->Dz V av (Eb l)):=Jy (λV hV=>bG.o.only (λb off e _=>hV.block b (b9.o b off e).2 (λe2=>by
   have h1:=(b9.o b off e).1;have h2:=H0.o.hi;have h3:=(H0.o.mu sb (.inl rfl)).2;rcases e2 with e2 | e2<;>omega)))
  clear aH;by_cases h0:r=0
  ·subst h0;have bJ:dd=false:=by
    rw[bK.o]
    have:=a5 rfl
    simpa using this
   subst bJ;obtain⟨G5,aM⟩:=Jq W5.heap.size;obtain⟨W6,a0⟩:=Jq (W5.alloc (.cells #[.slice av M cv] 26));have ax:=KD a0;have bf:W6.heap[G5]? = some (.cells #[.slice av M cv] 26 (0,0)):=by rw[a0,aM];exact AQ _ _
   have bU:=L0 a0 aM.symm;have aU:sb<W5.heap.size:=lt_of_heap a9;have ae:Dh W6 sb { s with f:=none }:=a9.of_block (ax.block sb aU);obtain⟨W7,aI⟩:=Jq (W6.setCell ⟨sb,3,none⟩ (.slice (some ⟨G5,0,none⟩) 1 1));have a8:Dh W7 sb { s with f:=none,may:=(some ⟨G5,0,none⟩,1,1) }:=by rw[aI];exact ae.Nj (some ⟨G5,0,none⟩,1,1)
   obtain⟨W8,aK⟩:=Jq (W7.setCell ⟨sb,4,none⟩ (.bool s.Fi));have bp:Dh W8 sb { s with f:=none,may:=(some ⟨G5,0,none⟩,1,1),FF:=s.Fi }:=by rw[aK];exact a8.Je s.Fi
   have aj:S1.Dr sb (sb+1) W6 W8:=by rw[aK,aI];exact(Kz _ _ _ _).trans (Kz _ _ _ _)
   have k3:W6.cell? ⟨sb,3,none⟩=some (.slice s.may.1 s.may.2.1 s.may.2.2):=ae.cell 3;have z3:W6.frozen? ⟨sb,3,none⟩=false:=ae.frozen 3;have k5:W7.cell? ⟨sb,5,none⟩=some (.bool s.Fi):=a8.cell 5;have k4:W7.cell? ⟨sb,4,none⟩=some (.bool s.FF):=a8.cell 4;have z4:W7.frozen? ⟨sb,4,none⟩=false:=a8.frozen 4;have ay:=Jy a0;have bP:=Jy aI;have bI:=Jy aK;have b7:=Jy aM;have bF:=Jy bp;have bT:G5≠sb:=by omega
   have aQ:Hid (S1.Fm (λk=>k=sb\/(d.lo<=k/\k<d.hi)) w2 W8):=Jy (II ar.o (II (KO aa (λk a b=>.inl (by omega))) (II (KS ax) (KO aj (λk a b=>.inl (by omega))))));have br:Hid (W8.heap[G5]? = some (.cells #[.slice av M cv] 26 (0,0))):=Jy ((aj.block G5 (by omega) (by omega)).trans bf);have bD:Hid (S1.CP W8 d.lo d.hi s.c d.L m'):=Jy (S1.Db.Dn bh.o (λk e1 e2=>by
    have bE:k<w4.heap.size:=by have h1:=ar.o.size;have h2:=S2.o.hi;have e3:k<d.hi:=e2;omega
    have bS:k≠sb:=λe=>S2.o.ap.1 (by rw[<-e];exact⟨e1,e2⟩)
    have h5:=aa.size;rw[aj.block k (by have:=ax.size;omega) (by omega),ax.zK k,aa.block k bE (by omega)]))
   have bX:=aj.size;have bY:=aa.size;clear a9 aa ai ax bf ae a8 bp aj a0 aI aK aM;go_wp2_with (first | (rw[<-bn.o]) | (rw[<-ay.o,<-b7.o]) | (rw[<-ay.o]) | (rw[<-bP.o]) | (rw[<-bI.o]) | fail);go_ret
   have bA:S1.Fm (λk=>k=sb\/(d.lo<=k/\k<d.hi)) w W8:=II (KS aA.o) aQ.o;have bV:=aQ.o.size;have bQ:=aA.o.size;have bR:=ar.o.size;have bW:=H0.o.hi;refine⟨rfl,{ s with f:=none,may:=(some ⟨G5,0,none⟩,1,1),FF:=s.Fi },{ d with m:=m',ms:=[((av,M,cv),Eb l)] },_,ED.make (w':=W8) (n':=n+1) (λ_=>False) H0.o rfl rfl rfl rfl rfl rfl bF.o bD.o a1 (by show d.hi<=_;omega) H0.o.lo (.inl ⟨rfl,rfl⟩) bA (λfb hf=>by cases hf) (XK (x:=(av,M,cv)) br.o bl.o (by rw[KC];have:=Ht.o.len;omega) (HL.o W8 aQ.o)) ⟨λk hk => ?_,λy hy => ?_⟩ (by show 1<=_;omega) (Cp n) (AF H0.o.En (S1.IF a2 a3)) (λe=>(aN.o e).1) (λe=>⟨(H0.o.Fi e).1,e⟩) (λe=>⟨_,List.mem_singleton.2 rfl,(aN.o e).2 (by trivial)⟩)⟩
   ·have bB:G5=k:=by simpa[ob,Value.ownBlock]using hk
    subst bB;refine .inr ⟨?_,?_,?_,id⟩
    ·have:=b7.o;omega
    ·omega
    show ¬(d.lo<=_/\_<d.hi)
    have:=b7.o;omega
   simp at hy;subst hy;intro b off e _
   have:=b9.o b off e
   refine .inr ⟨this.1,by omega,?_,id⟩;show ¬(d.lo<=_/\_<d.hi);omega
  have bH:r=0\/r=9\/r=10:=a4;obtain⟨W6,a0⟩:=Jq (W5.setCell ⟨sb,4,none⟩ (.bool true));have ae:Dh W6 sb { s with f:=none,FF:=true }:=by rw[a0];exact a9.Je true
  have aE:S1.Dr sb (sb+1) w4 W6:=by rw[a0];exact aa.trans (Kz _ _ _ _)
  have k4:W5.cell? ⟨sb,4,none⟩=some (.bool s.FF):=a9.cell 4;have z4:W5.frozen? ⟨sb,4,none⟩=false:=a9.frozen 4;have aZ:Hid (S1.Fm (λk=>k=sb\/(d.lo<=k/\k<d.hi)) w2 W6):=Jy (II ar.o (KO aE (λk a b=>.inl (by omega))));have aw:d.hi<=w4.heap.size:=AF S2.o.hi ar.o.size;have aV:S1.CP W6 d.lo d.hi s.c d.L m':=S1.Db.side bh.o aw S2.o.ap.1 aE;have ag:∀x∈Eb l,Fit x:=λx hx=>Nw (Ht.o.ok x (ET.1 hx))
  have RF:=Jy (rX W6 sb { s with f:=none,FF:=true } d.lo d.hi d.L m' av cv (Eb l) r bH ae a1 aV (AF aw aE.size) S2.o.ap.1 (HL.o W6 aZ.o) (by rw[KC];have:=Ht.o.len;omega) (λx hx=>by have:=(ag x hx).p;omega) (λx hx=>by have:=(ag x hx).d;omega));rw[aX.o h0 { s with f:=none,FF:=true } rfl rfl rfl,<-bl.o]at RF;have ay:=Jy a0;have bL:=Jy aV;clear a9 aa ai ae aE a0 aV ag aX;go_wp2_with (first | (rw[<-bn.o]) | (rw[<-ay.o]) | fail);refine RF.o.mono ?_;rintro e w7 ⟨rfl,a8,bm⟩;have bq:=Jy a8;have bb:=Jy bm;clear a8 bm RF;go_wp2_with fail;go_ret
  refine⟨rfl,EM.later (EM.of_below H0.o aA.o (S2.o.put (w':=w7) bq.o (S1.Db.side bL.o (AF S2.o.hi aZ.o.size) S2.o.ap.1 bb.o) (II aZ.o (KO bb.o (λk a b=>.inl (by omega)))) a1 (.inl rfl) rfl rfl rfl (AF S2.o.En (S1.IF a2 a3)) (λe=>(aN.o e).1) (λe=>⟨?_,rfl⟩) (λe=>by cases e))) (Cp n)⟩;show Ka _ _=true;unfold Ka;dsimp only;rw[(S2.o.Fi e).1];rfl
theorem ED.Lp{u:Bs->Option Bs}{w w':D7}{sb B:Nat}{R:Nat->Prop}{s:Sv}{d:Sd}{n:Nat}{a:Option Addr}{e:Ending}(h:ED u w sb R s d n)(hBw:B<=w.heap.size)(hM:∀k,Mu sb s d k->k<B)(hp:SF w B sb s d.es d.j a e w')(ha:∀k,a=some ⟨k,0,none⟩->B<=k/\¬R k) :
 ∃s' d',ED u w' sb (Ra R B w' sb s' d') s' d' (n+1)/\(∀k,Mu sb s' d' k->Mu sb s d k\/w.heap.size<=k)/\S1.Fm (λk=>Mu sb s d k\/a=some ⟨k,0,none⟩) w w':=by
 obtain⟨-,x,es',p1,p2,p3,p4,p5,p6⟩:=hp;have hz:w.heap.size<=w'.heap.size:=p6.size;have same:∀k,k<w.heap.size->k≠sb->ob s.lists≠some k->a≠some ⟨k,0,none⟩->w'.heap[k]? = w.heap[k]? := λk h1 h2 h3 h4=>p6.block k h1 (λe=>by
  rcases e with e | e | e
  ·exact h2 e
  ·exact h3 e
  exact h4 e)
 have a8:∀k,ob x=some k->ob s.lists=some k\/w.heap.size<=k:=λk hk=>p5 k hk
 have ah:∀k,ob x=some k->k<w'.heap.size:=λk hk=>(p2.lt k hk).2
 have a7:∀k,Mu sb s d k->a≠some ⟨k,0,none⟩:=λk hk e=>by have h1:=hM k hk;have h2:=(ha k e).1;omega
 have a0:∀k,R k->w'.heap[k]? = w.heap[k]? := λk hk=>same k (h.rl k hk) (λe=>(h.mu k (.inl e)).1 hk) (λe=>(h.mu k (.inr (.inr (.inl e)))).1 hk) (λe=>(ha k e).2 hk)
 have a5:∀k,Mu sb { s with lists:=x } { d with es:=d.es++es',j:=d.j+1 } k->Mu sb s d k\/w.heap.size<=k:=λk hk=>by
  rcases hk with hk | hk | hk | hk
  ·exact .inl (.inl hk)
  ·exact .inl (.inr (.inl hk))
  ·exact(a8 k hk).imp (λe=>.inr (.inr (.inl e))) id
  exact .inl (.inr (.inr (.inr hk)))
 have af:sb<w.heap.size:=(h.mu sb (.inl rfl)).2;refine⟨{ s with lists:=x },{ d with es:=d.es++es',j:=d.j+1 },?_,a5,?_⟩
 ·refine⟨p1,S1.Db.Dn h.E2 (λk h1 h2=>same k (by have h3:k<d.hi:=h2;have:=h.hi;omega) (λe=>h.ap.1 (by rw[<-e];exact⟨h1,h2⟩)) (λe=>h.ap.2.1 k e ⟨h1,h2⟩) (a7 k (.inr (.inl ⟨h1,h2⟩)))),h.wf,AF h.hi hz,h.lo,λfb hf => ?_,h.may.keep h.FV.1 h.FV.2 a0,⟨λk hk=>.inl (h.FV.1 k hk),λy hy b off e h0=>.inl (h.FV.2 y hy b off e h0)⟩,⟨p2,λi y hy => ?_⟩,(h.tx.keep (λk hk => ?_)).grow (λk hk=>.inl hk),⟨by rw[AN,h.lj.1,p3];show _=4*(d.j+1);omega,by have:=h.lj.2;show d.j+1<=_;omega⟩,⟨h.tk.1,CS h.tk.2⟩,CS h.mn,λk hk=>⟨λhr => ?_,?_⟩,⟨h.ap.1,λk hk => ?_,h.ap.2.2⟩,h.En,h.K3,h.Fi,h.find,λk hk => ?_⟩
  ·obtain⟨a1,⟨cb,lb,tb,b1,b2,b3,b4⟩,a2,a3,a4⟩:=h.fs fb hf;exact⟨a1,⟨cb,lb,tb,(a0 fb b3).trans b1,b2.of_block (a0 tb b4),.inl b3,.inl b4⟩,a2,a3.NH (by rw[KC];exact a4) a0,λb off e h0=>.inl (a4 b off e h0)⟩
  ·by_cases hi:i<d.es.length
   ·rw[Ax hi]at hy;obtain⟨a1,a2,a3⟩:=h.li.2 i y hy;exact⟨a1,a2.of_block (λk hk h0=>a0 k (a3 k hk h0)),λk hk h0=>.inl (a3 k hk h0)⟩
   rw[Ad (by omega)]at hy;have ai:i - d.es.length<4:=by have:=(AP.1 hy).1;omega
   have aa:i/4=d.j:=by have:=h.lj.1;omega
   obtain⟨a1,a2⟩:=p4 y (Ab hy);rw[aa];refine⟨a1,λh0 => ?_,λk hk h0 => ?_⟩
   ·obtain⟨g,a9,e1,e2,e3⟩:=a2 h0;exact⟨g,a9,e1,AU _,e3⟩
   obtain⟨g,a9,e1,e2,e3,e4⟩:=a2 h0;rw[hk]at e1;cases e1
   refine .inr ⟨e2,lt_of_heap e3,λhm => ?_⟩;rcases hm with hm | hm | hm | hm
   ·have:=hM k (.inl hm);omega
   ·have:=hM k (.inr (.inl hm));omega
   ·obtain⟨ac,ae⟩:=LD p2 hm;exact Kb e3 ae (by decide) rfl
   have:=hM k (.inr (.inr (.inr hm)));omega
  ·rcases hk with hk | hk
   ·have ad:=(h.mu k (.inr (.inr (.inr hk)))).2;obtain⟨c1,a6⟩:=LD h.tx.1 hk;exact same k ad (λe=>by
     subst e;exact Kb a6 h.side (by decide) rfl) (λe=>by
     obtain⟨c2,ag⟩:=LD h.li.1 e;exact Kb a6 ag (by decide) rfl) (a7 k (.inr (.inr (.inr hk))))
   exact a0 k hk
  ·rcases hr with hr | ⟨_,_,hr⟩
   ·rcases a5 k hk with h1 | h1
    ·exact(h.mu k h1).1 hr
    have:=h.rl k hr;omega
   exact hr hk
  ·rcases hk with hk | hk | hk | hk
   ·rw[hk];omega
   ·have:=h.hi;have:=hk.2;dsimp only at this;omega
   ·exact ah k hk
   have:=(h.mu k (.inr (.inr (.inr hk)))).2;omega
  ·rcases a8 k hk with h1 | h1
   ·exact h.ap.2.1 k h1
   intro h2;have:=h.hi;have:=h2.2;dsimp only at this;omega
  rcases hk with hk | hk
  ·exact AR (h.rl k hk) hz
  exact hk.2.1
 exact⟨p6.os,p6.tape,p6.output,hz,λk hk hn=>same k hk (λe=>hn (.inl (.inl e))) (λe=>hn (.inl (.inr (.inr (.inl e))))) (λe=>hn (.inr e))⟩
theorem sY(w:D7)(lo hi cb:Nat)(L:S1.Loc)(m:S1.M)(h:S1.CP w lo hi cb L m)(hlf:m.Da=0) :
 Calls prog 20 #[.pointer (some ⟨cb,0,none⟩)] w λe w'=>e=.returned (.tuple #[.pointer none,.int .i64 10])/\w'=w:=by
 have A:=Jy (S1.EW w lo hi cb L m h);rw[show(m.Da==0)=true by rw[hlf];rfl]at A;clear h;go_enter func20,ntmps20
 go_wp2_with fail;refine Jj A.o ?_;clear A;go_wp2_with fail;go_ret2
 exact⟨rfl,rfl⟩
theorem o4(w:D7):Calls prog 20 #[.pointer none] w λe w'=>e=.returned (.tuple #[.pointer none,.int .i64 1])/\w'=w:=by
 go_enter func20,ntmps20
 go_wp2_with fail;go_ret2
 exact⟨rfl,rfl⟩
theorem gq(w:D7):Calls prog 16 #[.pointer none,.slice none 0 0] w λe w'=>e=.returned (.int .i64 1)/\w'=w:=by
 go_enter func16,ntmps16
 go_wp2_with fail;go_ret
 exact⟨rfl,rfl⟩
end Go.Proofs.YtodmdkhdbfbfgaaGreatDoor
