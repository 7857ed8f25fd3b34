/- Lemmas. -/
import Derived.StringKeys
import Derived.Maps.Views
import Derived.Test.YtodmdkhdbfbfgaaGreatDoorM27
set_option linter.unusedVariables false
set_option linter.unusedSimpArgs false
set_option maxRecDepth 100000
set_option maxHeartbeats 8000000
open Go.Proofs.Tryz
abbrev Go.DN:=@Go.World.drewN_drewN
namespace Go.Proofs.YtodmdkhdbfbfgaaGreatDoor
section
open Go.RowKit Go.Nt
variable {w w':D7} {sb n:Nat} {s:Sv} {u:Bs->Option Bs} {R:Nat->Prop} {d:Sd}
theorem ML.of_block(h:ML w)(e:w'.heap[0]? = w.heap[0]?):ML w':=by
 obtain⟨m,hm⟩:=h;exact⟨m,by rw[AJ (w:=w) (w':=w') e];exact hm⟩
theorem Dh.sK(h:Dh w sb s)(hml:ML w):sb≠0:=by
 intro e;subst e;obtain⟨m,hm⟩:=hml
 have:=h.cell 0
 rw[hm]at this;cases this
theorem ED.QL(h:ED u w sb R s d n)(hF:S1.Fm (λk=>k=sb\/(d.lo<=k/\k<d.hi)) w w'):JJ w' s.may d.ms:=
 h.may.keep h.FV.1 h.FV.2 (λk hk=>hF.block k (h.rl k hk) (λe=>e.elim (λe=>(h.mu k (.inl e)).1 hk) (λe=>(h.mu k (.inr (.inl e))).1 hk)))
theorem pC(hP:Fj u)(h:ED u w sb R s d n)(hml:ML w)(hn:n<=100000000) :
 Calls prog 57 #[.pointer (some ⟨sb,0,none⟩)] w λe w'=>e=.returned (.bool true)/\EM u w sb R s d (n+1) w':=by
 have bs:=h.side.sK hml;have bV:=(h.mu sb (.inl rfl)).2;have c0:w.cell? ⟨sb,0,none⟩=some (.pointer (some ⟨s.c,0,none⟩)):=h.side.cell 0;have CO:=Jy (S1.LV w d.lo d.hi s.c d.L d.m h.wf h.E2 h.hi);obtain⟨X,hX⟩:=Jq w.heap.size;rw[<-hX]at CO;have HX:=Jy hX;have H0:=Jy h;have bE:=Jy hml;have bJ:0<X:=by rw[hX];exact hml.lt
 rw[<-hX]at bV;clear h hml hX;go_enter func57,ntmps57
 go_wp2_with fail;refine CO.o.mono ?_;rintro e w1 ⟨L1,rfl,bT,bZ⟩;have au:Below w.heap.size w w1:=by rw[<-HX.o];exact bZ
 have bz:=(H0.o.below au).side;obtain⟨W2,bC⟩:=Jq (w1.setCell ⟨sb,0,none⟩ (.pointer (some ⟨X,0,none⟩)));have bI:Dh W2 sb { s with c:=X }:=by rw[bC];exact bz.VF X
 have bA:S1.Dr sb (sb+1) w1 W2:=by rw[bC];exact Kz _ _ _ _
 obtain⟨Y,hY⟩:=Jq w1.heap.size;rw[<-hY]at bT;have cK:X<=Y:=by have:=bZ.size;rw[hY];have:=au.size;have:=HX.o;omega
 have bP:S1.CP W2 X Y X L1 d.m:=S1.Db.side bT (by omega) (by omega) bA;have aV:Y<=W2.heap.size:=by rw[hY];exact bA.size
 have k0:w1.cell? ⟨sb,0,none⟩=some (.pointer (some ⟨s.c,0,none⟩)):=bz.cell 0;have z0:w1.frozen? ⟨sb,0,none⟩=false:=bz.frozen 0;have c2:W2.cell? ⟨sb,0,none⟩=some (.pointer (some ⟨X,0,none⟩)):=bI.cell 0;have bK:S1.Fm (λk=>k=sb\/(d.lo<=k/\k<d.hi)) w W2:=II (KS au) (KO bA (λk a b=>.inl (by omega)));have bf:ML W2:=bE.o.of_block (bK.block 0 bE.o.lt (λe=>e.elim (λe=>bs e.symm) (λe=>by have:=H0.o.lo;omega)));have D2:=Jy (S1.EW W2 X Y X L1 d.m bP);have cz:=Jy bC;have be:=Jy bI;have aY:=Jy bP;have bO:=Jy bK;have cf:=Jy bf;clear CO bC bA bz bI bT bP bZ au c0 bK bf hY;go_wp2_with (first | (rw[<-cz.o]) | fail);refine Jj D2.o ?_;clear k0 z0;by_cases hl:d.m.Da=0
 ·have MD:=Jy (sY W2 X Y X L1 d.m aY.o hl);rw[show(d.m.Da==0)=true by rw[hl];rfl]at D2 ⊢;obtain⟨W4,a7⟩:=Jq (W2.setCell ⟨sb,1,none⟩ (.pointer none));have ay:Dh W4 sb { s with c:=X,f:=none }:=by rw[a7];exact be.o.Lu none
  have a6:S1.Dr sb (sb+1) W2 W4:=by rw[a7];exact Kz _ _ _ _
  have k1:W2.cell? ⟨sb,1,none⟩=some (.pointer (s.f.map λb=>⟨b,0,none⟩)):=be.o.cell 1;have z1:W2.frozen? ⟨sb,1,none⟩=false:=be.o.frozen 1;have bn:=Jy a7;have aW:=Jy ay;have ca:=Jy a6;clear a7 ay a6;go_wp2_with fail;refine Jj MD.o ?_;clear MD;go_wp2_with fail;refine Jj D2.o ?_;clear D2;go_wp2_with (first | (rw[<-bn.o]) | fail);go_ret
  have az:=II bO.o (KO (S:=λk=>k=sb\/(d.lo<=k/\k<d.hi)) ca.o (λk a b=>.inl (by omega)));have cl:=ca.o.size;have aK:S1.CP W4 X Y X L1 d.m:=S1.Db.side aY.o aV (by omega) ca.o;refine⟨rfl,{ s with c:=X,f:=none },{ d with lo:=X,hi:=Y,L:=L1 },_,ED.make (w':=W4) (n':=n+1) (λ_=>False) H0.o rfl rfl rfl rfl rfl rfl aW.o aK H0.o.wf (by show Y<=_;omega) bJ (.inr (by show _<=X;have:=HX.o;omega)) az (λfb hf=>by cases hf) (H0.o.QL az) ⟨λk hk=>.inl (H0.o.FV.1 k hk),λy hy b off e h0=>.inl (H0.o.FV.2 y hy b off e h0)⟩ (CS H0.o.mn) (Cp n) H0.o.En H0.o.K3 H0.o.Fi H0.o.find⟩
 have MA:=Jy (Mt W2 X Y X L1 d.m H0.o.wf aY.o aV hl _ rfl cf.o hP);rw[show(d.m.Da==0)=false by simpa using hl]at D2 ⊢;go_wp2_with fail;refine MA.o.mono ?_;rintro e w3 ⟨bR,hT,⟨aZ,rfl,aa⟩ | ⟨cH,x,post,tl,bj,b3,bq,bS,-,fb,lb,tb,ib,n2,rfl,aM,aI,-,-,-,cN,-,cP,-,-,aa⟩⟩
 ·have bh:s.FF=true:=by
   cases e:s.FF with
   | true=>rfl
   | false =>
     obtain⟨y,hy,hf⟩:=H0.o.find e;exact absurd (λx hx=>aZ x (DR.1 hx)) (hf bR hT).not
  have ac:=be.o.of_block (aa.zK sb);have aH:=S1.Db.below aY.o aV aa;have D3:=Jy (S1.EW w3 X Y X L1 d.m aH);rw[show(d.m.Da==0)=false by simpa using hl]at D3;obtain⟨W4,a7⟩:=Jq (w3.setCell ⟨sb,1,none⟩ (.pointer none));have ay:Dh W4 sb { s with c:=X,f:=none }:=by rw[a7];exact ac.Lu none
  have a6:S1.Dr sb (sb+1) w3 W4:=by rw[a7];exact Kz _ _ _ _
  have c3:w3.cell? ⟨sb,0,none⟩=some (.pointer (some ⟨X,0,none⟩)):=ac.cell 0;have k1:w3.cell? ⟨sb,1,none⟩=some (.pointer (s.f.map λb=>⟨b,0,none⟩)):=ac.cell 1;have z1:w3.frozen? ⟨sb,1,none⟩=false:=ac.frozen 1;have k4:W4.cell? ⟨sb,4,none⟩=some (.bool true):=by rw[<-bh];exact ay.cell 4
  have aK:=S1.Db.side aH (AF aV aa.size) (by omega) a6;have az:=II (II bO.o (KS aa)) (KO (S:=λk=>k=sb\/(d.lo<=k/\k<d.hi)) a6 (λk a b=>.inl (by omega)));have cl:W2.heap.size<=W4.heap.size:=AF aa.size a6.size;have bn:=Jy a7;have aW:=Jy ay;have bX:=Jy aK;have b8:=Jy az;clear a7 ay a6 ac aH aK az aa aZ MA;go_wp2_with fail;refine Jj D3.o ?_;clear D3;go_wp2_with (first | (rw[<-bn.o]) | fail);go_ret
  refine⟨rfl,{ s with c:=X,f:=none },{ d with lo:=X,hi:=Y,L:=L1 },_,ED.make (w':=W4) (n':=n+1) (λ_=>False) H0.o rfl rfl rfl rfl rfl rfl aW.o bX.o H0.o.wf (by show Y<=_;omega) bJ (.inr (by show _<=X;have:=HX.o;omega)) b8.o (λfb hf=>by cases hf) (H0.o.QL b8.o) ⟨λk hk=>.inl (H0.o.FV.1 k hk),λy hy b off e h0=>.inl (H0.o.FV.2 y hy b off e h0)⟩ (CS H0.o.mn) (Cp n) H0.o.En H0.o.K3 H0.o.Fi H0.o.find⟩
 have ht:Ev tl:=(O5 tl).1 bS;have a4:Gh u (S1.IK d.m) bR.reverse (Eb tl):=⟨cH,x,post,tl,bj,b3,bq,bS,rfl⟩;have ar:Hid (s.FF=true\/(d.ms.any λy=>decide (y.2=Eb tl))=true):=Jy (by
  cases e:s.FF with
  | true=>exact .inl rfl
  | false =>
    obtain⟨y,hy,hf⟩:=H0.o.find e
    right
    rw[Bq];exact⟨y,hy,by simpa using Gh.unique (hf bR hT) a4⟩)
 have cq:Hid (Finds u d.m (Eb tl)):=Jy (Finds.of hT a4);have ac:=be.o.of_block (aa.zK sb);have aH:=S1.Db.below aY.o aV aa;have D3:=Jy (S1.EW w3 X Y X L1 d.m aH);rw[show(d.m.Da==0)=false by simpa using hl]at D3;obtain⟨W4,a7⟩:=Jq (w3.setCell ⟨sb,1,none⟩ (.pointer none));have ay:Dh W4 sb { s with c:=X,f:=none }:=by rw[a7];exact ac.Lu none
 have a6:S1.Dr sb (sb+1) w3 W4:=by rw[a7];exact Kz _ _ _ _
 have c3:w3.cell? ⟨sb,0,none⟩=some (.pointer (some ⟨X,0,none⟩)):=ac.cell 0;have k1:w3.cell? ⟨sb,1,none⟩=some (.pointer (s.f.map λb=>⟨b,0,none⟩)):=ac.cell 1;have z1:w3.frozen? ⟨sb,1,none⟩=false:=ac.frozen 1;have aK:S1.CP W4 X Y X L1 d.m:=S1.Db.side aH (AF aV aa.size) (by omega) a6;have az:=II (II bO.o (KS aa)) (KO (S:=λk=>k=sb\/(d.lo<=k/\k<d.hi)) a6 (λk a b=>.inl (by omega)));have cb:fb<w3.heap.size:=lt_of_heap aM;have c9:=aI.lt;have aG:Ja W4 fb X lb tb:=(a6.block fb cb (by omega)).trans aM;have aQ:Dk W4 tb tl:=aI.of_block (a6.block tb c9 (by omega));have bm:ML W4:=bE.o.of_block (az.block 0 bE.o.lt (λe=>e.elim (λe=>bs e.symm) (λe=>by have:=H0.o.lo;omega)));have T4:=Jy (UN W4 fb X lb tb tl aG aQ ht bm);have cl:W2.heap.size<=W4.heap.size:=AF aa.size a6.size
 have cT:=a6.size;have bn:=Jy a7;have aW:=Jy ay;have bX:=Jy aK;have b8:=Jy az;have bY:=Jy aG;have ci:=Jy aQ;have Ht:=Jy ht;clear a7 ay a6 ac aH aK az aa MA aM aI aG aQ bm ht a4 bj b3 bq bS hT;go_wp2_with fail;refine Jj D3.o ?_;clear D3;go_wp2_with (first | (rw[<-bn.o]) | fail);refine T4.o.mono ?_;rintro e w5 ⟨cu,v5,rfl,a0⟩;rw[<-KC]at a0;obtain⟨t5,bb⟩:=Jq (Eb tl);rw[<-bb]at a0 ar cq;obtain⟨a5,c5,rfl,aN⟩:=OY a0;have aA:Ev t5:=by rw[bb];exact Ht.o.JC
 have cj:Eb t5=t5:=by rw[bb];exact YP Ht.o
 have bi:∀x∈t5,Fit x:=λx hx=>Nw (aA.ok x hx)
 have cg:t5.length<=60:=aA.len;have RC:=Jy (Uw a5 c5 t5 w5 aN (by omega) (λx hx=>by have:=(bi x hx).p;omega));rw[cj]at RC;obtain⟨M,hM⟩:=Jq t5.length;have HM:=Jy hM;rw[<-hM]at RC a0 cg ⊢;have bF:=Jy cu;have a8:=Jy a0;have b6:=Jy aN;have cs:=Jy bb;have bU:=Jy aA;clear cu a0 aN bb aA cj bi hM T4;go_wp2_with fail;refine RC.o.mono ?_;rintro e w6 ⟨aT,⟨aZ,_⟩ | ⟨_,v6,rfl,a3⟩⟩
 ·rw[(O5 t5).2 bU.o]at aZ;cases aZ
 rw[HM.o]at a3;obtain⟨av,cv,rfl,aS⟩:=OY a3;rw[<-HM.o]at a3 ⊢;have bG:Hid (∀b off,av=some ⟨b,off,none⟩->w5.heap.size<=b/\b<w6.heap.size):=Jy (λb off e=>a3.lt b (by rw[e];rfl));have S6:=Jy (GD av a5 cv c5 t5 t5 w6 aS (b6.o.below aT) (by rw[<-HM.o];omega) (by rw[<-HM.o];omega));rw[Cm rfl,<-HM.o]at S6;have cc:S1.Fm (λk=>k=sb\/(d.lo<=k/\k<d.hi)) w w6:=II b8.o (II (KS bF.o) (KS aT));have cO:=bF.o.size;have cL:=aT.size;have c8:Dh w6 sb { s with c:=X,f:=none }:=(aW.o.of_block (bF.o.zK sb)).of_block (aT.zK sb);have FO:=Jy (λq=>pJ (w6.drewN q) sb { s with c:=X,f:=none } d.ms a5 c5 t5 c8 (H0.o.QL (II cc (KS (Ph (AM _ _) q)))) (by have:=H0.o.mn;omega) ((b6.o.below aT).drewN q) (by rw[<-HM.o];omega));rw[<-HM.o]at FO
 obtain⟨an,cy⟩:=Jq ((d.ms.any λy=>decide (y.2=t5)));rw[<-cy]at FO ar;have ct:=Jy aT;have bH:=Jy aS;have cG:=Jy c8;have cM:=Jy cc;clear aT aS c8 cc a3 RC cy;go_wp2_with fail;refine S6.o.mono ?_;rintro e w7 ⟨rfl,q,aR⟩;have ce:=Jy (FO.o q);rw[<-aR]at ce;have cm:=Jy aR;clear S6 FO aR;go_wp2_with fail;refine ce.o.mono ?_;rintro e w8 ⟨rfl,q2,bN⟩;have aR:=cm.o;have bp:Dh w8 sb { s with c:=X,f:=none }:=by rw[bN,aR];exact cG.o
 have af:Below w6.heap.size w6 w8:=by rw[bN,aR];exact Ph (Ph (AM _ _) q) q2
 have k4:w8.cell? ⟨sb,4,none⟩=some (.bool s.FF):=bp.cell 4;have k1:w8.cell? ⟨sb,1,none⟩=some (.pointer none):=bp.cell 1;have z1:w8.frozen? ⟨sb,1,none⟩=false:=bp.frozen 1;clear ce aR bN cm;obtain⟨W9,bx⟩:=Jq (w8.setCell ⟨sb,1,none⟩ (.pointer (some ⟨fb,0,none⟩)));have bD:Dh W9 sb { s with c:=X,f:=some fb }:=by rw[bx];exact bp.Lu (some fb)
 obtain⟨aO,aj⟩:=Jq (W9.setCell ⟨sb,2,none⟩ (.slice av M cv));have aJ:Dh aO sb { s with c:=X,f:=some fb,now:=(av,M,cv) }:=by rw[aj];exact bD.P3 (av,M,cv)
 have ae:S1.Dr sb (sb+1) w8 aO:=by rw[aj,bx];exact(Kz _ _ _ _).trans (Kz _ _ _ _)
 obtain⟨G,hG⟩:=Jq aO.heap.size;obtain⟨aB,ag⟩:=Jq (aO.alloc (.cells #[.slice av M cv] 26));have ad:=KD ag;have bc:aB.heap[G]? = some (.cells #[.slice av M cv] 26 (0,0)):=by rw[ag,hG];exact AQ _ _
 have cF:aB.heap.size=G+1:=by rw[ag,hG];simp
 have b0:sb<aO.heap.size:=lt_of_heap aJ;have ao:=aJ.of_block (ad.block sb b0);obtain⟨aP,am⟩:=Jq (aB.setCell ⟨sb,3,none⟩ (.slice (some ⟨G,0,none⟩) 1 1));have ai:Dh aP sb { s with c:=X,f:=some fb,now:=(av,M,cv),may:=(some ⟨G,0,none⟩,1,1) }:=by rw[am];exact ao.Nj (some ⟨G,0,none⟩,1,1)
 obtain⟨a2,ax⟩:=Jq (aP.setCell ⟨sb,4,none⟩ (.bool s.Fi));have br:Dh a2 sb { s with c:=X,f:=some fb,now:=(av,M,cv),may:=(some ⟨G,0,none⟩,1,1),FF:=s.Fi }:=by rw[ax];exact ai.Je s.Fi
 have a9:S1.Dr sb (sb+1) aB a2:=by rw[ax,am];exact(Kz _ _ _ _).trans (Kz _ _ _ _)
 have k2:W9.cell? ⟨sb,2,none⟩=some (.slice s.now.1 s.now.2.1 s.now.2.2):=bD.cell 2;have z2:W9.frozen? ⟨sb,2,none⟩=false:=bD.frozen 2;have k3:aB.cell? ⟨sb,3,none⟩=some (.slice s.may.1 s.may.2.1 s.may.2.2):=ao.cell 3;have z3:aB.frozen? ⟨sb,3,none⟩=false:=ao.frozen 3;have k5:aP.cell? ⟨sb,5,none⟩=some (.bool s.Fi):=ai.cell 5;have cA:aP.cell? ⟨sb,4,none⟩=some (.bool s.FF):=ai.cell 4;have z4:aP.frozen? ⟨sb,4,none⟩=false:=ai.frozen 4;have cS:=af.size;have cB:=ae.size;have co:=a9.size;have a1:S1.Fm (λk=>k=sb) W4 a2:=II (KS bF.o) (II (KS ct.o) (II (KS af) (II (KO ae (λk a b=>by omega)) (II (KS ad) (KO a9 (λk a b=>by omega))))))
 have aX:S1.Fm (λk=>k=sb) w5 a2:=II (KS ct.o) (II (KS af) (II (KO ae (λk a b=>by omega)) (II (KS ad) (KO a9 (λk a b=>by omega)))));have b7:S1.Fm (λk=>k=sb) w6 a2:=II (KS af) (II (KO ae (λk a b=>by omega)) (II (KS ad) (KO a9 (λk a b=>by omega))));have bu:S1.Fm (λk=>k=sb\/(d.lo<=k/\k<d.hi)) w a2:=II b8.o ⟨a1.os,a1.tape,a1.output,a1.size,λk hk hn=>a1.block k hk (λe=>hn (.inl e))⟩;have bl:a2.heap[G]? = some (.cells #[.slice av M cv] 26 (0,0)):=(a9.block G (by omega) (by omega)).trans bc;have b4:S1.CP a2 X Y X L1 d.m:=S1.Db.Dn bX.o (λk e1 e2=>a1.block k (by have e3:k<Y:=e2;omega) (by have e3:X<=k:=e1;omega));have aD:Ja a2 fb X lb tb:=(a1.block fb (by omega) (by omega)).trans bY.o
 have aE:Dk a2 tb tl:=ci.o.of_block (a1.block tb (by omega) (by omega));have ah:Dz a2 av t5:=bH.o.only (λb off e _=>b7.block b (bG.o b off e).2 (by have:=(bG.o b off e).1;omega));have aC:Hid (∀k,a5=some ⟨k,0,none⟩->W4.heap.size<=k/\k<w5.heap.size):=Jy (λk e=>a8.o.lt k (by rw[e];rfl));have bg:a2.ownsRow W4.heap.size 39 5 (.slice a5 M c5) M (E9 t5):=NV a8.o (λg hg=>aX.block g (a8.o.lt g hg).2 (by have:=(a8.o.lt g hg).1;omega));have cC:M=d.tl.length\/True:=.inr trivial;have cR:=HX.o;have cQ:=H0.o.hi;have aF:tl.length=M:=by rw[HM.o,cs.o,KC]
 have hI:=ED.make (w':=a2) (n':=n) (s':={ s with c:=X,f:=some fb,now:=(av,M,cv),may:=(some ⟨G,0,none⟩,1,1),FF:=s.Fi }) (d':={ d with lo:=X,hi:=Y,L:=L1,tl:=tl,ms:=[((av,M,cv),t5)] }) (λk=>a5=some ⟨k,0,none⟩) H0.o rfl rfl rfl rfl rfl rfl br b4 H0.o.wf (by show Y<=_;omega) bJ (.inr (by show _<=X;omega)) bu
  (λcJ hf=>by
    cases hf
    refine⟨Ht.o,⟨X,lb,tb,aD,aE,.inr ⟨by omega,by omega,by show ¬(X<=_/\_<Y);omega,λe=>by have:=(aC.o _ e).1;omega⟩,.inr ⟨by omega,by omega,by show ¬(X<=_/\_<Y);omega,λe=>by have:=(aC.o _ e).1;omega⟩⟩,aF.symm,by rw[<-cs.o];exact ah,λb off e h0 => ?_⟩
    have:=bG.o b off e
    exact .inr ⟨by omega,by omega,by show ¬(X<=_/\_<Y);omega,λe=>by have:=(aC.o _ e).2;omega⟩)
  (XK (x:=(av,M,cv)) bl HM.o (by rw[<-HM.o];omega) ah)
  ⟨λk hk=>by
   have cE:G=k:=by simpa[ob,Value.ownBlock]using hk
   subst cE;exact .inr ⟨by omega,by omega,by show ¬(X<=_/\_<Y);omega,λe=>by have:=(aC.o _ e).2;omega⟩,λy hy b off e h0=>by
   simp at hy;subst hy
   have:=bG.o b off e
   exact .inr ⟨by omega,by omega,by show ¬(X<=_/\_<Y);omega,λe=>by have:=(aC.o _ e).2;omega⟩⟩
  (by show 1<=_;omega) (AB n) H0.o.En H0.o.K3 (λe=>⟨(H0.o.Fi e).1,e⟩) (λe=>⟨_,List.mem_singleton.2 rfl,cq.o⟩)
 obtain⟨aU,cw,cx,bB,aL⟩:=hI;have KI:=Jy (Wk a2 sb _ d.es d.j a5 t5 c5 W4.heap.size aU.side aU.li.1 aU.lj.1 (by have:=aU.lj.2;exact AF this hn) (by rw[<-HM.o];exact bg) (by rw[<-HM.o];omega) (by omega));rw[<-HM.o]at KI;have b5:Hid (∀e w',SF a2 W4.heap.size sb { s with c:=X,f:=some fb,now:=(av,M,cv),may:=(some ⟨G,0,none⟩,1,1),FF:=s.Fi } d.es d.j a5 e w'->EM u w sb R s d (n+1) w'):=Jy (λe w' hp=>by
  obtain⟨s2,d2,j1,j2,j3⟩:=aU.Lp (B:=W4.heap.size) (by omega) (λk hk=>by
   rcases bB k hk with hm | hm
   ·have:=(H0.o.mu k hm).2;omega
   ·rcases hk with hk | hk | hk | hk
    ·omega
    ·have cI:k<Y:=hk.2;omega
    ·have:=(H0.o.mu k (.inr (.inr (.inl hk)))).2;omega
    have:=(H0.o.mu k (.inr (.inr (.inr hk)))).2;omega) hp (λk e=>⟨(aC.o k e).1,λhr=>by
   rcases hr with hr | hr
   ·have:=H0.o.rl k hr;have:=(aC.o k e).1;omega
   exact hr.2.2.2 e⟩)
  have hz:=j3.size;refine⟨s2,d2,_,j1,λk hk=>.inl (cw k hk),λk hk => ?_,λk hk => ?_,⟨j3.os.trans aL.os,j3.tape.trans aL.tape,j3.output.trans aL.output,AF aL.size hz,λk hk hn=>(j3.block k (AR hk aL.size) (λe => ?_)).trans (aL.block k hk hn)⟩⟩
  ·rcases hk with hk | hk
   ·rcases cx k hk with h1 | h1
    ·exact .inl h1
    exact .inr ⟨h1.1,by omega⟩
   exact .inr ⟨by omega,hk.2.1⟩
  ·rcases j2 k hk with h1 | h1
   ·exact bB k h1
   exact .inr (by omega)
  rcases e with e | e
  ·rcases bB k e with h1 | h1
   ·exact hn h1
   omega
  have:=(aC.o k e).1;omega)
 have cD:=Jy bx;have bW:=Jy aj;have b9:=Jy ag;have bM:=Jy am;have bL:=Jy ax;have HG:=Jy hG;have bQ:an=true\/(an=false/\s.FF=true):=by
  cases an with
  | true=>exact .inl rfl
  | false=>exact .inr ⟨rfl,ar.o.resolve_right (by decide)⟩
 clear bp bD aJ ao ai br ae a9 ad af bc bl a1 aX b7 bu b4 aD aE ah bg aU cw cx bB aL bx aj ag am ax hG cC aF ar;rcases bQ with rfl | ⟨rfl,bQ⟩
 case' inr=>rw[bQ]at k4 cA
 all_goals
  go_wp2_with (first | (rw[<-cD.o]) | (rw[<-bW.o]) | (rw[<-b9.o,<-HG.o]) | (rw[<-b9.o]) | (rw[<-bM.o]) | (rw[<-bL.o]) | fail);refine KI.o.mono ?_;rintro e cU hp;have he:=hp.1;subst he;have HS:=Jy (b5.o _ _ hp);clear hp KI b5;go_wp2_with fail;go_ret
  exact⟨rfl,HS.o⟩
structure Kh (w:D7) (R:Nat->Prop) (o:Gi) (l:List It):Prop where
 len:o.tree.2.1=l.length
 nil:o.tree.1=none->o.tree=(none,0,0)
 E9:Dz w o.tree.1 l
 NH:PD R o.tree.1 l.length
 small:l.length<=1048576
 p:∀x∈l,x.path.length<=1048576
 d:∀x∈l,x.data.length<=1048576
 path:o.path.length<=1048576
 data:o.data.length<=1048576
 b1:-9223372036854775808<=o.b
 b2:o.b<=9223372036854775807
theorem iI{u:Bs->Option Bs}(hP:Fj u){w:D7}{sb:Nat}{R:Nat->Prop}{s:Sv}{d:Sd}{n:Nat}(h:ED u w sb R s d n)(hml:ML w)(hn:n<=100000000)(o:Gi)(l:List It)(ho:Kh w R o l)(hk8:8<=o.kind)(hk13:o.kind≠13) :
 Calls prog 31 #[.pointer (some ⟨sb,0,none⟩),Lz o] w λe w'=>e=.returned (.bool true)/\EM u w sb R s d (n+1) w':=by
 obtain⟨W,hW⟩:=Jq (w.alloc (.cells o.arr 65));have a2:Below w.heap.size w W:=by rw[hW];exact(AM _ w).alloc (AB _) _
 obtain⟨g,hg⟩:=Jq w.heap.size;have a0:∀k,W.cell? ⟨g,k,none⟩=o.arr[k]? := λk=>by rw[hW,hg];exact QU w _ k
 have hI:=h.below a2;have a1:=hml.below a2 hml.lt;have B:=Jy (iq hP hI a1 o l ho.len ho.nil (ho.E9.below a2) ho.NH ho.small ho.p ho.d);have M:=Jy (pC hP hI a1 hn);have P:=Jy (λhk=>qm hI o hk ho.b1 ho.b2 ho.data);have A:=Jy (λfb (hf:s.f=some fb)=>lW hI a1 hn hf o ho.path);have c1:W.cell? ⟨sb,1,none⟩=some (.pointer (s.f.map λb=>⟨b,0,none⟩)):=hI.side.cell 1;have HE:Hid (∀w',EM u W sb R s d (n+1) w'->EM u w sb R s d (n+1) w'):=Jy (λw' hh=>EM.of_below h a2 hh);have HR:=Jy ((EM.refl hI).later (Cp n));obtain⟨kd,⟨t1,t2,t3⟩,pa,tp,da,oa,a3,ot⟩:=o;dsimp only at hk8 hk13;have y0:W.cell? ⟨g,0,none⟩=some (.int .i64 kd):=a0 0;have y1:W.cell? ⟨g,1,none⟩=some (.slice t1 t2 t3):=a0 1;have y2:W.cell? ⟨g,2,none⟩=some (.string (D9 pa)):=a0 2;have y3:W.cell? ⟨g,3,none⟩=some (.string (D9 tp)):=a0 3
 have y4:W.cell? ⟨g,4,none⟩=some (.string (D9 da)):=a0 4;have y5:W.cell? ⟨g,5,none⟩=some (.int .i64 oa):=a0 5;have y6:W.cell? ⟨g,6,none⟩=some (.int .i64 a3):=a0 6;have y7:W.cell? ⟨g,7,none⟩=some (.bool ot):=a0 7;have HW:Hid (W=w.alloc (.cells #[.int .i64 kd,.slice t1 t2 t3,.string (D9 pa),.string (D9 tp),.string (D9 da),.int .i64 oa,.int .i64 a3,.bool ot] 65)):=Jy hW;have Hg:=Jy hg;unfold Lz Gi.arr at *;dsimp only at *;clear h hI hml a1 hW a2 a0 hg ho;go_enter func31,ntmps31
 by_cases a6:kd=11
 ·subst a6;go_wp2_with (first | (rw[<-HW.o,<-Hg.o]) | fail);refine B.o.mono ?_;rintro e w2 ⟨rfl,hS⟩;have HS:=Jy (HE.o _ hS);clear hS B;go_wp2_with fail;go_ret
  exact⟨rfl,HS.o⟩
 by_cases a7:kd=12
 ·subst a7;go_wp2_with (first | (rw[<-HW.o,<-Hg.o]) | fail);refine M.o.mono ?_;rintro e w2 ⟨rfl,hS⟩;have HS:=Jy (HE.o _ hS);clear hS M;go_wp2_with fail;go_ret
  exact⟨rfl,HS.o⟩
 by_cases a8:14<=kd
 ·by_cases a5:kd<=17
  ·have PP:=Jy (P.o ⟨a8,a5⟩);go_wp2_with (first | (rw[<-HW.o,<-Hg.o]) | fail);refine PP.o.mono ?_;rintro e w2 ⟨rfl,hS⟩;have HS:=Jy (HE.o _ (hS.later (Cp n)));clear hS P PP;go_wp2_with fail;go_ret
   exact⟨rfl,HS.o⟩
  have a4:(13:Int)<kd:=by omega
  have h1:¬kd<1:=by omega
  cases hf:s.f with
  | none =>
    rw[hf]at c1;go_wp2_with (first | (rw[<-HW.o,<-Hg.o]) | fail);go_ret
    exact⟨rfl,HE.o _ HR.o⟩
  | some fb =>
    rw[hf]at c1;go_wp2_with (first | (rw[<-HW.o,<-Hg.o]) | fail);go_ret
    exact⟨rfl,HE.o _ HR.o⟩
 have a4:¬(13:Int)<kd:=by omega
 have h1:¬kd<1:=by omega
 cases hf:s.f with
 | none =>
   rw[hf]at c1;go_wp2_with (first | (rw[<-HW.o,<-Hg.o]) | fail);go_ret
   exact⟨rfl,HE.o _ HR.o⟩
 | some fb =>
   rw[hf]at c1;have AA:=Jy (A.o fb hf);clear A;go_wp2_with (first | (rw[<-HW.o,<-Hg.o]) | fail);refine AA.o.mono ?_;rintro e w2 ⟨rfl,hS⟩;have HS:=Jy (HE.o _ hS);clear hS AA;go_wp2_with fail;go_ret
   exact⟨rfl,HS.o⟩
theorem tE(b p:Int):S1.MU (S1.Jl b p 0 (λ_=>0)):=⟨S1.Ly _ _ _ _,rfl,(by show(-1:Int)<0;decide),λ_ _=>rfl,λ_=>rfl⟩
def MR:It:=⟨[102],false,[120],7,8⟩
theorem I9:Ev [MR]:=(O5 _).1 (by decide +kernel)
theorem Z9:Eb [MR]=[MR]:=List.perm_singleton.1 (MZ [MR])
theorem RO:S1.Ec (S1.Jl 8 8 0 (λ_=>0))=32:=by decide
theorem iu{u:Bs->Option Bs}(hP:Fj u)(w:D7)(hml:ML w) :
 Calls prog 29 #[.bool false] w λe w'=>e=.returned (.bool true)/\Below w.heap.size w w':=by
 have N1:=Jy (S1.Ii w 8 8 none 0 0 (λ_=>0) (by omega) (λh=>absurd h (by decide)));obtain⟨x0,aj⟩:=Jq w.heap.size;rw[<-aj]at N1 ⊢;have ar:=Jy aj;have aY:=Jy hml;have aP:0<x0:=by rw[aj];exact hml.lt
 clear hml aj;go_enter func29,ntmps29
 go_wp2_with fail;refine N1.o.mono ?_;rintro e w1 ⟨L1,am,rfl,a5,az,aF⟩;have a0:=tE 8 8;have a2:=RO;obtain⟨m0,aR⟩:=Jq (S1.Jl 8 8 0 (λ_=>0));rw[<-aR]at az a0 a2;obtain⟨G,hG⟩:=Jq w1.heap.size;obtain⟨W2,ac⟩:=Jq (w1.alloc (.cells #[.string (D9 [102]),.bool false,.string (D9 [120]),.int .i64 7,.int .i64 8] 39));have ao:Below w1.heap.size w1 W2:=by rw[ac];exact(AM _ _).alloc (AB _) _
 have aJ:E4 W2 G 0 MR:=by rw[ac,hG];exact NN w1 MR
 have a4:Dz W2 (some ⟨G,0,none⟩) [MR]:=λ_=>⟨G,0,rfl,λk x hx=>by
  cases k with
  | zero=>simp at hx;subst hx;exact aJ
  | succ k=>simp at hx⟩
 have a3:Below x0 w W2:=aF.trans (ao.mono (by have:=aF.size;rw[<-ar.o]at this;exact this));have aO:=S1.Db.below az (B:=w1.heap.size) a5 ao;have af:am<=W2.heap.size:=AF a5 ao.size;have aB:Hid (∀V,Below x0 w V->ML V):=Jy (λV hV=>aY.o.below hV aP);have B2:=Jy (Vf hP (some ⟨G,0,none⟩) 1 [MR] W2 x0 am x0 L1 m0 a0.wf aO af (aB.o _ a3) aP a4 (by decide) (λx hx=>by simp at hx;subst hx;decide) (λx hx=>by simp at hx;subst hx;decide));have aG:Hid (W2=w1.alloc (.cells #[.string { data:=#[102] },.bool false,.string { data:=#[120] },.int .i64 7,.int .i64 8] 39)):=Jy ac;have HG:=Jy hG;have a7:=Jy a4;have ah:=Jy a3;have ae:=Jy a0;have b0:G<W2.heap.size:=by rw[hG,ac];simp
 have b8:am<=G:=by rw[hG];exact a5
 clear az aF aR ac ao aJ a4 a3 aO a0 hG N1;go_wp2_with (first | (rw[<-aG.o,<-HG.o]) | (rw[<-aG.o]) | fail);refine B2.o.mono ?_;rintro e w3 (⟨aT,_⟩ | ⟨_,t,hT,rfl,aA,a9⟩)
 ·rw[(O5 _).2 I9]at aT;cases aT
 have aN:=VW hT;rw[kQ]at aN;have aZ:FE [MR]=18:=by decide
 have aa:S1.Ee m0 t.length=0:=by
  unfold S1.Ee;rw[AC (by rw[ae.o.Da];decide),AC];rw[a2];unfold De;omega
 obtain⟨aK,an⟩:=MU.laid ae.o I9 hT aa;rw[aK];obtain⟨m3,aL⟩:=Jq ((S1.EU m0 t).2);rw[<-aL]at an aA;have aV:x0<=W2.heap.size:=by have:=ah.o.size;rw[<-ar.o]at this;exact this
 have b6:Hid (Below x0 w w3):=Jy (ah.o.trans (a9.below (AB _) aV));have a8:Hid (Dz w3 (some ⟨G,0,none⟩) [MR]):=Jy (a7.o.only (λb off e _=>by cases e;exact a9.block _ b0 (by omega)));have C3:=Jy (S1.LV w3 x0 am x0 L1 m3 an.1 aA (AF af a9.size));have b3:=Jy an;have b7:=a9.size;have aH:x0<=w3.heap.size:=by omega
 clear aK aL an aA a9 hT aa B2 aN aZ a7;go_wp2_with fail;refine C3.o.mono ?_;rintro e w4 ⟨L4,rfl,aE,ai⟩;have ad:=Jy (a8.o.below ai);obtain⟨x4,aI⟩:=Jq w3.heap.size;rw[<-aI]at aE ai aH ⊢;have ax:Hid (Below x0 w w4):=Jy (b6.o.trans (ai.mono aH));have M4:=Jy (ry hP w4 x4 w4.heap.size x4 L4 m3 [MR] I9 b3.o aE (AB _) (aB.o _ ax.o));have au:x0<=w4.heap.size:=by have:=ax.o.size;rw[<-ar.o]at this;exact this
 clear aE ai aI C3 a8;go_wp2_with fail;refine M4.o.mono ?_;rintro e w5 ⟨aW,aX,b5,rfl,aM,aS,-,aC⟩;have av:=Jy (ad.o.below aC);have ay:Hid (Below x0 w w5):=Jy (ax.o.trans (aC.mono au));have aw:x0<=w5.heap.size:=by have:=ay.o.size;rw[<-ar.o]at this;exact this
 have T5:=Jy (UN w5 aW x4 aX b5 (Eb [MR]) aM aS I9.JC (aB.o _ ay.o));rw[Z9,Z9]at T5;clear aM aS aC M4 ad;go_wp2_with fail;refine T5.o.mono ?_;rintro e w6 ⟨aD,v6,rfl,a1⟩;obtain⟨a6,c6,rfl,ag⟩:=OY a1;have S6:=Jy (GD a6 (some ⟨G,0,none⟩) c6 1 [MR] [MR] w6 ag (av.o.below aD) (by decide) (by decide));rw[Cm rfl]at S6;have aU:Hid (Below x0 w w6):=Jy (ay.o.trans (aD.mono aw));clear aD a1 ag T5;go_wp2_with fail;refine S6.o.mono ?_;rintro e w7 ⟨rfl,q,aQ⟩;have b4:Hid (Below x0 w w7):=Jy (by rw[aQ];exact Ph aU.o q);clear aQ S6;go_wp2_with fail;go_ret
 exact⟨rfl,b4.o⟩
variable {u:Bs->Option Bs} {w' w:D7} {z0 sb n sa:Nat} {RA RB:Nat->Prop} {A B:Sv} {dA dB:Sd}
theorem jg(bl pg:Int)(n:Nat)(z:Nat->Int):S1.Lj (S1.Jl bl pg n z):=by
 have a0:∀f,¬f∈S1.IK (S1.Jl bl pg n z):=λf hf=>by
  obtain⟨i,p,q,a1,a2,a3,rfl⟩:=S1.Jc.1 hf;have e:(S1.Jl bl pg n z).pg i p=[]:=rfl;rw[e,S1.Ft (by decide)]at a3;cases a3
 exact⟨λf hf=>absurd hf (a0 f),λf hf=>absurd hf (a0 f)⟩
def UD(lo hi:Nat)(L:S1.Loc)(m:S1.M):Sd:=⟨lo,hi,L,m,[],[],[],[],0,0⟩
theorem Wz{lo hi:Nat}{L:S1.Loc}{bl pg:Int}{z:Nat->Int}(hz:z0<=lo)(h0:0<z0)(h1:hi<=sb)(h2:sb<w'.heap.size)(hlh:lo<=hi)(hC:S1.CP w' lo hi lo L (S1.Jl bl pg n z))(hs:Dh w' sb (PO lo (S1.Dt (S1.Jl bl pg n z)))) :
 ED u w' sb (λk=>k<z0) (PO lo (S1.Dt (S1.Jl bl pg n z))) (UD lo hi L (S1.Jl bl pg n z)) 0 where
 side:=hs
 E2:=hC
 wf:=S1.Ly _ _ _ _
 hi:=by show hi<=_;omega
 lo:=by show 0<lo;omega
 fs:=λfb hf=>by cases hf
 may:=⟨⟨rfl,.inl ⟨rfl,rfl⟩⟩,λy hy=>by cases hy⟩
 FV:=⟨(λk hk=>by cases hk),(λy hy=>by cases hy)⟩
 li:=⟨⟨rfl,.inl ⟨rfl,rfl⟩⟩,λi e he=>by simp[UD]at he⟩
 tx:=⟨⟨rfl,.inl ⟨rfl,rfl⟩⟩,λi e he=>by simp[UD]at he⟩
 lj:=⟨rfl,AB _⟩
 tk:=⟨rfl,AB _⟩
 mn:=AU _
 mu:=λk hk=>by
  rcases hk with hk | hk | hk | hk
  ·exact⟨by omega,by omega⟩
  ·have h3:lo<=k:=hk.1;have h4:k<hi:=hk.2;exact⟨by omega,by omega⟩
  ·cases hk
  cases hk
 ap:=⟨by show ¬(lo<=sb/\sb<hi);omega,(λk hk=>by cases hk),(λk hk=>by cases hk)⟩
 En:=AB _
 K3:=λ_=>jg _ _ _ _
 Fi:=λe=>by cases e
 find:=λe=>by cases e
 rl:=λk hk=>by omega
structure O4 (u:Bs->Option Bs) (w:D7) (z0 sa sb:Nat) (RA RB:Nat->Prop) (A B:Sv) (dA dB:Sd) (n:Nat):Prop where
 a:ED u w sa RA A dA n
 b:ED u w sb RB B dB n
 ra:∀k,k<z0->RA k
 rb:∀k,k<z0->RB k
 ab:∀k,Mu sa A dA k->¬RB k/\¬Mu sb B dB k
 ba:∀k,Mu sb B dB k->¬RA k
theorem O4.swap(h:O4 u w z0 sa sb RA RB A B dA dB n):O4 u w z0 sb sa RB RA B A dB dA n:=
 ⟨h.b,h.a,h.rb,h.ra,λk hk=>⟨h.ba k hk,λe=>(h.ab k e).2 hk⟩,λk hk=>(h.ab k hk).1⟩
def Gn(u:Bs->Option Bs)(w:D7)(z0 sa sb n:Nat):Prop:=∃RA RB A B dA dB,O4 u w z0 sa sb RA RB A B dA dB n
theorem Gn.swap(h:Gn u w z0 sa sb n):Gn u w z0 sb sa n:=by
 obtain⟨RA,RB,A,B,dA,dB,h⟩:=h;exact⟨RB,RA,B,A,dB,dA,h.swap⟩
theorem O4.below(h:O4 u w z0 sa sb RA RB A B dA dB n)(hb:Below w.heap.size w w'):O4 u w' z0 sa sb RA RB A B dA dB n:=
 ⟨h.a.below hb,h.b.below hb,h.ra,h.rb,h.ab,h.ba⟩
theorem Gn.below(h:Gn u w z0 sa sb n)(hb:Below w.heap.size w w'):Gn u w' z0 sa sb n:=by
 obtain⟨RA,RB,A,B,dA,dB,h⟩:=h;exact⟨RA,RB,A,B,dA,dB,h.below hb⟩
theorem Gn.later{n':Nat}(h:Gn u w z0 sa sb n)(hn:n<=n'):Gn u w z0 sa sb n':=by
 obtain⟨RA,RB,A,B,dA,dB,h⟩:=h;exact⟨RA,RB,A,B,dA,dB,h.a.later hn,h.b.later hn,h.ra,h.rb,h.ab,h.ba⟩
theorem O4.step(h:O4 u w z0 sa sb RA RB A B dA dB n)(hz:z0<=w.heap.size)(hS:EM u w sa RA A dA (n+1) w'):Gn u w' z0 sa sb (n+1)/\Below z0 w w':=by
 obtain⟨A',a1,a0,h1,h2,h3,h4,h5⟩:=hS;refine⟨⟨a0,RB,A',B,a1,dB,h1,(h.b.keep h5.size (λk hk=>h5.block k ?_ (λe => ?_))).later (Cp n),λk hk=>h2 k (h.ra k hk),h.rb,λk hk => ?_,λk hk hr => ?_⟩,⟨h5.os,h5.tape,h5.output,h5.size,λk hk=>h5.block k (by omega) (λe=>(h.a.mu k e).1 (h.ra k hk))⟩⟩
 ·exact hk.elim (λe=>(h.b.mu k e).2) (λe=>h.b.rl k e)
 ·exact hk.elim (λe2=>(h.ab k e).2 e2) (λe2=>(h.ab k e).1 e2)
 ·rcases h4 k hk with e | e
  ·exact h.ab k e
  exact⟨λhr=>by have:=h.b.rl k hr;omega,λhm=>by have:=(h.b.mu k hm).2;omega⟩
 rcases h3 k hr with e | e
 ·exact h.ba k hk e
 have:=(h.b.mu k hk).2;omega
theorem nN{w1 w2:D7}{hiA hiB:Nat}{LA LB:S1.Loc}{blA pgA blB pgB:Int}{nA nB:Nat}{zA zB:Nat->Int}(hz:z0<=w.heap.size)(h0:0<z0)
 (a1:hiA<=sa) (a2:sa<w1.heap.size) (a3:S1.CP w1 w.heap.size hiA w.heap.size LA (S1.Jl blA pgA nA zA)) (a4:Dh w1 sa (PO w.heap.size (S1.Dt (S1.Jl blA pgA nA zA)))) (a5:Below w.heap.size w w1) (a6:w.heap.size<=hiA)
 (b1:hiB<=sb) (b2:sb<w2.heap.size) (b3:S1.CP w2 w1.heap.size hiB w1.heap.size LB (S1.Jl blB pgB nB zB)) (b4:Dh w2 sb (PO w1.heap.size (S1.Dt (S1.Jl blB pgB nB zB)))) (b5:Below w1.heap.size w1 w2) (b6:w1.heap.size<=hiB):Gn u w2 z0 sa sb 0:=by
 have s1:=a5.size;have A:=(Wz (u:=u) hz h0 a1 a2 a6 a3 a4).below b5;have B:=Wz (u:=u) (z0:=z0) (by omega) h0 b1 b2 b6 b3 b4;refine⟨_,_,_,_,_,_,A,B,λk hk=>hk,λk hk=>hk,λk hk=>⟨(A.mu k hk).1,λhm => ?_⟩,λk hk=>(B.mu k hk).1⟩;have a0:k<w1.heap.size:=by
  rcases hk with hk | hk | hk | hk
  ·omega
  ·have:k<hiA:=hk.2;omega
  ·cases hk
  cases hk
 rcases hm with hm | hm | hm | hm
 ·omega
 ·have:w1.heap.size<=k:=hm.1;omega
 ·cases hm
 cases hm
theorem Kh.of_below{R:Nat->Prop}{o:Gi}{l:List It}(h:Kh w (λk=>k<z0) o l)(hb:Below z0 w w')(hR:∀k,k<z0->R k):Kh w' R o l:=
 ⟨h.len,h.nil,h.E9.only (λb off e hne=>hb.block b (h.NH b off e (Bt.2 hne))),λb off e h0=>hR b (h.NH b off e h0),h.small,h.p,h.d,h.path,h.data,h.b1,h.b2⟩
theorem Gn.steps(hP:Fj u){w0:D7}(h:Gn u w z0 sa sb n)(hz:z0<=w.heap.size)(hml:ML w)(hn:n<=100000000)(hb:Below z0 w0 w)(o:Gi)(l:List It)(ho:Kh w0 (λk=>k<z0) o l)(hk8:8<=o.kind)(hk13:o.kind≠13) :
 Calls prog 31 #[.pointer (some ⟨sa,0,none⟩),Lz o] w λe w'=>e=.returned (.bool true)/\Gn u w' z0 sa sb (n+1)/\Below z0 w w':=by
 obtain⟨RA,RB,A,B,dA,dB,h⟩:=h;exact(iI hP h.a hml hn o l (ho.of_below hb h.ra) hk8 hk13).mono (λe w' hh=>⟨hh.1,h.step hz hh.2⟩)
theorem Gn.looks(h:Gn u w z0 sa sb n)(hn:n<=100000001) :
 Calls prog 32 #[.pointer (some ⟨sa,0,none⟩)] w λe w'=>e=.returned (.bool true)/\Below w.heap.size w w':=by
 obtain⟨RA,RB,A,B,dA,dB,h⟩:=h;exact qc w sa A RA dA.es dA.ts h.a.side h.a.li h.a.tx (by have:=h.a.lj;omega) (by have:=h.a.tk;omega)
def OQ(w:D7)(b o:Nat)(x:Gi):Prop:=
 w.cell? ⟨b,o,none⟩=some (.int .i64 x.kind)/\w.cell? ⟨b,o+1,none⟩=some (.slice x.tree.1 x.tree.2.1 x.tree.2.2)/\w.cell? ⟨b,o+2,none⟩=some (.string (D9 x.path))/\w.cell? ⟨b,o+3,none⟩=some (.string (D9 x.dst))/\w.cell? ⟨b,o+4,none⟩=some (.string (D9 x.data))/\w.cell? ⟨b,o+5,none⟩=some (.int .i64 x.a)/\w.cell? ⟨b,o+6,none⟩=some (.int .i64 x.b)/\w.cell? ⟨b,o+7,none⟩=some (.bool x.other)
def MO(w:D7)(a:Option Addr)(n:Nat)(f:Nat->Gi):Prop:=0<n->∃b off,a=some ⟨b,off,none⟩/\∀k,k<n->OQ w b (off+k*8) (f k)
theorem OQ.below{w w':D7}{b o:Nat}{x:Gi}(h:OQ w b o x)(hb:Below w.heap.size w w'):OQ w' b o x:=by
 obtain⟨a0,a1,a2,a3,a4,a5,a6,a7⟩:=h;have hl:b<w.heap.size:=Aj _ _ a0;exact⟨(hb.cell hl).trans a0,(hb.cell hl).trans a1,(hb.cell hl).trans a2,(hb.cell hl).trans a3,(hb.cell hl).trans a4,(hb.cell hl).trans a5,(hb.cell hl).trans a6,(hb.cell hl).trans a7⟩
theorem rh{u:Bs->Option Bs}(hP:Fj u)(w:D7)(hml:ML w)(bl pg:Int)(ba:Option Addr)(bn bc:Nat)(z:Nat->Int)(hbn:bn<=17592186043904)(hba:S1.IntsIn w ba bn z)(sa:Option Addr)(N C:Nat)(ops:Nat->Gi)(ls:Nat->List It)(hN:N<=1048576)(hops:MO w sa N ops)(hok:∀k,k<N->Kh w (λx=>x<w.heap.size) (ops k) (ls k)) :
 Calls prog 8 #[.int .i64 bl,.int .i64 pg,.slice ba bn bc,.slice sa N C,.bool false] w λe w'=>e=.returned (.bool true)/\Below w.heap.size w w':=by
 have LI:=Jy (iu hP w hml);obtain⟨z0,a7⟩:=Jq w.heap.size;have aF:0<z0:=by rw[a7];exact hml.lt
 have aO:Hid (∀V,Below z0 w V->S1.IntsIn V ba bn z):=Jy (λV hV=>hba.below (by rw[<-a7];exact hV));have am:Hid (∀V,Below z0 w V->MO V sa N ops):=Jy (λV hV h0=>by
  obtain⟨b,off,e,h1⟩:=hops h0;exact⟨b,off,e,λk hk=>(h1 k hk).below (by rw[<-a7];exact hV)⟩)
 have aJ:=Jy hok;rw[<-a7]at LI aJ ⊢;have a8:=Jy a7;have aE:Hid (∀V,Below z0 w V->ML V):=Jy (λV hV=>hml.below hV aF);clear hml hba hops hok a7;go_enter func8,ntmps8
 go_wp2_with fail;refine LI.o.mono ?_;rintro e w1 ⟨rfl,ax⟩;have aj:=Jy ax;have au:z0<=w1.heap.size:=by have:=ax.size;rw[<-a8.o]at this;exact this
 clear ax LI;go_wp2_with fail;refine(o4 w1).mono ?_;rintro e w' ⟨rfl,hw⟩;have af:=hw.symm;subst af;clear hw;go_wp2_with fail;refine(gq w1).mono ?_;rintro e w' ⟨rfl,hw⟩;have af:=hw.symm;subst af;clear hw;have F1:=Jy (X3 w1 bl pg ba bn bc z hbn (aO.o _ aj.o));go_wp2_with fail;refine F1.o.mono ?_;rintro e w2 ⟨LA,aT,sA,rfl,a1,a2,a3,a4,a5⟩;have F2:=Jy (X3 w2 pg bl none 0 0 (λ_=>0) (by omega) (λh=>absurd h (by decide)));have ar:=Jy a3;have aC:=Jy a4;have ae:=Jy a5;have aB:Hid (Below z0 w w2):=Jy (aj.o.trans (a5.mono au));clear a3 a4 a5 F1;go_wp2_with fail;refine F2.o.mono ?_;rintro e w3 ⟨LB,aU,sB,rfl,b1,b2,b3,b4,b5⟩;have ag:=ae.o.size;have HT:Hid (Gn u w3 z0 sA sB 0):=Jy (nN au aF a1 a2 ar.o aC.o ae.o (by have:=S1.Db.Fg ar.o;omega) b1 b2 b3 b4 b5 (by have:=S1.Db.Fg b3;omega))
 have aL:Hid (Below z0 w w3):=Jy (aB.o.trans (b5.mono (by omega)));clear F2 b1 b2 b3 b4 b5 a1 a2 ar aC ae aB ag au aj;go_wp2_with fail
 go_loopw [17] (λi wr=>∃k:Nat,k<=N/\i=.int .i64 k/\Hid (Gn u wr z0 sA sB k)/\Hid (Below z0 w wr)) (λi _=>N - (intOf i).toNat)
 case atStart=>exact⟨0,AU _,rfl,HT,aL⟩
 case round =>
  clear HT aL;obtain⟨k,hk,rfl,HT,HB⟩:=hrel;by_cases aD:k<N
  ·have ah:(k:Int)<(N:Int):=by omega
   have aS:(0:Int)<=(k:Int):=by omega
   obtain⟨b,off,aM,hx⟩:=am.o wr HB.o (by omega);subst aM;have ay:=hx k aD;have ho:=aJ.o k aD;have aA:z0<=wr.heap.size:=by have:=HB.o.size;rw[<-a8.o]at this;exact this
   have ST:=Jy (λaw a0=>HT.o.steps hP aA (aE.o _ HB.o) (by omega) HB.o (ops k) (ls k) ho aw a0);have SU:=Jy (λaw a0=>HT.o.swap.steps hP aA (aE.o _ HB.o) (by omega) HB.o (ops k) (ls k) ho aw a0);obtain⟨o,aG⟩:=Jq (ops k);rw[<-aG]at ay ST SU;clear hx ho aG;obtain⟨kd,⟨t1,t2,t3⟩,pa,tp,da,oa,aR,ot⟩:=o;obtain⟨y0,y1,y2,y3,y4,y5,y6,y7⟩:=ay;dsimp only at y0 y1 y2 y3 y4 y5 y6 y7;unfold Lz Gi.arr at ST SU;dsimp only at ST SU;by_cases ad:kd<=7\/kd=13
   ·have aH:=Jy (HT.o.later (Cp k));clear ST SU HT;rcases ad with h7 | rfl
    ·go_wp2_with fail;go_roundw
     case rel=>exact⟨k+1,by omega,by go_num,aH,HB⟩
     case measure=>simp[intOf];omega
    go_wp2_with fail;go_roundw
    case rel=>exact⟨k+1,by omega,by go_num,aH,HB⟩
    case measure=>simp[intOf];omega
   have h7:¬kd<=7:=λe=>ad (.inl e)
   have az:kd≠13:=λe=>ad (.inr e)
   have SS:=Jy (ST.o (by omega) az);have SV:=Jy (SU.o (by omega) az);clear ST SU ad HT;cases ot
   focus
    clear SV;go_wp2_with fail;refine SS.o.mono ?_;rintro e w5 ⟨rfl,a6,a9⟩;have ac:Hid (Below z0 w w5):=Jy (HB.o.trans (a9.mono (AB _)));have L5:=Jy (a6.looks (by omega));have ao:=Jy a6;have aK:z0<=w5.heap.size:=by have:=ac.o.size;rw[<-a8.o]at this;exact this
    clear a6 a9 SS y0 y1 y2 y3 y4 y5 y6 y7
   rotate_left
   focus
    clear SS;go_wp2_with fail;refine SV.o.mono ?_;rintro e w5 ⟨rfl,aa,a9⟩;have a6:=aa.swap;have ac:Hid (Below z0 w w5):=Jy (HB.o.trans (a9.mono (AB _)));have L5:=Jy (a6.looks (by omega));have ao:=Jy a6;have aK:z0<=w5.heap.size:=by have:=ac.o.size;rw[<-a8.o]at this;exact this
    clear a6 aa a9 SV y0 y1 y2 y3 y4 y5 y6 y7
   rotate_left
   all_goals
    go_wp2_with fail;refine L5.o.mono ?_;rintro e w6 ⟨rfl,av⟩;have an:=Jy (ao.o.below av);have aI:Hid (Below z0 w w6):=Jy (ac.o.trans (av.mono aK));have aN:z0<=w6.heap.size:=by have:=aI.o.size;rw[<-a8.o]at this;exact this
    have L6:=Jy (an.o.swap.looks (by omega));clear av L5 ao;go_wp2_with fail;refine L6.o.mono ?_;rintro e w7 ⟨rfl,ai⟩;have aQ:=Jy (an.o.below ai);have aP:Hid (Below z0 w w7):=Jy (aI.o.trans (ai.mono aN));clear ai L6 an;go_wp2_with fail;go_roundw
    case rel=>exact⟨k+1,by omega,by go_num,aQ,aP⟩
    case measure=>simp[intOf];omega
  have ah:¬(k:Int)<(N:Int):=by omega
  clear HT;go_wp2_with fail;go_ret
  exact⟨rfl,HB.o⟩
theorem rF{u:Bs->Option Bs}(hP:Fj u)(w:D7)(hml:ML w)(bl pg:Int)(ba:Option Addr)(bn bc:Nat)(z:Nat->Int)(hbn:bn<=17592186043904)(hba:S1.IntsIn w ba bn z)(sa:Option Addr)(N C:Nat)(ops:Nat->Gi)(ls:Nat->List It)(hN:N<=1048576)(hops:MO w sa N ops)(hok:∀k,k<N->Kh w (λx=>x<w.heap.size) (ops k) (ls k)) :
 Calls prog 3 #[.int .i64 bl,.int .i64 pg,.slice ba bn bc,.slice sa N C] w λe w'=>e=.returned (.bool true)/\Below w.heap.size w w':=by
 have P:=Jy (rh hP w hml bl pg ba bn bc z hbn hba sa N C ops ls hN hops hok);clear hml hba hops hok;go_enter func3,ntmps3
 go_wp2_with fail;refine P.o.mono ?_;rintro e w1 ⟨rfl,a0⟩;have a1:=Jy a0;clear a0 P;go_wp2_with fail;go_ret
 exact⟨rfl,a1.o⟩
end
namespace S1
open Go.RowKit Pk
structure MD (D:DataW Unit) (mp:D8->Option Nat):Prop where
 is:Maps.IsMap D
 no:∀s,mp s=none->Maps.has D (.string s)=false
 yes:∀s v,mp s=some v->Maps.has D (.string s)=true/\D.atKey (.string s) (.lit (.int .i64 0))=.lit (.int .i64 (v:Nat))
theorem MD.nil:MD (.map []) (λ_=>none):=⟨Maps.isMap_empty,λ_ _=>rfl,λ_ _ h=>by cases h⟩
theorem MD.put{D:DataW Unit}{mp:D8->Option Nat}(h:MD D mp)(k:D8)(v:Nat):MD (D.put (.string k) (.lit (.int .i64 v))) (λs=>if s=k then some v else mp s):=by
 have hk:WideAt.IsKeyLit (Lit.string k):=trivial;refine⟨h.is.put _ _,λs hs => ?_,λs u hs => ?_⟩
 ·by_cases e:s=k
  ·rw[AE e]at hs;cases hs
  rw[AC e]at hs;rw[Bk (λe2=>e (by injection e2))];exact h.no s hs
 by_cases e:s=k
 ·rw[AE e]at hs;cases hs
  subst e;exact⟨Cj h.is hk _,DG h.is hk _ _⟩
 rw[AC e]at hs;rw[Bk (λe2=>e (by injection e2)),DD (λe2=>e (by injection e2))];exact h.yes s u hs
structure PM (w:D7) (B pb mb bb:Nat) (d:D8) (m:Nat) (mp:D8->Option Nat) (bf:Nat->Int):Prop where
 hp:B<=pb
 hm:B<=mb
 hb:B<=bb
 st:w.heap[pb]? = some (.cells #[.string (D9 d),.map (some mb),.slice (some ⟨bb,0,none⟩) d.length d.length] 337 (0,0))
 mo:∃D,w.ownsMap prog 9 (plainElem prog 3) mb m D/\MD D mp
 bo:w.rowIs bb 3 d.length (λj=>.int .i64 (bf j))
def Dq(d:D8)(v:Nat):D8:=(d.drop v).take 3
theorem ZF(w:D7)(pb a:Nat)(d:D8)(x y:Value)(hd:d.length<=4000)(ha:a<=4000)(h:d.length<a+3)(hst:w.heap[pb]? = some (.cells #[.string (D9 d),x,y] 337 (0,0))) :
 Calls prog 307 #[.pointer (some ⟨pb,0,none⟩),.int .i64 a] w λe w'=>e=.returned (.tuple #[.string ⟨#[]⟩,.bool false])/\w'=w:=by
 have x0:w.cell? ⟨pb,0,none⟩=some (.string (D9 d)):=by rw[AG w pb 0 _ 337 (0,0) hst];rfl
 have hs:(D9 d).size=d.length:=Dd d
 generalize D9 d=t at *
 have h1:(t.size:Int)<(a:Int)+3:=by omega
 clear hst hs;go_enter func307,ntmps307
 go_wp2;go_ret2
 exact⟨rfl,rfl⟩
theorem X6(w:D7)(pb a:Nat)(d:D8)(x y:Value)(hd:d.length<=4000)(h:a+3<=d.length)(hst:w.heap[pb]? = some (.cells #[.string (D9 d),x,y] 337 (0,0))) :
 Calls prog 307 #[.pointer (some ⟨pb,0,none⟩),.int .i64 a] w λe w'=>e=.returned (.tuple #[.string (D9 (Dq d a)),.bool true])/\w'=w:=by
 have x0:w.cell? ⟨pb,0,none⟩=some (.string (D9 d)):=by rw[AG w pb 0 _ 337 (0,0) hst];rfl
 have hs:(D9 d).size=d.length:=Dd d;have a0:=Jb d a (a+3);have a1:Hid ((D9 d).extract a (a+3)=D9 (Dq d a)):=by
  show _=_;rw[a0];unfold Dq;rw[show a+3 - a=3 by omega]
 generalize D9 d=t at *
 have h1:¬(t.size:Int)<(a:Int)+3:=by omega
 have h2:a+3<=t.size:=by omega
 have h4:t.size<=4000:=by omega
 clear hst a0 hs;go_enter func307,ntmps307
 go_wp2;go_ret2
 refine⟨?_,rfl⟩;rw[<-a1.o];rfl
theorem jY(w:D7)(pb a f:Nat)(d:D8)(x y:Value)(hd:d.length<=4000)(hf:f<a)(ha:a<=d.length)(hst:w.heap[pb]? = some (.cells #[.string (D9 d),x,y] 337 (0,0))) :
 Calls prog 309 #[.pointer (some ⟨pb,0,none⟩),.int .i64 f,.int .i64 a] w λe w'=>∃k q:Nat,e=.returned (.int .i64 k)/\w'=w.drewN q/\k<=34/\a+k<=d.length/\(∀j,j<k->d.getD (f+j) 0=d.getD (a+j) 0)/\(k=34\/a+k=d.length\/d.getD (f+k) 0≠d.getD (a+k) 0):=by
 have x0:w.cell? ⟨pb,0,none⟩=some (.string (D9 d)):=by rw[AG w pb 0 _ 337 (0,0) hst];rfl
 have hs:(D9 d).size=d.length:=Dd d;have a2:∀k (h:k<(D9 d).size),((D9 d)[k]'h).toNat=(d.getD k 0).toNat:=λk h=>by rw[MP]
 generalize D9 d=t at *
 have Hs:=Jy hs;have a4:=Jy a2;clear hst a2 hs;go_enter func309,ntmps309
 go_wp2
 go_loopw [7] (λi wr=>∃k q:Nat,i=.int .i64 k/\wr=w.drewN q/\k<=34/\a+k<=d.length/\Hid (∀j,j<k->d.getD (f+j) 0=d.getD (a+j) 0)) (λi _=>34 - (intOf i).toNat)
 case atStart=>exact⟨0,0,rfl,rfl,by omega,by omega,λj hj=>by omega⟩
 case round =>
  obtain⟨k,q,rfl,rfl,hk,a9,Hk⟩:=hrel;have a0:=Hs.o;have x1:(w.drewN q).cell? ⟨pb,0,none⟩=some (.string t):=x0;by_cases a5:k=34
  ·have g1:decide ((k:Int)<34)=false:=by simp;omega
   have a3:=Jy a0;clear a0;go_wp2
   go_quiet (fail)
   go_wp2;go_ret
   exact⟨k,_,rfl,by simp only[DN,World.drew_drewN];rfl,by omega,by omega,Hk.o,.inl a5⟩
  have g1:decide ((k:Int)<34)=true:=by simp;omega
  by_cases a7:a+k=d.length
  ·have g2:decide ((a:Int)+(k:Int)<(t.size:Int))=false:=by simp;omega
   have a3:=Jy a0;clear a0;go_wp2
   go_quiet (fail)
   go_wp2;go_ret
   exact⟨k,_,rfl,by simp only[DN,World.drew_drewN];rfl,by omega,by omega,Hk.o,.inr (.inl a7)⟩
  obtain⟨A,hA⟩:=Jq (a+k);obtain⟨F,hF⟩:=Jq (f+k);have g2:decide ((A:Int)<(t.size:Int))=true:=by simp;omega
  have i1:F<t.size:=by omega
  have i2:A<t.size:=by omega
  have e1:=a4.o F i1;have e2:=a4.o A i2;have aa:t.size<=4000:=by omega
  have w1:IntKind.i64.wrap ((a:Int)+(k:Int))=(A:Int):=by rw[Av];omega
  have w2:IntKind.i64.wrap ((f:Int)+(k:Int))=(F:Int):=by rw[Av];omega
  have v1:(a:Int)+(k:Int)=(A:Int):=by omega
  have v2:(f:Int)+(k:Int)=(F:Int):=by omega
  have a1:k+1<=34/\a+(k+1)<=d.length:=by omega
  have HA:=Jy hA;have HF:=Jy hF;have a3:=Jy a0;by_cases hc:d.getD F 0=d.getD A 0
  ·have a6:Hid (∀j,j<k+1->d.getD (f+j) 0=d.getD (a+j) 0):=λj hj=>by
    by_cases e:j=k
    ·subst e;rw[<-HA.o,<-HF.o];exact hc
    exact Hk.o j (by omega)
   rw[<-hc]at e2
   generalize (d.getD F 0).toNat=u at *
   clear a0 hc Hk hA hF;go_wp2
   go_quiet (fail)
   go_wp2;go_roundw
   case rel=>exact⟨k+1,_,by go_num,by first | rfl | trivial | (simp only[DN,World.drew_drewN];rfl),a1.1,a1.2,a6⟩
   case measure=>simp[intOf];omega
  have a8:(d.getD F 0).toNat≠(d.getD A 0).toNat:=λh=>hc (BL.1 h)
  have Hc:=Jy hc
  generalize (d.getD F 0).toNat=u at *
  generalize (d.getD A 0).toNat=v at *
  have g3:((u:Int)==(v:Int))=false:=by simp;omega
  clear a0 hc hA hF;go_wp2
  go_quiet (fail)
  go_wp2;go_ret
  exact⟨k,_,rfl,by simp only[DN,World.drew_drewN];rfl,by omega,by omega,Hk.o,.inr (.inr (by rw[<-HA.o,<-HF.o];exact Hc.o))⟩
def NQ:Option Nat->Int
 | some v=>(v:Int)
 | none => -1
theorem MH:Maps.Keyed prog 9:=Maps.string_keyed underlying9
theorem Zm(w:D7)(B pb mb bb m:Nat)(d s:D8)(mp:D8->Option Nat)(bf:Nat->Int)(hs:s.length<=4000)(h:PM w B pb mb bb d m mp bf) :
 Calls prog 308 #[.pointer (some ⟨pb,0,none⟩),.string (D9 s)] w λe w'=>e=.returned (.int .i64 (NQ (mp s)))/\w'=w:=by
 obtain⟨D,hD,a4⟩:=h.mo;have x1:w.cell? ⟨pb,1,none⟩=some (.map (some mb)):=by rw[AG w pb 1 _ 337 (0,0) h.st];rfl
 have a1:keyOf prog 9 (.string (D9 s))=some (.string s):=WideMaps.keyOf_string_mk underlying9 (by rw[Dd];unfold maxLen;omega);have hz:(zeroValue 3).run prog w=.ok (.int .i64 0) w:=by
  obtain⟨i0,hi,a7,_⟩:=Ai JQ;simp[zeroValue,typeInfo,hi,a7]
 have a3:=Jy a4;clear h a4
 generalize D9 s=t at *
 go_enter func308,ntmps308
 cases hm:mp s with
 | none =>
   have a8:=a3.o.no s hm;go_wp2_with (at_lookup;refine wpList_lookup_own_ok_int _ rfl _ _ 335 rfl 9 3 .i64 MH underlying335 underlying3 hz mb m D rfl hD _ (.string s) rfl a1 ?_;intro c a2 a6);go_ret
   exact⟨rfl,rfl⟩
 | some v =>
   have a0:=a3.o.yes s v hm;have a9:=a0.1;have a5:=Jy a0.2;clear a0;go_wp2_with (at_lookup;refine wpList_lookup_own_ok_int _ rfl _ _ 335 rfl 9 3 .i64 MH underlying335 underlying3 hz mb m D rfl hD _ (.string s) rfl a1 ?_;intro c a2 a6);go_ret
   rw[a5.o]at a2
   injection a2 with h1
   injection h1 with h2 h3
   exact⟨KH (by rw[<-h3];rfl),rfl⟩
end S1
end Go.Proofs.YtodmdkhdbfbfgaaGreatDoor
