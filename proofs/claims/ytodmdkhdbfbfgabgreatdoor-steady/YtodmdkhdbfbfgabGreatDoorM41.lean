/- Lemmas. -/
import Derived.StringKeys
import Derived.Maps.Views
import Derived.Test.YtodmdkhdbfbfgabGreatDoorM40
set_option linter.unusedVariables false
set_option linter.unusedSimpArgs false
set_option maxRecDepth 100000
set_option maxHeartbeats 8000000
namespace Go.Proofs.YtodmdkhdbfbfgabGreatDoor
open Go.RowKit Go.Nt
theorem qgn {u:Bs→Option Bs} (hP:PackC u) (ra:Option Addr) (rn rc:Nat) (zr:Nat→Int) (tm sz bl pg:Int) (w:World) (hml:ML w) (hrn:rn≤9223372036854775807) (hra:S1.IntsIn w ra rn zr) (hzr:∀ k,k<rn → -9223372036854775808≤zr k∧zr k≤9223372036854775807)
 (ht1:-9223372036854775808≤tm) (ht2:tm≤9223372036854775807) (hs1:-9223372036854775808≤sz) (hs2:sz≤9223372036854775807) (hb1:-9223372036854775808≤bl) (hb2:bl≤9223372036854775807) (hp1:-9223372036854775808≤pg) (hp2:pg≤9223372036854775807) :
 Calls Tryz.prog 3 #[.slice ra rn rc,.int .i64 tm,.int .i64 sz,.int .i64 bl,.int .i64 pg] w fun e w'=>e=.returned (.bool true)∧Below w.heap.size w w':=by
 have HP1:=hidI (fun w=>qb9 tm 60 w ht1 ht2 (by decide) (by decide));have hk1:=qb3 tm 60 (by decide);obtain ⟨nT,hnT⟩:∃ x,x=pickF tm 60:=⟨_,rfl⟩;rw [←hnT] at HP1 hk1;have N1:=hidI (S1.new_any w bl pg none 0 0 (fun _=>0) (by omega) (fun h=>absurd h (by decide)));have hnew:=qmG bl pg (fun _=>0);have hroom:=qmh bl pg (fun _=>0);obtain ⟨m,hm⟩:∃ m,m=S1.mkM bl pg 0 (fun _=>0):=⟨_,rfl⟩;rw [←hm] at N1 hnew hroom;have hwf:=hnew.wf;obtain ⟨w1b,w2b,w3b,w4b⟩:4≤m.nb∧m.nb≤32∧4≤m.np∧m.np≤16:=⟨hwf.nb1,hwf.nb2,hwf.np1,hwf.np2⟩;have hpr1:16≤m.nb*m.np:=Nat.mul_le_mul w1b w3b;have hpr2:m.nb*m.np≤512:=Nat.mul_le_mul w2b w4b;have H4:Hid (4≤m.nb∧m.nb≤32∧4≤m.np∧m.np≤16):=hidI ⟨w1b,w2b,w3b,w4b⟩;have Hml:=hidI hml;have Hra:=hidI hra;have Hzr:=hidI hzr;have Hnew:=hidI hnew;have Hroom:=hidI hroom;obtain ⟨B,hB⟩:∃ B,B=w.heap.size:=⟨_,rfl⟩;have hB0:0<B:=by rw [hB];exact hml.lt
 have HB:=hidI hB;clear hm hnT hml hra hzr hnew hroom hwf hB;go_enter Tryz.func3,Tryz.ntmps3
 go_wp2_with fail;refine N1.out.mono ?_;rintro e w1 ⟨L,hi,rfl,hhi,hC,hBw⟩;rw [←HB.out] at hC hBw ⊢;have hroom1:pagesN (weigh []+1)≤S1.roomP m:=by
  rw [Hroom.out]
  have:8≤m.nb/2*m.np:=Nat.mul_le_mul (show 2≤m.nb/2 by omega) w3b
  show (0+1+50)/51≤_;omega
 have M:=hidI (qky hP none 0 [] w1 B hi B L m Hnew.out hC hhi (Hml.out.below hBw hB0) hB0 (fun h=>absurd rfl h) ft_nil.tree hroom1);have HBw:=hidI hBw;rw [List.length_nil] at M;clear hC N1 hroom1 hBw hb1 hb2 hp1 hp2;go_wp2_with fail;refine M.out.mono ?_;rintro e w2 ⟨fb,xb,T0,rfl,hK,hT,hO⟩;have hord:qad ([]:List It)=[]:=by simp [qad]
 rw [hord] at hK;have HK0:=hidI hK;have hBw2:Below B w w2:=HBw.out.trans (hO.below (Nat.le_refl _) (by rw [HB.out] at *;exact HBw.out.size));have HT0:Hid (∀ j,T0 j→B≤j):=hidI (fun j hj=>by have:=hT j hj;have:=HBw.out.size;have:=HB.out;omega);have HB2:=hidI hBw2;obtain ⟨lo2,hi2,L2,m2,hCP,hal⟩:=hK.k.chip;have A1:=hidI (S1.blocks_any w2 lo2 hi2 xb L2 m2 hCP);have A2:=hidI (S1.pages_any w2 lo2 hi2 xb L2 m2 hCP);rw [hal.1] at A1;rw [hal.2.1] at A2;obtain ⟨most,hmost⟩:∃ most,most+17=4*(m.nb*m.np):=⟨4*(m.nb*m.np) - 17,by omega⟩;have emost:((m.nb:Nat):Int)*(m.np:Nat)*4 - 17=(most:Nat):=by
  have:((m.nb*m.np:Nat):Int)=(m.nb:Nat)*(m.np:Nat):=by push_cast;rfl
  rw [←this];omega
 have hm1:1≤most:=by omega
 have hm2:most≤2031:=by omega
 have epr:((m.nb:Nat):Int)*(m.np:Nat)≤512:=by
  have:((m.nb*m.np:Nat):Int)=(m.nb:Nat)*(m.np:Nat):=by push_cast;rfl
  rw [←this];omega
 have epr0:0≤((m.nb:Nat):Int)*(m.np:Nat):=by
  have:((m.nb*m.np:Nat):Int)=(m.nb:Nat)*(m.np:Nat):=by push_cast;rfl
  rw [←this];omega
 have Hmost:=hidI hmost;clear hK hT hO hBw2 M hord hCP hal hpr1 hpr2 w1b w2b w3b w4b hmost;go_wp2_with fail;refine A1.out.mono ?_;rintro e w' ⟨rfl,hw⟩;have hw':=hw.symm;subst hw';clear hw;go_wp2_with fail;refine A2.out.mono ?_;rintro e w' ⟨rfl,hw⟩;have hw':=hw.symm;subst hw';clear hw A1 A2;go_wp2_with fail;have Hfit:Hid (∀ d:Bs,d.length≤most→∀ t,IsText u (qad (fT d)) t→¬S1.roomP m<pagesN t.length):=hidI (fun d hd t ht=>by
  rw [Hroom.out];obtain ⟨a1,a2,a3,a4⟩:=H4.out
  have:=qol a1 a2 a3 a4 (by have:=Hmost.out;omega) ht
  omega)
 have Hfit0:Hid (∀ t,IsText u (qad []) t→¬S1.roomP m<pagesN t.length):=hidI (fun t ht=>by
  rw [Hroom.out];obtain ⟨a1,a2,a3,a4⟩:=H4.out
  have:=qon a1 a3 ht
  omega)
 clear emost epr epr0
 go_loopg [14,15] (20+nT) (fun k s14 s15 wr=>∃ (i n:Nat) (d:Bs) (l:List It) (T:Nat→Prop),s15=.int .i64 (i:Nat)∧s14=.string (txt d)∧i≤20+nT∧20+nT - i≤k∧n≤1+3*i∧d.length≤most∧Hid (0<i→l=fT d)∧Hid (l=[]∨∃ d0,d0.length≤most∧l=fT d0)∧Hid (FsC u wr fb xb T m l n)∧Hid (∀ j,T j→B≤j)∧Hid (Below B w wr))
 case atStart=>exact ⟨0,1,[],[],T0,rfl,rfl,by omega,by omega,by omega,by simp,hidI (fun h=>absurd h (by decide)),hidI (.inl rfl),HK0,HT0,HB2⟩
 case round =>
  clear HK0 HT0 HB2;obtain ⟨i,n,d,l,T,rfl,rfl,hi1,hk,hn,hd,Hl,Hl2,HK,HT,HBr⟩:=hrel;have HBs:Hid (B≤wr.heap.size):=hidI (by have:=HBr.out.size;have:=HB.out;omega);by_cases hlt:i<20+nT
  ·have hlt':((i:Nat):Int)<20+(nT:Nat):=by omega
   obtain ⟨c,hc⟩:∃ c,wrap64 ((i:Nat)+(rn:Nat))=c:=⟨_,rfl⟩;have hcb:-9223372036854775808≤c∧c≤9223372036854775807:=by rw [←hc];unfold wrap64;omega
   have C1:=hidI (qft c sz wr hcb.1 hcb.2 hs1 hs2);go_wp2_with fail;refine (HP1.out _).mono ?_;rintro e w' ⟨rfl,hw⟩;have hw':=hw.symm;subst hw';clear hw;go_wp2_with fail;refine C1.out.mono ?_;rintro e V1 ⟨d1,rfl,hd1,hb1⟩;have C2:=hidI (qe5 d1 most V1 (by omega) (by omega));obtain ⟨X1,hX1⟩:∃ X1,X1=txt d1:=⟨_,rfl⟩;rw [←hX1] at C2 ⊢;have HX1:=hidI hX1;have Hb1:=hidI hb1;clear hX1 hb1 C1;go_wp2_with fail;refine C2.out.mono ?_;rintro e w' ⟨rfl,hw⟩;have hw':=hw.symm;subst hw';clear hw C2;obtain ⟨d2,hd2⟩:∃ d2,d2=d1.take most:=⟨_,rfl⟩;have hd2l:d2.length≤most:=by rw [hd2];simp;omega
   rw [←hd2];clear hd2;obtain ⟨X2,hX2⟩:∃ X2,X2=txt d2:=⟨_,rfl⟩;rw [←hX2];have HX2:=hidI hX2;clear hX2;go_upto_if 63 with fail
   go_cut [14] from 45 to 96 (fun s14 wc=>∃ d3:Bs,s14=.string (txt d3)∧d3.length≤most∧Hid (Below wr.heap.size wr wc))
   case first =>
    by_cases hir:i<rn
    ·have hir':((i:Nat):Int)<(rn:Nat):=by omega
     have hwV:Below w.heap.size w V1:=by rw [←HB.out];exact HBr.out.trans (Hb1.out.mono HBs.out)
     obtain ⟨rb,ro,hrae,hcell⟩:=(Hra.out.below hwV) (by omega);have hcr:=hcell i hir;have hzi:=Hzr.out i hir;have C3:=hidI (qft (zr i) sz V1 hzi.1 hzi.2 hs1 hs2);obtain ⟨zi,hzie⟩:∃ zi,zi=zr i:=⟨_,rfl⟩;rw [←hzie] at C3 hcr;rw [hrae];clear hcell hzie hzi hwV;go_wp2_with fail;refine C3.out.mono ?_;rintro e V2 ⟨d4,rfl,hd4,hb2⟩;have C4:=hidI (qe5 d4 most V2 (by omega) (by omega));obtain ⟨X4,hX4⟩:∃ X4,X4=txt d4:=⟨_,rfl⟩;rw [←hX4] at C4 ⊢;have Hb2:Hid (Below wr.heap.size wr V2):=hidI (Hb1.out.trans (hb2.mono Hb1.out.size));clear hX4 hb2 C3 hcr;go_wp2_with fail;refine C4.out.mono ?_;rintro e w' ⟨rfl,hw⟩;have hw':=hw.symm;subst hw';clear hw C4;obtain ⟨X5,hX5⟩:∃ X5,X5=txt (d4.take most):=⟨_,rfl⟩;rw [←hX5];have HX5:=hidI hX5;clear hX5;go_wp2_with fail;rw [←hrae];go_meet
     case rel=>exact ⟨d4.take most,by rw [HX5.out],by simp;omega,Hb2⟩
    ·have hir':¬((i:Nat):Int)<(rn:Nat):=by omega
     go_wp2_with fail;go_meet
     case rel=>exact ⟨d2,by rw [HX2.out],hd2l,Hb1⟩
   case rest =>
    obtain ⟨d3,rfl,hd3,Hb3⟩:=hcut;clear HX1 HX2 Hb1 hd2l hd1;have hmlc:ML wc:=Hml.out.below (HBr.out.trans (Hb3.out.mono HBs.out)) hB0;have htl:TreeP l:=by
     rcases Hl2.out with h | ⟨d0,h1,h2⟩
     ·rw [h];exact ft_nil.tree
     ·rw [h2];exact qg8 (by omega)
    have hput:putE l [102] d3=0∧setIt l (putI l [102] d3)=fT d3:=by
     rcases Hl2.out with h | ⟨d0,h1,h2⟩
     ·rw [h];exact ⟨qmT (by omega),qmP d3⟩
     ·rw [h2];exact ⟨qn6 d0 (by omega),qn1 d0 d3⟩
    have A:=hidI (qhy hP [102] d3 wc fb xb T m l n (by omega) (HK.out.below Hb3.out) htl hmlc (fun h=>by have:=HT.out 0 h;omega) (by simp) (by omega));rw [hput.1,hput.2,show txt [102]=(⟨#[102]⟩:ByteArray) from rfl] at A;obtain ⟨X3,hX3⟩:∃ X3,X3=txt d3:=⟨_,rfl⟩;rw [←hX3] at A ⊢;have HX3:=hidI hX3;have HBc:Hid (Below B w wc):=hidI (HBr.out.trans (Hb3.out.mono HBs.out));clear hput htl hX3 hmlc HK HBr Hb3 Hl Hl2;go_wp2_with fail;refine A.out.mono ?_;rintro e V3 hsc;obtain ⟨T1,n1,rfl,hK1,hn1,hT1,hF1⟩:=hsc.made (Hfit.out d3 hd3);have HK1:=hidI hK1;have HT1:Hid (∀ j,T1 j→B≤j):=hidI (fun j hj=>by
     rcases hT1 j hj with h | h
     ·exact HT.out j h
     ·have h1:=HBc.out.size;have h3:=HB.out;omega)
    have HB3:Hid (Below B w V3):=hidI (HBc.out.trans (hF1.below (fun k hk=>HT.out k hk) (by have h2:=HBc.out.size;have h3:=HB.out;omega)));have P7:=hidI (fun W=>qb9 ((i:Nat):Int) 7 W (by omega) (by omega) (by decide) (by decide));obtain ⟨r7,hr7⟩:∃ r7,r7=pickF ((i:Nat):Int) 7:=⟨_,rfl⟩;rw [←hr7] at P7;clear hsc hK1 hT1 hF1 A hr7 HT HBc;go_wp2_with fail;refine (P7.out _).mono ?_;rintro e w' ⟨rfl,hw⟩;have hw':=hw.symm;subst hw';clear hw P7;by_cases h7:r7=3
    ·subst h7;have S1y:=hidI (qhc HK1.out);have hml3:ML V3:=Hml.out.below HB3.out hB0;have A:=hidI (qgp hP [102] V3 fb xb T1 m (fT d3) n1 (by omega) HK1.out (qg8 (by omega)) hml3 (fun h=>by have:=HT1.out 0 h;omega) (by simp));rw [qor,qoe,show txt [102]=(⟨#[102]⟩:ByteArray) from rfl] at A;clear hml3;go_wp2_with fail;refine S1y.out.mono ?_;rintro e w' ⟨rfl,hw⟩;have hw':=hw.symm;subst hw';clear hw S1y;go_wp2_with fail;refine A.out.mono ?_;rintro e V4 hsc;obtain ⟨T2,n2,rfl,hK2,hn2,hT2,hF2⟩:=hsc.made Hfit0.out;have HK2:=hidI hK2;have HT2:Hid (∀ j,T2 j→B≤j):=hidI (fun j hj=>by
      rcases hT2 j hj with h | h
      ·exact HT1.out j h
      ·have h1:=HB3.out.size;have h3:=HB.out;omega)
     have HB4:Hid (Below B w V4):=hidI (HB3.out.trans (hF2.below (fun k hk=>HT1.out k hk) (by have h2:=HB3.out.size;have h3:=HB.out;omega)));have hml4:ML V4:=Hml.out.below HB4.out hB0;have A2:=hidI (qhy hP [102] d3 V4 fb xb T2 m [] n2 (by omega) hK2 ft_nil.tree hml4 (fun h=>by have:=HT2.out 0 h;omega) (by simp) (by omega));rw [qmT (show d3.length≤4000 by omega),qmP,show txt [102]=(⟨#[102]⟩:ByteArray) from rfl,←HX3.out] at A2;clear hsc hK2 hT2 hF2 A hml4;go_wp2_with fail;refine A2.out.mono ?_;rintro e V5 hsc;obtain ⟨T3,n3,rfl,hK3,hn3,hT3,hF3⟩:=hsc.made (Hfit.out d3 hd3);have HK3:=hidI hK3;have HT3:Hid (∀ j,T3 j→B≤j):=hidI (fun j hj=>by
      rcases hT3 j hj with h | h
      ·exact HT2.out j h
      ·have h1:=HB4.out.size;have h3:=HB.out;omega)
     have HB5:Hid (Below B w V5):=hidI (HB4.out.trans (hF3.below (fun k hk=>HT2.out k hk) (by have h2:=HB4.out.size;have h3:=HB.out;omega)));clear hsc hK3 hT3 hF3 A2;go_wp2_with fail;go_roundg (20+nT - (i+1))
     case measure=>omega
     case rel=>exact ⟨i+1,n3,d3,fT d3,T3,by go_num,by rw [HX3.out],by omega,by omega,by omega,hd3,hidI (fun _=>rfl),hidI (.inr ⟨d3,hd3,rfl⟩),HK3,HT3,HB5⟩
    ·have h7':(((r7:Nat):Int)==3)=false:=by simp;omega
     go_wp2_with fail;go_roundg (20+nT - (i+1))
     case measure=>omega
     case rel=>exact ⟨i+1,n1,d3,fT d3,T1,by go_num,by rw [HX3.out],by omega,by omega,by omega,hd3,hidI (fun _=>rfl),hidI (.inr ⟨d3,hd3,rfl⟩),HK1,HT1,HB3⟩
  ·have hlt':¬((i:Nat):Int)<20+(nT:Nat):=by omega
   have hle:=Hl.out (by omega);subst hle;have S1y:=hidI (qhc HK.out);have hmlr:ML wr:=Hml.out.below HBr.out hB0;obtain ⟨tb,lo,hi3,lb,L3,lv,kv,qv,nk,nq,m3,K,Q,b,p,t,f1,f2,f3,f4,f5,f6,f7,f8,f9,f10⟩:=HK.out;have CC:=hidI (S1.copy_any wr lo hi3 xb L3 m3 f1.log.wf f1.log.chip f1.log.sz);have Hwf:=hidI f1.log.wf;have hlf:m3.life≠0:=by rw [f2.life];decide
   obtain ⟨ps,zz,hrec,htx,hwh,htl⟩:=f8.whole;have hnew:=f8.newest (by omega);have hbad:S1.badN m3≤1000000:=by have:=S1.badN_le m3;have:=f1.log.wf.nb2;omega
   have htlen:t.length≤5000:=by
    have h5:=qaY f9;rw [qgx] at h5;have e2:weigh (fT d)=16+1+d.length:=by simp [weigh,fT]
    omega
   have hpar:parse u (txtF ps)=some (fT d):=by
    rw [htx];rw [qgx] at f9;exact qd4 f9 (fun x hx=>qaG ((qg8 (d:=d) (by omega)).ok x hx)) (by simp [fT]) zz
   have hpl:(txtF ps).length≤1000000:=by
    have:pagesN t.length≤100:=by unfold pagesN;omega
    omega
   have Hrec:=hidI hrec;have Hwh:=hidI hwh;have Hnew2:=hidI hnew;have Hpar:=hidI hpar;have Hmlr:=hidI hmlr;obtain ⟨xs,hxs⟩:∃ xs,xs=wr.heap.size:=⟨_,rfl⟩;have Hxs:=hidI hxs;obtain ⟨bd,hbd⟩:∃ bd,bd=S1.badN m3:=⟨_,rfl⟩;rw [←hbd] at Hrec Hwh Hnew2 hbad;clear f1 f2 f3 f4 f5 f6 f7 f8 f9 f10 hrec htx hwh htl hnew htlen hpar hmlr hxs hbd HK;go_wp2_with fail;refine (HP1.out _).mono ?_;rintro e w' ⟨rfl,hw⟩;have hw':=hw.symm;subst hw';clear hw;go_wp2_with fail;refine S1y.out.mono ?_;rintro e w' ⟨rfl,hw⟩;have hw':=hw.symm;subst hw';clear hw S1y;go_wp2_with fail;refine CC.out.mono ?_;rintro e V1 ⟨L4,rfl,hC4,hb4⟩;rw [←Hxs.out] at hC4 hb4 ⊢;have hml4:ML V1:=Hmlr.out.below (B:=xs) hb4 (by rw [Hxs.out];exact Hmlr.out.lt)
   have D:=hidI (mountU V1 xs V1.heap.size xs L4 m3 Hwf.out hC4 (Nat.le_refl _) hlf _ rfl bd n hbad (by omega) Hwh.out Hnew2.out ps Hrec.out (fun f hf=>⟨(scanF_ok hf).1,by have:=(scanF_ok hf).2;have:=Hwf.out.nb2;omega⟩) hml4 hP (fT d) Hpar.out ((qbA _).2 (qg8 (by omega))) hpl);have HB4:Hid (Below B w V1):=hidI (HBr.out.trans (hb4.mono (by have:=HBs.out;have:=Hxs.out;omega)));clear hC4 hb4 hml4 CC;go_wp2_with fail;refine D.out.mono ?_;rintro e V2 ⟨fb2,lb2,tb2,ib2,n2,rfl,hF2,hT2,hLg2,hnn2,hBl2,q1,q2,q3,q4,q5,hb5⟩;have HB5:Hid (Below B w V2):=hidI (HB4.out.trans (hb5.mono (by have h2:=HB4.out.size;have h3:=HB.out;omega)));have hml5:ML V2:=Hml.out.below HB5.out hB0;have R:=hidI (qip V2 fb2 xs lb2 tb2 (fT d) [102] hF2 hT2 hml5 (by simp));rw [(qmO d).1,(qmO d).2,show txt [102]=(⟨#[102]⟩:ByteArray) from rfl] at R;obtain ⟨X,hX⟩:∃ X,X=txt d:=⟨_,rfl⟩;rw [←hX] at R ⊢
   clear hF2 hT2 hLg2 hBl2 hb5 D hml5 hX;go_wp2_with fail;refine R.out.mono ?_;rintro e V3 ⟨hb6,rfl⟩;have HB6:Hid (Below B w V3):=hidI (HB5.out.trans (hb6.mono (by have h2:=HB5.out.size;have h3:=HB.out;omega)));clear hb6 R;go_wp2_with fail;go_ret
   refine ⟨by simp,?_⟩;rw [←HB.out];exact HB6.out
end Go.Proofs.YtodmdkhdbfbfgabGreatDoor
namespace Go.Proofs.YtodmdkhdbfbfgabGreatDoor.S1
open Go.RowKit Pk
structure MD (D:DataW Unit) (mp:List UInt8→Option Nat):Prop where
 is:Maps.IsMap D
 no:∀ s,mp s=none→Maps.has D (.string s)=false
 yes:∀ s v,mp s=some v→Maps.has D (.string s)=true∧D.atKey (.string s) (.lit (.int .i64 0))=.lit (.int .i64 (v:Nat))
theorem MD.nil:MD (.map []) (fun _=>none):=⟨Maps.isMap_empty,fun _ _=>rfl,fun _ _ h=>by cases h⟩
theorem MD.put {D:DataW Unit} {mp:List UInt8→Option Nat} (h:MD D mp) (k:List UInt8) (v:Nat):MD (D.put (.string k) (.lit (.int .i64 (v:Nat)))) (fun s=>if s=k then some v else mp s):=by
 have hk:WideAt.IsKeyLit (Lit.string k):=trivial;refine ⟨h.is.put _ _,fun s hs => ?_,fun s u hs => ?_⟩
 ·by_cases e:s=k
  ·rw [if_pos e] at hs;cases hs
  ·rw [if_neg e] at hs;rw [Maps.has_put_other (fun e2=>e (by injection e2))];exact h.no s hs
 ·by_cases e:s=k
  ·rw [if_pos e] at hs;cases hs
   subst e;exact ⟨Maps.has_put_same h.is hk _,Maps.atKey_put_same h.is hk _ _⟩
  ·rw [if_neg e] at hs;rw [Maps.has_put_other (fun e2=>e (by injection e2)),Maps.atKey_put_other (fun e2=>e (by injection e2))];exact h.yes s u hs
structure PM (w:World) (B pb mb bb:Nat) (d:List UInt8) (m:Nat) (mp:List UInt8→Option Nat) (bf:Nat→Int):Prop where
 hp:B≤pb
 hm:B≤mb
 hb:B≤bb
 st:w.heap[pb]? = some (.cells #[.string (txt d),.map (some mb),.slice (some ⟨bb,0,none⟩) d.length d.length] 287 (0,0))
 mo:∃ D,w.ownsMap Tryz.prog 9 (plainElem Tryz.prog 3) mb m D∧MD D mp
 bo:w.rowIs bb 3 d.length (fun j=>.int .i64 (bf j))
def pkKey3 (d:List UInt8) (v:Nat):List UInt8:=(d.drop v).take 3
theorem qhd (w:World) (pb a:Nat) (d:List UInt8) (x y:Value) (hd:d.length≤4000) (ha:a≤4000) (h:d.length<a+3) (hst:w.heap[pb]? = some (.cells #[.string (txt d),x,y] 287 (0,0))) :
 Calls Tryz.prog 231 #[.pointer (some ⟨pb,0,none⟩),.int .i64 (a:Nat)] w fun e w'=>e=.returned (.tuple #[.string ⟨#[]⟩,.bool false])∧w'=w:=by
 have x0:w.cell? ⟨pb,0,none⟩=some (.string (txt d)):=by rw [cell_of_row w pb 0 _ 287 (0,0) hst];rfl
 have hs:(txt d).size=d.length:=qab d
 generalize txt d=t at *
 have h1:((t.size:Nat):Int)<(a:Int)+3:=by omega
 clear hst hs;go_enter Tryz.func231,Tryz.ntmps231
 go_wp2;go_ret2
 exact ⟨rfl,rfl⟩
theorem qfK (w:World) (pb a:Nat) (d:List UInt8) (x y:Value) (hd:d.length≤4000) (h:a+3≤d.length) (hst:w.heap[pb]? = some (.cells #[.string (txt d),x,y] 287 (0,0))) :
 Calls Tryz.prog 231 #[.pointer (some ⟨pb,0,none⟩),.int .i64 (a:Nat)] w fun e w'=>e=.returned (.tuple #[.string (txt (pkKey3 d a)),.bool true])∧w'=w:=by
 have x0:w.cell? ⟨pb,0,none⟩=some (.string (txt d)):=by rw [cell_of_row w pb 0 _ 287 (0,0) hst];rfl
 have hs:(txt d).size=d.length:=qab d;have hex:=qah d a (a+3);have Hex:Hid ((txt d).extract a (a+3)=txt (pkKey3 d a)):=by
  show _=_;rw [hex];unfold pkKey3;rw [show a+3 - a=3 by omega]
 generalize txt d=t at *
 have h1:¬((t.size:Nat):Int)<(a:Int)+3:=by omega
 have h2:a+3≤t.size:=by omega
 have h4:t.size≤4000:=by omega
 clear hst hex hs;go_enter Tryz.func231,Tryz.ntmps231
 go_wp2;go_ret2
 refine ⟨?_,rfl⟩;rw [←Hex.out];rfl
theorem qkX (w:World) (pb a f:Nat) (d:List UInt8) (x y:Value) (hd:d.length≤4000) (hf:f<a) (ha:a≤d.length) (hst:w.heap[pb]? = some (.cells #[.string (txt d),x,y] 287 (0,0))) :
 Calls Tryz.prog 233 #[.pointer (some ⟨pb,0,none⟩),.int .i64 (f:Nat),.int .i64 (a:Nat)] w fun e w'=>∃ k q:Nat,e=.returned (.int .i64 (k:Nat))∧w'=w.drewN q∧k≤34∧a+k≤d.length∧(∀ j,j<k→d.getD (f+j) 0=d.getD (a+j) 0)∧(k=34∨a+k=d.length∨d.getD (f+k) 0≠d.getD (a+k) 0):=by
 have x0:w.cell? ⟨pb,0,none⟩=some (.string (txt d)):=by rw [cell_of_row w pb 0 _ 287 (0,0) hst];rfl
 have hs:(txt d).size=d.length:=qab d;have hgd:∀ k (h:k<(txt d).size),((txt d)[k]'h).toNat=(d.getD k 0).toNat:=fun k h=>by rw [qaV]
 generalize txt d=t at *
 have Hs:=hidI hs;have Hgd:=hidI hgd;clear hst hgd hs;go_enter Tryz.func233,Tryz.ntmps233
 go_wp2
 go_loopw [7] (fun i wr=>∃ k q:Nat,i=.int .i64 (k:Nat)∧wr=w.drewN q∧k≤34∧a+k≤d.length∧Hid (∀ j,j<k→d.getD (f+j) 0=d.getD (a+j) 0)) (fun i _=>34 - (intOf i).toNat)
 case atStart=>exact ⟨0,0,rfl,rfl,by omega,by omega,fun j hj=>by omega⟩
 case round =>
  obtain ⟨k,q,rfl,rfl,hk,hak,Hk⟩:=hrel;have hts:=Hs.out;have x1:(w.drewN q).cell? ⟨pb,0,none⟩=some (.string t):=x0;by_cases h34:k=34
  ·have g1:decide ((k:Int)<34)=false:=by simp;omega
   have Hts:=hidI hts;clear hts;go_wp2
   go_quiet (fail)
   go_wp2;go_ret
   exact ⟨k,_,rfl,by simp only [World.drewN_drewN,World.drew_drewN];rfl,by omega,by omega,Hk.out,.inl h34⟩
  ·have g1:decide ((k:Int)<34)=true:=by simp;omega
   by_cases han:a+k=d.length
   ·have g2:decide ((a:Int)+(k:Int)<(t.size:Int))=false:=by simp;omega
    have Hts:=hidI hts;clear hts;go_wp2
    go_quiet (fail)
    go_wp2;go_ret
    exact ⟨k,_,rfl,by simp only [World.drewN_drewN,World.drew_drewN];rfl,by omega,by omega,Hk.out,.inr (.inl han)⟩
   ·obtain ⟨A,hA⟩:∃ A,A=a+k:=⟨_,rfl⟩;obtain ⟨F,hF⟩:∃ F,F=f+k:=⟨_,rfl⟩;have g2:decide ((A:Int)<(t.size:Int))=true:=by simp;omega
    have i1:F<t.size:=by omega
    have i2:A<t.size:=by omega
    have e1:=Hgd.out F i1;have e2:=Hgd.out A i2;have ht4:t.size≤4000:=by omega
    have w1:IntKind.i64.wrap ((a:Int)+(k:Int))=(A:Int):=by rw [IntKind.wrap_i64];omega
    have w2:IntKind.i64.wrap ((f:Int)+(k:Int))=(F:Int):=by rw [IntKind.wrap_i64];omega
    have v1:(a:Int)+(k:Int)=(A:Int):=by omega
    have v2:(f:Int)+(k:Int)=(F:Int):=by omega
    have hk34:k+1≤34∧a+(k+1)≤d.length:=by omega
    have HA:=hidI hA;have HF:=hidI hF;have Hts:=hidI hts;by_cases hc:d.getD F 0=d.getD A 0
    ·have Hk2:Hid (∀ j,j<k+1→d.getD (f+j) 0=d.getD (a+j) 0):=fun j hj=>by
      by_cases e:j=k
      ·subst e;rw [←HA.out,←HF.out];exact hc
      ·exact Hk.out j (by omega)
     rw [←hc] at e2
     generalize (d.getD F 0).toNat=u at *
     clear hts hc Hk hA hF;go_wp2
     go_quiet (fail)
     go_wp2;go_roundw
     case rel=>exact ⟨k+1,_,by go_num,by first | rfl | trivial | (simp only [World.drewN_drewN,World.drew_drewN];rfl),hk34.1,hk34.2,Hk2⟩
     case measure=>simp [intOf];omega
    ·have hne:(d.getD F 0).toNat≠(d.getD A 0).toNat:=fun h=>hc (UInt8.toNat_inj.1 h)
     have Hc:=hidI hc
     generalize (d.getD F 0).toNat=u at *
     generalize (d.getD A 0).toNat=v at *
     have g3:((u:Int)==(v:Int))=false:=by simp;omega
     clear hts hc hA hF;go_wp2
     go_quiet (fail)
     go_wp2;go_ret
     exact ⟨k,_,rfl,by simp only [World.drewN_drewN,World.drew_drewN];rfl,by omega,by omega,Hk.out,.inr (.inr (by rw [←HA.out,←HF.out];exact Hc.out))⟩
def topV:Option Nat→Int
 | some v=>((v:Nat):Int)
 | none => -1
theorem Tryz.keyed9:Maps.Keyed Tryz.prog 9:=Maps.string_keyed Tryz.underlying9
theorem qkz (w:World) (B pb mb bb m:Nat) (d s:List UInt8) (mp:List UInt8→Option Nat) (bf:Nat→Int) (hs:s.length≤4000) (h:PM w B pb mb bb d m mp bf) :
 Calls Tryz.prog 232 #[.pointer (some ⟨pb,0,none⟩),.string (txt s)] w fun e w'=>e=.returned (.int .i64 (topV (mp s)))∧w'=w:=by
 obtain ⟨D,hD,hMD⟩:=h.mo;have x1:w.cell? ⟨pb,1,none⟩=some (.map (some mb)):=by rw [cell_of_row w pb 1 _ 287 (0,0) h.st];rfl
 have hkey:keyOf Tryz.prog 9 (.string (txt s))=some (.string s):=WideMaps.keyOf_string_mk Tryz.underlying9 (by rw [qab];unfold maxLen;omega);have hz:(zeroValue 3).run Tryz.prog w=.ok (.int .i64 0) w:=by
  obtain ⟨i0,hi,hz0,_⟩:=info_parts Tryz.info3;simp [zeroValue,typeInfo,hi,hz0]
 have HMD:=hidI hMD;clear h hMD
 generalize txt s=t at *
 go_enter Tryz.func232,Tryz.ntmps232
 cases hm:mp s with
 | none =>
   have hno:=HMD.out.no s hm;go_wp2_with (at_lookup;refine wpList_lookup_own_ok_int _ rfl _ _ 285 rfl 9 3 .i64 Tryz.keyed9 Tryz.underlying285 Tryz.underlying3 hz mb m D rfl hD _ (.string s) rfl hkey ?_;intro c hat hwc);go_ret
   exact ⟨rfl,rfl⟩
 | some v =>
   have hyes:=HMD.out.yes s v hm;have hy1:=hyes.1;have Hy2:=hidI hyes.2;clear hyes;go_wp2_with (at_lookup;refine wpList_lookup_own_ok_int _ rfl _ _ 285 rfl 9 3 .i64 Tryz.keyed9 Tryz.underlying285 Tryz.underlying3 hz mb m D rfl hD _ (.string s) rfl hkey ?_;intro c hat hwc);go_ret
   rw [Hy2.out] at hat
   injection hat with h1
   injection h1 with h2 h3
   exact ⟨qaB (by rw [←h3];rfl),rfl⟩
structure PI (d:List UInt8) (mp:List UInt8→Option Nat) (bf:Nat→Int) (a:Nat):Prop where
 lt:∀ s v,mp s=some v→v<a∧v+3≤d.length∧pkKey3 d v=s
 ch:∀ v,v<a→v+3≤d.length→bf v = -1∨∃ u:Nat,bf v=(u:Int)∧u<v∧pkKey3 d u=pkKey3 d v
 all:∀ v,v<a→v+3≤d.length→∃ u,mp (pkKey3 d v)=some u
theorem qlK (d:List UInt8) (u a j:Nat) (h:pkKey3 d u=pkKey3 d a) (hj:j<3) (hu:u+3≤d.length) (ha:a+3≤d.length):d.getD (u+j) 0=d.getD (a+j) 0:=by
 have h1:=congrArg (fun l=>l.getD j 0) h;unfold pkKey3 at h1;simp only [List.getD_eq_getElem?_getD,List.getElem?_take_of_lt hj,List.getElem?_drop] at h1;simpa [List.getD_eq_getElem?_getD] using h1
theorem qcU (d:List UInt8) (a:Nat):(pkKey3 d a).length≤3:=by unfold pkKey3;rw [List.length_take];omega
structure Good (d:List UInt8) (a len bk:Nat):Prop where
 lo:3≤len
 hi:len≤34
 b1:1≤bk
 b2:bk≤a
 fit:a+len≤d.length
 same:∀ j,j<len→d.getD (a+j) 0=d.getD (a+j - bk) 0
theorem qir (w:World) (B pb mb bb m a:Nat) (d:List UInt8) (mp:List UInt8→Option Nat) (bf:Nat→Int) (hd:d.length≤4000) (ha:a≤d.length) (h3:d.length<a+3) (h:PM w B pb mb bb d m mp bf) :
 Calls Tryz.prog 203 #[.pointer (some ⟨pb,0,none⟩),.int .i64 (a:Nat)] w fun e w'=>e=.returned (.tuple #[.int .i64 0,.int .i64 0])∧w'=w:=by
 have Hst:=hidI (qhd w pb a d _ _ hd (by omega) h3 h.st);clear h;go_enter Tryz.func203,Tryz.ntmps203
 go_wp2_with (go_at_call 231;refine Hst.out.mono ?_;rintro e w' ⟨rfl,rfl⟩);go_ret2
 exact ⟨rfl,rfl⟩
def LongP (d:List UInt8) (a:Nat) (mp:List UInt8→Option Nat) (w:World) (e:Ending) (w':World):Prop:=
 ∃ len bk q:Nat,e=.returned (.tuple #[.int .i64 (len:Nat),.int .i64 (bk:Nat)])∧w'=w.drewN q∧((len=0∧bk=0)∨Good d a len bk)∧(∀ v,mp (pkKey3 d a)=some v→(∀ j,a+j<d.length→d.getD (v+j) 0=d.getD (a+j) 0)→min 34 (d.length - a)≤len)
theorem qgk (w:World) (B pb mb bb m a:Nat) (d:List UInt8) (mp:List UInt8→Option Nat) (bf:Nat→Int) (hd:d.length≤4000) (h3:a+3≤d.length) (h:PM w B pb mb bb d m mp bf) (hpi:PI d mp bf a) :
 Calls Tryz.prog 203 #[.pointer (some ⟨pb,0,none⟩),.int .i64 (a:Nat)] w fun e w'=>LongP d a mp w e w':=by
 have Hst:=hidI (qfK w pb a d _ _ hd h3 h.st);have Htop:=hidI (qkz w B pb mb bb m d (pkKey3 d a) mp bf (by have:=qcU d a;omega) h);have Hag:Hid (∀ f q,f<a→Calls Tryz.prog 233 #[.pointer (some ⟨pb,0,none⟩),.int .i64 (f:Nat),.int .i64 (a:Nat)] (w.drewN q) _):=fun f q hf=>qkX (w.drewN q) pb a f d _ _ hd hf (by omega) h.st
 have x2:∀ q,(w.drewN q).cell? ⟨pb,2,none⟩=some (.slice (some ⟨bb,0,none⟩) d.length d.length):=fun q=>by
  show w.cell? _=_;rw [cell_of_row w pb 2 _ 287 (0,0) h.st];rfl
 have Hbo:=hidI h.bo;have Hpi:=hidI hpi;have hmax:max (0:Int) ((a:Int) - 4096)=0:=by omega
 clear h hpi;obtain ⟨tp,htp⟩:∃ tp:Int,tp=topV (mp (pkKey3 d a)):=⟨_,rfl⟩;rw [←htp] at Htop;have Htp:Hid (tp = -1∨∃ u:Nat,tp=(u:Int)∧u<a∧pkKey3 d u=pkKey3 d a):=by
  cases hm:mp (pkKey3 d a) with
  | none=>rw [hm] at htp;exact .inl htp
  | some v=>rw [hm] at htp;have:=Hpi.out.lt _ _ hm;exact .inr ⟨v,htp,this.1,this.2.2⟩
 have Hv:Hid (∀ v,mp (pkKey3 d a)=some v→tp=(v:Int)):=fun v hm=>by rw [hm] at htp;exact htp
 clear htp;go_enter Tryz.func203,Tryz.ntmps203
 go_wp2_with (first | (go_at_call 231;refine Hst.out.mono ?_;rintro e w' ⟨rfl,hw⟩;have hw':=hw.symm;subst hw') | (go_at_call 232;refine Htop.out.mono ?_;rintro e w' ⟨rfl,hw⟩;have hw':=hw.symm;subst hw'))
 go_loopw [8,4,5] (fun f l b wr=>∃ fr:Int,∃ len bk q:Nat,f=.int .i64 fr∧l=.int .i64 (len:Nat)∧b=.int .i64 (bk:Nat)∧wr=w.drewN q∧len≤34 ∧ -1≤fr∧fr≤4000∧Hid (fr = -1∨∃ u:Nat,fr=(u:Int)∧u<a∧pkKey3 d u=pkKey3 d a)∧Hid ((len=0∧bk=0)∨Good d a len bk)∧Hid ((fr=tp∧len=0)∨(∀ v,mp (pkKey3 d a)=some v→(∀ j,a+j<d.length→d.getD (v+j) 0=d.getD (a+j) 0)→min 34 (d.length - a)≤len))) (fun f _ _ _=>(intOf f+1).toNat)
 case atStart=>exact ⟨tp,0,0,0,rfl,rfl,rfl,rfl,by omega,by rcases Htp.out with h | ⟨u,h,_⟩<;>omega,by rcases Htp.out with h | ⟨u,h,h2,_⟩<;>omega,Htp,.inl ⟨rfl,rfl⟩,.inl ⟨rfl,rfl⟩⟩
 case round =>
  clear Hst Htop;obtain ⟨fr,len,bk,q,rfl,rfl,rfl,rfl,hl34,hf1,hf2,Hfr,Hgd,Hlow⟩:=hrel;by_cases hfr:fr = -1
  ·subst hfr;have Hend:Hid (∀ v,mp (pkKey3 d a)=some v→(∀ j,a+j<d.length→d.getD (v+j) 0=d.getD (a+j) 0)→min 34 (d.length - a)≤len):=fun v hv hall=>by
    rcases Hlow.out with ⟨h1,h2⟩ | h1
    ·have:=Hv.out v hv;omega
    ·exact h1 v hv hall
   go_wp2;go_ret2
   exact ⟨len,bk,q,rfl,rfl,Hgd.out,Hend.out⟩
  ·obtain ⟨u,hu,hua,hku⟩:∃ u:Nat,fr=(u:Int)∧u<a∧pkKey3 d u=pkKey3 d a:=by
    rcases Hfr.out with h | h
    ·exact absurd h hfr
    ·exact h
   have Hlow2:Hid (((u:Int)=tp∧len=0)∨(∀ v,mp (pkKey3 d a)=some v→(∀ j,a+j<d.length→d.getD (v+j) 0=d.getD (a+j) 0)→min 34 (d.length - a)≤len)):=by
    rw [←hu];exact Hlow
   subst hu;have Hku:=hidI hku;have hch:=Hpi.out.ch u hua (by omega);have y2:=x2 q;have hun:u<d.length:=by omega
   clear Hlow Hfr hku hf1 hf2 hfr;go_wp2_with fail;refine (Hag.out u q hua).mono ?_;rintro e w2 ⟨k,q2,rfl,rfl,hk34,hak,hsame,hstop⟩;have hk3:3≤k:=by
    by_cases e0:3≤k
    ·exact e0
    ·exfalso
     rcases hstop with h | h | h
     ·omega
     ·omega
     ·exact h (qlK d u a k Hku.out (by omega) (by omega) h3)
   have Hgood:Hid (Good d a k (a - u)):=⟨hk3,hk34,by omega,by omega,hak,fun j hj=>by
    rw [show a+j - (a - u)=u+j by omega];exact (hsame j hj).symm⟩
   have Hkmax:Hid (∀ v,mp (pkKey3 d a)=some v→(u:Int)=tp→(∀ j,a+j<d.length→d.getD (v+j) 0=d.getD (a+j) 0)→min 34 (d.length - a)≤k):=fun v hv htp hall=>by
    have:=Hv.out v hv
    have hvu:v=u:=by omega
    subst hvu;rcases hstop with h | h | h
    ·omega
    ·omega
    ·by_cases e:a+k<d.length
     ·exact absurd (hall k e) h
     ·omega
   have hsub:(a:Int) - (u:Int)=((a - u:Nat):Int):=by omega
   have z0:∀ q',(w.drewN q').cell? ⟨bb,u,none⟩=some (.int .i64 (bf u)):=fun q'=>Hbo.out.cell (i:=u) hun
   have x2b:=x2 (q+q2);have z0b:=z0 (q+q2);have Hnext:Hid (bf u = -1∨∃ u2:Nat,bf u=(u2:Int)∧u2<a∧pkKey3 d u2=pkKey3 d a):=by
    rcases hch with h | ⟨u2,h1,h2,h4⟩
    ·exact .inl h
    ·exact .inr ⟨u2,h1,by omega,h4.trans Hku.out⟩
   have hb1:-1≤bf u∧bf u<u:=by rcases hch with h | ⟨u2,h1,h2,_⟩<;>omega
   have hun':(u:Int)<(d.length:Int):=by omega
   rw [World.drewN_drewN]
   generalize bf u=fn at *
   clear hsame hstop hch z0 x2 y2;by_cases hgt:len<k
   ·have hgt':decide ((len:Int)<(k:Int))=true:=by simp;omega
    have Hlow3:Hid (∀ v,mp (pkKey3 d a)=some v→(∀ j,a+j<d.length→d.getD (v+j) 0=d.getD (a+j) 0)→min 34 (d.length - a)≤k):=fun v hv hall=>by
     rcases Hlow2.out with ⟨h1,h2⟩ | h1
     ·exact Hkmax.out v hv h1 hall
     ·have:=h1 v hv hall;omega
    clear Hlow2 Hkmax Hgd;by_cases h34:k=34
    ·subst h34;go_wp2;go_ret2
     exact ⟨34,a - u,q+q2,rfl,rfl,.inr Hgood.out,Hlow3.out⟩
    ·have h34':((k:Int)==34)=false:=by simp;omega
     go_wp2;go_roundw
     case rel=>exact ⟨fn,k,a - u,q+q2,rfl,rfl,rfl,by first | rfl | trivial,by omega,by omega,by omega,Hnext,.inr Hgood.out,.inr Hlow3.out⟩
     case measure=>simp [intOf];omega
   ·have hgt':decide ((len:Int)<(k:Int))=false:=by simp;omega
    have Hlow3:Hid (∀ v,mp (pkKey3 d a)=some v→(∀ j,a+j<d.length→d.getD (v+j) 0=d.getD (a+j) 0)→min 34 (d.length - a)≤len):=fun v hv hall=>by
     rcases Hlow2.out with ⟨h1,h2⟩ | h1
     ·omega
     ·exact h1 v hv hall
    clear Hlow2 Hkmax;by_cases h34:len=34
    ·subst h34;go_wp2;go_ret2
     exact ⟨34,bk,q+q2,rfl,rfl,Hgd.out,Hlow3.out⟩
    ·have h34':((len:Int)==34)=false:=by simp;omega
     go_wp2;go_roundw
     case rel=>exact ⟨fn,len,bk,q+q2,rfl,rfl,rfl,by first | rfl | trivial,by omega,by omega,by omega,Hnext,Hgd,.inr Hlow3.out⟩
     case measure=>simp [intOf];omega
end Go.Proofs.YtodmdkhdbfbfgabGreatDoor.S1
