/- Lemmas. -/
import Derived.StringKeys
import Derived.Maps.Views
import Derived.Test.YtodmdkhdbfbfgabGreatDoorM42
set_option linter.unusedVariables false
set_option linter.unusedSimpArgs false
set_option maxRecDepth 100000
set_option maxHeartbeats 8000000
namespace Go.Proofs.YtodmdkhdbfbfgabGreatDoor
open Go.RowKit Go.Nt
theorem RowK.old {w:World} {B:Nat} {v:Value} {l:List It} (h:w.ownsRow B 53 5 v l.length (its l)):RowK w (fun k=>w.heap.size≤k) v l:=by
 refine ⟨qbF h (Nat.zero_le _),fun g hg ht => ?_⟩
 have:=(h.lt g hg).2
 omega
theorem tdiv16 {y:Int} (h1:-9223372036854775808≤y) (h2:y≤9223372036854775807):-9223372036854775808≤y.tdiv 16∧y.tdiv 16≤9223372036854775807:=by
 by_cases h:0≤y
 ·rw [Int.tdiv_eq_ediv_of_nonneg h];omega
 have e:y.tdiv 16 = -((-y).tdiv 16):=by rw [←Int.neg_tdiv,Int.neg_neg]
 rw [e,Int.tdiv_eq_ediv_of_nonneg (by omega)];omega
theorem qjc {u:Bs→Option Bs} (hP:PackC u) (ra da fa:Option Addr) (rn rc dn dc fn fc:Nat) (zr zd zf:Nat→Int) (w:World) (hml:ML w) (hrn:rn≤9223372036854775807) (hdn:dn≤9223372036854775807) (hfn:fn≤9223372036854775807) (hra:S1.IntsIn w ra rn zr) (hda:S1.IntsIn w da dn zd) (hfa:S1.IntsIn w fa fn zf)
 (hzr:∀ k,k<rn → -9223372036854775808≤zr k∧zr k≤9223372036854775807) (hzd:∀ k,k<dn → -9223372036854775808≤zd k∧zd k≤9223372036854775807) (hzf:∀ k,k<fn → -9223372036854775808≤zf k∧zf k≤9223372036854775807) :
 Calls Tryz.prog 4 #[.slice ra rn rc,.slice da dn dc,.slice fa fn fc] w fun e w'=>e=.returned (.bool true)∧Below w.heap.size w w':=by
 have A1:=hidI (qlv ra rn rc zr w hrn hra hzr);have hnew:=qmm 32 16 (fun _=>0);have hroom:=qim;have A2:=hidI qjv;obtain ⟨m,hm⟩:∃ m,m=S1.mkM 32 16 0 (fun _=>0):=⟨_,rfl⟩;rw [←hm] at hnew hroom A2;have Hml:=hidI hml;have Hda:=hidI hda;have Hfa:=hidI hfa;have Hzd:=hidI hzd;have Hzf:=hidI hzf;have Hnew:=hidI hnew;have Hroom:=hidI hroom;obtain ⟨B,hB⟩:∃ B,B=w.heap.size:=⟨_,rfl⟩;have hB0:0<B:=by rw [hB];exact hml.lt
 have HB:=hidI hB;clear hm hml hra hda hfa hzr hzd hzf hnew hroom hB hrn;go_enter Tryz.func4,Tryz.ntmps4
 go_wp2_with fail;refine A1.out.mono ?_;rintro e w1 ⟨v1,l1,rfl,hk1,hown1,hb1⟩;obtain ⟨a1,c1,rfl,hin1⟩:=qa9 hown1;have A3:=hidI (A2.out w1);have HB1:=hidI hb1;have Hk1:=hidI hk1;have Hin1:=hidI hin1;have HR1:Hid (RowK w1 (fun k=>w1.heap.size≤k) (.slice a1 l1.length c1) l1):=hidI (RowK.old hown1);obtain ⟨n1,hn1⟩:∃ n1,n1=l1.length:=⟨_,rfl⟩;have Hn1:=hidI hn1;rw [←hn1];clear hk1 hown1 hb1 hin1 hn1 A1 A2;go_wp2_with fail;refine A3.out.mono ?_;rintro e w2 ⟨L,hi,rfl,hhi,hC,hb2⟩;obtain ⟨z,hz⟩:∃ z,z=w1.heap.size:=⟨_,rfl⟩;rw [←hz] at hC hb2 ⊢;have hBz:B≤z:=by have:=HB1.out.size;have:=HB.out;omega
 have hb2':Below w.heap.size w w2:=HB1.out.trans (hb2.mono (by rw [hz];exact HB1.out.size));have M:=hidI (qjH hP a1 c1 l1 w2 z hi z L m Hnew.out hC hhi (Hml.out.below hb2' Hml.out.lt) (by omega) (Hin1.out.below (by rw [←hz];exact hb2)) Hk1.out.tree (by rw [Hroom.out];have:=Hk1.out.weighs;unfold pagesN;omega));have HB2:=hidI hb2';have Hb2:=hidI hb2;have Hz:=hidI hz;rw [←Hn1.out] at M;clear hC hb2 hb2' hz hhi A3;go_wp2_with fail;refine M.out.mono ?_;rintro e w3 ⟨fb,xb,T0,rfl,hG,hT,hO⟩;have HG0:=hidI hG;have hB3:Below B w w3:=by
  have h1:Below B w w2:=by rw [HB.out];exact HB2.out
  exact h1.trans (hO.below hBz (by have:=HB2.out.size;have:=HB.out;omega))
 have HT0:Hid (∀ j,T0 j→B≤j):=hidI (fun j hj=>by have:=hT j hj;have:=HB2.out.size;have:=HB.out;omega);have HB3:=hidI hB3;have HR3:Hid (RowK w3 T0 (.slice a1 n1 c1) l1):=hidI (by
  rw [Hn1.out];have r2:=HR1.out.below (by rw [←Hz.out];exact Hb2.out);exact r2.blocks (fun g hg hn=>hO.block g hg fun h=>hn (by rw [←Hz.out];exact h.1)) fun k hk=>.inr (hT k hk))
 have HK3:Hid (KT (qac l1)):=hidI (Hk1.out.perm (qaq l1).symm);clear hG hT hO hB3 M HR1;go_wp2_with fail
 go_loopg [7,10,11] 63 (fun k s7 s10 s11 wr=>∃ (i tn n:Nat) (na:Option Addr) (nn nc:Nat) (l now:List It) (T:Nat→Prop),s11=.int .i64 (i:Nat)∧s10=.int .i64 (tn:Nat)∧s7=.slice na nn nc∧i≤62∧63 - i≤k∧tn≤i∧n≤1+701*i∧Hid (nn=now.length)∧Hid (RowK wr T (.slice na nn nc) now)∧Hid (FsG u wr fb xb T (tn=0) m l n)∧Hid (KT l)∧Hid (l.Perm now)∧Hid (∀ j,T j→B≤j)∧Hid (Below B w wr))
 case atStart=>exact ⟨0,0,1,a1,n1,c1,qac l1,l1,T0,rfl,rfl,rfl,by omega,by omega,by omega,by omega,Hn1,HR3,hidI (HG0.out.weaken fun _=>trivial),HK3,hidI (qaq l1),HT0,HB3⟩
 case round =>
  clear HR3 HG0 HK3 HT0 HB3 Hn1 Hk1 Hin1 HB2 Hb2 Hz HB1 Hnew;obtain ⟨i,tn,n,na,nn,nc,l,now,T,rfl,rfl,rfl,hi1,hk,htn,hn,Hnn,HR,HG,HK,Hp,HT,HBr⟩:=hrel;have HBs:Hid (B≤wr.heap.size):=hidI (by have:=HBr.out.size;have:=HB.out;omega);go_upto_region 7 with fail
  go_cut [38] from 30 to 117 (fun s38 wx=>(∃ c:Bool,s38=.bool c∧Hid (c=true→i+2<dn∧i<60))∧wx=wr)
  case first =>
   by_cases h1:i+2<dn
   ·have h1':((i:Nat):Int)+2<(dn:Nat):=by omega
    by_cases h2:i<60
    ·have h2':((i:Nat):Int)<60:=by omega
     go_wp2_with fail;go_meet
     case rel=>exact ⟨⟨_,rfl,hidI fun _=>⟨h1,h2⟩⟩,rfl⟩
    have h2':decide (((i:Nat):Int)<60)=false:=by simp;omega
    go_wp2_with fail;go_meet
    case rel=>exact ⟨⟨_,rfl,hidI fun h=>by simp at h⟩,rfl⟩
   have h1':decide (((i:Nat):Int)+2<(dn:Nat))=false:=by simp;omega
   go_wp2_with fail;go_meet
   case rel=>exact ⟨⟨_,rfl,hidI fun h=>by simp at h⟩,rfl⟩
  case rest =>
   obtain ⟨⟨c,rfl,Hc⟩,hwx⟩:=hcut;have hwx':=hwx.symm;subst hwx';clear hwx;cases c with
   | false =>
     have S1y:=hidI (qj7 HG.out);obtain ⟨lo,hi3,L3,m3,bd,ps,f1,f2,f3,hlf,hbd,hn32,hwh,hnew,hrec,hpar,hpl⟩:=HG.out.last HK.out;have CC:=hidI (S1.copy_any wr lo hi3 xb L3 m3 f2 f1 f3);have Hwf:=hidI f2;have Hrec:=hidI hrec;have Hwh:=hidI hwh;have Hnew2:=hidI hnew;have Hpar:=hidI hpar;have Hmlr:=hidI (Hml.out.below HBr.out hB0);obtain ⟨xs,hxs⟩:∃ xs,xs=wr.heap.size:=⟨_,rfl⟩;have Hxs:=hidI hxs;have R0:=HR.out;rw [Hnn.out] at R0;obtain ⟨a5,c5,hv5,hin5⟩:=qbW R0;obtain ⟨rfl,rfl⟩:a5=na∧c5=nc:=by cases hv5;exact ⟨rfl,rfl⟩
     have Hin5:=hidI hin5;clear f1 f2 f3 hrec hwh hnew hpar hxs hv5 hin5 R0 Hc;go_wp2_with fail;refine S1y.out.mono ?_;rintro e w' ⟨rfl,hw⟩;have hw':=hw.symm;subst hw';clear hw S1y;go_wp2_with fail;refine CC.out.mono ?_;rintro e V1 ⟨L4,rfl,hC4,hb4⟩;have Hin6:=hidI (Hin5.out.below hb4);rw [←Hxs.out] at hC4 hb4 ⊢;have hml4:ML V1:=Hmlr.out.below (B:=xs) hb4 (by rw [Hxs.out];exact Hmlr.out.lt);have D:=hidI (mountU V1 xs V1.heap.size xs L4 m3 Hwf.out hC4 (Nat.le_refl _) hlf _ rfl bd n hbd hn32 Hwh.out Hnew2.out ps Hrec.out (fun f hf=>⟨(scanF_ok hf).1,by have:=(scanF_ok hf).2;have:=Hwf.out.nb2;omega⟩) hml4 hP (qac l) Hpar.out ((qbH _).2 HK.out.tree.order) hpl);have HB4:Hid (Below B w V1):=hidI (HBr.out.trans (hb4.mono (by have:=HBs.out;have:=Hxs.out;omega)));clear hC4 hb4 hml4 CC;go_wp2_with fail;refine D.out.mono ?_
     rintro e V2 ⟨fb2,lb2,tb2,ib2,n2,rfl,hF2,hT2,hLg2,hnn2,hBl2,q1,q2,q3,q4,q5,hb5⟩;have HB5:Hid (Below B w V2):=hidI (HB4.out.trans (hb5.mono (by have h2:=HB4.out.size;have h3:=HB.out;omega)));have hml5:ML V2:=Hml.out.below HB5.out hB0;have TA:=hidI (qd5 V2 fb2 xs lb2 tb2 (qac l) hF2 hT2 HK.out.tree.order hml5);rw [qdE HK.out.tree] at TA;have Hin7:=hidI (Hin6.out.below hb5);clear hF2 hT2 hLg2 hBl2 hb5 D hml5;go_wp2_with fail;refine TA.out.mono ?_;rintro e V3 ⟨hb6,v6,rfl,hown6⟩;obtain ⟨a6,c6,rfl,hin6⟩:=qa9 hown6;have SA:=hidI (qb9 a5 a6 c5 c6 now (qac l) V3 (Hin7.out.below hb6) hin6 (by have:=(HK.out.perm Hp.out).len;omega) (by rw [qak];have:=HK.out.len;omega));rw [qb8 Hp.out,←Hnn.out] at SA;have HB6:Hid (Below B w V3):=hidI (HB5.out.trans (hb6.mono (by have h2:=HB5.out.size;have h3:=HB.out;omega)));clear hb6 hown6 hin6 TA
     go_wp2_with fail;refine SA.out.mono ?_;rintro e V4 ⟨rfl,hb7⟩;have HB7:Hid (Below B w V4):=hidI (HB6.out.trans (hb7.mono (by have h2:=HB6.out.size;have h3:=HB.out;omega)));clear hb7 SA;go_wp2_with fail;go_ret
     refine ⟨by simp,?_⟩;rw [←HB.out];exact HB7.out
   | true =>
     obtain ⟨hd1,hd2⟩:=Hc.out rfl;have hwB:Below w.heap.size w wr:=by rw [←HB.out];exact HBr.out
     obtain ⟨db,dof,hdae,hdc⟩:=(Hda.out.below hwB) (by omega);subst hdae;have hc0:=hdc i (by omega);have hc1:=hdc (i+1) (by omega);have hc2:=hdc (i+2) (by omega);have hz0:=Hzd.out i (by omega);have hz1:=Hzd.out (i+1) (by omega);have hz2:=Hzd.out (i+2) (by omega);obtain ⟨x0,hx0⟩:∃ x0,x0=zd i:=⟨_,rfl⟩;obtain ⟨x1,hx1⟩:∃ x1,x1=zd (i+1):=⟨_,rfl⟩;obtain ⟨x2,hx2⟩:∃ x2,x2=zd (i+2):=⟨_,rfl⟩;rw [←hx0] at hc0 hz0;rw [←hx1] at hc1 hz1;rw [←hx2] at hc2 hz2;have P3:=hidI (fun W=>qaX x0 3 W hz0.1 hz0.2 (by decide) (by decide));obtain ⟨r3,hr3⟩:∃ r3,r3=pickF x0 3:=⟨_,rfl⟩;rw [←hr3] at P3;have hid:((i:Nat):Int)<(dn:Nat):=by omega
     clear hdc hx0 hx1 hx2 hr3;go_upto_region 9 with fail
     go_cut [52] from 30 to 117 (fun s52 wx=>(∃ c:Bool,s52=.bool c∧Hid (c=true→tn<fn))∧wx=wr)
     case first =>
      by_cases h3:tn<fn
      ·have h3':((tn:Nat):Int)<(fn:Nat):=by omega
       go_wp2_with fail;refine (P3.out _).mono ?_;rintro e w' ⟨rfl,hw⟩;have hw':=hw.symm;subst hw';clear hw;go_wp2_with fail;go_meet
       case rel=>exact ⟨⟨_,rfl,hidI fun _=>h3⟩,rfl⟩
      have h3':decide (((tn:Nat):Int)<(fn:Nat))=false:=by simp;omega
      go_wp2_with fail;go_meet
      case rel=>exact ⟨⟨_,rfl,hidI fun h=>by simp at h⟩,rfl⟩
     case rest =>
      obtain ⟨⟨c,rfl,Hc3⟩,hwx⟩:=hcut;have hwx':=hwx.symm;subst hwx';clear hwx P3 Hc;go_upto_if 52 with fail
      go_cut [10] from 30 to 117 (fun s10 wx=>∃ tn':Nat,s10=.int .i64 (tn':Nat)∧tn'≤i+1∧Hid (FsG u wx fb xb T (tn'=0) m l n)∧Hid (S1.Fm T wr wx))
      case first =>
       cases c with
       | false =>
         go_wp2_with fail;go_meet
         case rel=>exact ⟨tn,rfl,by omega,HG,hidI (S1.Fm.refl _ _)⟩
       | true =>
         have h3:=Hc3.out rfl;obtain ⟨fk,fo,hfae,hfc⟩:=(Hfa.out.below hwB) (by omega);subst hfae;have hy:=hfc tn h3;have hzy:=Hzf.out tn h3;obtain ⟨y,hye⟩:∃ y,y=zf tn:=⟨_,rfl⟩;rw [←hye] at hy hzy;have h3':((tn:Nat):Int)<(fn:Nat):=by omega
         have h30:(0:Int)≤(tn:Nat):=by omega
         have P12:=hidI (fun W=>qaX y 12 W hzy.1 hzy.2 (by decide) (by decide));obtain ⟨r12,hr12⟩:∃ r12,r12=pickF y 12:=⟨_,rfl⟩;rw [←hr12] at P12;clear hfc hye hr12;have hGd:FsG u wr.drew fb xb T (tn=0) m l n:=HG.out.below (Below.refl _ _).drew;have FA:=hidI (fun q h1 h2=>qla hGd ((r12:Nat):Int) q h1 h2);obtain ⟨hq1,hq2⟩:=tdiv16 hzy.1 hzy.2;obtain ⟨q,hq⟩:∃ q,y.tdiv 16=q:=⟨_,rfl⟩;rw [hq] at hq1 hq2;have gq:IntKind.i64.wrap q=q:=by rw [IntKind.wrap_i64];omega
         have hyd:wr.drew.cell? ⟨fk,fo+tn,none⟩=some (.int .i64 y):=hy;have hfkB:fk<B:=by
          obtain ⟨b',off',e,hc'⟩:=Hfa.out (by omega);cases e
          rw [HB.out];exact World.block_lt_of_cell? w _ (hc' 0 (by omega))
         have hfkr:fk<wr.heap.size:=by have:=HBs.out;omega
         clear hGd;go_wp2_with fail;go_region_held3 (fun V=>V.cell? ⟨fk,fo+tn,none⟩=some (.int .i64 y)) (go_keep) (first
          | (go_at_call 10;refine (P12.out _).mono ?_;rintro e w' ⟨rfl,hw⟩;have hw':=hw.symm;subst hw';clear hw)
          | (go_at_call 21;refine (FA.out q hq1 hq2).mono ?_;rintro e V ⟨rfl,hGV,hFV⟩;have HGV:=hidI hGV;have HFV:=hidI hFV;have f1:V.cell? ⟨fk,fo+tn,none⟩=some (.int .i64 y):=(World.cell?_of_block (HFV.out.block fk hfkr (fun h=>by have:=HT.out fk h;omega))).trans hyd;clear hGV hFV))
         rename_i hHeld;clear hHeld;go_wp2_with fail;go_meet
         case rel=>exact ⟨tn+1,by go_num,by omega,hidI (HGV.out.weaken fun h=>by omega),hidI ((S1.Fm.refl T wr).drew.trans HFV.out)⟩
      case rest =>
       obtain ⟨tn2,rfl,htn2,HG2,HF2⟩:=hcut;have hdbB:db<B:=by
        obtain ⟨b',off',e,hc'⟩:=Hda.out (by omega);cases e
        rw [HB.out];exact World.block_lt_of_cell? w _ (hc' 0 (by omega))
       have hdbr:db<wr.heap.size:=by have:=HBs.out;omega
       have hblk:wc.heap[db]? = wr.heap[db]? := HF2.out.block db hdbr (fun h=>by have:=HT.out db h;omega);have k0:wc.drew.cell? ⟨db,dof+i,none⟩=some (.int .i64 x0):=(World.cell?_of_block hblk).trans hc0;have k1:wc.drew.cell? ⟨db,dof+(i+1),none⟩=some (.int .i64 x1):=(World.cell?_of_block hblk).trans hc1;have k2:wc.drew.cell? ⟨db,dof+(i+2),none⟩=some (.int .i64 x2):=(World.cell?_of_block hblk).trans hc2;have hRd:RowK wc.drew T (.slice na now.length nc) now:=by rw [←Hnn.out];exact (HR.out.fm HF2.out fun k hk=>.inl hk).below (Below.refl _ _).drew
       have HBc:Hid (Below B w wc.drew):=hidI ((HBr.out.trans (HF2.out.below (fun k hk=>HT.out k hk) HBs.out)).drew);have hGd:FsG u wc.drew fb xb T (tn2=0) m l n:=HG2.out.below (Below.refl _ _).drew;have DA:=hidI (qm7 hP x0 x1 x2 na nc wc.drew fb xb T (tn2=0) m l now n (by omega) hGd HK.out Hp.out hRd (Hml.out.below HBc.out hB0) (fun h=>by have:=HT.out 0 h;omega) (by rw [Hroom.out];omega) hz0.1 hz0.2 hz1.1 hz1.2 hz2.1 hz2.2);rw [←Hnn.out] at DA;have hdbc:db<wc.drew.heap.size:=by have:=HF2.out.size;show db<wc.heap.size;omega
       have e1:((i:Nat):Int)+1<(dn:Nat):=by omega
       have e2:((i:Nat):Int)+2<(dn:Nat):=by omega
       have e0:(0:Int)≤(i:Nat):=by omega
       have g1:IntKind.i64.wrap (((i:Nat):Int)+1)=((i:Nat):Int)+1:=by rw [IntKind.wrap_i64];omega
       have g2:IntKind.i64.wrap (((i:Nat):Int)+2)=((i:Nat):Int)+2:=by rw [IntKind.wrap_i64];omega
       have g3:(0:Int)≤((i:Nat):Int)+1:=by omega
       have g4:(0:Int)≤((i:Nat):Int)+2:=by omega
       have g5:(((i:Nat):Int)+1).toNat=i+1:=by omega
       have g6:(((i:Nat):Int)+2).toNat=i+2:=by omega
       clear HG htn Hc3 hGd hRd hblk hc0 hc1 hc2;go_wp2_with fail;go_region_held3 (fun V=>V.cell? ⟨db,dof+i,none⟩=some (.int .i64 x0)∧V.cell? ⟨db,dof+(i+1),none⟩=some (.int .i64 x1)∧V.cell? ⟨db,dof+(i+2),none⟩=some (.int .i64 x2)) (go_keep) (first
        | (go_at_call 22;refine DA.out.mono ?_;rintro e V ⟨x,y,v',now',T',l2,n2,rfl,hG',hn',hK',hT',hF',hR1,hR2,hor⟩;have HG':=hidI hG';have HK':=hidI hK';have HT':=hidI hT';have HF':=hidI hF';have HR1:=hidI hR1;have HR2:=hidI hR2;have Hor:=hidI hor;have hbV:=hF'.block db hdbc (fun h=>by have:=HT.out db h;omega);have f0:V.cell? ⟨db,dof+i,none⟩=some (.int .i64 x0):=(World.cell?_of_block hbV).trans k0;have f1:V.cell? ⟨db,dof+(i+1),none⟩=some (.int .i64 x1):=(World.cell?_of_block hbV).trans k1;have f2:V.cell? ⟨db,dof+(i+2),none⟩=some (.int .i64 x2):=(World.cell?_of_block hbV).trans k2;clear hG' hK' hT' hF' hR1 hR2 hor hbV))
       rename_i hHeld;clear hHeld DA;obtain ⟨a',c',hv',_⟩:=qbW HR2.out;subst hv';obtain ⟨nn',hnn'⟩:∃ q,q=now'.length:=⟨_,rfl⟩;rw [←hnn'] at HR2 ⊢;have Hnn':=hidI hnn';clear hnn';have HBV:Hid (Below B w V):=hidI (HBc.out.trans (HF'.out.below (fun k hk=>HT.out k hk) (by have h1:=HBc.out.size;have h2:=HB.out;omega)));have HTV:Hid (∀ j,T' j→B≤j):=hidI (fun j hj=>by
        rcases HT'.out j hj with h | h
        ·exact HT.out j h
        have h1:=HBc.out.size;have h2:=HB.out;omega)
       have TA:=hidI (qkm HG'.out HK'.out.tree (Hml.out.below HBV.out hB0));rcases Hor.out with ⟨hx,hy,hp'⟩ | ⟨hx,hy,hp'⟩ | ⟨hxy,hx,hsn,hp'⟩
       ·subst hx;subst hy;have Hp3:=hidI hp';clear hp' Hor HT' HF' HR1 HR HBc;have R0:=HR2.out;rw [Hnn'.out] at R0;obtain ⟨a5,c5,hv5,hin5⟩:=qbW R0;obtain ⟨rfl,rfl⟩:a5=a'∧c5=c':=by cases hv5;exact ⟨rfl,rfl⟩
        have Hin5:=hidI hin5;clear hv5 hin5 R0;go_wp2_with fail;refine TA.out.mono ?_;rintro e V2 ⟨hb2,v2,rfl,hown2⟩;rw [←qak l2] at hown2;obtain ⟨a6,c6,rfl,hin6⟩:=qa9 hown2;have SA:=hidI (qb9 a5 a6 c5 c6 now' (qac l2) V2 (Hin5.out.below hb2) hin6 (by have:=(HK'.out.perm Hp3.out).len;omega) (by rw [qak];have:=HK'.out.len;omega));rw [qb8 Hp3.out,←Hnn'.out] at SA;have Hb2:=hidI hb2;clear hb2 hown2 hin6 TA;go_wp2_with fail;refine SA.out.mono ?_;rintro e V3 ⟨rfl,hb3⟩;have Hb3:Hid (Below V.heap.size V V3):=hidI (Hb2.out.trans (hb3.mono Hb2.out.size));clear hb3 SA;go_wp2_with fail;go_roundg (63 - (i+3))
        case measure=>omega
        case rel=>exact ⟨i+3,tn2,n2,a5,nn',c5,l2,now',T',by go_num,rfl,rfl,by omega,by omega,by omega,by omega,Hnn',hidI (HR2.out.below Hb3.out),hidI (HG'.out.below Hb3.out),HK',Hp3,HTV,hidI (HBV.out.trans (Hb3.out.mono (by have h1:=HBV.out.size;have h2:=HB.out;omega)))⟩
       ·subst hx;have hyb:(x==0)=false:=by simp [hy]
        have Hp3:=hidI hp';clear hp' Hor HT' HF' HR2 HR HBc Hnn';have R0:=HR1.out;rw [Hnn.out] at R0;obtain ⟨a5,c5,hv5,hin5⟩:=qbW R0;obtain ⟨rfl,rfl⟩:a5=na∧c5=nc:=by cases hv5;exact ⟨rfl,rfl⟩
        have Hin5:=hidI hin5;clear hv5 hin5 R0;go_wp2_with fail;refine TA.out.mono ?_;rintro e V2 ⟨hb2,v2,rfl,hown2⟩;rw [←qak l2] at hown2;obtain ⟨a6,c6,rfl,hin6⟩:=qa9 hown2;have SA:=hidI (qb9 a5 a6 c5 c6 now (qac l2) V2 (Hin5.out.below hb2) hin6 (by have:=(HK'.out.perm Hp3.out).len;omega) (by rw [qak];have:=HK'.out.len;omega));rw [qb8 Hp3.out,←Hnn.out] at SA;have Hb2:=hidI hb2;clear hb2 hown2 hin6 TA;go_wp2_with fail;refine SA.out.mono ?_;rintro e V3 ⟨rfl,hb3⟩;have Hb3:Hid (Below V.heap.size V V3):=hidI (Hb2.out.trans (hb3.mono Hb2.out.size));clear hb3 SA;go_wp2_with fail;go_roundg (63 - (i+3))
        case measure=>omega
        case rel=>exact ⟨i+3,tn2,n2,a5,nn,c5,l2,now,T',by go_num,rfl,rfl,by omega,by omega,by omega,by omega,Hnn,hidI (HR1.out.below Hb3.out),hidI (HG'.out.below Hb3.out),HK',Hp3,HTV,hidI (HBV.out.trans (Hb3.out.mono (by have h1:=HBV.out.size;have h2:=HB.out;omega)))⟩
       subst hx;have hyb:((9:Int)==y)=false:=by simp [hxy]
       have htp:(0:Int)<(tn2:Nat):=by omega
       have Hp3:=hidI hp';clear hp' Hor HT' HF' HR2 HR HBc Hnn';have R0:=HR1.out;rw [Hnn.out] at R0;obtain ⟨a5,c5,hv5,hin5⟩:=qbW R0;obtain ⟨rfl,rfl⟩:a5=na∧c5=nc:=by cases hv5;exact ⟨rfl,rfl⟩
       have Hin5:=hidI hin5;clear hv5 hin5 R0;go_wp2_with fail;refine TA.out.mono ?_;rintro e V2 ⟨hb2,v2,rfl,hown2⟩;rw [←qak l2] at hown2;obtain ⟨a6,c6,rfl,hin6⟩:=qa9 hown2;have SA:=hidI (qb9 a5 a6 c5 c6 now (qac l2) V2 (Hin5.out.below hb2) hin6 (by have:=(HK'.out.perm Hp3.out).len;omega) (by rw [qak];have:=HK'.out.len;omega));rw [qb8 Hp3.out,←Hnn.out] at SA;have Hb2:=hidI hb2;clear hb2 hown2 hin6 TA;go_wp2_with fail;refine SA.out.mono ?_;rintro e V3 ⟨rfl,hb3⟩;have Hb3:Hid (Below V.heap.size V V3):=hidI (Hb2.out.trans (hb3.mono Hb2.out.size));clear hb3 SA;go_wp2_with fail;go_roundg (63 - (i+3))
       case measure=>omega
       case rel=>exact ⟨i+3,tn2,n2,a5,nn,c5,l2,now,T',by go_num,rfl,rfl,by omega,by omega,by omega,by omega,Hnn,hidI (HR1.out.below Hb3.out),hidI (HG'.out.below Hb3.out),HK',Hp3,HTV,hidI (HBV.out.trans (Hb3.out.mono (by have h1:=HBV.out.size;have h2:=HB.out;omega)))⟩
end Go.Proofs.YtodmdkhdbfbfgabGreatDoor
namespace Go.Proofs.YtodmdkhdbfbfgabGreatDoor.S1
open Go.RowKit Pk
structure MD (D:DataW Unit) (mp:List UInt8→Option Nat):Prop where
 is:Maps.IsMap D
 no:∀ s,mp s=none→Maps.has D (.string s)=false
 yes:∀ s v,mp s=some v→Maps.has D (.string s)=true∧D.atKey (.string s) (.lit (.int .i64 0))=.lit (.int .i64 (v:Nat))
theorem MD.nil:MD (.map []) (fun _=>none):=⟨Maps.isMap_empty,fun _ _=>rfl,fun _ _ h=>by cases h⟩
theorem MD.put {D:DataW Unit} {mp:List UInt8→Option Nat} (h:MD D mp) (k:List UInt8) (v:Nat):MD (D.put (.string k) (.lit (.int .i64 (v:Nat)))) (fun s=>if s=k then some v else mp s):=by
 have hk:WideAt.IsKeyLit (Lit.string k):=trivial;refine ⟨h.is.put _ _,fun s hs => ?_,fun s u hs => ?_⟩
 ·by_cases e:s=k
  ·rw [if_pos e] at hs;cases hs
  rw [if_neg e] at hs;rw [Maps.has_put_other (fun e2=>e (by injection e2))];exact h.no s hs
 by_cases e:s=k
 ·rw [if_pos e] at hs;cases hs
  subst e;exact ⟨Maps.has_put_same h.is hk _,Maps.atKey_put_same h.is hk _ _⟩
 rw [if_neg e] at hs;rw [Maps.has_put_other (fun e2=>e (by injection e2)),Maps.atKey_put_other (fun e2=>e (by injection e2))];exact h.yes s u hs
structure PM (w:World) (B pb mb bb:Nat) (d:List UInt8) (m:Nat) (mp:List UInt8→Option Nat) (bf:Nat→Int):Prop where
 hp:B≤pb
 hm:B≤mb
 hb:B≤bb
 st:w.heap[pb]? = some (.cells #[.string (txt d),.map (some mb),.slice (some ⟨bb,0,none⟩) d.length d.length] 287 (0,0))
 mo:∃ D,w.ownsMap Tryz.prog 9 (plainElem Tryz.prog 3) mb m D∧MD D mp
 bo:w.rowIs bb 3 d.length (fun j=>.int .i64 (bf j))
def pkKey3 (d:List UInt8) (v:Nat):List UInt8:=(d.drop v).take 3
theorem qhk (w:World) (pb a:Nat) (d:List UInt8) (x y:Value) (hd:d.length≤4000) (ha:a≤4000) (h:d.length<a+3) (hst:w.heap[pb]? = some (.cells #[.string (txt d),x,y] 287 (0,0))) :
 Calls Tryz.prog 231 #[.pointer (some ⟨pb,0,none⟩),.int .i64 (a:Nat)] w fun e w'=>e=.returned (.tuple #[.string ⟨#[]⟩,.bool false])∧w'=w:=by
 have x0:w.cell? ⟨pb,0,none⟩=some (.string (txt d)):=by rw [cell_of_row w pb 0 _ 287 (0,0) hst];rfl
 have hs:(txt d).size=d.length:=qaa d
 generalize txt d=t at *
 have h1:((t.size:Nat):Int)<(a:Int)+3:=by omega
 clear hst hs;go_enter Tryz.func231,Tryz.ntmps231
 go_wp2;go_ret2
 exact ⟨rfl,rfl⟩
theorem qfd (w:World) (pb a:Nat) (d:List UInt8) (x y:Value) (hd:d.length≤4000) (h:a+3≤d.length) (hst:w.heap[pb]? = some (.cells #[.string (txt d),x,y] 287 (0,0))) :
 Calls Tryz.prog 231 #[.pointer (some ⟨pb,0,none⟩),.int .i64 (a:Nat)] w fun e w'=>e=.returned (.tuple #[.string (txt (pkKey3 d a)),.bool true])∧w'=w:=by
 have x0:w.cell? ⟨pb,0,none⟩=some (.string (txt d)):=by rw [cell_of_row w pb 0 _ 287 (0,0) hst];rfl
 have hs:(txt d).size=d.length:=qaa d;have hex:=qah d a (a+3);have Hex:Hid ((txt d).extract a (a+3)=txt (pkKey3 d a)):=by
  show _=_;rw [hex];unfold pkKey3;rw [show a+3 - a=3 by omega]
 generalize txt d=t at *
 have h1:¬((t.size:Nat):Int)<(a:Int)+3:=by omega
 have h2:a+3≤t.size:=by omega
 have h4:t.size≤4000:=by omega
 clear hst hex hs;go_enter Tryz.func231,Tryz.ntmps231
 go_wp2;go_ret2
 refine ⟨?_,rfl⟩;rw [←Hex.out];rfl
theorem qjt (w:World) (pb a f:Nat) (d:List UInt8) (x y:Value) (hd:d.length≤4000) (hf:f<a) (ha:a≤d.length) (hst:w.heap[pb]? = some (.cells #[.string (txt d),x,y] 287 (0,0))) :
 Calls Tryz.prog 233 #[.pointer (some ⟨pb,0,none⟩),.int .i64 (f:Nat),.int .i64 (a:Nat)] w fun e w'=>∃ k q:Nat,e=.returned (.int .i64 (k:Nat))∧w'=w.drewN q∧k≤34∧a+k≤d.length∧(∀ j,j<k→d.getD (f+j) 0=d.getD (a+j) 0)∧(k=34∨a+k=d.length∨d.getD (f+k) 0≠d.getD (a+k) 0):=by
 have x0:w.cell? ⟨pb,0,none⟩=some (.string (txt d)):=by rw [cell_of_row w pb 0 _ 287 (0,0) hst];rfl
 have hs:(txt d).size=d.length:=qaa d;have hgd:∀ k (h:k<(txt d).size),((txt d)[k]'h).toNat=(d.getD k 0).toNat:=fun k h=>by rw [qaV]
 generalize txt d=t at *
 have Hs:=hidI hs;have Hgd:=hidI hgd;clear hst hgd hs;go_enter Tryz.func233,Tryz.ntmps233
 go_wp2
 go_loopw [7] (fun i wr=>∃ k q:Nat,i=.int .i64 (k:Nat)∧wr=w.drewN q∧k≤34∧a+k≤d.length∧Hid (∀ j,j<k→d.getD (f+j) 0=d.getD (a+j) 0)) (fun i _=>34 - (intOf i).toNat)
 case atStart=>exact ⟨0,0,rfl,rfl,by omega,by omega,fun j hj=>by omega⟩
 case round =>
  obtain ⟨k,q,rfl,rfl,hk,hak,Hk⟩:=hrel;have hts:=Hs.out;have x1:(w.drewN q).cell? ⟨pb,0,none⟩=some (.string t):=x0;by_cases h34:k=34
  ·have g1:decide ((k:Int)<34)=false:=by simp;omega
   have Hts:=hidI hts;clear hts;go_wp2
   go_quiet (fail)
   go_wp2;go_ret
   exact ⟨k,_,rfl,by simp only [World.drewN_drewN,World.drew_drewN];rfl,by omega,by omega,Hk.out,.inl h34⟩
  have g1:decide ((k:Int)<34)=true:=by simp;omega
  by_cases han:a+k=d.length
  ·have g2:decide ((a:Int)+(k:Int)<(t.size:Int))=false:=by simp;omega
   have Hts:=hidI hts;clear hts;go_wp2
   go_quiet (fail)
   go_wp2;go_ret
   exact ⟨k,_,rfl,by simp only [World.drewN_drewN,World.drew_drewN];rfl,by omega,by omega,Hk.out,.inr (.inl han)⟩
  obtain ⟨A,hA⟩:∃ A,A=a+k:=⟨_,rfl⟩;obtain ⟨F,hF⟩:∃ F,F=f+k:=⟨_,rfl⟩;have g2:decide ((A:Int)<(t.size:Int))=true:=by simp;omega
  have i1:F<t.size:=by omega
  have i2:A<t.size:=by omega
  have e1:=Hgd.out F i1;have e2:=Hgd.out A i2;have ht4:t.size≤4000:=by omega
  have w1:IntKind.i64.wrap ((a:Int)+(k:Int))=(A:Int):=by rw [IntKind.wrap_i64];omega
  have w2:IntKind.i64.wrap ((f:Int)+(k:Int))=(F:Int):=by rw [IntKind.wrap_i64];omega
  have v1:(a:Int)+(k:Int)=(A:Int):=by omega
  have v2:(f:Int)+(k:Int)=(F:Int):=by omega
  have hk34:k+1≤34∧a+(k+1)≤d.length:=by omega
  have HA:=hidI hA;have HF:=hidI hF;have Hts:=hidI hts;by_cases hc:d.getD F 0=d.getD A 0
  ·have Hk2:Hid (∀ j,j<k+1→d.getD (f+j) 0=d.getD (a+j) 0):=fun j hj=>by
    by_cases e:j=k
    ·subst e;rw [←HA.out,←HF.out];exact hc
    exact Hk.out j (by omega)
   rw [←hc] at e2
   generalize (d.getD F 0).toNat=u at *
   clear hts hc Hk hA hF;go_wp2
   go_quiet (fail)
   go_wp2;go_roundw
   case rel=>exact ⟨k+1,_,by go_num,by first | rfl | trivial | (simp only [World.drewN_drewN,World.drew_drewN];rfl),hk34.1,hk34.2,Hk2⟩
   case measure=>simp [intOf];omega
  have hne:(d.getD F 0).toNat≠(d.getD A 0).toNat:=fun h=>hc (UInt8.toNat_inj.1 h)
  have Hc:=hidI hc
  generalize (d.getD F 0).toNat=u at *
  generalize (d.getD A 0).toNat=v at *
  have g3:((u:Int)==(v:Int))=false:=by simp;omega
  clear hts hc hA hF;go_wp2
  go_quiet (fail)
  go_wp2;go_ret
  exact ⟨k,_,rfl,by simp only [World.drewN_drewN,World.drew_drewN];rfl,by omega,by omega,Hk.out,.inr (.inr (by rw [←HA.out,←HF.out];exact Hc.out))⟩
def topV:Option Nat→Int
 | some v=>((v:Nat):Int)
 | none => -1
theorem Tryz.keyed9:Maps.Keyed Tryz.prog 9:=Maps.string_keyed Tryz.underlying9
theorem qkw (w:World) (B pb mb bb m:Nat) (d s:List UInt8) (mp:List UInt8→Option Nat) (bf:Nat→Int) (hs:s.length≤4000) (h:PM w B pb mb bb d m mp bf) :
 Calls Tryz.prog 232 #[.pointer (some ⟨pb,0,none⟩),.string (txt s)] w fun e w'=>e=.returned (.int .i64 (topV (mp s)))∧w'=w:=by
 obtain ⟨D,hD,hMD⟩:=h.mo;have x1:w.cell? ⟨pb,1,none⟩=some (.map (some mb)):=by rw [cell_of_row w pb 1 _ 287 (0,0) h.st];rfl
 have hkey:keyOf Tryz.prog 9 (.string (txt s))=some (.string s):=WideMaps.keyOf_string_mk Tryz.underlying9 (by rw [qaa];unfold maxLen;omega);have hz:(zeroValue 3).run Tryz.prog w=.ok (.int .i64 0) w:=by
  obtain ⟨i0,hi,hz0,_⟩:=info_parts Tryz.info3;simp [zeroValue,typeInfo,hi,hz0]
 have HMD:=hidI hMD;clear h hMD
 generalize txt s=t at *
 go_enter Tryz.func232,Tryz.ntmps232
 cases hm:mp s with
 | none =>
   have hno:=HMD.out.no s hm;go_wp2_with (at_lookup;refine wpList_lookup_own_ok_int _ rfl _ _ 285 rfl 9 3 .i64 Tryz.keyed9 Tryz.underlying285 Tryz.underlying3 hz mb m D rfl hD _ (.string s) rfl hkey ?_;intro c hat hwc);go_ret
   exact ⟨rfl,rfl⟩
 | some v =>
   have hyes:=HMD.out.yes s v hm;have hy1:=hyes.1;have Hy2:=hidI hyes.2;clear hyes;go_wp2_with (at_lookup;refine wpList_lookup_own_ok_int _ rfl _ _ 285 rfl 9 3 .i64 Tryz.keyed9 Tryz.underlying285 Tryz.underlying3 hz mb m D rfl hD _ (.string s) rfl hkey ?_;intro c hat hwc);go_ret
   rw [Hy2.out] at hat
   injection hat with h1
   injection h1 with h2 h3
   exact ⟨qaw (by rw [←h3];rfl),rfl⟩
structure PI (d:List UInt8) (mp:List UInt8→Option Nat) (bf:Nat→Int) (a:Nat):Prop where
 lt:∀ s v,mp s=some v→v<a∧v+3≤d.length∧pkKey3 d v=s
 ch:∀ v,v<a→v+3≤d.length→bf v = -1∨∃ u:Nat,bf v=(u:Int)∧u<v∧pkKey3 d u=pkKey3 d v
 all:∀ v,v<a→v+3≤d.length→∃ u,mp (pkKey3 d v)=some u
theorem qml (d:List UInt8) (u a j:Nat) (h:pkKey3 d u=pkKey3 d a) (hj:j<3) (hu:u+3≤d.length) (ha:a+3≤d.length):d.getD (u+j) 0=d.getD (a+j) 0:=by
 have h1:=congrArg (fun l=>l.getD j 0) h;unfold pkKey3 at h1;simp only [List.getD_eq_getElem?_getD,List.getElem?_take_of_lt hj,List.getElem?_drop] at h1;simpa [List.getD_eq_getElem?_getD] using h1
theorem qeL (d:List UInt8) (a:Nat):(pkKey3 d a).length≤3:=by unfold pkKey3;rw [List.length_take];omega
structure Good (d:List UInt8) (a len bk:Nat):Prop where
 lo:3≤len
 hi:len≤34
 b1:1≤bk
 b2:bk≤a
 fit:a+len≤d.length
 same:∀ j,j<len→d.getD (a+j) 0=d.getD (a+j - bk) 0
theorem qiG (w:World) (B pb mb bb m a:Nat) (d:List UInt8) (mp:List UInt8→Option Nat) (bf:Nat→Int) (hd:d.length≤4000) (ha:a≤d.length) (h3:d.length<a+3) (h:PM w B pb mb bb d m mp bf) :
 Calls Tryz.prog 203 #[.pointer (some ⟨pb,0,none⟩),.int .i64 (a:Nat)] w fun e w'=>e=.returned (.tuple #[.int .i64 0,.int .i64 0])∧w'=w:=by
 have Hst:=hidI (qhk w pb a d _ _ hd (by omega) h3 h.st);clear h;go_enter Tryz.func203,Tryz.ntmps203
 go_wp2_with (go_at_call 231;refine Hst.out.mono ?_;rintro e w' ⟨rfl,rfl⟩);go_ret2
 exact ⟨rfl,rfl⟩
def LongP (d:List UInt8) (a:Nat) (mp:List UInt8→Option Nat) (w:World) (e:Ending) (w':World):Prop:=
 ∃ len bk q:Nat,e=.returned (.tuple #[.int .i64 (len:Nat),.int .i64 (bk:Nat)])∧w'=w.drewN q∧((len=0∧bk=0)∨Good d a len bk)∧(∀ v,mp (pkKey3 d a)=some v→(∀ j,a+j<d.length→d.getD (v+j) 0=d.getD (a+j) 0)→min 34 (d.length - a)≤len)
theorem qgM (w:World) (B pb mb bb m a:Nat) (d:List UInt8) (mp:List UInt8→Option Nat) (bf:Nat→Int) (hd:d.length≤4000) (h3:a+3≤d.length) (h:PM w B pb mb bb d m mp bf) (hpi:PI d mp bf a) :
 Calls Tryz.prog 203 #[.pointer (some ⟨pb,0,none⟩),.int .i64 (a:Nat)] w fun e w'=>LongP d a mp w e w':=by
 have Hst:=hidI (qfd w pb a d _ _ hd h3 h.st);have Htop:=hidI (qkw w B pb mb bb m d (pkKey3 d a) mp bf (by have:=qeL d a;omega) h);have Hag:Hid (∀ f q,f<a→Calls Tryz.prog 233 #[.pointer (some ⟨pb,0,none⟩),.int .i64 (f:Nat),.int .i64 (a:Nat)] (w.drewN q) _):=fun f q hf=>qjt (w.drewN q) pb a f d _ _ hd hf (by omega) h.st
 have x2:∀ q,(w.drewN q).cell? ⟨pb,2,none⟩=some (.slice (some ⟨bb,0,none⟩) d.length d.length):=fun q=>by
  show w.cell? _=_;rw [cell_of_row w pb 2 _ 287 (0,0) h.st];rfl
 have Hbo:=hidI h.bo;have Hpi:=hidI hpi;have hmax:max (0:Int) ((a:Int) - 4096)=0:=by omega
 clear h hpi;obtain ⟨tp,htp⟩:∃ tp:Int,tp=topV (mp (pkKey3 d a)):=⟨_,rfl⟩;rw [←htp] at Htop;have Htp:Hid (tp = -1∨∃ u:Nat,tp=(u:Int)∧u<a∧pkKey3 d u=pkKey3 d a):=by
  cases hm:mp (pkKey3 d a) with
  | none=>rw [hm] at htp;exact .inl htp
  | some v=>rw [hm] at htp;have:=Hpi.out.lt _ _ hm;exact .inr ⟨v,htp,this.1,this.2.2⟩
 have Hv:Hid (∀ v,mp (pkKey3 d a)=some v→tp=(v:Int)):=fun v hm=>by rw [hm] at htp;exact htp
 clear htp;go_enter Tryz.func203,Tryz.ntmps203
 go_wp2_with (first | (go_at_call 231;refine Hst.out.mono ?_;rintro e w' ⟨rfl,hw⟩;have hw':=hw.symm;subst hw') | (go_at_call 232;refine Htop.out.mono ?_;rintro e w' ⟨rfl,hw⟩;have hw':=hw.symm;subst hw'))
 go_loopw [8,4,5] (fun f l b wr=>∃ fr:Int,∃ len bk q:Nat,f=.int .i64 fr∧l=.int .i64 (len:Nat)∧b=.int .i64 (bk:Nat)∧wr=w.drewN q∧len≤34 ∧ -1≤fr∧fr≤4000∧Hid (fr = -1∨∃ u:Nat,fr=(u:Int)∧u<a∧pkKey3 d u=pkKey3 d a)∧Hid ((len=0∧bk=0)∨Good d a len bk)∧Hid ((fr=tp∧len=0)∨(∀ v,mp (pkKey3 d a)=some v→(∀ j,a+j<d.length→d.getD (v+j) 0=d.getD (a+j) 0)→min 34 (d.length - a)≤len))) (fun f _ _ _=>(intOf f+1).toNat)
 case atStart=>exact ⟨tp,0,0,0,rfl,rfl,rfl,rfl,by omega,by rcases Htp.out with h | ⟨u,h,_⟩<;>omega,by rcases Htp.out with h | ⟨u,h,h2,_⟩<;>omega,Htp,.inl ⟨rfl,rfl⟩,.inl ⟨rfl,rfl⟩⟩
 case round =>
  clear Hst Htop;obtain ⟨fr,len,bk,q,rfl,rfl,rfl,rfl,hl34,hf1,hf2,Hfr,Hgd,Hlow⟩:=hrel;by_cases hfr:fr = -1
  ·subst hfr;have Hend:Hid (∀ v,mp (pkKey3 d a)=some v→(∀ j,a+j<d.length→d.getD (v+j) 0=d.getD (a+j) 0)→min 34 (d.length - a)≤len):=fun v hv hall=>by
    rcases Hlow.out with ⟨h1,h2⟩ | h1
    ·have:=Hv.out v hv;omega
    exact h1 v hv hall
   go_wp2;go_ret2
   exact ⟨len,bk,q,rfl,rfl,Hgd.out,Hend.out⟩
  obtain ⟨u,hu,hua,hku⟩:∃ u:Nat,fr=(u:Int)∧u<a∧pkKey3 d u=pkKey3 d a:=by
   rcases Hfr.out with h | h
   ·exact absurd h hfr
   exact h
  have Hlow2:Hid (((u:Int)=tp∧len=0)∨(∀ v,mp (pkKey3 d a)=some v→(∀ j,a+j<d.length→d.getD (v+j) 0=d.getD (a+j) 0)→min 34 (d.length - a)≤len)):=by
   rw [←hu];exact Hlow
  subst hu;have Hku:=hidI hku;have hch:=Hpi.out.ch u hua (by omega);have y2:=x2 q;have hun:u<d.length:=by omega
  clear Hlow Hfr hku hf1 hf2 hfr;go_wp2_with fail;refine (Hag.out u q hua).mono ?_;rintro e w2 ⟨k,q2,rfl,rfl,hk34,hak,hsame,hstop⟩;have hk3:3≤k:=by
   by_cases e0:3≤k
   ·exact e0
   exfalso
   rcases hstop with h | h | h
   ·omega
   ·omega
   exact h (qml d u a k Hku.out (by omega) (by omega) h3)
  have Hgood:Hid (Good d a k (a - u)):=⟨hk3,hk34,by omega,by omega,hak,fun j hj=>by
   rw [show a+j - (a - u)=u+j by omega];exact (hsame j hj).symm⟩
  have Hkmax:Hid (∀ v,mp (pkKey3 d a)=some v→(u:Int)=tp→(∀ j,a+j<d.length→d.getD (v+j) 0=d.getD (a+j) 0)→min 34 (d.length - a)≤k):=fun v hv htp hall=>by
   have:=Hv.out v hv
   have hvu:v=u:=by omega
   subst hvu;rcases hstop with h | h | h
   ·omega
   ·omega
   by_cases e:a+k<d.length
   ·exact absurd (hall k e) h
   omega
  have hsub:(a:Int) - (u:Int)=((a - u:Nat):Int):=by omega
  have z0:∀ q',(w.drewN q').cell? ⟨bb,u,none⟩=some (.int .i64 (bf u)):=fun q'=>Hbo.out.cell (i:=u) hun
  have x2b:=x2 (q+q2);have z0b:=z0 (q+q2);have Hnext:Hid (bf u = -1∨∃ u2:Nat,bf u=(u2:Int)∧u2<a∧pkKey3 d u2=pkKey3 d a):=by
   rcases hch with h | ⟨u2,h1,h2,h4⟩
   ·exact .inl h
   exact .inr ⟨u2,h1,by omega,h4.trans Hku.out⟩
  have hb1:-1≤bf u∧bf u<u:=by rcases hch with h | ⟨u2,h1,h2,_⟩<;>omega
  have hun':(u:Int)<(d.length:Int):=by omega
  rw [World.drewN_drewN]
  generalize bf u=fn at *
  clear hsame hstop hch z0 x2 y2;by_cases hgt:len<k
  ·have hgt':decide ((len:Int)<(k:Int))=true:=by simp;omega
   have Hlow3:Hid (∀ v,mp (pkKey3 d a)=some v→(∀ j,a+j<d.length→d.getD (v+j) 0=d.getD (a+j) 0)→min 34 (d.length - a)≤k):=fun v hv hall=>by
    rcases Hlow2.out with ⟨h1,h2⟩ | h1
    ·exact Hkmax.out v hv h1 hall
    have:=h1 v hv hall;omega
   clear Hlow2 Hkmax Hgd;by_cases h34:k=34
   ·subst h34;go_wp2;go_ret2
    exact ⟨34,a - u,q+q2,rfl,rfl,.inr Hgood.out,Hlow3.out⟩
   have h34':((k:Int)==34)=false:=by simp;omega
   go_wp2;go_roundw
   case rel=>exact ⟨fn,k,a - u,q+q2,rfl,rfl,rfl,by first | rfl | trivial,by omega,by omega,by omega,Hnext,.inr Hgood.out,.inr Hlow3.out⟩
   case measure=>simp [intOf];omega
  have hgt':decide ((len:Int)<(k:Int))=false:=by simp;omega
  have Hlow3:Hid (∀ v,mp (pkKey3 d a)=some v→(∀ j,a+j<d.length→d.getD (v+j) 0=d.getD (a+j) 0)→min 34 (d.length - a)≤len):=fun v hv hall=>by
   rcases Hlow2.out with ⟨h1,h2⟩ | h1
   ·omega
   exact h1 v hv hall
  clear Hlow2 Hkmax;by_cases h34:len=34
  ·subst h34;go_wp2;go_ret2
   exact ⟨34,bk,q+q2,rfl,rfl,Hgd.out,Hlow3.out⟩
  have h34':((len:Int)==34)=false:=by simp;omega
  go_wp2;go_roundw
  case rel=>exact ⟨fn,len,bk,q+q2,rfl,rfl,rfl,by first | rfl | trivial,by omega,by omega,by omega,Hnext,Hgd,.inr Hlow3.out⟩
  case measure=>simp [intOf];omega
end Go.Proofs.YtodmdkhdbfbfgabGreatDoor.S1
