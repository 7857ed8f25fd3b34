/- Lemmas. -/
import Derived.StringKeys
import Derived.Maps.Views
import Derived.Test.YtodmdkhdbfbfgaaGreatDoorM24
set_option linter.unusedVariables false
set_option linter.unusedSimpArgs false
set_option maxRecDepth 100000
set_option maxHeartbeats 8000000
namespace Go.Proofs.YtodmdkhdbfbfgaaGreatDoor
section
open Go.RowKit Go.Nt
theorem RowK.old {w:World} {B:Nat} {v:Value} {l:List It} (h:w.ownsRow B 39 5 v l.length (its l)):RowK w (fun k=>w.heap.size≤k) v l:=by
 refine ⟨qbC h (Nat.zero_le _),fun g hg ht => ?_⟩
 have:=(h.lt g hg).2
 omega
theorem tdivN {y:Int} (d:Int) (hd:0<d) (h1:-9223372036854775808≤y) (h2:y≤9223372036854775807):-9223372036854775808≤y.tdiv d∧y.tdiv d≤9223372036854775807:=by
 by_cases h:0≤y
 ·rw [Int.tdiv_eq_ediv_of_nonneg h]
  have:=Int.ediv_nonneg h (Int.le_of_lt hd)
  have:=Int.ediv_le_self d h
  omega
 have e:y.tdiv d = -((-y).tdiv d):=by rw [←Int.neg_tdiv,Int.neg_neg]
 rw [e,Int.tdiv_eq_ediv_of_nonneg (by omega)]
 have:=Int.ediv_nonneg (a:=-y) (by omega) (Int.le_of_lt hd)
 have:=Int.ediv_le_self d (a:=-y) (by omega)
 omega
theorem qeM {u:Bs→Option Bs} (hP:PackC u) (ra da fa:Option Addr) (rn rc dn dc fn fc:Nat) (zr zd zf:Nat→Int) (w:World) (hml:ML w) (hrn:rn≤9223372036854775807) (hdn:dn≤9223372036854775807) (hfn:fn≤9223372036854775807) (hra:S1.IntsIn w ra rn zr) (hda:S1.IntsIn w da dn zd) (hfa:S1.IntsIn w fa fn zf)
 (hzr:∀ k,k<rn → -9223372036854775808≤zr k∧zr k≤9223372036854775807) (hzd:∀ k,k<dn → -9223372036854775808≤zd k∧zd k≤9223372036854775807) (hzf:∀ k,k<fn → -9223372036854775808≤zf k∧zf k≤9223372036854775807) :
 Calls Tryz.prog 7 #[.slice ra rn rc,.slice da dn dc,.slice fa fn fc] w fun e w'=>e=.returned (.bool true)∧Below w.heap.size w w':=by
 have A1:=hidI (qmC ra rn rc zr w hrn hra hzr);have hnew:=qlR 32 16 (fun _=>0);have hroom:=qiI;have A2:=hidI qlu;obtain ⟨m,hm⟩:∃ m,m=S1.mkM 32 16 0 (fun _=>0):=⟨_,rfl⟩;rw [←hm] at hnew hroom A2;have Hml:=hidI hml;have Hda:=hidI hda;have Hfa:=hidI hfa;have Hzd:=hidI hzd;have Hzf:=hidI hzf;have Hnew:=hidI hnew;have Hroom:=hidI hroom;obtain ⟨B,hB⟩:∃ B,B=w.heap.size:=⟨_,rfl⟩;have hB0:0<B:=by rw [hB];exact hml.lt
 have HB:=hidI hB;clear hm hml hra hda hfa hzr hzd hzf hnew hroom hB hrn;go_enter Tryz.func7,Tryz.ntmps7
 go_wp2_with fail;refine A1.out.mono ?_;rintro e w1 ⟨v1,l1,rfl,hk1,hown1,hb1⟩;obtain ⟨a1,c1,rfl,hin1⟩:=qbO hown1;have A3:=hidI (A2.out w1);have HB1:=hidI hb1;have Hk1:=hidI hk1;have Hin1:=hidI hin1;have HR1:Hid (RowK w1 (fun k=>w1.heap.size≤k) (.slice a1 l1.length c1) l1):=hidI (RowK.old hown1);obtain ⟨n1,hn1⟩:∃ n1,n1=l1.length:=⟨_,rfl⟩;have Hn1:=hidI hn1;rw [←hn1];clear hk1 hown1 hb1 hin1 hn1 A1 A2;go_wp2_with fail;refine A3.out.mono ?_;rintro e w2 ⟨L,hi,rfl,hhi,hC,hb2⟩;obtain ⟨z,hz⟩:∃ z,z=w1.heap.size:=⟨_,rfl⟩;rw [←hz] at hC hb2 ⊢;have hBz:B≤z:=by have:=HB1.out.size;have:=HB.out;omega
 have hb2':Below w.heap.size w w2:=HB1.out.trans (hb2.mono (by rw [hz];exact HB1.out.size));have M:=hidI (qky hP a1 c1 l1 w2 z hi z L m Hnew.out hC hhi (Hml.out.below hb2' Hml.out.lt) (by omega) (Hin1.out.below (by rw [←hz];exact hb2)) Hk1.out.tree (by rw [Hroom.out];have:=Hk1.out.weighs;unfold pagesN;omega));have HB2:=hidI hb2';have Hb2:=hidI hb2;have Hz:=hidI hz;rw [←Hn1.out] at M;clear hC hb2 hb2' hz hhi A3;go_wp2_with fail;refine M.out.mono ?_;rintro e w3 ⟨fb,xb,T0,rfl,hG,hT,hO⟩;have HG0:=hidI hG.sur;have hB3:Below B w w3:=by
  have h1:Below B w w2:=by rw [HB.out];exact HB2.out
  exact h1.trans (hO.below hBz (by have:=HB2.out.size;have:=HB.out;omega))
 have HT0:Hid (∀ j,T0 j→B≤j):=hidI (fun j hj=>by have:=hT j hj;have:=HB2.out.size;have:=HB.out;omega);have HB3:=hidI hB3;have HR3:Hid (RowK w3 T0 (.slice a1 n1 c1) l1):=hidI (by
  rw [Hn1.out];have r2:=HR1.out.below (by rw [←Hz.out];exact Hb2.out);exact r2.blocks (fun g hg hn=>hO.block g hg fun h=>hn (by rw [←Hz.out];exact h.1)) fun k hk=>.inr (hT k hk))
 have HK3:Hid (KT (qab l1)):=hidI (Hk1.out.perm (qao l1).symm);have HS3:Hid (B≤w3.heap.size):=hidI (by have h1:=hB3.size;have h2:=HB.out;omega);have HI3:=hidI (SurI.sure Hn1.out HR3.out HG0.out HK3.out (qao l1) HT0.out HB3.out HS3.out);clear hG hT hO hB3 M HR1;go_wp2_with fail
 go_loopg [7,8,9,10,11,12] 63 (fun k s7 s8 s9 s10 s11 s12 wr=>∃ (i tn n fb cb:Nat) (na:Option Addr) (nn nc:Nat) (ma:Option Addr) (mn mc:Nat) (l now:List It) (T:Nat→Prop) (ls:List (Value × List It)) (lf:Int),s12=.int .i64 (i:Nat)∧s11=.int .i64 (tn:Nat)∧s7=.slice na nn nc∧s8=.pointer (some ⟨fb,0,none⟩)∧s9=.pointer (some ⟨cb,0,none⟩)∧s10=.slice ma mn mc∧i≤62∧63 - i≤k∧tn≤i∧n≤1+701*i∧mn≤i+1∧lf≠0∧Hid (SurI u B w wr m fb cb T l now n lf na nn nc ma mn mc ls))
 case atStart=>exact ⟨0,0,1,fb,xb,a1,n1,c1,_,1,1,qab l1,l1,T0,_,-1,rfl,rfl,rfl,rfl,rfl,rfl,by omega,by omega,by omega,by omega,by omega,by omega,HI3⟩
 case round =>
  clear HR3 HG0 HK3 HT0 HB3 Hn1 Hk1 Hin1 HB2 Hb2 Hz HB1 Hnew HI3 HS3;obtain ⟨i,tn,n,fb,cb,na,nn,nc,ma,mn,mc,l,now,T,ls,lf,rfl,rfl,rfl,rfl,rfl,rfl,hi1,hk,htn,hn,hmn,hlf,HI⟩:=hrel;have HBs:Hid (B≤wr.heap.size):=hidI (by have:=HI.out.below.size;have:=HB.out;omega);go_upto_region 8 with fail
  go_cut [43] from 35 to 193 (fun s43 wx=>(∃ c:Bool,s43=.bool c∧Hid (c=true→i+2<dn∧i<60))∧wx=wr)
  case first=>as_aux_lemma =>
   by_cases h1:i+2<dn
   ·have h1':((i:Nat):Int)+2<(dn:Nat):=by omega
    by_cases h2:i<60
    ·have h2':((i:Nat):Int)<60:=by omega
     go_wp2_with fail;go_meet
     case rel=>exact ⟨⟨_,rfl,hidI fun _=>⟨h1,h2⟩⟩,rfl⟩
    have h2':decide (((i:Nat):Int)<60)=false:=by simp;omega
    go_wp2_with fail;go_meet
    case rel=>exact ⟨⟨_,rfl,hidI fun h=>by simp at h⟩,rfl⟩
   have h1':decide (((i:Nat):Int)+2<(dn:Nat))=false:=by simp;omega
   go_wp2_with fail;go_meet
   case rel=>exact ⟨⟨_,rfl,hidI fun h=>by simp at h⟩,rfl⟩
  case rest =>
   obtain ⟨⟨c,rfl,Hc⟩,hwx⟩:=hcut;have hwx':=hwx.symm;subst hwx';clear hwx;cases c with
   | false =>
     go_wp2_with fail;go_ret
     refine ⟨rfl,?_⟩;rw [←HB.out];exact HI.out.below
   | true =>
     obtain ⟨hd1,hd2⟩:=Hc.out rfl;obtain ⟨db,dof,hdae,hdc⟩:=Hda.out (by omega);subst hdae;have hc0:=hdc i (by omega);have hc1:=hdc (i+1) (by omega);have hc2:=hdc (i+2) (by omega);have hz0:=Hzd.out i (by omega);have hz1:=Hzd.out (i+1) (by omega);have hz2:=Hzd.out (i+2) (by omega);obtain ⟨x0,hx0⟩:∃ x0,x0=zd i:=⟨_,rfl⟩;obtain ⟨x1,hx1⟩:∃ x1,x1=zd (i+1):=⟨_,rfl⟩;obtain ⟨x2,hx2⟩:∃ x2,x2=zd (i+2):=⟨_,rfl⟩;rw [←hx0] at hc0 hz0;rw [←hx1] at hc1 hz1;rw [←hx2] at hc2 hz2;have hdbB:db<B:=by rw [HB.out];exact World.block_lt_of_cell? w _ hc0
     have HC0:Hid (∀ W,Below B w W→W.cell? ⟨db,dof+i,none⟩=some (.int .i64 x0)):=hidI fun W hW=>(hW.cell hdbB).trans hc0
     have HC1:Hid (∀ W,Below B w W→W.cell? ⟨db,dof+(i+1),none⟩=some (.int .i64 x1)):=hidI fun W hW=>(hW.cell hdbB).trans hc1
     have HC2:Hid (∀ W,Below B w W→W.cell? ⟨db,dof+(i+2),none⟩=some (.int .i64 x2)):=hidI fun W hW=>(hW.cell hdbB).trans hc2
     clear hdc hx0 hx1 hx2 hc0 hc1 hc2 Hc;have HId:Hid (SurI u B w wr.drew m fb cb T l now n lf na nn nc ma mn mc ls):=hidI (HI.out.later HBs.out (Below.refl _ _).drew);have k0:=HC0.out wr.drew HId.out.below;have k1:=HC1.out wr.drew HId.out.below;have k2:=HC2.out wr.drew HId.out.below;have hRd:RowK wr.drew T (.slice na now.length nc) now:=by rw [←HI.out.hnn];exact HId.out.row
     have DA:=hidI (qkj hP x0 x1 x2 na nc wr.drew fb cb T m l now n lf hlf (by omega) HId.out.fs HId.out.kt HId.out.perm hRd (Hml.out.below HId.out.below hB0) (fun h=>by have:=HId.out.base 0 h;omega) (by rw [Hroom.out];omega) hz0.1 hz0.2 hz1.1 hz1.2 hz2.1 hz2.2);rw [←HI.out.hnn] at DA;have e1:((i:Nat):Int)+1<(dn:Nat):=by omega
     have e2:((i:Nat):Int)+2<(dn:Nat):=by omega
     have e3:((i:Nat):Int)<(dn:Nat):=by omega
     have e0:(0:Int)≤(i:Nat):=by omega
     have g1:IntKind.i64.wrap (((i:Nat):Int)+1)=((i:Nat):Int)+1:=by rw [IntKind.wrap_i64];omega
     have g2:IntKind.i64.wrap (((i:Nat):Int)+2)=((i:Nat):Int)+2:=by rw [IntKind.wrap_i64];omega
     have g3:(0:Int)≤((i:Nat):Int)+1:=by omega
     have g4:(0:Int)≤((i:Nat):Int)+2:=by omega
     have g5:(((i:Nat):Int)+1).toNat=i+1:=by omega
     have g6:(((i:Nat):Int)+2).toNat=i+2:=by omega
     clear hRd;go_wp2_with fail;go_region_held3 (fun V=>V.cell? ⟨db,dof+i,none⟩=some (.int .i64 x0)∧V.cell? ⟨db,dof+(i+1),none⟩=some (.int .i64 x1)∧V.cell? ⟨db,dof+(i+2),none⟩=some (.int .i64 x2)) (go_keep) (first
      | (go_at_call 24;refine DA.out.mono ?_;rintro e V ⟨x,y,v',now',T',l2,n2,lf2,rfl,hG',hn',hK',hT',hF',hR1,hR2,hle,hor⟩;have HG':=hidI hG';have HK':=hidI hK';have HT':=hidI hT';have HF':=hidI hF';have HR1:=hidI hR1;have HR2:=hidI hR2;have Hor:=hidI hor;have HBV:Hid (Below B w V):=hidI (HId.out.below.trans (hF'.below HId.out.base HBs.out));have f0:=HC0.out V HBV.out;have f1:=HC1.out V HBV.out;have f2:=HC2.out V HBV.out;clear hG' hK' hT' hF' hR1 hR2 hor))
     rename_i hHeld;clear hHeld DA;obtain ⟨a',c',hv',_⟩:=qdo HR2.out;subst hv';obtain ⟨nn',hnn'⟩:∃ q,q=now'.length:=⟨_,rfl⟩;rw [←hnn'] at HR2 ⊢;have Hnn':=hidI hnn';have HBVs:Hid (B≤V.heap.size):=hidI (by have h1:=HBV.out.size;have h2:=HB.out;omega);have HTB:Hid (∀ j,T' j→B≤j):=hidI (fun j hj=>by
      rcases HT'.out j hj with h | h
      ·exact HId.out.base j h
      have h1:=HBs.out;have h2:wr.heap.size≤j:=h;omega)
     have HM:Hid (MayR B V T' (.slice ma mn mc) ls):=hidI (HId.out.may.fm HF'.out HT'.out);have HMo:Hid (V.ownsRow B 26 1 (.slice ma mn mc) mn (ls.map Prod.fst)):=hidI (by have h:=HM.out.1;rw [←HI.out.hmn] at h;exact h);obtain ⟨dd,hdd⟩:∃ dd,dd=(lf2==0):=⟨_,rfl⟩;have FA:=hidI (qdl HG'.out);rw [←hdd] at FA;have Hdd:=hidI hdd;have Hmn:=hidI HI.out.hmn;have Hhas:=hidI HI.out.has;have Hnn:=hidI HI.out.hnn;clear hnn' hdd HId HBs HI f0 f1 f2 k0 k1 k2 HF' HT';go_wp2_with fail;refine FA.out.mono ?_;rintro e w' ⟨rfl,hw⟩;have hw':=hw.symm;subst hw';clear hw;obtain ⟨i0,hi0,iz0,iz1,iz2⟩:=info_parts Tryz.infoM;go_upto_block 2 with fail
     go_cut [7,10] from 35 to 193 (fun s7 s10 wx=>∃ (na:Option Addr) (nn nc:Nat) (ma:Option Addr) (mn mc:Nat) (now:List It) (ls:List (Value × List It)),s7=.slice na nn nc∧s10=.slice ma mn mc∧mn≤i+2∧Hid (SurI u B w wx m fb cb T' l2 now n2 lf2 na nn nc ma mn mc ls))
     case first=>as_aux_lemma =>
      rcases Hor.out with ⟨hx,hy,hp'⟩ | ⟨hx,hy,hp'⟩ | ⟨hxy,hx,hlf0,hp'⟩
      ·subst hx;subst hy;have Hp':=hidI hp';clear hp' Hor;go_wp2_with (at_builtin;refine wpList_append_lies _ rfl (.tmp 78) (.tmp 80) 54 rfl B 26 i0 _ 1 24 Tryz.underlying54 hi0 iz0 iz1 iz2 rfl (by decide) (.slice ma mn mc) mn _ rfl (HMo.out.alloc _) ⟨V.heap.size,0,none⟩ 1 1 [.slice a' nn' c'] rfl rfl (cell_one_new _ _ _) (by intro u hu;simp at hu;subst hu;rfl) (by omega) (by unfold maxLen;omega) (by omega) (by have:=HBVs.out;simp;omega) (V.heap.size+1) (by simp) ?_);intro g4 cap4 w4 hown4 hgrow4 hat4 hlt4;have HI4:=hidI (SurI.more Hnn'.out HR2.out HG'.out HK'.out Hp'.out Hmn.out HM.out HTB.out HBV.out HBVs.out HR2.out hle ⟨_,List.mem_append_right _ (List.mem_singleton.2 rfl),List.Perm.refl _⟩ hown4 hgrow4 hat4);clear hown4 hgrow4 hat4 hlt4;go_wp2_with fail;go_meet
       case rel=>exact ⟨_,_,_,_,_,_,_,_,rfl,rfl,by omega,HI4⟩
      ·subst hx;have hyb:(x==0)=false:=by simp [hy]
       have Hp':=hidI hp';have HI4:Hid (SurI u B w V m fb cb T' l2 now n2 lf2 na nn nc ma mn mc ls):=hidI ⟨Hnn.out,HR1.out,HG'.out,HK'.out,Hp'.out,Hmn.out,HM.out,Hhas.out,HTB.out,HBV.out⟩;clear hp' Hor;go_wp2_with fail;go_meet
       case rel=>exact ⟨_,_,_,_,_,_,_,_,rfl,rfl,by omega,HI4⟩
      subst hx;have hyb:((10:Int)==y)=false:=by simp [hxy]
      have hdt:dd=true:=by rw [Hdd.out,hlf0];rfl
      have Hp':=hidI hp';subst hdt;clear hp' Hor;go_wp2_with (at_builtin;refine wpList_append_lies _ rfl (.tmp 92) (.tmp 94) 54 rfl B 26 i0 _ 1 24 Tryz.underlying54 hi0 iz0 iz1 iz2 rfl (by decide) (.slice ma mn mc) mn _ rfl (HMo.out.alloc _) ⟨V.heap.size,0,none⟩ 1 1 [.slice a' nn' c'] rfl rfl (cell_one_new _ _ _) (by intro u hu;simp at hu;subst hu;rfl) (by omega) (by unfold maxLen;omega) (by omega) (by have:=HBVs.out;simp;omega) (V.heap.size+1) (by simp) ?_);intro g4 cap4 w4 hown4 hgrow4 hat4 hlt4;have HI4:=hidI (SurI.more Hnn.out HR1.out HG'.out HK'.out Hp'.out Hmn.out HM.out HTB.out HBV.out HBVs.out HR2.out hle (by obtain ⟨q,h1,h2⟩:=Hhas.out;exact ⟨q,List.mem_append_left _ h1,h2⟩) hown4 hgrow4 hat4);clear hown4 hgrow4 hat4 hlt4;go_wp2_with fail;go_meet
      case rel=>exact ⟨_,_,_,_,_,_,_,_,rfl,rfl,by omega,HI4⟩
     case rest =>
      clear HM HMo Hmn Hhas Hnn Hnn' HR1 HR2 HG' HK' Hor HTB HBV HBVs hle FA hmn;obtain ⟨na,nn,nc,ma,mn,mc,now,ls,rfl,rfl,hmn,HI⟩:=hcut;obtain ⟨V2,hV2⟩:∃ V2,V2=wc:=⟨_,rfl⟩;subst hV2;have HV2s:Hid (B≤V2.heap.size):=hidI (by have h1:=HI.out.below.size;have h2:=HB.out;omega);have k0:=HC0.out V2 HI.out.below;obtain ⟨hq1,hq2⟩:=tdivN 16 (by decide) hz0.1 hz0.2;obtain ⟨q,hq⟩:∃ q,x0.tdiv 16=q:=⟨_,rfl⟩;rw [hq] at hq1 hq2;have gq:IntKind.i64.wrap q=q:=by rw [IntKind.wrap_i64];omega
      have P4:=hidI (fun W=>qaV q 4 W hq1 hq2 (by decide) (by decide));obtain ⟨r4,hr4⟩:∃ r4,r4=pickF q 4:=⟨_,rfl⟩;rw [←hr4] at P4;clear hr4;go_upto_region 19 with fail
      go_cut [106] from 35 to 193 (fun s106 wx=>(∃ c:Bool,s106=.bool c∧Hid (c=true→dd=false))∧wx=V2)
      case first=>as_aux_lemma =>
       by_cases h4:r4=0
       ·subst h4;cases dd with
        | true =>
          go_wp2_with fail;refine (P4.out _).mono ?_;rintro e w' ⟨rfl,hw⟩;have hw':=hw.symm;subst hw';clear hw;go_wp2_with fail;go_meet
          case rel=>exact ⟨⟨_,rfl,hidI fun h=>by simp at h⟩,rfl⟩
        | false =>
          go_wp2_with fail;refine (P4.out _).mono ?_;rintro e w' ⟨rfl,hw⟩;have hw':=hw.symm;subst hw';clear hw;go_wp2_with fail;go_meet
          case rel=>exact ⟨⟨_,rfl,hidI fun _=>by first | rfl | trivial⟩,rfl⟩
       have h4':¬((r4:Nat):Int)=0:=by omega
       go_wp2_with fail;refine (P4.out _).mono ?_;rintro e w' ⟨rfl,hw⟩;have hw':=hw.symm;subst hw';clear hw;go_wp2_with fail;go_meet
       case rel=>exact ⟨⟨_,rfl,hidI fun h=>by simp at h⟩,rfl⟩
      case rest =>
       obtain ⟨⟨c,rfl,Hc4⟩,hwx⟩:=hcut;have hwx':=hwx.symm;subst hwx';clear hwx P4 k0 hq hq1 hq2 gq;go_upto_if 106 with fail
       go_cut [10,16,17] from 35 to 193 (fun s10 s16 s17 wx=>∃ (ma:Option Addr) (mn mc:Nat) (ls:List (Value × List It)),s10=.slice ma mn mc∧s16=.bool dd∧mn≤i+2∧Hid (SurI u B w wx m fb cb T' l2 now n2 lf2 na nn nc ma mn mc ls))
       case first=>as_aux_lemma =>
        cases c with
        | false =>
          go_wp2_with fail;go_meet
          case rel=>exact ⟨_,_,_,_,rfl,rfl,hmn,HI⟩
        | true =>
          have hdf:=Hc4.out rfl;have hlf2:lf2≠0:=fun h=>by have h5:=Hdd.out;rw [hdf,h] at h5;cases h5
          have SY:=hidI (qk7 HI.out.fs hlf2);have FA:=hidI (qdl HI.out.fs);rw [←Hdd.out] at FA;go_wp2_with fail;refine SY.out.mono ?_;rintro e w' ⟨rfl,hw⟩;have hw':=hw.symm;subst hw';clear hw;go_wp2_with fail;refine FA.out.mono ?_;rintro e w' ⟨rfl,hw⟩;have hw':=hw.symm;subst hw';clear hw;go_wp2_with fail;go_meet
          case rel=>exact ⟨_,_,_,_,rfl,by rw [hdf],by omega,hidI (SurI.sure HI.out.hnn HI.out.row HI.out.fs HI.out.kt HI.out.perm HI.out.base HI.out.below HV2s.out)⟩
       case rest =>
        clear HI HV2s hmn Hc4;obtain ⟨ma,mn,mc,ls,rfl,rfl,hmn,HI⟩:=hcut;obtain ⟨V3,hV3⟩:∃ V3,V3=wc:=⟨_,rfl⟩;subst hV3;have HV3s:Hid (B≤V3.heap.size):=hidI (by have h1:=HI.out.below.size;have h2:=HB.out;omega);have k1:=HC1.out V3 HI.out.below;have P3:=hidI (fun W=>qaV x1 3 W hz1.1 hz1.2 (by decide) (by decide));obtain ⟨r3,hr3⟩:∃ r3,r3=pickF x1 3:=⟨_,rfl⟩;rw [←hr3] at P3;clear hr3;go_upto_region 26 with fail
        go_cut [137] from 35 to 193 (fun s137 wx=>(∃ c:Bool,s137=.bool c∧Hid (c=true→tn<fn))∧wx=V3)
        case first=>as_aux_lemma =>
         cases dd with
         | true =>
           go_wp2_with fail;go_meet
           case rel=>exact ⟨⟨_,rfl,hidI fun h=>by simp at h⟩,rfl⟩
         | false =>
           by_cases h3:tn<fn
           ·have h3':((tn:Nat):Int)<(fn:Nat):=by omega
            go_wp2_with fail;refine (P3.out _).mono ?_;rintro e w' ⟨rfl,hw⟩;have hw':=hw.symm;subst hw';clear hw;go_wp2_with fail;go_meet
            case rel=>exact ⟨⟨_,rfl,hidI fun _=>h3⟩,rfl⟩
           have h3':decide (((tn:Nat):Int)<(fn:Nat))=false:=by simp;omega
           go_wp2_with fail;go_meet
           case rel=>exact ⟨⟨_,rfl,hidI fun h=>by simp at h⟩,rfl⟩
        case rest =>
         obtain ⟨⟨c,rfl,Hc3⟩,hwx⟩:=hcut;have hwx':=hwx.symm;subst hwx';clear hwx P3 k1;go_upto_if 137 with fail
         go_cut [11] from 35 to 193 (fun s11 wx=>∃ (tn':Nat) (lf3:Int),s11=.int .i64 (tn':Nat)∧tn'≤i+1∧Hid (SurI u B w wx m fb cb T' l2 now n2 lf3 na nn nc ma mn mc ls))
         case first=>as_aux_lemma =>
          cases c with
          | false =>
            go_wp2_with fail;go_meet
            case rel=>exact ⟨tn,lf2,rfl,by omega,HI⟩
          | true =>
            have h3:=Hc3.out rfl;obtain ⟨fk,fo,hfae,hfc⟩:=Hfa.out (by omega);subst hfae;have hyw:=hfc tn h3;have hzy:=Hzf.out tn h3;obtain ⟨y,hye⟩:∃ y,y=zf tn:=⟨_,rfl⟩;rw [←hye] at hyw hzy;have hfkB:fk<B:=by rw [HB.out];exact World.block_lt_of_cell? w _ hyw
            have HCy:Hid (∀ W,Below B w W→W.cell? ⟨fk,fo+tn,none⟩=some (.int .i64 y)):=hidI fun W hW=>(hW.cell hfkB).trans hyw
            have h3':((tn:Nat):Int)<(fn:Nat):=by omega
            have h30:(0:Int)≤(tn:Nat):=by omega
            have P30:=hidI (fun W=>qaV y 30 W hzy.1 hzy.2 (by decide) (by decide));obtain ⟨r30,hr30⟩:∃ r30,r30=pickF y 30:=⟨_,rfl⟩;rw [←hr30] at P30;have HId:Hid (SurI u B w V3.drew m fb cb T' l2 now n2 lf2 na nn nc ma mn mc ls):=hidI (HI.out.later HV3s.out (Below.refl _ _).drew);have DI:=hidI (fun q h1 h2=>ql1 HId.out.fs ((r30:Nat):Int) q h1 h2);obtain ⟨hp1,hp2⟩:=tdivN 32 (by decide) hzy.1 hzy.2;obtain ⟨p,hp⟩:∃ p,y.tdiv 32=p:=⟨_,rfl⟩;rw [hp] at hp1 hp2;have gp:IntKind.i64.wrap p=p:=by rw [IntKind.wrap_i64];omega
            have hyd:=HCy.out V3.drew HId.out.below;clear hfc hye hr30 hyw;go_wp2_with fail;go_region_held3 (fun V=>V.cell? ⟨fk,fo+tn,none⟩=some (.int .i64 y)) (go_keep) (first
             | (go_at_call 18;refine (P30.out _).mono ?_;rintro e w' ⟨rfl,hw⟩;have hw':=hw.symm;subst hw';clear hw)
             | (go_at_call 27;refine (DI.out p hp1 hp2).mono ?_;rintro e V5 ⟨rfl,hGV,hFV⟩;have HJ:=hidI (HId.out.moved HV3s.out hFV (fun k hk=>.inl hk) hGV HId.out.kt HId.out.perm);have f1:=HCy.out V5 HJ.out.below;clear hGV hFV))
            rename_i hHeld;clear hHeld;go_wp2_with fail;go_meet
            case rel=>exact ⟨tn+1,_,by go_num,by omega,HJ⟩
         case rest =>
          clear HI HV3s Hc3;obtain ⟨tn',lf3,rfl,htn',HI⟩:=hcut;obtain ⟨V4,hV4⟩:∃ V4,V4=wc:=⟨_,rfl⟩;subst hV4;have HV4s:Hid (B≤V4.heap.size):=hidI (by have h1:=HI.out.below.size;have h2:=HB.out;omega);have FA:=hidI (qdl HI.out.fs);obtain ⟨d3,hd3⟩:∃ d3,d3=(lf3==0):=⟨_,rfl⟩;rw [←hd3] at FA;have Hd3:=hidI hd3;clear hd3;go_wp2_with fail;refine FA.out.mono ?_;rintro e w' ⟨rfl,hw⟩;have hw':=hw.symm;subst hw';clear hw FA;cases d3 with
          | false =>
            have hlf3:lf3≠0:=fun h=>by have h5:=Hd3.out;rw [h] at h5;cases h5
            go_wp2_with fail;go_roundg (63 - (i+3))
            case measure=>omega
            case rel=>exact ⟨i+3,tn',n2,fb,cb,na,nn,nc,ma,mn,mc,l2,now,T',ls,lf3,by go_num,rfl,rfl,rfl,rfl,rfl,by omega,by omega,by omega,by omega,by omega,hlf3,HI⟩
          | true=>as_aux_lemma =>
            have PW:=hidI (qja HI.out.fs);go_wp2_with fail;refine PW.out.mono ?_;rintro e V5 ⟨rfl,hG5,hF5⟩;have HI5:Hid (SurI u B w V5 m fb cb T' l2 now n2 (-1) na nn nc ma mn mc ls):=hidI (HI.out.moved HV4s.out hF5 (fun k hk=>.inl hk) hG5 HI.out.kt HI.out.perm);have HV5s:Hid (B≤V5.heap.size):=hidI (by have h1:=HI5.out.below.size;have h2:=HB.out;omega);clear hG5 hF5 PW HI HV4s;obtain ⟨lo5,hi5,hch5,_⟩:=HI5.out.fs.chip;have CP5:=hidI (qkz hch5);obtain ⟨xs,hxs⟩:∃ xs,xs=V5.heap.size:=⟨_,rfl⟩;have Hxs:=hidI hxs;rw [←hxs] at CP5;clear hch5 hxs;go_wp2_with fail;refine CP5.out.mono ?_;rintro e V6 ⟨rfl,hch6,hb6⟩;have Hb6:Hid (Below V5.heap.size V5 V6):=hidI (by rw [←Hxs.out];exact hb6);have HI6:=hidI (HI5.out.later HV5s.out Hb6.out);have HV6s:Hid (B≤V6.heap.size):=hidI (by have h1:=HI6.out.below.size;have h2:=HB.out;omega);have hml6:ML V6:=Hml.out.below HI6.out.below hB0
            have MT:=hidI (qh0 hP hch6 (by decide) (by rw [Hxs.out];exact Hb6.out.size) hml6 HI6.out.kt);clear hch6 hb6 hml6 CP5 HI5;go_wp2_with fail;refine MT.out.mono ?_;rintro e V7 ⟨fb7,T7,rfl,hG7,hT7,hb7⟩;have HG7:=hidI hG7;have HT7:Hid (∀ j,T7 j→B≤j):=hidI (fun j hj=>by have h1:=hT7 j hj;have h2:=Hxs.out;have h3:=HV5s.out;omega);have HI7:=hidI (HI6.out.later HV6s.out hb7);have HV7s:Hid (B≤V7.heap.size):=hidI (by have h1:=HI7.out.below.size;have h2:=HB.out;omega);have hml7:ML V7:=Hml.out.below HI7.out.below hB0;have TA:=hidI (qkq HG7.out HI7.out.kt.tree.order hml7);rw [qbT HI7.out.kt.tree] at TA;clear hG7 hT7 hb7 MT HI6 HV6s hml7;go_wp2_with fail;refine TA.out.mono ?_;rintro e V8 ⟨hb8,v8,rfl,hown8⟩;have HR8:Hid (RowK V8 T7 v8 (qab l2)):=hidI (RowK.new hown8 (fun k hk=>HG7.out.lt k hk));obtain ⟨a8,c8,hv8,hin8⟩:=qdo HR8.out;subst hv8
            obtain ⟨n8,hn8⟩:∃ n8,n8=(qab l2).length:=⟨_,rfl⟩;rw [←hn8] at HR8 ⊢;have Hn8:=hidI hn8;have Hin8:=hidI hin8;have HI8:=hidI (HI7.out.later HV7s.out hb8);have HG8:=hidI (HG7.out.below hb8);have HV8s:Hid (B≤V8.heap.size):=hidI (by have h1:=HI8.out.below.size;have h2:=HB.out;omega);obtain ⟨g8,hma,hg8,hcell8⟩:=HI8.out.may.cells (fun e=>by obtain ⟨x,hx,_⟩:=HI8.out.has;rw [e] at hx;cases hx);subst hma;have Hc8:=hidI hcell8;clear hb8 hown8 hin8 hn8 TA HI7 HG7 HV7s hcell8;go_wp2_with fail
            go_loopw [20,21] (fun s20 s21 wy=>∃ (j:Nat) (ok:Bool),j≤mn∧s21=.int .i64 (j:Nat)∧s20=.bool ok∧Hid ((∃ x∈ls.take j,l2.Perm x.2)→ok=true)∧Hid (Below V8.heap.size V8 wy)) (fun _ s21 _=>mn - (intOf s21).toNat)
            case atStart=>exact ⟨0,false,Nat.zero_le _,rfl,rfl,hidI (fun ⟨x,hx,_⟩=>by simp at hx),hidI (Below.refl _ _)⟩
            case round =>
             obtain ⟨j,ok,hjm,rfl,rfl,Hok,Hby⟩:=hrel;obtain ⟨wy,hwy⟩:∃ wy,wy=wr:=⟨_,rfl⟩;subst hwy;by_cases hlt:j<mn
             ·have hjl:j<ls.length:=by have:=HI8.out.hmn;omega
              obtain ⟨x,hx⟩:∃ x,ls[j]? = some x:=⟨_,List.getElem?_eq_getElem hjl⟩;obtain ⟨hxr,hxl⟩:=HI8.out.may.2.2 x (List.mem_of_getElem? hx);obtain ⟨ax,cx,hxv,hxi⟩:=qdo (hxr.below Hby.out);have hcx:wy.cell? ⟨g8,j,none⟩=some x.1:=(Hby.out.cell hg8).trans (Hc8.out j x hx);rw [hxv] at hcx;have SA:=hidI (qkp ax a8 cx c8 x.2 (qab l2) wy hxi (Hin8.out.below Hby.out) (by omega) (by rw [qaA];have:=HI8.out.kt.len;omega));obtain ⟨nx,hnx⟩:∃ nx,nx=x.2.length:=⟨_,rfl⟩;obtain ⟨sb,hsb⟩:∃ sb,sb=sameB x.2 (qab l2):=⟨_,rfl⟩;rw [←hnx,←Hn8.out,←hsb] at SA;rw [←hnx] at hcx;have Hsb:Hid (l2.Perm x.2→sb=true):=hidI (fun h=>by rw [hsb];exact qkJ h);have Htk:Hid (∀ y,y∈ls.take (j+1)→y∈ls.take j∨y=x):=hidI (fun y hy=>by
               rw [List.take_add_one,hx] at hy;rcases List.mem_append.1 hy with h | h
               ·exact .inl h
               exact .inr (by simpa using h))
              have hlt':((j:Nat):Int)<(mn:Nat):=by omega
              have hj0:(0:Int)≤(j:Nat):=by omega
              clear hxr hxl hxi hnx hsb hxv hx hjl;cases ok with
              | true =>
                go_wp2_with fail;refine SA.out.mono ?_;rintro e wz ⟨rfl,hbz⟩;have Hbz:Hid (Below V8.heap.size V8 wz):=hidI (Hby.out.trans (hbz.mono Hby.out.size));clear hbz SA;go_wp2_with fail;go_roundw
                case rel=>exact ⟨j+1,true,by omega,by go_num,rfl,hidI (fun _=>rfl),Hbz⟩
                case measure=>simp [intOf];omega
              | false =>
                go_wp2_with fail;refine SA.out.mono ?_;rintro e wz ⟨rfl,hbz⟩;have Hbz:Hid (Below V8.heap.size V8 wz):=hidI (Hby.out.trans (hbz.mono Hby.out.size));clear hbz SA;go_wp2_with fail;go_roundw
                case rel=>exact ⟨j+1,sb,by omega,by go_num,rfl,hidI (fun ⟨y,hy,hp⟩=>by
                 rcases Htk.out y hy with h | h
                 ·have:=Hok.out ⟨y,h,hp⟩;cases this
                 subst h;exact Hsb.out hp),Hbz⟩
                case measure=>simp [intOf];omega
             have hjn:j=mn:=by omega
             have hok:ok=true:=Hok.out (by
              obtain ⟨x,h1,h2⟩:=HI8.out.has;refine ⟨x,?_,HI8.out.perm.trans h2.symm⟩;rw [hjn,HI8.out.hmn,List.take_length];exact h1)
             subst hok;have hlt':¬((j:Nat):Int)<(mn:Nat):=by omega
             have HVys:Hid (B≤wy.heap.size):=hidI (Nat.le_trans HV8s.out Hby.out.size);have HIe:=hidI (SurI.sure Hn8.out (HR8.out.below Hby.out) (HG8.out.below Hby.out) (HI8.out.kt.perm (qao l2).symm) (List.Perm.refl _) HT7.out (HI8.out.below.trans (Hby.out.mono HV8s.out)) HVys.out);go_wp2_with fail;go_roundg (63 - (i+3))
             case measure=>omega
             case rel=>exact ⟨i+3,tn',n2,fb7,xs,a8,n8,c8,_,1,1,qab l2,qab l2,T7,_,-1,by go_num,rfl,rfl,rfl,rfl,rfl,by omega,by omega,by omega,by omega,by omega,by decide,HIe⟩
end
namespace S1
open Go.RowKit Pk
structure MD (D:DataW Unit) (mp:List UInt8→Option Nat):Prop where
 is:Maps.IsMap D
 no:∀ s,mp s=none→Maps.has D (.string s)=false
 yes:∀ s v,mp s=some v→Maps.has D (.string s)=true∧D.atKey (.string s) (.lit (.int .i64 0))=.lit (.int .i64 (v:Nat))
theorem MD.nil:MD (.map []) (fun _=>none):=⟨Maps.isMap_empty,fun _ _=>rfl,fun _ _ h=>by cases h⟩
theorem MD.put {D:DataW Unit} {mp:List UInt8→Option Nat} (h:MD D mp) (k:List UInt8) (v:Nat):MD (D.put (.string k) (.lit (.int .i64 (v:Nat)))) (fun s=>if s=k then some v else mp s):=by
 have hk:WideAt.IsKeyLit (Lit.string k):=trivial;refine ⟨h.is.put _ _,fun s hs => ?_,fun s u hs => ?_⟩
 ·by_cases e:s=k
  ·rw [if_pos e] at hs;cases hs
  rw [if_neg e] at hs;rw [Maps.has_put_other (fun e2=>e (by injection e2))];exact h.no s hs
 by_cases e:s=k
 ·rw [if_pos e] at hs;cases hs
  subst e;exact ⟨Maps.has_put_same h.is hk _,Maps.atKey_put_same h.is hk _ _⟩
 rw [if_neg e] at hs;rw [Maps.has_put_other (fun e2=>e (by injection e2)),Maps.atKey_put_other (fun e2=>e (by injection e2))];exact h.yes s u hs
structure PM (w:World) (B pb mb bb:Nat) (d:List UInt8) (m:Nat) (mp:List UInt8→Option Nat) (bf:Nat→Int):Prop where
 hp:B≤pb
 hm:B≤mb
 hb:B≤bb
 st:w.heap[pb]? = some (.cells #[.string (txt d),.map (some mb),.slice (some ⟨bb,0,none⟩) d.length d.length] 337 (0,0))
 mo:∃ D,w.ownsMap Tryz.prog 9 (plainElem Tryz.prog 3) mb m D∧MD D mp
 bo:w.rowIs bb 3 d.length (fun j=>.int .i64 (bf j))
def pkKey3 (d:List UInt8) (v:Nat):List UInt8:=(d.drop v).take 3
theorem qhi (w:World) (pb a:Nat) (d:List UInt8) (x y:Value) (hd:d.length≤4000) (ha:a≤4000) (h:d.length<a+3) (hst:w.heap[pb]? = some (.cells #[.string (txt d),x,y] 337 (0,0))) :
 Calls Tryz.prog 307 #[.pointer (some ⟨pb,0,none⟩),.int .i64 (a:Nat)] w fun e w'=>e=.returned (.tuple #[.string ⟨#[]⟩,.bool false])∧w'=w:=by
 have x0:w.cell? ⟨pb,0,none⟩=some (.string (txt d)):=by rw [cell_of_row w pb 0 _ 337 (0,0) hst];rfl
 have hs:(txt d).size=d.length:=qaa d
 generalize txt d=t at *
 have h1:((t.size:Nat):Int)<(a:Int)+3:=by omega
 clear hst hs;go_enter Tryz.func307,Tryz.ntmps307
 go_wp2;go_ret2
 exact ⟨rfl,rfl⟩
theorem qgk (w:World) (pb a:Nat) (d:List UInt8) (x y:Value) (hd:d.length≤4000) (h:a+3≤d.length) (hst:w.heap[pb]? = some (.cells #[.string (txt d),x,y] 337 (0,0))) :
 Calls Tryz.prog 307 #[.pointer (some ⟨pb,0,none⟩),.int .i64 (a:Nat)] w fun e w'=>e=.returned (.tuple #[.string (txt (pkKey3 d a)),.bool true])∧w'=w:=by
 have x0:w.cell? ⟨pb,0,none⟩=some (.string (txt d)):=by rw [cell_of_row w pb 0 _ 337 (0,0) hst];rfl
 have hs:(txt d).size=d.length:=qaa d;have hex:=qag d a (a+3);have Hex:Hid ((txt d).extract a (a+3)=txt (pkKey3 d a)):=by
  show _=_;rw [hex];unfold pkKey3;rw [show a+3 - a=3 by omega]
 generalize txt d=t at *
 have h1:¬((t.size:Nat):Int)<(a:Int)+3:=by omega
 have h2:a+3≤t.size:=by omega
 have h4:t.size≤4000:=by omega
 clear hst hex hs;go_enter Tryz.func307,Tryz.ntmps307
 go_wp2;go_ret2
 refine ⟨?_,rfl⟩;rw [←Hex.out];rfl
theorem qjN (w:World) (pb a f:Nat) (d:List UInt8) (x y:Value) (hd:d.length≤4000) (hf:f<a) (ha:a≤d.length) (hst:w.heap[pb]? = some (.cells #[.string (txt d),x,y] 337 (0,0))) :
 Calls Tryz.prog 309 #[.pointer (some ⟨pb,0,none⟩),.int .i64 (f:Nat),.int .i64 (a:Nat)] w fun e w'=>∃ k q:Nat,e=.returned (.int .i64 (k:Nat))∧w'=w.drewN q∧k≤34∧a+k≤d.length∧(∀ j,j<k→d.getD (f+j) 0=d.getD (a+j) 0)∧(k=34∨a+k=d.length∨d.getD (f+k) 0≠d.getD (a+k) 0):=by
 have x0:w.cell? ⟨pb,0,none⟩=some (.string (txt d)):=by rw [cell_of_row w pb 0 _ 337 (0,0) hst];rfl
 have hs:(txt d).size=d.length:=qaa d;have hgd:∀ k (h:k<(txt d).size),((txt d)[k]'h).toNat=(d.getD k 0).toNat:=fun k h=>by rw [qaW]
 generalize txt d=t at *
 have Hs:=hidI hs;have Hgd:=hidI hgd;clear hst hgd hs;go_enter Tryz.func309,Tryz.ntmps309
 go_wp2
 go_loopw [7] (fun i wr=>∃ k q:Nat,i=.int .i64 (k:Nat)∧wr=w.drewN q∧k≤34∧a+k≤d.length∧Hid (∀ j,j<k→d.getD (f+j) 0=d.getD (a+j) 0)) (fun i _=>34 - (intOf i).toNat)
 case atStart=>exact ⟨0,0,rfl,rfl,by omega,by omega,fun j hj=>by omega⟩
 case round =>
  obtain ⟨k,q,rfl,rfl,hk,hak,Hk⟩:=hrel;have hts:=Hs.out;have x1:(w.drewN q).cell? ⟨pb,0,none⟩=some (.string t):=x0;by_cases h34:k=34
  ·have g1:decide ((k:Int)<34)=false:=by simp;omega
   have Hts:=hidI hts;clear hts;go_wp2
   go_quiet (fail)
   go_wp2;go_ret
   exact ⟨k,_,rfl,by simp only [World.drewN_drewN,World.drew_drewN];rfl,by omega,by omega,Hk.out,.inl h34⟩
  have g1:decide ((k:Int)<34)=true:=by simp;omega
  by_cases han:a+k=d.length
  ·have g2:decide ((a:Int)+(k:Int)<(t.size:Int))=false:=by simp;omega
   have Hts:=hidI hts;clear hts;go_wp2
   go_quiet (fail)
   go_wp2;go_ret
   exact ⟨k,_,rfl,by simp only [World.drewN_drewN,World.drew_drewN];rfl,by omega,by omega,Hk.out,.inr (.inl han)⟩
  obtain ⟨A,hA⟩:∃ A,A=a+k:=⟨_,rfl⟩;obtain ⟨F,hF⟩:∃ F,F=f+k:=⟨_,rfl⟩;have g2:decide ((A:Int)<(t.size:Int))=true:=by simp;omega
  have i1:F<t.size:=by omega
  have i2:A<t.size:=by omega
  have e1:=Hgd.out F i1;have e2:=Hgd.out A i2;have ht4:t.size≤4000:=by omega
  have w1:IntKind.i64.wrap ((a:Int)+(k:Int))=(A:Int):=by rw [IntKind.wrap_i64];omega
  have w2:IntKind.i64.wrap ((f:Int)+(k:Int))=(F:Int):=by rw [IntKind.wrap_i64];omega
  have v1:(a:Int)+(k:Int)=(A:Int):=by omega
  have v2:(f:Int)+(k:Int)=(F:Int):=by omega
  have hk34:k+1≤34∧a+(k+1)≤d.length:=by omega
  have HA:=hidI hA;have HF:=hidI hF;have Hts:=hidI hts;by_cases hc:d.getD F 0=d.getD A 0
  ·have Hk2:Hid (∀ j,j<k+1→d.getD (f+j) 0=d.getD (a+j) 0):=fun j hj=>by
    by_cases e:j=k
    ·subst e;rw [←HA.out,←HF.out];exact hc
    exact Hk.out j (by omega)
   rw [←hc] at e2
   generalize (d.getD F 0).toNat=u at *
   clear hts hc Hk hA hF;go_wp2
   go_quiet (fail)
   go_wp2;go_roundw
   case rel=>exact ⟨k+1,_,by go_num,by first | rfl | trivial | (simp only [World.drewN_drewN,World.drew_drewN];rfl),hk34.1,hk34.2,Hk2⟩
   case measure=>simp [intOf];omega
  have hne:(d.getD F 0).toNat≠(d.getD A 0).toNat:=fun h=>hc (UInt8.toNat_inj.1 h)
  have Hc:=hidI hc
  generalize (d.getD F 0).toNat=u at *
  generalize (d.getD A 0).toNat=v at *
  have g3:((u:Int)==(v:Int))=false:=by simp;omega
  clear hts hc hA hF;go_wp2
  go_quiet (fail)
  go_wp2;go_ret
  exact ⟨k,_,rfl,by simp only [World.drewN_drewN,World.drew_drewN];rfl,by omega,by omega,Hk.out,.inr (.inr (by rw [←HA.out,←HF.out];exact Hc.out))⟩
def topV:Option Nat→Int
 | some v=>((v:Nat):Int)
 | none => -1
theorem Tryz.keyed9:Maps.Keyed Tryz.prog 9:=Maps.string_keyed Tryz.underlying9
theorem qkK (w:World) (B pb mb bb m:Nat) (d s:List UInt8) (mp:List UInt8→Option Nat) (bf:Nat→Int) (hs:s.length≤4000) (h:PM w B pb mb bb d m mp bf) :
 Calls Tryz.prog 308 #[.pointer (some ⟨pb,0,none⟩),.string (txt s)] w fun e w'=>e=.returned (.int .i64 (topV (mp s)))∧w'=w:=by
 obtain ⟨D,hD,hMD⟩:=h.mo;have x1:w.cell? ⟨pb,1,none⟩=some (.map (some mb)):=by rw [cell_of_row w pb 1 _ 337 (0,0) h.st];rfl
 have hkey:keyOf Tryz.prog 9 (.string (txt s))=some (.string s):=WideMaps.keyOf_string_mk Tryz.underlying9 (by rw [qaa];unfold maxLen;omega);have hz:(zeroValue 3).run Tryz.prog w=.ok (.int .i64 0) w:=by
  obtain ⟨i0,hi,hz0,_⟩:=info_parts Tryz.info3;simp [zeroValue,typeInfo,hi,hz0]
 have HMD:=hidI hMD;clear h hMD
 generalize txt s=t at *
 go_enter Tryz.func308,Tryz.ntmps308
 cases hm:mp s with
 | none =>
   have hno:=HMD.out.no s hm;go_wp2_with (at_lookup;refine wpList_lookup_own_ok_int _ rfl _ _ 335 rfl 9 3 .i64 Tryz.keyed9 Tryz.underlying335 Tryz.underlying3 hz mb m D rfl hD _ (.string s) rfl hkey ?_;intro c hat hwc);go_ret
   exact ⟨rfl,rfl⟩
 | some v =>
   have hyes:=HMD.out.yes s v hm;have hy1:=hyes.1;have Hy2:=hidI hyes.2;clear hyes;go_wp2_with (at_lookup;refine wpList_lookup_own_ok_int _ rfl _ _ 335 rfl 9 3 .i64 Tryz.keyed9 Tryz.underlying335 Tryz.underlying3 hz mb m D rfl hD _ (.string s) rfl hkey ?_;intro c hat hwc);go_ret
   rw [Hy2.out] at hat
   injection hat with h1
   injection h1 with h2 h3
   exact ⟨qav (by rw [←h3];rfl),rfl⟩
structure PI (d:List UInt8) (mp:List UInt8→Option Nat) (bf:Nat→Int) (a:Nat):Prop where
 lt:∀ s v,mp s=some v→v<a∧v+3≤d.length∧pkKey3 d v=s
 ch:∀ v,v<a→v+3≤d.length→bf v = -1∨∃ u:Nat,bf v=(u:Int)∧u<v∧pkKey3 d u=pkKey3 d v
 all:∀ v,v<a→v+3≤d.length→∃ u,mp (pkKey3 d v)=some u
theorem qmZ (d:List UInt8) (u a j:Nat) (h:pkKey3 d u=pkKey3 d a) (hj:j<3) (hu:u+3≤d.length) (ha:a+3≤d.length):d.getD (u+j) 0=d.getD (a+j) 0:=by
 have h1:=congrArg (fun l=>l.getD j 0) h;unfold pkKey3 at h1;simp only [List.getD_eq_getElem?_getD,List.getElem?_take_of_lt hj,List.getElem?_drop] at h1;simpa [List.getD_eq_getElem?_getD] using h1
theorem qfa (d:List UInt8) (a:Nat):(pkKey3 d a).length≤3:=by unfold pkKey3;rw [List.length_take];omega
structure Good (d:List UInt8) (a len bk:Nat):Prop where
 lo:3≤len
 hi:len≤34
 b1:1≤bk
 b2:bk≤a
 fit:a+len≤d.length
 same:∀ j,j<len→d.getD (a+j) 0=d.getD (a+j - bk) 0
theorem qiJ (w:World) (B pb mb bb m a:Nat) (d:List UInt8) (mp:List UInt8→Option Nat) (bf:Nat→Int) (hd:d.length≤4000) (ha:a≤d.length) (h3:d.length<a+3) (h:PM w B pb mb bb d m mp bf) :
 Calls Tryz.prog 277 #[.pointer (some ⟨pb,0,none⟩),.int .i64 (a:Nat)] w fun e w'=>e=.returned (.tuple #[.int .i64 0,.int .i64 0])∧w'=w:=by
 have Hst:=hidI (qhi w pb a d _ _ hd (by omega) h3 h.st);clear h;go_enter Tryz.func277,Tryz.ntmps277
 go_wp2_with (go_at_call 307;refine Hst.out.mono ?_;rintro e w' ⟨rfl,rfl⟩);go_ret2
 exact ⟨rfl,rfl⟩
def LongP (d:List UInt8) (a:Nat) (mp:List UInt8→Option Nat) (w:World) (e:Ending) (w':World):Prop:=
 ∃ len bk q:Nat,e=.returned (.tuple #[.int .i64 (len:Nat),.int .i64 (bk:Nat)])∧w'=w.drewN q∧((len=0∧bk=0)∨Good d a len bk)∧(∀ v,mp (pkKey3 d a)=some v→(∀ j,a+j<d.length→d.getD (v+j) 0=d.getD (a+j) 0)→min 34 (d.length - a)≤len)
theorem qg9 (w:World) (B pb mb bb m a:Nat) (d:List UInt8) (mp:List UInt8→Option Nat) (bf:Nat→Int) (hd:d.length≤4000) (h3:a+3≤d.length) (h:PM w B pb mb bb d m mp bf) (hpi:PI d mp bf a) :
 Calls Tryz.prog 277 #[.pointer (some ⟨pb,0,none⟩),.int .i64 (a:Nat)] w fun e w'=>LongP d a mp w e w':=by
 have Hst:=hidI (qgk w pb a d _ _ hd h3 h.st);have Htop:=hidI (qkK w B pb mb bb m d (pkKey3 d a) mp bf (by have:=qfa d a;omega) h);have Hag:Hid (∀ f q,f<a→Calls Tryz.prog 309 #[.pointer (some ⟨pb,0,none⟩),.int .i64 (f:Nat),.int .i64 (a:Nat)] (w.drewN q) _):=fun f q hf=>qjN (w.drewN q) pb a f d _ _ hd hf (by omega) h.st
 have x2:∀ q,(w.drewN q).cell? ⟨pb,2,none⟩=some (.slice (some ⟨bb,0,none⟩) d.length d.length):=fun q=>by
  show w.cell? _=_;rw [cell_of_row w pb 2 _ 337 (0,0) h.st];rfl
 have Hbo:=hidI h.bo;have Hpi:=hidI hpi;have hmax:max (0:Int) ((a:Int) - 4096)=0:=by omega
 clear h hpi;obtain ⟨tp,htp⟩:∃ tp:Int,tp=topV (mp (pkKey3 d a)):=⟨_,rfl⟩;rw [←htp] at Htop;have Htp:Hid (tp = -1∨∃ u:Nat,tp=(u:Int)∧u<a∧pkKey3 d u=pkKey3 d a):=by
  cases hm:mp (pkKey3 d a) with
  | none=>rw [hm] at htp;exact .inl htp
  | some v=>rw [hm] at htp;have:=Hpi.out.lt _ _ hm;exact .inr ⟨v,htp,this.1,this.2.2⟩
 have Hv:Hid (∀ v,mp (pkKey3 d a)=some v→tp=(v:Int)):=fun v hm=>by rw [hm] at htp;exact htp
 clear htp;go_enter Tryz.func277,Tryz.ntmps277
 go_wp2_with (first | (go_at_call 307;refine Hst.out.mono ?_;rintro e w' ⟨rfl,hw⟩;have hw':=hw.symm;subst hw') | (go_at_call 308;refine Htop.out.mono ?_;rintro e w' ⟨rfl,hw⟩;have hw':=hw.symm;subst hw'))
 go_loopw [8,4,5] (fun f l b wr=>∃ fr:Int,∃ len bk q:Nat,f=.int .i64 fr∧l=.int .i64 (len:Nat)∧b=.int .i64 (bk:Nat)∧wr=w.drewN q∧len≤34 ∧ -1≤fr∧fr≤4000∧Hid (fr = -1∨∃ u:Nat,fr=(u:Int)∧u<a∧pkKey3 d u=pkKey3 d a)∧Hid ((len=0∧bk=0)∨Good d a len bk)∧Hid ((fr=tp∧len=0)∨(∀ v,mp (pkKey3 d a)=some v→(∀ j,a+j<d.length→d.getD (v+j) 0=d.getD (a+j) 0)→min 34 (d.length - a)≤len))) (fun f _ _ _=>(intOf f+1).toNat)
 case atStart=>exact ⟨tp,0,0,0,rfl,rfl,rfl,rfl,by omega,by rcases Htp.out with h | ⟨u,h,_⟩<;>omega,by rcases Htp.out with h | ⟨u,h,h2,_⟩<;>omega,Htp,.inl ⟨rfl,rfl⟩,.inl ⟨rfl,rfl⟩⟩
 case round =>
  clear Hst Htop;obtain ⟨fr,len,bk,q,rfl,rfl,rfl,rfl,hl34,hf1,hf2,Hfr,Hgd,Hlow⟩:=hrel;by_cases hfr:fr = -1
  ·subst hfr;have Hend:Hid (∀ v,mp (pkKey3 d a)=some v→(∀ j,a+j<d.length→d.getD (v+j) 0=d.getD (a+j) 0)→min 34 (d.length - a)≤len):=fun v hv hall=>by
    rcases Hlow.out with ⟨h1,h2⟩ | h1
    ·have:=Hv.out v hv;omega
    exact h1 v hv hall
   go_wp2;go_ret2
   exact ⟨len,bk,q,rfl,rfl,Hgd.out,Hend.out⟩
  obtain ⟨u,hu,hua,hku⟩:∃ u:Nat,fr=(u:Int)∧u<a∧pkKey3 d u=pkKey3 d a:=by
   rcases Hfr.out with h | h
   ·exact absurd h hfr
   exact h
  have Hlow2:Hid (((u:Int)=tp∧len=0)∨(∀ v,mp (pkKey3 d a)=some v→(∀ j,a+j<d.length→d.getD (v+j) 0=d.getD (a+j) 0)→min 34 (d.length - a)≤len)):=by
   rw [←hu];exact Hlow
  subst hu;have Hku:=hidI hku;have hch:=Hpi.out.ch u hua (by omega);have y2:=x2 q;have hun:u<d.length:=by omega
  clear Hlow Hfr hku hf1 hf2 hfr;go_wp2_with fail;refine (Hag.out u q hua).mono ?_;rintro e w2 ⟨k,q2,rfl,rfl,hk34,hak,hsame,hstop⟩;have hk3:3≤k:=by
   by_cases e0:3≤k
   ·exact e0
   exfalso
   rcases hstop with h | h | h
   ·omega
   ·omega
   exact h (qmZ d u a k Hku.out (by omega) (by omega) h3)
  have Hgood:Hid (Good d a k (a - u)):=⟨hk3,hk34,by omega,by omega,hak,fun j hj=>by
   rw [show a+j - (a - u)=u+j by omega];exact (hsame j hj).symm⟩
  have Hkmax:Hid (∀ v,mp (pkKey3 d a)=some v→(u:Int)=tp→(∀ j,a+j<d.length→d.getD (v+j) 0=d.getD (a+j) 0)→min 34 (d.length - a)≤k):=fun v hv htp hall=>by
   have:=Hv.out v hv
   have hvu:v=u:=by omega
   subst hvu;rcases hstop with h | h | h
   ·omega
   ·omega
   by_cases e:a+k<d.length
   ·exact absurd (hall k e) h
   omega
  have hsub:(a:Int) - (u:Int)=((a - u:Nat):Int):=by omega
  have z0:∀ q',(w.drewN q').cell? ⟨bb,u,none⟩=some (.int .i64 (bf u)):=fun q'=>Hbo.out.cell (i:=u) hun
  have x2b:=x2 (q+q2);have z0b:=z0 (q+q2);have Hnext:Hid (bf u = -1∨∃ u2:Nat,bf u=(u2:Int)∧u2<a∧pkKey3 d u2=pkKey3 d a):=by
   rcases hch with h | ⟨u2,h1,h2,h4⟩
   ·exact .inl h
   exact .inr ⟨u2,h1,by omega,h4.trans Hku.out⟩
  have hb1:-1≤bf u∧bf u<u:=by rcases hch with h | ⟨u2,h1,h2,_⟩<;>omega
  have hun':(u:Int)<(d.length:Int):=by omega
  rw [World.drewN_drewN]
  generalize bf u=fn at *
  clear hsame hstop hch z0 x2 y2;by_cases hgt:len<k
  ·have hgt':decide ((len:Int)<(k:Int))=true:=by simp;omega
   have Hlow3:Hid (∀ v,mp (pkKey3 d a)=some v→(∀ j,a+j<d.length→d.getD (v+j) 0=d.getD (a+j) 0)→min 34 (d.length - a)≤k):=fun v hv hall=>by
    rcases Hlow2.out with ⟨h1,h2⟩ | h1
    ·exact Hkmax.out v hv h1 hall
    have:=h1 v hv hall;omega
   clear Hlow2 Hkmax Hgd;by_cases h34:k=34
   ·subst h34;go_wp2;go_ret2
    exact ⟨34,a - u,q+q2,rfl,rfl,.inr Hgood.out,Hlow3.out⟩
   have h34':((k:Int)==34)=false:=by simp;omega
   go_wp2;go_roundw
   case rel=>exact ⟨fn,k,a - u,q+q2,rfl,rfl,rfl,by first | rfl | trivial,by omega,by omega,by omega,Hnext,.inr Hgood.out,.inr Hlow3.out⟩
   case measure=>simp [intOf];omega
  have hgt':decide ((len:Int)<(k:Int))=false:=by simp;omega
  have Hlow3:Hid (∀ v,mp (pkKey3 d a)=some v→(∀ j,a+j<d.length→d.getD (v+j) 0=d.getD (a+j) 0)→min 34 (d.length - a)≤len):=fun v hv hall=>by
   rcases Hlow2.out with ⟨h1,h2⟩ | h1
   ·omega
   exact h1 v hv hall
  clear Hlow2 Hkmax;by_cases h34:len=34
  ·subst h34;go_wp2;go_ret2
   exact ⟨34,bk,q+q2,rfl,rfl,Hgd.out,Hlow3.out⟩
  have h34':((len:Int)==34)=false:=by simp;omega
  go_wp2;go_roundw
  case rel=>exact ⟨fn,len,bk,q+q2,rfl,rfl,rfl,by first | rfl | trivial,by omega,by omega,by omega,Hnext,Hgd,.inr Hlow3.out⟩
  case measure=>simp [intOf];omega
variable {w:World} {B pb mb bb m a:Nat} {d:List UInt8} {mp:List UInt8→Option Nat} {bf:Nat→Int}
structure FrS (B:Nat) (w w':World):Prop where
 bel:Below B w w'
 steps:Keeps 282 w w'
theorem FrS.refl (B:Nat) (w:World):FrS B w w:=⟨Below.refl _ _,Keeps.refl _ _⟩
theorem wf_i64 (a:Nat) (h:a≤4000):(Lit.int .i64 (a:Nat)).wf=true:=by
 have h1:IntKind.i64.min = -9223372036854775808:=by decide
 have h2:IntKind.i64.max=9223372036854775807:=by decide
 simp only [Lit.wf,h1,h2,Bool.and_eq_true,decide_eq_true_eq];omega
theorem PM.drewN (h:PM w B pb mb bb d m mp bf) (q:Nat):PM (w.drewN q) B pb mb bb d m mp bf:=⟨h.hp,h.hm,h.hb,h.st,h.mo,h.bo⟩
theorem PM.drew (h:PM w B pb mb bb d m mp bf):PM w.drew B pb mb bb d m mp bf:=⟨h.hp,h.hm,h.hb,h.st,h.mo,h.bo⟩
theorem PM.apart (h:PM w B pb mb bb d m mp bf):pb≠bb∧mb≠bb∧pb≠mb:=by
 obtain ⟨c,hbo,_⟩:=h.bo;obtain ⟨D,⟨es,ck,hmo,_⟩,_⟩:=h.mo;have hst:=h.st;refine ⟨?_,?_,?_⟩
 ·intro e;subst e;rw [hst] at hbo;simp at hbo
 ·intro e;subst e;rw [hmo] at hbo;simp at hbo
 intro e;subst e;rw [hst] at hmo;simp at hmo
theorem PM.before (h:PM w B pb mb bb d m mp bf) (a:Nat) (x:Int):PM (w.setCell ⟨bb,a,none⟩ (.int .i64 x)) B pb mb bb d m mp (fun j=>if j=a then x else bf j):=by
 obtain ⟨h1,h2,h3⟩:=h.apart;obtain ⟨D,hD,hM⟩:=h.mo;refine ⟨h.hp,h.hm,h.hb,(Below.heap_setCell w ⟨bb,a,none⟩ _ pb h1).trans h.st,⟨D,hD.setCell h2 _,hM⟩,?_⟩;refine (h.bo.set a (.int .i64 x)).congr fun j _ => ?_
 split<;>rfl
theorem PM.kept {w':World} (h:PM w B pb mb bb d m mp bf) {row:Option Nat} (hg:w.grownBy w' row) (h1:row≠some pb) (h2:row≠some mb) (h3:row≠some bb):PM w' B pb mb bb d m mp bf:=by
 obtain ⟨D,hD,hM⟩:=h.mo;exact ⟨h.hp,h.hm,h.hb,(hg.block pb (lt_of_heap h.st) (fun e=>h1 e.symm)).trans h.st,⟨D,hD.kept hg (fun e=>h2 e.symm),hM⟩,h.bo.of_block (hg.block bb h.bo.lt (fun e=>h3 e.symm))⟩
theorem qoy (w:World) (B pb mb bb m a:Nat) (d:List UInt8) (mp:List UInt8→Option Nat) (bf:Nat→Int) (hd:d.length≤4000) (ha:a≤d.length) (h3:d.length<a+3) (h:PM w B pb mb bb d m mp bf) :
 Calls Tryz.prog 278 #[.pointer (some ⟨pb,0,none⟩),.int .i64 (a:Nat)] w fun e w'=>e=.returned (.tuple #[])∧w'=w:=by
 have Hst:=hidI (qhi w pb a d _ _ hd (by omega) h3 h.st);clear h;go_enter Tryz.func278,Tryz.ntmps278
 go_wp2_with (go_at_call 307;refine Hst.out.mono ?_;rintro e w' ⟨rfl,rfl⟩)
 ((try simp only [Exit.inBlock,Exit.then]);refine bodyPost_ret (results_none rfl _ _ _) rfl ?_)
 exact ⟨rfl,rfl⟩
theorem qkc (w:World) (B pb mb bb m a:Nat) (d:List UInt8) (mp:List UInt8→Option Nat) (bf:Nat→Int) (hd:d.length≤4000) (h3:a+3≤d.length) (hm:m≤1000000) (h:PM w B pb mb bb d m mp bf) :
 Calls Tryz.prog 278 #[.pointer (some ⟨pb,0,none⟩),.int .i64 (a:Nat)] w fun e w'=>e=.returned (.tuple #[])∧PM w' B pb mb bb d (m+1) (fun s=>if s=pkKey3 d a then some a else mp s) (fun j=>if j=a then topV (mp (pkKey3 d a)) else bf j)∧FrS B w w':=by
 have Hst:=hidI (qgk w pb a d _ _ hd h3 h.st);have Htop:Hid (∀ V,PM V B pb mb bb d m mp bf→Calls Tryz.prog 308 #[.pointer (some ⟨pb,0,none⟩),.string (txt (pkKey3 d a))] V _):=fun V hV=>qkK V B pb mb bb m d (pkKey3 d a) mp bf (by have:=qfa d a;omega) hV
 have x1:w.cell? ⟨pb,1,none⟩=some (.map (some mb)):=by rw [cell_of_row w pb 1 _ 337 (0,0) h.st];rfl
 have x2:w.cell? ⟨pb,2,none⟩=some (.slice (some ⟨bb,0,none⟩) d.length d.length):=by rw [cell_of_row w pb 2 _ 337 (0,0) h.st];rfl
 have y0:=h.bo.cell (i:=a) (by omega);have yf:=h.bo.frozen a;have han:a<d.length:=by omega
 have Hpm:=hidI h;clear h;obtain ⟨tv,htv⟩:∃ tv,tv=topV (mp (pkKey3 d a)):=⟨_,rfl⟩;simp only [←htv] at Htop ⊢;clear htv;go_enter Tryz.func278,Tryz.ntmps278
 go_wp2_with (go_at_call 307;refine Hst.out.mono ?_;rintro e w' ⟨rfl,hw⟩;have hw':=hw.symm;subst hw');go_region_with (go_at_call 308;refine (Htop.out _ Hpm.out.drew).mono ?_;rintro e w' ⟨rfl,hw⟩;have hw':=hw.symm;subst hw')
 rotate_left
 rotate_left
 all_goals
  have hpm1:=(Hpm.out.before a tv).drew;have hap:=hpm1.apart;have hfr1:FrS B w (w.setCell ⟨bb,a,none⟩ (.int .i64 tv)).drew:=by
   obtain ⟨c,hbo,_⟩:=Hpm.out.bo;exact ⟨((Below.refl B w).setCell (p:=⟨bb,a,none⟩) Hpm.out.hb _).drew,((Keeps.refl 282 w).set hbo (by decide)).drew⟩
  clear x1 x2 y0 yf Hst Htop Hpm
  generalize (w.setCell ⟨bb,a,none⟩ (.int .i64 tv)).drew=W at *
  have x1:W.cell? ⟨pb,1,none⟩=some (.map (some mb)):=by rw [cell_of_row W pb 1 _ 337 (0,0) hpm1.st];rfl
  obtain ⟨D,hD,hMD⟩:=hpm1.mo;have hk3l:=qfa d a;have hkey:keyOf Tryz.prog 9 (.string (txt (pkKey3 d a)))=some (.string (pkKey3 d a)):=WideMaps.keyOf_string_mk Tryz.underlying9 (by rw [qaa];unfold maxLen;omega);have hval:plainElem (H:=Unit) Tryz.prog 3 (.int .i64 (a:Nat))=some (.lit (.int .i64 (a:Nat)),[]):=plainElem_int Tryz.underlying3 (wf_i64 a (by omega));have Hpm1:=hidI hpm1;have Hfr1:=hidI hfr1;have Hap:=hidI hap;have HMD:=hidI (hMD.put (pkKey3 d a) a);clear hpm1 hfr1 hMD hap
  generalize txt (pkKey3 d a)=tk at *
  go_wp2_with (at_mapUpdate;refine wpList_mapUpdate_own _ rfl _ _ _ 335 rfl 9 3 Tryz.keyed9 Tryz.underlying335 (plainElem Tryz.prog 3) mb m D rfl hD (by unfold maxLen;omega) _ _ (.string (pkKey3 d a)) rfl rfl hkey (.lit (.int .i64 (a:Nat))) [] hval ?_;intro w2 hown2 hgrow2);go_end0
  refine ⟨rfl,⟨Hpm1.out.hp,Hpm1.out.hm,Hpm1.out.hb,(hgrow2.block pb (lt_of_heap Hpm1.out.st) (by simp;exact Hap.out.2.2)).trans Hpm1.out.st,⟨_,hown2,HMD.out⟩,Hpm1.out.bo.of_block (hgrow2.block bb Hpm1.out.bo.lt (by simp;exact fun e=>Hap.out.2.1 e.symm))⟩,?_⟩
 rotate_left
 rotate_left
 all_goals
  refine ⟨Hfr1.out.bel.trans ((Below.refl B W).grown hgrow2 ?_ (fun k hk=>by simp at hk;subst hk;exact Hpm1.out.hm)),Hfr1.out.steps.trans fun k x f e=>hgrow2.block k (lt_of_heap e) ?_⟩
  ·exact Nat.le_trans Hpm1.out.hp (Nat.le_of_lt (lt_of_heap Hpm1.out.st))
  intro hk;simp at hk;subst hk;obtain ⟨D2,⟨es,ck,hmo,_⟩,_⟩:=Hpm1.out.mo;rw [hmo] at e;simp at e
theorem PI.add (h:PI d mp bf a) (h3:a+3≤d.length):PI d (fun s=>if s=pkKey3 d a then some a else mp s) (fun j=>if j=a then topV (mp (pkKey3 d a)) else bf j) (a+1):=by
 refine ⟨fun s v hv => ?_,fun v h1 h2 => ?_,fun v h1 h2 => ?_⟩
 ·by_cases e:s=pkKey3 d a
  ·rw [if_pos e] at hv;cases hv;exact ⟨by omega,h3,e.symm⟩
  rw [if_neg e] at hv;have:=h.lt s v hv;exact ⟨by omega,this.2⟩
 ·by_cases e:v=a
  ·subst e;simp only [if_pos];cases hm:mp (pkKey3 d v) with
   | none=>exact .inl rfl
   | some u=>have:=h.lt _ _ hm;exact .inr ⟨u,rfl,this.1,this.2.2⟩
  simp only [if_neg e];exact h.ch v (by omega) h2
 by_cases e:pkKey3 d v=pkKey3 d a
 ·exact ⟨a,if_pos e⟩
 simp only [if_neg e];exact h.all v (by
  by_cases e2:v=a
  ·subst e2;exact absurd rfl e
  omega) h2
theorem PI.skip (h:PI d mp bf a) (h3:d.length<a+3):PI d mp bf (a+1):=
 ⟨fun s v hv=>by have:=h.lt s v hv;exact ⟨by omega,this.2⟩,fun v h1 h2=>h.ch v (by omega) h2,fun v h1 h2=>h.all v (by omega) h2⟩
theorem PI.start (d:List UInt8) (bf:Nat→Int):PI d (fun _=>none) bf 0:=⟨fun s v hv=>(by cases hv),fun v h1=>(by omega),fun v h1=>(by omega)⟩
theorem qiO (w:World) (d:List UInt8) (h0:0<d.length) (hd:d.length≤4000) :
 Calls Tryz.prog 276 #[.string (txt d)] w fun e w'=>∃ pb mb bb,e=.returned (.pointer (some ⟨pb,0,none⟩))∧PM w' w.heap.size pb mb bb d 0 (fun _=>none) (fun _=>0)∧FrS w.heap.size w w':=by
 obtain ⟨n,hn⟩:∃ n,n=d.length:=⟨_,rfl⟩;obtain ⟨M,hM⟩:∃ M,M=madeCells #[Value.int .i64 0] n:=⟨_,rfl⟩;have hmk:∀ W:World,(Instr.makeSlice 22 (.int .i64 (n:Nat)) (.int .i64 (n:Nat))).run Tryz.prog W=.ok (.slice (some ⟨W.heap.size,0,none⟩) n n) (W.alloc (.cells M 3)):=fun W=>by
  rw [hM];exact run_make_row' (P:=Tryz.prog) 22 3 (.int .i64 0) 8 Tryz.underlying22 Tryz.info3 rfl .i64 .i64 n (by omega) (by omega) W
 have hs:(txt d).size=n:=by rw [qaa,hn]
 have HM:=hidI hM;have Hn:=hidI hn;have Ht:Hid (txt d=txt d):=rfl
 generalize htd:txt d=t at *
 have Htd:=hidI htd;clear hM hn htd;have hmm:=@run_makeMap Tryz.prog;go_enter Tryz.func276,Tryz.ntmps276
 go_wp2;go_ret
 obtain ⟨o3,ho3⟩:∃ o,o=Obj.cells #[.string t,.map (some w.heap.size),.slice (some ⟨w.heap.size+1,0,none⟩) n n] 337:=⟨_,rfl⟩;have h3:(((w.alloc (.map #[] 0)).alloc (.cells M 3)).alloc o3).heap[w.heap.size+1+1]? = some o3:=by
  have:=heap_alloc_new ((w.alloc (.map #[] 0)).alloc (.cells M 3)) o3
  simp only [World.size_alloc] at this;exact this
 have h1:(((w.alloc (.map #[] 0)).alloc (.cells M 3)).alloc o3).ownsMap (H:=Unit) Tryz.prog 9 (plainElem Tryz.prog 3) w.heap.size 0 (.map []):=((World.ownsMap_made w _ _ _).alloc _).alloc _;have h2:(((w.alloc (.map #[] 0)).alloc (.cells M 3)).alloc o3).rowIs (w.heap.size+1) 3 n (fun _=>.int .i64 0):=by
  have:=World.rowIs_made (w.alloc (.map #[] 0)) (.int .i64 0) n 3
  rw [←HM.out] at this;simp only [World.size_alloc] at this;exact this.alloc _
 rw [←ho3];refine ⟨w.heap.size+1+1,rfl,⟨w.heap.size,w.heap.size+1,⟨by omega,by omega,by omega,?_,⟨_,h1,MD.nil⟩,?_⟩⟩,?_⟩
 ·rw [h3,ho3,←Hn.out,Htd.out]
 ·rw [←Hn.out];exact h2
 exact ⟨(((Below.refl _ w).alloc (Nat.le_refl _) _).alloc (by simp) _).alloc (by simp;omega) _,(((Keeps.refl 282 w).alloc _).alloc _).alloc _⟩
end S1
end Go.Proofs.YtodmdkhdbfbfgaaGreatDoor
