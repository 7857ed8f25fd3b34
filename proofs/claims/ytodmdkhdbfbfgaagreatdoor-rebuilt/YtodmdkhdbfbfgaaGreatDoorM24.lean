/- Lemmas. -/
import Derived.StringKeys
import Derived.Maps.Views
import Derived.Test.YtodmdkhdbfbfgaaGreatDoorM23
set_option linter.unusedVariables false
set_option linter.unusedSimpArgs false
set_option maxRecDepth 100000
set_option maxHeartbeats 8000000
namespace Go.Proofs.YtodmdkhdbfbfgaaGreatDoor
open Go.RowKit Go.Nt
def StrsIn (w:World) (a:Option Addr) (n:Nat) (s:Nat→Bs):Prop:=0<n→∃ b off,a=some ⟨b,off,none⟩∧∀ k,k<n→w.cell? ⟨b,off+k,none⟩=some (.string (txt (s k)))
theorem qe3 (l:List It):sameB l (qaf (qaf l))=true:=by
 unfold sameB;simp [qao,order_mem]
theorem qgx (b p:Int):S1.New (S1.mkM b p 0 (fun _=>0)):=⟨S1.mkM_wf _ _ _ _,rfl,(by show (-1:Int)<0;decide),fun _ _=>rfl,fun _=>rfl⟩
theorem roomA:S1.roomP (S1.mkM 32 16 0 (fun _=>0))=256:=by decide
theorem tdivA {y:Int} (d:Int) (hd:0<d) (h1:-9223372036854775808≤y) (h2:y≤9223372036854775807):-9223372036854775808≤y.tdiv d∧y.tdiv d≤9223372036854775807:=by
 by_cases h:0≤y
 ·rw [Int.tdiv_eq_ediv_of_nonneg h]
  have:=Int.ediv_nonneg h (Int.le_of_lt hd)
  have:=Int.ediv_le_self d h
  omega
 have e:y.tdiv d = -((-y).tdiv d):=by rw [←Int.neg_tdiv,Int.neg_neg]
 rw [e,Int.tdiv_eq_ediv_of_nonneg (by omega)]
 have:=Int.ediv_nonneg (a:=-y) (by omega) (Int.le_of_lt hd)
 have:=Int.ediv_le_self (a:=-y) d (by omega)
 omega
theorem qja {m:S1.M} (hm:S1.New m) (t:Bs) (ht:0<t.length):S1.WF (S1.renA m t).2∧(S1.renA m t).2.life≠0:=by
 by_cases h:S1.mayE m t.length=0
 ·obtain ⟨_,h2,h3,_⟩:=hm.renew ht h;exact ⟨h2,by rw [h3];decide⟩
 unfold S1.renA;rw [if_pos h];exact ⟨hm.wf,by rw [hm.life];decide⟩
theorem qi1 {m:S1.M} (hm:S1.New m) (t:Bs) (h:S1.mayE m t.length≠0):(S1.renA m t).1=9∧S1.roomP m<pagesN t.length:=by
 unfold S1.renA;rw [if_pos h];unfold S1.mayE at h ⊢;rw [if_neg (by rw [hm.life];decide)] at h ⊢
 split
 ·exact ⟨rfl,by assumption⟩
 rename_i h2;rw [if_neg h2] at h;exact absurd rfl h
theorem qi3 (m:S1.M) (b p:Int) (s:List UInt8):(S1.scrA m b p s).life=m.life:=by
 unfold S1.scrA
 split<;>rfl
theorem largeA (w:World):Calls Tryz.prog 19 #[] w fun e w'=>∃ L hi,e=.returned (.pointer (some ⟨w.heap.size,0,none⟩))∧hi≤w'.heap.size∧S1.CP w' w.heap.size hi w.heap.size L (S1.mkM 32 16 0 (fun _=>0))∧Below w.heap.size w w':=by
 have A:=hidI (S1.new_any w 32 16 none 0 0 (fun _=>0) (by omega) (fun h=>absurd h (by decide)));go_enter Tryz.func19,Tryz.ntmps19
 go_wp2_with fail;refine A.out.mono ?_;rintro e w1 ⟨L,hi,rfl,hhi,hC,hBw⟩;have H1:=hidI hhi;have H2:=hidI hC;have H3:=hidI hBw;clear hhi hC hBw A;go_wp2_with fail;go_ret
 exact ⟨L,hi,rfl,H1.out,H2.out,H3.out⟩
theorem qfE {u:Bs→Option Bs} (hP:PackC u) (ra pa ta:Option Addr) (rn rc pn pc tn tc:Nat) (zr zp:Nat→Int) (st:Nat→Bs) (bl pg:Int) (w:World) (hml:ML w) (hrn:rn≤9223372036854775807) (hpn:pn≤9223372036854775807) (hra:S1.IntsIn w ra rn zr) (hpa:S1.IntsIn w pa pn zp) (hta:StrsIn w ta tn st) (hzr:∀ k,k<rn → -9223372036854775808≤zr k∧zr k≤9223372036854775807) (hzp:∀ k,k<pn → -9223372036854775808≤zp k∧zp k≤9223372036854775807) (hst:∀ k,k<tn→(st k).length≤140737488351232) :
 Calls Tryz.prog 6 #[.slice ra rn rc,.int .i64 bl,.int .i64 pg,.slice pa pn pc,.slice ta tn tc] w fun e w'=>e=.returned (.bool true)∧Below w.heap.size w w':=by
 have A0:=hidI (qlU ra rn rc zr w hrn hra hzr);have Hml:=hidI hml;have Hpa:=hidI hpa;have Hta:=hidI hta;have Hzp:=hidI hzp;have Hst:=hidI hst;clear hra hzr hml hpa hta hzp hst;go_enter Tryz.func6,Tryz.ntmps6
 go_wp2_with fail;refine A0.out.mono ?_;rintro e w1 ⟨v1,l,rfl,hKT,hown1,hb1⟩;obtain ⟨a,c,rfl,hin1⟩:=qbY hown1;obtain ⟨cb,hcb⟩:∃ cb,cb=w1.heap.size:=⟨_,rfl⟩;have hml1:ML w1:=Hml.out.below hb1 Hml.out.lt;have hw1:0<cb:=by rw [hcb];exact hml1.lt
 have hwcb:w.heap.size≤cb:=by rw [hcb];exact hb1.size
 have Hml1:Hid (∀ W,Below cb w1 W→ML W):=hidI (fun W hW=>hml1.below hW (by rw [hcb];exact hml1.lt));have Hin1:Hid (∀ W,Below cb w1 W→ItsIn W a l):=hidI (fun W hW=>hin1.below (by rw [←hcb];exact hW));have HB1:Hid (∀ W,Below cb w1 W→Below w.heap.size w W):=hidI (fun W hW=>hb1.trans (hW.mono hwcb));have HKT:=hidI hKT;have N1:=hidI (S1.new_any w1 bl pg none 0 0 (fun _=>0) (by omega) (fun h=>absurd h (by decide)));rw [←hcb] at N1;have Hcb:=hidI hcb;clear hown1 hin1 hb1 hml1 A0 hKT hcb;go_wp2_with fail;refine N1.out.mono ?_;rintro e w2 ⟨L,hi,rfl,hhi,hC2,hb2⟩;have hnew:=qgx bl pg;obtain ⟨m0,hm0⟩:∃ m0,m0=S1.mkM bl pg 0 (fun _=>0):=⟨_,rfl⟩;rw [←hm0] at hC2 hnew;have Hb2:=hidI hb2;have hfit:∀ x∈l,Fit x:=fun x hx=>qaC (HKT.out.tree.ok x hx)
 have A:=hidI (qdb hP a c l w2 cb hi cb L m0 hnew.wf hC2 hhi (Hml1.out w2 hb2) hw1 (Hin1.out w2 hb2) (by have:=HKT.out.len;omega) (fun x hx=>by have:=(hfit x hx).p;omega) (fun x hx=>by have:=(hfit x hx).d;omega));have Hnew:=hidI hnew;clear hb2 hC2 hfit hnew hm0 N1;go_wp2_with fail;refine A.out.mono ?_;rintro e w3 (⟨hno,_⟩ | ⟨_,t,hT,rfl,hC3,hO3⟩)
 ·rw [(qaL l).2 HKT.out.tree] at hno;cases hno
 have hs2:cb≤w2.heap.size:=by have:=Hb2.out.size;rw [←Hcb.out] at this;exact this
 have HBl:Hid (Below cb w1 w3):=hidI (Hb2.out.trans (hO3.below (Nat.le_refl _) hs2));have hR:=qja Hnew.out t (qdT hT);have HM:Hid (∃ m',S1.CP w3 cb hi cb L m'∧S1.WF m'∧m'.life≠0):=hidI ⟨_,hC3,hR.1,hR.2⟩;have hhi3:hi≤w3.heap.size:=by have:=hO3.size;omega
 obtain ⟨r0,hr0⟩:∃ r0,r0=(S1.renA m0 t).1:=⟨_,rfl⟩;rw [←hr0];clear hT hC3 hO3 hR hr0 A Hb2;go_wp2_with fail
 go_loopw [13] (fun i wr=>∃ k:Nat,k≤pn∧i=.int .i64 k∧Hid (∃ m',S1.CP wr cb hi cb L m'∧S1.WF m'∧m'.life≠0)∧Hid (Below cb w1 wr)∧hi≤wr.heap.size) (fun i _=>pn - (intOf i).toNat)
 case atStart=>exact ⟨0,by omega,rfl,HM,HBl,hhi3⟩
 case round =>
  clear HM HBl;obtain ⟨k,hk,rfl,HM,HBl,hhr⟩:=hrel;by_cases hlt:k<pn∧k<tn
  ·obtain ⟨h1,h2⟩:=hlt;have h1':(k:Int)<(pn:Int):=by omega
   have h2':(k:Int)<(tn:Int):=by omega
   have h0':(0:Int)≤(k:Int):=by omega
   obtain ⟨pb,po,hpe,hpc⟩:=Hpa.out (by omega);obtain ⟨tb,tof,hte,htc⟩:=Hta.out (by omega);subst hpe;subst hte;have hx:=hpc k h1;have hy:=htc k h2;have hzx:=Hzp.out k h1;have hsy:=Hst.out k h2;obtain ⟨x,hxe⟩:∃ x,x=zp k:=⟨_,rfl⟩;obtain ⟨s,hse⟩:∃ s,s=st k:=⟨_,rfl⟩;rw [←hxe] at hx hzx;rw [←hse] at hy hsy;have hpl:pb<w.heap.size:=World.block_lt_of_cell? w _ hx;have htl:tb<w.heap.size:=World.block_lt_of_cell? w _ hy;obtain ⟨S,hS⟩:∃ S,S=S1.txt s:=⟨_,rfl⟩;have hS':txt s=S:=by rw [hS];rfl
   rw [hS'] at hy;have HX:Hid (∀ W,Below w.heap.size w W→W.cell? ⟨pb,po+k,none⟩=some (.int .i64 x)):=hidI fun W hW=>(hW.cell hpl).trans hx
   have HY:Hid (∀ W,Below w.heap.size w W→W.cell? ⟨tb,tof+k,none⟩=some (.string S)):=hidI fun W hW=>(hW.cell htl).trans hy
   have Hbd:Hid (Below cb w1 wr.drew):=hidI HBl.out.drew;have c0:=HX.out wr.drew (HB1.out _ Hbd.out);have c1:=HY.out wr.drew (HB1.out _ Hbd.out);obtain ⟨hq1,hq2⟩:=tdivA 32 (by decide) hzx.1 hzx.2;obtain ⟨q,hq⟩:∃ q,x.tdiv 32=q:=⟨_,rfl⟩;rw [hq] at hq1 hq2;have gq:IntKind.i64.wrap q=q:=by rw [IntKind.wrap_i64];omega
   have P32:=hidI (fun W=>qa1 x 32 W hzx.1 hzx.2 (by decide) (by decide));have P16:=hidI (fun W=>qa1 q 16 W hq1 hq2 (by decide) (by decide));obtain ⟨r32,hr32⟩:∃ r32,r32=pickF x 32:=⟨_,rfl⟩;obtain ⟨r16,hr16⟩:∃ r16,r16=pickF q 16:=⟨_,rfl⟩;rw [←hr32] at P32;rw [←hr16] at P16;obtain ⟨m',hC,hwf,hlf⟩:=HM.out;have SC:=hidI (S1.scr_any wr.drew cb hi cb L m' ((r32:Nat):Int) ((r16:Nat):Int) s hwf hsy (S1.MemX.below hC (Nat.le_refl _) (Below.refl _ _).drew));rw [←hS] at SC;have Hwf:=hidI hwf;have hcbr:cb≤wr.heap.size:=by have:=HBl.out.size;rw [←Hcb.out] at this;exact this
   clear hpc htc hxe hse hx hy hS hS' hr32 hr16 hC hwf HM hsy;go_wp2_with fail;go_region_held3 (fun V=>V.cell? ⟨pb,po+k,none⟩=some (.int .i64 x)∧V.cell? ⟨tb,tof+k,none⟩=some (.string S)) (go_keep) (first
    | (go_at_call_of 18 (Value.int .i64 x);refine (P32.out _).mono ?_;rintro e w' ⟨rfl,hw⟩;have hw':=hw.symm;subst hw';clear hw)
    | (go_at_call_of 18 (Value.int .i64 q);refine (P16.out _).mono ?_;rintro e w' ⟨rfl,hw⟩;have hw':=hw.symm;subst hw';clear hw)
    | (go_at_call 17;refine SC.out.mono ?_;rintro e V5 ⟨rfl,hCV,hOV⟩;have HBV:Hid (Below cb w1 V5):=hidI (Hbd.out.trans (hOV.below (Nat.le_refl _) hcbr));have f0:=HX.out V5 (HB1.out _ HBV.out);have f1:=HY.out V5 (HB1.out _ HBV.out);have HM5:Hid (∃ m',S1.CP V5 cb hi cb L m'∧S1.WF m'∧m'.life≠0):=hidI ⟨_,hCV,S1.scrA_wf Hwf.out _ _ _,by rw [qi3];exact hlf⟩;have hsV:hi≤V5.heap.size:=Nat.le_trans hhr hOV.size;clear hCV hOV))
   rename_i hHeld;clear hHeld f0 f1 c0 c1;go_wp2_with fail;go_roundw
   case rel=>exact ⟨k+1,by omega,by go_num,HM5,HBV,hsV⟩
   case measure=>simp [intOf];omega
  by_cases hq:k<pn
  case' pos =>
   have h1':(k:Int)<(pn:Int):=by omega
   have h2':¬(k:Int)<(tn:Int):=by omega
  case' neg =>
   have h1':¬(k:Int)<(pn:Int):=by omega
  all_goals
   have hcbr:cb≤wr.heap.size:=by have:=HBl.out.size;rw [←Hcb.out] at this;exact this
   obtain ⟨m',hC,hwf,hlf⟩:=HM.out;have HC:=hidI hC;have Hwf:=hidI hwf;clear hC hwf HM hlt;go_wp2_with fail;refine (largeA wr).mono ?_;rintro e w4 ⟨L4,hi4,rfl,hhi4,hC4,hb4⟩;obtain ⟨x4,hx4⟩:∃ x4,x4=wr.heap.size:=⟨_,rfl⟩;rw [←hx4] at hC4 hb4 hcbr ⊢;have hb14:Below cb w1 w4:=HBl.out.trans (hb4.mono hcbr);have M4:=hidI (qlv hP a c l w4 x4 hi4 x4 L4 _ (qgx 32 16) hC4 hhi4 (Hml1.out _ hb14) (by omega) (Hin1.out _ hb14) HKT.out.tree (by rw [roomA];have:=HKT.out.weighs;unfold pagesN;omega));have Hb4:=hidI hb4;have hs4:=hb4.size;have Hx4:=hidI hx4;clear hC4 hb4 hb14 hx4 hs4;go_wp2_with fail;refine M4.out.mono ?_;rintro e w5 ⟨fb,xb,lb,tb,rfl,-,-,hfb,hO5⟩;have hx44:x4≤w4.heap.size:=by have:=Hb4.out.size;rw [←Hx4.out] at this;exact this
   have hb45:Below x4 wr w5:=Hb4.out.trans (hO5.below (Nat.le_refl _) hx44);have hC5:=S1.MemX.below HC.out (B:=x4) (by rw [Hx4.out];exact hhr) hb45;have Hb5:Hid (Below cb w1 w5):=hidI (HBl.out.trans (hb45.mono hcbr));have hs5:hi≤w5.heap.size:=by have:=hb45.size;omega
   have C5:=hidI (S1.copy_any w5 cb hi cb L m' Hwf.out hC5 hs5);clear hO5 hb45 hC5 M4 hfb;go_wp2_with fail;refine C5.out.mono ?_;rintro e w6 ⟨L6,rfl,hC6,hb6⟩;obtain ⟨x6,hx6⟩:∃ x6,x6=w5.heap.size:=⟨_,rfl⟩;have h56:cb≤x6:=by have:=Hb5.out.size;rw [←Hcb.out] at this;omega
   rw [←hx6] at hC6 hb6 ⊢;have Hb6:Hid (Below cb w1 w6):=hidI (Hb5.out.trans (hb6.mono h56));have M6:=hidI (mountA w6 x6 w6.heap.size x6 L6 m' Hwf.out hC6 (Nat.le_refl _) hlf _ rfl (Hml1.out _ Hb6.out) hP);have h66:cb≤w6.heap.size:=by have:=Hb6.out.size;rw [←Hcb.out] at this;exact this
   clear hC6 hb6 hx6 C5;go_wp2_with fail;refine M6.out.mono ?_;rintro e w7 ⟨ord,-,⟨-,rfl,hb7⟩ | ⟨pre,x,post,tl,-,-,-,htr,-,fb2,lb2,tb2,ib2,n2,rfl,hF7,hT7,-,-,-,-,-,-,-,-,hb7⟩⟩
   ·have Hb7:=hidI (HB1.out _ (Hb6.out.trans (hb7.mono h66)));clear hb7 M6;go_wp2_with fail;go_ret
    exact ⟨rfl,Hb7.out⟩
   have ht:=(qaL tl).1 htr;have Hb7:Hid (Below cb w1 w7):=hidI (Hb6.out.trans (hb7.mono h66));have h77:cb≤w7.heap.size:=by have:=Hb7.out.size;rw [←Hcb.out] at this;exact this
   have T7:=hidI (qdX w7 fb2 x6 lb2 tb2 tl hF7 hT7 ht (Hml1.out _ Hb7.out));have Ht:=hidI ht.orderA;clear hF7 hT7 hb7 M6 htr ht;go_wp2_with fail;refine T7.out.mono ?_;rintro e w8 ⟨hb8,v8,rfl,hown8⟩;rw [←qao] at hown8;obtain ⟨t8,ht8⟩:∃ t8,t8=qaf tl:=⟨_,rfl⟩;rw [←ht8] at hown8 Ht;obtain ⟨a8,c8,rfl,hin8⟩:=qbY hown8;have Hb8:Hid (Below cb w1 w8):=hidI (Hb7.out.trans (hb8.mono h77));have h88:cb≤w8.heap.size:=by have:=Hb8.out.size;rw [←Hcb.out] at this;exact this
   have HC8:=hidI (checkA a8 c8 t8 w8 (Hml1.out _ Hb8.out) hin8 Ht.out);obtain ⟨n8,hn8⟩:∃ n8,n8=t8.length:=⟨_,rfl⟩;have Hn8:=hidI hn8;have Hin8:=hidI hin8;rw [←hn8] at HC8 ⊢;clear hb8 hown8 ht8 hin8 hn8 T7;go_wp2_with fail;refine HC8.out.mono ?_;rintro e w9 ⟨⟨v9,rfl⟩,hb9⟩;have Hb9:Hid (Below cb w1 w9):=hidI (Hb8.out.trans (hb9.mono h88));have Hin9:Hid (ItsIn w9 a8 t8):=hidI (Hin8.out.below hb9);have h99:cb≤w9.heap.size:=by have:=Hb9.out.size;rw [←Hcb.out] at this;exact this
   have N9:=hidI (S1.new_any w9 32 16 none 0 0 (fun _=>0) (by omega) (fun h=>absurd h (by decide)));clear hb9 HC8 Hin8;go_wp2_with fail;refine N9.out.mono ?_;rintro e w10 ⟨L10,hi10,rfl,hhi10,hC10,hb10⟩;obtain ⟨x10,hx10⟩:∃ x10,x10=w9.heap.size:=⟨_,rfl⟩;have Hin10:=Hin9.out.below hb10;rw [←hx10] at hC10 hb10 h99 ⊢;have hnew:=qgx 32 16;have hroom:=roomA;obtain ⟨m10,hm10⟩:∃ m10,m10=S1.mkM 32 16 0 (fun _=>0):=⟨_,rfl⟩;rw [←hm10] at hC10 hnew hroom;have Hb10:Hid (Below cb w1 w10):=hidI (Hb9.out.trans (hb10.mono h99));have hxx:x10≤w10.heap.size:=by have:=hb10.size;rw [←hx10] at this;exact this
   have hfit:∀ x∈t8,Fit x:=fun x hx=>qaC (Ht.out.ok x hx)
   have B10:=hidI (qdb hP a8 c8 t8 w10 x10 hi10 x10 L10 m10 hnew.wf hC10 hhi10 (Hml1.out _ Hb10.out) (by omega) Hin10 (by have:=Ht.out.len;omega) (fun x hx=>by have:=(hfit x hx).p;omega) (fun x hx=>by have:=(hfit x hx).d;omega));rw [←Hn8.out] at B10;have HinN:Hid (∀ W,Below x10 w9 W→ItsIn W a8 t8):=hidI (fun W hW=>Hin9.out.below (by rw [←hx10];exact hW));have Hb10':=hidI hb10;have Hfit:=hidI hfit;have Hnew:=hidI hnew;have Hx10:=hidI hx10;clear hC10 hb10 Hin10 hfit hm10 hx10 N9 hnew Hin9;go_wp2_with fail;refine B10.out.mono ?_;rintro e w11 (⟨hno,_⟩ | ⟨_,t,hT,rfl,hC11,hO11⟩)
   ·rw [(qaL t8).2 Ht.out] at hno;cases hno
   have hbx:Below x10 w9 w11:=Hb10'.out.trans (hO11.below (Nat.le_refl _) hxx);have Hb11:Hid (Below cb w1 w11):=hidI (Hb9.out.trans (hbx.mono h99));have Hin11:=hidI (HinN.out _ hbx);have h11:cb≤w11.heap.size:=by have:=Hb11.out.size;rw [←Hcb.out] at this;exact this
   have hs11:hi10≤w11.heap.size:=Nat.le_trans hhi10 hO11.size;by_cases hmay:S1.mayE m10 t.length=0
   ·obtain ⟨hr0,hLd⟩:=New.laid Hnew.out Ht.out hT hmay;rw [hr0];obtain ⟨m11,hm11⟩:∃ m11,m11=(S1.renA m10 t).2:=⟨_,rfl⟩;rw [←hm11] at hLd hC11;have C11:=hidI (S1.copy_any w11 x10 hi10 x10 L10 m11 hLd.1 hC11 hs11);have HLd:=hidI hLd;clear hr0 hm11 hLd hC11 hO11 hbx hT hmay B10;go_wp2_with fail;refine C11.out.mono ?_;rintro e w12 ⟨L12,rfl,hC12,hb12⟩;have Hin12:=hidI (Hin11.out.below hb12);obtain ⟨x12,hx12⟩:∃ x12,x12=w11.heap.size:=⟨_,rfl⟩;rw [←hx12] at hC12 hb12 h11 ⊢;have Hb12:Hid (Below cb w1 w12):=hidI (Hb11.out.trans (hb12.mono h11));have h12:cb≤w12.heap.size:=by have:=Hb12.out.size;rw [←Hcb.out] at this;exact this
    have M12:=hidI (qdS hP w12 x12 w12.heap.size x12 L12 m11 t8 Ht.out HLd.out hC12 (Nat.le_refl _) (Hml1.out _ Hb12.out));clear hC12 hb12 hx12 C11;go_wp2_with fail;refine M12.out.mono ?_;rintro e w13 ⟨fb3,lb3,tb3,rfl,hF13,hT13,-,hb13⟩;have Hin13:=hidI (Hin12.out.below hb13);have Hb13:Hid (Below cb w1 w13):=hidI (Hb12.out.trans (hb13.mono h12));have h13:cb≤w13.heap.size:=by have:=Hb13.out.size;rw [←Hcb.out] at this;exact this
    have T13:=hidI (qdX w13 fb3 x12 lb3 tb3 (qaf t8) hF13 hT13 Ht.out.orderA (Hml1.out _ Hb13.out));clear hF13 hT13 hb13 M12;go_wp2_with fail;refine T13.out.mono ?_;rintro e w14 ⟨hb14,v14,rfl,hown14⟩;rw [←qao] at hown14;obtain ⟨a14,c14,rfl,hin14⟩:=qbY hown14;have Hb14:Hid (Below cb w1 w14):=hidI (Hb13.out.trans (hb14.mono h13));have h14:cb≤w14.heap.size:=by have:=Hb14.out.size;rw [←Hcb.out] at this;exact this
    have K14:=hidI (qj9 a8 a14 c8 c14 t8 (qaf (qaf t8)) w14 (Hin13.out.below hb14) hin14 (by have:=Ht.out.len;omega) (by rw [qao,qao];have:=Ht.out.len;omega));rw [qe3,←Hn8.out] at K14;obtain ⟨n14,hn14⟩:∃ n14,n14=(qaf (qaf t8)).length:=⟨_,rfl⟩;rw [←hn14] at K14 ⊢;clear hb14 hown14 hin14 hn14 T13;go_wp2_with fail;refine K14.out.mono ?_;rintro e w15 ⟨rfl,hb15⟩;have Hb15:=hidI (HB1.out _ (Hb14.out.trans (hb15.mono h14)));clear hb15 K14;go_wp2_with fail;go_ret
    exact ⟨rfl,Hb15.out⟩
   obtain ⟨hr9,hbig⟩:=qi1 Hnew.out t hmay;have htl:=qce hT;rw [qcn] at htl;have hwt:2048<weigh t8:=by rw [hroom] at hbig;unfold pagesN at hbig;omega
   have W11:=hidI (qiv a8 c8 t8 w11 Hin11.out (by have:=Ht.out.len;omega) (fun x hx=>by have:=(Hfit.out x hx).p;omega) (fun x hx=>by have:=(Hfit.out x hx).d;omega));rw [←Hn8.out] at W11;rw [hr9];obtain ⟨wt,hwte⟩:∃ wt,wt=weigh t8:=⟨_,rfl⟩;rw [←hwte] at W11 hwt;have hwt':(2048:Int)<(wt:Nat):=by omega
   clear hr9 hbig htl hT hmay hC11 hO11 hbx hwte B10;go_wp2_with fail;refine W11.out.mono ?_;rintro e w12 ⟨rfl,q12,rfl⟩;have Hb12:=hidI (HB1.out _ (qbh Hb11.out q12));clear W11;go_wp2_with fail;go_ret
   exact ⟨rfl,Hb12.out⟩
end Go.Proofs.YtodmdkhdbfbfgaaGreatDoor
namespace Go.Proofs.YtodmdkhdbfbfgaaGreatDoor.S1
open Go.RowKit Pk
structure MD (D:DataW Unit) (mp:List UInt8→Option Nat):Prop where
 is:Maps.IsMap D
 no:∀ s,mp s=none→Maps.has D (.string s)=false
 yes:∀ s v,mp s=some v→Maps.has D (.string s)=true∧D.atKey (.string s) (.lit (.int .i64 0))=.lit (.int .i64 (v:Nat))
theorem MD.nil:MD (.map []) (fun _=>none):=⟨Maps.isMap_empty,fun _ _=>rfl,fun _ _ h=>by cases h⟩
theorem MD.put {D:DataW Unit} {mp:List UInt8→Option Nat} (h:MD D mp) (k:List UInt8) (v:Nat):MD (D.put (.string k) (.lit (.int .i64 (v:Nat)))) (fun s=>if s=k then some v else mp s):=by
 have hk:WideAt.IsKeyLit (Lit.string k):=trivial;refine ⟨h.is.put _ _,fun s hs => ?_,fun s u hs => ?_⟩
 ·by_cases e:s=k
  ·rw [if_pos e] at hs;cases hs
  rw [if_neg e] at hs;rw [Maps.has_put_other (fun e2=>e (by injection e2))];exact h.no s hs
 by_cases e:s=k
 ·rw [if_pos e] at hs;cases hs
  subst e;exact ⟨Maps.has_put_same h.is hk _,Maps.atKey_put_same h.is hk _ _⟩
 rw [if_neg e] at hs;rw [Maps.has_put_other (fun e2=>e (by injection e2)),Maps.atKey_put_other (fun e2=>e (by injection e2))];exact h.yes s u hs
structure PM (w:World) (B pb mb bb:Nat) (d:List UInt8) (m:Nat) (mp:List UInt8→Option Nat) (bf:Nat→Int):Prop where
 hp:B≤pb
 hm:B≤mb
 hb:B≤bb
 st:w.heap[pb]? = some (.cells #[.string (txt d),.map (some mb),.slice (some ⟨bb,0,none⟩) d.length d.length] 337 (0,0))
 mo:∃ D,w.ownsMap Tryz.prog 9 (plainElem Tryz.prog 3) mb m D∧MD D mp
 bo:w.rowIs bb 3 d.length (fun j=>.int .i64 (bf j))
def pkKey3 (d:List UInt8) (v:Nat):List UInt8:=(d.drop v).take 3
theorem qgM (w:World) (pb a:Nat) (d:List UInt8) (x y:Value) (hd:d.length≤4000) (ha:a≤4000) (h:d.length<a+3) (hst:w.heap[pb]? = some (.cells #[.string (txt d),x,y] 337 (0,0))) :
 Calls Tryz.prog 307 #[.pointer (some ⟨pb,0,none⟩),.int .i64 (a:Nat)] w fun e w'=>e=.returned (.tuple #[.string ⟨#[]⟩,.bool false])∧w'=w:=by
 have x0:w.cell? ⟨pb,0,none⟩=some (.string (txt d)):=by rw [cell_of_row w pb 0 _ 337 (0,0) hst];rfl
 have hs:(txt d).size=d.length:=qaa d
 generalize txt d=t at *
 have h1:((t.size:Nat):Int)<(a:Int)+3:=by omega
 clear hst hs;go_enter Tryz.func307,Tryz.ntmps307
 go_wp2;go_ret2
 exact ⟨rfl,rfl⟩
theorem qfr (w:World) (pb a:Nat) (d:List UInt8) (x y:Value) (hd:d.length≤4000) (h:a+3≤d.length) (hst:w.heap[pb]? = some (.cells #[.string (txt d),x,y] 337 (0,0))) :
 Calls Tryz.prog 307 #[.pointer (some ⟨pb,0,none⟩),.int .i64 (a:Nat)] w fun e w'=>e=.returned (.tuple #[.string (txt (pkKey3 d a)),.bool true])∧w'=w:=by
 have x0:w.cell? ⟨pb,0,none⟩=some (.string (txt d)):=by rw [cell_of_row w pb 0 _ 337 (0,0) hst];rfl
 have hs:(txt d).size=d.length:=qaa d;have hex:=qae d a (a+3);have Hex:Hid ((txt d).extract a (a+3)=txt (pkKey3 d a)):=by
  show _=_;rw [hex];unfold pkKey3;rw [show a+3 - a=3 by omega]
 generalize txt d=t at *
 have h1:¬((t.size:Nat):Int)<(a:Int)+3:=by omega
 have h2:a+3≤t.size:=by omega
 have h4:t.size≤4000:=by omega
 clear hst hex hs;go_enter Tryz.func307,Tryz.ntmps307
 go_wp2;go_ret2
 refine ⟨?_,rfl⟩;rw [←Hex.out];rfl
theorem qjB (w:World) (pb a f:Nat) (d:List UInt8) (x y:Value) (hd:d.length≤4000) (hf:f<a) (ha:a≤d.length) (hst:w.heap[pb]? = some (.cells #[.string (txt d),x,y] 337 (0,0))) :
 Calls Tryz.prog 309 #[.pointer (some ⟨pb,0,none⟩),.int .i64 (f:Nat),.int .i64 (a:Nat)] w fun e w'=>∃ k q:Nat,e=.returned (.int .i64 (k:Nat))∧w'=w.drewN q∧k≤34∧a+k≤d.length∧(∀ j,j<k→d.getD (f+j) 0=d.getD (a+j) 0)∧(k=34∨a+k=d.length∨d.getD (f+k) 0≠d.getD (a+k) 0):=by
 have x0:w.cell? ⟨pb,0,none⟩=some (.string (txt d)):=by rw [cell_of_row w pb 0 _ 337 (0,0) hst];rfl
 have hs:(txt d).size=d.length:=qaa d;have hgd:∀ k (h:k<(txt d).size),((txt d)[k]'h).toNat=(d.getD k 0).toNat:=fun k h=>by rw [qaR]
 generalize txt d=t at *
 have Hs:=hidI hs;have Hgd:=hidI hgd;clear hst hgd hs;go_enter Tryz.func309,Tryz.ntmps309
 go_wp2
 go_loopw [7] (fun i wr=>∃ k q:Nat,i=.int .i64 (k:Nat)∧wr=w.drewN q∧k≤34∧a+k≤d.length∧Hid (∀ j,j<k→d.getD (f+j) 0=d.getD (a+j) 0)) (fun i _=>34 - (intOf i).toNat)
 case atStart=>exact ⟨0,0,rfl,rfl,by omega,by omega,fun j hj=>by omega⟩
 case round =>
  obtain ⟨k,q,rfl,rfl,hk,hak,Hk⟩:=hrel;have hts:=Hs.out;have x1:(w.drewN q).cell? ⟨pb,0,none⟩=some (.string t):=x0;by_cases h34:k=34
  ·have g1:decide ((k:Int)<34)=false:=by simp;omega
   have Hts:=hidI hts;clear hts;go_wp2
   go_quiet (fail)
   go_wp2;go_ret
   exact ⟨k,_,rfl,by simp only [World.drewN_drewN,World.drew_drewN];rfl,by omega,by omega,Hk.out,.inl h34⟩
  have g1:decide ((k:Int)<34)=true:=by simp;omega
  by_cases han:a+k=d.length
  ·have g2:decide ((a:Int)+(k:Int)<(t.size:Int))=false:=by simp;omega
   have Hts:=hidI hts;clear hts;go_wp2
   go_quiet (fail)
   go_wp2;go_ret
   exact ⟨k,_,rfl,by simp only [World.drewN_drewN,World.drew_drewN];rfl,by omega,by omega,Hk.out,.inr (.inl han)⟩
  obtain ⟨A,hA⟩:∃ A,A=a+k:=⟨_,rfl⟩;obtain ⟨F,hF⟩:∃ F,F=f+k:=⟨_,rfl⟩;have g2:decide ((A:Int)<(t.size:Int))=true:=by simp;omega
  have i1:F<t.size:=by omega
  have i2:A<t.size:=by omega
  have e1:=Hgd.out F i1;have e2:=Hgd.out A i2;have ht4:t.size≤4000:=by omega
  have w1:IntKind.i64.wrap ((a:Int)+(k:Int))=(A:Int):=by rw [IntKind.wrap_i64];omega
  have w2:IntKind.i64.wrap ((f:Int)+(k:Int))=(F:Int):=by rw [IntKind.wrap_i64];omega
  have v1:(a:Int)+(k:Int)=(A:Int):=by omega
  have v2:(f:Int)+(k:Int)=(F:Int):=by omega
  have hk34:k+1≤34∧a+(k+1)≤d.length:=by omega
  have HA:=hidI hA;have HF:=hidI hF;have Hts:=hidI hts;by_cases hc:d.getD F 0=d.getD A 0
  ·have Hk2:Hid (∀ j,j<k+1→d.getD (f+j) 0=d.getD (a+j) 0):=fun j hj=>by
    by_cases e:j=k
    ·subst e;rw [←HA.out,←HF.out];exact hc
    exact Hk.out j (by omega)
   rw [←hc] at e2
   generalize (d.getD F 0).toNat=u at *
   clear hts hc Hk hA hF;go_wp2
   go_quiet (fail)
   go_wp2;go_roundw
   case rel=>exact ⟨k+1,_,by go_num,by first | rfl | trivial | (simp only [World.drewN_drewN,World.drew_drewN];rfl),hk34.1,hk34.2,Hk2⟩
   case measure=>simp [intOf];omega
  have hne:(d.getD F 0).toNat≠(d.getD A 0).toNat:=fun h=>hc (UInt8.toNat_inj.1 h)
  have Hc:=hidI hc
  generalize (d.getD F 0).toNat=u at *
  generalize (d.getD A 0).toNat=v at *
  have g3:((u:Int)==(v:Int))=false:=by simp;omega
  clear hts hc hA hF;go_wp2
  go_quiet (fail)
  go_wp2;go_ret
  exact ⟨k,_,rfl,by simp only [World.drewN_drewN,World.drew_drewN];rfl,by omega,by omega,Hk.out,.inr (.inr (by rw [←HA.out,←HF.out];exact Hc.out))⟩
def topV:Option Nat→Int
 | some v=>((v:Nat):Int)
 | none => -1
theorem Tryz.keyed9:Maps.Keyed Tryz.prog 9:=Maps.string_keyed Tryz.underlying9
theorem qjI (w:World) (B pb mb bb m:Nat) (d s:List UInt8) (mp:List UInt8→Option Nat) (bf:Nat→Int) (hs:s.length≤4000) (h:PM w B pb mb bb d m mp bf) :
 Calls Tryz.prog 308 #[.pointer (some ⟨pb,0,none⟩),.string (txt s)] w fun e w'=>e=.returned (.int .i64 (topV (mp s)))∧w'=w:=by
 obtain ⟨D,hD,hMD⟩:=h.mo;have x1:w.cell? ⟨pb,1,none⟩=some (.map (some mb)):=by rw [cell_of_row w pb 1 _ 337 (0,0) h.st];rfl
 have hkey:keyOf Tryz.prog 9 (.string (txt s))=some (.string s):=WideMaps.keyOf_string_mk Tryz.underlying9 (by rw [qaa];unfold maxLen;omega);have hz:(zeroValue 3).run Tryz.prog w=.ok (.int .i64 0) w:=by
  obtain ⟨i0,hi,hz0,_⟩:=info_parts Tryz.info3;simp [zeroValue,typeInfo,hi,hz0]
 have HMD:=hidI hMD;clear h hMD
 generalize txt s=t at *
 go_enter Tryz.func308,Tryz.ntmps308
 cases hm:mp s with
 | none =>
   have hno:=HMD.out.no s hm;go_wp2_with (at_lookup;refine wpList_lookup_own_ok_int _ rfl _ _ 335 rfl 9 3 .i64 Tryz.keyed9 Tryz.underlying335 Tryz.underlying3 hz mb m D rfl hD _ (.string s) rfl hkey ?_;intro c hat hwc);go_ret
   exact ⟨rfl,rfl⟩
 | some v =>
   have hyes:=HMD.out.yes s v hm;have hy1:=hyes.1;have Hy2:=hidI hyes.2;clear hyes;go_wp2_with (at_lookup;refine wpList_lookup_own_ok_int _ rfl _ _ 335 rfl 9 3 .i64 Tryz.keyed9 Tryz.underlying335 Tryz.underlying3 hz mb m D rfl hD _ (.string s) rfl hkey ?_;intro c hat hwc);go_ret
   rw [Hy2.out] at hat
   injection hat with h1
   injection h1 with h2 h3
   exact ⟨qax (by rw [←h3];rfl),rfl⟩
structure PI (d:List UInt8) (mp:List UInt8→Option Nat) (bf:Nat→Int) (a:Nat):Prop where
 lt:∀ s v,mp s=some v→v<a∧v+3≤d.length∧pkKey3 d v=s
 ch:∀ v,v<a→v+3≤d.length→bf v = -1∨∃ u:Nat,bf v=(u:Int)∧u<v∧pkKey3 d u=pkKey3 d v
 all:∀ v,v<a→v+3≤d.length→∃ u,mp (pkKey3 d v)=some u
theorem qlz (d:List UInt8) (u a j:Nat) (h:pkKey3 d u=pkKey3 d a) (hj:j<3) (hu:u+3≤d.length) (ha:a+3≤d.length):d.getD (u+j) 0=d.getD (a+j) 0:=by
 have h1:=congrArg (fun l=>l.getD j 0) h;unfold pkKey3 at h1;simp only [List.getD_eq_getElem?_getD,List.getElem?_take_of_lt hj,List.getElem?_drop] at h1;simpa [List.getD_eq_getElem?_getD] using h1
theorem qeK (d:List UInt8) (a:Nat):(pkKey3 d a).length≤3:=by unfold pkKey3;rw [List.length_take];omega
structure Good (d:List UInt8) (a len bk:Nat):Prop where
 lo:3≤len
 hi:len≤34
 b1:1≤bk
 b2:bk≤a
 fit:a+len≤d.length
 same:∀ j,j<len→d.getD (a+j) 0=d.getD (a+j - bk) 0
theorem qh5 (w:World) (B pb mb bb m a:Nat) (d:List UInt8) (mp:List UInt8→Option Nat) (bf:Nat→Int) (hd:d.length≤4000) (ha:a≤d.length) (h3:d.length<a+3) (h:PM w B pb mb bb d m mp bf) :
 Calls Tryz.prog 277 #[.pointer (some ⟨pb,0,none⟩),.int .i64 (a:Nat)] w fun e w'=>e=.returned (.tuple #[.int .i64 0,.int .i64 0])∧w'=w:=by
 have Hst:=hidI (qgM w pb a d _ _ hd (by omega) h3 h.st);clear h;go_enter Tryz.func277,Tryz.ntmps277
 go_wp2_with (go_at_call 307;refine Hst.out.mono ?_;rintro e w' ⟨rfl,rfl⟩);go_ret2
 exact ⟨rfl,rfl⟩
def LongP (d:List UInt8) (a:Nat) (mp:List UInt8→Option Nat) (w:World) (e:Ending) (w':World):Prop:=
 ∃ len bk q:Nat,e=.returned (.tuple #[.int .i64 (len:Nat),.int .i64 (bk:Nat)])∧w'=w.drewN q∧((len=0∧bk=0)∨Good d a len bk)∧(∀ v,mp (pkKey3 d a)=some v→(∀ j,a+j<d.length→d.getD (v+j) 0=d.getD (a+j) 0)→min 34 (d.length - a)≤len)
theorem qga (w:World) (B pb mb bb m a:Nat) (d:List UInt8) (mp:List UInt8→Option Nat) (bf:Nat→Int) (hd:d.length≤4000) (h3:a+3≤d.length) (h:PM w B pb mb bb d m mp bf) (hpi:PI d mp bf a) :
 Calls Tryz.prog 277 #[.pointer (some ⟨pb,0,none⟩),.int .i64 (a:Nat)] w fun e w'=>LongP d a mp w e w':=by
 have Hst:=hidI (qfr w pb a d _ _ hd h3 h.st);have Htop:=hidI (qjI w B pb mb bb m d (pkKey3 d a) mp bf (by have:=qeK d a;omega) h);have Hag:Hid (∀ f q,f<a→Calls Tryz.prog 309 #[.pointer (some ⟨pb,0,none⟩),.int .i64 (f:Nat),.int .i64 (a:Nat)] (w.drewN q) _):=fun f q hf=>qjB (w.drewN q) pb a f d _ _ hd hf (by omega) h.st
 have x2:∀ q,(w.drewN q).cell? ⟨pb,2,none⟩=some (.slice (some ⟨bb,0,none⟩) d.length d.length):=fun q=>by
  show w.cell? _=_;rw [cell_of_row w pb 2 _ 337 (0,0) h.st];rfl
 have Hbo:=hidI h.bo;have Hpi:=hidI hpi;have hmax:max (0:Int) ((a:Int) - 4096)=0:=by omega
 clear h hpi;obtain ⟨tp,htp⟩:∃ tp:Int,tp=topV (mp (pkKey3 d a)):=⟨_,rfl⟩;rw [←htp] at Htop;have Htp:Hid (tp = -1∨∃ u:Nat,tp=(u:Int)∧u<a∧pkKey3 d u=pkKey3 d a):=by
  cases hm:mp (pkKey3 d a) with
  | none=>rw [hm] at htp;exact .inl htp
  | some v=>rw [hm] at htp;have:=Hpi.out.lt _ _ hm;exact .inr ⟨v,htp,this.1,this.2.2⟩
 have Hv:Hid (∀ v,mp (pkKey3 d a)=some v→tp=(v:Int)):=fun v hm=>by rw [hm] at htp;exact htp
 clear htp;go_enter Tryz.func277,Tryz.ntmps277
 go_wp2_with (first | (go_at_call 307;refine Hst.out.mono ?_;rintro e w' ⟨rfl,hw⟩;have hw':=hw.symm;subst hw') | (go_at_call 308;refine Htop.out.mono ?_;rintro e w' ⟨rfl,hw⟩;have hw':=hw.symm;subst hw'))
 go_loopw [8,4,5] (fun f l b wr=>∃ fr:Int,∃ len bk q:Nat,f=.int .i64 fr∧l=.int .i64 (len:Nat)∧b=.int .i64 (bk:Nat)∧wr=w.drewN q∧len≤34 ∧ -1≤fr∧fr≤4000∧Hid (fr = -1∨∃ u:Nat,fr=(u:Int)∧u<a∧pkKey3 d u=pkKey3 d a)∧Hid ((len=0∧bk=0)∨Good d a len bk)∧Hid ((fr=tp∧len=0)∨(∀ v,mp (pkKey3 d a)=some v→(∀ j,a+j<d.length→d.getD (v+j) 0=d.getD (a+j) 0)→min 34 (d.length - a)≤len))) (fun f _ _ _=>(intOf f+1).toNat)
 case atStart=>exact ⟨tp,0,0,0,rfl,rfl,rfl,rfl,by omega,by rcases Htp.out with h | ⟨u,h,_⟩<;>omega,by rcases Htp.out with h | ⟨u,h,h2,_⟩<;>omega,Htp,.inl ⟨rfl,rfl⟩,.inl ⟨rfl,rfl⟩⟩
 case round =>
  clear Hst Htop;obtain ⟨fr,len,bk,q,rfl,rfl,rfl,rfl,hl34,hf1,hf2,Hfr,Hgd,Hlow⟩:=hrel;by_cases hfr:fr = -1
  ·subst hfr;have Hend:Hid (∀ v,mp (pkKey3 d a)=some v→(∀ j,a+j<d.length→d.getD (v+j) 0=d.getD (a+j) 0)→min 34 (d.length - a)≤len):=fun v hv hall=>by
    rcases Hlow.out with ⟨h1,h2⟩ | h1
    ·have:=Hv.out v hv;omega
    exact h1 v hv hall
   go_wp2;go_ret2
   exact ⟨len,bk,q,rfl,rfl,Hgd.out,Hend.out⟩
  obtain ⟨u,hu,hua,hku⟩:∃ u:Nat,fr=(u:Int)∧u<a∧pkKey3 d u=pkKey3 d a:=by
   rcases Hfr.out with h | h
   ·exact absurd h hfr
   exact h
  have Hlow2:Hid (((u:Int)=tp∧len=0)∨(∀ v,mp (pkKey3 d a)=some v→(∀ j,a+j<d.length→d.getD (v+j) 0=d.getD (a+j) 0)→min 34 (d.length - a)≤len)):=by
   rw [←hu];exact Hlow
  subst hu;have Hku:=hidI hku;have hch:=Hpi.out.ch u hua (by omega);have y2:=x2 q;have hun:u<d.length:=by omega
  clear Hlow Hfr hku hf1 hf2 hfr;go_wp2_with fail;refine (Hag.out u q hua).mono ?_;rintro e w2 ⟨k,q2,rfl,rfl,hk34,hak,hsame,hstop⟩;have hk3:3≤k:=by
   by_cases e0:3≤k
   ·exact e0
   exfalso
   rcases hstop with h | h | h
   ·omega
   ·omega
   exact h (qlz d u a k Hku.out (by omega) (by omega) h3)
  have Hgood:Hid (Good d a k (a - u)):=⟨hk3,hk34,by omega,by omega,hak,fun j hj=>by
   rw [show a+j - (a - u)=u+j by omega];exact (hsame j hj).symm⟩
  have Hkmax:Hid (∀ v,mp (pkKey3 d a)=some v→(u:Int)=tp→(∀ j,a+j<d.length→d.getD (v+j) 0=d.getD (a+j) 0)→min 34 (d.length - a)≤k):=fun v hv htp hall=>by
   have:=Hv.out v hv
   have hvu:v=u:=by omega
   subst hvu;rcases hstop with h | h | h
   ·omega
   ·omega
   by_cases e:a+k<d.length
   ·exact absurd (hall k e) h
   omega
  have hsub:(a:Int) - (u:Int)=((a - u:Nat):Int):=by omega
  have z0:∀ q',(w.drewN q').cell? ⟨bb,u,none⟩=some (.int .i64 (bf u)):=fun q'=>Hbo.out.cell (i:=u) hun
  have x2b:=x2 (q+q2);have z0b:=z0 (q+q2);have Hnext:Hid (bf u = -1∨∃ u2:Nat,bf u=(u2:Int)∧u2<a∧pkKey3 d u2=pkKey3 d a):=by
   rcases hch with h | ⟨u2,h1,h2,h4⟩
   ·exact .inl h
   exact .inr ⟨u2,h1,by omega,h4.trans Hku.out⟩
  have hb1:-1≤bf u∧bf u<u:=by rcases hch with h | ⟨u2,h1,h2,_⟩<;>omega
  have hun':(u:Int)<(d.length:Int):=by omega
  rw [World.drewN_drewN]
  generalize bf u=fn at *
  clear hsame hstop hch z0 x2 y2;by_cases hgt:len<k
  ·have hgt':decide ((len:Int)<(k:Int))=true:=by simp;omega
   have Hlow3:Hid (∀ v,mp (pkKey3 d a)=some v→(∀ j,a+j<d.length→d.getD (v+j) 0=d.getD (a+j) 0)→min 34 (d.length - a)≤k):=fun v hv hall=>by
    rcases Hlow2.out with ⟨h1,h2⟩ | h1
    ·exact Hkmax.out v hv h1 hall
    have:=h1 v hv hall;omega
   clear Hlow2 Hkmax Hgd;by_cases h34:k=34
   ·subst h34;go_wp2;go_ret2
    exact ⟨34,a - u,q+q2,rfl,rfl,.inr Hgood.out,Hlow3.out⟩
   have h34':((k:Int)==34)=false:=by simp;omega
   go_wp2;go_roundw
   case rel=>exact ⟨fn,k,a - u,q+q2,rfl,rfl,rfl,by first | rfl | trivial,by omega,by omega,by omega,Hnext,.inr Hgood.out,.inr Hlow3.out⟩
   case measure=>simp [intOf];omega
  have hgt':decide ((len:Int)<(k:Int))=false:=by simp;omega
  have Hlow3:Hid (∀ v,mp (pkKey3 d a)=some v→(∀ j,a+j<d.length→d.getD (v+j) 0=d.getD (a+j) 0)→min 34 (d.length - a)≤len):=fun v hv hall=>by
   rcases Hlow2.out with ⟨h1,h2⟩ | h1
   ·omega
   exact h1 v hv hall
  clear Hlow2 Hkmax;by_cases h34:len=34
  ·subst h34;go_wp2;go_ret2
   exact ⟨34,bk,q+q2,rfl,rfl,Hgd.out,Hlow3.out⟩
  have h34':((len:Int)==34)=false:=by simp;omega
  go_wp2;go_roundw
  case rel=>exact ⟨fn,len,bk,q+q2,rfl,rfl,rfl,by first | rfl | trivial,by omega,by omega,by omega,Hnext,Hgd,.inr Hlow3.out⟩
  case measure=>simp [intOf];omega
structure FrS (B:Nat) (w w':World):Prop where
 bel:Below B w w'
 steps:Keeps 282 w w'
theorem FrS.refl (B:Nat) (w:World):FrS B w w:=⟨Below.refl _ _,Keeps.refl _ _⟩
theorem wf_i64 (a:Nat) (h:a≤4000):(Lit.int .i64 (a:Nat)).wf=true:=by
 have h1:IntKind.i64.min = -9223372036854775808:=by decide
 have h2:IntKind.i64.max=9223372036854775807:=by decide
 simp only [Lit.wf,h1,h2,Bool.and_eq_true,decide_eq_true_eq];omega
theorem PM.drewN {w:World} {B pb mb bb m:Nat} {d:List UInt8} {mp:List UInt8→Option Nat} {bf:Nat→Int} (h:PM w B pb mb bb d m mp bf) (q:Nat):PM (w.drewN q) B pb mb bb d m mp bf:=⟨h.hp,h.hm,h.hb,h.st,h.mo,h.bo⟩
theorem PM.drew {w:World} {B pb mb bb m:Nat} {d:List UInt8} {mp:List UInt8→Option Nat} {bf:Nat→Int} (h:PM w B pb mb bb d m mp bf):PM w.drew B pb mb bb d m mp bf:=⟨h.hp,h.hm,h.hb,h.st,h.mo,h.bo⟩
theorem PM.apart {w:World} {B pb mb bb m:Nat} {d:List UInt8} {mp:List UInt8→Option Nat} {bf:Nat→Int} (h:PM w B pb mb bb d m mp bf):pb≠bb∧mb≠bb∧pb≠mb:=by
 obtain ⟨c,hbo,_⟩:=h.bo;obtain ⟨D,⟨es,ck,hmo,_⟩,_⟩:=h.mo;have hst:=h.st;refine ⟨?_,?_,?_⟩
 ·intro e;subst e;rw [hst] at hbo;simp at hbo
 ·intro e;subst e;rw [hmo] at hbo;simp at hbo
 intro e;subst e;rw [hst] at hmo;simp at hmo
theorem PM.before {w:World} {B pb mb bb m:Nat} {d:List UInt8} {mp:List UInt8→Option Nat} {bf:Nat→Int} (h:PM w B pb mb bb d m mp bf) (a:Nat) (x:Int):PM (w.setCell ⟨bb,a,none⟩ (.int .i64 x)) B pb mb bb d m mp (fun j=>if j=a then x else bf j):=by
 obtain ⟨h1,h2,h3⟩:=h.apart;obtain ⟨D,hD,hM⟩:=h.mo;refine ⟨h.hp,h.hm,h.hb,(Below.heap_setCell w ⟨bb,a,none⟩ _ pb h1).trans h.st,⟨D,hD.setCell h2 _,hM⟩,?_⟩;refine (h.bo.set a (.int .i64 x)).congr fun j _ => ?_
 split<;>rfl
theorem PM.kept {w w':World} {B pb mb bb m:Nat} {d:List UInt8} {mp:List UInt8→Option Nat} {bf:Nat→Int} (h:PM w B pb mb bb d m mp bf) {row:Option Nat} (hg:w.grownBy w' row) (h1:row≠some pb) (h2:row≠some mb) (h3:row≠some bb):PM w' B pb mb bb d m mp bf:=by
 obtain ⟨D,hD,hM⟩:=h.mo;exact ⟨h.hp,h.hm,h.hb,(hg.block pb (lt_of_heap h.st) (fun e=>h1 e.symm)).trans h.st,⟨D,hD.kept hg (fun e=>h2 e.symm),hM⟩,h.bo.of_block (hg.block bb h.bo.lt (fun e=>h3 e.symm))⟩
theorem qnr (w:World) (B pb mb bb m a:Nat) (d:List UInt8) (mp:List UInt8→Option Nat) (bf:Nat→Int) (hd:d.length≤4000) (ha:a≤d.length) (h3:d.length<a+3) (h:PM w B pb mb bb d m mp bf) :
 Calls Tryz.prog 278 #[.pointer (some ⟨pb,0,none⟩),.int .i64 (a:Nat)] w fun e w'=>e=.returned (.tuple #[])∧w'=w:=by
 have Hst:=hidI (qgM w pb a d _ _ hd (by omega) h3 h.st);clear h;go_enter Tryz.func278,Tryz.ntmps278
 go_wp2_with (go_at_call 307;refine Hst.out.mono ?_;rintro e w' ⟨rfl,rfl⟩)
 ((try simp only [Exit.inBlock,Exit.then]);refine bodyPost_ret (results_none rfl _ _ _) rfl ?_)
 exact ⟨rfl,rfl⟩
theorem qjr (w:World) (B pb mb bb m a:Nat) (d:List UInt8) (mp:List UInt8→Option Nat) (bf:Nat→Int) (hd:d.length≤4000) (h3:a+3≤d.length) (hm:m≤1000000) (h:PM w B pb mb bb d m mp bf) :
 Calls Tryz.prog 278 #[.pointer (some ⟨pb,0,none⟩),.int .i64 (a:Nat)] w fun e w'=>e=.returned (.tuple #[])∧PM w' B pb mb bb d (m+1) (fun s=>if s=pkKey3 d a then some a else mp s) (fun j=>if j=a then topV (mp (pkKey3 d a)) else bf j)∧FrS B w w':=by
 have Hst:=hidI (qfr w pb a d _ _ hd h3 h.st);have Htop:Hid (∀ V,PM V B pb mb bb d m mp bf→Calls Tryz.prog 308 #[.pointer (some ⟨pb,0,none⟩),.string (txt (pkKey3 d a))] V _):=fun V hV=>qjI V B pb mb bb m d (pkKey3 d a) mp bf (by have:=qeK d a;omega) hV
 have x1:w.cell? ⟨pb,1,none⟩=some (.map (some mb)):=by rw [cell_of_row w pb 1 _ 337 (0,0) h.st];rfl
 have x2:w.cell? ⟨pb,2,none⟩=some (.slice (some ⟨bb,0,none⟩) d.length d.length):=by rw [cell_of_row w pb 2 _ 337 (0,0) h.st];rfl
 have y0:=h.bo.cell (i:=a) (by omega);have yf:=h.bo.frozen a;have han:a<d.length:=by omega
 have Hpm:=hidI h;clear h;obtain ⟨tv,htv⟩:∃ tv,tv=topV (mp (pkKey3 d a)):=⟨_,rfl⟩;simp only [←htv] at Htop ⊢;clear htv;go_enter Tryz.func278,Tryz.ntmps278
 go_wp2_with (go_at_call 307;refine Hst.out.mono ?_;rintro e w' ⟨rfl,hw⟩;have hw':=hw.symm;subst hw');go_region_with (go_at_call 308;refine (Htop.out _ Hpm.out.drew).mono ?_;rintro e w' ⟨rfl,hw⟩;have hw':=hw.symm;subst hw')
 rotate_left
 rotate_left
 all_goals
  have hpm1:=(Hpm.out.before a tv).drew;have hap:=hpm1.apart;have hfr1:FrS B w (w.setCell ⟨bb,a,none⟩ (.int .i64 tv)).drew:=by
   obtain ⟨c,hbo,_⟩:=Hpm.out.bo;exact ⟨((Below.refl B w).setCell (p:=⟨bb,a,none⟩) Hpm.out.hb _).drew,((Keeps.refl 282 w).set hbo (by decide)).drew⟩
  clear x1 x2 y0 yf Hst Htop Hpm
  generalize (w.setCell ⟨bb,a,none⟩ (.int .i64 tv)).drew=W at *
  have x1:W.cell? ⟨pb,1,none⟩=some (.map (some mb)):=by rw [cell_of_row W pb 1 _ 337 (0,0) hpm1.st];rfl
  obtain ⟨D,hD,hMD⟩:=hpm1.mo;have hk3l:=qeK d a;have hkey:keyOf Tryz.prog 9 (.string (txt (pkKey3 d a)))=some (.string (pkKey3 d a)):=WideMaps.keyOf_string_mk Tryz.underlying9 (by rw [qaa];unfold maxLen;omega);have hval:plainElem (H:=Unit) Tryz.prog 3 (.int .i64 (a:Nat))=some (.lit (.int .i64 (a:Nat)),[]):=plainElem_int Tryz.underlying3 (wf_i64 a (by omega));have Hpm1:=hidI hpm1;have Hfr1:=hidI hfr1;have Hap:=hidI hap;have HMD:=hidI (hMD.put (pkKey3 d a) a);clear hpm1 hfr1 hMD hap
  generalize txt (pkKey3 d a)=tk at *
  go_wp2_with (at_mapUpdate;refine wpList_mapUpdate_own _ rfl _ _ _ 335 rfl 9 3 Tryz.keyed9 Tryz.underlying335 (plainElem Tryz.prog 3) mb m D rfl hD (by unfold maxLen;omega) _ _ (.string (pkKey3 d a)) rfl rfl hkey (.lit (.int .i64 (a:Nat))) [] hval ?_;intro w2 hown2 hgrow2);go_end0
  refine ⟨rfl,⟨Hpm1.out.hp,Hpm1.out.hm,Hpm1.out.hb,(hgrow2.block pb (lt_of_heap Hpm1.out.st) (by simp;exact Hap.out.2.2)).trans Hpm1.out.st,⟨_,hown2,HMD.out⟩,Hpm1.out.bo.of_block (hgrow2.block bb Hpm1.out.bo.lt (by simp;exact fun e=>Hap.out.2.1 e.symm))⟩,?_⟩;refine ⟨Hfr1.out.bel.trans ((Below.refl B W).grown hgrow2 ?_ (fun k hk=>by simp at hk;subst hk;exact Hpm1.out.hm)),Hfr1.out.steps.trans fun k x f e=>hgrow2.block k (lt_of_heap e) ?_⟩
  ·exact Nat.le_trans Hpm1.out.hp (Nat.le_of_lt (lt_of_heap Hpm1.out.st))
  intro hk;simp at hk;subst hk;obtain ⟨D2,⟨es,ck,hmo,_⟩,_⟩:=Hpm1.out.mo;rw [hmo] at e;simp at e
theorem PI.add {d:List UInt8} {mp:List UInt8→Option Nat} {bf:Nat→Int} {a:Nat} (h:PI d mp bf a) (h3:a+3≤d.length):PI d (fun s=>if s=pkKey3 d a then some a else mp s) (fun j=>if j=a then topV (mp (pkKey3 d a)) else bf j) (a+1):=by
 refine ⟨fun s v hv => ?_,fun v h1 h2 => ?_,fun v h1 h2 => ?_⟩
 ·by_cases e:s=pkKey3 d a
  ·rw [if_pos e] at hv;cases hv;exact ⟨by omega,h3,e.symm⟩
  rw [if_neg e] at hv;have:=h.lt s v hv;exact ⟨by omega,this.2⟩
 ·by_cases e:v=a
  ·subst e;simp only [if_pos];cases hm:mp (pkKey3 d v) with
   | none=>exact .inl rfl
   | some u=>have:=h.lt _ _ hm;exact .inr ⟨u,rfl,this.1,this.2.2⟩
  simp only [if_neg e];exact h.ch v (by omega) h2
 by_cases e:pkKey3 d v=pkKey3 d a
 ·exact ⟨a,if_pos e⟩
 simp only [if_neg e];exact h.all v (by
  by_cases e2:v=a
  ·subst e2;exact absurd rfl e
  omega) h2
theorem PI.skip {d:List UInt8} {mp:List UInt8→Option Nat} {bf:Nat→Int} {a:Nat} (h:PI d mp bf a) (h3:d.length<a+3):PI d mp bf (a+1):=
 ⟨fun s v hv=>by have:=h.lt s v hv;exact ⟨by omega,this.2⟩,fun v h1 h2=>h.ch v (by omega) h2,fun v h1 h2=>h.all v (by omega) h2⟩
theorem PI.start (d:List UInt8) (bf:Nat→Int):PI d (fun _=>none) bf 0:=⟨fun s v hv=>(by cases hv),fun v h1=>(by omega),fun v h1=>(by omega)⟩
theorem qic (w:World) (d:List UInt8) (h0:0<d.length) (hd:d.length≤4000) :
 Calls Tryz.prog 276 #[.string (txt d)] w fun e w'=>∃ pb mb bb,e=.returned (.pointer (some ⟨pb,0,none⟩))∧PM w' w.heap.size pb mb bb d 0 (fun _=>none) (fun _=>0)∧FrS w.heap.size w w':=by
 obtain ⟨n,hn⟩:∃ n,n=d.length:=⟨_,rfl⟩;obtain ⟨M,hM⟩:∃ M,M=madeCells #[Value.int .i64 0] n:=⟨_,rfl⟩;have hmk:∀ W:World,(Instr.makeSlice 22 (.int .i64 (n:Nat)) (.int .i64 (n:Nat))).run Tryz.prog W=.ok (.slice (some ⟨W.heap.size,0,none⟩) n n) (W.alloc (.cells M 3)):=fun W=>by
  rw [hM];exact run_make_row' (P:=Tryz.prog) 22 3 (.int .i64 0) 8 Tryz.underlying22 Tryz.info3 rfl .i64 .i64 n (by omega) (by omega) W
 have hs:(txt d).size=n:=by rw [qaa,hn]
 have HM:=hidI hM;have Hn:=hidI hn;have Ht:Hid (txt d=txt d):=rfl
 generalize htd:txt d=t at *
 have Htd:=hidI htd;clear hM hn htd;have hmm:=@run_makeMap Tryz.prog;go_enter Tryz.func276,Tryz.ntmps276
 go_wp2;go_ret
 obtain ⟨o3,ho3⟩:∃ o,o=Obj.cells #[.string t,.map (some w.heap.size),.slice (some ⟨w.heap.size+1,0,none⟩) n n] 337:=⟨_,rfl⟩;have h3:(((w.alloc (.map #[] 0)).alloc (.cells M 3)).alloc o3).heap[w.heap.size+1+1]? = some o3:=by
  have:=heap_alloc_new ((w.alloc (.map #[] 0)).alloc (.cells M 3)) o3
  simp only [World.size_alloc] at this;exact this
 have h1:(((w.alloc (.map #[] 0)).alloc (.cells M 3)).alloc o3).ownsMap (H:=Unit) Tryz.prog 9 (plainElem Tryz.prog 3) w.heap.size 0 (.map []):=((World.ownsMap_made w _ _ _).alloc _).alloc _;have h2:(((w.alloc (.map #[] 0)).alloc (.cells M 3)).alloc o3).rowIs (w.heap.size+1) 3 n (fun _=>.int .i64 0):=by
  have:=World.rowIs_made (w.alloc (.map #[] 0)) (.int .i64 0) n 3
  rw [←HM.out] at this;simp only [World.size_alloc] at this;exact this.alloc _
 rw [←ho3];refine ⟨w.heap.size+1+1,rfl,⟨w.heap.size,w.heap.size+1,⟨by omega,by omega,by omega,?_,⟨_,h1,MD.nil⟩,?_⟩⟩,?_⟩
 ·rw [h3,ho3,←Hn.out,Htd.out]
 ·rw [←Hn.out];exact h2
 exact ⟨(((Below.refl _ w).alloc (Nat.le_refl _) _).alloc (by simp) _).alloc (by simp;omega) _,(((Keeps.refl 282 w).alloc _).alloc _).alloc _⟩
end Go.Proofs.YtodmdkhdbfbfgaaGreatDoor.S1
namespace Go.Proofs.YtodmdkhdbfbfgaaGreatDoor.S1.Pk
open Go
def sumL {α:Type} (f:α→Nat):List α→Nat
 | []=>0
 | x :: l=>f x+sumL f l
theorem qay {α:Type} (f:α→Nat) (a b:List α):sumL f (a++b)=sumL f a+sumL f b:=by
 induction a with
 | nil=>simp [sumL]
 | cons x a ih=>simp [sumL,ih];omega
theorem qfR {α:Type} (f:α→Nat) {a b:List α} (h:List.Perm a b):sumL f a=sumL f b:=by
 induction h with
 | nil=>rfl
 | cons x _ ih=>simp [sumL,ih]
 | swap x y l=>simp [sumL];omega
 | trans _ _ ih1 ih2=>exact ih1.trans ih2
theorem qbu {α:Type} {f g:α→Nat} {l:List α} (h:∀ x∈l,f x=g x):sumL f l=sumL g l:=by
 induction l with
 | nil=>rfl
 | cons x l ih=>simp only [sumL];rw [h x (by simp),ih (fun y hy=>h y (by simp [hy]))]
theorem qm9 {α:Type} {f g:α→Nat} {l:List α} (h:∀ x∈l,f x≤g x):sumL f l≤sumL g l:=by
 induction l with
 | nil=>exact Nat.le_refl _
 | cons x l ih=>simp only [sumL];have:=h x (by simp);have:=ih (fun y hy=>h y (by simp [hy]));omega
theorem qeF {α:Type} (f:α→Nat) (k:Nat) (l:List α):sumL (fun x=>k*f x) l=k*sumL f l:=by
 induction l with
 | nil=>simp [sumL]
 | cons x l ih=>simp only [sumL];rw [ih,Nat.mul_add]
def Fb:Nat→Nat
 | 0=>1
 | 1=>2
 | n+2=>Fb (n+1)+Fb n
theorem qgv (d:Nat):Fb (d+1)=Fb d+Fb (d - 1):=by
 cases d with
 | zero=>rfl
 | succ d=>rfl
theorem qgo (d:Nat):Fb d≤Fb (d+1):=by rw [qgv];omega
theorem qjR {a b:Nat} (h:a≤b):Fb a≤Fb b:=by
 induction b with
 | zero=>rw [show a=0 by omega];exact Nat.le_refl _
 | succ b ih =>
   by_cases e:a=b+1
   ·rw [e];exact Nat.le_refl _
   exact Nat.le_trans (ih (by omega)) (qgo b)
theorem qnx:Fb 13=610:=by decide
structure JI (K:Nat) (es:List Ent) (G:Nat→List Nat) (D:Nat→Nat) (ln:Nat→Nat) (S:List Nat) (W:Nat):Prop where
 sym:List.Perm ((es.map fun e=>G e.b).flatten) S
 len:∀ e∈es,∀ i∈G e.b,ln i+1≤(G e.b).length
 kr:∀ e∈es,sumL (fun i=>2^(K - ln i)) (G e.b)=2^K
 dep:∀ e∈es,∀ i∈G e.b,ln i≤D e.b
 fib:∀ e∈es,Fb (D e.b)≤e.wt
 fib2:∀ e∈es,∀ e'∈es,Fb (D e.b - 1)≤e'.wt
 sum:sumL (fun e=>e.wt) es=W
 zero:∀ i,i∉S→ln i=0
theorem JI.perm {K:Nat} {es es':List Ent} {G:Nat→List Nat} {D ln:Nat→Nat} {S:List Nat} {W:Nat} (h:JI K es G D ln S W) (p:List.Perm es' es):JI K es' G D ln S W:=
 ⟨((p.map _).flatten).trans h.sym,fun e he=>h.len e (p.mem_iff.1 he),fun e he=>h.kr e (p.mem_iff.1 he),fun e he=>h.dep e (p.mem_iff.1 he),fun e he=>h.fib e (p.mem_iff.1 he),fun e he e' he'=>h.fib2 e (p.mem_iff.1 he) e' (p.mem_iff.1 he'),(qfR _ p).trans h.sum,h.zero⟩
theorem glen {K:Nat} {es:List Ent} {G:Nat→List Nat} {D ln:Nat→Nat} {S:List Nat} {W:Nat} (h:JI K es G D ln S W) {e:Ent} (he:e∈es):(G e.b).length≤S.length:=by
 rw [←h.sym.length_eq];clear h
 induction es with
 | nil=>simp at he
 | cons x es ih =>
   simp only [List.map_cons,List.flatten_cons,List.length_append];rcases List.mem_cons.1 he with rfl | he
   ·omega
   have:=ih he;omega
theorem JI.start (K:Nat) (G:Nat→List Nat):JI K [] G (fun _=>0) (fun _=>0) [] 0:=
 ⟨by simp,by simp,by simp,by simp,by simp,by simp,rfl,by simp⟩
theorem JI.one {K:Nat} {es:List Ent} {G:Nat→List Nat} {S:List Nat} {W:Nat} (h:JI K es G (fun _=>0) (fun _=>0) S W) (c:Ent) (i:Nat) (hw:0<c.wt) (hc:∀ e∈es,e.b≠c.b) :
 JI K (c :: es) (fun b=>if b=c.b then [i] else G b) (fun _=>0) (fun _=>0) (S++[i]) (W+c.wt):=by
 have hG:∀ e∈es,(fun b=>if b=c.b then [i] else G b) e.b=G e.b:=fun e he=>if_neg (hc e he)
 have hm:es.map (fun e=>(fun b=>if b=c.b then [i] else G b) e.b)=es.map fun e=>G e.b:=List.map_congr_left hG
 refine ⟨?_,?_,?_,fun _ _ _ _=>Nat.zero_le _,?_,?_,?_,fun _ _=>rfl⟩
 ·rw [List.map_cons,hm];simp only [if_pos,List.flatten_cons];exact (List.perm_append_comm).trans (h.sym.append_right _)
 ·intro e he j hj;rcases List.mem_cons.1 he with rfl | he
  ·simp
  simp only [hG e he] at hj ⊢;exact h.len e he j hj
 ·intro e he;rcases List.mem_cons.1 he with rfl | he
  ·simp [sumL]
  simp only [hG e he];exact h.kr e he
 ·intro e he;rcases List.mem_cons.1 he with rfl | he
  ·simp [Fb];omega
  exact h.fib e he
 ·intro e he e' he';rcases List.mem_cons.1 he' with rfl | k'
  ·simp [Fb];omega
  rcases List.mem_cons.1 he with rfl | k
  ·have:=h.fib e' k';simp [Fb] at this ⊢;omega
  exact h.fib2 e k e' k'
 simp only [sumL];rw [h.sum];omega
theorem qgR (K a:Nat) (h:a+1≤K):2*2^(K - (a+1))=2^(K - a):=by
 rw [←Nat.pow_succ'];congr 1;omega
theorem JI.join {K:Nat} {r:List Ent} {e1 e2:Ent} {G:Nat→List Nat} {D ln:Nat→Nat} {S:List Nat} {W:Nat} (h:JI K (e1 :: e2 :: r) G D ln S W) (hS:S.Nodup) (hK:S.length≤K) (h12:e1.wt≤e2.wt) (hr:∀ e∈r,e2.wt≤e.wt)
 (c:Ent) (hw:c.wt=e1.wt+e2.wt) (hc:∀ e∈r,e.b≠c.b) (ln':Nat→Nat) (hl1:∀ i,i∈G e1.b++G e2.b→ln' i=ln i+1) (hl2:∀ i,i∉G e1.b++G e2.b→ln' i=ln i) :
 JI K (c :: r) (fun b=>if b=c.b then G e1.b++G e2.b else G b) (fun b=>if b=c.b then max (D e1.b) (D e2.b)+1 else D b) ln' S W:=by
 have m1:e1∈e1 :: e2 :: r:=by simp
 have m2:e2∈e1 :: e2 :: r:=by simp
 have mr:∀ e∈r,e∈e1 :: e2 :: r:=fun e he=>by simp [he]
 have hsym:=h.sym;simp only [List.map_cons,List.flatten_cons] at hsym;have hnd:=hsym.symm.nodup hS;rw [←List.append_assoc] at hnd;have hdis:∀ i,i∈G e1.b++G e2.b→∀ e∈r,i∉G e.b:=by
  intro i hi e he hie;exact (List.nodup_append.1 hnd).2.2 i hi i (List.mem_flatten.2 ⟨G e.b,List.mem_map.2 ⟨e,he,rfl⟩,hie⟩) rfl
 have hln:∀ e∈r,∀ i∈G e.b,ln' i=ln i:=fun e he i hi=>hl2 i fun hm=>hdis i hm e he hi
 have hlen1:∀ i∈G e1.b,ln i+1≤K:=fun i hi=>by
  have a:=h.len e1 m1 i hi;have b:=glen h m1;omega
 have hlen2:∀ i∈G e2.b,ln i+1≤K:=fun i hi=>by
  have a:=h.len e2 m2 i hi;have b:=glen h m2;omega
 have hG:∀ e∈r,(if e.b=c.b then G e1.b++G e2.b else G e.b)=G e.b:=fun e he=>if_neg (hc e he)
 have hD:∀ e∈r,(if e.b=c.b then max (D e1.b) (D e2.b)+1 else D e.b)=D e.b:=fun e he=>if_neg (hc e he)
 have hf1:=h.fib e1 m1;have hf2:=h.fib e2 m2;have hf12:=h.fib2 e1 m1 e2 m2;have hf21:=h.fib2 e2 m2 e1 m1;have hFc:Fb (max (D e1.b) (D e2.b)+1)≤c.wt:=by
  rw [hw];rcases Nat.le_total (D e1.b) (D e2.b) with hle | hle
  ·rw [Nat.max_eq_right hle,qgv];omega
  rw [Nat.max_eq_left hle,qgv];omega
 have hFm:Fb (max (D e1.b) (D e2.b))≤e2.wt:=by
  rcases Nat.le_total (D e1.b) (D e2.b) with hle | hle
  ·rw [Nat.max_eq_right hle];exact hf2
  rw [Nat.max_eq_left hle];omega
 refine ⟨?_,?_,?_,?_,?_,?_,?_,?_⟩
 ·have hm:r.map (fun e=>if e.b=c.b then G e1.b++G e2.b else G e.b)=r.map fun e=>G e.b:=List.map_congr_left hG
  rw [List.map_cons,hm];simp only [if_pos,List.flatten_cons];rw [List.append_assoc];exact hsym
 ·intro e he i hi;rcases List.mem_cons.1 he with rfl | he
  ·simp only [if_pos] at hi ⊢;rw [hl1 i hi];rw [List.length_append];rcases List.mem_append.1 hi with hi | hi
   ·have:=h.len e1 m1 i hi
    have:0<(G e2.b).length:=by
     have hk:=h.kr e2 m2;cases hg:G e2.b with
     | nil=>rw [hg] at hk;simp only [sumL] at hk;have:=Nat.pow_pos (n:=K) (show 0<2 by omega);omega
     | cons x l=>simp
    omega
   have:=h.len e2 m2 i hi
   have:0<(G e1.b).length:=by
    have hk:=h.kr e1 m1;cases hg:G e1.b with
    | nil=>rw [hg] at hk;simp only [sumL] at hk;have:=Nat.pow_pos (n:=K) (show 0<2 by omega);omega
    | cons x l=>simp
   omega
  simp only [hG e he] at hi ⊢;rw [hln e he i hi];exact h.len e (mr e he) i hi
 ·intro e he;rcases List.mem_cons.1 he with rfl | he
  ·simp only [if_pos];rw [qay];have k1:2*sumL (fun i=>2^(K - ln' i)) (G e1.b)=2^K:=by
    rw [←qeF,←h.kr e1 m1];refine qbu fun i hi => ?_
    rw [hl1 i (List.mem_append.2 (.inl hi))];exact qgR K _ (hlen1 i hi)
   have k2:2*sumL (fun i=>2^(K - ln' i)) (G e2.b)=2^K:=by
    rw [←qeF,←h.kr e2 m2];refine qbu fun i hi => ?_
    rw [hl1 i (List.mem_append.2 (.inr hi))];exact qgR K _ (hlen2 i hi)
   omega
  simp only [hG e he];rw [←h.kr e (mr e he)];exact qbu fun i hi=>by rw [hln e he i hi]
 ·intro e he i hi;rcases List.mem_cons.1 he with rfl | he
  ·simp only [if_pos] at hi ⊢;rw [hl1 i hi];rcases List.mem_append.1 hi with hi | hi
   ·have:=h.dep e1 m1 i hi;omega
   have:=h.dep e2 m2 i hi;omega
  simp only [hG e he] at hi;simp only [hD e he];rw [hln e he i hi];exact h.dep e (mr e he) i hi
 ·intro e he;rcases List.mem_cons.1 he with rfl | he
  ·simp only [if_pos];exact hFc
  simp only [hD e he];exact h.fib e (mr e he)
 ·intro e he e' he';rcases List.mem_cons.1 he with rfl | k
  ·simp only [if_pos,Nat.add_sub_cancel];rcases List.mem_cons.1 he' with rfl | k'
   ·omega
   have:=hr e' k';omega
  simp only [hD e k];rcases List.mem_cons.1 he' with rfl | k'
  ·have:=h.fib2 e (mr e k) e1 m1;omega
  exact h.fib2 e (mr e k) e' (mr e' k')
 ·have:=h.sum
  simp only [sumL] at this ⊢;omega
 intro i hi;have h1:i∉G e1.b++G e2.b:=fun hm=>hi (hsym.mem_iff.1 (by rw [←List.append_assoc];exact List.mem_append.2 (.inl hm)))
 rw [hl2 i h1];exact h.zero i hi
end Go.Proofs.YtodmdkhdbfbfgaaGreatDoor.S1.Pk
