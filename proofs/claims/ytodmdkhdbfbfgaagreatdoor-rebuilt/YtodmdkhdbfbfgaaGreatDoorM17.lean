/- Lemmas. -/
import Derived.Laws.StructEq
import Derived.Laws.AppendOwnNone
import Derived.Sort.KeysCollected
import Derived.Test.YtodmdkhdbfbfgaaGreatDoorM16
set_option linter.unusedVariables false
set_option linter.unusedSimpArgs false
set_option maxRecDepth 100000
set_option maxHeartbeats 8000000
namespace Go.Proofs.YtodmdkhdbfbfgaaGreatDoor.S1
open Go.RowKit Pk
open Go.Nt (Fp lookF hasL scanF nxt dist Free nxt_free nxt_here qeM)
theorem qiN (w:World) (lo hi cb lb:Nat) (L:Loc) (v0:Lv) (kv qv:Option Nat) (nk nq:Nat) (m:M) (K Q:Nat→Bool) (b p:Nat) (S:Nat→Nat→Bool) (hS:S=hasL (scanF (pgs m) m.np m.nb)) (h:LogM w lo hi cb lb L v0 kv qv nk nq m K Q b p) (htk:v0.tk=none) (hlife:m.life≠0) (hfree:Free (S (badN m))) :
 Calls Tryz.prog 127 #[.pointer (some ⟨lb,0,none⟩)] w fun e w'=>qeH w lo hi cb lb L v0 kv qv nk nq m K Q b p S e w':=by
 have hwf:=h.wf;have HBd:=hidI (fun (V:World) (hV:CP V lo hi cb L m)=>qbV V lo hi cb L m h.wf hV);have h32:=h.wf.nb2;have hbn:=badN_le m;obtain ⟨bn,hbne⟩:∃ bn,bn=badN m:=⟨_,rfl⟩;rw [←hbne] at HBd hbn;unfold qeH;rw [←hbne];rw [←hbne] at hfree;obtain ⟨Sb,hSb⟩:∃ Sb,Sb=S bn:=⟨_,rfl⟩;have HSb:=hidI hSb;rw [←hSb] at hfree;have HFree:=hidI hfree;obtain ⟨k0,hk0e⟩:∃ k0,k0=(v0.nn+1)%4294967296:=⟨_,rfl⟩;have hk0:k0<4294967296:=by rw [hk0e];exact Nat.mod_lt _ (by decide)
 have hk0i:((v0.nn:Int)+1)%4294967296=(k0:Nat):=by rw [hk0e];omega
 have hk0w:IntKind.u32.wrap ((v0.nn:Int)+1)=(k0:Nat):=by rw [IntKind.wrap_u32];exact hk0i
 rw [←hk0e];have q130:∀ (w:World) (r:Option Nat),(binOp .eql 130 (.map r) (.map none)).run Tryz.prog w=.ok (.bool r.isNone) w:=fun w r=>run_eql_map_nil w _ _ _ r Tryz.underlying130
 obtain ⟨W0,hW0⟩:∃ W0,W0=w.alloc (.cells #[.int .i64 0,.int .u32 0] 90):=⟨_,rfl⟩;obtain ⟨rb,hrb⟩:∃ rb,rb=w.heap.size:=⟨_,rfl⟩;have hR0:W0.heap[rb]? = some (.cells #[.int .i64 0,.int .u32 0] 90 (0,0)):=by rw [hW0,hrb];exact heap_alloc_new _ _
 have hB0:Below w.heap.size w W0:=by rw [hW0];exact (Below.refl _ w).alloc (Nat.le_refl _) _
 have hL0:=h.new hB0;have Hrbw:=hidI (Nat.le_of_eq hrb.symm);have H0:=hidI h;have HW0:=hidI hW0;have Hrb:=hidI hrb;have hlbw:=h.log.lt;have hlr:lb≠rb:=by rw [hrb];omega
 have HFd:=hidI (qgI W0 lo hi cb L m hwf hL0.chip hL0.sz hlife);have h16:=hwf.np2;have hnbnp:m.nb*m.np≤512:=Nat.mul_le_mul h32 h16;have HOk:Hid (∀ f∈scanF (pgs m) m.np m.nb,Go.Nt.FpOk f):=hidI (fun f hf=>(Go.Nt.scanF_ok hf).1);obtain ⟨lF,hlF⟩:∃ lF,lF=scanF (pgs m) m.np m.nb:=⟨_,rfl⟩;rw [←hlF] at HOk hS;have HlF:=hidI hlF;have HS:=hidI hS;have c00:=hL0.log.c0;have t40:=hL0.log.t4;rw [htk] at t40;have HL0:=hidI hL0;have HR0:=hidI hR0;have HB0:=hidI hB0;have Htk0:=hidI htk;have Hs0:Hid (W0.heap.size=rb+1):=hidI (by rw [hW0,hrb];simp);clear h htk hbne hSb hfree hk0e hW0 hrb hR0 hB0 hL0 hS hlF hwf;go_enter Tryz.func127,Tryz.ntmps127
 go_wp2_with (first | (rw [←HW0.out,←Hrb.out]) | (rw [←HW0.out]) | fail);refine HFd.out.mono ?_;rintro e W1 ⟨rfl,hF1,hb1⟩;rw [←HlF.out] at hF1;have HLb:=hidI (qdY W1 W0.heap.size (m.nb*m.np) lF hF1 (by omega) HOk.out);have HL1:=hidI (HL0.out.new hb1);have HR1:=hidI ((hb1.block rb (lt_of_heap HR0.out)).trans HR0.out);have HB1:=hidI (HB0.out.trans (hb1.mono HB0.out.size));clear hF1 hb1 HFd c00 t40;go_wp2_with fail;refine HLb.out.mono ?_;rintro e W2 ⟨rfl,hLb2,hb2⟩;have hsz1:=HB1.out.size;obtain ⟨tb,htb⟩:∃ tb,tb=W1.heap.size:=⟨_,rfl⟩;rw [←htb] at hLb2;simp only [←htb];have HL2:=hidI (HL1.out.new hb2);have hR1l:=lt_of_heap HR1.out;have HR2:=hidI ((hb2.block rb hR1l).trans HR1.out);have HB2:Hid (Below w.heap.size w W2):=hidI (HB1.out.trans (hb2.mono hsz1));have t42:=HL2.out.log.t4;have f42:=HL2.out.log.fz 4;have hrt:rb≠tb:=by rw [htb];exact fun e=>by omega
 have hlt:lb≠tb:=by have:=HL1.out.log.lt;omega
 have Hts:Hid (¬LogS lo hi lb kv qv tb):=hidI (fun hk=>by have:=qen HL1.out hk;omega);have Htk:Hid (v0.tk=some tb∨w.heap.size≤tb):=hidI (.inr (by omega));obtain ⟨Wa,hWa⟩:∃ Wa,Wa=W2.setCell ⟨lb,4,none⟩ (.map (some tb)):=⟨_,rfl⟩;have eo:∀ j,j≠lb→Wa.heap[j]? = W2.heap[j]? := fun j hj=>by rw [hWa];exact Below.heap_setCell W2 ⟨lb,4,none⟩ _ j hj
 have HRa:Hid (Wa.heap[rb]? = some (.cells #[.int .i64 0,.int .u32 0] 90 (0,0))):=hidI ((eo rb (fun e=>hlr e.symm)).trans HR2.out);have HLa:Hid (LogM Wa lo hi cb lb L ⟨v0.nb,v0.nn,some tb⟩ kv qv nk nq m K Q b p):=hidI (by rw [hWa];exact HL2.out.field (HL2.out.log.setT (some tb)));have hTS:LbAt W2 tb 100000 S:=by rw [HS.out];exact hLb2
 obtain ⟨nt,hnt⟩:∃ nt,nt=100000:=⟨_,rfl⟩;rw [←hnt] at hTS;have HTa:Hid (LbAt Wa tb nt S):=hidI (hTS.of_block (eo tb (fun e=>hlt e.symm)));have hnt100:nt≤100000:=Nat.le_of_eq hnt;have HFa:Hid (Fm (fun k=>k=lb) w Wa):=hidI (by rw [hWa];exact Fm.set (S:=fun k=>k=lb) (Fm.of_new HB2.out) (g:=lb) (fun _=>rfl) 4 _);have HWa:=hidI hWa;clear hLb2 hb2 HLb HL1 HR1 HB1 HL2 HR2 HB2 HL0 HR0 HB0 eo hTS hnt hWa hsz1 htb hlt HS HlF HOk;go_wp2_with (first | (rw [←HWa.out]) | fail);have a0:=HLa.out.log.c0;have a2:=HLa.out.log.n1;have a0d:Wa.drew.cell? ⟨lb,0,none⟩=some (.pointer (some ⟨cb,0,none⟩)):=a0;have a2d:Wa.drew.cell? ⟨lb,2,none⟩=some (.int .u32 (v0.nn:Nat)):=a2
 have HK:Hid (∀ V:World,(∀ k,k<Wa.heap.size→V.heap[k]? = Wa.heap[k]?)→V.cell? ⟨lb,0,none⟩=some (.pointer (some ⟨cb,0,none⟩))∧V.cell? ⟨lb,2,none⟩=some (.int .u32 (v0.nn:Nat))):=hidI (fun V hV=>⟨by rw [World.cell?_of_block (hV lb HLa.out.log.lt)];exact a0,by rw [World.cell?_of_block (hV lb HLa.out.log.lt)];exact a2⟩);have hrb1:=lt_of_heap HRa.out;have htb1:=HTa.out.lt;go_wp2_with fail;refine wp_region_held_drew (S:=fun V=>V.cell? ⟨lb,0,none⟩=some (.pointer (some ⟨cb,0,none⟩))∧V.cell? ⟨lb,2,none⟩=some (.int .u32 (v0.nn:Nat))) (by kernel_rfl) ⟨a0d,a2d⟩ (fun hHeld => ?_);refine tk 0 ⟨some 18,.move (.tmp 0),_,_,_,none⟩ (.pointer (some ⟨lb,0,none⟩)) rfl (fun w h=>by go_simp) hHeld ?_;simp only [zP,List.set]
 refine tk 1 ⟨some 19,.nilCheck (.tmp 18),_,_,_,none⟩ (.pointer (some ⟨lb,0,none⟩)) rfl (fun w h=>by go_simp) hHeld ?_;simp only [zP,List.set];refine tk 2 ⟨some 20,.fieldAddr 132 (.tmp 19) 0,_,_,_,none⟩ (.pointer (some ⟨lb,0,none⟩)) rfl (fun w h=>by go_simp) hHeld ?_;simp only [zP,List.set];refine tk 3 ⟨some 21,.load 28 (.tmp 20),_,_,_,none⟩ (.pointer (some ⟨cb,0,none⟩)) rfl (fun w h=>by go_simp) hHeld ?_;simp only [zP,List.set];refine tk 5 ⟨some 23,.move (.tmp 0),_,_,_,none⟩ (.pointer (some ⟨lb,0,none⟩)) rfl (fun w h=>by go_simp) hHeld ?_;simp only [zP,List.set]
 refine tk 6 ⟨some 24,.nilCheck (.tmp 23),_,_,_,none⟩ (.pointer (some ⟨lb,0,none⟩)) rfl (fun w h=>by go_simp) hHeld ?_;simp only [zP,List.set];refine tk 7 ⟨some 25,.fieldAddr 132 (.tmp 24) 1,_,_,_,none⟩ (.pointer (some ⟨lb,1,none⟩)) rfl (fun w h=>by go_simp) hHeld ?_;simp only [zP,List.set];refine tk 8 ⟨some 26,.fieldAddr 90 (.tmp 25) 1,_,_,_,none⟩ (.pointer (some ⟨lb,2,none⟩)) rfl (fun w h=>by go_simp) hHeld ?_;simp only [zP,List.set];refine tk 9 ⟨some 27,.load 88 (.tmp 26),_,_,_,none⟩ (.int .u32 (v0.nn:Nat)) rfl (fun w h=>by go_simp) hHeld ?_;simp only [zP,List.set]
 refine tk 10 ⟨some 28,.binOp .add 88 (.tmp 27) (.const (.int .u32 1)) 88,_,_,_,none⟩ (.int .u32 (k0:Nat)) rfl (fun w h=>by go_simp) hHeld ?_;simp only [zP,List.set];refine wpAnyH_ready (rs:=[4,12]) (by kernel_rfl) (by simp) ?_;refine AllReadyH.cons rfl (fun K hK => ?_) (AllReadyH.cons rfl (fun K hK => ?_) AllReadyH.nil)
 focus
  go_simp;refine (HBd.out Wa.drew HLa.out.drew.chip).mono ?_;rintro e w' ⟨rfl,hw⟩;have hw':=hw.symm;subst hw';clear hw;refine hK.out _ _ ⟨a0d,a2d⟩ (fun hHeld => ?_);clear hK K;refine tk 11 ⟨some 29,.build 90 #[(0,.tmp 22),(1,.tmp 28)],_,_,_,none⟩ (.agg #[.int .i64 (bn:Nat),.int .u32 (k0:Nat)]) rfl (fun w h=>by go_simp) hHeld ?_;simp only [zP,List.set];refine rd 12 rfl (fun K hK => ?_);go_simp;refine hK.out _ _ (HK.out _ fun k hk=>Below.heap_alloc Wa _ k hk) (fun hHeld => ?_);clear hK K;refine rd 13 rfl (fun K hK => ?_);go_simp;refine hK.out _ _ (HK.out _ fun k hk=>Below.heap_alloc Wa _ k hk) (fun hHeld => ?_);clear hK K;refine wpAnyH_done (by kernel_rfl) ?_ _;clear hHeld
  obtain ⟨Wb,hWb⟩:∃ Wb,Wb=(Wa.alloc (.cells #[.int .i64 (bn:Nat),.int .u32 (k0:Nat)] 90)).drew:=⟨_,rfl⟩;obtain ⟨nkb,hnkb⟩:∃ nkb,nkb=Wa.heap.size:=⟨_,rfl⟩;rw [←hWb];simp only [←hnkb];have HNb:Hid (Wb.heap[nkb]? = some (.cells #[.int .i64 (bn:Nat),.int .u32 (k0:Nat)] 90 (0,0))):=hidI (by rw [hWb,hnkb];exact heap_alloc_new _ _);have hBb:Below Wa.heap.size Wa Wb:=by rw [hWb];exact qas ((Below.refl _ Wa).alloc (Nat.le_refl _) _)
  have hnk1:Wa.heap.size≤nkb:=Nat.le_of_eq hnkb.symm;clear hWb hnkb
 rotate_left
 focus
  go_simp;obtain ⟨V1,hV1⟩:∃ V1,V1=(Wa.alloc (.cells #[.int .i64 0,.int .u32 0] 90)).drew:=⟨_,rfl⟩;obtain ⟨nkb,hnkb⟩:∃ nkb,nkb=Wa.heap.size:=⟨_,rfl⟩;refine hK.out _ _ (HK.out _ fun k hk=>Below.heap_alloc Wa _ k hk) (fun hHeld => ?_);clear hK K;rw [←hV1];simp only [←hnkb];have hrow:V1.heap[nkb]? = some (.cells #[.int .i64 0,.int .u32 0] 90 (0,0)):=by rw [hV1,hnkb];exact heap_alloc_new _ _
  have hBv:Below Wa.heap.size Wa V1:=by rw [hV1];exact qas ((Below.refl _ Wa).alloc (Nat.le_refl _) _)
  have hnk1:Wa.heap.size≤nkb:=Nat.le_of_eq hnkb.symm;have HV1:=hidI hV1;have HNk:=hidI hnkb;clear hV1 hnkb;refine rd 4 rfl (fun K hK => ?_);go_simp;refine (HBd.out V1 (HLa.out.new hBv).chip).mono ?_;rintro e w' ⟨rfl,hw⟩;have hw':=hw.symm;subst hw';clear hw;refine hK.out _ _ (HK.out _ fun k hk=>hBv.block k hk) (fun hHeld => ?_);clear hK K;refine tk 11 ⟨some 29,.build 90 #[(0,.tmp 22),(1,.tmp 28)],_,_,_,none⟩ (.agg #[.int .i64 (bn:Nat),.int .u32 (k0:Nat)]) rfl (fun w h=>by go_simp) hHeld ?_;simp only [zP,List.set];have s0:V1.cell? ⟨nkb,0,none⟩=some (.int .i64 0):=by rw [cell_of_row V1 nkb 0 _ 90 (0,0) hrow];rfl
  have s1:V1.cell? ⟨nkb,1,none⟩=some (.int .u32 0):=by rw [cell_of_row V1 nkb 1 _ 90 (0,0) hrow];rfl
  have z0:=frozen_of_row V1 nkb 0 _ 90 hrow;have z1:=frozen_of_row V1 nkb 1 _ 90 hrow;refine rd 13 rfl (fun K hK => ?_);go_simp;obtain ⟨Wb,hWb⟩:∃ Wb,Wb=(V1.setCell ⟨nkb,0,none⟩ (.int .i64 (bn:Nat))).setCell ⟨nkb,1,none⟩ (.int .u32 (k0:Nat)):=⟨_,rfl⟩;rw [←hWb];have HNb:Hid (Wb.heap[nkb]? = some (.cells #[.int .i64 (bn:Nat),.int .u32 (k0:Nat)] 90 (0,0))):=hidI (by rw [hWb];exact heap_setCell_same _ nkb 1 _ 90 _ (heap_setCell_same _ nkb 0 _ 90 _ hrow));have hBb:Below Wa.heap.size Wa Wb:=by rw [hWb];exact (hBv.setCell (by simp;omega) _).setCell (by simp;omega) _
  refine hK.out _ _ (HK.out _ fun k hk=>hBb.block k hk) (fun hHeld => ?_);clear hK K;refine wpAnyH_done (by kernel_rfl) ?_ _;clear hHeld s0 s1 z0 z1 hrow hBv hWb
 rotate_left
 all_goals
  have HLb:=hidI (HLa.out.new hBb);have HTb:=hidI (HTa.out.of_block (hBb.block tb htb1));have HRb:=hidI ((hBb.block rb hrb1).trans HRa.out);have HFb:Hid (Fm (fun k=>k=lb) w Wb):=hidI (HFa.out.trans (Fm.of_new hBb));have hnkw0:w.heap.size≤nkb:=Nat.le_trans HFa.out.size hnk1;have hnr:nkb≠rb:=by omega
  have hnt:nkb≠tb:=by omega
  have hns:∀ k,LogS lo hi lb kv qv k→k≠nkb:=fun k hk e=>by have:=qen HLa.out hk;omega
  have Hns:=hidI hns;clear hBb HK a0 a2 a0d a2d hns;go_wp2_with fail
  go_loopw [] (fun wr=>∃ k:Nat,k<4294967296∧Hid (wr.heap[nkb]? = some (.cells #[.int .i64 (bn:Nat),.int .u32 (k:Nat)] 90 (0,0)))∧Hid (nxt Sb k=nxt Sb k0)∧Hid (LogM wr lo hi cb lb L ⟨v0.nb,v0.nn,some tb⟩ kv qv nk nq m K Q b p)∧Hid (LbAt wr tb nt S)∧Hid (wr.heap[rb]? = some (.cells #[.int .i64 0,.int .u32 0] 90 (0,0)))∧Hid (Fm (fun k=>k=lb) w wr)) (fun wr=>dist Sb 700 (numAt wr nkb))
  case atStart=>exact ⟨k0,hk0,HNb,hidI rfl,HLb,HTb,HRb,HFb⟩
  clear HLb HTb HRb HFb HNb HRa HTa HLa HFa;obtain ⟨k,hk,HN1,HE,HL1,HT1,HR1,HF1⟩:=hrel;have t4:=HL1.out.log.t4;have n0:wr.cell? ⟨nkb,0,none⟩=some (.int .i64 (bn:Nat)):=by rw [cell_of_row wr nkb 0 _ 90 (0,0) HN1.out];rfl
  have n1:wr.cell? ⟨nkb,1,none⟩=some (.int .u32 (k:Nat)):=by rw [cell_of_row wr nkb 1 _ 90 (0,0) HN1.out];rfl
  have t4d:wr.drew.cell? ⟨lb,4,none⟩=some (.map (some tb)):=t4;have n0d:wr.drew.cell? ⟨nkb,0,none⟩=some (.int .i64 (bn:Nat)):=n0;have n1d:wr.drew.cell? ⟨nkb,1,none⟩=some (.int .u32 (k:Nat)):=n1;have A:=hidI (qj7 tb nt bn k S wr.drew (HT1.out.of_block rfl) (by omega) (by omega));unfold lv at A;rw [show S bn k=Sb k by rw [HSb.out]] at A;have hlbw:=HL1.out.log.lt;have hnkw:=lt_of_heap HN1.out;have hrbw:=lt_of_heap HR1.out;have htbw:=HT1.out.lt;have Hnum:Hid (numAt wr nkb=k):=hidI (by unfold numAt;rw [n1];simp);obtain ⟨r,hr⟩:∃ r,r=Sb k:=⟨_,rfl⟩;rw [←hr] at A;have Hr:=hidI hr;clear hr;go_wp2_with fail;refine wp_region_held_drew (S:=fun V=>V.cell? ⟨lb,4,none⟩=some (.map (some tb))∧V.cell? ⟨nkb,0,none⟩=some (.int .i64 (bn:Nat))∧V.cell? ⟨nkb,1,none⟩=some (.int .u32 (k:Nat))) (by kernel_rfl) ⟨t4d,n0d,n1d⟩ (fun hHeld => ?_)
  refine tk 0 ⟨some 30,.move (.tmp 0),_,_,_,none⟩ (.pointer (some ⟨lb,0,none⟩)) rfl (fun w h=>by go_simp) hHeld ?_;simp only [zP,List.set];refine tk 1 ⟨some 31,.nilCheck (.tmp 30),_,_,_,none⟩ (.pointer (some ⟨lb,0,none⟩)) rfl (fun w h=>by go_simp) hHeld ?_;simp only [zP,List.set];refine tk 2 ⟨some 32,.fieldAddr 132 (.tmp 31) 3,_,_,_,none⟩ (.pointer (some ⟨lb,4,none⟩)) rfl (fun w h=>by go_simp) hHeld ?_;simp only [zP,List.set];refine tk 3 ⟨some 33,.load 130 (.tmp 32),_,_,_,none⟩ (.map (some tb)) rfl (fun w h=>by go_simp) hHeld ?_;simp only [zP,List.set]
  refine tk 4 ⟨some 34,.load 90 (.tmp 3),_,_,_,none⟩ (.agg #[.int .i64 (bn:Nat),.int .u32 (k:Nat)]) rfl (fun w h=>by go_simp) hHeld ?_;simp only [zP,List.set];refine rd 5 rfl (fun K hK => ?_);go_simp;refine A.out.mono ?_;rintro e W2 ⟨rfl,hb2⟩;have hb2':Below wr.heap.size wr W2:=⟨hb2.os,hb2.tape,hb2.output,hb2.size,hb2.block⟩;have t42:W2.cell? ⟨lb,4,none⟩=some (.map (some tb)):=by rw [hb2'.cell (p:=⟨lb,4,none⟩) hlbw];exact t4
  have n02:W2.cell? ⟨nkb,0,none⟩=some (.int .i64 (bn:Nat)):=by rw [hb2'.cell (p:=⟨nkb,0,none⟩) hnkw];exact n0
  have n12:W2.cell? ⟨nkb,1,none⟩=some (.int .u32 (k:Nat)):=by rw [hb2'.cell (p:=⟨nkb,1,none⟩) hnkw];exact n1
  refine hK.out _ _ ⟨t42,n02,n12⟩ (fun hHeld => ?_);refine wpAnyH_done (by kernel_rfl) ?_ _;clear hHeld hK K;have HL2:=hidI (HL1.out.new hb2');have HT2:=hidI (HT1.out.of_block (hb2'.block tb htbw));have HR2:=hidI ((hb2'.block rb hrbw).trans HR1.out);have HN2:=hidI ((hb2'.block nkb hnkw).trans HN1.out);have HF2:Hid (Fm (fun k=>k=lb) w W2):=hidI (HF1.out.trans (Fm.of_new hb2'));have fz1:=frozen_of_row W2 nkb 1 _ 90 HN2.out;clear A hb2 hb2' HL1 HT1 HR1 HN1 HF1 t4 n0 n1 t4d n0d n1d t42;cases r with
  | true =>
    obtain ⟨hs1,hs2⟩:=qeM HFree.out hk Hr.out.symm;have Hs1:=hidI hs1;have Hs2:=hidI hs2;obtain ⟨k1,hk1⟩:∃ k1,k1=(k+1)%4294967296:=⟨_,rfl⟩;have hk1i:((k:Int)+1)%4294967296=(k1:Nat):=by rw [hk1];omega
    have hk1l:k1<4294967296:=by rw [hk1];exact Nat.mod_lt _ (by decide)
    rw [←hk1] at Hs1 Hs2;obtain ⟨W3,hW3⟩:∃ W3,W3=W2.setCell ⟨nkb,1,none⟩ (.int .u32 (k1:Nat)):=⟨_,rfl⟩;have HW3:=hidI hW3;have hsz3:W3.heap.size=W2.heap.size:=by rw [hW3];simp
    have eo:∀ j,j≠nkb→W3.heap[j]? = W2.heap[j]? := fun j hj=>by rw [hW3];exact Below.heap_setCell W2 ⟨nkb,1,none⟩ _ j hj
    have HN3:Hid (W3.heap[nkb]? = some (.cells #[.int .i64 (bn:Nat),.int .u32 (k1:Nat)] 90 (0,0))):=hidI (by rw [hW3];exact heap_setCell_same _ nkb 1 _ 90 _ HN2.out);have HL3:=hidI (HL2.out.of_blocks (w':=W3) (by rw [hsz3];exact HL2.out.sz) fun j hj _=>eo j (Hns.out j hj));have HT3:=hidI (HT2.out.of_block (eo tb (fun e=>hnt e.symm)));have HR3:=hidI ((eo rb (fun e=>hnr e.symm)).trans HR2.out);have HF3:Hid (Fm (fun k=>k=lb) w W3):=hidI (by rw [hW3];exact HF2.out.set (g:=nkb) (fun h=>absurd h (by omega)) 1 _);have Hnum3:Hid (numAt W3 nkb=k1):=hidI (by unfold numAt;rw [cell_of_row W3 nkb 1 _ 90 (0,0) HN3.out];simp);clear hs1 hs2 hk1 hW3 eo hsz3 HL2 HT2 HR2 HN2 HF2;go_wp2_with (first | (rw [hk1i,←HW3.out]) | (rw [←HW3.out]) | fail);go_roundw
    case rel=>exact ⟨k1,hk1l,HN3,hidI (by rw [←Hs1.out];exact HE.out),HL3,HT3,HR3,HF3⟩
    case measure=>rw [Hnum3.out,Hnum.out];exact Hs2.out
  | false =>
    have HX:Hid (nxt Sb k0=k):=hidI (by rw [←HE.out];exact nxt_here hk Hr.out.symm);have q0:W2.cell? ⟨rb,0,none⟩=some (.int .i64 0):=by rw [cell_of_row W2 rb 0 _ 90 (0,0) HR2.out];rfl
    have q1:W2.cell? ⟨rb,1,none⟩=some (.int .u32 0):=by rw [cell_of_row W2 rb 1 _ 90 (0,0) HR2.out];rfl
    have f0:=frozen_of_row W2 rb 0 _ 90 HR2.out;have f1:=frozen_of_row W2 rb 1 _ 90 HR2.out;have hrs:∀ j,LogS lo hi lb kv qv j→j≠rb:=fun j hj e=>by have h9:=qen H0.out hj;have:=Hrbw.out;omega
    have eo:∀ j,j≠rb→((W2.setCell ⟨rb,0,none⟩ (.int .i64 (bn:Nat))).setCell ⟨rb,1,none⟩ (.int .u32 (k:Nat))).heap[j]? = W2.heap[j]? := fun j hj=>(Below.heap_setCell _ ⟨rb,1,none⟩ _ j hj).trans (Below.heap_setCell _ ⟨rb,0,none⟩ _ j hj)
    have HL3:=hidI (HL2.out.of_blocks (w':=(W2.setCell ⟨rb,0,none⟩ (.int .i64 (bn:Nat))).setCell ⟨rb,1,none⟩ (.int .u32 (k:Nat))) (by have:=HL2.out.sz;simpa using this) fun j hj _=>eo j (hrs j hj));have HT3:=hidI (HT2.out.of_block (eo tb (fun e=>hrt e.symm)));have HF3:Hid (Fm (fun k=>k=lb) w ((W2.setCell ⟨rb,0,none⟩ (.int .i64 (bn:Nat))).setCell ⟨rb,1,none⟩ (.int .u32 (k:Nat)))):=hidI ((HF2.out.set (g:=rb) (fun h=>absurd h (by have:=Hrbw.out;omega)) 0 _).set (g:=rb) (fun h=>absurd h (by have:=Hrbw.out;omega)) 1 _);clear eo hrs;go_wp2_with fail;refine bodyPost_ret (v:=.agg #[.int .i64 (bn:Nat),.int .u32 (k:Nat)]) ?_ rfl ⟨tb,nt,?_,HL3.out,HT3.out,hnt100,Hts.out,Htk.out,HF3.out⟩
    ·simp [results,go_sem,q0,q1]
    rw [HSb.out] at HX;rw [HX.out]
end Go.Proofs.YtodmdkhdbfbfgaaGreatDoor.S1
namespace Go.Proofs.YtodmdkhdbfbfgaaGreatDoor.S1
open Go.RowKit Pk
open Go.Nt (nxt pagesN splitR pageB pgOf hasL scanF Free qe8)
def renS (m:M) (Q:Nat→Bool) (t:List UInt8):LS:=addS m ⟨0,0,none⟩ (hasL (scanF (pgs m) m.np m.nb)) (fun _=>false) Q (m.nb - 1) m.np t
def renA (m:M) (t:List UInt8):Int × M:=
 if mayE m t.length≠0 then (mayE m t.length,m)
 else if mayE (eraAll m m.nb).1 t.length≠0 then (mayE (eraAll m m.nb).1 t.length,(eraAll m m.nb).1)
 else
  let s:=renS (eraAll m m.nb).1 (eraAll m m.nb).2 t
  (if s.left=[] then 0 else if s.m.life=0 then 10 else 9,s.m)
theorem qfu (m:M):∀ k,(eraAll m k).1.np=m.np
 | 0=>rfl
 | k+1=>by rw [eraAll];exact (qje _ _).trans (qfu m k)
theorem qjn {m:M} {n:Nat} (h:mayE m n=0):m.life≠0:=by
 unfold mayE at h
 split at h
 ·omega
 assumption
theorem renew_any (w:World) (lo hi cb:Nat) (L:Loc) (m:M) (t:List UInt8) (hw:WF m) (h:CP w lo hi cb L m) (hsz:hi≤w.heap.size) (ht:t.length≤1000000) :
 Calls Tryz.prog 42 #[.pointer (some ⟨cb,0,none⟩),.string (txt t)] w fun e w'=>e=.returned (.int .i64 (renA m t).1)∧CP w' lo hi cb L (renA m t).2∧Only lo hi w w':=by
 have HM:=hidI (qjA w lo hi cb L m t hw h (by omega));obtain ⟨X,hX⟩:∃ X,X=txt t:=⟨_,rfl⟩;rw [←hX] at HM ⊢;by_cases hme:mayE m t.length=0
 ·rw [hme] at HM;have HE:=hidI (qjH w lo hi cb L m hw h hsz);have hwf1:=qdr hw m.nb;have hnb1:=qe1 m m.nb;have hnp1:=qfu m m.nb;have h32:=hw.nb2;have h16:=hw.np2;have h4:=hw.nb1;obtain ⟨m1,hm1⟩:∃ m1,m1=(eraAll m m.nb).1:=⟨_,rfl⟩;obtain ⟨Q1,hQ1⟩:∃ Q1,Q1=(eraAll m m.nb).2:=⟨_,rfl⟩;rw [←hm1,←hQ1] at HE;rw [←hm1] at hwf1 hnb1 hnp1;have HR:Hid (renA m t=if mayE m1 t.length≠0 then (mayE m1 t.length,m1) else (if (renS m1 Q1 t).left=[] then 0 else if (renS m1 Q1 t).m.life=0 then 10 else 9,(renS m1 Q1 t).m)):=hidI (by
   unfold renA;rw [if_neg (by simp [hme]),←hm1,←hQ1])
  obtain ⟨nb,hnb⟩:∃ nb,nb=m.nb:=⟨_,rfl⟩;obtain ⟨np,hnp⟩:∃ np,np=m.np:=⟨_,rfl⟩;rw [←hnb] at HE hnb1 h32 h4;rw [←hnp] at hnp1 h16;have Hnb1:=hidI hnb1;have Hnp1:=hidI hnp1;have Hwf1:=hidI hwf1;have HX:=hidI hX;clear h hm1 hQ1 hX hnb hnp hw hme hnb1 hnp1 hwf1;go_enter Tryz.func42,Tryz.ntmps42
  go_wp2_with (first | (go_at_call 74;refine HM.out.mono ?_;rintro e w' ⟨rfl,hw⟩;have hw':=hw.symm;subst hw';clear hw) | fail);refine HE.out.mono ?_;rintro e W1 ⟨rfl,hC1,hQ,hO1⟩;have HB:=hidI (qaP W1 lo hi cb L m1 hC1);rw [Hnb1.out] at HB;have HP:=hidI (pages_any W1 lo hi cb L m1 hC1);rw [Hnp1.out] at HP;have hsz1:=hO1.size;obtain ⟨qb,hqb⟩:∃ qb,qb=w.heap.size:=⟨_,rfl⟩;rw [←hqb] at hQ hsz1 hsz;simp only [←hqb];have hql:=hQ.lt;obtain ⟨lb,hlb⟩:∃ lb,lb=W1.heap.size:=⟨_,rfl⟩;obtain ⟨W2,hW2⟩:∃ W2,W2=W1.alloc (.cells #[.pointer (some ⟨cb,0,none⟩),.int .i64 0,.int .u32 0,.map none,.map none,.map (some qb),.int .i64 ((nb - 1:Nat):Int),.int .i64 (np:Nat)] 132):=⟨_,rfl⟩;have hB2:Below W1.heap.size W1 W2:=by rw [hW2];exact (Below.refl _ W1).alloc (Nat.le_refl _) _
  have hLA:LogAt W2 lb cb ⟨0,0,none⟩ none (some qb) (nb - 1) np:=by
   show W2.heap[lb]? = _;rw [hW2,hlb];exact heap_alloc_new _ _
  have hL2:LogM W2 lo hi cb lb L ⟨0,0,none⟩ none (some qb) 0 nb m1 (fun _=>false) Q1 (nb - 1) np:=
   ⟨hLA,MemX.below hC1 (by omega) hB2,Hwf1.out,.inl ⟨rfl,fun _=>rfl⟩,.inr ⟨qb,rfl,hQ.of_block (hB2.block qb hql)⟩,fun g hg=>(by cases hg),fun g hg=>(by cases hg;exact ⟨by omega,by omega⟩),fun g hg=>(by cases hg),(by omega),by have:=hB2.size;omega⟩
  have hs2:W2.heap.size=lb+1:=by rw [hW2,hlb];simp
  have hFree:Free (hasL (scanF (pgs m1) m1.np m1.nb) (badN m1)):=qe8 (by have:=Go.Nt.scanF_len (pgs m1) m1.np m1.nb;rw [Hnb1.out,Hnp1.out] at this;have:nb*np≤512:=Nat.mul_le_mul h32 h16;rw [Hnb1.out,Hnp1.out];omega) _;have hnum:numN m1 ⟨0,0,none⟩ (hasL (scanF (pgs m1) m1.np m1.nb))<4294967296:=(Go.Nt.nxt_free hFree (Nat.mod_lt _ (by decide))).2;by_cases hme1:mayE m1 t.length=0
  ·have hlf:=qjn hme1;have hA:=qjz W2 lo hi cb lb L ⟨0,0,none⟩ none (some qb) 0 nb m1 (fun _=>false) Q1 (nb - 1) np (hasL (scanF (pgs m1) m1.np m1.nb)) t hL2 (by omega) (by rw [Hnp1.out];exact Nat.le_refl _) ht hnum (fun _=>qiN W2 lo hi cb lb L ⟨0,0,none⟩ none (some qb) 0 nb m1 (fun _=>false) Q1 (nb - 1) np _ rfl hL2 rfl hlf hFree);rw [←HX.out] at hA;have HA:=hidI hA;have HS:Hid (addS m1 ⟨0,0,none⟩ (hasL (scanF (pgs m1) m1.np m1.nb)) (fun _=>false) Q1 (nb - 1) np t=renS m1 Q1 t):=hidI (by unfold renS;rw [Hnb1.out,Hnp1.out]);have HO2:Hid (∀ V,Fm (LogS lo hi lb none (some qb)) W2 V→Only lo hi w V):=hidI (fun V hV=>by
    have h1:Fm (LogS lo hi lb none (some qb)) w V:=(Fm.of_only hO1 fun k h1 h2=>.inl ⟨h1,h2⟩).trans ((Fm.of_new hB2).trans hV);refine h1.only fun k hk hs => ?_
    rcases hs with hs | hs | hs | hs
    ·exact hs
    ·omega
    ·cases hs
    cases hs;omega)
   have HW2:=hidI hW2;have Hlb:=hidI hlb;have Hme1:=hidI hme1;have hnbi:((nb:Int) - 1)=((nb - 1:Nat):Int):=by omega
   clear hA hLA hL2 hW2 hB2 hC1 hQ hO1 hlb hs2 hFree hnum hme1 hqb;go_wp2_with (first | (go_at_call 76;refine HB.out.mono ?_;rintro e w' ⟨rfl,hw⟩;have hw':=hw.symm;subst hw';clear hw) | (go_at_call 77;refine HP.out.mono ?_;rintro e w' ⟨rfl,hw⟩;have hw':=hw.symm;subst hw';clear hw) | (rw [hnbi,←HW2.out,←Hlb.out]) | (rw [←HW2.out,←Hlb.out]) | fail);refine HA.out.mono ?_;rintro e W3 ⟨_,hyes,hno⟩;rw [HS.out] at hyes hno;by_cases hle:(renS m1 Q1 t).left=[]
   ·obtain ⟨ib,nk,tb,nt,rfl,hL3,_,_,_,hF3,_,_⟩:=hyes Hme1.out hle;have HC3:=hidI hL3.chip;have HO3:=hidI (HO2.out W3 hF3);have hr:=HR.out;rw [if_neg (by rw [Hme1.out];simp),if_pos hle] at hr;have Hr:=hidI hr;clear hyes hno hL3 hF3 HA hr;go_wp2_with fail;go_ret
    exact ⟨by rw [Hr.out];rfl,by rw [Hr.out];exact HC3.out,HO3.out⟩
   obtain ⟨rfl,hL3,hF3⟩:=hno Hme1.out hle;have HC3:=hidI hL3.chip;have HO3:=hidI (HO2.out W3 hF3);have hr:=HR.out;rw [if_neg (by rw [Hme1.out];simp),if_neg hle] at hr;obtain ⟨er,her⟩:∃ er:Int,er=if (renS m1 Q1 t).m.life=0 then 10 else 9:=⟨_,rfl⟩;rw [←her] at hr ⊢;have Hr:=hidI hr;clear hyes hno hL3 hF3 HA hr her;go_wp2_with fail;go_ret
   exact ⟨by rw [Hr.out];rfl,by rw [Hr.out];exact HC3.out,HO3.out⟩
  have hA:=qjz W2 lo hi cb lb L ⟨0,0,none⟩ none (some qb) 0 nb m1 (fun _=>false) Q1 (nb - 1) np (hasL (scanF (pgs m1) m1.np m1.nb)) t hL2 (by omega) (by rw [Hnp1.out];exact Nat.le_refl _) ht hnum (fun h=>absurd h hme1);rw [←HX.out] at hA;have HA:=hidI hA;have HC2:=hidI hL2.chip;have HO2:=hidI (hO1.trans (Only.of_below hB2));have HW2:=hidI hW2;have Hlb:=hidI hlb;have Hme1:=hidI hme1;have hnbi:((nb:Int) - 1)=((nb - 1:Nat):Int):=by omega
  clear hA hLA hL2 hW2 hB2 hC1 hQ hO1 hlb hs2 hFree hnum hme1 hqb;go_wp2_with (first | (go_at_call 76;refine HB.out.mono ?_;rintro e w' ⟨rfl,hw⟩;have hw':=hw.symm;subst hw';clear hw) | (go_at_call 77;refine HP.out.mono ?_;rintro e w' ⟨rfl,hw⟩;have hw':=hw.symm;subst hw';clear hw) | (rw [hnbi,←HW2.out,←Hlb.out]) | (rw [←HW2.out,←Hlb.out]) | fail);refine HA.out.mono ?_;rintro e W3 ⟨hp,_,_⟩;obtain ⟨rfl,rfl⟩:=hp Hme1.out;have hr:=HR.out;rw [if_pos Hme1.out] at hr;obtain ⟨er,her⟩:∃ er:Int,er=mayE m1 t.length:=⟨_,rfl⟩;rw [←her] at hr ⊢;have Hr:=hidI hr;clear hr her HA hp;go_wp2_with fail;go_ret
  exact ⟨by rw [Hr.out];rfl,by rw [Hr.out];exact HC2.out,HO2.out⟩
 obtain ⟨me,hmee⟩:∃ me,me=mayE m t.length:=⟨_,rfl⟩;have HR:Hid (renA m t=(me,m)):=hidI (by unfold renA;rw [if_pos hme,hmee]);rw [←hmee] at HM hme;have hmi:(me != 0)=true:=by simpa using hme
 have Hh:=hidI h;clear h hmee hX hw;go_enter Tryz.func42,Tryz.ntmps42
 go_wp2_with (first | (go_at_call 74;refine HM.out.mono ?_;rintro e w' ⟨rfl,hw⟩;have hw':=hw.symm;subst hw';clear hw) | fail);go_ret
 exact ⟨by rw [HR.out];rfl,by rw [HR.out];exact Hh.out,Only.refl _ _ _⟩
end Go.Proofs.YtodmdkhdbfbfgaaGreatDoor.S1
namespace Go.Proofs.YtodmdkhdbfbfgaaGreatDoor
open Go.RowKit Go.Nt
def itv (x:It):Value:=.agg #[.string (txt x.path),.bool x.dir,.string (txt x.data),.int .i64 x.mode,.int .i64 x.time]
theorem eqg (op:BinOp) (x y:Operand) (xs ys:Array Value) (w:World):(eqGuard op 39 x y (.agg xs) (.agg ys)).run Tryz.prog w=.ok () w:=run_eqGuard_agg w op 39 x y xs ys (by kernel_rfl)
theorem qnv (x y:It):(if (txt x.path).toList==(txt y.path).toList then if x.dir==y.dir then if (txt x.data).toList==(txt y.data).toList then if x.mode==y.mode then x.time==y.time else false else false else false else false)=decide (x=y):=by
 rw [qex,qex];obtain ⟨a1,a2,a3,a4,a5⟩:=x;obtain ⟨b1,b2,b3,b4,b5⟩:=y;simp only [It.mk.injEq];by_cases h1:a1=b1<;>by_cases h2:a2=b2<;>by_cases h3:a3=b3<;>by_cases h4:a4=b4<;>by_cases h5:a5=b5<;>simp [h1,h2,h3,h4,h5]
theorem qnw (x y:It) (w:World):(Op.equalIn 10000 39 (itv x) (itv y)).run Tryz.prog w=.ok (decide (x=y)) w:=by
 unfold itv;rw [run_equalIn_agg w 9999 39 _ _ (by kernel_rfl) (by kernel_rfl)];rw [show Tryz.prog.fieldsOf 39=_ from by unfold Program.fieldsOf;rw [Tryz.underlying39]];rw [←qnv];simp [Op.eqFields,part,go_sem,Tryz.underlying9,Tryz.underlying4,Tryz.underlying3];by_cases h1:(txt x.path).toList=(txt y.path).toList<;>by_cases h2:x.dir=y.dir<;>by_cases h3:(txt x.data).toList=(txt y.data).toList<;>by_cases h4:x.mode=y.mode<;>by_cases h5:x.time=y.time<;>simp [h1,h2,h3,h4,h5]
theorem Tryz.info24:(Tryz.prog.info? 39).map (fun i=>(i.zero,i.size,i.bytes))=some (some (.agg #[.string ByteArray.empty,.bool false,.string ByteArray.empty,.int .i64 0,.int .i64 0]),5,56):=by kernel_rfl
def itl (x:It):List Value:=[.string (txt x.path),.bool x.dir,.string (txt x.data),.int .i64 x.mode,.int .i64 x.time]
def its (l:List It):List Value:=l.flatMap itl
theorem qg5 (x:It) (l:List It):its (x :: l)=itl x++its l:=rfl
theorem qb6 (l m:List It):its (l++m)=its l++its m:=by simp [its]
theorem qcX (x:It):its [x]=itl x:=by simp [its]
theorem qjt:∀ {l:List It} {k:Nat} {x:It},l[k]? = some x→∀ j,j<5→(its l)[k*5+j]? = (itl x)[j]?
 | [],k,x,h,_,_=>by simp at h
 | y :: l,0,x,h,j,hj=>by
   simp at h;subst h;rw [qg5,Nat.zero_mul,Nat.zero_add,List.getElem?_append_left (by simp [itl];omega)]
 | y :: l,k+1,x,h,j,hj=>by
   have h':l[k]? = some x:=by simpa using h
   rw [qg5,List.getElem?_append_right (by simp [itl];omega)]
   have:(k+1)*5+j - (itl y).length=k*5+j:=by simp [itl];omega
   rw [this];exact qjt h' j hj
theorem qck {l:List It}:∀ u∈its l,u.oneCell'=true:=by
 intro u hu;obtain ⟨x,_,hx⟩:=List.mem_flatMap.1 hu;simp only [itl,List.mem_cons,List.not_mem_nil,or_false] at hx;rcases hx with rfl | rfl | rfl | rfl | rfl<;>rfl
theorem addr_add (b o j:Nat):(⟨b,o,none⟩:Addr).add j=⟨b,o+j,none⟩:=by unfold Addr.add;split<;>simp_all
theorem ItAt.of_cells {w:World} {b o:Nat} {x:It} (h:∀ j u,(itl x)[j]? = some u→w.cell? ⟨b,o+j,none⟩=some u):ItAt w b o x:=
 ⟨h 0 _ rfl,h 1 _ rfl,h 2 _ rfl,h 3 _ rfl,h 4 _ rfl⟩
theorem ItAt.cell {w:World} {b o:Nat} {x:It} (h:ItAt w b o x) {j:Nat} {u:Value} (hu:(itl x)[j]? = some u):w.cell? ⟨b,o+j,none⟩=some u:=by
 obtain ⟨h0,h1,h2,h3,h4⟩:=h
 match j,hu with
 | 0,hu=>simp [itl] at hu;subst hu;exact h0
 | 1,hu=>simp [itl] at hu;subst hu;exact h1
 | 2,hu=>simp [itl] at hu;subst hu;exact h2
 | 3,hu=>simp [itl] at hu;subst hu;exact h3
 | 4,hu=>simp [itl] at hu;subst hu;exact h4
 | j+5,hu=>simp [itl] at hu
theorem qfd {w:World} {B:Nat} {v:Value} {l:List It} (h:w.ownsRow B 39 5 v l.length (its l)):(v=.slice none 0 0∧l=[])∨∃ g cap,v=.slice (some ⟨g,0,none⟩) l.length cap∧B≤g∧g<w.heap.size∧l.length≤cap∧cap≤maxLen∧∀ k (x:It),l[k]? = some x→ItAt w g (0+k*5) x:=by
 rcases h.2 with ⟨rfl,h0⟩ | ⟨g,cap,cur,rfl,hb,hh,h1,h2,h3,h4⟩
 ·exact .inl ⟨rfl,List.eq_nil_of_length_eq_zero h0⟩
 refine .inr ⟨g,cap,rfl,hb,lt_of_heap hh,h1,h2,fun k x hx=>ItAt.of_cells fun j u hu => ?_⟩;have hk:k<l.length:=(List.getElem?_eq_some_iff.1 hx).1;have hj:j<5:=by have:=(List.getElem?_eq_some_iff.1 hu).1;simpa [itl] using this
 have:=qjt hx j hj
 rw [hu,←h4,List.getElem?_take_of_lt (by omega)] at this;rw [cell_of_row w g _ cur 39 (0,0) hh,Nat.zero_add];simpa using this
theorem qbY {w:World} {B:Nat} {v:Value} {l:List It} (h:w.ownsRow B 39 5 v l.length (its l)):∃ a c,v=.slice a l.length c∧ItsIn w a l:=by
 rcases qfd h with ⟨rfl,rfl⟩ | ⟨g,cap,rfl,_,_,_,_,hc⟩
 ·exact ⟨none,0,rfl,fun hn=>absurd rfl hn⟩
 exact ⟨_,cap,rfl,fun _=>⟨g,0,rfl,hc⟩⟩
structure Nd where
 dir:Bool
 data:Bs
 mode:Int
 time:Int
deriving DecidableEq,Inhabited
def nd (x:It):Nd:=⟨x.dir,x.data,x.mode,x.time⟩
def ndv (n:Nd):Value:=.agg #[.bool n.dir,.string (txt n.data),.int .i64 n.mode,.int .i64 n.time]
def ndOf:Value→Option (DataW Nd × List MemPlace)
 | .agg cs=>match cs.toList with
   | [.bool d,.string s,.int .i64 m,.int .i64 t]=>some (.held ⟨d,s.data.toList,m,t⟩,[])
   | _=>none
 | _=>none
theorem qc0 (n:Nd):ndOf (ndv n)=some (.held n,[]):=rfl
theorem qcA {v:Value} {n:Nd} {ps:List MemPlace} (h:ndOf v=some (.held n,ps)):v=ndv n:=by
 unfold ndOf at h
 split at h
 ·rename_i cs
  split at h
  ·rename_i d s m t hc;simp at h;obtain ⟨rfl,_⟩:=h
   have:cs=#[.bool d,.string s,.int .i64 m,.int .i64 t]:=by
    apply Array.toList_inj.1
    exact hc
   rw [this];unfold ndv;rw [←qmi]
  cases h
 cases h
def at? (l:List It) (p:Bs):Option It:=l.find? fun x=>decide (x.path=p)
theorem qew {l:List It} {p:Bs} {x:It} (h:at? l p=some x):x∈l∧x.path=p:=⟨List.mem_of_find?_eq_some h,by simpa using List.find?_some h⟩
theorem at_none {l:List It} {p:Bs}:at? l p=none↔∀ x∈l,x.path≠p:=by simp [at?]
theorem at_mem {l:List It} (hn:(l.map (·.path)).Nodup) {x:It} (hx:x∈l):at? l x.path=some x:=by
 induction l with
 | nil=>simp at hx
 | cons y l ih =>
   unfold at?;rw [List.find?_cons];by_cases e:y.path=x.path
   ·simp [e];simp at hn hx;rcases hx with rfl | hx
    ·rfl
    exact absurd e.symm (fun e'=>hn.1 x hx e')
   simp [e];simp at hn hx;rcases hx with rfl | hx
   ·exact absurd rfl e
   exact ih hn.2 hx
theorem qnf {l:List It} (hn:(l.map (·.path)).Nodup) (p:Bs):dirAt l p=(match at? l p with | some x=>x.dir | none=>false):=by
 cases h:at? l p with
 | none =>
   have h':=at_none.1 h;unfold dirAt;simp only [List.any_eq_false];intro x hx;simp [h' x hx]
 | some x =>
   obtain ⟨hx,rfl⟩:=qew h;obtain ⟨k,hk,rfl⟩:=List.getElem_of_mem hx;show dirAt l _=l[k].dir;unfold dirAt;cases hd:l[k].dir with
   | true=>exact List.any_eq_true.2 ⟨_,hx,by simp [hd]⟩
   | false =>
     rw [List.any_eq_false];intro y hy;by_cases e:y.path=l[k].path
     ·have h1:=at_mem hn hy;have h2:=at_mem hn hx;rw [e,h2] at h1;cases h1
      simp [hd]
     simp [e]
def Has (D:DataW Nd) (l:List It):Prop:=
 ∀ p,Maps.has D (.string p)=(at? l p).isSome∧∀ x,at? l p=some x→∀ z,D.atKey (.string p) z=.held (nd x)
def TreeAt (w:World) (b:Nat) (l:List It):Prop:=
 ∃ D:DataW Nd,w.ownsMap Tryz.prog 9 ndOf b (Maps.size D) D∧Has D l
theorem law9:Maps.Keyed Tryz.prog 9:=Maps.string_keyed Tryz.underlying9
theorem zero46 (w:World):(zeroValue 117).run Tryz.prog w=.ok (ndv ⟨false,[],0,0⟩) w:=by kernel_rfl
theorem tight {w:World} {b n:Nat} {D:DataW Nd} (h:w.ownsMap Tryz.prog 9 ndOf b n D):w.ownsMap Tryz.prog 9 ndOf b (Maps.size D) D:=by
 obtain ⟨es,clock,hb,F,hs,rfl⟩:=h;exact ⟨es,clock,hb,F,by simp [Maps.size,length_sorted],rfl⟩
theorem TreeAt.lt {w:World} {b:Nat} {l:List It} (h:TreeAt w b l):b<w.heap.size:=by
 obtain ⟨D,h,_⟩:=h;exact h.lt
theorem TreeAt.of_block {w w':World} {b:Nat} {l:List It} (h:TreeAt w b l) (hb:w'.heap[b]? = w.heap[b]?):TreeAt w' b l:=by
 obtain ⟨D,⟨es,clock,h1,h2⟩,hh⟩:=h;exact ⟨D,⟨es,clock,hb.trans h1,h2⟩,hh⟩
theorem TreeAt.below {w w':World} {B b:Nat} {l:List It} (h:TreeAt w b l) (hb:Below B w w') (hlt:b<B):TreeAt w' b l:=h.of_block (hb.block b hlt)
theorem qiE (w:World):TreeAt (w.alloc (.map #[] 0)) w.heap.size []:=
 ⟨.map [],World.ownsMap_made w _ _ _,fun p=>⟨rfl,fun x hx=>by simp [at?] at hx⟩⟩
theorem key9 {p:Bs} (h:p.length≤maxLen):keyOf Tryz.prog 9 (.string (txt p))=some (.string p):=WideMaps.keyOf_string_mk Tryz.underlying9 (by rw [qaa];exact h)
theorem TreeAt.look_some {w:World} {b:Nat} {l:List It} {p:Bs} {x:It} (h:TreeAt w b l) (hp:p.length≤maxLen) (hx:at? l p=some x) :
 (Instr.lookup 77 (.map (some b)) (.string (txt p)) true).run Tryz.prog w=.ok (.tuple #[ndv (nd x),.bool true]) w∧(Instr.lookup 77 (.map (some b)) (.string (txt p)) false).run Tryz.prog w=.ok (ndv (nd x)) w:=by
 obtain ⟨D,ho,hh⟩:=h;obtain ⟨v,ps,h1,h2⟩:=ho.look_ok law9 Tryz.underlying77 (zero46 w) (qc0 _) (key9 hp);obtain ⟨v',ps',h3,h4⟩:=ho.lookup law9 Tryz.underlying77 (zero46 w) (qc0 _) (key9 hp);rw [(hh p).2 x hx] at h2 h4;rw [qcA h2,(hh p).1,hx] at h1;rw [qcA h4] at h3;exact ⟨h1,h3⟩
theorem TreeAt.look_none {w:World} {b:Nat} {l:List It} {p:Bs} (h:TreeAt w b l) (hp:p.length≤maxLen) (hx:at? l p=none) :
 (Instr.lookup 77 (.map (some b)) (.string (txt p)) true).run Tryz.prog w=.ok (.tuple #[ndv ⟨false,[],0,0⟩,.bool false]) w∧(Instr.lookup 77 (.map (some b)) (.string (txt p)) false).run Tryz.prog w=.ok (ndv ⟨false,[],0,0⟩) w:=by
 obtain ⟨D,ho,hh⟩:=h;have hno:Maps.has D (.string p)=false:=by rw [(hh p).1,hx];rfl
 obtain ⟨v,ps,h1,h2⟩:=ho.look_ok law9 Tryz.underlying77 (zero46 w) (qc0 _) (key9 hp);obtain ⟨v',ps',h3,h4⟩:=ho.lookup law9 Tryz.underlying77 (zero46 w) (qc0 _) (key9 hp);rw [Maps.atKey_of_not_has hno] at h2 h4;rw [qcA h2,hno] at h1;rw [qcA h4] at h3;exact ⟨h1,h3⟩
theorem keys_perm {w:World} {b n:Nat} {l:List It} {D:DataW Nd} (ho:w.ownsMap Tryz.prog 9 ndOf b n D) (hh:Has D l) (hn:(l.map (·.path)).Nodup):(l.map (·.path)).Perm (strKeys D):=by
 obtain ⟨es,rfl,hp⟩:=ho.tidy law9;obtain ⟨es',e,hk⟩:=ho.keysOf;cases e
 refine perm_strKeys hp (fun p h => ?_) hn (fun x => ?_)
 ·obtain ⟨v,hv⟩:=hk p h;obtain ⟨x,_,hx,_⟩:=Maps.keyOf_str Tryz.underlying9 hv;exact ⟨x,hx⟩
 rw [(hh x).1]
 constructor
 ·intro h;obtain ⟨y,hy,rfl⟩:=List.mem_map.1 h;rw [at_mem hn hy];rfl
 intro h;obtain ⟨y,hy⟩:=Option.isSome_iff_exists.1 h;obtain ⟨h1,rfl⟩:=qew hy;exact List.mem_map.2 ⟨y,h1,rfl⟩
theorem qe6 (D:DataW Nd) (h:Maps.IsMap D):(strKeys D).length=Maps.size D:=by
 obtain ⟨es,rfl⟩:=h;simp [strKeys,Maps.size]
theorem qcY {w:World} {b n:Nat} {l:List It} {D:DataW Nd} (ho:w.ownsMap Tryz.prog 9 ndOf b n D) (hh:Has D l) (hn:(l.map (·.path)).Nodup):Maps.size D=l.length:=by
 have h:=(keys_perm ho hh hn).length_eq;rw [qe6 D ho.isMap] at h;simpa using h.symm
theorem TreeAt.len {w:World} {b:Nat} {l:List It} (h:TreeAt w b l) (hn:(l.map (·.path)).Nodup) (ty:TypeId):(Builtin.len_ #[77] ty #[.map (some b)]).run Tryz.prog w=.ok (.int .i64 l.length) w:=by
 obtain ⟨D,ho,hh⟩:=h
 have:=ho.len Tryz.underlying77 ty
 rw [qcY ho hh hn] at this;exact this
def setIt (l:List It) (x:It):List It:=l.filter (fun y=>decide (y.path≠x.path))++[x]
theorem qe9 (l m:List It) (p:Bs):at? (l++m) p=(at? l p).or (at? m p):=by simp [at?,List.find?_append]
theorem qdi {l:List It} {p q:Bs} (h:p≠q):at? (l.filter (fun y=>decide (y.path≠q))) p=at? l p:=by
 induction l with
 | nil=>rfl
 | cons y l ih =>
   unfold at? at ih ⊢;by_cases e:y.path=q
   ·have:y.path≠p:=fun e'=>h (e'.symm.trans e)
    rw [List.filter_cons_of_neg (by simp [e]),List.find?_cons_of_neg (by simp [this]),ih]
   rw [List.filter_cons_of_pos (by simp [e]),List.find?_cons,List.find?_cons,ih]
theorem qdF (l:List It) (q:Bs):at? (l.filter (fun y=>decide (y.path≠q))) q=none:=by
 rw [at_none];intro x hx;simpa using (List.mem_filter.1 hx).2
theorem qcT (l:List It) (x:It):at? (setIt l x) x.path=some x:=by
 rw [setIt,qe9,qdF];simp [at?]
theorem qcs {l:List It} {x:It} {p:Bs} (h:p≠x.path):at? (setIt l x) p=at? l p:=by
 rw [setIt,qe9,qdi h]
 have:at? [x] p=none:=by rw [at_none];intro y hy;simp at hy;subst hy;exact fun e=>h e.symm
 rw [this];cases at? l p<;>rfl
theorem Has.put {D:DataW Nd} {l:List It} (h:Has D l) (hm:Maps.IsMap D) (x:It):Has (D.put (.string x.path) (.held (nd x))) (setIt l x):=by
 intro p;by_cases e:p=x.path
 ·subst e;rw [qcT,Maps.has_put_same hm (k:=.string x.path) trivial];refine ⟨rfl,fun y hy z => ?_⟩;cases hy
  exact Maps.atKey_put_same hm (k:=.string x.path) trivial _ _
 have hne:(Lit.string p)≠.string x.path:=fun h=>e (by cases h;rfl)
 rw [qcs e,Maps.has_put_other hne];exact ⟨(h p).1,fun y hy z=>by rw [Maps.atKey_put_other hne];exact (h p).2 y hy z⟩
theorem Has.same {D:DataW Nd} {l m:List It} (h:Has D l) (e:∀ p,at? l p=at? m p):Has D m:=fun p=>by rw [←e p];exact h p
theorem qmR {l:List It} {x:It} (h:∀ y∈l,y.path≠x.path):setIt l x=l++[x]:=by
 unfold setIt;rw [List.filter_eq_self.2 (fun y hy=>by simpa using h y hy)]
theorem TreeAt.store {w:World} {b:Nat} {l:List It} (h:TreeAt w b l) (hn:(l.map (·.path)).Nodup) (hl:l.length<maxLen) (x:It) (hp:x.path.length≤maxLen) :
 ∃ w',(Instr.mapUpdate 77 (.map (some b)) (.string (txt x.path)) (ndv (nd x))).run Tryz.prog w=.ok () w'∧TreeAt w' b (setIt l x)∧w.mapTurned w' b:=by
 obtain ⟨D,ho,hh⟩:=h;obtain ⟨w',h1,h2,h3⟩:=ho.store law9 Tryz.underlying77 (by rw [qcY ho hh hn];exact hl) (key9 hp) (qc0 (nd x));exact ⟨w',h1,⟨_,tight h2,hh.put ho.isMap x⟩,h3⟩
theorem qik (n:Int) (w:World):(Instr.makeMap 77 (some (.int .i64 n))).run Tryz.prog w=.ok (.map (some w.heap.size)) (w.alloc (.map #[] 0)):=by
 simp [Instr.makeMap,run_underlying Tryz.underlying77,asInt,asIntOf,Result.andThen]
def qaX (l:List It) (p:Bs):Nat→Nat→Int
 | 0,_=>0
 | n+1,k=>if p.getD k 0=47 then
    match at? l (p.take k) with
    | none=>4
    | some x=>if x.dir then qaX l p n (k+1) else 6
   else qaX l p n (k+1)
def enterE (l:List It) (p:Bs):Int:=qaX l p p.length 0
theorem qbl (l:List It) (p:Bs) (hn:(l.map (·.path)).Nodup):∀ n k,qaX l p n k=0↔∀ i,k≤i→i<k+n→p.getD i 0=47→dirAt l (p.take i)=true
 | 0,k=>by simp [qaX];intro i h1 h2;omega
 | n+1,k=>by
   unfold qaX;by_cases h:p.getD k 0=47
   ·rw [if_pos h];have hd:=qnf hn (p.take k);cases ha:at? l (p.take k) with
    | none =>
      rw [ha] at hd;simp only
      constructor
      ·intro h';cases h'
      intro h'
      have:=h' k (Nat.le_refl _) (by omega) h
      rw [hd] at this;cases this
    | some x =>
      rw [ha] at hd;simp only;simp only at hd;by_cases hx:x.dir=true
      ·rw [if_pos hx,qbl l p hn n (k+1)]
       constructor
       ·intro h' i h1 h2 h3;by_cases e:i=k
        ·subst e;rw [hd,hx]
        exact h' i (by omega) (by omega) h3
       exact fun h' i h1 h2 h3=>h' i (by omega) (by omega) h3
      rw [if_neg hx]
      constructor
      ·intro h';cases h'
      intro h'
      have:=h' k (Nat.le_refl _) (by omega) h
      rw [hd] at this;exact absurd this hx
   rw [if_neg h,qbl l p hn n (k+1)]
   constructor
   ·intro h' i h1 h2 h3;by_cases e:i=k
    ·subst e;exact absurd h3 h
    exact h' i (by omega) (by omega) h3
   exact fun h' i h1 h2 h3=>h' i (by omega) (by omega) h3
theorem qcM (l:List It) (p:Bs) (hn:(l.map (·.path)).Nodup):qa3 l p=decide (enterE l p=0):=by
 unfold qa3 enterE;rw [Bool.eq_iff_iff,decide_eq_true_iff,qbl l p hn,List.all_eq_true]
 constructor
 ·intro h i _ h2 h3
  have:=h i (List.mem_range.2 (by omega))
  rw [h3] at this;simpa using this
 intro h i hi;have hi':=List.mem_range.1 hi;by_cases e:p.getD i 0=47
 ·have:=h i (Nat.zero_le _) (by omega) e
  simp [this]
 have e':decide (p.getD i 0≠47)=true:=by simpa using e
 rw [e'];rfl
theorem qkD (b:Nat) (l:List It) (p:Bs) (w:World) (hT:TreeAt w b l) (hp:p.length≤1048576) :
 Calls Tryz.prog 73 #[.map (some b),.string (txt p)] w fun e w'=>Below w.heap.size w w'∧e=.returned (.int .i64 (enterE l p)):=by
 obtain ⟨X,hX⟩:∃ X,X=txt p:=⟨_,rfl⟩;have Sx:X.size=p.length:=by rw [hX,qaa]
 have gx:Hid (∀ k (h:k<X.size),X[k]'h=p.getD k 0):=fun k h=>by subst hX;exact qaR p k h
 have ex:Hid (∀ b,X.extract 0 b=txt (p.take b)):=fun b=>by subst hX;rw [qae];simp
 rw [←hX];have Hx:=hidI Sx;have HT:=hidI hT;have hX9:X.size≤1048576:=by omega
 clear hX Sx hp hT;go_enter Tryz.func73,Tryz.ntmps73
 go_wp2
 go_loopw [10] (fun i wr=>∃ k:Nat,k≤X.size∧i=.int .i64 k∧Hid (Below w.heap.size w wr)∧Hid (enterE l p=qaX l p (X.size - k) k)) (fun i _=>X.size - (intOf i).toNat)
 case atStart=>exact ⟨0,Nat.zero_le _,rfl,hidI (Below.refl _ _),by have:=Hx.out;exact hidI (by rw [this];rfl)⟩
 case round =>
  obtain ⟨k,hk,rfl,Hb,He⟩:=hrel;by_cases hlt:k<X.size
  ·have hg:=gx.out k hlt;have hs:X.size - k=(X.size - (k+1))+1:=by omega
   have He':=He.out;rw [hs] at He';by_cases h47:X[k]'hlt=47
   ·have h47':(((X[k]'hlt).toNat:Int) != 47)=false:=by rw [h47];rfl
    have hT':=HT.out.below Hb.out HT.out.lt;have hkl:(p.take k).length≤maxLen:=by rw [List.length_take];unfold maxLen;have:=Hx.out;omega
    have hu:qaX l p (X.size - (k+1)+1) k=match at? l (p.take k) with | none=>4 | some x=>if x.dir then qaX l p (X.size - (k+1)) (k+1) else 6:=by
     show (if p.getD k 0=47 then _ else _)=_;rw [if_pos (by rw [←hg];exact h47)]
    rw [hu] at He';have hsz:=Hb.out.size;cases ha:at? l (p.take k) with
    | none =>
      rw [ha] at He';have hl:=(hT'.look_none hkl ha).1;rw [←ex.out] at hl;have HE:=hidI He';unfold ndv at hl;clear He' hu hg h47 hs ha hT';go_wp2;go_ret
      exact ⟨Hb.out.alloc hsz _,qax HE.out.symm⟩
    | some x =>
      rw [ha] at He';have hl:=(hT'.look_some hkl ha).1;rw [←ex.out] at hl;unfold ndv nd at hl;obtain ⟨xd,hxd⟩:∃ o,o=x.dir:=⟨_,rfl⟩;simp only at He' hl;rw [←hxd] at He' hl;clear hu hg h47 hs ha hT' hxd;cases xd with
      | true =>
        have HE:Hid (enterE l p=qaX l p (X.size - (k+1)) (k+1)):=hidI (by simpa using He');clear He';go_wp2;go_roundw
        case rel=>exact ⟨k+1,by omega,by go_num,hidI (Hb.out.alloc hsz _),HE⟩
        case measure=>simp [intOf];omega
      | false =>
        have HE:Hid (enterE l p=6):=hidI (by simpa using He');clear He';go_wp2;go_ret
        exact ⟨Hb.out.alloc hsz _,qax HE.out.symm⟩
   have h47':(((X[k]'hlt).toNat:Int) != 47)=true:=bne_iff_ne.2 fun h=>h47 (UInt8.toNat_inj.1 (by have:(47:UInt8).toNat=47:=rfl;omega))
   have HE:Hid (enterE l p=qaX l p (X.size - (k+1)) (k+1)):=by
    refine He'.trans ?_;show (if p.getD k 0=47 then _ else _)=_;rw [if_neg (by rw [←hg];exact h47)]
   clear He' hg h47 hs;go_wp2;go_roundw
   case rel=>exact ⟨k+1,by omega,by go_num,Hb,HE⟩
   case measure=>simp [intOf];omega
  have HE:Hid (enterE l p=0):=by
   have:=He.out
   rw [show X.size - k=0 by omega] at this;exact this
  go_wp2;go_ret
  exact ⟨Hb.out,qax HE.out.symm⟩
end Go.Proofs.YtodmdkhdbfbfgaaGreatDoor
