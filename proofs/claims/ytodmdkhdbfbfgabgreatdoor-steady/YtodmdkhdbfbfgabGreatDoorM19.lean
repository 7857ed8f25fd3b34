/- Lemmas. -/
import Derived.Test.YtodmdkhdbfbfgabGreatDoorM17
import Derived.Test.YtodmdkhdbfbfgabGreatDoorM18
set_option linter.unusedVariables false
set_option linter.unusedSimpArgs false
set_option maxRecDepth 100000
set_option maxHeartbeats 8000000
namespace Go.Proofs.YtodmdkhdbfbfgabGreatDoor.S1
open Go.RowKit Pk
open Go.Nt (Fp lookF hasL scanF nxt dist Free nxt_free nxt_here qbE)
def numAt (w:World) (g:Nat):Nat:=match w.cell? ⟨g,1,none⟩ with
 | some (.int _ z)=>z.toNat
 | _=>0
def NextPost (w:World) (lo hi cb lb:Nat) (L:Loc) (v0:Lv) (kv qv:Option Nat) (nk nq:Nat) (m:M) (K Q:Nat→Bool) (b p:Nat) (S:Nat→Nat→Bool) (e:Ending) (w':World):Prop:=
 ∃ tb nt,e=.returned (.agg #[.int .i64 (badN m:Nat),.int .u32 (nxt (S (badN m)) ((v0.nn+1)%4294967296):Nat)])∧LogM w' lo hi cb lb L ⟨v0.nb,v0.nn,some tb⟩ kv qv nk nq m K Q b p∧LbAt w' tb nt S∧nt≤100000∧¬LogS lo hi lb kv qv tb∧(v0.tk=some tb∨w.heap.size≤tb)∧Fm (fun k=>k=lb) w w'
theorem logS_lt {w:World} {lo hi cb lb:Nat} {L:Loc} {v0:Lv} {kv qv:Option Nat} {nk nq:Nat} {m:M} {K Q:Nat→Bool} {b p:Nat} (h:LogM w lo hi cb lb L v0 kv qv nk nq m K Q b p) {k:Nat} (hk:LogS lo hi lb kv qv k):k<w.heap.size:=by
 rcases hk with ⟨_,h2⟩ | rfl | h3 | h3
 ·exact Nat.lt_of_lt_of_le h2 h.sz
 ·exact h.log.lt
 ·rcases h.kept with ⟨h4,_⟩ | ⟨g,h4,h5⟩
  ·rw [h4] at h3;cases h3
  ·rw [h4] at h3;cases h3;exact h5.lt
 ·rcases h.clean with ⟨h4,_⟩ | ⟨g,h4,h5⟩
  ·rw [h4] at h3;cases h3
  ·rw [h4] at h3;cases h3;exact h5.lt
theorem next_some (w:World) (lo hi cb lb:Nat) (L:Loc) (v0:Lv) (kv qv:Option Nat) (nk nq:Nat) (m:M) (K Q:Nat→Bool) (b p:Nat) (S:Nat→Nat→Bool) (tb nt:Nat) (h:LogM w lo hi cb lb L v0 kv qv nk nq m K Q b p) (htk:v0.tk=some tb) (hT:LbAt w tb nt S) (hnt100:nt≤100000) (hts:¬LogS lo hi lb kv qv tb) (hfree:Free (S (badN m))) :
 Calls Tryz.prog 77 #[.pointer (some ⟨lb,0,none⟩)] w fun e w'=>NextPost w lo hi cb lb L v0 kv qv nk nq m K Q b p S e w':=by
 have HBd:=hidI (fun (V:World) (hV:CP V lo hi cb L m)=>qbn V lo hi cb L m h.wf hV);have h32:=h.wf.nb2;have hbn:=badN_le m;obtain ⟨bn,hbne⟩:∃ bn,bn=badN m:=⟨_,rfl⟩;rw [←hbne] at HBd hbn;unfold NextPost;rw [←hbne];rw [←hbne] at hfree;obtain ⟨Sb,hSb⟩:∃ Sb,Sb=S bn:=⟨_,rfl⟩;have HSb:=hidI hSb;rw [←hSb] at hfree;have HFree:=hidI hfree;obtain ⟨k0,hk0e⟩:∃ k0,k0=(v0.nn+1)%4294967296:=⟨_,rfl⟩;have hk0:k0<4294967296:=by rw [hk0e];exact Nat.mod_lt _ (by decide)
 have hk0i:((v0.nn:Int)+1)%4294967296=(k0:Nat):=by rw [hk0e];omega
 have hk0w:IntKind.u32.wrap ((v0.nn:Int)+1)=(k0:Nat):=by rw [IntKind.wrap_u32];exact hk0i
 rw [←hk0e];have q130:∀ (w:World) (r:Option Nat),(binOp .eql 107 (.map r) (.map none)).run Tryz.prog w=.ok (.bool r.isNone) w:=fun w r=>run_eql_map_nil w _ _ _ r Tryz.underlying107
 obtain ⟨W0,hW0⟩:∃ W0,W0=w.alloc (.cells #[.int .i64 0,.int .u32 0] 74):=⟨_,rfl⟩;obtain ⟨rb,hrb⟩:∃ rb,rb=w.heap.size:=⟨_,rfl⟩;have hR0:W0.heap[rb]? = some (.cells #[.int .i64 0,.int .u32 0] 74 (0,0)):=by rw [hW0,hrb];exact heap_alloc_new _ _
 have hB0:Below w.heap.size w W0:=by rw [hW0];exact (Below.refl _ w).alloc (Nat.le_refl _) _
 have hL0:=h.new hB0;have Hrbw:=hidI (Nat.le_of_eq hrb.symm);have H0:=hidI h;have HW0:=hidI hW0;have Hrb:=hidI hrb;have hlbw:=h.log.lt;have hlr:lb≠rb:=by rw [hrb];omega
 have hT0:=hT.of_block (hB0.block tb hT.lt);have ev:v0=⟨v0.nb,v0.nn,some tb⟩:=by rw [←htk]
 obtain ⟨Wa,hWa⟩:∃ Wa,Wa=W0:=⟨_,rfl⟩;rw [←hWa] at hR0 hL0 hT0;have HRa:=hidI hR0;have HLa:Hid (LogM Wa lo hi cb lb L ⟨v0.nb,v0.nn,some tb⟩ kv qv nk nq m K Q b p):=hidI (by rw [←ev];exact hL0);have HTa:=hidI hT0;have HFa:Hid (Fm (fun k=>k=lb) w Wa):=hidI (by rw [hWa];exact Fm.of_new hB0);have Hts:=hidI hts;have Htk:Hid (v0.tk=some tb∨w.heap.size≤tb):=hidI (.inl htk);have hrt:rb≠tb:=by rw [hrb];exact fun e=>by have:=hT.lt;omega
 have t4a:=HLa.out.log.t4;rw [hWa] at t4a;have t4a':W0.cell? ⟨lb,4,none⟩=some (.map (some tb)):=t4a;have HWa:=hidI hWa;clear h hT htk hts hbne hSb hfree hk0e hW0 hrb hR0 hB0 hL0 hT0 t4a hWa ev;go_enter Tryz.func77,Tryz.ntmps77
 go_wp2_with (first | (rw [←HW0.out,←Hrb.out]) | (rw [←HW0.out]) | fail);rw [←HWa.out];clear t4a';have a0:=HLa.out.log.c0;have a2:=HLa.out.log.n1;have a0d:Wa.drew.cell? ⟨lb,0,none⟩=some (.pointer (some ⟨cb,0,none⟩)):=a0;have a2d:Wa.drew.cell? ⟨lb,2,none⟩=some (.int .u32 (v0.nn:Nat)):=a2;have HK:Hid (∀ V:World,(∀ k,k<Wa.heap.size→V.heap[k]? = Wa.heap[k]?)→V.cell? ⟨lb,0,none⟩=some (.pointer (some ⟨cb,0,none⟩))∧V.cell? ⟨lb,2,none⟩=some (.int .u32 (v0.nn:Nat))):=hidI (fun V hV=>⟨by rw [World.cell?_of_block (hV lb HLa.out.log.lt)];exact a0,by rw [World.cell?_of_block (hV lb HLa.out.log.lt)];exact a2⟩);have hrb1:=qaa HRa.out;have htb1:=HTa.out.lt;go_wp2_with fail;refine wp_region_held_drew (S:=fun V=>V.cell? ⟨lb,0,none⟩=some (.pointer (some ⟨cb,0,none⟩))∧V.cell? ⟨lb,2,none⟩=some (.int .u32 (v0.nn:Nat))) (by kernel_rfl) ⟨a0d,a2d⟩ (fun hHeld => ?_)
 refine tk 0 ⟨some 18,.move (.tmp 0),_,_,_,none⟩ (.pointer (some ⟨lb,0,none⟩)) rfl (fun w h=>by go_simp) hHeld ?_;simp only [zP,List.set];refine tk 1 ⟨some 19,.nilCheck (.tmp 18),_,_,_,none⟩ (.pointer (some ⟨lb,0,none⟩)) rfl (fun w h=>by go_simp) hHeld ?_;simp only [zP,List.set];refine tk 2 ⟨some 20,.fieldAddr 124 (.tmp 19) 0,_,_,_,none⟩ (.pointer (some ⟨lb,0,none⟩)) rfl (fun w h=>by go_simp) hHeld ?_;simp only [zP,List.set];refine tk 3 ⟨some 21,.load 24 (.tmp 20),_,_,_,none⟩ (.pointer (some ⟨cb,0,none⟩)) rfl (fun w h=>by go_simp) hHeld ?_;simp only [zP,List.set]
 refine tk 5 ⟨some 23,.move (.tmp 0),_,_,_,none⟩ (.pointer (some ⟨lb,0,none⟩)) rfl (fun w h=>by go_simp) hHeld ?_;simp only [zP,List.set];refine tk 6 ⟨some 24,.nilCheck (.tmp 23),_,_,_,none⟩ (.pointer (some ⟨lb,0,none⟩)) rfl (fun w h=>by go_simp) hHeld ?_;simp only [zP,List.set];refine tk 7 ⟨some 25,.fieldAddr 124 (.tmp 24) 1,_,_,_,none⟩ (.pointer (some ⟨lb,1,none⟩)) rfl (fun w h=>by go_simp) hHeld ?_;simp only [zP,List.set];refine tk 8 ⟨some 26,.fieldAddr 74 (.tmp 25) 1,_,_,_,none⟩ (.pointer (some ⟨lb,2,none⟩)) rfl (fun w h=>by go_simp) hHeld ?_;simp only [zP,List.set]
 refine tk 9 ⟨some 27,.load 72 (.tmp 26),_,_,_,none⟩ (.int .u32 (v0.nn:Nat)) rfl (fun w h=>by go_simp) hHeld ?_;simp only [zP,List.set];refine tk 10 ⟨some 28,.binOp .add 72 (.tmp 27) (.const (.int .u32 1)) 72,_,_,_,none⟩ (.int .u32 (k0:Nat)) rfl (fun w h=>by go_simp) hHeld ?_;simp only [zP,List.set];refine wpAnyH_ready (rs:=[4,12]) (by kernel_rfl) (by simp) ?_;refine AllReadyH.cons rfl (fun K hK => ?_) (AllReadyH.cons rfl (fun K hK => ?_) AllReadyH.nil)
 ·go_simp;refine (HBd.out Wa.drew HLa.out.drew.chip).mono ?_;rintro e w' ⟨rfl,hw⟩;have hw':=hw.symm;subst hw';clear hw;refine hK.out _ _ ⟨a0d,a2d⟩ (fun hHeld => ?_);clear hK K;refine tk 11 ⟨some 29,.build 74 #[(0,.tmp 22),(1,.tmp 28)],_,_,_,none⟩ (.agg #[.int .i64 (bn:Nat),.int .u32 (k0:Nat)]) rfl (fun w h=>by go_simp) hHeld ?_;simp only [zP,List.set];refine rd 12 rfl (fun K hK => ?_);go_simp;refine hK.out _ _ (HK.out _ fun k hk=>Below.heap_alloc Wa _ k hk) (fun hHeld => ?_);clear hK K;refine rd 13 rfl (fun K hK => ?_);go_simp;refine hK.out _ _ (HK.out _ fun k hk=>Below.heap_alloc Wa _ k hk) (fun hHeld => ?_);clear hK K;refine wpAnyH_done (by kernel_rfl) ?_ _;clear hHeld
  obtain ⟨Wb,hWb⟩:∃ Wb,Wb=(Wa.alloc (.cells #[.int .i64 (bn:Nat),.int .u32 (k0:Nat)] 74)).drew:=⟨_,rfl⟩;obtain ⟨nkb,hnkb⟩:∃ nkb,nkb=Wa.heap.size:=⟨_,rfl⟩;rw [←hWb];simp only [←hnkb];have HNb:Hid (Wb.heap[nkb]? = some (.cells #[.int .i64 (bn:Nat),.int .u32 (k0:Nat)] 74 (0,0))):=hidI (by rw [hWb,hnkb];exact heap_alloc_new _ _);have hBb:Below Wa.heap.size Wa Wb:=by rw [hWb];exact qaf ((Below.refl _ Wa).alloc (Nat.le_refl _) _)
  have hnk1:Wa.heap.size≤nkb:=Nat.le_of_eq hnkb.symm;clear hWb hnkb;have HLb:=hidI (HLa.out.new hBb);have HTb:=hidI (HTa.out.of_block (hBb.block tb htb1));have HRb:=hidI ((hBb.block rb hrb1).trans HRa.out);have HFb:Hid (Fm (fun k=>k=lb) w Wb):=hidI (HFa.out.trans (Fm.of_new hBb));have hnkw0:w.heap.size≤nkb:=Nat.le_trans HFa.out.size hnk1;have hnr:nkb≠rb:=by omega
  have hnt:nkb≠tb:=by omega
  have hns:∀ k,LogS lo hi lb kv qv k→k≠nkb:=fun k hk e=>by have:=logS_lt HLa.out hk;omega
  have Hns:=hidI hns;clear hBb HK a0 a2 a0d a2d hns;go_wp2_with fail
  go_loopw [] (fun wr=>∃ k:Nat,k<4294967296∧Hid (wr.heap[nkb]? = some (.cells #[.int .i64 (bn:Nat),.int .u32 (k:Nat)] 74 (0,0)))∧Hid (nxt Sb k=nxt Sb k0)∧Hid (LogM wr lo hi cb lb L ⟨v0.nb,v0.nn,some tb⟩ kv qv nk nq m K Q b p)∧Hid (LbAt wr tb nt S)∧Hid (wr.heap[rb]? = some (.cells #[.int .i64 0,.int .u32 0] 74 (0,0)))∧Hid (Fm (fun k=>k=lb) w wr)) (fun wr=>dist Sb 700 (numAt wr nkb))
  case atStart=>exact ⟨k0,hk0,HNb,hidI rfl,HLb,HTb,HRb,HFb⟩
  case round =>
   clear HLb HTb HRb HFb HNb HRa HTa HLa HFa;obtain ⟨k,hk,HN1,HE,HL1,HT1,HR1,HF1⟩:=hrel;have t4:=HL1.out.log.t4;have n0:wr.cell? ⟨nkb,0,none⟩=some (.int .i64 (bn:Nat)):=by rw [cell_of_row wr nkb 0 _ 74 (0,0) HN1.out];rfl
   have n1:wr.cell? ⟨nkb,1,none⟩=some (.int .u32 (k:Nat)):=by rw [cell_of_row wr nkb 1 _ 74 (0,0) HN1.out];rfl
   have t4d:wr.drew.cell? ⟨lb,4,none⟩=some (.map (some tb)):=t4;have n0d:wr.drew.cell? ⟨nkb,0,none⟩=some (.int .i64 (bn:Nat)):=n0;have n1d:wr.drew.cell? ⟨nkb,1,none⟩=some (.int .u32 (k:Nat)):=n1;have A:=hidI (qbW tb nt bn k S wr.drew (HT1.out.of_block rfl) (by omega) (by omega));unfold lv at A;rw [show S bn k=Sb k by rw [HSb.out]] at A;have hlbw:=HL1.out.log.lt;have hnkw:=qaa HN1.out;have hrbw:=qaa HR1.out;have htbw:=HT1.out.lt;have Hnum:Hid (numAt wr nkb=k):=hidI (by unfold numAt;rw [n1];simp);obtain ⟨r,hr⟩:∃ r,r=Sb k:=⟨_,rfl⟩;rw [←hr] at A;have Hr:=hidI hr;clear hr;go_wp2_with fail;refine wp_region_held_drew (S:=fun V=>V.cell? ⟨lb,4,none⟩=some (.map (some tb))∧V.cell? ⟨nkb,0,none⟩=some (.int .i64 (bn:Nat))∧V.cell? ⟨nkb,1,none⟩=some (.int .u32 (k:Nat))) (by kernel_rfl) ⟨t4d,n0d,n1d⟩ (fun hHeld => ?_)
   refine tk 0 ⟨some 30,.move (.tmp 0),_,_,_,none⟩ (.pointer (some ⟨lb,0,none⟩)) rfl (fun w h=>by go_simp) hHeld ?_;simp only [zP,List.set];refine tk 1 ⟨some 31,.nilCheck (.tmp 30),_,_,_,none⟩ (.pointer (some ⟨lb,0,none⟩)) rfl (fun w h=>by go_simp) hHeld ?_;simp only [zP,List.set];refine tk 2 ⟨some 32,.fieldAddr 124 (.tmp 31) 3,_,_,_,none⟩ (.pointer (some ⟨lb,4,none⟩)) rfl (fun w h=>by go_simp) hHeld ?_;simp only [zP,List.set];refine tk 3 ⟨some 33,.load 107 (.tmp 32),_,_,_,none⟩ (.map (some tb)) rfl (fun w h=>by go_simp) hHeld ?_;simp only [zP,List.set]
   refine tk 4 ⟨some 34,.load 74 (.tmp 3),_,_,_,none⟩ (.agg #[.int .i64 (bn:Nat),.int .u32 (k:Nat)]) rfl (fun w h=>by go_simp) hHeld ?_;simp only [zP,List.set];refine rd 5 rfl (fun K hK => ?_);go_simp;refine A.out.mono ?_;rintro e W2 ⟨rfl,hb2⟩;have hb2':Below wr.heap.size wr W2:=⟨hb2.os,hb2.tape,hb2.output,hb2.size,hb2.block⟩;have t42:W2.cell? ⟨lb,4,none⟩=some (.map (some tb)):=by rw [hb2'.cell (p:=⟨lb,4,none⟩) hlbw];exact t4
   have n02:W2.cell? ⟨nkb,0,none⟩=some (.int .i64 (bn:Nat)):=by rw [hb2'.cell (p:=⟨nkb,0,none⟩) hnkw];exact n0
   have n12:W2.cell? ⟨nkb,1,none⟩=some (.int .u32 (k:Nat)):=by rw [hb2'.cell (p:=⟨nkb,1,none⟩) hnkw];exact n1
   refine hK.out _ _ ⟨t42,n02,n12⟩ (fun hHeld => ?_);refine wpAnyH_done (by kernel_rfl) ?_ _;clear hHeld hK K;have HL2:=hidI (HL1.out.new hb2');have HT2:=hidI (HT1.out.of_block (hb2'.block tb htbw));have HR2:=hidI ((hb2'.block rb hrbw).trans HR1.out);have HN2:=hidI ((hb2'.block nkb hnkw).trans HN1.out);have HF2:Hid (Fm (fun k=>k=lb) w W2):=hidI (HF1.out.trans (Fm.of_new hb2'));have fz1:=frozen_of_row W2 nkb 1 _ 74 HN2.out;clear A hb2 hb2' HL1 HT1 HR1 HN1 HF1 t4 n0 n1 t4d n0d n1d t42;cases r with
   | true =>
     obtain ⟨hs1,hs2⟩:=qbE HFree.out hk Hr.out.symm;have Hs1:=hidI hs1;have Hs2:=hidI hs2;obtain ⟨k1,hk1⟩:∃ k1,k1=(k+1)%4294967296:=⟨_,rfl⟩;have hk1i:((k:Int)+1)%4294967296=(k1:Nat):=by rw [hk1];omega
     have hk1l:k1<4294967296:=by rw [hk1];exact Nat.mod_lt _ (by decide)
     rw [←hk1] at Hs1 Hs2;obtain ⟨W3,hW3⟩:∃ W3,W3=W2.setCell ⟨nkb,1,none⟩ (.int .u32 (k1:Nat)):=⟨_,rfl⟩;have HW3:=hidI hW3;have hsz3:W3.heap.size=W2.heap.size:=by rw [hW3];simp
     have eo:∀ j,j≠nkb→W3.heap[j]? = W2.heap[j]? := fun j hj=>by rw [hW3];exact Below.heap_setCell W2 ⟨nkb,1,none⟩ _ j hj
     have HN3:Hid (W3.heap[nkb]? = some (.cells #[.int .i64 (bn:Nat),.int .u32 (k1:Nat)] 74 (0,0))):=hidI (by rw [hW3];exact heap_setCell_same _ nkb 1 _ 74 _ HN2.out);have HL3:=hidI (HL2.out.of_blocks (w':=W3) (by rw [hsz3];exact HL2.out.sz) fun j hj _=>eo j (Hns.out j hj));have HT3:=hidI (HT2.out.of_block (eo tb (fun e=>hnt e.symm)));have HR3:=hidI ((eo rb (fun e=>hnr e.symm)).trans HR2.out);have HF3:Hid (Fm (fun k=>k=lb) w W3):=hidI (by rw [hW3];exact HF2.out.set (g:=nkb) (fun h=>absurd h (by omega)) 1 _);have Hnum3:Hid (numAt W3 nkb=k1):=hidI (by unfold numAt;rw [cell_of_row W3 nkb 1 _ 74 (0,0) HN3.out];simp);clear hs1 hs2 hk1 hW3 eo hsz3 HL2 HT2 HR2 HN2 HF2;go_wp2_with (first | (rw [hk1i,←HW3.out]) | (rw [←HW3.out]) | fail);go_roundw
     case rel=>exact ⟨k1,hk1l,HN3,hidI (by rw [←Hs1.out];exact HE.out),HL3,HT3,HR3,HF3⟩
     case measure=>rw [Hnum3.out,Hnum.out];exact Hs2.out
   | false =>
     have HX:Hid (nxt Sb k0=k):=hidI (by rw [←HE.out];exact nxt_here hk Hr.out.symm);have q0:W2.cell? ⟨rb,0,none⟩=some (.int .i64 0):=by rw [cell_of_row W2 rb 0 _ 74 (0,0) HR2.out];rfl
     have q1:W2.cell? ⟨rb,1,none⟩=some (.int .u32 0):=by rw [cell_of_row W2 rb 1 _ 74 (0,0) HR2.out];rfl
     have f0:=frozen_of_row W2 rb 0 _ 74 HR2.out;have f1:=frozen_of_row W2 rb 1 _ 74 HR2.out;have hrs:∀ j,LogS lo hi lb kv qv j→j≠rb:=fun j hj e=>by have h9:=logS_lt H0.out hj;have:=Hrbw.out;omega
     have eo:∀ j,j≠rb→((W2.setCell ⟨rb,0,none⟩ (.int .i64 (bn:Nat))).setCell ⟨rb,1,none⟩ (.int .u32 (k:Nat))).heap[j]? = W2.heap[j]? := fun j hj=>(Below.heap_setCell _ ⟨rb,1,none⟩ _ j hj).trans (Below.heap_setCell _ ⟨rb,0,none⟩ _ j hj)
     have HL3:=hidI (HL2.out.of_blocks (w':=(W2.setCell ⟨rb,0,none⟩ (.int .i64 (bn:Nat))).setCell ⟨rb,1,none⟩ (.int .u32 (k:Nat))) (by have:=HL2.out.sz;simpa using this) fun j hj _=>eo j (hrs j hj));have HT3:=hidI (HT2.out.of_block (eo tb (fun e=>hrt e.symm)));have HF3:Hid (Fm (fun k=>k=lb) w ((W2.setCell ⟨rb,0,none⟩ (.int .i64 (bn:Nat))).setCell ⟨rb,1,none⟩ (.int .u32 (k:Nat)))):=hidI ((HF2.out.set (g:=rb) (fun h=>absurd h (by have:=Hrbw.out;omega)) 0 _).set (g:=rb) (fun h=>absurd h (by have:=Hrbw.out;omega)) 1 _);clear eo hrs;go_wp2_with fail;refine bodyPost_ret (v:=.agg #[.int .i64 (bn:Nat),.int .u32 (k:Nat)]) ?_ rfl ⟨tb,nt,?_,HL3.out,HT3.out,hnt100,Hts.out,Htk.out,HF3.out⟩
     ·simp [results,go_sem,q0,q1]
     ·rw [HSb.out] at HX;rw [HX.out]
 ·go_simp;obtain ⟨V1,hV1⟩:∃ V1,V1=(Wa.alloc (.cells #[.int .i64 0,.int .u32 0] 74)).drew:=⟨_,rfl⟩;obtain ⟨nkb,hnkb⟩:∃ nkb,nkb=Wa.heap.size:=⟨_,rfl⟩;refine hK.out _ _ (HK.out _ fun k hk=>Below.heap_alloc Wa _ k hk) (fun hHeld => ?_);clear hK K;rw [←hV1];simp only [←hnkb];have hrow:V1.heap[nkb]? = some (.cells #[.int .i64 0,.int .u32 0] 74 (0,0)):=by rw [hV1,hnkb];exact heap_alloc_new _ _
  have hBv:Below Wa.heap.size Wa V1:=by rw [hV1];exact qaf ((Below.refl _ Wa).alloc (Nat.le_refl _) _)
  have hnk1:Wa.heap.size≤nkb:=Nat.le_of_eq hnkb.symm;have HV1:=hidI hV1;have HNk:=hidI hnkb;clear hV1 hnkb;refine rd 4 rfl (fun K hK => ?_);go_simp;refine (HBd.out V1 (HLa.out.new hBv).chip).mono ?_;rintro e w' ⟨rfl,hw⟩;have hw':=hw.symm;subst hw';clear hw;refine hK.out _ _ (HK.out _ fun k hk=>hBv.block k hk) (fun hHeld => ?_);clear hK K;refine tk 11 ⟨some 29,.build 74 #[(0,.tmp 22),(1,.tmp 28)],_,_,_,none⟩ (.agg #[.int .i64 (bn:Nat),.int .u32 (k0:Nat)]) rfl (fun w h=>by go_simp) hHeld ?_;simp only [zP,List.set];have s0:V1.cell? ⟨nkb,0,none⟩=some (.int .i64 0):=by rw [cell_of_row V1 nkb 0 _ 74 (0,0) hrow];rfl
  have s1:V1.cell? ⟨nkb,1,none⟩=some (.int .u32 0):=by rw [cell_of_row V1 nkb 1 _ 74 (0,0) hrow];rfl
  have z0:=frozen_of_row V1 nkb 0 _ 74 hrow;have z1:=frozen_of_row V1 nkb 1 _ 74 hrow;refine rd 13 rfl (fun K hK => ?_);go_simp;obtain ⟨Wb,hWb⟩:∃ Wb,Wb=(V1.setCell ⟨nkb,0,none⟩ (.int .i64 (bn:Nat))).setCell ⟨nkb,1,none⟩ (.int .u32 (k0:Nat)):=⟨_,rfl⟩;rw [←hWb];have HNb:Hid (Wb.heap[nkb]? = some (.cells #[.int .i64 (bn:Nat),.int .u32 (k0:Nat)] 74 (0,0))):=hidI (by rw [hWb];exact heap_setCell_same _ nkb 1 _ 74 _ (heap_setCell_same _ nkb 0 _ 74 _ hrow));have hBb:Below Wa.heap.size Wa Wb:=by rw [hWb];exact (hBv.setCell (by simp;omega) _).setCell (by simp;omega) _
  refine hK.out _ _ (HK.out _ fun k hk=>hBb.block k hk) (fun hHeld => ?_);clear hK K;refine wpAnyH_done (by kernel_rfl) ?_ _;clear hHeld s0 s1 z0 z1 hrow hBv hWb;have HLb:=hidI (HLa.out.new hBb);have HTb:=hidI (HTa.out.of_block (hBb.block tb htb1));have HRb:=hidI ((hBb.block rb hrb1).trans HRa.out);have HFb:Hid (Fm (fun k=>k=lb) w Wb):=hidI (HFa.out.trans (Fm.of_new hBb));have hnkw0:w.heap.size≤nkb:=Nat.le_trans HFa.out.size hnk1;have hnr:nkb≠rb:=by omega
  have hnt:nkb≠tb:=by omega
  have hns:∀ k,LogS lo hi lb kv qv k→k≠nkb:=fun k hk e=>by have:=logS_lt HLa.out hk;omega
  have Hns:=hidI hns;clear hBb HK a0 a2 a0d a2d hns;go_wp2_with fail
  go_loopw [] (fun wr=>∃ k:Nat,k<4294967296∧Hid (wr.heap[nkb]? = some (.cells #[.int .i64 (bn:Nat),.int .u32 (k:Nat)] 74 (0,0)))∧Hid (nxt Sb k=nxt Sb k0)∧Hid (LogM wr lo hi cb lb L ⟨v0.nb,v0.nn,some tb⟩ kv qv nk nq m K Q b p)∧Hid (LbAt wr tb nt S)∧Hid (wr.heap[rb]? = some (.cells #[.int .i64 0,.int .u32 0] 74 (0,0)))∧Hid (Fm (fun k=>k=lb) w wr)) (fun wr=>dist Sb 700 (numAt wr nkb))
  case atStart=>exact ⟨k0,hk0,HNb,hidI rfl,HLb,HTb,HRb,HFb⟩
  case round =>
   clear HLb HTb HRb HFb HNb HRa HTa HLa HFa;obtain ⟨k,hk,HN1,HE,HL1,HT1,HR1,HF1⟩:=hrel;have t4:=HL1.out.log.t4;have n0:wr.cell? ⟨nkb,0,none⟩=some (.int .i64 (bn:Nat)):=by rw [cell_of_row wr nkb 0 _ 74 (0,0) HN1.out];rfl
   have n1:wr.cell? ⟨nkb,1,none⟩=some (.int .u32 (k:Nat)):=by rw [cell_of_row wr nkb 1 _ 74 (0,0) HN1.out];rfl
   have t4d:wr.drew.cell? ⟨lb,4,none⟩=some (.map (some tb)):=t4;have n0d:wr.drew.cell? ⟨nkb,0,none⟩=some (.int .i64 (bn:Nat)):=n0;have n1d:wr.drew.cell? ⟨nkb,1,none⟩=some (.int .u32 (k:Nat)):=n1;have A:=hidI (qbW tb nt bn k S wr.drew (HT1.out.of_block rfl) (by omega) (by omega));unfold lv at A;rw [show S bn k=Sb k by rw [HSb.out]] at A;have hlbw:=HL1.out.log.lt;have hnkw:=qaa HN1.out;have hrbw:=qaa HR1.out;have htbw:=HT1.out.lt;have Hnum:Hid (numAt wr nkb=k):=hidI (by unfold numAt;rw [n1];simp);obtain ⟨r,hr⟩:∃ r,r=Sb k:=⟨_,rfl⟩;rw [←hr] at A;have Hr:=hidI hr;clear hr;go_wp2_with fail;refine wp_region_held_drew (S:=fun V=>V.cell? ⟨lb,4,none⟩=some (.map (some tb))∧V.cell? ⟨nkb,0,none⟩=some (.int .i64 (bn:Nat))∧V.cell? ⟨nkb,1,none⟩=some (.int .u32 (k:Nat))) (by kernel_rfl) ⟨t4d,n0d,n1d⟩ (fun hHeld => ?_)
   refine tk 0 ⟨some 30,.move (.tmp 0),_,_,_,none⟩ (.pointer (some ⟨lb,0,none⟩)) rfl (fun w h=>by go_simp) hHeld ?_;simp only [zP,List.set];refine tk 1 ⟨some 31,.nilCheck (.tmp 30),_,_,_,none⟩ (.pointer (some ⟨lb,0,none⟩)) rfl (fun w h=>by go_simp) hHeld ?_;simp only [zP,List.set];refine tk 2 ⟨some 32,.fieldAddr 124 (.tmp 31) 3,_,_,_,none⟩ (.pointer (some ⟨lb,4,none⟩)) rfl (fun w h=>by go_simp) hHeld ?_;simp only [zP,List.set];refine tk 3 ⟨some 33,.load 107 (.tmp 32),_,_,_,none⟩ (.map (some tb)) rfl (fun w h=>by go_simp) hHeld ?_;simp only [zP,List.set]
   refine tk 4 ⟨some 34,.load 74 (.tmp 3),_,_,_,none⟩ (.agg #[.int .i64 (bn:Nat),.int .u32 (k:Nat)]) rfl (fun w h=>by go_simp) hHeld ?_;simp only [zP,List.set];refine rd 5 rfl (fun K hK => ?_);go_simp;refine A.out.mono ?_;rintro e W2 ⟨rfl,hb2⟩;have hb2':Below wr.heap.size wr W2:=⟨hb2.os,hb2.tape,hb2.output,hb2.size,hb2.block⟩;have t42:W2.cell? ⟨lb,4,none⟩=some (.map (some tb)):=by rw [hb2'.cell (p:=⟨lb,4,none⟩) hlbw];exact t4
   have n02:W2.cell? ⟨nkb,0,none⟩=some (.int .i64 (bn:Nat)):=by rw [hb2'.cell (p:=⟨nkb,0,none⟩) hnkw];exact n0
   have n12:W2.cell? ⟨nkb,1,none⟩=some (.int .u32 (k:Nat)):=by rw [hb2'.cell (p:=⟨nkb,1,none⟩) hnkw];exact n1
   refine hK.out _ _ ⟨t42,n02,n12⟩ (fun hHeld => ?_);refine wpAnyH_done (by kernel_rfl) ?_ _;clear hHeld hK K;have HL2:=hidI (HL1.out.new hb2');have HT2:=hidI (HT1.out.of_block (hb2'.block tb htbw));have HR2:=hidI ((hb2'.block rb hrbw).trans HR1.out);have HN2:=hidI ((hb2'.block nkb hnkw).trans HN1.out);have HF2:Hid (Fm (fun k=>k=lb) w W2):=hidI (HF1.out.trans (Fm.of_new hb2'));have fz1:=frozen_of_row W2 nkb 1 _ 74 HN2.out;clear A hb2 hb2' HL1 HT1 HR1 HN1 HF1 t4 n0 n1 t4d n0d n1d t42;cases r with
   | true =>
     obtain ⟨hs1,hs2⟩:=qbE HFree.out hk Hr.out.symm;have Hs1:=hidI hs1;have Hs2:=hidI hs2;obtain ⟨k1,hk1⟩:∃ k1,k1=(k+1)%4294967296:=⟨_,rfl⟩;have hk1i:((k:Int)+1)%4294967296=(k1:Nat):=by rw [hk1];omega
     have hk1l:k1<4294967296:=by rw [hk1];exact Nat.mod_lt _ (by decide)
     rw [←hk1] at Hs1 Hs2;obtain ⟨W3,hW3⟩:∃ W3,W3=W2.setCell ⟨nkb,1,none⟩ (.int .u32 (k1:Nat)):=⟨_,rfl⟩;have HW3:=hidI hW3;have hsz3:W3.heap.size=W2.heap.size:=by rw [hW3];simp
     have eo:∀ j,j≠nkb→W3.heap[j]? = W2.heap[j]? := fun j hj=>by rw [hW3];exact Below.heap_setCell W2 ⟨nkb,1,none⟩ _ j hj
     have HN3:Hid (W3.heap[nkb]? = some (.cells #[.int .i64 (bn:Nat),.int .u32 (k1:Nat)] 74 (0,0))):=hidI (by rw [hW3];exact heap_setCell_same _ nkb 1 _ 74 _ HN2.out);have HL3:=hidI (HL2.out.of_blocks (w':=W3) (by rw [hsz3];exact HL2.out.sz) fun j hj _=>eo j (Hns.out j hj));have HT3:=hidI (HT2.out.of_block (eo tb (fun e=>hnt e.symm)));have HR3:=hidI ((eo rb (fun e=>hnr e.symm)).trans HR2.out);have HF3:Hid (Fm (fun k=>k=lb) w W3):=hidI (by rw [hW3];exact HF2.out.set (g:=nkb) (fun h=>absurd h (by omega)) 1 _);have Hnum3:Hid (numAt W3 nkb=k1):=hidI (by unfold numAt;rw [cell_of_row W3 nkb 1 _ 74 (0,0) HN3.out];simp);clear hs1 hs2 hk1 hW3 eo hsz3 HL2 HT2 HR2 HN2 HF2;go_wp2_with (first | (rw [hk1i,←HW3.out]) | (rw [←HW3.out]) | fail);go_roundw
     case rel=>exact ⟨k1,hk1l,HN3,hidI (by rw [←Hs1.out];exact HE.out),HL3,HT3,HR3,HF3⟩
     case measure=>rw [Hnum3.out,Hnum.out];exact Hs2.out
   | false =>
     have HX:Hid (nxt Sb k0=k):=hidI (by rw [←HE.out];exact nxt_here hk Hr.out.symm);have q0:W2.cell? ⟨rb,0,none⟩=some (.int .i64 0):=by rw [cell_of_row W2 rb 0 _ 74 (0,0) HR2.out];rfl
     have q1:W2.cell? ⟨rb,1,none⟩=some (.int .u32 0):=by rw [cell_of_row W2 rb 1 _ 74 (0,0) HR2.out];rfl
     have f0:=frozen_of_row W2 rb 0 _ 74 HR2.out;have f1:=frozen_of_row W2 rb 1 _ 74 HR2.out;have hrs:∀ j,LogS lo hi lb kv qv j→j≠rb:=fun j hj e=>by have h9:=logS_lt H0.out hj;have:=Hrbw.out;omega
     have eo:∀ j,j≠rb→((W2.setCell ⟨rb,0,none⟩ (.int .i64 (bn:Nat))).setCell ⟨rb,1,none⟩ (.int .u32 (k:Nat))).heap[j]? = W2.heap[j]? := fun j hj=>(Below.heap_setCell _ ⟨rb,1,none⟩ _ j hj).trans (Below.heap_setCell _ ⟨rb,0,none⟩ _ j hj)
     have HL3:=hidI (HL2.out.of_blocks (w':=(W2.setCell ⟨rb,0,none⟩ (.int .i64 (bn:Nat))).setCell ⟨rb,1,none⟩ (.int .u32 (k:Nat))) (by have:=HL2.out.sz;simpa using this) fun j hj _=>eo j (hrs j hj));have HT3:=hidI (HT2.out.of_block (eo tb (fun e=>hrt e.symm)));have HF3:Hid (Fm (fun k=>k=lb) w ((W2.setCell ⟨rb,0,none⟩ (.int .i64 (bn:Nat))).setCell ⟨rb,1,none⟩ (.int .u32 (k:Nat)))):=hidI ((HF2.out.set (g:=rb) (fun h=>absurd h (by have:=Hrbw.out;omega)) 0 _).set (g:=rb) (fun h=>absurd h (by have:=Hrbw.out;omega)) 1 _);clear eo hrs;go_wp2_with fail;refine bodyPost_ret (v:=.agg #[.int .i64 (bn:Nat),.int .u32 (k:Nat)]) ?_ rfl ⟨tb,nt,?_,HL3.out,HT3.out,hnt100,Hts.out,Htk.out,HF3.out⟩
     ·simp [results,go_sem,q0,q1]
     ·rw [HSb.out] at HX;rw [HX.out]
end Go.Proofs.YtodmdkhdbfbfgabGreatDoor.S1
namespace Go.Proofs.YtodmdkhdbfbfgabGreatDoor
open Go.RowKit Go.Nt
theorem Tryz.info9s:(Tryz.prog.info? 9).map (fun i=>(i.zero,i.size,i.bytes))=some (some (.string ⟨#[]⟩),1,16):=by kernel_rfl
theorem qiw (n:Nat) (hn:n≤100000):∃ cells:Array Value,(∀ W:World,(Instr.makeSlice 61 (.int .i64 (n:Nat)) (.int .i64 (n:Nat))).run Tryz.prog W=.ok (.slice (some ⟨W.heap.size,0,none⟩) n n) (W.alloc (.cells cells 9)))∧(∀ W:World,S1.Rw (W.alloc (.cells cells 9)) W.heap.size 9 n (fun _=>.string ⟨#[]⟩)):=
 ⟨madeCells #[Value.string ⟨#[]⟩] n,fun W=>run_make_row' (P:=Tryz.prog) 61 9 (.string ⟨#[]⟩) 16 Tryz.underlying61 Tryz.info9s rfl .i64 .i64 n (by omega) (by omega) W,fun W=>S1.rowIs_rw (World.rowIs_made W (.string ⟨#[]⟩) n 9)⟩
def lbv (b n:Nat):Value:=.agg #[.int .i64 (b:Nat),.int .u32 (n:Nat)]
def SplitP (b n:Nat) (t:Bs) (w:World) (e:Ending) (w':World):Prop:=
 ∃ g,e=.returned (.slice (some ⟨g,0,none⟩) (pagesN t.length) (pagesN t.length))∧w.heap.size≤g∧S1.Rw w' g 9 (pagesN t.length) (fun k=>.string (txt (pageB (pgOf b n t k))))∧Below w.heap.size w w'
theorem qib (b n:Nat) (t:Bs) (w:World) (hb:b<256) (hn:n<4294967296) (ht:t.length≤1000000) :
 Calls Tryz.prog 79 #[lbv b n,.string (txt t)] w fun e w'=>SplitP b n t w e w':=by
 have HPN:=hidI (fun W=>S1.pagesOf_any t W (by omega));have hK:pagesN t.length≤19608:=by unfold pagesN;omega
 obtain ⟨K,hKe⟩:∃ K,K=pagesN t.length:=⟨_,rfl⟩;have hKt:∀ k,k<K→k*51<t.length:=fun k hk=>by rw [hKe] at hk;unfold pagesN at hk;omega
 obtain ⟨X,hX⟩:∃ X,X=txt t:=⟨_,rfl⟩;have Sx:X.size=t.length:=by rw [hX,qab]
 rw [←hX];have HPN':Hid (∀ W,Calls Tryz.prog 105 #[.string X] W fun e w'=>e=.returned (.int .i64 (K:Nat))∧w'=W):=hidI (by rw [hX,hKe];exact HPN.out);have Hpart:Hid (∀ k,k<K→X.extract (k*51) (min ((k+1)*51) X.size)=txt ((t.drop (k*51)).take 51)):=hidI (fun k hk=>by
  have:=hKt k hk
  rw [Sx,hX,qah]
  congr 1
  by_cases e:(k+1)*51≤t.length
  ·rw [Nat.min_eq_left e,show (k+1)*51 - k*51=51 by omega]
  ·rw [Nat.min_eq_right (by omega),List.take_of_length_le (by simp),List.take_of_length_le (by simp;omega)])
 have HPg:Hid (∀ k W,k<K→Calls Tryz.prog 114 #[.agg #[.int .i64 (b:Nat),.int .u32 (n:Nat),.int .i64 (k:Nat),.int .i64 (K:Nat),.string (txt ((t.drop (k*51)).take 51))]] W fun e w'=>e=.returned (.string (txt (pageB (pgOf b n t k))))∧Below W.heap.size W w'):=hidI (fun k W hk=>by
  have:=qik (pgOf b n t k) W hb hn (by show k<65536;omega) (by show pagesN t.length<65536;omega) (by simp [pgOf];omega)
  unfold pgv at this;rw [hKe];exact this)
 unfold SplitP;rw [←hKe];obtain ⟨cells,hmk,hrow⟩:=qiw K (by omega);obtain ⟨W1,hW1⟩:∃ W1,W1=w.alloc (.cells #[.int .i64 (b:Nat),.int .u32 (n:Nat)] 74):=⟨_,rfl⟩;have r1:W1.heap[w.heap.size]? = some (.cells #[.int .i64 (b:Nat),.int .u32 (n:Nat)] 74 (0,0)):=by rw [hW1];exact heap_alloc_new _ _
 have hb1:Below w.heap.size w W1:=by rw [hW1];exact (Below.refl _ w).alloc (Nat.le_refl _) _
 have hs1:W1.heap.size=w.heap.size+1:=by rw [hW1];simp
 obtain ⟨W2,hW2⟩:∃ W2,W2=W1.alloc (.cells cells 9):=⟨_,rfl⟩;have hmk1:=hmk W1;have hrow2:=hrow W1;rw [←hW2] at hmk1 hrow2;have hb2:Below W1.heap.size W1 W2:=by rw [hW2];exact (Below.refl _ W1).alloc (Nat.le_refl _) _
 obtain ⟨g,hg⟩:∃ g,g=W1.heap.size:=⟨_,rfl⟩;obtain ⟨lb,hlb⟩:∃ lb,lb=w.heap.size:=⟨_,rfl⟩;rw [←hg] at hmk1 hrow2 hb2 hs1;rw [←hlb] at r1 hb1 hs1 ⊢;have hlg:lb<g:=by omega
 have r2:=(hb2.block lb hlg).trans r1;have HB2:=hidI (hb1.trans (hb2.mono (by omega)));have R2:=hidI r2;have HRow:=hidI (hrow2.congr (g:=fun k=>if k<0 then .string (txt (pageB (pgOf b n t k))) else .string ⟨#[]⟩) (fun i _=>by simp));have HW1:=hidI hW1;have Hlb:=hidI hlb;have Hg:=hidI hg;have hX6:X.size≤1000000:=by omega
 have HKt:Hid (∀ k,k<K→k*51<X.size):=hidI (by rw [Sx];exact hKt);have hK9:K≤19608:=by rw [hKe];exact hK
 clear hK HPN hKe hX Sx hW1 hW2 r1 r2 hb1 hb2 hrow hmk hs1 hg hlb hrow2 hKt;unfold lbv;go_enter Tryz.func79,Tryz.ntmps79
 go_wp2_with (first | (rw [←HW1.out]) | (rw [←Hlb.out]) | (go_at_call 105;refine (HPN'.out _).mono ?_;rintro e w' ⟨rfl,hw⟩;have hw':=hw.symm;subst hw';clear hw) | fail)
 go_loopw [13] (fun i wr=>∃ k:Nat,k≤K∧i=.int .i64 k∧Hid (S1.Rw wr g 9 K (fun j=>if j<k then .string (txt (pageB (pgOf b n t j))) else .string ⟨#[]⟩))∧Hid (wr.heap[lb]? = some (.cells #[.int .i64 (b:Nat),.int .u32 (n:Nat)] 74 (0,0)))∧Hid (Below lb w wr)) (fun i _=>K - (intOf i).toNat)
 case atStart=>exact ⟨0,Nat.zero_le _,rfl,HRow,R2,HB2⟩
 case round =>
  clear HRow R2 HB2 hmk1;obtain ⟨k,hk,rfl,Hrw,Hl,HB⟩:=hrel;by_cases hlt:k<K
  ·have c0:wr.cell? ⟨lb,0,none⟩=some (.int .i64 (b:Nat)):=by rw [cell_of_row wr lb 0 _ 74 (0,0) Hl.out];rfl
   have c1:wr.cell? ⟨lb,1,none⟩=some (.int .u32 (n:Nat)):=by rw [cell_of_row wr lb 1 _ 74 (0,0) Hl.out];rfl
   have hkx:=HKt.out k hlt;have A:=hidI (HPg.out k wr hlt);have hpart:=Hpart.out k hlt;obtain ⟨Y,hY⟩:∃ Y,Y=txt ((t.drop (k*51)).take 51):=⟨_,rfl⟩;rw [←hY] at A hpart;obtain ⟨Z,hZ⟩:∃ Z,Z=txt (pageB (pgOf b n t k)):=⟨_,rfl⟩;rw [←hZ] at A;have HZ:=hidI hZ;have hgw:g<wr.heap.size:=Hrw.out.lt;have fin:∀ W1:World,Below wr.heap.size wr W1→W1.cell? ⟨g,k,none⟩=some (.string ⟨#[]⟩)∧W1.frozen? ⟨g,k,none⟩=false∧Hid (S1.Rw (W1.setCell ⟨g,k,none⟩ (.string Z)) g 9 K (fun j=>if j<k+1 then .string (txt (pageB (pgOf b n t j))) else .string ⟨#[]⟩))∧Hid ((W1.setCell ⟨g,k,none⟩ (.string Z)).heap[lb]? = some (.cells #[.int .i64 (b:Nat),.int .u32 (n:Nat)] 74 (0,0)))∧Hid (Below lb w (W1.setCell ⟨g,k,none⟩ (.string Z))):=by
    intro W1 hW;have hr:=Hrw.out.of_block (hW.block g hgw);refine ⟨by have:=hr.cell hlt;simpa using this,hr.frozen k,hidI ((hr.set k (.string Z)).congr fun j hj => ?_),hidI ?_,hidI ?_⟩
    ·by_cases e:j=k
     ·subst e;rw [if_pos rfl,if_pos (by omega),HZ.out]
     ·by_cases e2:j<k
      ·rw [if_neg e,if_pos e2,if_pos (by omega)]
      ·rw [if_neg e,if_neg e2,if_neg (by omega)]
    ·exact (Below.heap_setCell W1 ⟨g,k,none⟩ _ lb (by simp;omega)).trans ((hW.block lb (qaa Hl.out)).trans Hl.out)
    ·exact (HB.out.trans (hW.mono (by have:=HB.out.size;have h9:=qaa Hl.out;omega))).setCell (by simp;omega) _
   have Hfin:=hidI fin;clear hY hZ fin;by_cases e:(k+1)*51≤X.size
   ·rw [Nat.min_eq_left e] at hpart;have ei:((k:Int)+1)*51≤(X.size:Int):=by omega
    have em:min (((k:Int)+1)*51) (X.size:Int)=((k:Int)+1)*51:=Int.min_eq_left ei;go_wp2_with fail;refine A.out.mono ?_;rintro e W3 ⟨rfl,hb3⟩;obtain ⟨q1,q2,q3,q4,q5⟩:=Hfin.out W3 hb3;clear Hfin;go_wp2;go_roundw
    case rel=>exact ⟨k+1,by omega,by go_num,q3,q4,q5⟩
    case measure=>simp [intOf];omega
   ·rw [Nat.min_eq_right (by omega)] at hpart;have ei:¬((k:Int)+1)*51≤(X.size:Int):=by omega
    have ei':(X.size:Int)<((k:Int)+1)*51:=by omega
    have em:min (((k:Int)+1)*51) (X.size:Int)=(X.size:Int):=Int.min_eq_right (by omega);go_wp2_with fail;refine A.out.mono ?_;rintro e W3 ⟨rfl,hb3⟩;obtain ⟨q1,q2,q3,q4,q5⟩:=Hfin.out W3 hb3;clear Hfin;go_wp2;go_roundw
    case rel=>exact ⟨k+1,by omega,by go_num,q3,q4,q5⟩
    case measure=>simp [intOf];omega
  ·have hkK:k=K:=by omega
   subst hkK;go_wp2;go_ret
   exact ⟨g,rfl,Nat.le_of_lt hlg,Hrw.out.congr fun i hi=>by rw [if_pos hi],HB.out⟩
end Go.Proofs.YtodmdkhdbfbfgabGreatDoor
