/- Lemmas and contracts for full. -/
import Derived.Test.YtodmdkhdbfbfgabGreatDoorM04
import Derived.Test.YtodmdkhdbfbfgabGreatDoorM00
set_option maxRecDepth 100000
set_option maxHeartbeats 8000000
namespace Go.Proofs.YtodmdkhdbfbfgabGreatDoor.S1
open Go.RowKit Pk
set_option linter.unusedVariables false
set_option linter.unusedSimpArgs false
def OpenP (w:World) (lo hi cb lb:Nat) (L:Loc) (lv:Lv) (kv qv:Option Nat) (nk nq:Nat) (m:M) (K Q:Nat→Bool) (b:Nat) (e:Ending) (w':World):Prop:=
 e=.returned (.bool (openF m K Q b).1)∧LogM w' lo hi cb lb L lv kv qv nk nq (openF m K Q b).2.1 K (openF m K Q b).2.2.1 ((b+1)%m.nb) (openF m K Q b).2.2.2∧Fm (LogS lo hi lb kv qv) w w'
theorem open_any (w:World) (lo hi cb lb:Nat) (L:Loc) (lv:Lv) (kv qv:Option Nat) (nk nq:Nat) (m:M) (K Q:Nat→Bool) (b p:Nat) (h:LogM w lo hi cb lb L lv kv qv nk nq m K Q b p) (hb:b<1000000) :
 Calls Tryz.prog 113 #[.pointer (some ⟨lb,0,none⟩)] w fun e w'=>OpenP w lo hi cb lb L lv kv qv nk nq m K Q b e w':=by
 have H:=hidI h
 have h4:=h.wf.nb1
 have h32:=h.wf.nb2
 have HB:=hidI (fun (V:World) (hV:CP V lo hi cb L m)=>blocks_any V lo hi cb L m hV)
 have HP:=hidI (fun (V:World) (hV:CP V lo hi cb L m)=>pages_any V lo hi cb L m hV)
 have c0:=h.log.c0
 have c4:=h.log.c4
 have f4:=h.log.fz 6
 obtain ⟨nb,hnb⟩:∃ nb,nb=m.nb:=⟨_,rfl⟩
 rw [←hnb] at HB h4 h32
 have Hnb:=hidI hnb
 have hmod:((b:Int)+1).tmod (nb:Int)=(((b+1)%nb:Nat):Int):=by rw [Int.tmod_eq_emod_of_nonneg (by omega)];rfl
 obtain ⟨b1,hb1⟩:∃ b1,b1=(b+1)%nb:=⟨_,rfl⟩
 have hb1lt:b1<nb:=by rw [hb1];exact Nat.mod_lt _ (by omega)
 rw [←hb1] at hmod
 have Hb1:=hidI hb1
 have HBd:=hidI (HB.out w.drew h.chip.drew)
 have hne:(nb:Int)≠0:=by omega
 have hw1:IntKind.i64.wrap ((b:Int)+1)=(b:Int)+1:=by rw [IntKind.wrap_i64];omega
 clear hnb hb1 h
 go_enter Tryz.func113,Tryz.ntmps113
 go_wp2_with fail
 apply region_one
 case reg =>
  go_region_with (go_at_call 8;refine HBd.out.mono ?_;rintro e w' ⟨rfl,hw⟩;have hw':=hw.symm;subst hw';clear hw)
  all_goals exact ⟨rfl,rfl,rfl⟩
 case cont =>
  obtain ⟨W1,hW1⟩:∃ W1,W1=(w.setCell ⟨lb,6,none⟩ (.int .i64 (b1:Nat))).drew:=⟨_,rfl⟩
  rw [←hW1]
  have hL1:LogM W1 lo hi cb lb L lv kv qv nk nq m K Q b1 p:=by rw [hW1];exact (H.out.set4 b1).drew
  have hF1:Fm (LogS lo hi lb kv qv) w W1:=by rw [hW1];exact ((Fm.refl _ w).set (fun _=>.inr (.inl rfl)) 6 _).drew
  have A:=hidI (HP.out W1 hL1.chip)
  obtain ⟨np,hnp⟩:∃ np,np=m.np:=⟨_,rfl⟩
  rw [←hnp] at A
  have a0:=hL1.log.c0
  have a5:=hL1.log.c5
  have g5:=hL1.log.fz 7
  obtain ⟨W2,hW2⟩:∃ W2,W2=W1.setCell ⟨lb,7,none⟩ (.int .i64 (np:Nat)):=⟨_,rfl⟩
  have hL2:LogM W2 lo hi cb lb L lv kv qv nk nq m K Q b1 np:=by rw [hW2];exact hL1.set5 np
  have hF2:Fm (LogS lo hi lb kv qv) w W2:=by rw [hW2];exact hF1.set (fun _=>.inr (.inl rfl)) 7 _
  have HW2:=hidI hW2
  have H2:=hidI hL2
  have HF2:=hidI hF2
  have Hnp:=hidI hnp
  clear hW1 hL1 hF1 hW2 hL2 hF2 hnp HBd c0 c4 f4 HB HP
  go_wp2_with fail
  refine A.out.mono ?_
  rintro e w' ⟨rfl,hw⟩
  have hw':=hw.symm
  subst hw'
  clear hw A
  have k2:=H2.out.log.c2
  have k4:=H2.out.log.c4
  have k2d:W2.drew.cell? ⟨lb,3,none⟩=some (.map kv):=k2
  have k4d:W2.drew.cell? ⟨lb,6,none⟩=some (.int .i64 (b1:Nat)):=k4
  have A:=hidI (bhas_any kv nk b1 K W2.drew H2.out.drew.kept (by omega))
  have hlb2:lb<W2.heap.size:=H2.out.log.lt
  go_wp2_with (first | (rw [←HW2.out]) | fail)
  go_region_held3 (fun V=>V.cell? ⟨lb,3,none⟩=some (.map kv)∧V.cell? ⟨lb,6,none⟩=some (.int .i64 (b1:Nat))) (go_keep) (first
   | (go_at_call 140;refine A.out.mono ?_;rintro e W3 ⟨rfl,hb3⟩;have k23:W3.cell? ⟨lb,3,none⟩=some (.map kv):=(by rw [hb3.cell (p:=⟨lb,3,none⟩) hlb2];exact k2d);have k43:W3.cell? ⟨lb,6,none⟩=some (.int .i64 (b1:Nat)):=(by rw [hb3.cell (p:=⟨lb,6,none⟩) hlb2];exact k4d);have H3:=hidI (H2.out.drew.new hb3);have HF3:=hidI (HF2.out.drew.trans (Fm.of_new hb3));clear hb3))
  rename_i hHeld
  clear hHeld k2d k4d k2 k4 A a0 a5 g5
  obtain ⟨y,hy⟩:∃ y,y=K b1:=⟨_,rfl⟩
  rw [←hy]
  have Hy:=hidI hy
  clear hy
  cases y with
  | true =>
    have HR:Hid (openF m K Q b=(false,m,Q,np)):=hidI (by unfold openF;rw [←Hnb.out,←Hb1.out,←Hy.out,if_pos rfl,Hnp.out])
    go_wp2
    go_ret
    exact ⟨ret_bool (by rw [HR.out]),by rw [HR.out,←Hnb.out,←Hb1.out];exact H3.out,HF3.out⟩
  | false =>
    have k33:=H3.out.log.c3
    have k03:=H3.out.log.c0
    have A:=hidI (bhas_any qv nq b1 Q W3.drew H3.out.drew.clean (by omega))
    have hlb3:lb<W3.heap.size:=H3.out.log.lt
    have k33d:W3.drew.cell? ⟨lb,5,none⟩=some (.map qv):=k33
    have k43d:W3.drew.cell? ⟨lb,6,none⟩=some (.int .i64 (b1:Nat)):=k43
    have k03d:W3.drew.cell? ⟨lb,0,none⟩=some (.pointer (some ⟨cb,0,none⟩)):=k03
    obtain ⟨z,hz⟩:∃ z,z=Q b1:=⟨_,rfl⟩
    rw [←hz] at A
    have Hz:=hidI hz
    clear hz
    cases z with
    | true =>
      have HR:Hid (openF m K Q b=(true,m,(fun j => !(j==b1)&&Q j),0)):=hidI (by unfold openF;rw [←Hnb.out,←Hb1.out,←Hy.out,←Hz.out];rfl)
      go_wp2_with fail
      refine wp_region_held_drew (S:=fun V=>V.cell? ⟨lb,5,none⟩=some (.map qv)∧V.cell? ⟨lb,6,none⟩=some (.int .i64 (b1:Nat))∧V.cell? ⟨lb,0,none⟩=some (.pointer (some ⟨cb,0,none⟩))) (by kernel_rfl) ⟨k33d,k43d,k03d⟩ (fun hHeld => ?_)
      refine tk 0 ⟨some 34,.move (.tmp 0),66, "log.go:79",#[],none⟩ (.pointer (some ⟨lb,0,none⟩)) rfl (by kernel_rfl) (fun _ _ _ h=>h) (fun w h=>by (try dsimp only at h);go_simp) hHeld ?_
      simp only [Act.put,List.setIfInBounds_toArray,List.set]
      refine tk 1 ⟨some 35,.nilCheck (.tmp 34),0, "log.go:79",#[⟨0,.data⟩],none⟩ (.pointer (some ⟨lb,0,none⟩)) rfl (by kernel_rfl) (fun _ _ _ h=>h) (fun w h=>by (try dsimp only at h);go_simp) hHeld ?_
      simp only [Act.put,List.setIfInBounds_toArray,List.set]
      refine tk 2 ⟨some 36,.fieldAddr 124 (.tmp 35) 4,0, "log.go:79",#[⟨1,.data⟩],none⟩ (.pointer (some ⟨lb,5,none⟩)) rfl (by kernel_rfl) (fun _ _ _ h=>h) (fun w h=>by (try dsimp only at h);go_simp) hHeld ?_
      simp only [Act.put,List.setIfInBounds_toArray,List.set]
      refine tk 3 ⟨some 37,.load 76 (.tmp 36),76, "log.go:79",#[⟨2,.data⟩],none⟩ (.map qv) rfl (by kernel_rfl) (fun _ _ _ h=>h) (fun w h=>by (try dsimp only at h);go_simp) hHeld ?_
      simp only [Act.put,List.setIfInBounds_toArray,List.set]
      refine tk 4 ⟨some 38,.move (.tmp 0),66, "log.go:79",#[],none⟩ (.pointer (some ⟨lb,0,none⟩)) rfl (by kernel_rfl) (fun _ _ _ h=>h) (fun w h=>by (try dsimp only at h);go_simp) hHeld ?_
      simp only [Act.put,List.setIfInBounds_toArray,List.set]
      refine tk 5 ⟨some 39,.nilCheck (.tmp 38),0, "log.go:79",#[⟨4,.data⟩],none⟩ (.pointer (some ⟨lb,0,none⟩)) rfl (by kernel_rfl) (fun _ _ _ h=>h) (fun w h=>by (try dsimp only at h);go_simp) hHeld ?_
      simp only [Act.put,List.setIfInBounds_toArray,List.set]
      refine tk 6 ⟨some 40,.fieldAddr 124 (.tmp 39) 5,0, "log.go:79",#[⟨5,.data⟩],none⟩ (.pointer (some ⟨lb,6,none⟩)) rfl (by kernel_rfl) (fun _ _ _ h=>h) (fun w h=>by (try dsimp only at h);go_simp) hHeld ?_
      simp only [Act.put,List.setIfInBounds_toArray,List.set]
      refine tk 7 ⟨some 41,.load 3 (.tmp 40),3, "log.go:79",#[⟨6,.data⟩],none⟩ (.int .i64 (b1:Nat)) rfl (by kernel_rfl) (fun _ _ _ h=>h) (fun w h=>by (try dsimp only at h);go_simp) hHeld ?_
      simp only [Act.put,List.setIfInBounds_toArray,List.set]
      refine rd 8 (by kernel_rfl) rfl (fun K hK => ?_)
      go_simp
      refine A.out.mono ?_
      rintro e W4 ⟨rfl,hb4⟩
      have H4:=hidI (H3.out.drew.new hb4)
      have HF4:=hidI (HF3.out.drew.trans (Fm.of_new hb4))
      clear hb4
      have k34:=H4.out.log.c3
      have k44:=H4.out.log.c4
      have k04:=H4.out.log.c0
      refine hK.out _ _ ⟨k34,k44,k04⟩ (fun hHeld => ?_)
      refine tk 9 ⟨some 43,.unOp .not 4 (.tmp 42),4, "log.go:79",#[⟨8,.data⟩],none⟩ (.bool false) rfl (by kernel_rfl) (fun _ _ _ h=>h) (fun w h=>by (try dsimp only at h);go_simp) hHeld ?_
      simp only [Act.put,List.setIfInBounds_toArray,List.set]
      refine tk 10 ⟨some 44,.move (.tmp 43),4, "log.go:79",#[⟨9,.data⟩,⟨8,.chain⟩],none⟩ (.bool false) rfl (by kernel_rfl) (fun _ _ _ h=>h) (fun w h=>by (try dsimp only at h);go_simp) hHeld ?_
      simp only [Act.put,List.setIfInBounds_toArray,List.set]
      refine wpAnyH_take (i:=11) (oi:=⟨some 45,.move (.tmp 0),66, "log.go:79",#[⟨10,.guard⟩],some (10,true)⟩) (v:=undef) rfl (by kernel_rfl) (by kernel_rfl) (by kernel_rfl) (fun _ _ _ h=>h) (Or.inr ⟨by kernel_rfl,rfl⟩) hHeld ?_
      simp only [Act.put,List.setIfInBounds_toArray,List.set]
      refine wpAnyH_take (i:=12) (oi:=⟨some 46,.nilCheck (.tmp 45),0, "log.go:79",#[⟨11,.data⟩,⟨10,.guard⟩],some (10,true)⟩) (v:=undef) rfl (by kernel_rfl) (by kernel_rfl) (by kernel_rfl) (fun _ _ _ h=>h) (Or.inr ⟨by kernel_rfl,rfl⟩) hHeld ?_
      simp only [Act.put,List.setIfInBounds_toArray,List.set]
      refine wpAnyH_take (i:=13) (oi:=⟨some 47,.fieldAddr 124 (.tmp 46) 0,0, "log.go:79",#[⟨12,.data⟩,⟨10,.guard⟩],some (10,true)⟩) (v:=undef) rfl (by kernel_rfl) (by kernel_rfl) (by kernel_rfl) (fun _ _ _ h=>h) (Or.inr ⟨by kernel_rfl,rfl⟩) hHeld ?_
      simp only [Act.put,List.setIfInBounds_toArray,List.set]
      refine wpAnyH_take (i:=14) (oi:=⟨some 48,.load 24 (.tmp 47),24, "log.go:79",#[⟨13,.data⟩,⟨10,.guard⟩],some (10,true)⟩) (v:=undef) rfl (by kernel_rfl) (by kernel_rfl) (by kernel_rfl) (fun _ _ _ h=>h) (Or.inr ⟨by kernel_rfl,rfl⟩) hHeld ?_
      simp only [Act.put,List.setIfInBounds_toArray,List.set]
      refine wpAnyH_take (i:=15) (oi:=⟨some 49,.move (.tmp 0),66, "log.go:79",#[⟨10,.guard⟩],some (10,true)⟩) (v:=undef) rfl (by kernel_rfl) (by kernel_rfl) (by kernel_rfl) (fun _ _ _ h=>h) (Or.inr ⟨by kernel_rfl,rfl⟩) hHeld ?_
      simp only [Act.put,List.setIfInBounds_toArray,List.set]
      refine wpAnyH_take (i:=16) (oi:=⟨some 50,.nilCheck (.tmp 49),0, "log.go:79",#[⟨15,.data⟩,⟨10,.guard⟩],some (10,true)⟩) (v:=undef) rfl (by kernel_rfl) (by kernel_rfl) (by kernel_rfl) (fun _ _ _ h=>h) (Or.inr ⟨by kernel_rfl,rfl⟩) hHeld ?_
      simp only [Act.put,List.setIfInBounds_toArray,List.set]
      refine wpAnyH_take (i:=17) (oi:=⟨some 51,.fieldAddr 124 (.tmp 50) 5,0, "log.go:79",#[⟨16,.data⟩,⟨10,.guard⟩],some (10,true)⟩) (v:=undef) rfl (by kernel_rfl) (by kernel_rfl) (by kernel_rfl) (fun _ _ _ h=>h) (Or.inr ⟨by kernel_rfl,rfl⟩) hHeld ?_
      simp only [Act.put,List.setIfInBounds_toArray,List.set]
      refine wpAnyH_take (i:=18) (oi:=⟨some 52,.load 3 (.tmp 51),3, "log.go:79",#[⟨17,.data⟩,⟨10,.guard⟩],some (10,true)⟩) (v:=undef) rfl (by kernel_rfl) (by kernel_rfl) (by kernel_rfl) (fun _ _ _ h=>h) (Or.inr ⟨by kernel_rfl,rfl⟩) hHeld ?_
      simp only [Act.put,List.setIfInBounds_toArray,List.set]
      refine wpAnyH_take (i:=19) (oi:=⟨some 53,.call { callee:=Callee.value (Operand.func 107),args:=#[.tmp 48,.tmp 52],argTypes:=#[24,3] },4, "log.go:79",#[⟨14,.data⟩,⟨18,.data⟩,⟨10,.chain⟩,⟨10,.guard⟩],some (10,true)⟩) (v:=undef) rfl (by kernel_rfl) (by kernel_rfl) (by kernel_rfl) (fun _ _ _ h=>h) (Or.inr ⟨by kernel_rfl,rfl⟩) hHeld ?_
      simp only [Act.put,List.setIfInBounds_toArray,List.set]
      refine wpAnyH_take (i:=20) (oi:=⟨some 54,.unOp .not 4 (.tmp 53),4, "log.go:79",#[⟨19,.data⟩,⟨10,.guard⟩],some (10,true)⟩) (v:=undef) rfl (by kernel_rfl) (by kernel_rfl) (by kernel_rfl) (fun _ _ _ h=>h) (Or.inr ⟨by kernel_rfl,rfl⟩) hHeld ?_
      simp only [Act.put,List.setIfInBounds_toArray,List.set]
      refine tk 21 ⟨some 55,.pick (.tmp 44) (.tmp 54) (.const (.bool false)),4, "log.go:79",#[⟨10,.data⟩,⟨20,.data⟩],none⟩ (.bool false) rfl (by kernel_rfl) (fun _ _ _ h=>h) (fun w h=>by (try dsimp only at h);go_simp) hHeld ?_
      simp only [Act.put,List.setIfInBounds_toArray,List.set]
      refine wpAnyH_done (by kernel_rfl) ?_ _
      clear hHeld hK A
      obtain ⟨V,hdel,hV,hFV⟩:=H4.out.drew.del (i:=b1) (by omega)
      have HV:=hidI hV
      have HFV:=hidI (HF4.out.drew.trans hFV)
      have k3d:W4.drew.cell? ⟨lb,5,none⟩=some (.map qv):=H4.out.log.c3
      have k4d:W4.drew.cell? ⟨lb,6,none⟩=some (.int .i64 (b1:Nat)):=H4.out.log.c4
      have k3V:=HV.out.log.c3
      have k4V:=HV.out.log.c4
      have k5V:=HV.out.log.c5
      have f5V:=HV.out.log.fz 7
      have HE:=hidI (HV.out.set5 0)
      have HFE:=hidI (HFV.out.set (g:=lb) (fun _=>.inr (.inl rfl)) 7 (.int .i64 ((0:Nat):Int)))
      clear hV hFV
      go_wp2_with fail
      refine wp_region_held_drew (S:=fun V=>V.cell? ⟨lb,5,none⟩=some (.map qv)∧V.cell? ⟨lb,6,none⟩=some (.int .i64 (b1:Nat))) (by kernel_rfl) ⟨k3d,k4d⟩ (fun hHeld => ?_)
      refine tk 0 ⟨some 56,.move (.tmp 0),66, "log.go:82",#[],none⟩ (.pointer (some ⟨lb,0,none⟩)) rfl (by kernel_rfl) (fun _ _ _ h=>h) (fun w h=>by (try dsimp only at h);go_simp) hHeld ?_
      simp only [Act.put,List.setIfInBounds_toArray,List.set]
      refine tk 1 ⟨some 57,.nilCheck (.tmp 56),0, "log.go:82",#[⟨0,.data⟩],none⟩ (.pointer (some ⟨lb,0,none⟩)) rfl (by kernel_rfl) (fun _ _ _ h=>h) (fun w h=>by (try dsimp only at h);go_simp) hHeld ?_
      simp only [Act.put,List.setIfInBounds_toArray,List.set]
      refine tk 2 ⟨some 58,.fieldAddr 124 (.tmp 57) 4,0, "log.go:82",#[⟨1,.data⟩],none⟩ (.pointer (some ⟨lb,5,none⟩)) rfl (by kernel_rfl) (fun _ _ _ h=>h) (fun w h=>by (try dsimp only at h);go_simp) hHeld ?_
      simp only [Act.put,List.setIfInBounds_toArray,List.set]
      refine tk 3 ⟨some 59,.load 76 (.tmp 58),76, "log.go:82",#[⟨2,.data⟩],none⟩ (.map qv) rfl (by kernel_rfl) (fun _ _ _ h=>h) (fun w h=>by (try dsimp only at h);go_simp) hHeld ?_
      simp only [Act.put,List.setIfInBounds_toArray,List.set]
      refine tk 4 ⟨some 60,.move (.tmp 0),66, "log.go:82",#[],none⟩ (.pointer (some ⟨lb,0,none⟩)) rfl (by kernel_rfl) (fun _ _ _ h=>h) (fun w h=>by (try dsimp only at h);go_simp) hHeld ?_
      simp only [Act.put,List.setIfInBounds_toArray,List.set]
      refine tk 5 ⟨some 61,.nilCheck (.tmp 60),0, "log.go:82",#[⟨4,.data⟩],none⟩ (.pointer (some ⟨lb,0,none⟩)) rfl (by kernel_rfl) (fun _ _ _ h=>h) (fun w h=>by (try dsimp only at h);go_simp) hHeld ?_
      simp only [Act.put,List.setIfInBounds_toArray,List.set]
      refine tk 6 ⟨some 62,.fieldAddr 124 (.tmp 61) 5,0, "log.go:82",#[⟨5,.data⟩],none⟩ (.pointer (some ⟨lb,6,none⟩)) rfl (by kernel_rfl) (fun _ _ _ h=>h) (fun w h=>by (try dsimp only at h);go_simp) hHeld ?_
      simp only [Act.put,List.setIfInBounds_toArray,List.set]
      refine tk 7 ⟨some 63,.load 3 (.tmp 62),3, "log.go:82",#[⟨6,.data⟩],none⟩ (.int .i64 (b1:Nat)) rfl (by kernel_rfl) (fun _ _ _ h=>h) (fun w h=>by (try dsimp only at h);go_simp) hHeld ?_
      simp only [Act.put,List.setIfInBounds_toArray,List.set]
      refine rd 8 (by kernel_rfl) rfl (fun K hK => ?_)
      go_simp
      refine hK.out _ _ ⟨k3V,k4V⟩ (fun hHeld => ?_)
      refine wpAnyH_done (by kernel_rfl) ?_ _
      clear hHeld hK hdel
      go_wp2
      go_ret
      exact ⟨ret_bool (by rw [HR.out]),by rw [HR.out,←Hnb.out,←Hb1.out];exact HE.out,HFE.out⟩
    | false =>
      have HEr:=hidI (fun (V:World) (h:LogM V lo hi cb lb L lv kv qv nk nq m K Q b1 np)=>era_any V lo hi cb L m (b1:Nat) h.wf h.chip h.sz)
      have HWf:=hidI (eraA_wf H2.out.wf (b1:Nat))
      obtain ⟨m5,hm5⟩:∃ m5,m5=(eraA m (b1:Nat)).2:=⟨_,rfl⟩
      obtain ⟨r,hr⟩:∃ r,r=(eraA m (b1:Nat)).1:=⟨_,rfl⟩
      have HR:Hid (openF m K Q b=if r then (true,m5,(fun j => !(j==b1)&&Q j),0) else (false,m5,Q,np)):=hidI (by unfold openF;rw [←Hnb.out,←Hb1.out,←Hy.out,←Hz.out,hr,hm5,Hnp.out];rfl)
      rw [←hr,←hm5] at HEr
      rw [←hm5] at HWf
      clear hr hm5
      go_wp2_with fail
      refine wp_region_held_drew (S:=fun V=>V.cell? ⟨lb,5,none⟩=some (.map qv)∧V.cell? ⟨lb,6,none⟩=some (.int .i64 (b1:Nat))∧V.cell? ⟨lb,0,none⟩=some (.pointer (some ⟨cb,0,none⟩))) (by kernel_rfl) ⟨k33d,k43d,k03d⟩ (fun hHeld => ?_)
      refine tk 0 ⟨some 34,.move (.tmp 0),66, "log.go:79",#[],none⟩ (.pointer (some ⟨lb,0,none⟩)) rfl (by kernel_rfl) (fun _ _ _ h=>h) (fun w h=>by (try dsimp only at h);go_simp) hHeld ?_
      simp only [Act.put,List.setIfInBounds_toArray,List.set]
      refine tk 1 ⟨some 35,.nilCheck (.tmp 34),0, "log.go:79",#[⟨0,.data⟩],none⟩ (.pointer (some ⟨lb,0,none⟩)) rfl (by kernel_rfl) (fun _ _ _ h=>h) (fun w h=>by (try dsimp only at h);go_simp) hHeld ?_
      simp only [Act.put,List.setIfInBounds_toArray,List.set]
      refine tk 2 ⟨some 36,.fieldAddr 124 (.tmp 35) 4,0, "log.go:79",#[⟨1,.data⟩],none⟩ (.pointer (some ⟨lb,5,none⟩)) rfl (by kernel_rfl) (fun _ _ _ h=>h) (fun w h=>by (try dsimp only at h);go_simp) hHeld ?_
      simp only [Act.put,List.setIfInBounds_toArray,List.set]
      refine tk 3 ⟨some 37,.load 76 (.tmp 36),76, "log.go:79",#[⟨2,.data⟩],none⟩ (.map qv) rfl (by kernel_rfl) (fun _ _ _ h=>h) (fun w h=>by (try dsimp only at h);go_simp) hHeld ?_
      simp only [Act.put,List.setIfInBounds_toArray,List.set]
      refine tk 4 ⟨some 38,.move (.tmp 0),66, "log.go:79",#[],none⟩ (.pointer (some ⟨lb,0,none⟩)) rfl (by kernel_rfl) (fun _ _ _ h=>h) (fun w h=>by (try dsimp only at h);go_simp) hHeld ?_
      simp only [Act.put,List.setIfInBounds_toArray,List.set]
      refine tk 5 ⟨some 39,.nilCheck (.tmp 38),0, "log.go:79",#[⟨4,.data⟩],none⟩ (.pointer (some ⟨lb,0,none⟩)) rfl (by kernel_rfl) (fun _ _ _ h=>h) (fun w h=>by (try dsimp only at h);go_simp) hHeld ?_
      simp only [Act.put,List.setIfInBounds_toArray,List.set]
      refine tk 6 ⟨some 40,.fieldAddr 124 (.tmp 39) 5,0, "log.go:79",#[⟨5,.data⟩],none⟩ (.pointer (some ⟨lb,6,none⟩)) rfl (by kernel_rfl) (fun _ _ _ h=>h) (fun w h=>by (try dsimp only at h);go_simp) hHeld ?_
      simp only [Act.put,List.setIfInBounds_toArray,List.set]
      refine tk 7 ⟨some 41,.load 3 (.tmp 40),3, "log.go:79",#[⟨6,.data⟩],none⟩ (.int .i64 (b1:Nat)) rfl (by kernel_rfl) (fun _ _ _ h=>h) (fun w h=>by (try dsimp only at h);go_simp) hHeld ?_
      simp only [Act.put,List.setIfInBounds_toArray,List.set]
      refine rd 8 (by kernel_rfl) rfl (fun K hK => ?_)
      go_simp
      refine A.out.mono ?_
      rintro e W4 ⟨rfl,hb4⟩
      have H4:=hidI (H3.out.drew.new hb4)
      have HF4:=hidI (HF3.out.drew.trans (Fm.of_new hb4))
      clear hb4
      have k34:=H4.out.log.c3
      have k44:=H4.out.log.c4
      have k04:=H4.out.log.c0
      refine hK.out _ _ ⟨k34,k44,k04⟩ (fun hHeld => ?_)
      have A5:=hidI (HEr.out W4 H4.out)
      refine tk 9 ⟨some 43,.unOp .not 4 (.tmp 42),4, "log.go:79",#[⟨8,.data⟩],none⟩ (.bool true) rfl (by kernel_rfl) (fun _ _ _ h=>h) (fun w h=>by (try dsimp only at h);go_simp) hHeld ?_
      simp only [Act.put,List.setIfInBounds_toArray,List.set]
      refine tk 10 ⟨some 44,.move (.tmp 43),4, "log.go:79",#[⟨9,.data⟩,⟨8,.chain⟩],none⟩ (.bool true) rfl (by kernel_rfl) (fun _ _ _ h=>h) (fun w h=>by (try dsimp only at h);go_simp) hHeld ?_
      simp only [Act.put,List.setIfInBounds_toArray,List.set]
      refine tk 11 ⟨some 45,.move (.tmp 0),66, "log.go:79",#[⟨10,.guard⟩],some (10,true)⟩ (.pointer (some ⟨lb,0,none⟩)) rfl (by kernel_rfl) (fun _ _ _ h=>h) (fun w h=>by (try dsimp only at h);go_simp) hHeld ?_
      simp only [Act.put,List.setIfInBounds_toArray,List.set]
      refine tk 12 ⟨some 46,.nilCheck (.tmp 45),0, "log.go:79",#[⟨11,.data⟩,⟨10,.guard⟩],some (10,true)⟩ (.pointer (some ⟨lb,0,none⟩)) rfl (by kernel_rfl) (fun _ _ _ h=>h) (fun w h=>by (try dsimp only at h);go_simp) hHeld ?_
      simp only [Act.put,List.setIfInBounds_toArray,List.set]
      refine tk 13 ⟨some 47,.fieldAddr 124 (.tmp 46) 0,0, "log.go:79",#[⟨12,.data⟩,⟨10,.guard⟩],some (10,true)⟩ (.pointer (some ⟨lb,0,none⟩)) rfl (by kernel_rfl) (fun _ _ _ h=>h) (fun w h=>by (try dsimp only at h);go_simp) hHeld ?_
      simp only [Act.put,List.setIfInBounds_toArray,List.set]
      refine tk 14 ⟨some 48,.load 24 (.tmp 47),24, "log.go:79",#[⟨13,.data⟩,⟨10,.guard⟩],some (10,true)⟩ (.pointer (some ⟨cb,0,none⟩)) rfl (by kernel_rfl) (fun _ _ _ h=>h) (fun w h=>by (try dsimp only at h);go_simp) hHeld ?_
      simp only [Act.put,List.setIfInBounds_toArray,List.set]
      refine tk 15 ⟨some 49,.move (.tmp 0),66, "log.go:79",#[⟨10,.guard⟩],some (10,true)⟩ (.pointer (some ⟨lb,0,none⟩)) rfl (by kernel_rfl) (fun _ _ _ h=>h) (fun w h=>by (try dsimp only at h);go_simp) hHeld ?_
      simp only [Act.put,List.setIfInBounds_toArray,List.set]
      refine tk 16 ⟨some 50,.nilCheck (.tmp 49),0, "log.go:79",#[⟨15,.data⟩,⟨10,.guard⟩],some (10,true)⟩ (.pointer (some ⟨lb,0,none⟩)) rfl (by kernel_rfl) (fun _ _ _ h=>h) (fun w h=>by (try dsimp only at h);go_simp) hHeld ?_
      simp only [Act.put,List.setIfInBounds_toArray,List.set]
      refine tk 17 ⟨some 51,.fieldAddr 124 (.tmp 50) 5,0, "log.go:79",#[⟨16,.data⟩,⟨10,.guard⟩],some (10,true)⟩ (.pointer (some ⟨lb,6,none⟩)) rfl (by kernel_rfl) (fun _ _ _ h=>h) (fun w h=>by (try dsimp only at h);go_simp) hHeld ?_
      simp only [Act.put,List.setIfInBounds_toArray,List.set]
      refine tk 18 ⟨some 52,.load 3 (.tmp 51),3, "log.go:79",#[⟨17,.data⟩,⟨10,.guard⟩],some (10,true)⟩ (.int .i64 (b1:Nat)) rfl (by kernel_rfl) (fun _ _ _ h=>h) (fun w h=>by (try dsimp only at h);go_simp) hHeld ?_
      simp only [Act.put,List.setIfInBounds_toArray,List.set]
      refine rd 19 (by kernel_rfl) rfl (fun K hK => ?_)
      go_simp
      refine A5.out.mono ?_
      rintro e W5 ⟨rfl,hC5,hO5⟩
      have H5:=hidI (H4.out.turn hC5 HWf.out hO5)
      have HF5:=hidI (HF4.out.trans (Fm.of_only hO5 fun k h1 h2=>.inl ⟨h1,h2⟩))
      clear hC5 hO5
      have k35:=H5.out.log.c3
      have k45:=H5.out.log.c4
      have k05:=H5.out.log.c0
      refine hK.out _ _ ⟨k35,k45,k05⟩ (fun hHeld => ?_)
      cases r with
      | true =>
        refine tk 20 ⟨some 54,.unOp .not 4 (.tmp 53),4, "log.go:79",#[⟨19,.data⟩,⟨10,.guard⟩],some (10,true)⟩ (.bool false) rfl (by kernel_rfl) (fun _ _ _ h=>h) (fun w h=>by (try dsimp only at h);go_simp) hHeld ?_
        simp only [Act.put,List.setIfInBounds_toArray,List.set]
        refine tk 21 ⟨some 55,.pick (.tmp 44) (.tmp 54) (.const (.bool false)),4, "log.go:79",#[⟨10,.data⟩,⟨20,.data⟩],none⟩ (.bool false) rfl (by kernel_rfl) (fun _ _ _ h=>h) (fun w h=>by (try dsimp only at h);go_simp) hHeld ?_
        simp only [Act.put,List.setIfInBounds_toArray,List.set]
        refine wpAnyH_done (by kernel_rfl) ?_ _
        clear hHeld hK A A5
        obtain ⟨V,hdel,hV,hFV⟩:=H5.out.drew.del (i:=b1) (by omega)
        have HV:=hidI hV
        have HFV:=hidI (HF5.out.drew.trans hFV)
        have k3d:W5.drew.cell? ⟨lb,5,none⟩=some (.map qv):=H5.out.log.c3
        have k4d:W5.drew.cell? ⟨lb,6,none⟩=some (.int .i64 (b1:Nat)):=H5.out.log.c4
        have k3V:=HV.out.log.c3
        have k4V:=HV.out.log.c4
        have k5V:=HV.out.log.c5
        have f5V:=HV.out.log.fz 7
        have HE:=hidI (HV.out.set5 0)
        have HFE:=hidI (HFV.out.set (g:=lb) (fun _=>.inr (.inl rfl)) 7 (.int .i64 ((0:Nat):Int)))
        clear hV hFV
        go_wp2_with fail
        refine wp_region_held_drew (S:=fun V=>V.cell? ⟨lb,5,none⟩=some (.map qv)∧V.cell? ⟨lb,6,none⟩=some (.int .i64 (b1:Nat))) (by kernel_rfl) ⟨k3d,k4d⟩ (fun hHeld => ?_)
        refine tk 0 ⟨some 56,.move (.tmp 0),66, "log.go:82",#[],none⟩ (.pointer (some ⟨lb,0,none⟩)) rfl (by kernel_rfl) (fun _ _ _ h=>h) (fun w h=>by (try dsimp only at h);go_simp) hHeld ?_
        simp only [Act.put,List.setIfInBounds_toArray,List.set]
        refine tk 1 ⟨some 57,.nilCheck (.tmp 56),0, "log.go:82",#[⟨0,.data⟩],none⟩ (.pointer (some ⟨lb,0,none⟩)) rfl (by kernel_rfl) (fun _ _ _ h=>h) (fun w h=>by (try dsimp only at h);go_simp) hHeld ?_
        simp only [Act.put,List.setIfInBounds_toArray,List.set]
        refine tk 2 ⟨some 58,.fieldAddr 124 (.tmp 57) 4,0, "log.go:82",#[⟨1,.data⟩],none⟩ (.pointer (some ⟨lb,5,none⟩)) rfl (by kernel_rfl) (fun _ _ _ h=>h) (fun w h=>by (try dsimp only at h);go_simp) hHeld ?_
        simp only [Act.put,List.setIfInBounds_toArray,List.set]
        refine tk 3 ⟨some 59,.load 76 (.tmp 58),76, "log.go:82",#[⟨2,.data⟩],none⟩ (.map qv) rfl (by kernel_rfl) (fun _ _ _ h=>h) (fun w h=>by (try dsimp only at h);go_simp) hHeld ?_
        simp only [Act.put,List.setIfInBounds_toArray,List.set]
        refine tk 4 ⟨some 60,.move (.tmp 0),66, "log.go:82",#[],none⟩ (.pointer (some ⟨lb,0,none⟩)) rfl (by kernel_rfl) (fun _ _ _ h=>h) (fun w h=>by (try dsimp only at h);go_simp) hHeld ?_
        simp only [Act.put,List.setIfInBounds_toArray,List.set]
        refine tk 5 ⟨some 61,.nilCheck (.tmp 60),0, "log.go:82",#[⟨4,.data⟩],none⟩ (.pointer (some ⟨lb,0,none⟩)) rfl (by kernel_rfl) (fun _ _ _ h=>h) (fun w h=>by (try dsimp only at h);go_simp) hHeld ?_
        simp only [Act.put,List.setIfInBounds_toArray,List.set]
        refine tk 6 ⟨some 62,.fieldAddr 124 (.tmp 61) 5,0, "log.go:82",#[⟨5,.data⟩],none⟩ (.pointer (some ⟨lb,6,none⟩)) rfl (by kernel_rfl) (fun _ _ _ h=>h) (fun w h=>by (try dsimp only at h);go_simp) hHeld ?_
        simp only [Act.put,List.setIfInBounds_toArray,List.set]
        refine tk 7 ⟨some 63,.load 3 (.tmp 62),3, "log.go:82",#[⟨6,.data⟩],none⟩ (.int .i64 (b1:Nat)) rfl (by kernel_rfl) (fun _ _ _ h=>h) (fun w h=>by (try dsimp only at h);go_simp) hHeld ?_
        simp only [Act.put,List.setIfInBounds_toArray,List.set]
        refine rd 8 (by kernel_rfl) rfl (fun K hK => ?_)
        go_simp
        refine hK.out _ _ ⟨k3V,k4V⟩ (fun hHeld => ?_)
        refine wpAnyH_done (by kernel_rfl) ?_ _
        clear hHeld hK hdel
        go_wp2
        go_ret
        exact ⟨ret_bool (by rw [HR.out];rfl),by rw [HR.out,←Hnb.out,←Hb1.out];exact HE.out,HFE.out⟩
      | false =>
        refine tk 20 ⟨some 54,.unOp .not 4 (.tmp 53),4, "log.go:79",#[⟨19,.data⟩,⟨10,.guard⟩],some (10,true)⟩ (.bool true) rfl (by kernel_rfl) (fun _ _ _ h=>h) (fun w h=>by (try dsimp only at h);go_simp) hHeld ?_
        simp only [Act.put,List.setIfInBounds_toArray,List.set]
        refine tk 21 ⟨some 55,.pick (.tmp 44) (.tmp 54) (.const (.bool false)),4, "log.go:79",#[⟨10,.data⟩,⟨20,.data⟩],none⟩ (.bool true) rfl (by kernel_rfl) (fun _ _ _ h=>h) (fun w h=>by (try dsimp only at h);go_simp) hHeld ?_
        simp only [Act.put,List.setIfInBounds_toArray,List.set]
        refine wpAnyH_done (by kernel_rfl) ?_ _
        clear hHeld hK A A5
        go_wp2
        go_ret
        exact ⟨ret_bool (by rw [HR.out];rfl),by rw [HR.out,←Hnb.out,←Hb1.out];exact H5.out,HF5.out⟩
end Go.Proofs.YtodmdkhdbfbfgabGreatDoor.S1
namespace Go.Proofs.YtodmdkhdbfbfgabGreatDoor.S1
open Go.RowKit Pk
set_option linter.unusedVariables false
def progL (b:Nat):List (List UInt8)→M→Nat→(Nat→Bool)→List (List UInt8) × M × Nat × (Nat→Bool)
 | [],m,p,S=>([],m,p,S)
 | x :: xs,m,p,S =>
   if p<m.np then
    if (progA m (b:Nat) (p:Nat) x).1 then progL b xs (progA m (b:Nat) (p:Nat) x).2 (p+1) (fun j=>j==b||S j)
    else (x :: xs,(progA m (b:Nat) (p:Nat) x).2,m.np,S)
   else (x :: xs,m,p,S)
def Txts (w:World) (g o:Nat) (l:List (List UInt8)):Prop:=∀ k x,l[k]? = some x→w.cell? ⟨g,o+k,none⟩=some (.string (txt x))
theorem Txts.tail {w:World} {g o:Nat} {x:List UInt8} {l:List (List UInt8)} (h:Txts w g o (x :: l)):Txts w g (o+1) l:=fun k y hy=>by
 have:=h (k+1) y (by simpa using hy)
 rwa [show o+(k+1)=o+1+k by omega] at this
theorem Txts.of_block {w w':World} {g o:Nat} {l:List (List UInt8)} (h:Txts w g o l) (e:w'.heap[g]? = w.heap[g]?):Txts w' g o l:=fun k x hx=>by
 rw [World.cell?_of_block e]
 exact h k x hx
end Go.Proofs.YtodmdkhdbfbfgabGreatDoor.S1
