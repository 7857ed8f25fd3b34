/- Lemmas and contracts for full. -/
import Derived.Test.YtodmdkhdbfbfgabGreatDoorM05
import Derived.Test.YtodmdkhdbfbfgabGreatDoorM00
set_option maxRecDepth 100000
set_option maxHeartbeats 8000000
namespace Go.Proofs.YtodmdkhdbfbfgabGreatDoor.S1
open Go.RowKit Pk
set_option linter.unusedVariables false
set_option linter.unusedSimpArgs false
structure Aside (lo hi lb:Nat) (kv qv:Option Nat) (ib g:Nat):Prop where
 hib:¬LogS lo hi lb kv qv ib
 hg:¬LogS lo hi lb kv qv g
 hgi:g≠ib
theorem Aside.ilb {lo hi lb:Nat} {kv qv:Option Nat} {ib g:Nat} (h:Aside lo hi lb kv qv ib g):ib≠lb:=fun e=>h.hib (.inr (.inl e))
def slen:Value→Nat
 | .slice _ n _=>n
 | _=>0
def ProgP (w:World) (lo hi cb lb:Nat) (L:Loc) (lv:Lv) (kv qv:Option Nat) (nk nq:Nat) (m:M) (K Q:Nat→Bool) (b p ib ni g o c:Nat) (S:Nat→Bool) (l:List (List UInt8)) (e:Ending) (w':World):Prop:=
 ∃ o' c',e=.returned (.slice (some ⟨g,o',none⟩) (progL b l m p S).1.length c')∧(progL b l m p S).1.length≤c'∧c'≤c∧Txts w' g o' (progL b l m p S).1∧LogM w' lo hi cb lb L lv kv qv nk nq (progL b l m p S).2.1 K Q b (progL b l m p S).2.2.1∧BlAt w' ib (ni+l.length) (progL b l m p S).2.2.2∧Fm (fun k=>LogS lo hi lb kv qv k∨k=ib) w w'
theorem mapTurned_log {w w':World} {lo hi cb lb:Nat} {L:Loc} {lv:Lv} {kv qv:Option Nat} {nk nq:Nat} {m:M} {K Q:Nat→Bool} {b p ib:Nat} (h:LogM w lo hi cb lb L lv kv qv nk nq m K Q b p) (hi':¬LogS lo hi lb kv qv ib) (hm:w.mapTurned w' ib):LogM w' lo hi cb lb L lv kv qv nk nq m K Q b p:=
 h.of_blocks (Nat.le_trans h.sz hm.grown.size) fun k hk hl=>hm.grown.block k hl (fun e=>by cases e;exact hi' hk)
theorem program_any (w:World) (lo hi cb lb:Nat) (L:Loc) (lv:Lv) (kv qv:Option Nat) (nk nq:Nat) (m:M) (K Q:Nat→Bool) (b p ib ni g o c:Nat) (S:Nat→Bool) (l:List (List UInt8))
 (h:LogM w lo hi cb lb L lv kv qv nk nq m K Q b p) (hb:b<1000000) (hp:p<1000000) (hS:BlAt w ib ni S) (hni:ni+l.length≤1000000) (ha:Aside lo hi lb kv qv ib g) (ht:Txts w g o l) (hlen:∀ x∈l,x.length≤64) (hlc:l.length≤c) (hc:c≤1000000) :
 Calls Tryz.prog 112 #[.pointer (some ⟨lb,0,none⟩),.slice (some ⟨g,o,none⟩) l.length c,.map (some ib)] w fun e w'=>ProgP w lo hi cb lb L lv kv qv nk nq m K Q b p ib ni g o c S l e w':=by
 obtain ⟨n,hn⟩:∃ n,n=l.length:=⟨_,rfl⟩
 rw [←hn] at hni hlc ⊢
 have H0:=hidI h
 have HS0:=hidI hS
 have HT0:=hidI ht
 have Hlen:=hidI hlen
 have HA:=hidI ha
 have Hn:=hidI hn
 have hnp0:m.np≤16:=h.wf.np2
 clear h hS ht hlen ha hn
 go_enter Tryz.func112,Tryz.ntmps112
 go_wp2_with fail
 go_loopw [1] (fun v wr=>∃ (l':List (List UInt8)) (m':M) (p' o' n' c' ni':Nat) (S':Nat→Bool),v=.slice (some ⟨g,o',none⟩) n' c'∧n'≤c'∧c'≤c∧p'<1000000∧ni'+n'≤ni+n∧m'.np≤16∧Hid (n'=l'.length)∧Hid (∀ x∈l',x.length≤64)∧Hid (progL b l m p S=progL b l' m' p' S')∧Hid (LogM wr lo hi cb lb L lv kv qv nk nq m' K Q b p')∧Hid (BlAt wr ib ni' S')∧Hid (Txts wr g o' l')∧Hid (Fm (fun k=>LogS lo hi lb kv qv k∨k=ib) w wr)) (fun v _=>slen v)
 case atStart=>exact ⟨l,m,p,o,n,c,ni,S,rfl,hlc,Nat.le_refl _,hp,Nat.le_refl _,hnp0,Hn,Hlen,hidI rfl,H0,HS0,HT0,hidI (Fm.refl _ _)⟩
 case round =>
  clear H0 HS0 HT0 Hlen
  obtain ⟨l',m',p',o',n',c',ni',S',rfl,hnc,hcc,hp',hni',hnp,Hn',Hlen',HE,H1,HS1,HT1,HF1⟩:=hrel
  have c0:=H1.out.log.c0
  have c5:=H1.out.log.c5
  have c0d:wr.drew.cell? ⟨lb,0,none⟩=some (.pointer (some ⟨cb,0,none⟩)):=c0
  have c5d:wr.drew.cell? ⟨lb,7,none⟩=some (.int .i64 (p':Nat)):=c5
  cases l' with
  | nil =>
    have hn0:n'=0:=Hn'.out
    subst hn0
    have HR:Hid (progL b l m p S=([],m',p',S')):=hidI HE.out
    go_wp2_with fail
    refine wp_region_held_drew (S:=fun V=>V.cell? ⟨lb,0,none⟩=some (.pointer (some ⟨cb,0,none⟩))∧V.cell? ⟨lb,7,none⟩=some (.int .i64 (p':Nat))) (by kernel_rfl) ⟨c0d,c5d⟩ (fun hHeld => ?_)
    refine tk 0 ⟨some 7,.move (.tmp 1),61, "log.go:89",#[],none⟩ (.slice (some ⟨g,o',none⟩) 0 c') rfl (by kernel_rfl) (fun _ _ _ h=>h) (fun w h=>by (try dsimp only at h);go_simp) hHeld ?_
    simp only [Act.put,List.setIfInBounds_toArray,List.set]
    refine tk 1 ⟨some 8,.call { callee:=Callee.builtin Builtin.len,args:=#[.tmp 7],argTypes:=#[61] },3, "log.go:89",#[⟨0,.data⟩],none⟩ (.int .i64 ((0:Nat):Int)) rfl (by kernel_rfl) (fun _ _ _ h=>h) (fun w h=>by (try dsimp only at h);go_simp) hHeld ?_
    simp only [Act.put,List.setIfInBounds_toArray,List.set]
    refine tk 2 ⟨some 9,.binOp .gtr 3 (.tmp 8) (.const (.int .i64 0)) 3,4, "log.go:89",#[⟨1,.data⟩],none⟩ (.bool false) rfl (by kernel_rfl) (fun _ _ _ h=>h) (fun w h=>by (try dsimp only at h);go_simp) hHeld ?_
    simp only [Act.put,List.setIfInBounds_toArray,List.set]
    refine tk 3 ⟨some 10,.move (.tmp 9),4, "log.go:89",#[⟨2,.data⟩],none⟩ (.bool false) rfl (by kernel_rfl) (fun _ _ _ h=>h) (fun w h=>by (try dsimp only at h);go_simp) hHeld ?_
    simp only [Act.put,List.setIfInBounds_toArray,List.set]
    refine wpAnyH_take (i:=4) (oi:=⟨some 11,.move (.tmp 0),66, "log.go:89",#[⟨3,.guard⟩],some (3,true)⟩) (v:=undef) rfl (by kernel_rfl) (by kernel_rfl) (by kernel_rfl) (fun _ _ _ h=>h) (Or.inr ⟨by kernel_rfl,rfl⟩) hHeld ?_
    simp only [Act.put,List.setIfInBounds_toArray,List.set]
    refine wpAnyH_take (i:=5) (oi:=⟨some 12,.nilCheck (.tmp 11),0, "log.go:89",#[⟨4,.data⟩,⟨3,.guard⟩],some (3,true)⟩) (v:=undef) rfl (by kernel_rfl) (by kernel_rfl) (by kernel_rfl) (fun _ _ _ h=>h) (Or.inr ⟨by kernel_rfl,rfl⟩) hHeld ?_
    simp only [Act.put,List.setIfInBounds_toArray,List.set]
    refine wpAnyH_take (i:=6) (oi:=⟨some 13,.fieldAddr 124 (.tmp 12) 6,0, "log.go:89",#[⟨5,.data⟩,⟨3,.guard⟩],some (3,true)⟩) (v:=undef) rfl (by kernel_rfl) (by kernel_rfl) (by kernel_rfl) (fun _ _ _ h=>h) (Or.inr ⟨by kernel_rfl,rfl⟩) hHeld ?_
    simp only [Act.put,List.setIfInBounds_toArray,List.set]
    refine wpAnyH_take (i:=7) (oi:=⟨some 14,.load 3 (.tmp 13),3, "log.go:89",#[⟨6,.data⟩,⟨3,.guard⟩],some (3,true)⟩) (v:=undef) rfl (by kernel_rfl) (by kernel_rfl) (by kernel_rfl) (fun _ _ _ h=>h) (Or.inr ⟨by kernel_rfl,rfl⟩) hHeld ?_
    simp only [Act.put,List.setIfInBounds_toArray,List.set]
    refine wpAnyH_take (i:=8) (oi:=⟨some 15,.move (.tmp 0),66, "log.go:89",#[⟨3,.guard⟩],some (3,true)⟩) (v:=undef) rfl (by kernel_rfl) (by kernel_rfl) (by kernel_rfl) (fun _ _ _ h=>h) (Or.inr ⟨by kernel_rfl,rfl⟩) hHeld ?_
    simp only [Act.put,List.setIfInBounds_toArray,List.set]
    refine wpAnyH_take (i:=9) (oi:=⟨some 16,.nilCheck (.tmp 15),0, "log.go:89",#[⟨8,.data⟩,⟨3,.guard⟩],some (3,true)⟩) (v:=undef) rfl (by kernel_rfl) (by kernel_rfl) (by kernel_rfl) (fun _ _ _ h=>h) (Or.inr ⟨by kernel_rfl,rfl⟩) hHeld ?_
    simp only [Act.put,List.setIfInBounds_toArray,List.set]
    refine wpAnyH_take (i:=10) (oi:=⟨some 17,.fieldAddr 124 (.tmp 16) 0,0, "log.go:89",#[⟨9,.data⟩,⟨3,.guard⟩],some (3,true)⟩) (v:=undef) rfl (by kernel_rfl) (by kernel_rfl) (by kernel_rfl) (fun _ _ _ h=>h) (Or.inr ⟨by kernel_rfl,rfl⟩) hHeld ?_
    simp only [Act.put,List.setIfInBounds_toArray,List.set]
    refine wpAnyH_take (i:=11) (oi:=⟨some 18,.load 24 (.tmp 17),24, "log.go:89",#[⟨10,.data⟩,⟨3,.guard⟩],some (3,true)⟩) (v:=undef) rfl (by kernel_rfl) (by kernel_rfl) (by kernel_rfl) (fun _ _ _ h=>h) (Or.inr ⟨by kernel_rfl,rfl⟩) hHeld ?_
    simp only [Act.put,List.setIfInBounds_toArray,List.set]
    refine wpAnyH_take (i:=12) (oi:=⟨some 19,.call { callee:=Callee.value (Operand.func 9),args:=#[.tmp 18],argTypes:=#[24] },3, "log.go:89",#[⟨11,.data⟩,⟨3,.chain⟩,⟨3,.guard⟩],some (3,true)⟩) (v:=undef) rfl (by kernel_rfl) (by kernel_rfl) (by kernel_rfl) (fun _ _ _ h=>h) (Or.inr ⟨by kernel_rfl,rfl⟩) hHeld ?_
    simp only [Act.put,List.setIfInBounds_toArray,List.set]
    refine wpAnyH_take (i:=13) (oi:=⟨some 20,.binOp .lss 3 (.tmp 14) (.tmp 19) 3,4, "log.go:89",#[⟨7,.data⟩,⟨12,.data⟩,⟨3,.guard⟩],some (3,true)⟩) (v:=undef) rfl (by kernel_rfl) (by kernel_rfl) (by kernel_rfl) (fun _ _ _ h=>h) (Or.inr ⟨by kernel_rfl,rfl⟩) hHeld ?_
    simp only [Act.put,List.setIfInBounds_toArray,List.set]
    refine tk 14 ⟨some 21,.pick (.tmp 10) (.tmp 20) (.const (.bool false)),4, "log.go:89",#[⟨3,.data⟩,⟨13,.data⟩],none⟩ (.bool false) rfl (by kernel_rfl) (fun _ _ _ h=>h) (fun w h=>by (try dsimp only at h);go_simp) hHeld ?_
    simp only [Act.put,List.setIfInBounds_toArray,List.set]
    refine wpAnyH_done (by kernel_rfl) ?_ _
    clear hHeld
    go_wp2
    go_ret
    exact ⟨o',c',by rw [HR.out];rfl,by rw [HR.out];exact Nat.zero_le _,hcc,by rw [HR.out];exact fun k y hy=>by simp at hy,by rw [HR.out];exact H1.out.drew,by rw [HR.out];exact HS1.out.mono (by have:=Hn.out;omega),HF1.out.drew⟩
  | cons x xs =>
    obtain ⟨n1,rfl⟩:∃ n1,n'=n1+1:=⟨xs.length,Hn'.out⟩
    have hx64:=Hlen'.out x (by simp)
    have Hxs:Hid (∀ y∈xs,y.length≤64):=hidI (fun y hy=>Hlen'.out y (by simp [hy]))
    have Hn1:Hid (n1=xs.length):=hidI (by have:=Hn'.out;simpa using this)
    have cg:wr.cell? ⟨g,o',none⟩=some (.string (txt x)):=by have:=HT1.out 0 x rfl;simpa using this
    have HPg:=hidI (pages_any wr.drew lo hi cb L m' H1.out.drew.chip)
    obtain ⟨np,hnpe⟩:∃ np,np=m'.np:=⟨_,rfl⟩
    rw [←hnpe] at hnp HPg
    have Hnp:=hidI hnpe
    have hgt:((n1+1:Nat):Int) > 0:=by omega
    have hgt':(0:Int)<(n1:Int)+1:=by omega
    have hwr:g<wr.heap.size:=World.block_lt_of_cell? wr _ cg
    clear hnpe
    go_wp2_with fail
    refine wp_region_held_drew (S:=fun V=>V.cell? ⟨lb,0,none⟩=some (.pointer (some ⟨cb,0,none⟩))∧V.cell? ⟨lb,7,none⟩=some (.int .i64 (p':Nat))) (by kernel_rfl) ⟨c0d,c5d⟩ (fun hHeld => ?_)
    refine tk 0 ⟨some 7,.move (.tmp 1),61, "log.go:89",#[],none⟩ (.slice (some ⟨g,o',none⟩) (n1+1) c') rfl (by kernel_rfl) (fun _ _ _ h=>h) (fun w h=>by (try dsimp only at h);go_simp) hHeld ?_
    simp only [Act.put,List.setIfInBounds_toArray,List.set]
    refine tk 1 ⟨some 8,.call { callee:=Callee.builtin Builtin.len,args:=#[.tmp 7],argTypes:=#[61] },3, "log.go:89",#[⟨0,.data⟩],none⟩ (.int .i64 ((n1+1:Nat):Int)) rfl (by kernel_rfl) (fun _ _ _ h=>h) (fun w h=>by (try dsimp only at h);go_simp) hHeld ?_
    simp only [Act.put,List.setIfInBounds_toArray,List.set]
    refine tk 2 ⟨some 9,.binOp .gtr 3 (.tmp 8) (.const (.int .i64 0)) 3,4, "log.go:89",#[⟨1,.data⟩],none⟩ (.bool true) rfl (by kernel_rfl) (fun _ _ _ h=>h) (fun w h=>by (try dsimp only at h);go_simp) hHeld ?_
    simp only [Act.put,List.setIfInBounds_toArray,List.set]
    refine tk 3 ⟨some 10,.move (.tmp 9),4, "log.go:89",#[⟨2,.data⟩],none⟩ (.bool true) rfl (by kernel_rfl) (fun _ _ _ h=>h) (fun w h=>by (try dsimp only at h);go_simp) hHeld ?_
    simp only [Act.put,List.setIfInBounds_toArray,List.set]
    refine tk 4 ⟨some 11,.move (.tmp 0),66, "log.go:89",#[⟨3,.guard⟩],some (3,true)⟩ (.pointer (some ⟨lb,0,none⟩)) rfl (by kernel_rfl) (fun _ _ _ h=>h) (fun w h=>by (try dsimp only at h);go_simp) hHeld ?_
    simp only [Act.put,List.setIfInBounds_toArray,List.set]
    refine tk 5 ⟨some 12,.nilCheck (.tmp 11),0, "log.go:89",#[⟨4,.data⟩,⟨3,.guard⟩],some (3,true)⟩ (.pointer (some ⟨lb,0,none⟩)) rfl (by kernel_rfl) (fun _ _ _ h=>h) (fun w h=>by (try dsimp only at h);go_simp) hHeld ?_
    simp only [Act.put,List.setIfInBounds_toArray,List.set]
    refine tk 6 ⟨some 13,.fieldAddr 124 (.tmp 12) 6,0, "log.go:89",#[⟨5,.data⟩,⟨3,.guard⟩],some (3,true)⟩ (.pointer (some ⟨lb,7,none⟩)) rfl (by kernel_rfl) (fun _ _ _ h=>h) (fun w h=>by (try dsimp only at h);go_simp) hHeld ?_
    simp only [Act.put,List.setIfInBounds_toArray,List.set]
    refine tk 7 ⟨some 14,.load 3 (.tmp 13),3, "log.go:89",#[⟨6,.data⟩,⟨3,.guard⟩],some (3,true)⟩ (.int .i64 (p':Nat)) rfl (by kernel_rfl) (fun _ _ _ h=>h) (fun w h=>by (try dsimp only at h);go_simp) hHeld ?_
    simp only [Act.put,List.setIfInBounds_toArray,List.set]
    refine tk 8 ⟨some 15,.move (.tmp 0),66, "log.go:89",#[⟨3,.guard⟩],some (3,true)⟩ (.pointer (some ⟨lb,0,none⟩)) rfl (by kernel_rfl) (fun _ _ _ h=>h) (fun w h=>by (try dsimp only at h);go_simp) hHeld ?_
    simp only [Act.put,List.setIfInBounds_toArray,List.set]
    refine tk 9 ⟨some 16,.nilCheck (.tmp 15),0, "log.go:89",#[⟨8,.data⟩,⟨3,.guard⟩],some (3,true)⟩ (.pointer (some ⟨lb,0,none⟩)) rfl (by kernel_rfl) (fun _ _ _ h=>h) (fun w h=>by (try dsimp only at h);go_simp) hHeld ?_
    simp only [Act.put,List.setIfInBounds_toArray,List.set]
    refine tk 10 ⟨some 17,.fieldAddr 124 (.tmp 16) 0,0, "log.go:89",#[⟨9,.data⟩,⟨3,.guard⟩],some (3,true)⟩ (.pointer (some ⟨lb,0,none⟩)) rfl (by kernel_rfl) (fun _ _ _ h=>h) (fun w h=>by (try dsimp only at h);go_simp) hHeld ?_
    simp only [Act.put,List.setIfInBounds_toArray,List.set]
    refine tk 11 ⟨some 18,.load 24 (.tmp 17),24, "log.go:89",#[⟨10,.data⟩,⟨3,.guard⟩],some (3,true)⟩ (.pointer (some ⟨cb,0,none⟩)) rfl (by kernel_rfl) (fun _ _ _ h=>h) (fun w h=>by (try dsimp only at h);go_simp) hHeld ?_
    simp only [Act.put,List.setIfInBounds_toArray,List.set]
    refine rd 12 (by kernel_rfl) rfl (fun K hK => ?_)
    go_simp
    refine HPg.out.mono ?_
    rintro e w' ⟨rfl,hw⟩
    have hw':=hw.symm
    subst hw'
    clear hw
    refine hK.out _ _ ⟨c0d,c5d⟩ (fun hHeld => ?_)
    by_cases hpl:p'<np
    ·have hpl':(p':Int)<(np:Int):=by omega
     refine tk 13 ⟨some 20,.binOp .lss 3 (.tmp 14) (.tmp 19) 3,4, "log.go:89",#[⟨7,.data⟩,⟨12,.data⟩,⟨3,.guard⟩],some (3,true)⟩ (.bool true) rfl (by kernel_rfl) (fun _ _ _ h=>h) (fun w h=>by (try dsimp only at h);go_simp) hHeld ?_
     simp only [Act.put,List.setIfInBounds_toArray,List.set]
     refine tk 14 ⟨some 21,.pick (.tmp 10) (.tmp 20) (.const (.bool false)),4, "log.go:89",#[⟨3,.data⟩,⟨13,.data⟩],none⟩ (.bool true) rfl (by kernel_rfl) (fun _ _ _ h=>h) (fun w h=>by (try dsimp only at h);go_simp) hHeld ?_
     simp only [Act.put,List.setIfInBounds_toArray,List.set]
     refine wpAnyH_done (by kernel_rfl) ?_ _
     clear hHeld hK
     have W1d:=H1.out.drew
     have W1:=hidI (H1.out.drew.drew)
     have A:=hidI (prog_any wr.drew.drew lo hi cb L m' (b:Nat) (p':Nat) x W1.out.wf (by omega) W1.out.chip)
     have HWf:=hidI (progA_wf W1.out.wf (b:Nat) (p':Nat) x)
     have HNp:=hidI (progA_np m' (b:Nat) (p':Nat) x)
     obtain ⟨m2,hm2⟩:∃ m2,m2=(progA m' (b:Nat) (p':Nat) x).2:=⟨_,rfl⟩
     obtain ⟨r,hr⟩:∃ r,r=(progA m' (b:Nat) (p':Nat) x).1:=⟨_,rfl⟩
     have HR:Hid (progL b l m p S=if r then progL b xs m2 (p'+1) (fun j=>j==b||S' j) else (x :: xs,m2,np,S')):=hidI (by rw [HE.out,progL,←Hnp.out,if_pos hpl,hr,hm2])
     rw [←hr,←hm2] at A
     rw [←hm2] at HWf HNp
     have hnp2:m2.np≤16:=by rw [HNp.out,←Hnp.out];exact hnp
     have e0:wr.drew.drew.cell? ⟨lb,0,none⟩=some (.pointer (some ⟨cb,0,none⟩)):=c0
     have e4:wr.drew.drew.cell? ⟨lb,6,none⟩=some (.int .i64 (b:Nat)):=H1.out.log.c4
     have e5:wr.drew.drew.cell? ⟨lb,7,none⟩=some (.int .i64 (p':Nat)):=c5
     have eg:wr.drew.drew.cell? ⟨g,o',none⟩=some (.string (txt x)):=cg
     obtain ⟨X,hX⟩:∃ X,X=txt x:=⟨_,rfl⟩
     rw [←hX] at A eg
     clear hr hm2 W1d hX cg
     go_wp2_with fail
     refine wp_region_held_drew (S:=fun V=>V.cell? ⟨lb,0,none⟩=some (.pointer (some ⟨cb,0,none⟩))∧V.cell? ⟨lb,6,none⟩=some (.int .i64 (b:Nat))∧V.cell? ⟨lb,7,none⟩=some (.int .i64 (p':Nat))∧V.cell? ⟨g,o',none⟩=some (.string X)) (by kernel_rfl) ⟨e0,e4,e5,eg⟩ (fun hHeld => ?_)
     refine tk 0 ⟨some 22,.move (.tmp 0),66, "log.go:90",#[],none⟩ (.pointer (some ⟨lb,0,none⟩)) rfl (by kernel_rfl) (fun _ _ _ h=>h) (fun w h=>by (try dsimp only at h);go_simp) hHeld ?_
     simp only [Act.put,List.setIfInBounds_toArray,List.set]
     refine tk 1 ⟨some 23,.nilCheck (.tmp 22),0, "log.go:90",#[⟨0,.data⟩],none⟩ (.pointer (some ⟨lb,0,none⟩)) rfl (by kernel_rfl) (fun _ _ _ h=>h) (fun w h=>by (try dsimp only at h);go_simp) hHeld ?_
     simp only [Act.put,List.setIfInBounds_toArray,List.set]
     refine tk 2 ⟨some 24,.fieldAddr 124 (.tmp 23) 0,0, "log.go:90",#[⟨1,.data⟩],none⟩ (.pointer (some ⟨lb,0,none⟩)) rfl (by kernel_rfl) (fun _ _ _ h=>h) (fun w h=>by (try dsimp only at h);go_simp) hHeld ?_
     simp only [Act.put,List.setIfInBounds_toArray,List.set]
     refine tk 3 ⟨some 25,.load 24 (.tmp 24),24, "log.go:90",#[⟨2,.data⟩],none⟩ (.pointer (some ⟨cb,0,none⟩)) rfl (by kernel_rfl) (fun _ _ _ h=>h) (fun w h=>by (try dsimp only at h);go_simp) hHeld ?_
     simp only [Act.put,List.setIfInBounds_toArray,List.set]
     refine tk 4 ⟨some 26,.move (.tmp 0),66, "log.go:90",#[],none⟩ (.pointer (some ⟨lb,0,none⟩)) rfl (by kernel_rfl) (fun _ _ _ h=>h) (fun w h=>by (try dsimp only at h);go_simp) hHeld ?_
     simp only [Act.put,List.setIfInBounds_toArray,List.set]
     refine tk 5 ⟨some 27,.nilCheck (.tmp 26),0, "log.go:90",#[⟨4,.data⟩],none⟩ (.pointer (some ⟨lb,0,none⟩)) rfl (by kernel_rfl) (fun _ _ _ h=>h) (fun w h=>by (try dsimp only at h);go_simp) hHeld ?_
     simp only [Act.put,List.setIfInBounds_toArray,List.set]
     refine tk 6 ⟨some 28,.fieldAddr 124 (.tmp 27) 5,0, "log.go:90",#[⟨5,.data⟩],none⟩ (.pointer (some ⟨lb,6,none⟩)) rfl (by kernel_rfl) (fun _ _ _ h=>h) (fun w h=>by (try dsimp only at h);go_simp) hHeld ?_
     simp only [Act.put,List.setIfInBounds_toArray,List.set]
     refine tk 7 ⟨some 29,.load 3 (.tmp 28),3, "log.go:90",#[⟨6,.data⟩],none⟩ (.int .i64 (b:Nat)) rfl (by kernel_rfl) (fun _ _ _ h=>h) (fun w h=>by (try dsimp only at h);go_simp) hHeld ?_
     simp only [Act.put,List.setIfInBounds_toArray,List.set]
     refine tk 8 ⟨some 30,.move (.tmp 0),66, "log.go:90",#[],none⟩ (.pointer (some ⟨lb,0,none⟩)) rfl (by kernel_rfl) (fun _ _ _ h=>h) (fun w h=>by (try dsimp only at h);go_simp) hHeld ?_
     simp only [Act.put,List.setIfInBounds_toArray,List.set]
     refine tk 9 ⟨some 31,.nilCheck (.tmp 30),0, "log.go:90",#[⟨8,.data⟩],none⟩ (.pointer (some ⟨lb,0,none⟩)) rfl (by kernel_rfl) (fun _ _ _ h=>h) (fun w h=>by (try dsimp only at h);go_simp) hHeld ?_
     simp only [Act.put,List.setIfInBounds_toArray,List.set]
     refine tk 10 ⟨some 32,.fieldAddr 124 (.tmp 31) 6,0, "log.go:90",#[⟨9,.data⟩],none⟩ (.pointer (some ⟨lb,7,none⟩)) rfl (by kernel_rfl) (fun _ _ _ h=>h) (fun w h=>by (try dsimp only at h);go_simp) hHeld ?_
     simp only [Act.put,List.setIfInBounds_toArray,List.set]
     refine tk 11 ⟨some 33,.load 3 (.tmp 32),3, "log.go:90",#[⟨10,.data⟩],none⟩ (.int .i64 (p':Nat)) rfl (by kernel_rfl) (fun _ _ _ h=>h) (fun w h=>by (try dsimp only at h);go_simp) hHeld ?_
     simp only [Act.put,List.setIfInBounds_toArray,List.set]
     refine tk 12 ⟨some 34,.move (.tmp 1),61, "log.go:90",#[],none⟩ (.slice (some ⟨g,o',none⟩) (n1+1) c') rfl (by kernel_rfl) (fun _ _ _ h=>h) (fun w h=>by (try dsimp only at h);go_simp) hHeld ?_
     simp only [Act.put,List.setIfInBounds_toArray,List.set]
     refine tk 13 ⟨some 35,.indexAddr 61 (.tmp 34) (.const (.int .i64 0)),0, "log.go:90",#[⟨12,.data⟩],none⟩ (.pointer (some ⟨g,o',none⟩)) rfl (by kernel_rfl) (fun _ _ _ h=>h) (fun w h=>by (try dsimp only at h);go_simp) hHeld ?_
     simp only [Act.put,List.setIfInBounds_toArray,List.set]
     refine tk 14 ⟨some 36,.load 9 (.tmp 35),9, "log.go:90",#[⟨13,.data⟩],none⟩ (.string X) rfl (by kernel_rfl) (fun _ _ _ h=>h) (fun w h=>by (try dsimp only at h);go_simp) hHeld ?_
     simp only [Act.put,List.setIfInBounds_toArray,List.set]
     refine rd 15 (by kernel_rfl) rfl (fun K hK => ?_)
     go_simp
     refine A.out.mono ?_
     rintro e W2 ⟨rfl,hC2,hO2⟩
     have H2:=hidI (W1.out.turn hC2 HWf.out hO2)
     have HF2:=hidI (HF1.out.drew.drew.trans (Fm.of_only hO2 fun k h1 h2=>.inl (.inl ⟨h1,h2⟩)))
     have hT2:Txts W2 g o' (x :: xs):=(HT1.out.of_block (w':=wr.drew.drew) rfl).of_block (hO2.block g hwr (fun e=>HA.out.hg (.inl e)))
     have hS2:BlAt W2 ib ni' S':=(HS1.out.of_block (w':=wr.drew.drew) rfl).of_block (hO2.block ib HS1.out.lt (fun e=>HA.out.hib (.inl e)))
     have HT2:=hidI hT2
     have HS2:=hidI hS2
     have f0:=H2.out.log.c0
     have f4:=H2.out.log.c4
     have f5:=H2.out.log.c5
     have fg:W2.cell? ⟨g,o',none⟩=some (.string X):=by rw [World.cell?_of_block (hO2.block g hwr (fun e=>HA.out.hg (.inl e)))];exact eg
     clear hC2 hO2 hT2 hS2
     refine hK.out _ _ ⟨f0,f4,f5,fg⟩ (fun hHeld => ?_)
     cases r with
     | true =>
       refine tk 16 ⟨some 38,.unOp .not 4 (.tmp 37),4, "log.go:90",#[⟨15,.data⟩],none⟩ (.bool false) rfl (by kernel_rfl) (fun _ _ _ h=>h) (fun w h=>by (try dsimp only at h);go_simp) hHeld ?_
       simp only [Act.put,List.setIfInBounds_toArray,List.set]
       refine wpAnyH_done (by kernel_rfl) ?_ _
       clear hHeld hK A
       have A2:=hidI (badd_any ib ni' b _ W2 HS2.out (by omega) (by omega))
       go_wp2_with fail
       refine A2.out.mono ?_
       rintro e W3 ⟨rfl,hS3,hm3⟩
       clear A2
       have H3:=hidI (mapTurned_log H2.out HA.out.hib hm3)
       have HF3:=hidI (HF2.out.map (fun _=>.inr rfl) hm3)
       have HT3:Hid (Txts W3 g o' (x :: xs)):=hidI (HT2.out.of_block (hm3.grown.block g (World.block_lt_of_cell? W2 _ fg) (fun e=>by cases e;exact HA.out.hgi rfl)))
       have g4:=H3.out.log.c4
       have g5:=H3.out.log.c5
       have gz:=H3.out.log.fz 7
       have HS3:=hidI hS3
       have H4:=hidI (H3.out.set5 (p'+1))
       have HF4:=hidI (HF3.out.set (g:=lb) (fun _=>.inl (.inr (.inl rfl))) 7 (.int .i64 ((p'+1:Nat):Int)))
       have HT4:Hid (Txts (W3.setCell ⟨lb,7,none⟩ (.int .i64 ((p'+1:Nat):Int))) g (o'+1) xs):=hidI (Txts.tail (HT3.out.of_block (Below.heap_setCell W3 ⟨lb,7,none⟩ _ g (fun e=>HA.out.hg (.inr (.inl e))))))
       have HS4:Hid (BlAt (W3.setCell ⟨lb,7,none⟩ (.int .i64 ((p'+1:Nat):Int))) ib (ni'+1) (fun j=>j==b||S' j)):=hidI (HS3.out.of_block (Below.heap_setCell W3 ⟨lb,7,none⟩ _ ib HA.out.ilb))
       have h1c:(1:Int)≤(n1:Int)+1:=by omega
       have h1d:(n1:Int)+1≤(c':Int):=by omega
       rw [show ((p'+1:Nat):Int)=(p':Int)+1 by omega] at H4 HF4 HT4 HS4
       clear hS3 hm3 H2 HF2 HT2 HS2 f0 f5 fg e0 e4 e5 eg c0 c5 c0d c5d
       go_wp2
       have HRt:Hid (progL b l m p S=progL b xs m2 (p'+1) (fun j=>j==b||S' j)):=hidI (by rw [HR.out];rfl)
       have hTx:Txts (W3.setCell ⟨lb,7,none⟩ (.int .i64 ((p':Int)+1))) g (if c'=1 then o' else o'+1) xs:=by
        by_cases e:c'=1
        ·have:xs=[]:=List.eq_nil_of_length_eq_zero (by have:=Hn1.out;omega)
         subst this
         exact fun k y hy=>by simp at hy
        ·rw [if_neg e];exact HT4.out
       refine ⟨⟨xs,m2,p'+1,if c'=1 then o' else o'+1,n1,c' - 1,ni'+1,fun j=>j==b||S' j,?_,by omega,by omega,by omega,by omega,hnp2,Hn1,Hxs,HRt,H4,HS4,hidI hTx,HF4⟩,by simp [slen]⟩
       by_cases e:c'=1
       ·rw [if_pos e,if_pos e]
       ·rw [if_neg e,if_neg e]
     | false =>
       refine tk 16 ⟨some 38,.unOp .not 4 (.tmp 37),4, "log.go:90",#[⟨15,.data⟩],none⟩ (.bool true) rfl (by kernel_rfl) (fun _ _ _ h=>h) (fun w h=>by (try dsimp only at h);go_simp) hHeld ?_
       simp only [Act.put,List.setIfInBounds_toArray,List.set]
       refine wpAnyH_done (by kernel_rfl) ?_ _
       clear hHeld hK A
       have HPg2:=hidI (pages_any W2 lo hi cb L m2 H2.out.chip)
       rw [HNp.out,←Hnp.out] at HPg2
       have f5z:=H2.out.log.fz 7
       have H3:=hidI (H2.out.set5 np)
       have HF3:=hidI (HF2.out.set (g:=lb) (fun _=>.inl (.inr (.inl rfl))) 7 (.int .i64 (np:Nat)))
       have HT3:Hid (Txts (W2.setCell ⟨lb,7,none⟩ (.int .i64 (np:Nat))) g o' (x :: xs)):=hidI (HT2.out.of_block (Below.heap_setCell W2 ⟨lb,7,none⟩ _ g (fun e=>HA.out.hg (.inr (.inl e)))))
       have HS3:Hid (BlAt (W2.setCell ⟨lb,7,none⟩ (.int .i64 (np:Nat))) ib ni' S'):=hidI (HS2.out.of_block (Below.heap_setCell W2 ⟨lb,7,none⟩ _ ib HA.out.ilb))
       have HRf:Hid (progL b l m p S=(x :: xs,m2,np,S')):=hidI (by rw [HR.out];rfl)
       clear HR e0 e4 e5 eg c0 c5 c0d c5d
       go_wp2_with fail
       refine HPg2.out.mono ?_
       rintro e w' ⟨rfl,hw⟩
       have hw':=hw.symm
       subst hw'
       clear hw
       go_wp2
       go_ret
       exact ⟨o',c',by rw [HRf.out];show _=Ending.returned (.slice _ (xs.length+1) _);rw [←Hn1.out];rfl,by rw [HRf.out];show xs.length+1≤c';rw [←Hn1.out];exact hnc,hcc,by rw [HRf.out];exact HT3.out,by rw [HRf.out];exact H3.out,by rw [HRf.out];exact HS3.out.mono (by have:=Hn.out;omega),HF3.out⟩
    ·have hpl':¬(p':Int)<(np:Int):=by omega
     have HR:Hid (progL b l m p S=(x :: xs,m',p',S')):=hidI (by rw [HE.out,progL,←Hnp.out,if_neg hpl])
     refine tk 13 ⟨some 20,.binOp .lss 3 (.tmp 14) (.tmp 19) 3,4, "log.go:89",#[⟨7,.data⟩,⟨12,.data⟩,⟨3,.guard⟩],some (3,true)⟩ (.bool false) rfl (by kernel_rfl) (fun _ _ _ h=>h) (fun w h=>by (try dsimp only at h);go_simp) hHeld ?_
     simp only [Act.put,List.setIfInBounds_toArray,List.set]
     refine tk 14 ⟨some 21,.pick (.tmp 10) (.tmp 20) (.const (.bool false)),4, "log.go:89",#[⟨3,.data⟩,⟨13,.data⟩],none⟩ (.bool false) rfl (by kernel_rfl) (fun _ _ _ h=>h) (fun w h=>by (try dsimp only at h);go_simp) hHeld ?_
     simp only [Act.put,List.setIfInBounds_toArray,List.set]
     refine wpAnyH_done (by kernel_rfl) ?_ _
     clear hHeld hK
     go_wp2
     go_ret
     exact ⟨o',c',by rw [HR.out];show _=Ending.returned (.slice _ (xs.length+1) _);rw [←Hn1.out];rfl,by rw [HR.out];show xs.length+1≤c';rw [←Hn1.out];exact hnc,hcc,by rw [HR.out];exact HT1.out,by rw [HR.out];exact H1.out.drew,by rw [HR.out];exact HS1.out.mono (by have:=Hn.out;omega),HF1.out.drew⟩
end Go.Proofs.YtodmdkhdbfbfgabGreatDoor.S1
