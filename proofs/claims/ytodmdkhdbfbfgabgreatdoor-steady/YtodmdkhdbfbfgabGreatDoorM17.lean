/- Lemmas. -/
import Derived.Test.YtodmdkhdbfbfgabGreatDoorM15
import Derived.Test.YtodmdkhdbfbfgabGreatDoorM16
set_option linter.unusedVariables false
set_option linter.unusedSimpArgs false
set_option maxRecDepth 100000
set_option maxHeartbeats 8000000
namespace Go.Proofs.YtodmdkhdbfbfgabGreatDoor.S1
open Go.RowKit Pk
theorem qgA (K:Nat→Bool) (s:LS):(lay1 K s).m.nb=s.m.nb∧(lay1 K s).m.np=s.m.np∧(lay1 K s).left.length≤s.left.length∧(lay1 K s).p≤s.m.np∧(lay1 K s).b=(s.b+1)%s.m.nb:=by
 obtain ⟨k1,k2,k3⟩:=qaD s.m K s.Q s.b;unfold lay1
 split
 ·obtain ⟨q1,q2,q3,q4⟩:=qaE ((s.b+1)%s.m.nb) s.left (openF s.m K s.Q s.b).2.1 (openF s.m K s.Q s.b).2.2.2 s.S;exact ⟨q1.trans k1,q2.trans k2,q3,by have:=q4 (by rw [k2];exact k3);rw [k2] at this;exact this,rfl⟩
 ·exact ⟨k1,k2,Nat.le_refl _,k3,rfl⟩
theorem qjN (s:LS):s.prog.m.nb=s.m.nb∧s.prog.m.np=s.m.np∧s.prog.left.length≤s.left.length∧(s.p≤s.m.np→s.prog.p≤s.m.np):=qaE s.b s.left s.m s.p s.S
theorem qcQ (b:Nat):∀ (l:List (List UInt8)) (m:M) (p:Nat) (S:Nat→Bool),∀ x∈(progL b l m p S).1,x∈l
 | [],m,p,S,x,h=>h
 | y :: ys,m,p,S,x,h=>by
   rw [progL] at h
   split at h
   ·split at h
    ·exact List.mem_cons_of_mem _ (qcQ b ys _ _ _ x h)
    ·exact h
   ·exact h
def qgw (w:World) (lo hi cb lb:Nat) (L:Loc) (lv:Lv) (kv qv:Option Nat) (nk nq:Nat) (K:Nat→Bool) (ib ni:Nat) (s t:LS) (e:Ending) (w':World):Prop:=
 e=.returned (.bool t.left.isEmpty)∧LogM w' lo hi cb lb L lv kv qv nk nq t.m K t.Q t.b t.p∧BlAt w' ib (ni+40*s.left.length) t.S∧Fm (fun k=>LogS lo hi lb kv qv k∨k=ib) w w'
theorem qm6 (w:World) (lo hi cb lb:Nat) (L:Loc) (lv:Lv) (kv qv:Option Nat) (nk nq:Nat) (K:Nat→Bool) (s:LS) (ib ni g o c:Nat)
 (h:LogM w lo hi cb lb L lv kv qv nk nq s.m K s.Q s.b s.p) (hb:s.b<1000) (hp:s.p≤s.m.np) (hS:BlAt w ib ni s.S) (hni:ni+40*s.left.length≤900000) (ha:Aside lo hi lb kv qv ib g) (ht:Txts w g o s.left) (hlen:∀ x∈s.left,x.length≤64) (hlc:s.left.length≤c) (hc:c≤20000) :
 Calls Tryz.prog 78 #[.pointer (some ⟨lb,0,none⟩),.slice (some ⟨g,o,none⟩) s.left.length c,.map (some ib)] w fun e w'=>qgw w lo hi cb lb L lv kv qv nk nq K ib ni s (layF K s) e w':=by
 have hnp16:=h.wf.np2;have hnb32:=h.wf.nb2;have hnb4:=h.wf.nb1;have HPg:=hidI (fun (V:World) (m':M) (hV:CP V lo hi cb L m')=>pages_any V lo hi cb L m' hV);have HBk:=hidI (fun (V:World) (m':M) (hV:CP V lo hi cb L m')=>blocks_any V lo hi cb L m' hV);have HDd:=hidI (fun (V:World) (m':M) (hV:CP V lo hi cb L m')=>dead_any V lo hi cb L m' hV);have HOp:=hidI (fun (V:World) (s':LS) (hV:LogM V lo hi cb lb L lv kv qv nk nq s'.m K s'.Q s'.b s'.p) (hb':s'.b<1000000)=>qlk V lo hi cb lb L lv kv qv nk nq s'.m K s'.Q s'.b s'.p hV hb')
 have HPr:=hidI (fun (V:World) (s':LS) (n' o' c':Nat) (hV:LogM V lo hi cb lb L lv kv qv nk nq s'.m K s'.Q s'.b s'.p) (h1:s'.b<1000000) (h2:s'.p<1000000) (h3:BlAt V ib n' s'.S) (h4:n'+s'.left.length≤1000000) (h5:Txts V g o' s'.left) (h6:∀ x∈s'.left,x.length≤64) (h7:s'.left.length≤c') (h8:c'≤1000000)=>qgj V lo hi cb lb L lv kv qv nk nq s'.m K s'.Q s'.b s'.p ib n' g o' c' s'.S s'.left hV h1 h2 h3 h4 ha h5 h6 h7 h8);obtain ⟨n,hn⟩:∃ n,n=s.left.length:=⟨_,rfl⟩;obtain ⟨nb,hnb⟩:∃ nb,nb=s.m.nb:=⟨_,rfl⟩;obtain ⟨np,hnp⟩:∃ np,np=s.m.np:=⟨_,rfl⟩;have A0:=hidI (HPg.out w.drew s.m h.chip.drew);unfold qgw;rw [←hn] at hni hlc ⊢;rw [←hnp] at hp hnp16 A0;rw [←hnb] at hnb32 hnb4;have c0:=h.log.c0;have c5:=h.log.c5;have H0:=hidI h;have HS0:=hidI hS;have HT0:=hidI ht;have Hlen:=hidI hlen;have Hn:=hidI hn;have Hnb:=hidI hnb;have Hnp:=hidI hnp;obtain ⟨p0,hp0⟩:∃ p0,p0=s.p:=⟨_,rfl⟩;rw [←hp0] at hp c5
 have Hp0:=hidI hp0;clear h hS ht hlen hn hnb hnp hp0;have hwr:IntKind.i64.wrap ((np:Int) - (p0:Int))=(np:Int) - (p0:Int):=by rw [IntKind.wrap_i64];omega
 by_cases hfit:n+p0≤np
 ·have hfi:(n:Int)≤(np:Int) - (p0:Int):=by omega
  have Hst:Hid (layF K s=layN K nb s.prog):=hidI (by unfold layF lay0;rw [if_pos (by rw [←Hn.out,←Hp0.out,←Hnp.out];exact hfit),←Hnb.out]);obtain ⟨j1,j2,j3,j4⟩:=qjN s;have HJ1:=hidI (j1.trans Hnb.out.symm);have HJ2:=hidI (j2.trans Hnp.out.symm);have hJ3:s.prog.left.length≤n:=by rw [Hn.out];exact j3
  have hJ4:s.prog.p≤16:=by have:=j4 (by rw [←Hp0.out,←Hnp.out];exact hp);rw [←Hnp.out] at this;omega
  have hJ5:s.prog.b<1000:=hb;have B4:=hidI (HPr.out w.drew s ni o c H0.out.drew (by omega) (by rw [←Hp0.out];omega) (HS0.out.of_block rfl) (by rw [←Hn.out];omega) (HT0.out.of_block rfl) Hlen.out (by rw [←Hn.out];omega) (by omega));rw [←Hn.out] at B4;clear j1 j2 j3 j4;go_enter Tryz.func78,Tryz.ntmps78
  go_wp2_with fail;have c0d:w.drew.cell? ⟨lb,0,none⟩=some (.pointer (some ⟨cb,0,none⟩)):=c0;have c5d:w.drew.cell? ⟨lb,7,none⟩=some (.int .i64 (p0:Nat)):=c5;refine wp_region_held_drew (S:=fun V=>V.cell? ⟨lb,0,none⟩=some (.pointer (some ⟨cb,0,none⟩))∧V.cell? ⟨lb,7,none⟩=some (.int .i64 (p0:Nat))) (by kernel_rfl) ⟨c0d,c5d⟩ (fun hHeld => ?_);refine tk 0 ⟨some 8,.move (.tmp 1),_,_,_,none⟩ (.slice (some ⟨g,o,none⟩) n c) rfl (fun w h=>by go_simp) hHeld ?_;simp only [zP,List.set];refine tk 1 ⟨some 9,.call { callee:=Callee.builtin Builtin.len,args:=#[.tmp 8],argTypes:=#[61] },_,_,_,none⟩ (.int .i64 (n:Nat)) rfl (fun w h=>by go_simp) hHeld ?_;simp only [zP,List.set]
  refine tk 2 ⟨some 10,.move (.tmp 0),_,_,_,none⟩ (.pointer (some ⟨lb,0,none⟩)) rfl (fun w h=>by go_simp) hHeld ?_;simp only [zP,List.set];refine tk 3 ⟨some 11,.nilCheck (.tmp 10),_,_,_,none⟩ (.pointer (some ⟨lb,0,none⟩)) rfl (fun w h=>by go_simp) hHeld ?_;simp only [zP,List.set];refine tk 4 ⟨some 12,.fieldAddr 124 (.tmp 11) 0,_,_,_,none⟩ (.pointer (some ⟨lb,0,none⟩)) rfl (fun w h=>by go_simp) hHeld ?_;simp only [zP,List.set];refine tk 5 ⟨some 13,.load 24 (.tmp 12),_,_,_,none⟩ (.pointer (some ⟨cb,0,none⟩)) rfl (fun w h=>by go_simp) hHeld ?_;simp only [zP,List.set]
  refine tk 7 ⟨some 15,.move (.tmp 0),_,_,_,none⟩ (.pointer (some ⟨lb,0,none⟩)) rfl (fun w h=>by go_simp) hHeld ?_;simp only [zP,List.set];refine tk 8 ⟨some 16,.nilCheck (.tmp 15),_,_,_,none⟩ (.pointer (some ⟨lb,0,none⟩)) rfl (fun w h=>by go_simp) hHeld ?_;simp only [zP,List.set];refine tk 9 ⟨some 17,.fieldAddr 124 (.tmp 16) 6,_,_,_,none⟩ (.pointer (some ⟨lb,7,none⟩)) rfl (fun w h=>by go_simp) hHeld ?_;simp only [zP,List.set];refine tk 10 ⟨some 18,.load 3 (.tmp 17),_,_,_,none⟩ (.int .i64 (p0:Nat)) rfl (fun w h=>by go_simp) hHeld ?_;simp only [zP,List.set]
  refine rd 6 rfl (fun K hK => ?_);go_simp;refine A0.out.mono ?_;rintro e w' ⟨rfl,hw⟩;have hw':=hw.symm;subst hw';clear hw;refine hK.out _ _ ⟨c0d,c5d⟩ (fun hHeld => ?_);clear hK K;refine tk 11 ⟨some 19,.binOp .sub 3 (.tmp 14) (.tmp 18) 3,_,_,_,none⟩ (.int .i64 ((np:Int) - (p0:Int))) rfl (fun w h=>by go_simp) hHeld ?_;simp only [zP,List.set];refine tk 12 ⟨some 20,.binOp .leq 3 (.tmp 9) (.tmp 19) 3,_,_,_,none⟩ (.bool true) rfl (fun w h=>by go_simp) hHeld ?_;simp only [zP,List.set];refine wpAnyH_done (by kernel_rfl) ?_ _;clear hHeld;go_wp2_with fail;refine B4.out.mono ?_;rintro e W3 ⟨o3,c3,rfl,hc3,hcc3,hT3,hL3,hS3,hF3⟩
  have HN3:Hid ((progL s.b s.left s.m s.p s.S).1.length=s.prog.left.length):=hidI rfl;rw [HN3.out] at hc3 ⊢;have HT3:Hid (Txts W3 g o3 s.prog.left):=hidI hT3;have HL3:Hid (LogM W3 lo hi cb lb L lv kv qv nk nq s.prog.m K s.prog.Q s.prog.b s.prog.p):=hidI hL3;have HS3:Hid (BlAt W3 ib (ni+n) s.prog.S):=hidI (by rw [Hn.out];exact hS3);have HF3:Hid (Fm (fun k=>LogS lo hi lb kv qv k∨k=ib) w W3):=hidI ((Fm.refl _ w).drew.trans hF3);have Hlen3:Hid (∀ x∈s.prog.left,x.length≤64):=hidI (fun x hx=>Hlen.out x (qcQ _ _ _ _ _ x hx));obtain ⟨n3,hn3⟩:∃ n3,n3=s.prog.left.length:=⟨_,rfl⟩;rw [←hn3] at hJ3 hc3 ⊢;have Hn3:=hidI hn3;clear hT3 hL3 hS3 hF3 B4 H0 HS0 HT0 hn3 c0 c5 c0d c5d A0 Hlen;go_wp2_with fail
  go_loopw [1,7] (fun v i wr=>∃ (k:Nat) (t:LS) (n' o' c' ni':Nat),k≤nb∧i=.int .i64 k∧v=.slice (some ⟨g,o',none⟩) n' c'∧n'≤c'∧c'≤20000∧n'≤n∧ni'+0≤ni+(k+1)*n∧t.b<1000∧t.p≤16∧Hid (n'=t.left.length)∧Hid (t.m.nb=nb)∧Hid (t.m.np=np)∧Hid (∀ x∈t.left,x.length≤64)∧Hid (layF K s=layN K (nb - k) t)∧Hid (LogM wr lo hi cb lb L lv kv qv nk nq t.m K t.Q t.b t.p)∧Hid (BlAt wr ib ni' t.S)∧Hid (Txts wr g o' t.left)∧Hid (Fm (fun k=>LogS lo hi lb kv qv k∨k=ib) w wr)) (fun _ i _=>nb - (intOf i).toNat)
  case atStart=>exact ⟨0,s.prog,n3,o3,c3,ni+n,Nat.zero_le _,rfl,rfl,hc3,by omega,hJ3,by omega,hJ5,hJ4,Hn3,HJ1,HJ2,Hlen3,hidI (by rw [Nat.sub_zero];exact Hst.out),HL3,HS3,HT3,HF3⟩
  case round =>
   clear HT3 HL3 HS3 HF3 Hlen3 Hn3 HJ1 HJ2 Hst HN3;obtain ⟨k,t,n',o',c',ni',hk,rfl,rfl,hnc,hc',hnn,hni',htb,htp,Hn',Hnb',Hnp',Hlen',HE,H1,HS1,HT1,HF1⟩:=hrel;have hkn:(k+1)*n≤33*n:=Nat.mul_le_mul_right _ (by omega);have d0:=H1.out.log.c0;have B1:=hidI (HBk.out wr t.m H1.out.chip);rw [Hnb'.out] at B1;have B2:=hidI (HDd.out wr t.m H1.out.chip);by_cases hlt:k<nb
   ·have hlti:(k:Int)<(nb:Int):=by omega
    cases hlf:t.left with
    | nil =>
      have hn0:n'=0:=by rw [Hn'.out,hlf];rfl
      subst hn0;have HR:Hid (layF K s=t):=hidI (by rw [HE.out];exact qbi K (.inl hlf) _);have HEm:Hid ((layF K s).left.isEmpty=true):=hidI (by rw [HR.out,hlf];rfl);clear hlf;go_wp2_with (first | (go_at_call 8;refine B1.out.mono ?_;rintro e w' ⟨rfl,hw⟩;have hw':=hw.symm;subst hw';clear hw) | fail);go_ret
      exact ⟨by rw [HEm.out];rfl,by rw [HR.out];exact H1.out,by rw [HR.out];exact HS1.out.mono (by omega),HF1.out⟩
    | cons x0 xs0 =>
      have hn1:0<n':=by rw [Hn'.out,hlf];simp
      have hn1i:(0:Int)<(n':Int):=by omega
      have Hne:Hid (t.left≠[]):=hidI (by rw [hlf];simp);have HEm:Hid (t.left.isEmpty=false):=hidI (by rw [hlf];rfl);clear hlf;by_cases hd:t.m.life=0
      ·have hdb:(t.m.life==0)=true:=beq_iff_eq.2 hd;rw [hdb] at B2;have HR:Hid (layF K s=t):=hidI (by rw [HE.out];exact qbi K (.inr hd) _);go_wp2_with (first | (go_at_call 8;refine B1.out.mono ?_;rintro e w' ⟨rfl,hw⟩;have hw':=hw.symm;subst hw';clear hw) | (go_at_call 31;refine B2.out.mono ?_;rintro e w' ⟨rfl,hw⟩;have hw':=hw.symm;subst hw';clear hw) | fail);go_ret
       have hnz:((n':Int)==0)=false:=by simp;omega
       refine ⟨?_,by rw [HR.out];exact H1.out,by rw [HR.out];exact HS1.out.mono (by omega),HF1.out⟩;rw [HR.out,HEm.out]
       first | rfl | (simp;omega)
      ·have hdb:(t.m.life==0)=false:=beq_eq_false_iff_ne.2 hd;rw [hdb] at B2;have HEn:Hid (layF K s=layN K (nb - (k+1)) (lay1 K t)):=hidI (by
        rw [HE.out,show nb - k=nb - (k+1)+1 by omega,layN,if_neg];rintro (h | h)
        ·exact Hne.out h
        ·exact hd h)
       have B3:=hidI (HOp.out wr t H1.out (by omega));obtain ⟨j1,j2,j3,j4,j5⟩:=qgA K t;have HJ1:=hidI (j1.trans Hnb'.out);have HJ2:=hidI (j2.trans Hnp'.out);have hJ3:(lay1 K t).left.length≤n':=by rw [Hn'.out];exact j3
       have hJ4:(lay1 K t).p≤16:=by have:=Hnp'.out;omega
       have hJ5:(lay1 K t).b<1000:=by rw [j5,Hnb'.out];have:=Nat.mod_lt (t.b+1) (show 0<nb by omega);omega
       clear j1 j2 j3 j4 j5;go_wp2_with (first | (go_at_call 8;refine B1.out.mono ?_;rintro e w' ⟨rfl,hw⟩;have hw':=hw.symm;subst hw';clear hw) | (go_at_call 31;refine B2.out.mono ?_;rintro e w' ⟨rfl,hw⟩;have hw':=hw.symm;subst hw';clear hw) | fail);refine B3.out.mono ?_;rintro e W2 ⟨rfl,hL2,hF2⟩;have hib:=ha.hib;have hgg:=ha.hg;have HS2:=hidI (HS1.out.of_block (hF2.block ib HS1.out.lt hib));have hgl:g<wr.heap.size∨t.left=[]:=by
        cases ht9:t.left with
        | nil=>exact .inr rfl
        | cons y ys=>exact .inl (World.block_lt_of_cell? wr _ (HT1.out 0 y (by rw [ht9];rfl)))
       have HT2:Hid (Txts W2 g o' t.left):=hidI (HT1.out.of_block (hF2.block g (hgl.resolve_right Hne.out) hgg));have HF2:=hidI (HF1.out.trans (hF2.mono fun k _ h=>.inl h));have HL2:Hid (LogM W2 lo hi cb lb L lv kv qv nk nq (t.opn K).m K (t.opn K).Q (t.opn K).b (t.opn K).p):=hidI hL2;obtain ⟨r,hr⟩:∃ r,r=(openF t.m K t.Q t.b).1:=⟨_,rfl⟩;rw [←hr];have Hr:=hidI hr;clear hL2 hF2 hgl hr B1 B2 B3 H1 HS1 HT1 HF1 d0;cases r with
       | true =>
         have HLay:Hid (lay1 K t=(t.opn K).prog):=hidI (by unfold lay1;rw [←Hr.out,if_pos rfl]);have hob:(t.opn K).b<1000000:=by show (t.b+1)%t.m.nb<_;rw [Hnb'.out];have:=Nat.mod_lt (t.b+1) (show 0<nb by omega);omega
         have hop:(t.opn K).p<1000000:=by have:=(qaD t.m K t.Q t.b).2.2;have h9:=Hnp'.out;show (openF t.m K t.Q t.b).2.2.2<_;omega
         have B4:=hidI (HPr.out W2 (t.opn K) ni' o' c' HL2.out hob hop HS2.out (by show ni'+t.left.length≤_;rw [←Hn'.out];omega) HT2.out Hlen'.out (by show t.left.length≤_;rw [←Hn'.out];omega) (by omega));have hln:(t.opn K).left.length=n':=Hn'.out.symm;rw [hln] at B4;go_wp2_with fail;refine B4.out.mono ?_;rintro e W3 ⟨o3,c3,rfl,hc3,hcc3,hT3,hL3,hS3,hF3⟩;have HN3:Hid ((progL (t.opn K).b (t.opn K).left (t.opn K).m (t.opn K).p (t.opn K).S).1.length=(lay1 K t).left.length):=hidI (by rw [HLay.out];rfl);rw [HN3.out] at hc3 ⊢;have HT3:Hid (Txts W3 g o3 (lay1 K t).left):=hidI (by rw [HLay.out];exact hT3);have HL3:Hid (LogM W3 lo hi cb lb L lv kv qv nk nq (lay1 K t).m K (lay1 K t).Q (lay1 K t).b (lay1 K t).p):=hidI (by rw [HLay.out];exact hL3);have HS3:Hid (BlAt W3 ib (ni'+n') (lay1 K t).S):=hidI (by rw [HLay.out,←hln];exact hS3);have HF3:=hidI (HF2.out.trans hF3)
         have Hlen3:Hid (∀ x∈(lay1 K t).left,x.length≤64):=hidI (by rw [HLay.out];exact fun x hx=>Hlen'.out x (qcQ _ _ _ _ _ x hx));obtain ⟨n3,hn3⟩:∃ n3,n3=(lay1 K t).left.length:=⟨_,rfl⟩;rw [←hn3] at hJ3 hc3 ⊢;have Hn3:=hidI hn3;clear hT3 hL3 hS3 hF3 B4 HL2 HS2 HT2 HF2 hn3 hln;go_wp2_with fail;go_roundw
         case rel=>exact ⟨k+1,lay1 K t,n3,o3,c3,ni'+n',by omega,by go_num,rfl,hc3,by omega,by omega,by rw [Nat.succ_mul (k+1)];omega,hJ5,hJ4,Hn3,HJ1,HJ2,Hlen3,HEn,HL3,HS3,HT3,HF3⟩
         case measure=>simp [intOf];omega
       | false =>
         have HLay:Hid (lay1 K t=t.opn K):=hidI (by unfold lay1;rw [←Hr.out];rfl);have HT3:Hid (Txts W2 g o' (lay1 K t).left):=hidI (by rw [HLay.out];exact HT2.out);have HL3:Hid (LogM W2 lo hi cb lb L lv kv qv nk nq (lay1 K t).m K (lay1 K t).Q (lay1 K t).b (lay1 K t).p):=hidI (by rw [HLay.out];exact HL2.out);have HS3:Hid (BlAt W2 ib ni' (lay1 K t).S):=hidI (by rw [HLay.out];exact HS2.out);have Hn3:Hid (n'=(lay1 K t).left.length):=hidI (by rw [HLay.out];exact Hn'.out);have Hlen3:Hid (∀ x∈(lay1 K t).left,x.length≤64):=hidI (by rw [HLay.out];exact Hlen'.out);clear HL2 HS2 HT2;go_wp2_with fail;go_roundw
         case rel=>exact ⟨k+1,lay1 K t,n',o',c',ni',by omega,by go_num,rfl,hnc,hc',hnn,by rw [Nat.succ_mul (k+1)];omega,hJ5,hJ4,Hn3,HJ1,HJ2,Hlen3,HEn,HL3,HS3,HT3,HF2⟩
         case measure=>simp [intOf];omega
   ·have hkn':k=nb:=by omega
    subst hkn';have HR:Hid (layF K s=t):=hidI (by rw [HE.out,Nat.sub_self];rfl);have HEm:Hid ((layF K s).left.isEmpty=decide (n'=0)):=hidI (by
     rw [HR.out,Hn'.out];cases t.left<;>simp)
    by_cases hz:n'=0
    ·subst hz;go_wp2_with (first | (go_at_call 8;refine B1.out.mono ?_;rintro e w' ⟨rfl,hw⟩;have hw':=hw.symm;subst hw';clear hw) | fail);go_ret
     exact ⟨by rw [HEm.out];rfl,by rw [HR.out];exact H1.out,by rw [HR.out];exact HS1.out.mono (by omega),HF1.out⟩
    ·have hzi:¬(n':Int)=0:=by omega
     go_wp2_with (first | (go_at_call 8;refine B1.out.mono ?_;rintro e w' ⟨rfl,hw⟩;have hw':=hw.symm;subst hw';clear hw) | fail);go_ret
     refine ⟨?_,by rw [HR.out];exact H1.out,by rw [HR.out];exact HS1.out.mono (by omega),HF1.out⟩;rw [HEm.out,decide_eq_false hz]
     first | rfl | (simp;omega)
 ·have hfi:¬(n:Int)≤(np:Int) - (p0:Int):=by omega
  have hfi':(np:Int) - (p0:Int)<(n:Int):=by omega
  have Hst:Hid (layF K s=layN K nb s):=hidI (by unfold layF lay0;rw [if_neg (by rw [←Hn.out,←Hp0.out,←Hnp.out];exact hfit),←Hnb.out]);have HL3:Hid (LogM w.drew lo hi cb lb L lv kv qv nk nq s.m K s.Q s.b s.p):=hidI H0.out.drew;have HS3:Hid (BlAt w.drew ib ni s.S):=hidI (HS0.out.of_block rfl);have HT3:Hid (Txts w.drew g o s.left):=hidI (HT0.out.of_block rfl);have HF3:Hid (Fm (fun k=>LogS lo hi lb kv qv k∨k=ib) w w.drew):=hidI (Fm.refl _ w).drew;have HJ1:Hid (s.m.nb=nb):=hidI Hnb.out.symm;have HJ2:Hid (s.m.np=np):=hidI Hnp.out.symm;have hsp:s.p≤16:=by rw [←Hp0.out];omega
  go_enter Tryz.func78,Tryz.ntmps78
  go_wp2_with fail;have c0d:w.drew.cell? ⟨lb,0,none⟩=some (.pointer (some ⟨cb,0,none⟩)):=c0;have c5d:w.drew.cell? ⟨lb,7,none⟩=some (.int .i64 (p0:Nat)):=c5;refine wp_region_held_drew (S:=fun V=>V.cell? ⟨lb,0,none⟩=some (.pointer (some ⟨cb,0,none⟩))∧V.cell? ⟨lb,7,none⟩=some (.int .i64 (p0:Nat))) (by kernel_rfl) ⟨c0d,c5d⟩ (fun hHeld => ?_);refine tk 0 ⟨some 8,.move (.tmp 1),_,_,_,none⟩ (.slice (some ⟨g,o,none⟩) n c) rfl (fun w h=>by go_simp) hHeld ?_;simp only [zP,List.set];refine tk 1 ⟨some 9,.call { callee:=Callee.builtin Builtin.len,args:=#[.tmp 8],argTypes:=#[61] },_,_,_,none⟩ (.int .i64 (n:Nat)) rfl (fun w h=>by go_simp) hHeld ?_;simp only [zP,List.set]
  refine tk 2 ⟨some 10,.move (.tmp 0),_,_,_,none⟩ (.pointer (some ⟨lb,0,none⟩)) rfl (fun w h=>by go_simp) hHeld ?_;simp only [zP,List.set];refine tk 3 ⟨some 11,.nilCheck (.tmp 10),_,_,_,none⟩ (.pointer (some ⟨lb,0,none⟩)) rfl (fun w h=>by go_simp) hHeld ?_;simp only [zP,List.set];refine tk 4 ⟨some 12,.fieldAddr 124 (.tmp 11) 0,_,_,_,none⟩ (.pointer (some ⟨lb,0,none⟩)) rfl (fun w h=>by go_simp) hHeld ?_;simp only [zP,List.set];refine tk 5 ⟨some 13,.load 24 (.tmp 12),_,_,_,none⟩ (.pointer (some ⟨cb,0,none⟩)) rfl (fun w h=>by go_simp) hHeld ?_;simp only [zP,List.set]
  refine tk 7 ⟨some 15,.move (.tmp 0),_,_,_,none⟩ (.pointer (some ⟨lb,0,none⟩)) rfl (fun w h=>by go_simp) hHeld ?_;simp only [zP,List.set];refine tk 8 ⟨some 16,.nilCheck (.tmp 15),_,_,_,none⟩ (.pointer (some ⟨lb,0,none⟩)) rfl (fun w h=>by go_simp) hHeld ?_;simp only [zP,List.set];refine tk 9 ⟨some 17,.fieldAddr 124 (.tmp 16) 6,_,_,_,none⟩ (.pointer (some ⟨lb,7,none⟩)) rfl (fun w h=>by go_simp) hHeld ?_;simp only [zP,List.set];refine tk 10 ⟨some 18,.load 3 (.tmp 17),_,_,_,none⟩ (.int .i64 (p0:Nat)) rfl (fun w h=>by go_simp) hHeld ?_;simp only [zP,List.set]
  refine rd 6 rfl (fun K hK => ?_);go_simp;refine A0.out.mono ?_;rintro e w' ⟨rfl,hw⟩;have hw':=hw.symm;subst hw';clear hw;refine hK.out _ _ ⟨c0d,c5d⟩ (fun hHeld => ?_);clear hK K;refine tk 11 ⟨some 19,.binOp .sub 3 (.tmp 14) (.tmp 18) 3,_,_,_,none⟩ (.int .i64 ((np:Int) - (p0:Int))) rfl (fun w h=>by go_simp) hHeld ?_;simp only [zP,List.set];refine tk 12 ⟨some 20,.binOp .leq 3 (.tmp 9) (.tmp 19) 3,_,_,_,none⟩ (.bool false) rfl (fun w h=>by go_simp) hHeld ?_;simp only [zP,List.set];refine wpAnyH_done (by kernel_rfl) ?_ _;clear hHeld;clear H0 HS0 HT0 c0 c5 c0d c5d A0;go_wp2_with fail
  go_loopw [1,7] (fun v i wr=>∃ (k:Nat) (t:LS) (n' o' c' ni':Nat),k≤nb∧i=.int .i64 k∧v=.slice (some ⟨g,o',none⟩) n' c'∧n'≤c'∧c'≤20000∧n'≤n∧ni'+0≤ni+(k+1)*n∧t.b<1000∧t.p≤16∧Hid (n'=t.left.length)∧Hid (t.m.nb=nb)∧Hid (t.m.np=np)∧Hid (∀ x∈t.left,x.length≤64)∧Hid (layF K s=layN K (nb - k) t)∧Hid (LogM wr lo hi cb lb L lv kv qv nk nq t.m K t.Q t.b t.p)∧Hid (BlAt wr ib ni' t.S)∧Hid (Txts wr g o' t.left)∧Hid (Fm (fun k=>LogS lo hi lb kv qv k∨k=ib) w wr)) (fun _ i _=>nb - (intOf i).toNat)
  case atStart=>exact ⟨0,s,n,o,c,ni,Nat.zero_le _,rfl,rfl,hlc,hc,Nat.le_refl _,by omega,hb,hsp,Hn,HJ1,HJ2,Hlen,hidI (by rw [Nat.sub_zero];exact Hst.out),HL3,HS3,HT3,HF3⟩
  case round =>
   clear HT3 HL3 HS3 HF3 HJ1 HJ2 Hst;obtain ⟨k,t,n',o',c',ni',hk,rfl,rfl,hnc,hc',hnn,hni',htb,htp,Hn',Hnb',Hnp',Hlen',HE,H1,HS1,HT1,HF1⟩:=hrel;have hkn:(k+1)*n≤33*n:=Nat.mul_le_mul_right _ (by omega);have d0:=H1.out.log.c0;have B1:=hidI (HBk.out wr t.m H1.out.chip);rw [Hnb'.out] at B1;have B2:=hidI (HDd.out wr t.m H1.out.chip);by_cases hlt:k<nb
   ·have hlti:(k:Int)<(nb:Int):=by omega
    cases hlf:t.left with
    | nil =>
      have hn0:n'=0:=by rw [Hn'.out,hlf];rfl
      subst hn0;have HR:Hid (layF K s=t):=hidI (by rw [HE.out];exact qbi K (.inl hlf) _);have HEm:Hid ((layF K s).left.isEmpty=true):=hidI (by rw [HR.out,hlf];rfl);clear hlf;go_wp2_with (first | (go_at_call 8;refine B1.out.mono ?_;rintro e w' ⟨rfl,hw⟩;have hw':=hw.symm;subst hw';clear hw) | fail);go_ret
      exact ⟨by rw [HEm.out];rfl,by rw [HR.out];exact H1.out,by rw [HR.out];exact HS1.out.mono (by omega),HF1.out⟩
    | cons x0 xs0 =>
      have hn1:0<n':=by rw [Hn'.out,hlf];simp
      have hn1i:(0:Int)<(n':Int):=by omega
      have Hne:Hid (t.left≠[]):=hidI (by rw [hlf];simp);have HEm:Hid (t.left.isEmpty=false):=hidI (by rw [hlf];rfl);clear hlf;by_cases hd:t.m.life=0
      ·have hdb:(t.m.life==0)=true:=beq_iff_eq.2 hd;rw [hdb] at B2;have HR:Hid (layF K s=t):=hidI (by rw [HE.out];exact qbi K (.inr hd) _);go_wp2_with (first | (go_at_call 8;refine B1.out.mono ?_;rintro e w' ⟨rfl,hw⟩;have hw':=hw.symm;subst hw';clear hw) | (go_at_call 31;refine B2.out.mono ?_;rintro e w' ⟨rfl,hw⟩;have hw':=hw.symm;subst hw';clear hw) | fail);go_ret
       have hnz:((n':Int)==0)=false:=by simp;omega
       refine ⟨?_,by rw [HR.out];exact H1.out,by rw [HR.out];exact HS1.out.mono (by omega),HF1.out⟩;rw [HR.out,HEm.out]
       first | rfl | (simp;omega)
      ·have hdb:(t.m.life==0)=false:=beq_eq_false_iff_ne.2 hd;rw [hdb] at B2;have HEn:Hid (layF K s=layN K (nb - (k+1)) (lay1 K t)):=hidI (by
        rw [HE.out,show nb - k=nb - (k+1)+1 by omega,layN,if_neg];rintro (h | h)
        ·exact Hne.out h
        ·exact hd h)
       have B3:=hidI (HOp.out wr t H1.out (by omega));obtain ⟨j1,j2,j3,j4,j5⟩:=qgA K t;have HJ1:=hidI (j1.trans Hnb'.out);have HJ2:=hidI (j2.trans Hnp'.out);have hJ3:(lay1 K t).left.length≤n':=by rw [Hn'.out];exact j3
       have hJ4:(lay1 K t).p≤16:=by have:=Hnp'.out;omega
       have hJ5:(lay1 K t).b<1000:=by rw [j5,Hnb'.out];have:=Nat.mod_lt (t.b+1) (show 0<nb by omega);omega
       clear j1 j2 j3 j4 j5;go_wp2_with (first | (go_at_call 8;refine B1.out.mono ?_;rintro e w' ⟨rfl,hw⟩;have hw':=hw.symm;subst hw';clear hw) | (go_at_call 31;refine B2.out.mono ?_;rintro e w' ⟨rfl,hw⟩;have hw':=hw.symm;subst hw';clear hw) | fail);refine B3.out.mono ?_;rintro e W2 ⟨rfl,hL2,hF2⟩;have hib:=ha.hib;have hgg:=ha.hg;have HS2:=hidI (HS1.out.of_block (hF2.block ib HS1.out.lt hib));have hgl:g<wr.heap.size∨t.left=[]:=by
        cases ht9:t.left with
        | nil=>exact .inr rfl
        | cons y ys=>exact .inl (World.block_lt_of_cell? wr _ (HT1.out 0 y (by rw [ht9];rfl)))
       have HT2:Hid (Txts W2 g o' t.left):=hidI (HT1.out.of_block (hF2.block g (hgl.resolve_right Hne.out) hgg));have HF2:=hidI (HF1.out.trans (hF2.mono fun k _ h=>.inl h));have HL2:Hid (LogM W2 lo hi cb lb L lv kv qv nk nq (t.opn K).m K (t.opn K).Q (t.opn K).b (t.opn K).p):=hidI hL2;obtain ⟨r,hr⟩:∃ r,r=(openF t.m K t.Q t.b).1:=⟨_,rfl⟩;rw [←hr];have Hr:=hidI hr;clear hL2 hF2 hgl hr B1 B2 B3 H1 HS1 HT1 HF1 d0;cases r with
       | true =>
         have HLay:Hid (lay1 K t=(t.opn K).prog):=hidI (by unfold lay1;rw [←Hr.out,if_pos rfl]);have hob:(t.opn K).b<1000000:=by show (t.b+1)%t.m.nb<_;rw [Hnb'.out];have:=Nat.mod_lt (t.b+1) (show 0<nb by omega);omega
         have hop:(t.opn K).p<1000000:=by have:=(qaD t.m K t.Q t.b).2.2;have h9:=Hnp'.out;show (openF t.m K t.Q t.b).2.2.2<_;omega
         have B4:=hidI (HPr.out W2 (t.opn K) ni' o' c' HL2.out hob hop HS2.out (by show ni'+t.left.length≤_;rw [←Hn'.out];omega) HT2.out Hlen'.out (by show t.left.length≤_;rw [←Hn'.out];omega) (by omega));have hln:(t.opn K).left.length=n':=Hn'.out.symm;rw [hln] at B4;go_wp2_with fail;refine B4.out.mono ?_;rintro e W3 ⟨o3,c3,rfl,hc3,hcc3,hT3,hL3,hS3,hF3⟩;have HN3:Hid ((progL (t.opn K).b (t.opn K).left (t.opn K).m (t.opn K).p (t.opn K).S).1.length=(lay1 K t).left.length):=hidI (by rw [HLay.out];rfl);rw [HN3.out] at hc3 ⊢;have HT3:Hid (Txts W3 g o3 (lay1 K t).left):=hidI (by rw [HLay.out];exact hT3);have HL3:Hid (LogM W3 lo hi cb lb L lv kv qv nk nq (lay1 K t).m K (lay1 K t).Q (lay1 K t).b (lay1 K t).p):=hidI (by rw [HLay.out];exact hL3);have HS3:Hid (BlAt W3 ib (ni'+n') (lay1 K t).S):=hidI (by rw [HLay.out,←hln];exact hS3);have HF3:=hidI (HF2.out.trans hF3)
         have Hlen3:Hid (∀ x∈(lay1 K t).left,x.length≤64):=hidI (by rw [HLay.out];exact fun x hx=>Hlen'.out x (qcQ _ _ _ _ _ x hx));obtain ⟨n3,hn3⟩:∃ n3,n3=(lay1 K t).left.length:=⟨_,rfl⟩;rw [←hn3] at hJ3 hc3 ⊢;have Hn3:=hidI hn3;clear hT3 hL3 hS3 hF3 B4 HL2 HS2 HT2 HF2 hn3 hln;go_wp2_with fail;go_roundw
         case rel=>exact ⟨k+1,lay1 K t,n3,o3,c3,ni'+n',by omega,by go_num,rfl,hc3,by omega,by omega,by rw [Nat.succ_mul (k+1)];omega,hJ5,hJ4,Hn3,HJ1,HJ2,Hlen3,HEn,HL3,HS3,HT3,HF3⟩
         case measure=>simp [intOf];omega
       | false =>
         have HLay:Hid (lay1 K t=t.opn K):=hidI (by unfold lay1;rw [←Hr.out];rfl);have HT3:Hid (Txts W2 g o' (lay1 K t).left):=hidI (by rw [HLay.out];exact HT2.out);have HL3:Hid (LogM W2 lo hi cb lb L lv kv qv nk nq (lay1 K t).m K (lay1 K t).Q (lay1 K t).b (lay1 K t).p):=hidI (by rw [HLay.out];exact HL2.out);have HS3:Hid (BlAt W2 ib ni' (lay1 K t).S):=hidI (by rw [HLay.out];exact HS2.out);have Hn3:Hid (n'=(lay1 K t).left.length):=hidI (by rw [HLay.out];exact Hn'.out);have Hlen3:Hid (∀ x∈(lay1 K t).left,x.length≤64):=hidI (by rw [HLay.out];exact Hlen'.out);clear HL2 HS2 HT2;go_wp2_with fail;go_roundw
         case rel=>exact ⟨k+1,lay1 K t,n',o',c',ni',by omega,by go_num,rfl,hnc,hc',hnn,by rw [Nat.succ_mul (k+1)];omega,hJ5,hJ4,Hn3,HJ1,HJ2,Hlen3,HEn,HL3,HS3,HT3,HF2⟩
         case measure=>simp [intOf];omega
   ·have hkn':k=nb:=by omega
    subst hkn';have HR:Hid (layF K s=t):=hidI (by rw [HE.out,Nat.sub_self];rfl);have HEm:Hid ((layF K s).left.isEmpty=decide (n'=0)):=hidI (by
     rw [HR.out,Hn'.out];cases t.left<;>simp)
    by_cases hz:n'=0
    ·subst hz;go_wp2_with (first | (go_at_call 8;refine B1.out.mono ?_;rintro e w' ⟨rfl,hw⟩;have hw':=hw.symm;subst hw';clear hw) | fail);go_ret
     exact ⟨by rw [HEm.out];rfl,by rw [HR.out];exact H1.out,by rw [HR.out];exact HS1.out.mono (by omega),HF1.out⟩
    ·have hzi:¬(n':Int)=0:=by omega
     go_wp2_with (first | (go_at_call 8;refine B1.out.mono ?_;rintro e w' ⟨rfl,hw⟩;have hw':=hw.symm;subst hw';clear hw) | fail);go_ret
     refine ⟨?_,by rw [HR.out];exact H1.out,by rw [HR.out];exact HS1.out.mono (by omega),HF1.out⟩;rw [HEm.out,decide_eq_false hz]
     first | rfl | (simp;omega)
end Go.Proofs.YtodmdkhdbfbfgabGreatDoor.S1
namespace Go.Nt
def dist (S:Nat→Bool):Nat→Nat→Nat
 | 0,_=>0
 | f+1,k=>if S k then dist S f ((k+1)%4294967296)+1 else 0
def nxt (S:Nat→Bool) (k:Nat):Nat:=(k+dist S 700 k)%4294967296
theorem qdC (S:Nat→Bool):∀ (f k j:Nat),k<4294967296→j<f→S ((k+j)%4294967296)=false→S ((k+dist S f k)%4294967296)=false∧dist S f k≤j∧dist S (f+1) k=dist S f k
 | 0,k,j,hk,hj,_=>by omega
 | f+1,k,j,hk,hj,h=>by
   rw [dist,dist];cases hs:S k with
   | false =>
     simp only [Bool.false_eq_true,if_false,Nat.add_zero];rw [Nat.mod_eq_of_lt hk];refine ⟨hs,Nat.zero_le _,?_⟩
     first | rfl | trivial
   | true =>
     simp only [if_true];cases j with
     | zero=>rw [Nat.add_zero,Nat.mod_eq_of_lt hk,hs] at h;cases h
     | succ j =>
       have e:((k+1)%4294967296+j)%4294967296=(k+(j+1))%4294967296:=by rw [Nat.mod_add_mod,show k+1+j=k+(j+1) by omega]
       obtain ⟨h1,h2,h3⟩:=qdC S f ((k+1)%4294967296) j (Nat.mod_lt _ (by decide)) (by omega) (by rw [e];exact h);refine ⟨?_,by omega,by rw [h3]⟩;rw [Nat.mod_add_mod] at h1;rw [show k+(dist S f ((k+1)%4294967296)+1)=k+1+dist S f ((k+1)%4294967296) by omega];exact h1
def Free (S:Nat→Bool):Prop:=∀ k,k<4294967296→∃ j,j≤600∧S ((k+j)%4294967296)=false
theorem nxt_free {S:Nat→Bool} (h:Free S) {k:Nat} (hk:k<4294967296):S (nxt S k)=false∧nxt S k<4294967296:=by
 obtain ⟨j,hj,hs⟩:=h k hk;exact ⟨(qdC S 700 k j hk (by omega) hs).1,Nat.mod_lt _ (by decide)⟩
theorem nxt_here {S:Nat→Bool} {k:Nat} (hk:k<4294967296) (h:S k=false):nxt S k=k:=by
 unfold nxt;rw [show dist S 700 k=0 by rw [dist,h];rfl,Nat.add_zero,Nat.mod_eq_of_lt hk]
theorem qbE {S:Nat→Bool} (h:Free S) {k:Nat} (hk:k<4294967296) (hs:S k=true):nxt S k=nxt S ((k+1)%4294967296)∧dist S 700 ((k+1)%4294967296)<dist S 700 k:=by
 obtain ⟨j,hj,hf⟩:=h ((k+1)%4294967296) (Nat.mod_lt _ (by decide));have h1:=(qdC S 699 ((k+1)%4294967296) j (Nat.mod_lt _ (by decide)) (by omega) hf).2.2;have h2:dist S 700 k=dist S 699 ((k+1)%4294967296)+1:=by
  show (if S k then dist S 699 ((k+1)%4294967296)+1 else 0)=_;rw [hs,if_pos rfl]
 have h3:dist S 700 ((k+1)%4294967296)=dist S 699 ((k+1)%4294967296):=h1;refine ⟨?_,by omega⟩;unfold nxt;rw [h2,h3,Nat.mod_add_mod]
 congr 1
 omega
theorem qd8 {f:Nat→Nat} (x:Nat):∀ (js:List Nat),js.Nodup→(∀ a∈js,∀ b∈js,f a=f b→a=b)→js.length≤(js.filter fun j=>f j != x).length+1
 | [],_,_=>by simp
 | j :: js,hn,hi=>by
   rw [List.nodup_cons] at hn;have ih:=qd8 x js hn.2 (fun a ha b hb=>hi a (by simp [ha]) b (by simp [hb]));by_cases e:f j=x
   ·have hall:js.filter (fun j=>f j != x)=js:=by
     rw [List.filter_eq_self];intro a ha;simp only [bne_iff_ne,ne_eq];intro e2
     have:=hi a (by simp [ha]) j (by simp) (by rw [e,e2])
     subst this;exact hn.1 ha
    rw [List.filter_cons_of_neg (by simp [e]),hall];simp
   ·rw [List.filter_cons_of_pos (by simp [e])];simp only [List.length_cons];omega
theorem pigeon {f:Nat→Nat}:∀ (l js:List Nat),js.Nodup→(∀ a∈js,∀ b∈js,f a=f b→a=b)→l.length<js.length→∃ j∈js,f j∉l
 | [],js,_,_,h=>by
   cases js with
   | nil=>simp at h
   | cons j js=>exact ⟨j,by simp,by simp⟩
 | x :: l,js,hn,hi,h=>by
   have h1:=qd8 x js hn hi;obtain ⟨j,hj,hf⟩:=pigeon l (js.filter fun j=>f j != x) (hn.filter _) (fun a ha b hb=>hi a (List.mem_filter.1 ha).1 b (List.mem_filter.1 hb).1) (by simp only [List.length_cons] at h;omega);obtain ⟨h2,h3⟩:=List.mem_filter.1 hj;refine ⟨j,h2,?_⟩;simp only [List.mem_cons,not_or];exact ⟨by simpa using h3,hf⟩
theorem qda {l:List Fp} (hl:l.length≤512) (b:Nat):Free (hasL l b):=by
 intro k hk;obtain ⟨j,hj,hf⟩:=pigeon (f:=fun j=>(k+j)%4294967296) (l.map Fp.num) (List.range 601) List.nodup_range (fun a ha c hc h=>by
  simp only [List.mem_range] at ha hc;have h':(k+a)%4294967296=(k+c)%4294967296:=h;omega) (by simp;omega)
 refine ⟨j,by simp at hj;omega,?_⟩;cases hh:hasL l b ((k+j)%4294967296) with
 | false=>rfl
 | true =>
   obtain ⟨f,hfl,_,hn⟩:=hasL_iff.1 hh;exact absurd (List.mem_map.2 ⟨f,hfl,hn⟩) hf
end Go.Nt
