/- Lemmas. -/
import Derived.Test.YtodmdkhdbfbfgaaGreatDoorM23
set_option linter.unusedVariables false
set_option linter.unusedSimpArgs false
set_option maxRecDepth 100000
set_option maxHeartbeats 8000000
namespace Go.Proofs.YtodmdkhdbfbfgaaGreatDoor
section
open Go.RowKit Go.Nt
variable {u:Bs→Option Bs} {w:World} {fb cb n:Nat} {T:Nat→Prop} {m0:S1.M}
def DeedV (u:Bs→Option Bs) (w:World) (fb cb:Nat) (T:Nat→Prop) (m0:S1.M) (v:Value) (now:List It) (n:Nat) (e:Ending) (w':World):Prop:=
 ∃ (x y:Int) (v':Value) (now':List It) (T':Nat→Prop) (l'':List It) (n':Nat) (lf':Int),e=.returned (.tuple #[.int .i64 x,.int .i64 y,v'])∧FsV u w' fb cb T' m0 l'' n' lf'∧n'≤n+701∧KT l''∧(∀ k,T' k→T k∨w.heap.size≤k)∧S1.Fm T w w'∧RowK w' T' v now∧RowK w' T' v' now'∧now'.length≤13 ∧
  (x=y∧y=0∧l''.Perm now'∨x=y∧y≠0∧l''.Perm now∨x≠y∧x=10∧lf'=0∧l''.Perm now)
theorem qdr {w1 w2 w3:World} {T':Nat→Prop} {lf':Int} {v v':Value} {now now' l'':List It} {n':Nat} {x y:Int} (hb:Below w.heap.size w w1) (hG:FsV u w2 fb cb T' m0 l'' n' lf') (hn':n'≤n+701) (hT2:∀ k,T' k→T k∨w1.heap.size≤k) (hF:S1.Fm T w1 w2) (hrow:RowK w1 T v now) (hb3:Below w2.heap.size w2 w3) (hnew:RowK w3 T' v' now') (hle:now'.length≤13) (hk:KT l'') (hor:x=y∧y=0∧l''.Perm now'∨x=y∧y≠0∧l''.Perm now∨x≠y∧x=10∧lf'=0∧l''.Perm now):DeedV u w fb cb T m0 v now n (.returned (.tuple #[.int .i64 x,.int .i64 y,v'])) w3:=
 ⟨x,y,v',now',T',l'',n',lf',rfl,hG.below hb3,hn',hk,fun k h=>(hT2 k h).imp id fun h=>Nat.le_trans hb.size h,((S1.Fm.of_below hb (fun k h1 h2=>by omega)).trans hF).trans (S1.Fm.of_below hb3 (fun k h1 h2=>by omega)),(hrow.fm hF hT2).below hb3,hnew,hle,hor⟩
theorem FsV.lt {l:List It} {lf:Int} (h:FsV u w fb cb T m0 l n lf):∀ k,T k→k<w.heap.size:=by
 obtain ⟨_,_,_,_,_,_,_,_,_,_,_,_,_,_,_,_,_,_,_,_,h5,_⟩:=h;exact h5
theorem qoz (l:List It) (p:Bs):(wo l p).length≤l.length:=by unfold wo;exact List.length_filter_le _ _
theorem qny (l:List It) (p d:Bs):(putK l p d).length≤l.length+1:=by
 unfold putK;simp only [List.length_append,List.length_singleton]
 have:=qoz l p
 omega
theorem qkj (hP:PackC u) (a b c:Int) (na:Option Addr) (nc:Nat) (w:World) (fb cb:Nat) (T:Nat→Prop) (m0:S1.M) (l now:List It) (n:Nat) (lf:Int) (hlf:lf≠0) (hn:n+800<2147483648) (h:FsV u w fb cb T m0 l n lf) (hk:KT l) (hp:l.Perm now) (hrow:RowK w T (.slice na now.length nc) now) (hml:ML w) (h0:¬T 0) (hroom:29≤S1.roomP m0) (ha1:-9223372036854775808≤a) (ha2:a≤9223372036854775807) (hb1:-9223372036854775808≤b) (hb2:b≤9223372036854775807) (hc1:-9223372036854775808≤c) (hc2:c≤9223372036854775807) :
 Calls Tryz.prog 24 #[.pointer (some ⟨fb,0,none⟩),.slice na now.length nc,.int .i64 a,.int .i64 b,.int .i64 c] w fun e w'=>DeedV u w fb cb T m0 (.slice na now.length nc) now n e w':=by
 have N1:=hidI (qhN a w ha1 ha2);have hnl:now.length≤12:=(hk.perm hp).len;obtain ⟨N,hN⟩:∃ N,N=now.length:=⟨_,rfl⟩;have HN:=hidI hN;have H:=hidI h;have Hk:=hidI hk;have Hp:=hidI hp;have Hrow:=hidI hrow;have Hml:=hidI hml;have H0:=hidI h0;have HT:Hid (∀ k,T k→k<w.heap.size):=hidI h.lt;have hlt:0<w.heap.size:=hml.lt;rw [←hN] at hnl ⊢;clear h hk hp hrow hml h0 hN;go_enter Tryz.func24,Tryz.ntmps24
 go_wp2_with fail;refine N1.out.mono ?_;rintro e w1 ⟨p0,rfl,hp0,hb01⟩;have F1:=hidI (qdX p0 w1);obtain ⟨X0,hX0⟩:∃ X0,X0=txt p0:=⟨_,rfl⟩;obtain ⟨fo,hfo⟩:∃ fo,fo=qaJ p0:=⟨_,rfl⟩;rw [←hX0,←hfo] at F1;rw [←hX0];have HX0:=hidI hX0;have Hfo:=hidI hfo;have Hb01:=hidI hb01;have Hp0:=hidI hp0;clear hX0 hfo hb01 N1 hp0;go_wp2_with fail;refine F1.out.mono ?_;rintro e w' ⟨rfl,hw⟩;have hw':=hw.symm;subst hw';clear hw F1;go_upto_if 20 with fail
 go_cut [13] from 17 (fun s13 wc=>∃ p:Bs,s13=.string (txt p)∧Hid (p∈names∧qaJ p=false)∧wc=w1)
 case first =>
  cases fo with
  | true =>
    go_wp2_with fail;go_meet
    case rel=>exact ⟨[97],rfl,hidI (by decide),rfl⟩
  | false =>
    go_wp2_with fail;go_meet
    case rel=>exact ⟨p0,by rw [HX0.out],hidI ⟨Hp0.out,Hfo.out.symm⟩,rfl⟩
 case rest =>
  obtain ⟨p,rfl,Hpn,hwc⟩:=hcut;have hwc':=hwc.symm;subst hwc';clear hwc;clear HX0 Hfo Hp0;have hpl:p.length≤5:=qeT Hpn.out.1;have P4:=hidI (fun W=>qaV c 4 W hc1 hc2 (by decide) (by decide));obtain ⟨r4,hr4⟩:∃ r4,r4=pickF c 4:=⟨_,rfl⟩;rw [←hr4] at P4;have hml1:ML w1:=Hml.out.below Hb01.out hlt;have hH1:FsV u w1 fb cb T m0 l n lf:=H.out.below Hb01.out;have hrow1:RowK w1 T (.slice na now.length nc) now:=Hrow.out.below Hb01.out;have A:=hidI (qg1 hP p w1 fb cb T m0 l n lf hlf hn hH1 Hk.out.tree hml1 H0.out (by omega));rw [Hk.out.removeE Hpn.out.1 Hpn.out.2,←Hk.out.there Hp.out p] at A;have B1:=hidI (fun (V:World) (d:Bs) (hV:Below w1.heap.size w1 V) (hd:d.length≤99)=>qm8 hP p d V fb cb T m0 l n lf hlf hn (hH1.below hV) Hk.out.tree (hml1.below hV (by have:=Hb01.out.size;omega)) H0.out (by omega) (by omega));have C1:=hidI (qfU b c w1 hb1 hb2 hc1 hc2)
  obtain ⟨X,hX⟩:∃ X,X=txt p:=⟨_,rfl⟩;rw [←hX] at A B1 ⊢;have HX:=hidI hX;have Hrow1:=hidI hrow1;have HN':=HN;clear hX hr4 hml1 hH1 hrow1 hc1 hc2 hb1 hb2;go_wp2_with fail;refine (P4.out _).mono ?_;rintro e w' ⟨rfl,hw⟩;have hw':=hw.symm;subst hw';clear hw P4;by_cases h4:r4=0
  ·subst h4;clear B1 C1;obtain ⟨is,his⟩:∃ is,is=(at? now p).isSome:=⟨_,rfl⟩;rw [←his] at A;have His:=hidI his;clear his;go_wp2_with fail;refine A.out.mono ?_;rintro e w2 hsg;obtain ⟨x,T',l'',n',lf',rfl,hG,hn',hT2,hF2,hor⟩:=hsg;have hrow2:=Hrow1.out.fm hF2 hT2;obtain ⟨ra,rc,hve,hin⟩:=qdo hrow2;obtain ⟨rfl,rfl⟩:ra=na∧rc=nc:=by cases hve;exact ⟨rfl,rfl⟩
   have D1:=hidI (qle ra rc now p w2 hin (by have:=HN'.out;omega));have D2:=hidI (fun (V:World) (hV:Below w2.heap.size w2 V)=>qc9 ra rc now p V (hin.below hV) (by have:=HN'.out;omega));rw [←His.out,←HX.out,←HN'.out] at D1;rw [←HX.out,←HN'.out] at D2;have HG:=hidI hG;have HT2:=hidI hT2;have HF2:=hidI hF2;have Hor:=hidI hor;have Hrow2:=hidI hrow2;clear hG hT2 hF2 hor hrow2 hve hin A;cases is with
   | false =>
     go_wp2_with fail;refine D1.out.mono ?_;rintro e w3 ⟨rfl,hb3⟩;have Hb3:=hidI hb3;clear hb3 D1 D2;go_wp2_with fail;go_ret3
     rcases Hor.out with ⟨_,hx,hl⟩ | ⟨h,_⟩
     ·have hx':x=4:=hx;rw [hx',HN'.out];exact qdr Hb01.out HG.out hn' HT2.out HF2.out Hrow1.out Hb3.out (Hrow2.out.below Hb3.out) (by have:=HN'.out;omega) (by rw [hl];exact Hk.out) (.inr (.inl ⟨rfl,by decide,by rw [hl];exact Hp.out⟩))
     cases h
   | true =>
     go_wp2_with fail;refine D1.out.mono ?_;rintro e w3 ⟨rfl,hb3⟩;have D3:=hidI (D2.out w3 hb3);have Hb3:=hidI hb3;clear hb3 D1 D2;go_wp2_with fail;refine D3.out.mono ?_;rintro e w4 ⟨v4,rfl,hown,hb4⟩;have Hb4:Hid (Below w2.heap.size w2 w4):=hidI (Hb3.out.trans (hb4.mono Hb3.out.size));have HR4:Hid (RowK w4 T' v4 (wo now p)):=hidI (RowK.new hown fun k hk=>Nat.lt_of_lt_of_le (HG.out.lt k hk) Hb3.out.size);clear hown hb4 D3;go_wp2_with fail;go_ret3
     rw [HN'.out];refine qdr (now':=wo now p) Hb01.out HG.out hn' HT2.out HF2.out Hrow1.out Hb4.out HR4.out (by have:=HN'.out;have:=qoz now p;omega) ?_ ?_
     ·rcases Hor.out with ⟨h,_⟩ | ⟨_,⟨_,hl⟩ | ⟨_,hl,_⟩ | ⟨_,hl,_⟩⟩
      ·exact absurd rfl h
      ·rw [hl];exact Hk.out.drop Hpn.out.2
      ·rw [hl];exact Hk.out
      rw [hl];exact Hk.out
     rcases Hor.out with ⟨h,_⟩ | ⟨_,⟨hx,hl⟩ | ⟨hx,hl,hd⟩ | ⟨hx,hl,t,t1,t2⟩⟩
     ·exact absurd rfl h
     ·exact .inl ⟨hx,rfl,by rw [hl];exact KT.drop_perm Hp.out p⟩
     ·exact .inr (.inr ⟨by rw [hx];decide,hx,hd,by rw [hl];exact Hp.out⟩)
     exfalso
     have:=(Hk.out.drop Hpn.out.2).room t1
     omega
  have h4':¬((r4:Nat):Int)=0:=by omega
  clear A;go_wp2_with fail;refine C1.out.mono ?_;rintro e w2 ⟨d,rfl,hd,hb2⟩;have B2:=hidI (B1.out w2 d hb2 (by omega));rw [Hk.out.putE Hpn.out.1 Hpn.out.2 (by omega)] at B2;obtain ⟨Y,hY⟩:∃ Y,Y=txt d:=⟨_,rfl⟩;rw [←hY] at B2 ⊢;have HY:=hidI hY;have Hb02:Hid (Below w.heap.size w w2):=hidI (Hb01.out.trans (hb2.mono Hb01.out.size));have Hrow2:Hid (RowK w2 T (.slice na now.length nc) now):=hidI (Hrow1.out.below hb2);clear hb2 B1 C1 hY;go_wp2_with fail;refine B2.out.mono ?_;rintro e w3 ⟨x,T',l'',n',lf',rfl,hG,hn',hT2,hF2,hor⟩;have hrow3:=Hrow2.out.fm hF2 hT2;obtain ⟨ra,rc,hve,hin⟩:=qdo hrow3;obtain ⟨rfl,rfl⟩:ra=na∧rc=nc:=by cases hve;exact ⟨rfl,rfl⟩
  have D1:=hidI (ql6 ra rc now p d w3 hin (by have:=HN'.out;omega));rw [←HX.out,←HY.out,←HN'.out] at D1;have HG:=hidI hG;have HT2:=hidI hT2;have HF2:=hidI hF2;have Hor:=hidI hor;clear hG hT2 hF2 hor hrow3 hve hin B2;go_wp2_with fail;refine D1.out.mono ?_;rintro e w4 ⟨v4,rfl,hown,hb4⟩;have Hb4:=hidI hb4;have HR4:Hid (RowK w4 T' v4 (putK now p d)):=hidI (RowK.new hown fun k hk=>HG.out.lt k hk);clear hown hb4 D1;go_wp2_with fail;go_ret3
  rw [HN'.out];refine qdr (now':=putK now p d) Hb02.out HG.out hn' HT2.out HF2.out Hrow2.out Hb4.out HR4.out (by have:=HN'.out;have:=qny now p d;omega) ?_ ?_
  ·rcases Hor.out with ⟨h,_⟩ | ⟨_,⟨_,hl⟩ | ⟨_,hl,_⟩ | ⟨_,hl,_⟩⟩
   ·exact absurd rfl h
   ·rw [hl];exact Hk.out.put Hpn.out.1 Hpn.out.2 (by omega)
   ·rw [hl];exact Hk.out
   rw [hl];exact Hk.out
  rcases Hor.out with ⟨h,_⟩ | ⟨_,⟨hx,hl⟩ | ⟨hx,hl,hd⟩ | ⟨hx,hl,t,t1,t2⟩⟩
  ·exact absurd rfl h
  ·exact .inl ⟨hx,rfl,by rw [hl];exact Hk.out.put_perm Hp.out p d⟩
  ·exact .inr (.inr ⟨by rw [hx];decide,hx,hd,by rw [hl];exact Hp.out⟩)
  exfalso
  have:=(Hk.out.put (d:=d) Hpn.out.1 Hpn.out.2 (by omega)).room t1
  omega
end
namespace S1
open Go.RowKit Pk
open Go.Nt
theorem New.renewG {m:M} (h:New m) {t:List UInt8} (ht:0<t.length) (hm:mayE m t.length=0) :
 (renA m t).1=0∧WF (renA m t).2∧(renA m t).2.life = -1∧∃ blk:Nat→Nat,(∀ k,k<pagesN t.length→lookF (scanF (pgs (renA m t).2) (renA m t).2.np (renA m t).2.nb) (badN m) 1 k=some (fpR (badN m) 1 t k (blk k)))∧(∀ f∈scanF (pgs (renA m t).2) (renA m t).2.np (renA m t).2.nb,f.bad=badN m∧f.num=1)∧(renA m t).2.fail<0∧(renA m t).2.bd=m.bd∧(renA m t).2.nb=m.nb∧(renA m t).2.np=m.np∧∃ S,cntB m.nb S≤good m/2∧∀ k,k<pagesN t.length→S (blk k)=true∧blk k<m.nb∧Uniq (scn (renA m t).2)∧∃ q,q<(renA m t).2.np∧q<(renA m t).2.nx (blk k)∧(renA m t).2.pg (blk k) q=pageB (pgOf (badN m) 1 t k):=by
 have hw:=h.wf;have he:=h.eraAll m.nb (Nat.le_refl _);have hroom:pagesN t.length≤roomP m:=by
  unfold mayE at hm
  split at hm
  ·omega
  split at hm<;>omega
 have hr256:=roomP_le hw;have hbn:=badN_le m;have h32:=hw.nb2;have h4:=hw.nb1;have hpn:0<pagesN t.length:=by unfold pagesN;omega
 have hnum:numN m ⟨0,0,none⟩ (hasL (scanF (pgs m) m.np m.nb))=1:=by
  unfold numN;rw [h.scan];exact Go.Nt.nxt_here (by decide) rfl
 obtain ⟨Q1,hQ1⟩:∃ Q1,Q1=fun j=>decide (j<m.nb) && !m.bd j:=⟨_,rfl⟩
 obtain ⟨s0,hs0⟩:∃ s0:LS,s0=⟨splitR (badN m) 1 t,m,Q1,m.nb - 1,m.np,fun _=>false⟩:=⟨_,rfl⟩;have hS:renS m Q1 t=layN (fun _=>false) m.nb s0:=by
  unfold renS addS;rw [hnum];unfold layF lay0;rw [if_neg (by show ¬(splitR (badN m) 1 t).length+m.np≤m.np;rw [Go.Nt.splitR_length];omega),hs0]
 have hSd:Snd m (fun _=>false) Q1 (m.nb - 1) m.np:=⟨hw,h.life,h.fail,Rdy.shut m Q1 _ (fun i hi=>by
  rw [hQ1] at hi;simp only [Bool.and_eq_true,decide_eq_true_eq,Bool.not_eq_true'] at hi;exact ⟨hi.1,hi.2,h.nx i⟩),by rw [qcl];exact Nat.zero_le _,by omega,Nat.le_refl _⟩
 have hlf0:layF (fun _=>false) ⟨splitR (badN m) 1 t,m,Q1,m.nb - 1,m.np,fun _=>false⟩=layN (fun _=>false) m.nb s0:=by
  unfold layF lay0;rw [if_neg (by show ¬(splitR (badN m) 1 t).length+m.np≤m.np;rw [Go.Nt.splitR_length];omega),hs0]
 obtain ⟨hall,hSn,hnbN,hnpN,hbdN⟩:=hSd.lay (split_len (badN m) 1 t) (by rw [Go.Nt.splitR_length];exact hpn) (by rw [Go.Nt.splitR_length];exact hroom) _ hlf0.symm;have hren:renA m t=(0,(layN (fun _=>false) m.nb s0).m):=by
  unfold renA;rw [if_neg (by simp [hm]),he];simp only [];rw [if_neg (by simp [hm]),←hQ1,hS,if_pos hall]
 have hV:LayV m (fun _=>false) (splitR (badN m) 1 t) (m.nb - 1) 0 s0 []:=by
  rw [hs0];refine ⟨LayI.start hw _ _,?_,fun i hi=>(by cases hi),Nat.le_refl _⟩;show m.nb - 1=(m.nb - 1+0)%m.nb;rw [Nat.add_zero,Nat.mod_eq_of_lt (by omega)]
 obtain ⟨v,ps,_,hL⟩:=LayV.rounds (by omega) m.nb 0 s0 [] hV (by omega);obtain ⟨m',hm'⟩:∃ m',m'=(layN (fun _=>false) m.nb s0).m:=⟨_,rfl⟩;have hI:=hL.lay;rw [hall,←hm'] at hI;rw [hren];simp only [←hm'];have hb256:badN m<256:=by omega
 have ho:pagesN t.length<65536:=by omega
 have hpl:ps.length=pagesN t.length:=by
  have h1:=hI.part;have h2:=congrArg List.length h1;rw [List.length_drop,Go.Nt.splitR_length] at h2;have h3:=hI.le;rw [Go.Nt.splitR_length] at h3;simp at h2;omega
 have honly:∀ f∈scanF (pgs m') m'.np m'.nb,∃ k i q,ps[k]? = some (i,q)∧f=fpR (badN m) 1 t k i:=fun f hf=>by
  rcases hI.found hb256 (by decide) ho hf with ⟨k,i,q,h1,_,h2⟩ | h1
  ·exact ⟨k,i,q,h1,h2⟩
  rw [h.scan] at h1;cases h1
 refine ⟨by simp,by rw [hm'];exact hSn.wf,by rw [hm'];exact hSn.life,fun k=>(ps.getD k (0,0)).1,fun k hk => ?_,fun f hf => ?_,by rw [hm'];exact hSn.fail,by rw [hm'];exact hbdN,by rw [hm'];exact hnbN,by rw [hm'];exact hnpN,(layN (fun _=>false) m.nb s0).S,by have:=hSn.few;rw [good_congr hnbN hbdN,hnbN] at this;exact this,fun k hk => ?_⟩
 ·obtain ⟨x,hx⟩:∃ x,ps[k]? = some x:=⟨_,List.getElem?_eq_getElem (by omega)⟩;obtain ⟨i,q⟩:=x;have hmem:=hI.there hb256 (by decide) ho hx;have e:(ps.getD k (0,0)).1=i:=by rw [List.getD_eq_getElem?_getD,hx];rfl
  show lookF (scanF (pgs m') m'.np m'.nb) (badN m) 1 k=some (fpR (badN m) 1 t k (ps.getD k (0,0)).1);rw [e];exact qbu hmem (fun y hy h1 h2 h3=>by
   obtain ⟨k',i',q',hx',rfl⟩:=honly y hy;have hkk:k'=k:=h3;subst hkk;rw [hx] at hx';cases hx'
   rfl)
 ·obtain ⟨k,i,q,_,rfl⟩:=honly f hf;exact ⟨rfl,rfl⟩
 obtain ⟨x,hx⟩:∃ x,ps[k]? = some x:=⟨_,List.getElem?_eq_getElem (by omega)⟩;obtain ⟨i,q⟩:=x;have e:(ps.getD k (0,0)).1=i:=by rw [List.getD_eq_getElem?_getD,hx];rfl
 obtain ⟨a1,a2,a3,a4,a5⟩:=hI.posn k i q hx;show (layN (fun _=>false) m.nb s0).S (ps.getD k (0,0)).1=true∧(ps.getD k (0,0)).1<m.nb∧Uniq (scn m')∧∃ q,q<m'.np∧q<m'.nx (ps.getD k (0,0)).1∧m'.pg (ps.getD k (0,0)).1 q=pageB (pgOf (badN m) 1 t k);rw [e];refine ⟨a5,by rw [←hnbN,←hm'];exact a1,qeJ hI hb256 (by decide) ho (fun f hf=>by rw [scn,h.scan] at hf;cases hf) (by rw [scn,h.scan];rfl),q,a2,a3,?_⟩;unfold splitR at a4;rw [List.getElem?_map,List.getElem?_range hk] at a4;simpa using a4.symm
end S1
section
open Go.RowKit Go.Nt
def MtgP (u:Bs→Option Bs) (l:List It) (m:S1.M) (lo hi:Nat) (w:World) (e:Ending) (w':World):Prop:=
 ∃ fb xb T,e=.returned (.tuple #[.pointer (some ⟨fb,0,none⟩),.pointer (some ⟨xb,0,none⟩)])∧FsG u w' fb xb T True m (qab l) 1∧(∀ k,T k→w.heap.size≤k)∧S1.Only lo hi w w'
theorem qky {u:Bs→Option Bs} (hP:PackC u) (a:Option Addr) (c:Nat) (l:List It) (w:World) (lo hi cb:Nat) (L:S1.Loc) (m:S1.M) (hm:S1.New m) (h:S1.CP w lo hi cb L m) (hsz:hi≤w.heap.size) (hml:ML w) (hmlo:0<lo) (hl:ItsIn w a l) (ht:TreeP l) (hroom:pagesN (weigh l+1)≤S1.roomP m) :
 Calls Tryz.prog 11 #[.pointer (some ⟨cb,0,none⟩),.slice a l.length c] w fun e w'=>MtgP u l m lo hi w e w':=by
 have hfit:∀ x∈l,Fit x:=fun x hx=>qaF (ht.ok x hx)
 have A:=hidI (qkb hP a c l w lo hi cb L m hm.wf h hsz hml hmlo hl (by have:=ht.len;omega) (fun x hx=>by have:=(hfit x hx).p;omega) (fun x hx=>by have:=(hfit x hx).d;omega));have Hml:=hidI hml;unfold MtgP;clear h hml hl;go_enter Tryz.func11,Tryz.ntmps11
 go_wp2_with fail;refine A.out.mono ?_;rintro e w1 (⟨hno,_⟩ | ⟨hyes,t,hT,rfl,hC1,hO1⟩)
 ·rw [(qbJ l).2 ht] at hno;cases hno
 have htp:=qeg hT;have htl:=qbH hT;rw [qdM] at htl;have hmay:S1.mayE m t.length=0:=by
  unfold S1.mayE;rw [if_neg (by rw [hm.life];decide),if_neg]
  have:pagesN t.length≤pagesN (weigh l+1):=by unfold pagesN;exact Nat.div_le_div_right (by omega)
  omega
 obtain ⟨hr0,hwf1,hlf1,blk,hlook,hlab,hfl1,hbd1,hnb1,hnp1,S,hS1,hS2⟩:=hm.renewG htp hmay;obtain ⟨m1,hm1⟩:∃ m1,m1=(S1.renA m t).2:=⟨_,rfl⟩;rw [←hm1] at hwf1 hlf1 hlook hlab hC1 hfl1 hbd1 hnb1 hnp1;rw [hr0];obtain ⟨bn,hbn⟩:∃ bn,bn=S1.badN m:=⟨_,rfl⟩;rw [←hbn] at hlook hlab;have hbn2:bn≤32:=by rw [hbn];exact Nat.le_trans (S1.badN_le m) hm.wf.nb2
 have hrec:=qcr htp hlook;obtain ⟨z,hz⟩:=qem bn 1 t blk;have hpar:parse u (txtF ((List.range (pagesN t.length)).map fun j=>fpR bn 1 t j (blk j)))=some (qab l):=by
  rw [hz];exact qd4 hT (fun x hx=>hfit x (order_mem.1 hx)) (by rw [qaA];have:=ht.len;omega) z
 have hlen:(txtF ((List.range (pagesN t.length)).map fun j=>fpR bn 1 t j (blk j))).length≤1000000:=by
  rw [qmb]
  ·simp only [List.length_map,List.length_range];have h1:=S1.roomP_le hm.wf
   have:pagesN t.length≤pagesN (weigh l+1):=by unfold pagesN;exact Nat.div_le_div_right (by omega)
   omega
  intro f hf;simp at hf;obtain ⟨k,_,rfl⟩:=hf;unfold fpR;simp;omega
 have hsz1:hi≤w1.heap.size:=Nat.le_trans hsz hO1.size;have hml1:ML w1:=Hml.out.below (hO1.below (B:=1) hmlo (by have:=Hml.out.lt;omega)) (by omega);have C:=hidI (S1.copy_any w1 lo hi cb L m1 hwf1 hC1 hsz1);have HO1:=hidI hO1;have Hml1:=hidI hml1;have hlf:m1.life≠0:=by rw [hlf1];decide
 obtain ⟨ps,hps⟩:∃ ps,ps=(List.range (pagesN t.length)).map fun j=>fpR bn 1 t j (blk j):=⟨_,rfl⟩
 rw [←hps] at hrec hpar hlen;have HSnd:Hid (S1.Snd m1 (inF ps) (fun _=>false) (endF ps) m1.np):=hidI (by
  have hpn:0<pagesN t.length:=by unfold pagesN;omega
  have hlast:endF ps<m.nb:=by
   have e:ps.getLast? = some (fpR bn 1 t (pagesN t.length - 1) (blk (pagesN t.length - 1))):=by
    rw [hps,List.getLast?_map,List.getLast?_range,if_neg (by omega)];rfl
   unfold endF;rw [e];exact (hS2 _ (by omega)).2.1
  refine ⟨hwf1,hlf1,hfl1,S1.Rdy.shut m1 _ _ (fun i hi=>by cases hi),?_,by rw [hnb1];exact hlast,Nat.le_refl _⟩;rw [S1.good_congr hnb1 hbd1,hnb1];refine Nat.le_trans (S1.cntB_mono fun i hi => ?_) hS1;unfold inF at hi;rw [hps] at hi;obtain ⟨f,hf,hfi⟩:=List.any_eq_true.1 hi;obtain ⟨k,hk,rfl⟩:=List.mem_map.1 hf
  have:=(hS2 k (List.mem_range.1 hk)).1
  rw [←beq_iff_eq.1 hfi];exact this)
 have hbad1:S1.badN m1=bn:=by rw [hbn];exact S1.badN_congr hnb1 hbd1
 rw [←hm1,←hbn] at hS2;have hpn0:0<pagesN t.length:=by unfold pagesN;omega
 have HCog:Hid (S1.Cog m1 bn 1 (inF ps) t):=hidI (by
  have hp256:pagesN t.length≤256:=by
   have h1:=S1.roomP_le hm.wf
   have:pagesN t.length≤pagesN (weigh l+1):=by unfold pagesN;exact Nat.div_le_div_right (by omega)
   omega
  refine ⟨(hS2 0 hpn0).2.2.1,?_,fun x y hx => ?_,fun f hf=>by have:=hlab f hf;omega,by omega,htp,hp256,by decide⟩
  ·refine ⟨fun k=>(blk k,if h:k<pagesN t.length then (hS2 k h).2.2.2.choose else 0),fun k hk => ?_⟩;have hc:=(hS2 k hk).2.2.2.choose_spec;dsimp only;rw [dif_pos hk];refine ⟨by rw [hnb1];exact (hS2 k hk).2.1,hc.1,hc.2.1,?_,hc.2.2⟩;unfold inF;rw [hps];exact List.any_eq_true.2 ⟨_,List.mem_map.2 ⟨k,List.mem_range.2 hk,rfl⟩,by unfold fpR;simp⟩
  unfold S1.wholeF at hx;rw [Bool.and_eq_true] at hx;obtain ⟨f,hf,h1,h2⟩:=hasL_iff.1 hx.1
  have:=hlab f hf
  exact .inr ⟨by omega,by omega⟩)
 have Hwh:Hid (S1.wholeF (scanF (S1.pgs m1) m1.np m1.nb) bn 1=true):=hidI (by obtain ⟨_,_,_,_,h,_⟩:=HCog.out.whole hwf1;exact h);have Hnew:Hid (Newest (scanF (S1.pgs m1) m1.np m1.nb) bn 1):=hidI (HCog.out.last hwf1);have HIt:Hid (IsText u (qab (qab l)) t):=hidI (by rw [qbT ht];exact hT);have Hal:Hid (Alike' m m1):=hidI ⟨hnb1,hnp1,hbd1⟩;have Hrec:=hidI hrec;have Hpar:=hidI hpar;have Hwf1:=hidI hwf1;clear hbad1 hS1 hS2 hfl1 hbd1 hnb1 hnp1 hlook hlab hz hC1 hO1 hml1 hps hrec hpar hm1 hbn hmay hT htp htl hwf1 hlf1 hr0 A hfit;go_wp2_with fail;refine C.out.mono ?_;rintro e w2 ⟨L',rfl,hC2,hb2⟩;obtain ⟨xb,hxb⟩:∃ xb,xb=w1.heap.size:=⟨_,rfl⟩;have hml2:ML w2:=Hml1.out.below hb2 Hml1.out.lt;rw [←hxb] at hC2 ⊢
 have D:=hidI (mountU w2 xb w2.heap.size xb L' m1 Hwf1.out hC2 (Nat.le_refl _) hlf _ rfl bn 1 (by omega) (by omega) Hwh.out Hnew.out ps Hrec.out (fun f hf=>⟨(scanF_ok hf).1,by have:=(scanF_ok hf).2;have:=Hwf1.out.nb2;omega⟩) hml2 hP (qab l) Hpar.out ((qbJ _).2 ht.order) hlen);have HO2:=hidI (HO1.out.trans (S1.Only.of_below hb2));have HC2:=hidI hC2;have hxw:w.heap.size≤xb:=by rw [hxb];exact HO1.out.size
 have hx2:xb≤w2.heap.size:=by rw [hxb];exact hb2.size
 clear hC2 hb2 hml2 C hxb;go_wp2_with fail;refine D.out.mono ?_;rintro e w3 ⟨fb,lb,tb,ib,n,rfl,hF,hT,hLg,hn,hBl,hfb,hlb,htb,hib,hit,hb3⟩;have n1:ib≠lb:=qcF (qhG hBl) hLg;have n2:ib≠fb:=qcF (qhG hBl) hF;have n3:tb≠lb:=qcF (qcS hT) hLg;have n4:tb≠fb:=qcF (qcS hT) hF;have n5:fb≠lb:=qnq hF hLg;have hLM:S1.LogM w3 xb w2.heap.size xb lb L' ⟨bn,1,none⟩ (some ib) none n 0 m1 (inF ps) (fun _=>false) (endF ps) m1.np:=
  ⟨hLg,S1.MemX.below HC2.out (Nat.le_refl _) hb3,Hwf1.out,.inr ⟨ib,rfl,hBl⟩,.inl ⟨rfl,fun _=>rfl⟩,fun g hg=>(by cases hg;exact ⟨n1,by omega⟩),fun g hg=>(by cases hg),fun g hg hq=>(by cases hq),(by omega),hb3.size⟩
 have nf:¬S1.LogS xb w2.heap.size lb (some ib) none fb:=fun h=>by
  rcases h with h | h | h | h
  ·omega
  ·exact n5 h
  ·cases h;exact n2 rfl
  cases h
 have nt:¬S1.LogS xb w2.heap.size lb (some ib) none tb:=fun h=>by
  rcases h with h | h | h | h
  ·omega
  ·exact n3 h
  ·cases h;omega
  cases h
 have HK:Hid (FsG u w3 fb xb (FsS fb tb xb w2.heap.size lb (some ib) none) True m (qab l) 1):=by
  refine hidI ⟨tb,xb,w2.heap.size,lb,L',⟨bn,1,none⟩,some ib,none,n,0,m1,inF ps,fun _=>false,endF ps,m1.np,t,⟨hF,hT,hLM,nf,nt,fun e=>n4 e.symm,fun g hg=>by cases hg⟩,fun _=>⟨HSnd.out,Hal.out⟩,fun k hk=>hk,fun g hg=>(by cases hg),fun k hk => ?_,rfl,⟨HSnd.out.wf,HSnd.out.rdy,HSnd.out.b,HSnd.out.p,HSnd.out.life⟩,HCog.out,HIt.out,fun g hg=>(by cases hg)⟩;rcases hk with h | h | h
  ·exact S1.logS_lt hLM h
  ·rw [h];exact lt_of_heap hF
  rw [h];exact hT.lt
 have HTT:Hid (∀ k,FsS fb tb xb w2.heap.size lb (some ib) none k→w.heap.size≤k):=hidI fun k hk=>by
  rcases hk with (h | h | h | h) | h | h
  ·omega
  ·omega
  ·cases h;omega
  ·cases h
  ·omega
  omega
 have HO3:=hidI (HO2.out.trans (S1.Only.of_below hb3));clear hF hT hb3 D hLM hLg hBl;go_wp2_with fail;go_ret2
 exact ⟨fb,xb,_,rfl,HK.out,HTT.out,HO3.out⟩
theorem qlu (w:World):Calls Tryz.prog 19 #[] w fun e w'=>∃ L hi,e=.returned (.pointer (some ⟨w.heap.size,0,none⟩))∧hi≤w'.heap.size∧S1.CP w' w.heap.size hi w.heap.size L (S1.mkM 32 16 0 (fun _=>0))∧Below w.heap.size w w':=by
 have A:=hidI (S1.new_any w 32 16 none 0 0 (fun _=>0) (by omega) (fun h=>absurd h (by decide)));go_enter Tryz.func19,Tryz.ntmps19
 go_wp2_with fail;refine A.out.mono ?_;rintro e w1 ⟨L,hi,rfl,hhi,hC,hBw⟩;have H1:=hidI hhi;have H2:=hidI hC;have H3:=hidI hBw;clear hhi hC hBw A;go_wp2_with fail;go_ret
 exact ⟨L,hi,rfl,H1.out,H2.out,H3.out⟩
theorem qiI:S1.roomP (S1.mkM 32 16 0 (fun _=>0))=256:=by rw [ql5];rfl
end
namespace S1
open Go.RowKit Pk
open Go.Nt
theorem Cog.found {m:M} {c n:Nat} {K:Nat→Bool} {t:List UInt8} (h:Cog m c n K t) (hw:WF m):∃ ps z,recF (scn m) c n=some ps∧txtF ps=t++z∧wholeF (scn m) c n=true∧(txtF ps).length≤pagesN t.length*51∧(∀ i,inF ps i=true→K i=true)∧endF ps<m.nb∧Cog m c n (inF ps) t:=by
 obtain ⟨pos,hp⟩:=h.here;have hb:∀ k,k<pagesN t.length→lookF (scn m) c n k=some (fpR c n t k (pos k).1):=fun k hk=>by
  obtain ⟨h1,h2,_,_,h5⟩:=hp k hk
  have:=h.num
  have:=h.few
  exact h.uniq.look (qkH (h.c256 hw) (by omega) (by omega) hk h1 h2 h5)
 have h1:=qcr h.pos hb;obtain ⟨ps,z,e1,e2,e3,e4⟩:=h.whole hw;have e:ps=(List.range (pagesN t.length)).map fun j=>fpR c n t j (pos j).1:=by
  rw [e1] at h1;exact Option.some.inj h1
 have hpn:0<pagesN t.length:=by have:=h.pos;unfold pagesN;omega
 have hin:∀ k,k<pagesN t.length→inF ps (pos k).1=true:=fun k hk=>by
  rw [e];unfold inF;exact List.any_eq_true.2 ⟨_,List.mem_map.2 ⟨k,List.mem_range.2 hk,rfl⟩,by unfold fpR;simp⟩
 refine ⟨ps,z,e1,e2,e3,e4,fun i hi => ?_,?_,⟨h.uniq,⟨pos,fun k hk => ?_⟩,h.newest,h.bad,h.lvb,h.pos,h.few,h.num⟩⟩
 ·unfold inF at hi;rw [e] at hi;obtain ⟨f,hf,hfi⟩:=List.any_eq_true.1 hi;obtain ⟨k,hk,rfl⟩:=List.mem_map.1 hf;rw [←beq_iff_eq.1 hfi];exact (hp k (List.mem_range.1 hk)).2.2.2.1
 ·have e5:ps.getLast? = some (fpR c n t (pagesN t.length - 1) (pos (pagesN t.length - 1)).1):=by
   rw [e,List.getLast?_map,List.getLast?_range,if_neg (by omega)];rfl
  unfold endF;rw [e5];exact (hp _ (by omega)).1
 obtain ⟨a1,a2,a3,a4,a5⟩:=hp k hk;exact ⟨a1,a2,a3,hin k hk,a5⟩
end S1
section
open Go.RowKit Go.Nt
variable {u:Bs→Option Bs} {w:World} {fb cb n lo hi:Nat} {T:Nat→Prop} {m0:S1.M} {l:List It} {lf:Int}
def ChV (u:Bs→Option Bs) (w:World) (lo hi cb:Nat) (m0:S1.M) (l:List It) (n:Nat) (lf:Int):Prop:=
 ∃ (L:S1.Loc) (m:S1.M) (c:Nat) (K:Nat→Bool) (t:Bs),S1.CP w lo hi cb L m∧hi≤w.heap.size∧S1.WF m∧m.fail<0∧S1.cntB m.nb K≤S1.good m/2∧Alike' m0 m∧m.life=lf∧S1.Cog m c n K t∧IsText u (qab l) t
theorem FsV.chip (h:FsV u w fb cb T m0 l n lf):∃ lo hi,ChV u w lo hi cb m0 l n lf∧∀ k,lo≤k→k<hi→T k:=by
 obtain ⟨tb,lo,hi,lb,L,lv,kv,qv,nk,nq,m,K,Q,b,p,t,h1,h2,h3,h4,h5,h6,h7,h8,h9,h10⟩:=h;refine ⟨lo,hi,⟨L,m,lv.nb,K,t,h1.log.chip,h1.log.sz,h2.1.wf,h2.1.fail,h2.1.few,h2.2,h7,?_,h9⟩,fun k a b=>h3 k (.inl (.inl ⟨a,b⟩))⟩;rw [←h6];exact h8
theorem qkh (h:ChV u w lo hi cb m0 l n lf):Calls Tryz.prog 25 #[.pointer (some ⟨cb,0,none⟩)] w fun e w'=>e=.returned (.bool (lf==0))∧w'=w:=by
 obtain ⟨L,m,c,K,t,h1,h2,h3,h4,h5,h6,h7,h8,h9⟩:=h
 have:=S1.dead_any w lo hi cb L m h1
 rw [h7] at this;exact this
theorem qkz (h:ChV u w lo hi cb m0 l n lf):Calls Tryz.prog 21 #[.pointer (some ⟨cb,0,none⟩)] w fun e w'=>e=.returned (.pointer (some ⟨w.heap.size,0,none⟩))∧ChV u w' w.heap.size w'.heap.size w.heap.size m0 l n lf∧Below w.heap.size w w':=by
 obtain ⟨L,m,c,K,t,h1,h2,h3,h4,h5,h6,h7,h8,h9⟩:=h;refine (S1.copy_any w lo hi cb L m h3 h1 h2).mono ?_;rintro e w' ⟨L',rfl,hC,hb⟩;exact ⟨rfl,⟨L',m,c,K,t,hC,Nat.le_refl _,h3,h4,h5,h6,h7,h8,h9⟩,hb⟩
theorem qk7 (h:FsV u w fb cb T m0 l n lf) (hlf:lf≠0):Calls Tryz.prog 26 #[.pointer (some ⟨fb,0,none⟩)] w fun e w'=>e=.returned (.int .i64 0)∧w'=w:=by
 obtain ⟨tb,lo,hi,lb,L,lv,kv,qv,nk,nq,m,K,Q,b,p,t,h1,_,_,_,_,_,h7,_⟩:=h;have c0:=h1.fs.p0;have A:=hidI (S1.dead_any w lo hi cb L m h1.log.chip);have hlb:(m.life==0)=false:=by rw [h7];simp [hlf]
 rw [hlb] at A;clear h1 hlb;go_enter Tryz.func26,Tryz.ntmps26
 go_wp2_with fail;refine A.out.mono ?_;rintro e w' ⟨rfl,hw'⟩;have hw2:=hw'.symm;subst hw2;go_wp2_with fail;go_ret
 exact ⟨rfl,rfl⟩
theorem qkq (h:FsV u w fb cb T m0 l n lf) (ht:TreeP l) (hml:ML w) :
 Calls Tryz.prog 12 #[.pointer (some ⟨fb,0,none⟩)] w fun e w'=>Below w.heap.size w w'∧∃ v,e=.returned v∧w'.ownsRow w.heap.size 39 5 v l.length (its (qab l)):=by
 obtain ⟨tb,lo,hi,lb,L,lv,kv,qv,nk,nq,m,K,Q,b,p,t,h1,_⟩:=h;exact qir w fb cb lb tb l h1.fs h1.tree ht hml
def MtvP (u:Bs→Option Bs) (w:World) (lo cb:Nat) (m0:S1.M) (l:List It) (n:Nat) (lf:Int) (e:Ending) (w':World):Prop:=
 ∃ fb T,e=.returned (.tuple #[.pointer (some ⟨fb,0,none⟩),.int .i64 0])∧FsV u w' fb cb T m0 (qab l) n lf∧(∀ k,T k→lo≤k)∧Below w.heap.size w w'
theorem qh0 (hP:PackC u) (h:ChV u w lo hi cb m0 l n lf) (hlf:lf≠0) (hlo:lo≤w.heap.size) (hml:ML w) (hk:KT l) :
 Calls Tryz.prog 20 #[.pointer (some ⟨cb,0,none⟩)] w fun e w'=>MtvP u w lo cb m0 l n lf e w':=by
 obtain ⟨L,m,c,K,t,h1,h2,h3,h4,h5,h6,h7,h8,h9⟩:=h;obtain ⟨ps,z,hrec,htx,hwh,hlen,hin,hend,hC⟩:=h8.found h3;have hc:=h8.c256 h3;have hnum:=h8.num;have hf:=h8.few;have hl:=h8.last h3;have hpar:parse u (txtF ps)=some (qab l):=by
  rw [htx];exact qd4 h9 (fun x hx=>qaF (hk.tree.ok x (order_mem.1 hx))) (by rw [qaA];have:=hk.len;omega) z
 refine (mountU w lo hi cb L m h3 h1 h2 (by rw [h7];exact hlf) _ rfl c n (by omega) (by omega) hwh hl ps hrec (fun f hf=>⟨(scanF_ok hf).1,by have:=(scanF_ok hf).2;have:=h3.nb2;omega⟩) hml hP (qab l) hpar ((qbJ _).2 hk.tree.order) (by omega)).mono ?_;rintro e w3 ⟨fb,lb,tb,ib,nn,rfl,hF,hT,hLg,hn,hBl,hfb,hlb,htb,hib,hit,hb3⟩;have n1:ib≠lb:=qcF (qhG hBl) hLg;have n2:ib≠fb:=qcF (qhG hBl) hF;have n3:tb≠lb:=qcF (qcS hT) hLg;have n4:tb≠fb:=qcF (qcS hT) hF;have n5:fb≠lb:=qnq hF hLg;have hLM:S1.LogM w3 lo hi cb lb L ⟨c,n,none⟩ (some ib) none nn 0 m (inF ps) (fun _=>false) (endF ps) m.np:=
  ⟨hLg,S1.MemX.below h1 h2 hb3,h3,.inr ⟨ib,rfl,hBl⟩,.inl ⟨rfl,fun _=>rfl⟩,fun g hg=>(by cases hg;exact ⟨n1,by omega⟩),fun g hg=>(by cases hg),fun g hg hq=>(by cases hq),(by omega),Nat.le_trans h2 hb3.size⟩
 have nf:¬S1.LogS lo hi lb (some ib) none fb:=fun h=>by
  rcases h with h | h | h | h
  ·omega
  ·exact n5 h
  ·cases h;exact n2 rfl
  cases h
 have nt:¬S1.LogS lo hi lb (some ib) none tb:=fun h=>by
  rcases h with h | h | h | h
  ·omega
  ·exact n3 h
  ·cases h;omega
  cases h
 have hsnv:S1.Snv m (inF ps) (fun _=>false) (endF ps) m.np:=⟨h3,h4,S1.Rdy.shut m _ _ (fun i hi=>by cases hi),Nat.le_trans (S1.cntB_mono hin) h5,hend,Nat.le_refl _⟩;refine ⟨fb,FsS fb tb lo hi lb (some ib) none,rfl,⟨tb,lo,hi,lb,L,⟨c,n,none⟩,some ib,none,nn,0,m,inF ps,fun _=>false,endF ps,m.np,t,⟨hF,hT,hLM,nf,nt,fun e=>n4 e.symm,fun g hg=>by cases hg⟩,⟨hsnv,h6⟩,fun k hk=>hk,fun g hg=>(by cases hg),fun k hk => ?_,rfl,h7,hC,?_,fun g hg=>(by cases hg)⟩,fun k hk => ?_,hb3⟩
 ·rcases hk with h | h | h
  ·exact S1.logS_lt hLM h
  ·rw [h];exact lt_of_heap hF
  rw [h];exact hT.lt
 ·rw [qbT hk.tree];exact h9
 rcases hk with (h | h | h | h) | h | h
 ·omega
 ·omega
 ·cases h;omega
 ·cases h
 ·omega
 omega
theorem FsG.sur (h:FsG u w fb cb T True m0 l n):FsV u w fb cb T m0 l n (-1):=by
 obtain ⟨tb,lo,hi,lb,L,lv,kv,qv,nk,nq,m,K,Q,b,p,t,h1,h2,h3,h4,h5,h6,h7,h8,h9,h10⟩:=h;obtain ⟨a1,a2⟩:=h2 trivial;exact ⟨tb,lo,hi,lb,L,lv,kv,qv,nk,nq,m,K,Q,b,p,t,h1,⟨⟨a1.wf,a1.fail,a1.rdy,a1.few,a1.b,a1.p⟩,a2⟩,h3,h4,h5,h6,a1.life,h8,h9,h10⟩
variable {u:Bs→Option Bs} {w w' V:World} {fb cb n B s g nn nc mn mc:Nat} {T T':Nat→Prop} {m0:S1.M} {l:List It} {lf:Int} {e:TypeId} {v x:Value} {xs:List Value} {ls:List (Value × List It)} {na ma:Option Addr}
theorem FsV.keep (h:FsV u w fb cb T m0 l n lf) (hs:w.heap.size≤w'.heap.size) (e:∀ k,T k→w'.heap[k]? = w.heap[k]?):FsV u w' fb cb T m0 l n lf:=by
 obtain ⟨tb,lo,hi,lb,L,lv,kv,qv,nk,nq,m,K,Q,b,p,t,h1,h2,h3,h4,h5,h6,h7,h8,h9,h10⟩:=h;refine ⟨tb,lo,hi,lb,L,lv,kv,qv,nk,nq,m,K,Q,b,p,t,h1.of_blocks hs (fun k hk _=>e k (hk.elim (h3 k) (fun hg=>h4 k hg))),h2,h3,h4,fun k hk=>Nat.lt_of_lt_of_le (h5 k hk) hs,h6,h7,h8,h9,fun g hg => ?_⟩;obtain ⟨nt,S,a1,a2,a3⟩:=h10 g hg;exact ⟨nt,S,a1.of_block (e g (h4 g hg)),a2,a3⟩
theorem vset (h:FsV u w fb cb T m0 l n lf) (x y:Int) (hx1:-1≤x) (hx2:x≤1073741825) (hy1:0≤y) (hy2:y≤63) :
 ∃ lo hi L m,S1.CP w lo hi cb L m∧S1.WF m∧∀ w' c,(c=y∨c=m.cut)→S1.CP w' lo hi cb L { m with life:=x,cut:=c }→S1.Only lo hi w w'→FsV u w' fb cb T m0 l n x∧S1.Fm T w w':=by
 obtain ⟨tb,lo,hi,lb,L,lv,kv,qv,nk,nq,m,K,Q,b,p,t,a1,a2,a3,a4,a5,a6,a7,a8,a9,a10⟩:=h;refine ⟨lo,hi,L,m,a1.log.chip,a1.log.wf,fun w' c hc hC hO => ?_⟩;have hlog:=a1.log;have hout:∀ k,k<w.heap.size→¬S1.LogS lo hi lb kv qv k→w'.heap[k]? = w.heap[k]? := fun k hk hn=>hO.block k hk fun h=>hn (.inl h)
 have hw:=hlog.wf;obtain ⟨m',hm'⟩:∃ m':S1.M,m'={ m with life:=x,cut:=c }:=⟨_,rfl⟩;have hw':S1.WF m':=by
  rw [hm'];exact ⟨hw.nb1,hw.nb2,hw.np1,hw.np2,hw.nx,hw.pg,hx1,hx2,hw.fail1,hw.fail2,by rcases hc with rfl | rfl;exact hy1;exact hw.cut1,by rcases hc with rfl | rfl;exact hy2;exact hw.cut2,hw.part1,hw.part2⟩
 have hL:S1.LogM w' lo hi cb lb L lv kv qv nk nq m' K Q b p:=by
  refine ⟨hlog.log.of_block (hO.block lb hlog.log.lt hlog.al),by rw [hm'];exact hC,hw',hlog.kept.of_blocks fun g hg hl=>hO.block g hl (hlog.ak g hg).2,hlog.clean.of_blocks fun g hg hl=>hO.block g hl (hlog.aq g hg).2,hlog.ak,hlog.aq,hlog.kq,hlog.al,Nat.le_trans hlog.sz hO.size⟩
 have hM:FsM w' fb tb lo hi cb lb L lv kv qv nk nq m' K Q b p l:=by
  refine ⟨(hout fb (lt_of_heap a1.fs) a1.nf).trans a1.fs,a1.tree.of_block (hout tb a1.tree.lt a1.nt),hL,a1.nf,a1.nt,a1.ne,fun g hg => ?_⟩;obtain ⟨b1,b2,b3,nn,S,b4,b5,b6⟩:=a1.tk g hg;exact ⟨b1,b2,b3,nn,S,b4.of_block (hout g b4.lt b1),b5,b6⟩
 refine ⟨⟨tb,lo,hi,lb,L,lv,kv,qv,nk,nq,m',K,Q,b,p,t,hM,⟨⟨hw',?_,?_,?_,?_,?_⟩,?_⟩,a3,a4,fun k hk=>Nat.lt_of_lt_of_le (a5 k hk) hO.size,a6,by rw [hm'],?_,a9,?_⟩,S1.Fm.of_only hO fun k x1 x2=>a3 k (.inl (.inl ⟨x1,x2⟩))⟩
 ·rw [hm'];exact a2.1.fail
 ·rw [hm'];exact ⟨a2.1.rdy.open_,a2.1.rdy.clean⟩
 ·rw [hm'];exact a2.1.few
 ·rw [hm'];exact a2.1.b
 ·rw [hm'];exact a2.1.p
 ·rw [hm'];exact a2.2
 ·rw [hm'];exact ⟨a8.uniq,a8.here,a8.newest,a8.bad,a8.lvb,a8.pos,a8.few,a8.num⟩
 intro g hg;obtain ⟨nt,S,b1,b2,b3⟩:=a10 g hg;obtain ⟨c1,_⟩:=a1.tk g hg;refine ⟨nt,S,b1.of_block (hout g b1.lt c1),b2,?_⟩;rw [hm'];exact b3
theorem ql1 (h:FsV u w fb cb T m0 l n lf) (a c:Int) (h1:-9223372036854775808≤c) (h2:c≤9223372036854775807):Calls Tryz.prog 27 #[.pointer (some ⟨cb,0,none⟩),.int .i64 a,.int .i64 c] w fun e w'=>e=.returned (.tuple #[])∧FsV u w' fb cb T m0 l n (S1.bnd a 0 1073741824+1)∧S1.Fm T w w':=by
 have hb:=S1.bnd_le a 0 1073741824 (by omega);obtain ⟨lo,hi,L,m,hC,hw,hall⟩:=vset h (S1.bnd a 0 1073741824+1) (S1.prt c) (by omega) (by omega) (by unfold S1.prt;omega) (by unfold S1.prt;omega);refine (S1.die_any w lo hi cb L m a c h1 h2 hC).mono ?_;rintro e w' ⟨rfl,hC',hO⟩;exact ⟨rfl,hall w' _ (.inl rfl) hC' hO⟩
theorem qja (h:FsV u w fb cb T m0 l n lf):Calls Tryz.prog 28 #[.pointer (some ⟨cb,0,none⟩)] w fun e w'=>e=.returned (.tuple #[])∧FsV u w' fb cb T m0 l n (-1)∧S1.Fm T w w':=by
 obtain ⟨lo,hi,L,m,hC,hw,hall⟩:=vset h (-1) 0 (by omega) (by omega) (by omega) (by omega);refine (S1.power_any w lo hi cb L m hC hw).mono ?_;rintro e w' ⟨rfl,hC',hO⟩;exact ⟨rfl,hall w' m.cut (.inr rfl) hC' hO⟩
def MayR (B:Nat) (w:World) (T:Nat→Prop) (v:Value) (ls:List (Value × List It)):Prop:=
 w.ownsRow B 26 1 v ls.length (ls.map Prod.fst)∧(∀ g,v.ownBlock=some g→¬T g)∧∀ x∈ls,RowK w T x.1 x.2∧x.2.length≤13
theorem qcy (h:w.ownsRow B e s v n xs) (hb:∀ g,v.ownBlock=some g→w'.heap[g]? = w.heap[g]?):w'.ownsRow B e s v n xs:=by
 obtain ⟨h1,⟨rfl,h0⟩ | ⟨g,cap,cur,rfl,a1,a2,a3⟩⟩:=h
 ·exact ⟨h1,.inl ⟨rfl,h0⟩⟩
 exact ⟨h1,.inr ⟨g,cap,cur,rfl,a1,(hb g rfl).trans a2,a3⟩⟩
theorem qfB (h:w.ownsRow B e s v n xs) (hg:v.ownBlock=some g):B≤g∧g<w.heap.size:=by
 obtain ⟨h1,⟨rfl,h0⟩ | ⟨g',cap,cur,rfl,a1,a2,a3⟩⟩:=h
 ·cases hg
 cases hg
 exact ⟨a1,lt_of_heap a2⟩
theorem MayR.fm (h:MayR B w T v ls) (hF:S1.Fm T w w') (hT:∀ k,T' k→T k∨w.heap.size≤k):MayR B w' T' v ls:=by
 refine ⟨qcy h.1 fun g hg=>hF.block g (qfB h.1 hg).2 (h.2.1 g hg),fun g hg ht => ?_,fun x hx=>⟨(h.2.2 x hx).1.fm hF hT,(h.2.2 x hx).2⟩⟩;rcases hT g ht with h' | h'
 ·exact h.2.1 g hg h'
 have:=(qfB h.1 hg).2;omega
theorem MayR.below (h:MayR B w T v ls) (hb:Below w.heap.size w w'):MayR B w' T v ls:=
 ⟨qcy h.1 fun g hg=>hb.block g (qfB h.1 hg).2,h.2.1,fun x hx=>⟨(h.2.2 x hx).1.below hb,(h.2.2 x hx).2⟩⟩
theorem MayR.one {now:List It} (hx:RowK w T x now) (hl:now.length≤13) (hB:B≤w.heap.size) (hT:∀ k,T k→k<w.heap.size) :
 MayR B (w.alloc (.cells #[x] 26)) T (.slice (some ⟨w.heap.size,0,none⟩) 1 1) [(x,now)]:=by
 have hb:Below w.heap.size w (w.alloc (.cells #[x] 26)):=(Below.refl _ w).alloc (Nat.le_refl _) _;refine ⟨⟨rfl,.inr ⟨w.heap.size,1,#[x],rfl,hB,heap_alloc_new _ _,Nat.le_refl _,by unfold maxLen;omega,rfl,rfl⟩⟩,fun g hg ht => ?_,fun y hy => ?_⟩
 ·cases hg
  exact absurd (hT _ ht) (Nat.lt_irrefl _)
 simp at hy;subst hy;exact ⟨hx.below hb,hl⟩
theorem MayR.grow {w1:World} {cap:Nat} {now:List It} (h:MayR B w T v ls) (hT:∀ k,T k→k<w.heap.size) (hx:RowK w T x now) (hl:now.length≤13) (h1:Below w.heap.size w w1)
 (ho:w'.ownsRow B 26 1 (.slice (some ⟨g,0,none⟩) (ls.length+1) cap) (ls.length+1) (ls.map Prod.fst++[x])) (hg:w1.grownBy w' v.ownBlock) (ha:v.ownBlock=some g∨g=w1.heap.size) :
 MayR B w' T (.slice (some ⟨g,0,none⟩) (ls.length+1) cap) (ls++[(x,now)])∧(∀ y l,RowK w T y l→RowK w' T y l)∧(∀ k,T k→w'.heap[k]? = w.heap[k]?)∧w.heap.size≤w'.heap.size:=by
 have hrow:∀ y l,RowK w T y l→RowK w' T y l:=fun y l hy=>by
  have e:∀ q,y.ownBlock=some q→w'.heap[q]? = w.heap[q]? := fun q hq=>by
   have hlt:=(qfB hy.1 hq).2;refine (hg.block q (Nat.lt_of_lt_of_le hlt h1.size) fun e => ?_).trans (h1.block q hlt);obtain ⟨_,⟨rfl,_⟩ | ⟨g1,c1,cur1,rfl,_,b2,_⟩⟩:=h.1
   ·cases e
   obtain ⟨_,⟨rfl,_⟩ | ⟨g2,c2,cur2,rfl,_,d2,_⟩⟩:=hy.1
   ·cases hq
   cases hq
   cases e
   rw [b2] at d2;cases d2
  exact ⟨qcy hy.1 e,hy.2⟩
 have hTk:∀ k,T k→w'.heap[k]? = w.heap[k]? := fun k hk=>by
  have hlt:=hT k hk;exact (hg.block k (Nat.lt_of_lt_of_le hlt h1.size) fun e=>h.2.1 k e.symm hk).trans (h1.block k hlt)
 refine ⟨⟨by simpa using ho,fun q hq ht => ?_,fun y hy => ?_⟩,hrow,hTk,Nat.le_trans h1.size hg.size⟩
 ·cases hq
  rcases ha with ha | ha
  ·exact h.2.1 _ ha ht
  have h8:g<w.heap.size:=hT g ht
  have:=h1.size
  omega
 rcases List.mem_append.1 hy with hy | hy
 ·exact ⟨hrow _ _ (h.2.2 y hy).1,(h.2.2 y hy).2⟩
 simp at hy;subst hy;exact ⟨hrow _ _ hx,hl⟩
theorem Tryz.infoM:(Tryz.prog.info? 26).map (fun i=>(i.zero,i.size,i.bytes))=some (some (.slice none 0 0),1,24):=by kernel_rfl
theorem qdl (h:FsV u w fb cb T m0 l n lf):Calls Tryz.prog 25 #[.pointer (some ⟨cb,0,none⟩)] w fun e w'=>e=.returned (.bool (lf==0))∧w'=w:=by
 obtain ⟨lo,hi,hc,_⟩:=h.chip;exact qkh hc
structure SurI (u:Bs→Option Bs) (B:Nat) (w wr:World) (m0:S1.M) (fb cb:Nat) (T:Nat→Prop) (l now:List It) (n:Nat) (lf:Int) (na:Option Addr) (nn nc:Nat) (ma:Option Addr) (mn mc:Nat) (ls:List (Value × List It)):Prop where
 hnn:nn=now.length
 row:RowK wr T (.slice na nn nc) now
 fs:FsV u wr fb cb T m0 l n lf
 kt:KT l
 perm:l.Perm now
 hmn:mn=ls.length
 may:MayR B wr T (.slice ma mn mc) ls
 has:∃ x∈ls,x.2.Perm now
 base:∀ j,T j→B≤j
 below:Below B w wr
theorem SurI.later {wr:World} {now:List It} (h:SurI u B w wr m0 fb cb T l now n lf na nn nc ma mn mc ls) (hB:B≤wr.heap.size) (hb:Below wr.heap.size wr V):SurI u B w V m0 fb cb T l now n lf na nn nc ma mn mc ls:=
 ⟨h.hnn,h.row.below hb,h.fs.below hb,h.kt,h.perm,h.hmn,h.may.below hb,h.has,h.base,h.below.trans (hb.mono hB)⟩
theorem SurI.moved {wr:World} {fb' cb':Nat} {l' now:List It} {n':Nat} {lf':Int} (h:SurI u B w wr m0 fb cb T l now n lf na nn nc ma mn mc ls) (hB:B≤wr.heap.size) (hF:S1.Fm T wr V) (hT:∀ k,T' k→T k∨wr.heap.size≤k) (hG:FsV u V fb' cb' T' m0 l' n' lf') (hK:KT l') (hp:l'.Perm now):SurI u B w V m0 fb' cb' T' l' now n' lf' na nn nc ma mn mc ls:=
 ⟨h.hnn,h.row.fm hF hT,hG,hK,hp,h.hmn,h.may.fm hF hT,h.has,fun j hj=>(hT j hj).elim (h.base j) fun h=>by omega,h.below.trans (hF.below h.base hB)⟩
theorem SurI.more {now nx:List It} {cap:Nat} (hn:nn=now.length) (hr:RowK V T (.slice na nn nc) now) (hG:FsV u V fb cb T m0 l n lf) (hK:KT l) (hp:l.Perm now) (hmn:mn=ls.length) (hM:MayR B V T (.slice ma mn mc) ls) (hb:∀ j,T j→B≤j) (hB:Below B w V) (hBV:B≤V.heap.size) (hx:RowK V T x nx) (hl:nx.length≤13) (hin:∃ y∈ls++[(x,nx)],y.2.Perm now)
 (ho:w'.ownsRow B 26 1 (.slice (some ⟨g,0,none⟩) (mn+1) cap) (mn+1) (ls.map Prod.fst++[x])) (hg:(V.alloc (.cells #[x] 26)).grownBy w' (Value.slice ma mn mc).ownBlock) (ha:(Value.slice ma mn mc).ownBlock=some g∨g=V.heap.size+1) :
 SurI u B w w' m0 fb cb T l now n lf na nn nc (some ⟨g,0,none⟩) (mn+1) cap (ls++[(x,nx)]):=by
 have hb1:Below V.heap.size V (V.alloc (.cells #[x] 26)):=(Below.refl _ V).alloc (Nat.le_refl _) _;subst hmn;obtain ⟨g1,g2,g3,g4⟩:=hM.grow (fun k hk=>hG.lt k hk) hx hl hb1 ho hg (by simpa using ha);refine ⟨hn,g2 _ _ hr,hG.keep g4 g3,hK,hp,by simp,g1,hin,hb,?_⟩;exact (hB.trans (hb1.mono hBV)).grown hg (by simp;omega) (fun q hq=>(qfB hM.1 hq).1)
theorem SurI.sure {now:List It} (hn:nn=now.length) (hr:RowK V T (.slice na nn nc) now) (hG:FsV u V fb cb T m0 l n lf) (hK:KT l) (hp:l.Perm now) (hb:∀ j,T j→B≤j) (hB:Below B w V) (hBV:B≤V.heap.size) :
 SurI u B w (V.alloc (.cells #[.slice na nn nc] 26)) m0 fb cb T l now n lf na nn nc (some ⟨V.heap.size,0,none⟩) 1 1 [(.slice na nn nc,now)]:=by
 have hb1:Below V.heap.size V (V.alloc (.cells #[.slice na nn nc] 26)):=(Below.refl _ V).alloc (Nat.le_refl _) _;have hl:now.length≤13:=by have:=(hK.perm hp).len;omega
 exact ⟨hn,hr.below hb1,hG.below hb1,hK,hp,rfl,MayR.one hr hl hBV (fun k hk=>hG.lt k hk),⟨_,List.mem_singleton.2 rfl,List.Perm.refl _⟩,hb,hB.trans (hb1.mono hBV)⟩
theorem MayR.cells (h:MayR B w T (.slice ma mn mc) ls) (hn:ls≠[]):∃ g,ma=some ⟨g,0,none⟩∧g<w.heap.size∧∀ (j:Nat) (x:Value × List It),ls[j]? = some x→w.cell? ⟨g,j,none⟩=some x.1:=by
 have h1:=h.1;obtain ⟨_,⟨hv,h0⟩ | ⟨g,cap,cur,hv,b1,b2,b3⟩⟩:=h.1
 ·exact absurd (List.eq_nil_of_length_eq_zero h0) hn
 cases hv
 refine ⟨g,rfl,lt_of_heap b2,fun j x hx => ?_⟩
 have:=h1.cells (g:=g) rfl j x.1 (by rw [List.getElem?_map,hx];rfl)
 rw [addr_add] at this;simpa using this
end
end Go.Proofs.YtodmdkhdbfbfgaaGreatDoor
