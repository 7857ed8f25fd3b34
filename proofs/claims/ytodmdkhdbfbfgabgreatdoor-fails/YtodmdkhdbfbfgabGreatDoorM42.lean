/- Lemmas. -/
import Derived.Test.YtodmdkhdbfbfgabGreatDoorM41
set_option linter.unusedVariables false
set_option linter.unusedSimpArgs false
set_option maxRecDepth 100000
set_option maxHeartbeats 8000000
namespace Go.Proofs.YtodmdkhdbfbfgabGreatDoor
open Go.RowKit Go.Nt
def DeedP (u:Bs→Option Bs) (w:World) (fb cb:Nat) (T:Nat→Prop) (sn:Prop) (m0:S1.M) (v:Value) (now:List It) (n:Nat) (e:Ending) (w':World):Prop:=
 ∃ (x y:Int) (v':Value) (now':List It) (T':Nat→Prop) (l'':List It) (n':Nat),e=.returned (.tuple #[.int .i64 x,.int .i64 y,v'])∧FsG u w' fb cb T' sn m0 l'' n'∧n'≤n+701∧KT l''∧(∀ k,T' k→T k∨w.heap.size≤k)∧S1.Fm T w w'∧RowK w' T' v now∧RowK w' T' v' now' ∧
  (x=y∧y=0∧l''.Perm now'∨x=y∧y≠0∧l''.Perm now∨x≠y∧x=9∧¬sn∧l''.Perm now)
theorem qeD {u:Bs→Option Bs} {w w1 w2 w3:World} {fb cb:Nat} {T T':Nat→Prop} {sn:Prop} {m0:S1.M} {v v':Value} {now now' l'':List It} {n n':Nat} {x y:Int} (hb:Below w.heap.size w w1) (hG:FsG u w2 fb cb T' sn m0 l'' n') (hn':n'≤n+701) (hT2:∀ k,T' k→T k∨w1.heap.size≤k) (hF:S1.Fm T w1 w2) (hrow:RowK w1 T v now) (hb3:Below w2.heap.size w2 w3) (hnew:RowK w3 T' v' now') (hk:KT l'') (hor:x=y∧y=0∧l''.Perm now'∨x=y∧y≠0∧l''.Perm now∨x≠y∧x=9∧¬sn∧l''.Perm now):DeedP u w fb cb T sn m0 v now n (.returned (.tuple #[.int .i64 x,.int .i64 y,v'])) w3:=
 ⟨x,y,v',now',T',l'',n',rfl,hG.below hb3,hn',hk,fun k h=>(hT2 k h).imp id fun h=>Nat.le_trans hb.size h,((S1.Fm.of_below hb (fun k h1 h2=>by omega)).trans hF).trans (S1.Fm.of_below hb3 (fun k h1 h2=>by omega)),(hrow.fm hF hT2).below hb3,hnew,hor⟩
theorem FsG.lt {u:Bs→Option Bs} {w:World} {fb cb:Nat} {T:Nat→Prop} {sn:Prop} {m0:S1.M} {l:List It} {n:Nat} (h:FsG u w fb cb T sn m0 l n):∀ k,T k→k<w.heap.size:=by
 obtain ⟨_,_,_,_,_,_,_,_,_,_,_,_,_,_,_,_,_,_,_,_,h5,_⟩:=h;exact h5
theorem qm7 {u:Bs→Option Bs} (hP:PackC u) (a b c:Int) (na:Option Addr) (nc:Nat) (w:World) (fb cb:Nat) (T:Nat→Prop) (sn:Prop) (m0:S1.M) (l now:List It) (n:Nat) (hn:n+800<2147483648) (h:FsG u w fb cb T sn m0 l n) (hk:KT l) (hp:l.Perm now) (hrow:RowK w T (.slice na now.length nc) now) (hml:ML w) (h0:¬T 0) (hroom:29≤S1.roomP m0) (ha1:-9223372036854775808≤a) (ha2:a≤9223372036854775807) (hb1:-9223372036854775808≤b) (hb2:b≤9223372036854775807) (hc1:-9223372036854775808≤c) (hc2:c≤9223372036854775807) :
 Calls Tryz.prog 22 #[.pointer (some ⟨fb,0,none⟩),.slice na now.length nc,.int .i64 a,.int .i64 b,.int .i64 c] w fun e w'=>DeedP u w fb cb T sn m0 (.slice na now.length nc) now n e w':=by
 have N1:=hidI (qhC a w ha1 ha2);have hnl:now.length≤12:=(hk.perm hp).len;obtain ⟨N,hN⟩:∃ N,N=now.length:=⟨_,rfl⟩;have HN:=hidI hN;have H:=hidI h;have Hk:=hidI hk;have Hp:=hidI hp;have Hrow:=hidI hrow;have Hml:=hidI hml;have H0:=hidI h0;have HT:Hid (∀ k,T k→k<w.heap.size):=hidI h.lt;have hlt:0<w.heap.size:=hml.lt;rw [←hN] at hnl ⊢;clear h hk hp hrow hml h0 hN;go_enter Tryz.func22,Tryz.ntmps22
 go_wp2_with fail;refine N1.out.mono ?_;rintro e w1 ⟨p0,rfl,hp0,hb01⟩;have F1:=hidI (qel p0 w1);obtain ⟨X0,hX0⟩:∃ X0,X0=txt p0:=⟨_,rfl⟩;obtain ⟨fo,hfo⟩:∃ fo,fo=qaI p0:=⟨_,rfl⟩;rw [←hX0,←hfo] at F1;rw [←hX0];have HX0:=hidI hX0;have Hfo:=hidI hfo;have Hb01:=hidI hb01;have Hp0:=hidI hp0;clear hX0 hfo hb01 N1 hp0;go_wp2_with fail;refine F1.out.mono ?_;rintro e w' ⟨rfl,hw⟩;have hw':=hw.symm;subst hw';clear hw F1;go_upto_if 20 with fail
 go_cut [13] from 17 (fun s13 wc=>∃ p:Bs,s13=.string (txt p)∧Hid (p∈names∧qaI p=false)∧wc=w1)
 case first =>
  cases fo with
  | true =>
    go_wp2_with fail;go_meet
    case rel=>exact ⟨[97],rfl,hidI (by decide),rfl⟩
  | false =>
    go_wp2_with fail;go_meet
    case rel=>exact ⟨p0,by rw [HX0.out],hidI ⟨Hp0.out,Hfo.out.symm⟩,rfl⟩
 case rest =>
  obtain ⟨p,rfl,Hpn,hwc⟩:=hcut;have hwc':=hwc.symm;subst hwc';clear hwc;clear HX0 Hfo Hp0;have hpl:p.length≤5:=qeG Hpn.out.1;have P4:=hidI (fun W=>qaX c 4 W hc1 hc2 (by decide) (by decide));obtain ⟨r4,hr4⟩:∃ r4,r4=pickF c 4:=⟨_,rfl⟩;rw [←hr4] at P4;have hml1:ML w1:=Hml.out.below Hb01.out hlt;have hH1:FsG u w1 fb cb T sn m0 l n:=H.out.below Hb01.out;have hrow1:RowK w1 T (.slice na now.length nc) now:=Hrow.out.below Hb01.out;have A:=hidI (qgO hP p w1 fb cb T sn m0 l n hn hH1 Hk.out.tree hml1 H0.out (by omega));rw [Hk.out.removeE Hpn.out.1 Hpn.out.2,←Hk.out.there Hp.out p] at A;have B1:=hidI (fun (V:World) (d:Bs) (hV:Below w1.heap.size w1 V) (hd:d.length≤99)=>qmC hP p d V fb cb T sn m0 l n hn (hH1.below hV) Hk.out.tree (hml1.below hV (by have:=Hb01.out.size;omega)) H0.out (by omega) (by omega));have C1:=hidI (qf6 b c w1 hb1 hb2 hc1 hc2)
  obtain ⟨X,hX⟩:∃ X,X=txt p:=⟨_,rfl⟩;rw [←hX] at A B1 ⊢;have HX:=hidI hX;have Hrow1:=hidI hrow1;have HN':=HN;clear hX hr4 hml1 hH1 hrow1 hc1 hc2 hb1 hb2;go_wp2_with fail;refine (P4.out _).mono ?_;rintro e w' ⟨rfl,hw⟩;have hw':=hw.symm;subst hw';clear hw P4;by_cases h4:r4=0
  ·subst h4;clear B1 C1;obtain ⟨is,his⟩:∃ is,is=(at? now p).isSome:=⟨_,rfl⟩;rw [←his] at A;have His:=hidI his;clear his;go_wp2_with fail;refine A.out.mono ?_;rintro e w2 hsg;obtain ⟨x,T',l'',n',rfl,hG,hn',hT2,hF2,hor⟩:=hsg;have hrow2:=Hrow1.out.fm hF2 hT2;obtain ⟨ra,rc,hve,hin⟩:=qbW hrow2;obtain ⟨rfl,rfl⟩:ra=na∧rc=nc:=by cases hve;exact ⟨rfl,rfl⟩
   have D1:=hidI (qkf ra rc now p w2 hin (by have:=HN'.out;omega));have D2:=hidI (fun (V:World) (hV:Below w2.heap.size w2 V)=>qdN ra rc now p V (hin.below hV) (by have:=HN'.out;omega));rw [←His.out,←HX.out,←HN'.out] at D1;rw [←HX.out,←HN'.out] at D2;have HG:=hidI hG;have HT2:=hidI hT2;have HF2:=hidI hF2;have Hor:=hidI hor;have Hrow2:=hidI hrow2;clear hG hT2 hF2 hor hrow2 hve hin A;cases is with
   | false =>
     go_wp2_with fail;refine D1.out.mono ?_;rintro e w3 ⟨rfl,hb3⟩;have Hb3:=hidI hb3;clear hb3 D1 D2;go_wp2_with fail;go_ret3
     rcases Hor.out with ⟨_,hx,hl⟩ | ⟨h,_⟩
     ·have hx':x=4:=hx;rw [hx',HN'.out];exact qeD Hb01.out HG.out hn' HT2.out HF2.out Hrow1.out Hb3.out (Hrow2.out.below Hb3.out) (by rw [hl];exact Hk.out) (.inr (.inl ⟨rfl,by decide,by rw [hl];exact Hp.out⟩))
     cases h
   | true =>
     go_wp2_with fail;refine D1.out.mono ?_;rintro e w3 ⟨rfl,hb3⟩;have D3:=hidI (D2.out w3 hb3);have Hb3:=hidI hb3;clear hb3 D1 D2;go_wp2_with fail;refine D3.out.mono ?_;rintro e w4 ⟨v4,rfl,hown,hb4⟩;have Hb4:Hid (Below w2.heap.size w2 w4):=hidI (Hb3.out.trans (hb4.mono Hb3.out.size));have HR4:Hid (RowK w4 T' v4 (wo now p)):=hidI (RowK.new hown fun k hk=>Nat.lt_of_lt_of_le (HG.out.lt k hk) Hb3.out.size);clear hown hb4 D3;go_wp2_with fail;go_ret3
     rw [HN'.out];refine qeD (now':=wo now p) Hb01.out HG.out hn' HT2.out HF2.out Hrow1.out Hb4.out HR4.out ?_ ?_
     ·rcases Hor.out with ⟨h,_⟩ | ⟨_,⟨_,hl⟩ | ⟨_,hl,_⟩⟩
      ·exact absurd rfl h
      ·rw [hl];exact Hk.out.drop Hpn.out.2
      rw [hl];exact Hk.out
     rcases Hor.out with ⟨h,_⟩ | ⟨_,⟨hx,hl⟩ | ⟨hx,hl,hsn⟩⟩
     ·exact absurd rfl h
     ·exact .inl ⟨hx,rfl,by rw [hl];exact KT.drop_perm Hp.out p⟩
     refine .inr (.inr ⟨by rw [hx];decide,hx,fun hs => ?_,by rw [hl];exact Hp.out⟩);obtain ⟨t,t1,t2⟩:=hsn hs
     have:=(Hk.out.drop Hpn.out.2).room t1
     omega
  have h4':¬((r4:Nat):Int)=0:=by omega
  clear A;go_wp2_with fail;refine C1.out.mono ?_;rintro e w2 ⟨d,rfl,hd,hb2⟩;have B2:=hidI (B1.out w2 d hb2 (by omega));rw [Hk.out.putE Hpn.out.1 Hpn.out.2 (by omega)] at B2;obtain ⟨Y,hY⟩:∃ Y,Y=txt d:=⟨_,rfl⟩;rw [←hY] at B2 ⊢;have HY:=hidI hY;have Hb02:Hid (Below w.heap.size w w2):=hidI (Hb01.out.trans (hb2.mono Hb01.out.size));have Hrow2:Hid (RowK w2 T (.slice na now.length nc) now):=hidI (Hrow1.out.below hb2);clear hb2 B1 C1 hY;go_wp2_with fail;refine B2.out.mono ?_;rintro e w3 ⟨x,T',l'',n',rfl,hG,hn',hT2,hF2,hor⟩;have hrow3:=Hrow2.out.fm hF2 hT2;obtain ⟨ra,rc,hve,hin⟩:=qbW hrow3;obtain ⟨rfl,rfl⟩:ra=na∧rc=nc:=by cases hve;exact ⟨rfl,rfl⟩
  have D1:=hidI (qlZ ra rc now p d w3 hin (by have:=HN'.out;omega));rw [←HX.out,←HY.out,←HN'.out] at D1;have HG:=hidI hG;have HT2:=hidI hT2;have HF2:=hidI hF2;have Hor:=hidI hor;clear hG hT2 hF2 hor hrow3 hve hin B2;go_wp2_with fail;refine D1.out.mono ?_;rintro e w4 ⟨v4,rfl,hown,hb4⟩;have Hb4:=hidI hb4;have HR4:Hid (RowK w4 T' v4 (putK now p d)):=hidI (RowK.new hown fun k hk=>HG.out.lt k hk);clear hown hb4 D1;go_wp2_with fail;go_ret3
  rw [HN'.out];refine qeD (now':=putK now p d) Hb02.out HG.out hn' HT2.out HF2.out Hrow2.out Hb4.out HR4.out ?_ ?_
  ·rcases Hor.out with ⟨h,_⟩ | ⟨_,⟨_,hl⟩ | ⟨_,hl,_⟩⟩
   ·exact absurd rfl h
   ·rw [hl];exact Hk.out.put Hpn.out.1 Hpn.out.2 (by omega)
   rw [hl];exact Hk.out
  rcases Hor.out with ⟨h,_⟩ | ⟨_,⟨hx,hl⟩ | ⟨hx,hl,hsn⟩⟩
  ·exact absurd rfl h
  ·exact .inl ⟨hx,rfl,by rw [hl];exact Hk.out.put_perm Hp.out p d⟩
  refine .inr (.inr ⟨by rw [hx];decide,hx,fun hs => ?_,by rw [hl];exact Hp.out⟩);obtain ⟨t,t1,t2⟩:=hsn hs
  have:=(Hk.out.put (d:=d) Hpn.out.1 Hpn.out.2 (by omega)).room t1
  omega
end Go.Proofs.YtodmdkhdbfbfgabGreatDoor
namespace Go.Proofs.YtodmdkhdbfbfgabGreatDoor.S1
open Go.RowKit Pk
open Go.Nt
theorem New.renewG {m:M} (h:New m) {t:List UInt8} (ht:0<t.length) (hm:mayE m t.length=0) :
 (renA m t).1=0∧WF (renA m t).2∧(renA m t).2.life = -1∧∃ blk:Nat→Nat,(∀ k,k<pagesN t.length→lookF (scanF (pgs (renA m t).2) (renA m t).2.np (renA m t).2.nb) (badN m) 1 k=some (fpR (badN m) 1 t k (blk k)))∧(∀ f∈scanF (pgs (renA m t).2) (renA m t).2.np (renA m t).2.nb,f.bad=badN m∧f.num=1)∧(renA m t).2.fail<0∧(renA m t).2.bd=m.bd∧(renA m t).2.nb=m.nb∧(renA m t).2.np=m.np∧∃ S,cntB m.nb S≤good m/2∧∀ k,k<pagesN t.length→S (blk k)=true∧blk k<m.nb∧Uniq (scn (renA m t).2)∧∃ q,q<(renA m t).2.np∧q<(renA m t).2.nx (blk k)∧(renA m t).2.pg (blk k) q=pageB (pgOf (badN m) 1 t k):=by
 have hw:=h.wf;have he:=h.eraAll m.nb (Nat.le_refl _);have hroom:pagesN t.length≤roomP m:=by
  unfold mayE at hm
  split at hm
  ·omega
  split at hm<;>omega
 have hr256:=roomP_le hw;have hbn:=badN_le m;have h32:=hw.nb2;have h4:=hw.nb1;have hpn:0<pagesN t.length:=by unfold pagesN;omega
 have hnum:numN m ⟨0,0,none⟩ (hasL (scanF (pgs m) m.np m.nb))=1:=by
  unfold numN;rw [h.scan];exact Go.Nt.nxt_here (by decide) rfl
 obtain ⟨Q1,hQ1⟩:∃ Q1,Q1=fun j=>decide (j<m.nb) && !m.bd j:=⟨_,rfl⟩
 obtain ⟨s0,hs0⟩:∃ s0:LS,s0=⟨splitR (badN m) 1 t,m,Q1,m.nb - 1,m.np,fun _=>false⟩:=⟨_,rfl⟩;have hS:renS m Q1 t=layN (fun _=>false) m.nb s0:=by
  unfold renS addS;rw [hnum];unfold layF lay0;rw [if_neg (by show ¬(splitR (badN m) 1 t).length+m.np≤m.np;rw [Go.Nt.splitR_length];omega),hs0]
 have hSd:Snd m (fun _=>false) Q1 (m.nb - 1) m.np:=⟨hw,h.life,h.fail,Rdy.shut m Q1 _ (fun i hi=>by
  rw [hQ1] at hi;simp only [Bool.and_eq_true,decide_eq_true_eq,Bool.not_eq_true'] at hi;exact ⟨hi.1,hi.2,h.nx i⟩),by rw [qb7];exact Nat.zero_le _,by omega,Nat.le_refl _⟩
 have hlf0:layF (fun _=>false) ⟨splitR (badN m) 1 t,m,Q1,m.nb - 1,m.np,fun _=>false⟩=layN (fun _=>false) m.nb s0:=by
  unfold layF lay0;rw [if_neg (by show ¬(splitR (badN m) 1 t).length+m.np≤m.np;rw [Go.Nt.splitR_length];omega),hs0]
 obtain ⟨hall,hSn,hnbN,hnpN,hbdN⟩:=hSd.lay (split_len (badN m) 1 t) (by rw [Go.Nt.splitR_length];exact hpn) (by rw [Go.Nt.splitR_length];exact hroom) _ hlf0.symm;have hren:renA m t=(0,(layN (fun _=>false) m.nb s0).m):=by
  unfold renA;rw [if_neg (by simp [hm]),he];simp only [];rw [if_neg (by simp [hm]),←hQ1,hS,if_pos hall]
 have hV:LayV m (fun _=>false) (splitR (badN m) 1 t) (m.nb - 1) 0 s0 []:=by
  rw [hs0];refine ⟨LayI.start hw _ _,?_,fun i hi=>(by cases hi),Nat.le_refl _⟩;show m.nb - 1=(m.nb - 1+0)%m.nb;rw [Nat.add_zero,Nat.mod_eq_of_lt (by omega)]
 obtain ⟨v,ps,_,hL⟩:=LayV.rounds (by omega) m.nb 0 s0 [] hV (by omega);obtain ⟨m',hm'⟩:∃ m',m'=(layN (fun _=>false) m.nb s0).m:=⟨_,rfl⟩;have hI:=hL.lay;rw [hall,←hm'] at hI;rw [hren];simp only [←hm'];have hb256:badN m<256:=by omega
 have ho:pagesN t.length<65536:=by omega
 have hpl:ps.length=pagesN t.length:=by
  have h1:=hI.part;have h2:=congrArg List.length h1;rw [List.length_drop,Go.Nt.splitR_length] at h2;have h3:=hI.le;rw [Go.Nt.splitR_length] at h3;simp at h2;omega
 have honly:∀ f∈scanF (pgs m') m'.np m'.nb,∃ k i q,ps[k]? = some (i,q)∧f=fpR (badN m) 1 t k i:=fun f hf=>by
  rcases hI.found hb256 (by decide) ho hf with ⟨k,i,q,h1,_,h2⟩ | h1
  ·exact ⟨k,i,q,h1,h2⟩
  rw [h.scan] at h1;cases h1
 refine ⟨by simp,by rw [hm'];exact hSn.wf,by rw [hm'];exact hSn.life,fun k=>(ps.getD k (0,0)).1,fun k hk => ?_,fun f hf => ?_,by rw [hm'];exact hSn.fail,by rw [hm'];exact hbdN,by rw [hm'];exact hnbN,by rw [hm'];exact hnpN,(layN (fun _=>false) m.nb s0).S,by have:=hSn.few;rw [good_congr hnbN hbdN,hnbN] at this;exact this,fun k hk => ?_⟩
 ·obtain ⟨x,hx⟩:∃ x,ps[k]? = some x:=⟨_,List.getElem?_eq_getElem (by omega)⟩;obtain ⟨i,q⟩:=x;have hmem:=hI.there hb256 (by decide) ho hx;have e:(ps.getD k (0,0)).1=i:=by rw [List.getD_eq_getElem?_getD,hx];rfl
  show lookF (scanF (pgs m') m'.np m'.nb) (badN m) 1 k=some (fpR (badN m) 1 t k (ps.getD k (0,0)).1);rw [e];exact qbx hmem (fun y hy h1 h2 h3=>by
   obtain ⟨k',i',q',hx',rfl⟩:=honly y hy;have hkk:k'=k:=h3;subst hkk;rw [hx] at hx';cases hx'
   rfl)
 ·obtain ⟨k,i,q,_,rfl⟩:=honly f hf;exact ⟨rfl,rfl⟩
 obtain ⟨x,hx⟩:∃ x,ps[k]? = some x:=⟨_,List.getElem?_eq_getElem (by omega)⟩;obtain ⟨i,q⟩:=x;have e:(ps.getD k (0,0)).1=i:=by rw [List.getD_eq_getElem?_getD,hx];rfl
 obtain ⟨a1,a2,a3,a4,a5⟩:=hI.posn k i q hx;show (layN (fun _=>false) m.nb s0).S (ps.getD k (0,0)).1=true∧(ps.getD k (0,0)).1<m.nb∧Uniq (scn m')∧∃ q,q<m'.np∧q<m'.nx (ps.getD k (0,0)).1∧m'.pg (ps.getD k (0,0)).1 q=pageB (pgOf (badN m) 1 t k);rw [e];refine ⟨a5,by rw [←hnbN,←hm'];exact a1,qe2 hI hb256 (by decide) ho (fun f hf=>by rw [scn,h.scan] at hf;cases hf) (by rw [scn,h.scan];rfl),q,a2,a3,?_⟩;unfold splitR at a4;rw [List.getElem?_map,List.getElem?_range hk] at a4;simpa using a4.symm
end Go.Proofs.YtodmdkhdbfbfgabGreatDoor.S1
namespace Go.Proofs.YtodmdkhdbfbfgabGreatDoor
open Go.RowKit Go.Nt
def MtgP (u:Bs→Option Bs) (l:List It) (m:S1.M) (lo hi:Nat) (w:World) (e:Ending) (w':World):Prop:=
 ∃ fb xb T,e=.returned (.tuple #[.pointer (some ⟨fb,0,none⟩),.pointer (some ⟨xb,0,none⟩)])∧FsG u w' fb xb T True m (qac l) 1∧(∀ k,T k→w.heap.size≤k)∧S1.Only lo hi w w'
theorem qjH {u:Bs→Option Bs} (hP:PackC u) (a:Option Addr) (c:Nat) (l:List It) (w:World) (lo hi cb:Nat) (L:S1.Loc) (m:S1.M) (hm:S1.New m) (h:S1.CP w lo hi cb L m) (hsz:hi≤w.heap.size) (hml:ML w) (hmlo:0<lo) (hl:ItsIn w a l) (ht:TreeP l) (hroom:pagesN (weigh l+1)≤S1.roomP m) :
 Calls Tryz.prog 6 #[.pointer (some ⟨cb,0,none⟩),.slice a l.length c] w fun e w'=>MtgP u l m lo hi w e w':=by
 have hfit:∀ x∈l,Fit x:=fun x hx=>qaH (ht.ok x hx)
 have A:=hidI (qkx hP a c l w lo hi cb L m hm.wf h hsz hml hmlo hl (by have:=ht.len;omega) (fun x hx=>by have:=(hfit x hx).p;omega) (fun x hx=>by have:=(hfit x hx).d;omega));have Hml:=hidI hml;unfold MtgP;clear h hml hl;go_enter Tryz.func6,Tryz.ntmps6
 go_wp2_with fail;refine A.out.mono ?_;rintro e w1 (⟨hno,_⟩ | ⟨hyes,t,hT,rfl,hC1,hO1⟩)
 ·rw [(qbH l).2 ht] at hno;cases hno
 have htp:=qed hT;have htl:=qbO hT;rw [qdR] at htl;have hmay:S1.mayE m t.length=0:=by
  unfold S1.mayE;rw [if_neg (by rw [hm.life];decide),if_neg]
  have:pagesN t.length≤pagesN (weigh l+1):=by unfold pagesN;exact Nat.div_le_div_right (by omega)
  omega
 obtain ⟨hr0,hwf1,hlf1,blk,hlook,hlab,hfl1,hbd1,hnb1,hnp1,S,hS1,hS2⟩:=hm.renewG htp hmay;obtain ⟨m1,hm1⟩:∃ m1,m1=(S1.renA m t).2:=⟨_,rfl⟩;rw [←hm1] at hwf1 hlf1 hlook hlab hC1 hfl1 hbd1 hnb1 hnp1;rw [hr0];obtain ⟨bn,hbn⟩:∃ bn,bn=S1.badN m:=⟨_,rfl⟩;rw [←hbn] at hlook hlab;have hbn2:bn≤32:=by rw [hbn];exact Nat.le_trans (S1.badN_le m) hm.wf.nb2
 have hrec:=qd8 htp hlook;obtain ⟨z,hz⟩:=qdW bn 1 t blk;have hpar:parse u (txtF ((List.range (pagesN t.length)).map fun j=>fpR bn 1 t j (blk j)))=some (qac l):=by
  rw [hz];exact qdY hT (fun x hx=>hfit x (order_mem.1 hx)) (by rw [qak];have:=ht.len;omega) z
 have hlen:(txtF ((List.range (pagesN t.length)).map fun j=>fpR bn 1 t j (blk j))).length≤1000000:=by
  rw [qmU]
  ·simp only [List.length_map,List.length_range];have h1:=S1.roomP_le hm.wf
   have:pagesN t.length≤pagesN (weigh l+1):=by unfold pagesN;exact Nat.div_le_div_right (by omega)
   omega
  intro f hf;simp at hf;obtain ⟨k,_,rfl⟩:=hf;unfold fpR;simp;omega
 have hsz1:hi≤w1.heap.size:=Nat.le_trans hsz hO1.size;have hml1:ML w1:=Hml.out.below (hO1.below (B:=1) hmlo (by have:=Hml.out.lt;omega)) (by omega);have C:=hidI (S1.copy_any w1 lo hi cb L m1 hwf1 hC1 hsz1);have HO1:=hidI hO1;have Hml1:=hidI hml1;have hlf:m1.life≠0:=by rw [hlf1];decide
 obtain ⟨ps,hps⟩:∃ ps,ps=(List.range (pagesN t.length)).map fun j=>fpR bn 1 t j (blk j):=⟨_,rfl⟩
 rw [←hps] at hrec hpar hlen;have HSnd:Hid (S1.Snd m1 (inF ps) (fun _=>false) (endF ps) m1.np):=hidI (by
  have hpn:0<pagesN t.length:=by unfold pagesN;omega
  have hlast:endF ps<m.nb:=by
   have e:ps.getLast? = some (fpR bn 1 t (pagesN t.length - 1) (blk (pagesN t.length - 1))):=by
    rw [hps,List.getLast?_map,List.getLast?_range,if_neg (by omega)];rfl
   unfold endF;rw [e];exact (hS2 _ (by omega)).2.1
  refine ⟨hwf1,hlf1,hfl1,S1.Rdy.shut m1 _ _ (fun i hi=>by cases hi),?_,by rw [hnb1];exact hlast,Nat.le_refl _⟩;rw [S1.good_congr hnb1 hbd1,hnb1];refine Nat.le_trans (S1.cntB_mono fun i hi => ?_) hS1;unfold inF at hi;rw [hps] at hi;obtain ⟨f,hf,hfi⟩:=List.any_eq_true.1 hi;obtain ⟨k,hk,rfl⟩:=List.mem_map.1 hf
  have:=(hS2 k (List.mem_range.1 hk)).1
  rw [←beq_iff_eq.1 hfi];exact this)
 have hbad1:S1.badN m1=bn:=by rw [hbn];exact S1.badN_congr hnb1 hbd1
 rw [←hm1,←hbn] at hS2;have hpn0:0<pagesN t.length:=by unfold pagesN;omega
 have HCog:Hid (S1.Cog m1 bn 1 (inF ps) t):=hidI (by
  have hp256:pagesN t.length≤256:=by
   have h1:=S1.roomP_le hm.wf
   have:pagesN t.length≤pagesN (weigh l+1):=by unfold pagesN;exact Nat.div_le_div_right (by omega)
   omega
  refine ⟨(hS2 0 hpn0).2.2.1,?_,fun x y hx => ?_,fun f hf=>by have:=hlab f hf;omega,by omega,htp,hp256,by decide⟩
  ·refine ⟨fun k=>(blk k,if h:k<pagesN t.length then (hS2 k h).2.2.2.choose else 0),fun k hk => ?_⟩;have hc:=(hS2 k hk).2.2.2.choose_spec;dsimp only;rw [dif_pos hk];refine ⟨by rw [hnb1];exact (hS2 k hk).2.1,hc.1,hc.2.1,?_,hc.2.2⟩;unfold inF;rw [hps];exact List.any_eq_true.2 ⟨_,List.mem_map.2 ⟨k,List.mem_range.2 hk,rfl⟩,by unfold fpR;simp⟩
  unfold S1.wholeF at hx;rw [Bool.and_eq_true] at hx;obtain ⟨f,hf,h1,h2⟩:=hasL_iff.1 hx.1
  have:=hlab f hf
  exact .inr ⟨by omega,by omega⟩)
 have Hwh:Hid (S1.wholeF (scanF (S1.pgs m1) m1.np m1.nb) bn 1=true):=hidI (by obtain ⟨_,_,_,_,h,_⟩:=HCog.out.whole hwf1;exact h);have Hnew:Hid (Newest (scanF (S1.pgs m1) m1.np m1.nb) bn 1):=hidI (HCog.out.last hwf1);have HIt:Hid (IsText u (qac (qac l)) t):=hidI (by rw [qdE ht];exact hT);have Hal:Hid (Alike' m m1):=hidI ⟨hnb1,hnp1,hbd1⟩;have Hrec:=hidI hrec;have Hpar:=hidI hpar;have Hwf1:=hidI hwf1;clear hbad1 hS1 hS2 hfl1 hbd1 hnb1 hnp1 hlook hlab hz hC1 hO1 hml1 hps hrec hpar hm1 hbn hmay hT htp htl hwf1 hlf1 hr0 A hfit;go_wp2_with fail;refine C.out.mono ?_;rintro e w2 ⟨L',rfl,hC2,hb2⟩;obtain ⟨xb,hxb⟩:∃ xb,xb=w1.heap.size:=⟨_,rfl⟩;have hml2:ML w2:=Hml1.out.below hb2 Hml1.out.lt;rw [←hxb] at hC2 ⊢
 have D:=hidI (mountU w2 xb w2.heap.size xb L' m1 Hwf1.out hC2 (Nat.le_refl _) hlf _ rfl bn 1 (by omega) (by omega) Hwh.out Hnew.out ps Hrec.out (fun f hf=>⟨(scanF_ok hf).1,by have:=(scanF_ok hf).2;have:=Hwf1.out.nb2;omega⟩) hml2 hP (qac l) Hpar.out ((qbH _).2 ht.order) hlen);have HO2:=hidI (HO1.out.trans (S1.Only.of_below hb2));have HC2:=hidI hC2;have hxw:w.heap.size≤xb:=by rw [hxb];exact HO1.out.size
 have hx2:xb≤w2.heap.size:=by rw [hxb];exact hb2.size
 clear hC2 hb2 hml2 C hxb;go_wp2_with fail;refine D.out.mono ?_;rintro e w3 ⟨fb,lb,tb,ib,n,rfl,hF,hT,hLg,hn,hBl,hfb,hlb,htb,hib,hit,hb3⟩;have n1:ib≠lb:=qht (qnd hBl) hLg;have n2:ib≠fb:=qht (qnd hBl) hF;have n3:tb≠lb:=qht (qhr hT) hLg;have n4:tb≠fb:=qht (qhr hT) hF;have n5:fb≠lb:=qom hF hLg;have hLM:S1.LogM w3 xb w2.heap.size xb lb L' ⟨bn,1,none⟩ (some ib) none n 0 m1 (inF ps) (fun _=>false) (endF ps) m1.np:=
  ⟨hLg,S1.MemX.below HC2.out (Nat.le_refl _) hb3,Hwf1.out,.inr ⟨ib,rfl,hBl⟩,.inl ⟨rfl,fun _=>rfl⟩,fun g hg=>(by cases hg;exact ⟨n1,by omega⟩),fun g hg=>(by cases hg),fun g hg hq=>(by cases hq),(by omega),hb3.size⟩
 have nf:¬S1.LogS xb w2.heap.size lb (some ib) none fb:=fun h=>by
  rcases h with h | h | h | h
  ·omega
  ·exact n5 h
  ·cases h;exact n2 rfl
  cases h
 have nt:¬S1.LogS xb w2.heap.size lb (some ib) none tb:=fun h=>by
  rcases h with h | h | h | h
  ·omega
  ·exact n3 h
  ·cases h;omega
  cases h
 have HK:Hid (FsG u w3 fb xb (FsS fb tb xb w2.heap.size lb (some ib) none) True m (qac l) 1):=by
  refine hidI ⟨tb,xb,w2.heap.size,lb,L',⟨bn,1,none⟩,some ib,none,n,0,m1,inF ps,fun _=>false,endF ps,m1.np,t,⟨hF,hT,hLM,nf,nt,fun e=>n4 e.symm,fun g hg=>by cases hg⟩,fun _=>⟨HSnd.out,Hal.out⟩,fun k hk=>hk,fun g hg=>(by cases hg),fun k hk => ?_,rfl,⟨HSnd.out.wf,HSnd.out.rdy,HSnd.out.b,HSnd.out.p,HSnd.out.life⟩,HCog.out,HIt.out,fun g hg=>(by cases hg)⟩;rcases hk with h | h | h
  ·exact S1.logS_lt hLM h
  ·rw [h];exact lt_of_heap hF
  rw [h];exact hT.lt
 have HTT:Hid (∀ k,FsS fb tb xb w2.heap.size lb (some ib) none k→w.heap.size≤k):=hidI fun k hk=>by
  rcases hk with (h | h | h | h) | h | h
  ·omega
  ·omega
  ·cases h;omega
  ·cases h
  ·omega
  omega
 have HO3:=hidI (HO2.out.trans (S1.Only.of_below hb3));clear hF hT hb3 D hLM hLg hBl;go_wp2_with fail;go_ret2
 exact ⟨fb,xb,_,rfl,HK.out,HTT.out,HO3.out⟩
theorem FsG.weaken {u:Bs→Option Bs} {w:World} {fb cb:Nat} {T:Nat→Prop} {sn sn':Prop} {m0:S1.M} {l:List It} {n:Nat} (h:FsG u w fb cb T sn m0 l n) (hs:sn'→sn):FsG u w fb cb T sn' m0 l n:=by
 obtain ⟨tb,lo,hi,lb,L,lv,kv,qv,nk,nq,m,K,Q,b,p,t,h1,h2,h3⟩:=h;exact ⟨tb,lo,hi,lb,L,lv,kv,qv,nk,nq,m,K,Q,b,p,t,h1,fun h=>h2 (hs h),h3⟩
theorem qj7 {u:Bs→Option Bs} {w:World} {fb cb:Nat} {T:Nat→Prop} {sn:Prop} {m0:S1.M} {l:List It} {n:Nat} (h:FsG u w fb cb T sn m0 l n):Calls Tryz.prog 14 #[.pointer (some ⟨fb,0,none⟩)] w fun e w'=>e=.returned (.int .i64 0)∧w'=w:=by
 obtain ⟨tb,lo,hi,lb,L,lv,kv,qv,nk,nq,m,K,Q,b,p,t,h1,_,_,_,_,_,h2,_⟩:=h;have c0:=h1.fs.p0;have A:=hidI (S1.dead_any w lo hi cb L m h1.log.chip);have hlb:(m.life==0)=false:=by rw [h2.life];rfl
 rw [hlb] at A;clear h1 h2 hlb;go_enter Tryz.func14,Tryz.ntmps14
 go_wp2_with fail;refine A.out.mono ?_;rintro e w' ⟨rfl,hw'⟩;have hw2:=hw'.symm;subst hw2;go_wp2_with fail;go_ret
 exact ⟨rfl,rfl⟩
theorem qla {u:Bs→Option Bs} {w:World} {fb cb:Nat} {T:Nat→Prop} {sn:Prop} {m0:S1.M} {l:List It} {n:Nat} (h:FsG u w fb cb T sn m0 l n) (a c:Int) (h1:-9223372036854775808≤c) (h2:c≤9223372036854775807):Calls Tryz.prog 21 #[.pointer (some ⟨cb,0,none⟩),.int .i64 a,.int .i64 c] w fun e w'=>e=.returned (.tuple #[])∧FsG u w' fb cb T False m0 l n∧S1.Fm T w w':=by
 obtain ⟨tb,lo,hi,lb,L,lv,kv,qv,nk,nq,m,K,Q,b,p,t,a1,_,a3,a4,a5,a6,a7,a8,a9,a10⟩:=h;refine (S1.fail_any w lo hi cb L m a c h1 h2 a1.log.chip).mono ?_;rintro e w' ⟨rfl,hC,hO⟩;have hlog:=a1.log;have hout:∀ k,k<w.heap.size→¬S1.LogS lo hi lb kv qv k→w'.heap[k]? = w.heap[k]? := fun k hk hn=>hO.block k hk fun h=>hn (.inl h)
 have hw:=hlog.wf;obtain ⟨m',hm'⟩:∃ m':S1.M,m'={ m with fail:=S1.bnd a 0 1073741824,part:=S1.prt c }:=⟨_,rfl⟩;have hw':S1.WF m':=by rw [hm'];exact ⟨hw.nb1,hw.nb2,hw.np1,hw.np2,hw.nx,hw.pg,hw.life1,hw.life2,by show -1≤S1.bnd a 0 1073741824;have:=S1.bnd_le a 0 1073741824 (by omega);omega,by show S1.bnd a 0 1073741824≤1073741824;have:=S1.bnd_le a 0 1073741824 (by omega);omega,hw.cut1,hw.cut2,by show 0≤S1.prt c;unfold S1.prt;omega,by show S1.prt c≤63;unfold S1.prt;omega⟩
 have hL:S1.LogM w' lo hi cb lb L lv kv qv nk nq m' K Q b p:=by
  refine ⟨hlog.log.of_block (hO.block lb hlog.log.lt hlog.al),by rw [hm'];exact hC,hw',hlog.kept.of_blocks fun g hg hl=>hO.block g hl (hlog.ak g hg).2,hlog.clean.of_blocks fun g hg hl=>hO.block g hl (hlog.aq g hg).2,hlog.ak,hlog.aq,hlog.kq,hlog.al,Nat.le_trans hlog.sz hO.size⟩
 have hM:FsM w' fb tb lo hi cb lb L lv kv qv nk nq m' K Q b p l:=by
  refine ⟨(hout fb (lt_of_heap a1.fs) a1.nf).trans a1.fs,a1.tree.of_block (hout tb a1.tree.lt a1.nt),hL,a1.nf,a1.nt,a1.ne,fun g hg => ?_⟩;obtain ⟨b1,b2,b3,nn,S,b4,b5,b6⟩:=a1.tk g hg;exact ⟨b1,b2,b3,nn,S,b4.of_block (hout g b4.lt b1),b5,b6⟩
 refine ⟨rfl,⟨tb,lo,hi,lb,L,lv,kv,qv,nk,nq,m',K,Q,b,p,t,hM,fun h=>h.elim,a3,a4,fun k hk=>Nat.lt_of_lt_of_le (a5 k hk) hO.size,a6,?_,?_,a9,?_⟩,S1.Fm.of_only hO fun k x1 x2=>a3 k (.inl (.inl ⟨x1,x2⟩))⟩
 ·rw [hm'] at hw' ⊢;exact ⟨hw',⟨a7.rdy.open_,a7.rdy.clean⟩,a7.b,a7.p,a7.life⟩
 ·rw [hm'];exact ⟨a8.uniq,a8.here,a8.newest,a8.bad,a8.lvb,a8.pos,a8.few,a8.num⟩
 intro g hg;obtain ⟨nt,S,b1,b2,b3⟩:=a10 g hg;obtain ⟨c1,_⟩:=a1.tk g hg;refine ⟨nt,S,b1.of_block (hout g b1.lt c1),b2,?_⟩;rw [hm'];exact b3
theorem qkm {u:Bs→Option Bs} {w:World} {fb cb:Nat} {T:Nat→Prop} {sn:Prop} {m0:S1.M} {l:List It} {n:Nat} (h:FsG u w fb cb T sn m0 l n) (ht:TreeP l) (hml:ML w) :
 Calls Tryz.prog 24 #[.pointer (some ⟨fb,0,none⟩)] w fun e w'=>Below w.heap.size w w'∧∃ v,e=.returned v∧w'.ownsRow w.heap.size 53 5 v l.length (its (qac l)):=by
 obtain ⟨tb,lo,hi,lb,L,lv,kv,qv,nk,nq,m,K,Q,b,p,t,h1,_⟩:=h;exact qd5 w fb cb lb tb l h1.fs h1.tree ht hml
theorem FsG.last {u:Bs→Option Bs} {w:World} {fb cb:Nat} {T:Nat→Prop} {sn:Prop} {m0:S1.M} {l:List It} {n:Nat} (h:FsG u w fb cb T sn m0 l n) (hk:KT l) :
 ∃ (lo hi:Nat) (L:S1.Loc) (m:S1.M) (c:Nat) (ps:List Fp),S1.CP w lo hi cb L m∧S1.WF m∧hi≤w.heap.size∧m.life≠0∧c≤1000000∧n≤4294967295∧S1.wholeF (scanF (S1.pgs m) m.np m.nb) c n=true∧Newest (scanF (S1.pgs m) m.np m.nb) c n∧recF (scanF (S1.pgs m) m.np m.nb) c n=some ps∧parse u (txtF ps)=some (qac l)∧(txtF ps).length≤1000000:=by
 obtain ⟨tb,lo,hi,lb,L,lv,kv,qv,nk,nq,m,K,Q,b,p,t,a1,_,a3,a4,a5,a6,a7,a8,a9,a10⟩:=h;obtain ⟨ps,z,h1,h2,h3,h4⟩:=a8.whole a7.wf;have hc:=a8.c256 a7.wf;have hnum:=a8.num;have hf:=a8.few;have hl:=a8.last a7.wf;rw [a6] at h1 h3 hl hnum;refine ⟨lo,hi,L,m,lv.nb,ps,a1.log.chip,a7.wf,a1.log.sz,by rw [a7.life];decide,by omega,by omega,h3,hl,h1,?_,by omega⟩;rw [h2];exact qdY a9 (fun x hx=>qaH (hk.tree.ok x (order_mem.1 hx))) (by rw [qak];have:=hk.len;omega) z
theorem qjv (w:World):Calls Tryz.prog 20 #[] w fun e w'=>∃ L hi,e=.returned (.pointer (some ⟨w.heap.size,0,none⟩))∧hi≤w'.heap.size∧S1.CP w' w.heap.size hi w.heap.size L (S1.mkM 32 16 0 (fun _=>0))∧Below w.heap.size w w':=by
 have A:=hidI (S1.new_any w 32 16 none 0 0 (fun _=>0) (by omega) (fun h=>absurd h (by decide)));go_enter Tryz.func20,Tryz.ntmps20
 go_wp2_with fail;refine A.out.mono ?_;rintro e w1 ⟨L,hi,rfl,hhi,hC,hBw⟩;have H1:=hidI hhi;have H2:=hidI hC;have H3:=hidI hBw;clear hhi hC hBw A;go_wp2_with fail;go_ret
 exact ⟨L,hi,rfl,H1.out,H2.out,H3.out⟩
theorem qim:S1.roomP (S1.mkM 32 16 0 (fun _=>0))=256:=by rw [qmt];rfl
end Go.Proofs.YtodmdkhdbfbfgabGreatDoor
