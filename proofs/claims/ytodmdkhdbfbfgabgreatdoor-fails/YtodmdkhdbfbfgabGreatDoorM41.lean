/- Lemmas. -/
import Derived.Test.YtodmdkhdbfbfgabGreatDoorM40
set_option linter.unusedVariables false
set_option linter.unusedSimpArgs false
set_option maxRecDepth 100000
set_option maxHeartbeats 8000000
namespace Go.Proofs.YtodmdkhdbfbfgabGreatDoor.S1
open Go.RowKit Pk
open Go.Nt
theorem qol {m:M} {K Q:Nat→Bool} {b p:Nat} (hw:WF m) (hr:Rdy m Q b p) (hb:b<m.nb) (hp:p≤m.np) {xs:List (List UInt8)} (hx:∀ x∈xs,x.length=64):∃ v ps,LayV m K xs b v (layF K ⟨xs,m,Q,b,p,fun _=>false⟩) ps:=by
 have hS:=LayI.start hw K xs;unfold layF lay0;by_cases hfit:xs.length+p≤m.np
 ·rw [if_pos (show (LS.mk xs m Q b p fun _=>false).left.length+(LS.mk xs m Q b p fun _=>false).p≤m.np from hfit)];obtain ⟨ps,hI,hSb⟩:=LayI.progL b xs m p _ [] hS;have hend:=qen b xs m p (fun _=>false) hw hr hfit hx;have hk:=qax b xs m p (fun _=>false);have hV:LayV m K xs b 0 (LS.prog ⟨xs,m,Q,b,p,fun _=>false⟩) ps:=⟨hI,by show b=(b+0)%m.nb;rw [Nat.add_zero,Nat.mod_eq_of_lt hb],fun i hi=>.inr ⟨(hSb i hi).elim id (fun h=>by cases h),hend⟩,hk.2.2.2 hp⟩;obtain ⟨v,ps',_,hL⟩:=LayV.rounds hb m.nb 0 _ ps hV (by omega);exact ⟨v,ps',hL⟩
 rw [if_neg (show ¬(LS.mk xs m Q b p fun _=>false).left.length+(LS.mk xs m Q b p fun _=>false).p≤m.np from hfit)];have hV:LayV m K xs b 0 ⟨xs,m,Q,b,p,fun _=>false⟩ []:=⟨hS,by show b=(b+0)%m.nb;rw [Nat.add_zero,Nat.mod_eq_of_lt hb],fun i hi=>(by cases hi),hp⟩;obtain ⟨v,ps,_,hL⟩:=LayV.rounds hb m.nb 0 _ [] hV (by omega);exact ⟨v,ps,hL⟩
theorem qld {m:M} {K Q:Nat→Bool} {b p:Nat} {xs:List (List UInt8)} (hw:WF m) (hl:m.life = -1):(layF K ⟨xs,m,Q,b,p,fun _=>false⟩).m.life = -1:=by
 unfold layF lay0
 split
 ·exact (qdp K _ _ (qbb _ _ _ _ _ hw) (qbl _ _ _ _ _ hw hl)).1
 exact (qdp K _ _ hw hl).1
structure Gng (m:M) (Q:Nat→Bool) (b p:Nat):Prop where
 wf:WF m
 rdy:Rdy m Q b p
 b:b<m.nb
 p:p≤m.np
 life:m.life = -1
theorem Gng.lay {m:M} {K Q:Nat→Bool} {b p:Nat} (h:Gng m Q b p) {xs:List (List UInt8)} (hx:∀ x∈xs,x.length=64) (s:LS) (hs:s=layF K ⟨xs,m,Q,b,p,fun _=>false⟩) :
 (∃ ps,LayI m K xs s.m s.S ps s.left)∧Gng s.m s.Q s.b s.p∧Gng s.m s.Q b m.np:=by
 obtain ⟨v,ps,hV⟩:=qol (K:=K) h.wf h.rdy h.b h.p hx;have h1:=qlA (K:=K) (s:=⟨xs,m,Q,b,p,fun _=>false⟩) h.wf h.rdy;have h2:=qld (K:=K) (Q:=Q) (b:=b) (p:=p) (xs:=xs) h.wf h.life;rw [←hs] at hV h1 h2;have hb:=hV.b;have hp:=hV.p;have hnb:=hV.lay.nb;have hnp:=hV.lay.np;refine ⟨⟨ps,hV.lay⟩,⟨h1.2,h1.1,?_,by omega,h2⟩,⟨h1.2,?_,by rw [hnb];exact h.b,by omega,h2⟩⟩
 ·rw [hb,hnb];exact Nat.mod_lt _ (by have:=h.wf.nb1;omega)
 rw [←hnp];exact Rdy.shut _ _ _ h1.1.clean
theorem qjB (S:Nat→Bool):∀ f k,dist S f k≤f
 | 0,k=>by simp [dist]
 | f+1,k=>by
   rw [dist]
   split
   ·have:=qjB S f ((k+1)%4294967296);omega
   omega
theorem nxt_near {S:Nat→Bool} {k:Nat} (h:k+701<4294967296):k≤nxt S k∧nxt S k≤k+700:=by
 have:=qjB S 700 k
 unfold nxt;rw [Nat.mod_eq_of_lt (by omega)];omega
end Go.Proofs.YtodmdkhdbfbfgabGreatDoor.S1
namespace Go.Proofs.YtodmdkhdbfbfgabGreatDoor
open Go.RowKit Go.Nt
def Tki (w:World) (lv:S1.Lv) (m:S1.M):Prop:=∀ g,lv.tk=some g→∃ nt S,S1.LbAt w g nt S∧nt≤100000∧∀ y,y≤4294967295→hasL (S1.scn m) (S1.badN m) y=true→S (S1.badN m) y=true∨(lv.nb=S1.badN m∧y≤lv.nn)
def FsG (u:Bs→Option Bs) (w:World) (fb cb:Nat) (T:Nat→Prop) (sn:Prop) (m0:S1.M) (l:List It) (n:Nat):Prop:=
 ∃ (tb lo hi lb:Nat) (L:S1.Loc) (lv:S1.Lv) (kv qv:Option Nat) (nk nq:Nat) (m:S1.M) (K Q:Nat→Bool) (b p:Nat) (t:Bs),FsM w fb tb lo hi cb lb L lv kv qv nk nq m K Q b p l∧(sn→S1.Snd m K Q b p∧Alike' m0 m)∧(∀ k,FsS fb tb lo hi lb kv qv k→T k)∧(∀ g,lv.tk=some g→T g)∧(∀ k,T k→k<w.heap.size) ∧
  lv.nn=n∧S1.Gng m Q b p∧S1.Cog m lv.nb lv.nn K t∧IsText u (qac l) t∧Tki w lv m
theorem FsG.below {u:Bs→Option Bs} {w w':World} {fb cb:Nat} {T:Nat→Prop} {sn:Prop} {m0:S1.M} {l:List It} {n:Nat} (h:FsG u w fb cb T sn m0 l n) (hb:Below w.heap.size w w'):FsG u w' fb cb T sn m0 l n:=by
 obtain ⟨tb,lo,hi,lb,L,lv,kv,qv,nk,nq,m,K,Q,b,p,t,h1,h2,h3,h4,h5,h6,h7,h8,h9,h10⟩:=h;refine ⟨tb,lo,hi,lb,L,lv,kv,qv,nk,nq,m,K,Q,b,p,t,h1.below hb,h2,h3,h4,fun k hk=>Nat.lt_of_lt_of_le (h5 k hk) hb.size,h6,h7,h8,h9,fun g hg => ?_⟩;obtain ⟨nt,S,a1,a2,a3⟩:=h10 g hg;exact ⟨nt,S,a1.of_block (hb.block g a1.lt),a2,a3⟩
def SG (u:Bs→Option Bs) (w:World) (fb cb:Nat) (T:Nat→Prop) (sn:Prop) (m0:S1.M) (l l':List It) (n:Nat) (E:Int) (e:Ending) (w':World):Prop:=
 ∃ (x:Int) (T':Nat→Prop) (l'':List It) (n':Nat),e=.returned (.int .i64 x)∧FsG u w' fb cb T' sn m0 l'' n'∧n'≤n+701∧(∀ k,T' k→T k∨w.heap.size≤k)∧S1.Fm T w w' ∧
  (E≠0∧x=E∧l''=l∨E=0∧(x=0∧l''=l'∨x=9∧l''=l∧(sn→∃ t,IsText u (qac l') t∧S1.roomP m0<pagesN t.length)))
theorem qjN {u:Bs→Option Bs} {w:World} {fb tb lo hi cb lb:Nat} {L:S1.Loc} {lv:S1.Lv} {kv qv:Option Nat} {nk nq:Nat} {m:S1.M} {K Q:Nat→Bool} {b p:Nat} {l l':List It} {E:Int} {e:Ending} {w':World} {T:Nat→Prop} {sn:Prop} {m0:S1.M} {n:Nat} {t0:Bs} (h:ChgP u w fb tb lo hi cb lb L lv kv qv nk nq m K Q b p l l' E e w') (hM:FsM w fb tb lo hi cb lb L lv kv qv nk nq m K Q b p l) (hs:sn→S1.Snd m K Q b p∧Alike' m0 m) (hT:∀ k,FsS fb tb lo hi lb kv qv k→T k) (hk:∀ g,lv.tk=some g→T g)
 (hn:lv.nn=n) (hn2:n+800<2147483648) (hG:S1.Gng m Q b p) (hC:S1.Cog m lv.nb lv.nn K t0) (hI:IsText u (qac l) t0) (hS:Tki w lv m) (ht:TreeP l) (ht':E=0→TreeP l'):SG u w fb cb T sn m0 l l' n E e w':=by
 obtain ⟨h1,h2⟩:=h;have hF:S1.Fm T w w':=h1.mono fun k _ hk=>hT k hk
 have hlf:m.life≠0:=by rw [hG.life];decide
 have hsub:∀ c,w.heap.size≤c→∀ k,FsS fb c lo hi lb kv qv k∨lv.tk=some k→T k∨w.heap.size≤k:=fun c hc k hk'=>by
  rcases hk' with (h | h | h) | h
  ·exact .inl (hT k (.inl h))
  ·exact .inl (hT k (.inr (.inl h)))
  ·exact .inr (by omega)
  exact .inl (hk k h)
 have hS':Tki w' lv m:=fun g hg=>by
  obtain ⟨nt,S,a1,a2,a3⟩:=hS g hg;obtain ⟨b1,b2,b3,_⟩:=hM.tk g hg;exact ⟨nt,S,a1.of_block (h1.block g a1.lt (fun h=>by rcases h with h | h | h;exact b1 h;exact b2 h;exact b3 h)),a2,a3⟩
 rcases h2 with ⟨x,c,a1,a2,a3,a4⟩ | ⟨a1,a2,a3,a4,a5⟩ | ⟨a1,a2,t,S,a3,a4,a5,a6,h2⟩
 ·refine ⟨x,fun k=>FsS fb c lo hi lb kv qv k∨lv.tk=some k,l,n,a2,⟨c,lo,hi,lb,L,lv,kv,qv,nk,nq,m,K,Q,b,p,t0,a4,hs,fun k hk=>.inl hk,fun g hg=>.inr hg,a4.lt,hn,hG,hC,hI,hS'⟩,by omega,hsub c a3,hF,?_⟩;rcases a1 with ⟨b1,b2⟩ | ⟨_,b2,_⟩ | ⟨b1,_,t,b3,b4,b5⟩
  ·exact .inl ⟨b1,b2,rfl⟩
  ·exact absurd b2 hlf
  refine .inr ⟨b1,.inr ⟨?_,rfl,fun hsn=>⟨t,b3,?_⟩⟩⟩
  ·rw [b5];unfold S1.mayE at b4 ⊢;rw [if_neg hlf] at b4 ⊢
   split
   ·rfl
   rename_i hc;rw [if_neg hc] at b4;exact absurd rfl b4
  unfold S1.mayE at b4;rw [if_neg hlf] at b4;rw [←(hs hsn).2.room];by_cases hc:S1.roomP m<pagesN t.length
  ·exact hc
  rw [if_neg hc] at b4;exact absurd rfl b4
 ·exact ⟨0,fun k=>FsS fb tb lo hi lb kv qv k∨lv.tk=some k,l',n,a4,⟨tb,lo,hi,lb,L,lv,kv,qv,nk,nq,m,K,Q,b,p,t0,a5,hs,fun k hk=>.inl hk,fun g hg=>.inr hg,a5.lt,hn,hG,hC,by rw [qgV ht (ht' a1) a3];exact hI,hS'⟩,by omega,(fun k hk'=>hk'.elim (fun h=>.inl (hT k h)) fun h=>.inl (hk k h)),hF,.inr ⟨a1,.inl ⟨rfl,rfl⟩⟩⟩
 have hroom:pagesN t.length≤S1.roomP m:=by
  unfold S1.mayE at a4;rw [if_neg hlf] at a4;by_cases hc:S1.roomP m<pagesN t.length
  ·rw [if_pos hc] at a4;cases a4
  omega
 have htp:=qed a3;have hpos:0<pagesN t.length:=by unfold pagesN;omega
 have hb32:S1.badN m≤32:=by have:=S1.badN_le m;have:=hG.wf.nb2;omega
 have hfew:pagesN t.length≤256:=Nat.le_trans hroom (S1.roomP_le hG.wf);have hSn:∀ y,y≤4294967295→hasL (S1.scn m) (S1.badN m) y=true→S (S1.badN m) y=true∨(lv.nb=S1.badN m∧y≤lv.nn):=fun y hy hh=>by
  cases hg:lv.tk with
  | none=>rw [a5.1 hg];exact .inl hh
  | some g' =>
    obtain ⟨n1,c1,_⟩:=a5.2 g' hg;obtain ⟨n2,S2,c2,_,c3⟩:=hS g' hg;rw [qjM c1 c2 (by omega) hy];exact c3 y hy hh
 have hnum:lv.nn<S1.numN m lv S∧S1.numN m lv S≤lv.nn+701∧S (S1.badN m) (S1.numN m lv S)=false:=by
  unfold S1.numN;rw [Nat.mod_eq_of_lt (show lv.nn+1<4294967296 by omega)];have x1:=S1.nxt_near (S:=S (S1.badN m)) (k:=lv.nn+1) (by omega);have x2:=nxt_free (a6 (S1.badN m)) (k:=lv.nn+1) (by omega);exact ⟨by omega,by omega,x2.1⟩
 obtain ⟨n1,n2,n3⟩:=hnum;have hnew:hasL (S1.scn m) (S1.badN m) (S1.numN m lv S)=false:=by
  cases hc:hasL (S1.scn m) (S1.badN m) (S1.numN m lv S) with
  | false=>rfl
  | true =>
    rcases hSn _ (by omega) hc with h | h
    ·rw [n3] at h;cases h
    omega
 obtain ⟨⟨ps,hI1⟩,hG1,hG2⟩:=hG.lay (S1.split_len (S1.badN m) (S1.numN m lv S) t) (S1.addS m lv S K Q b p t) rfl;have hsnd:=fun hsn=>(hs hsn).1.lay (S1.split_len (S1.badN m) (S1.numN m lv S) t) (by rw [splitR_length];exact hpos) (by rw [splitR_length];exact hroom) (S1.addS m lv S K Q b p t) rfl
 rcases h2 with ⟨ib,nk',g,a7,a8,a9,a10,a12,a11⟩ | ⟨c,a7,a8,a9,a10⟩
 ·rw [a7] at hI1;have hC1:=hC.yes hG.wf hI1 (by omega) hfew htp hnew (by omega);refine ⟨0,fun k=>FsS fb tb lo hi lb (some ib) qv k∨k=g,l',S1.numN m lv S,a8,⟨tb,lo,hi,lb,L,_,some ib,qv,nk',nq,_,_,_,_,_,t,a11,fun hsn => ?_,fun k hk=>.inl hk,fun g' hg'=>.inr (by cases hg';rfl),fun k hk=>a11.lt k (hk.imp id fun h=>by rw [h]),rfl,hG1,hC1,a3,fun g' hg' => ?_⟩,by omega,fun k hk' => ?_,hF,.inr ⟨a1,.inl ⟨rfl,rfl⟩⟩⟩
  ·obtain ⟨b1,b2,b3,b4,b5⟩:=hsnd hsn;have ha:=(hs hsn).2;exact ⟨b2,b3.trans ha.1,b4.trans ha.2.1,b5.trans ha.2.2⟩
  ·cases hg'
   obtain ⟨nt,c1,c2⟩:=a12;refine ⟨nt,S,c1,c2,fun y hy hh => ?_⟩;obtain ⟨f,hf,e1,e2⟩:=hasL_iff.1 hh;have hle:=hI1.badN_le;have hbd:=S1.lay_bad hI1 (by omega) (by omega) (by omega) hC.bad f hf;have hbe:S1.badN (S1.addS m lv S K Q b p t).m=S1.badN m:=by omega
   rw [hbe] at hh e1 ⊢;rcases hI1.found (by omega) (by omega) (by omega) hf with ⟨k,i,q,_,_,rfl⟩ | h1
   ·exact .inr ⟨rfl,by rw [←e2];exact Nat.le_refl _⟩
   rcases hSn y hy (hasL_iff.2 ⟨f,h1,e1,e2⟩) with h | ⟨_,h⟩
   ·exact .inl h
   exact .inr ⟨rfl,by show y≤S1.numN m lv S;omega⟩
  rcases hk' with ((h | h | h | h) | h | h) | h
  ·exact .inl (hT k (.inl (.inl h)))
  ·exact .inl (hT k (.inl (.inr (.inl h))))
  ·cases h;exact .inr a9
  ·exact .inl (hT k (.inl (.inr (.inr (.inr h)))))
  ·exact .inl (hT k (.inr (.inl h)))
  ·exact .inl (hT k (.inr (.inr h)))
  rcases a10 with h' | h'
  ·exact .inl (by rw [h];exact hk g h')
  exact .inr (by omega)
 have hC1:=hC.no hG.wf hI1 (by omega) (by omega) hnew a7;rw [if_neg (by rw [hG1.life];decide)] at a8;exact ⟨9,fun k=>FsS fb c lo hi lb kv qv k,l,n,a8,⟨c,lo,hi,lb,L,_,kv,qv,nk,nq,_,_,_,_,_,t0,a10,fun hsn=>absurd (hsnd hsn).1 a7,fun k hk=>hk,fun g hg=>(by cases hg),fun k hk=>a10.lt k (.inl hk),hn,hG2,hC1,hI,fun g hg=>(by cases hg)⟩,by omega,fun k hk=>hsub c a9 k (.inl hk),hF,.inr ⟨a1,.inr ⟨rfl,rfl,fun hsn=>absurd (hsnd hsn).1 a7⟩⟩⟩
theorem qmC {u:Bs→Option Bs} (hP:PackC u) (q d:Bs) (w:World) (fb cb:Nat) (T:Nat→Prop) (sn:Prop) (m0:S1.M) (l:List It) (n:Nat) (hn:n+800<2147483648) (h:FsG u w fb cb T sn m0 l n) (ht:TreeP l) (hml:ML w) (h0:¬T 0) (hq:q.length≤1048576) (hd:d.length≤1048576) :
 Calls Tryz.prog 13 #[.pointer (some ⟨fb,0,none⟩),.string (txt q),.string (txt d)] w fun e w'=>SG u w fb cb T sn m0 l (setIt l (putI l q d)) n (putE l q d) e w':=by
 obtain ⟨tb,lo,hi,lb,L,lv,kv,qv,nk,nq,m,K,Q,b,p,t,h1,h2,h3,h4,h5,h6,h7,h8,h9,h10⟩:=h;have hnb:=h7.wf.nb2;have hb:=h7.b;refine (qmo hP q d w fb tb lo hi cb lb L lv kv qv nk nq m K Q b p l h1 ht hml (fun h=>h0 (h3 0 h)) (by omega) h7.p hq hd).mono ?_;exact fun e w' hpost=>qjN hpost h1 h2 h3 h4 h6 hn h7 h8 h9 h10 ht ht.put
theorem qgO {u:Bs→Option Bs} (hP:PackC u) (q:Bs) (w:World) (fb cb:Nat) (T:Nat→Prop) (sn:Prop) (m0:S1.M) (l:List It) (n:Nat) (hn:n+800<2147483648) (h:FsG u w fb cb T sn m0 l n) (ht:TreeP l) (hml:ML w) (h0:¬T 0) (hq:q.length≤1048576) :
 Calls Tryz.prog 15 #[.pointer (some ⟨fb,0,none⟩),.string (txt q)] w fun e w'=>SG u w fb cb T sn m0 l (l.filter fun y=>decide (y.path≠q)) n (removeE l q) e w':=by
 obtain ⟨tb,lo,hi,lb,L,lv,kv,qv,nk,nq,m,K,Q,b,p,t,h1,h2,h3,h4,h5,h6,h7,h8,h9,h10⟩:=h;have hnb:=h7.wf.nb2;have hb:=h7.b;refine (qgr hP q w fb tb lo hi cb lb L lv kv qv nk nq m K Q b p l h1 ht hml (fun h=>h0 (h3 0 h)) (by omega) h7.p hq).mono ?_;exact fun e w' hpost=>qjN hpost h1 h2 h3 h4 h6 hn h7 h8 h9 h10 ht ht.remove
theorem qnd {w:World} {g n:Nat} {S:Nat→Bool} (h:S1.BlAt w g n S):∃ es c,w.heap[g]? = some (.map es c):=by
 obtain ⟨D,⟨es,c,hb,_⟩,_⟩:=h;exact ⟨es,c,hb⟩
theorem qhr {w:World} {g:Nat} {l:List It} (h:TreeAt w g l):∃ es c,w.heap[g]? = some (.map es c):=by
 obtain ⟨D,⟨es,c,hb,_⟩,_⟩:=h;exact ⟨es,c,hb⟩
theorem qht {w:World} {g k:Nat} (h:∃ es c,w.heap[g]? = some (.map es c)) {x:Array Value} {t:TypeId} {f:Nat × Nat} (hk:w.heap[k]? = some (.cells x t f)):g≠k:=by
 rintro rfl;obtain ⟨es,c,hb⟩:=h;rw [hb] at hk;cases hk
theorem qom {w:World} {fb cb lb tb cb' lb':Nat} {lv:S1.Lv} {kv qv:Option Nat} {b p:Nat} (h:FsAt w fb cb lb tb) (hl:S1.LogAt w lb' cb' lv kv qv b p):fb≠lb':=by
 rintro rfl;have h1:=h.symm.trans hl
 injection h1 with h1
 injection h1 with _ h2
 exact absurd h2 (by decide)
end Go.Proofs.YtodmdkhdbfbfgabGreatDoor
namespace Go.Proofs.YtodmdkhdbfbfgabGreatDoor.S1
open Go.RowKit Pk
def badL (z:Nat→Int) (n:Nat) (i:Nat):Bool:=(List.range n).any fun j=>z j==(i:Int)
def mkM (blocks pages:Int) (n:Nat) (z:Nat→Int):M:=⟨(bnd blocks 4 32).toNat,(bnd pages 4 16).toNat,fun _ _=>[],fun _=>0,badL z n,-1,0,-1,0⟩
theorem mkM_wf (blocks pages:Int) (n:Nat) (z:Nat→Int):WF (mkM blocks pages n z):=by
 have h1:=bnd_le blocks 4 32 (by omega);have h2:=bnd_le pages 4 16 (by omega);refine ⟨?_,?_,?_,?_,fun i _=>Nat.zero_le _,fun i p _ _=>Nat.zero_le _,?_,?_,?_,?_,?_,?_,?_,?_⟩<;>(simp only [mkM];omega)
theorem qdd (z:Nat→Int) (k:Nat):badL z (k+1)=fun i=>badL z k i||(z k==(i:Int)):=by
 funext i
 unfold badL;rw [List.range_succ,List.any_append];simp
theorem qgc {α:Type} (n:Nat) (x:α):(List.range n).map (fun _=>x)++[x]=(List.range (n+1)).map fun _=>x:=by
 rw [List.range_succ,List.map_append];rfl
theorem madeNp (np:Nat) (h:np≤16):∃ M:Array Value,(∀ W:World,(Instr.makeSlice 61 (.int .i64 (np:Nat)) (.int .i64 (np:Nat))).run Tryz.prog W=.ok (.slice (some ⟨W.heap.size,0,none⟩) np np) (W.alloc (.cells M 9)))∧∀ W:World,(W.alloc (.cells M 9)).rowIs W.heap.size 9 np (fun _=>.string ⟨#[]⟩):=
 ⟨madeCells #[Value.string ⟨#[]⟩] np,fun W=>run_make_row' (P:=Tryz.prog) 61 9 (.string ⟨#[]⟩) 16 Tryz.underlying61 Tryz.info9 rfl .i64 .i64 np (by omega) (by omega) W,fun W=>World.rowIs_made W (.string ⟨#[]⟩) np 9⟩
theorem qdB {B:Nat} {a w:World} (h:Below B a w) (q:Nat):Below B a (w.drewN q):=⟨h.os,h.tape,h.output,h.size,h.block⟩
theorem MemX.bdc {w:World} {lo hi cb:Nat} {T:TypeId} {L:Loc} {m:M} {enc:List UInt8→List UInt8} {g4 g5 g6 g7:Int} (h:MemX w lo hi cb T L m enc g4 g5 g6 g7) (bd:Nat→Bool) (e:∀ i,i<m.nb→m.bd i=bd i):MemX w lo hi cb T L { m with bd:=bd } enc g4 g5 g6 g7:=
 ⟨h.hcb,h.hdb,h.hnk,h.hbk,h.hrw,h.inj,h.hT,h.st,h.data,h.next,h.bad.congr (fun i hi=>by rw [e i hi]),h.page⟩
theorem qf3 (w:World) (p:Addr) (x v:Value) (t:TypeId):∀ j u,[v][j]? = some u→((w.setCell p x).alloc (.cells #[v] t)).cell? ((⟨w.heap.size,0,none⟩:Addr).add j)=some u:=by
 have:=cell_one_new (w.setCell p x) v t
 simpa using this
theorem cell_two_new (w:World) (o:Obj) (v:Value) (t:TypeId):∀ j u,[v][j]? = some u→((w.alloc o).alloc (.cells #[v] t)).cell? ((⟨w.heap.size+1,0,none⟩:Addr).add j)=some u:=by
 have:=cell_one_new (w.alloc o) v t
 simpa using this
theorem new_any (w:World) (blocks pages:Int) (a:Option Addr) (n cap:Nat) (z:Nat→Int) (hn:n≤17592186043904) (hin:IntsIn w a n z) :
 Calls Tryz.prog 7 #[.int .i64 blocks,.int .i64 pages,.slice a n cap] w fun e w'=>∃ L hi,e=.returned (.pointer (some ⟨w.heap.size,0,none⟩))∧hi≤w'.heap.size∧CP w' w.heap.size hi w.heap.size L (mkM blocks pages n z)∧Below w.heap.size w w':=by
 have Hbl:=hidI (fun w=>qdn blocks 4 32 (by omega) w);have Hpg:=hidI (fun w=>qdn pages 4 16 (by omega) w);have hb1:=bnd_le blocks 4 32 (by omega);have hb2:=bnd_le pages 4 16 (by omega);obtain ⟨nb,hnb⟩:∃ nb:Nat,bnd blocks 4 32=(nb:Int):=Int.eq_ofNat_of_zero_le (by omega);obtain ⟨np,hnp⟩:∃ np:Nat,bnd pages 4 16=(np:Int):=Int.eq_ofNat_of_zero_le (by omega);have HM:Hid (mkM blocks pages n z=⟨nb,np,fun _ _=>[],fun _=>0,badL z n,-1,0,-1,0⟩):=by
  show mkM blocks pages n z=_;unfold mkM;rw [hnb,hnp];rfl
 rw [hnb] at Hbl hb1;rw [hnp] at Hpg hb2;have hnb1:4≤nb:=by omega
 have hnb2:nb≤32:=by omega
 have hnp1:4≤np:=by omega
 have hnp2:np≤16:=by omega
 clear hnb hnp hb1 hb2;obtain ⟨MC,hmk,hMC⟩:=madeNp np hnp2;have HMC:=hidI hMC;clear hMC;have Hin:=hidI hin;clear hin;go_enter Tryz.func7,Tryz.ntmps7
 go_wp2_with (first | (go_at_call 27;refine (Hpg.out _).mono ?_;rintro e w1 ⟨rfl,h1⟩;subst h1));have Hst0:=hidI (heap_alloc_new w1 (Obj.cells #[.int .i64 (np:Nat),.slice none 0 0,.slice none 0 0,.slice none 0 0,.int .i64 (-1),.int .i64 0,.int .i64 (-1),.int .i64 0] 60));have Hb0:=hidI ((Below.refl w1.heap.size w1).alloc (Nat.le_refl _) (Obj.cells #[.int .i64 (np:Nat),.slice none 0 0,.slice none 0 0,.slice none 0 0,.int .i64 (-1),.int .i64 0,.int .i64 (-1),.int .i64 0] 60));obtain ⟨i0,hi0,hz0,hz1,hz2⟩:=info_parts Tryz.info23;obtain ⟨k0,ki,kz0,kz1,kz2⟩:=info_parts Tryz.info3;obtain ⟨l0,li,lz0,lz1,lz2⟩:=info_parts Tryz.info4;obtain ⟨G,hGe⟩:∃ G,G=w1.heap.size:=⟨_,rfl⟩;have Hin:Hid (∀ W,Below G w1 W→IntsIn W a n z):=fun W hb=>Hin.out.below (hGe ▸ hb)
 rw [←hGe] at Hst0 Hb0 ⊢;have HGe:=hidI hGe;clear hGe
 go_loopw [8] (fun x wr=>∃ k:Nat,k≤nb∧x=.int .i64 k∧∃ da dc na nc ba bc rw cr,wr.heap[G]? = some (.cells #[.int .i64 (np:Nat),.slice da k dc,.slice na k nc,.slice ba k bc,.int .i64 (-1),.int .i64 0,.int .i64 (-1),.int .i64 0] 60 (0,0))∧Data wr G (.slice da k dc) k np rw cr (fun _ _=>[])∧wr.ownsRow G 3 1 (.slice na k nc) k ((List.range k).map fun _=>.int .i64 0)∧wr.ownsRow G 4 1 (.slice ba k bc) k ((List.range k).map fun _=>.bool false)∧Below G w1 wr) (fun x _=>nb - (intOf x).toNat)
 case atStart=>exact ⟨0,by omega,rfl,none,0,none,0,none,0,fun _=>0,fun _=>0,Hst0.out,Data.nil _ _ _ _ _ _,World.ownsRow_nil _ _ _ _,World.ownsRow_nil _ _ _ _,Hb0.out⟩
 case round =>
  clear Hst0 Hb0;obtain ⟨k,hk,rfl,da,dc,na,nc,ba,bc,rw,cr,hst,hdat,hnx,hbd,hbel⟩:=hrel;have hGr:G<wr.heap.size:=lt_of_heap hst;by_cases hlt:k<nb
  ·have x0:wr.cell? ⟨G,0,none⟩=some (.int .i64 (np:Nat)):=by rw [cell_of_row wr G 0 _ 60 (0,0) hst];rfl
   have x1:wr.cell? ⟨G,1,none⟩=some (.slice da k dc):=by rw [cell_of_row wr G 1 _ 60 (0,0) hst];rfl
   have x1a:∀ o,(wr.drew.alloc o).cell? ⟨G,1,none⟩=some (.slice da k dc):=fun o=>(World.cell?_of_block (w:=wr) (Below.heap_alloc wr.drew o G hGr)).trans x1
   have x1b:∀ o o',((wr.drew.alloc o).alloc o').cell? ⟨G,1,none⟩=some (.slice da k dc):=fun o o'=>(World.cell?_of_block (w:=wr.drew.alloc o) (Below.heap_alloc (wr.drew.alloc o) o' G (by simp;omega))).trans (x1a o)
   have Hst:=hidI hst;have Hdat:=hidI hdat;have Hnx:=hidI hnx;have Hbd:=hidI hbd;have Hbel:=hidI hbel;clear hst hdat hnx hbd hbel;go_wp2_with (first | (go_at_call 27;refine (Hbl.out _).mono ?_;rintro e w2 ⟨rfl,h2⟩;subst h2));go_region_law (first
    | (refine step_append_lies _ (by rfl) _ _ _ (by rfl) G 61 i0 _ 1 24 Tryz.underlying57 hi0 hz0 hz1 hz2 rfl (by omega) (.slice da k dc) k _ (by rfl) ((Hdat.out.own.drew.alloc _).alloc _) ⟨w2.heap.size+1,0,none⟩ 1 1 [.slice (some ⟨w2.heap.size,0,none⟩) np np] (by rfl) rfl (cell_two_new w2.drew (.cells MC 9) (.slice (some ⟨w2.heap.size,0,none⟩) np np) 61) (by intro u hu;simp at hu;subst hu;rfl) (by omega) (by unfold maxLen;omega) (by omega) (by simp;omega) (w2.heap.size+2) (by simp) ?_;intro g2 cap2 w3 hown2 hgrow2 hat2 hlt2;have K2:∀ t,t≠61→Keeps t (w2.drew.alloc (.cells MC 9)) w3:=(fun t ht=>((Keeps.refl t _).alloc _).grown ((Hdat.out.own.drew.alloc _).alloc _) (fun e=>ht e.symm) hgrow2);have hst2:=(((Keeps.refl 60 w2).drew.alloc (.cells MC 9)).trans (K2 60 (by decide))).block Hst.out;have y1:w3.cell? ⟨G,1,none⟩=some (.slice da k dc):=(by rw [cell_of_row w3 G 1 _ 60 (0,0) hst2];rfl);have yf:=frozen_of_row w3 G 1 _ 60 hst2;have Hbel3:Hid (Below G w1 w3):=((Hbel.out.drew.alloc (Nat.le_of_lt hGr) _).alloc (by simp;omega) _).grown hgrow2 (by simp;omega) (fun q hq=>(Hdat.out.own.lt q hq).1);have HK2:=hidI K2;have Hst2:=hidI hst2;have Hown2:=hidI hown2;clear hown2 hgrow2 hat2 K2 hst2))
   all_goals have hKa:∀ t,t≠61→Keeps t w2 w3:=(fun t ht=>((Keeps.refl t w2).drew.alloc (.cells MC 9)).trans (HK2.out t ht))
   all_goals have hst3:=heap_setCell_same w3 G 1 _ 60 (.slice (some ⟨g2,0,none⟩) (k+1) cap2) Hst2.out
   all_goals have hrow3:Rw (w3.setCell ⟨G,1,none⟩ (.slice (some ⟨g2,0,none⟩) (k+1) cap2)) w2.heap.size 9 np (fun p=>.string (txt ((fun _=>[]:Nat→List UInt8) p))):=((HK2.out 9 (by decide)).set (o:=1) (v:=.slice (some ⟨g2,0,none⟩) (k+1) cap2) Hst2.out (by decide)).rw (rowIs_rw (HMC.out w2.drew))
   all_goals have hdat3:=Hdat.out.push ((hKa 9 (by decide)).set (o:=1) (v:=.slice (some ⟨g2,0,none⟩) (k+1) cap2) Hst2.out (by decide)) (r:=w2.heap.size) (c:=np) (f:=fun _=>[]) (Nat.le_of_lt hGr) (Nat.le_refl _) hrow3 (((Keeps.refl 61 w3).set (o:=1) (v:=.slice (some ⟨g2,0,none⟩) (k+1) cap2) Hst2.out (by decide)).own Hown2.out)
   all_goals have hpe:put (fun (_:Nat) (_:Nat)=>([]:List UInt8)) k (fun _=>[])=fun _ _=>[]:=(by
    funext x y
    unfold put
    split<;>rfl)
   all_goals rw [hpe] at hdat3
   all_goals have hnx3:=((hKa 3 (by decide)).set (o:=1) (v:=.slice (some ⟨g2,0,none⟩) (k+1) cap2) Hst2.out (by decide)).own Hnx.out
   all_goals have hbd3:=((hKa 4 (by decide)).set (o:=1) (v:=.slice (some ⟨g2,0,none⟩) (k+1) cap2) Hst2.out (by decide)).own Hbd.out
   all_goals have hbel3:=Hbel3.out.setCell (p:=⟨G,1,none⟩) (Nat.le_refl _) (.slice (some ⟨g2,0,none⟩) (k+1) cap2)
   all_goals generalize w3.setCell ⟨G,1,none⟩ (.slice (some ⟨g2,0,none⟩) (k+1) cap2)=wa at *
   all_goals clear hrow3 hpe hKa Hst2 HK2 Hown2 y1 yf Hbel3 x0 x1 x1a x1b Hst Hdat Hnx Hbd Hbel
   all_goals have hGa:G<wa.heap.size:=lt_of_heap hst3
   all_goals have x2:wa.cell? ⟨G,2,none⟩=some (.slice na k nc):=(by rw [cell_of_row wa G 2 _ 60 (0,0) hst3];rfl)
   all_goals have Hst3:=hidI hst3
   all_goals have Hdat3:=hidI hdat3
   all_goals have Hbd3:=hidI hbd3
   all_goals have Hbel3:=hidI hbel3
   all_goals clear hst3 hdat3 hbd3 hbel3
   all_goals go_wp2_with (at_builtin;refine wpList_append_lies _ rfl (.tmp 38) (.tmp 39) 22 rfl G 3 k0 (.int .i64 0) 1 8 Tryz.underlying22 ki kz0 kz1 kz2 rfl (by decide) (.slice na k nc) k _ rfl (hnx3.alloc _) ⟨wa.heap.size,0,none⟩ 1 1 [.int .i64 0] rfl rfl (cell_one_new _ _ _) (by intro u hu;simp at hu;subst hu;rfl) (by omega) (by unfold maxLen;omega) (by omega) (by simp;omega) (wa.heap.size+1) (by simp) ?_)
   all_goals intro g4 cap4 w4 hown4 hgrow4 hat4 hlt4
   all_goals have K4:∀ t,t≠3→Keeps t wa w4:=(fun t ht=>((Keeps.refl t wa).alloc _).grown (hnx3.alloc _) (fun e=>ht e.symm) hgrow4)
   all_goals have hst4:=(K4 60 (by decide)).block Hst3.out
   all_goals have y2:w4.cell? ⟨G,2,none⟩=some (.slice na k nc):=(by rw [cell_of_row w4 G 2 _ 60 (0,0) hst4];rfl)
   all_goals have yf2:=frozen_of_row w4 G 2 _ 60 hst4
   all_goals have hst5:=heap_setCell_same w4 G 2 _ 60 (.slice (some ⟨g4,0,none⟩) (k+1) cap4) hst4
   all_goals rw [qgc] at hown4
   all_goals have hnx5:=((Keeps.refl 3 w4).set (o:=2) (v:=.slice (some ⟨g4,0,none⟩) (k+1) cap4) hst4 (by decide)).own hown4
   all_goals have hdat5:=Hdat3.out.keep ((K4 9 (by decide)).set (o:=2) (v:=.slice (some ⟨g4,0,none⟩) (k+1) cap4) hst4 (by decide)) ((K4 61 (by decide)).set (o:=2) (v:=.slice (some ⟨g4,0,none⟩) (k+1) cap4) hst4 (by decide))
   all_goals have hbd5:=((K4 4 (by decide)).set (o:=2) (v:=.slice (some ⟨g4,0,none⟩) (k+1) cap4) hst4 (by decide)).own Hbd3.out
   all_goals have hbel5:Below G w1 (w4.setCell ⟨G,2,none⟩ (.slice (some ⟨g4,0,none⟩) (k+1) cap4)):=((Hbel3.out.alloc (Nat.le_of_lt hGa) _).grown hgrow4 (by simp;omega) (fun q hq=>(hnx3.lt q hq).1)).setCell (Nat.le_refl _) _
   all_goals have hG4:G<w4.heap.size:=lt_of_heap hst4
   all_goals have x3:(w4.setCell ⟨G,2,none⟩ (.slice (some ⟨g4,0,none⟩) (k+1) cap4)).cell? ⟨G,3,none⟩=some (.slice ba k bc):=(by rw [cell_of_row _ G 3 _ 60 (0,0) hst5];rfl)
   all_goals have Hst5:=hidI hst5
   all_goals have Hdat5:=hidI hdat5
   all_goals have Hnx5:=hidI hnx5
   all_goals have Hbel5:=hidI hbel5
   all_goals clear hst4 hst5 hdat5 hnx5 hbel5 hown4 hgrow4 hat4 K4 Hst3 Hdat3 Hbd3 Hbel3 hnx3 x2
   all_goals go_wp2_with (at_builtin;refine wpList_append_lies _ rfl (.tmp 47) (.tmp 48) 58 rfl G 4 l0 (.bool false) 1 1 Tryz.underlying58 li lz0 lz1 lz2 rfl (by decide) (.slice ba k bc) k _ rfl (hbd5.alloc _) ⟨w4.heap.size,0,none⟩ 1 1 [.bool false] rfl rfl (qf3 _ _ _ _ _) (by intro u hu;simp at hu;subst hu;rfl) (by omega) (by unfold maxLen;omega) (by omega) (by simp;omega) (w4.heap.size+1) (by simp) ?_)
   all_goals intro g6 cap6 w6 hown6 hgrow6 hat6 hlt6
   all_goals have K6:∀ t,t≠4→Keeps t (w4.setCell ⟨G,2,none⟩ (.slice (some ⟨g4,0,none⟩) (k+1) cap4)) w6:=(fun t ht=>((Keeps.refl t _).alloc _).grown (hbd5.alloc _) (fun e=>ht e.symm) hgrow6)
   all_goals have hst6:=(K6 60 (by decide)).block Hst5.out
   all_goals have y3:w6.cell? ⟨G,3,none⟩=some (.slice ba k bc):=(by rw [cell_of_row w6 G 3 _ 60 (0,0) hst6];rfl)
   all_goals have yf3:=frozen_of_row w6 G 3 _ 60 hst6
   all_goals rw [qgc] at hown6
   all_goals have Hst7:=hidI (heap_setCell_same w6 G 3 _ 60 (.slice (some ⟨g6,0,none⟩) (k+1) cap6) hst6)
   all_goals have Hbd7:=hidI (((Keeps.refl 4 w6).set (o:=3) (v:=.slice (some ⟨g6,0,none⟩) (k+1) cap6) hst6 (by decide)).own hown6)
   all_goals have Hnx7:=hidI (((K6 3 (by decide)).set (o:=3) (v:=.slice (some ⟨g6,0,none⟩) (k+1) cap6) hst6 (by decide)).own Hnx5.out)
   all_goals have Hdat7:=hidI (Hdat5.out.keep ((K6 9 (by decide)).set (o:=3) (v:=.slice (some ⟨g6,0,none⟩) (k+1) cap6) hst6 (by decide)) ((K6 61 (by decide)).set (o:=3) (v:=.slice (some ⟨g6,0,none⟩) (k+1) cap6) hst6 (by decide)))
   all_goals have Hbel7:Hid (Below G w1 (w6.setCell ⟨G,3,none⟩ (.slice (some ⟨g6,0,none⟩) (k+1) cap6))):=((Hbel5.out.alloc (by simp;omega) _).grown hgrow6 (by simp;omega) (fun q hq=>(hbd5.lt q hq).1)).setCell (Nat.le_refl _) _
   all_goals clear hst6 hown6 hgrow6 hat6 K6 Hst5 Hdat5 Hnx5 Hbel5 hbd5 x3 y2 yf2
   all_goals go_wp2
   all_goals (go_roundw;(case rel=>exact ⟨k+1,by omega,by go_num,some ⟨_,0,none⟩,cap2,some ⟨_,0,none⟩,cap4,some ⟨_,0,none⟩,cap6,_,_,Hst7.out,Hdat7.out,Hnx7.out,Hbd7.out,Hbel7.out⟩);(case measure=>simp [intOf];omega))
  have hke:nb=k:=by omega
  subst hke;obtain ⟨L,hL⟩:=MemX.built (T:=60) (enc:=id) (m:=⟨nb,np,fun _ _=>[],fun _=>0,badL z 0,-1,0,-1,0⟩) (g4:=-1) (g5:=0) (g6:=-1) (g7:=0) (by show 0<nb;omega) (by decide) (Nat.le_refl G) hst hdat (fun i p _ _=>rfl) hnx hbd;obtain ⟨H,hH⟩:∃ H,H=wr.heap.size:=⟨_,rfl⟩;rw [←hH] at hL;have Hle:Hid (H≤wr.heap.size):=Nat.le_of_eq hH;have HL:=hidI hL;have Hbel:=hidI hbel;clear hst hdat hnx hbd hbel hL hH hGr;go_wp2_with (first | (go_at_call 27;refine (Hbl.out _).mono ?_;rintro e w2 ⟨rfl,h2⟩;subst h2))
  go_loopw [9] (fun x wr=>∃ k:Nat,k≤n∧x=.int .i64 k∧CP wr G H G L ⟨nb,np,fun _ _=>[],fun _=>0,badL z k,-1,0,-1,0⟩∧Below G w1 wr∧H≤wr.heap.size) (fun x _=>n - (intOf x).toNat)
  case atStart=>exact ⟨0,by omega,rfl,HL.out,Hbel.out,Hle.out⟩
  clear HL Hbel Hle;obtain ⟨k,hk,rfl,hm,hbel,hle⟩:=hrel;have c1:=MemX.c1 hm;have c3:=MemX.c3 hm;have Hle:=hidI hle;have Hbel:=hidI hbel;have Hm:=hidI hm;simp only [] at c1 c3;by_cases hlt:k<n
  ·obtain ⟨b,off,rfl,hc⟩:=Hin.out _ hbel (by omega);have hck:=hc k hlt;clear hc hm hbel hle;by_cases h0:z k<0
   ·have hd:decide (0≤z k)=false:=by simp;omega
    have Hm2:Hid (CP wr G H G L ⟨nb,np,fun _ _=>[],fun _=>0,badL z (k+1),-1,0,-1,0⟩):=(Hm.out.bdc (badL z (k+1)) (fun i _=>by rw [qdd];show _=(badL z k i||(z k==(i:Int)));rw [show (z k==(i:Int))=false by simp;omega,Bool.or_false]));go_wp2_with fail
    go_quiet (fail)
    go_wp2;go_roundw
    case rel=>exact ⟨k+1,by omega,by go_num,MemX.drewN Hm2.out _,qdB Hbel.out _,Hle.out⟩
    case measure=>simp [intOf];omega
   have hd:decide (0≤z k)=true:=by simp;omega
   obtain ⟨i,hzi⟩:∃ i:Nat,z k=(i:Int):=Int.eq_ofNat_of_zero_le (by omega);have Hzi:=hidI hzi;rw [hzi] at hck;by_cases h1:i<nb
   ·have hd1:decide ((i:Int)<(nb:Int))=true:=by simp;omega
    have hf:=Hm.out.bad.frozen i;have hcb:=Hm.out.bad.cell h1;have Hm2:Hid (∀ q,CP ((wr.drewN q).setCell ⟨L.bk,i,none⟩ (.bool true)) G H G L ⟨nb,np,fun _ _=>[],fun _=>0,badL z (k+1),-1,0,-1,0⟩):=fun q=>((MemX.setBd (MemX.drewN Hm.out q) i true).bdc (badL z (k+1)) (fun a _=>by
     rw [qdd];show (if a=i then true else badL z k a)=(badL z k a||(z k==(a:Int)));rw [Hzi.out];by_cases e:a=i
     ·rw [if_pos e,e];simp
     rw [if_neg e,show ((i:Int)==(a:Int))=false by simp;omega,Bool.or_false]))
    have Hbel2:Hid (∀ q,Below G w1 ((wr.drewN q).setCell ⟨L.bk,i,none⟩ (.bool true))):=fun q=>(qdB Hbel.out q).setCell (p:=⟨L.bk,i,none⟩) Hm.out.hbk.1 (.bool true)
    clear h0 hd hzi;go_wp2_with fail
    go_quiet (fail)
    go_wp2_with fail;go_region;go_wp2;go_roundw
    case rel=>exact ⟨k+1,by omega,by go_num,Hm2.out _,Hbel2.out _,by simpa using Hle.out⟩
    case measure=>simp [intOf];omega
   have hd1:decide ((i:Int)<(nb:Int))=false:=by simp;omega
   have Hm2:Hid (CP wr G H G L ⟨nb,np,fun _ _=>[],fun _=>0,badL z (k+1),-1,0,-1,0⟩):=(Hm.out.bdc (badL z (k+1)) (fun a ha=>by rw [qdd];show _=(badL z k a||(z k==(a:Int)));have:a<nb:=ha;rw [Hzi.out,show ((i:Int)==(a:Int))=false by simp;omega,Bool.or_false]));clear h0 hd hzi;go_wp2_with fail
   go_quiet (fail)
   go_wp2;go_roundw
   case rel=>exact ⟨k+1,by omega,by go_num,MemX.drewN Hm2.out _,qdB Hbel.out _,Hle.out⟩
   case measure=>simp [intOf];omega
  have hke:n=k:=by omega
  subst hke;clear hm hbel hle;go_wp2;go_ret
  refine ⟨L,H,by rw [←HGe.out];rfl,Hle.out,?_,?_⟩
  ·rw [HM.out,←HGe.out];exact Hm.out
  rw [←HGe.out];exact Hbel.out
end Go.Proofs.YtodmdkhdbfbfgabGreatDoor.S1
namespace Go.Proofs.YtodmdkhdbfbfgabGreatDoor
open Go.RowKit Go.Nt
theorem qmm (b p:Int) (z:Nat→Int):S1.New (S1.mkM b p 0 z):=⟨S1.mkM_wf b p 0 z,rfl,by show (-1:Int)<0;decide,fun _ _=>rfl,fun _=>rfl⟩
theorem qmt (b p:Int) (z:Nat→Int):S1.roomP (S1.mkM b p 0 z)=(S1.mkM b p 0 z).nb/2*(S1.mkM b p 0 z).np:=by
 have h:S1.badN (S1.mkM b p 0 z)=0:=by
  unfold S1.badN;rw [List.countP_eq_zero];intro i _;show ¬S1.badL z 0 i=true;simp [S1.badL]
 unfold S1.roomP S1.good;rw [h,Nat.sub_zero]
theorem qbW {w:World} {T:Nat→Prop} {v:Value} {l:List It} (h:RowK w T v l):∃ a c,v=.slice a l.length c∧ItsIn w a l:=qa9 h.1
end Go.Proofs.YtodmdkhdbfbfgabGreatDoor
