/- Lemmas and contracts for full. -/
import Derived.Deep.RegionLaw
import Derived.Test.YtodmdkhdbfbfgabGreatDoorM23
import Derived.Test.YtodmdkhdbfbfgabGreatDoorM20
import Derived.Test.YtodmdkhdbfbfgabGreatDoorM35
import Derived.Test.YtodmdkhdbfbfgabGreatDoorM24
import Derived.Test.YtodmdkhdbfbfgabGreatDoorM16
import Derived.Test.YtodmdkhdbfbfgabGreatDoorM27
import Derived.Test.YtodmdkhdbfbfgabGreatDoorM30
import Derived.Test.YtodmdkhdbfbfgabGreatDoorM01
import Derived.Test.YtodmdkhdbfbfgabGreatDoorM22
set_option maxRecDepth 100000
set_option maxHeartbeats 8000000
namespace Go.Proofs.YtodmdkhdbfbfgabGreatDoor
open Go.RowKit Go.Nt
set_option linter.unusedVariables false
theorem Turn.own {rb:Nat} {a b:World} (h:Turn rb a b) {x:Array Value} {T:TypeId} {f:Nat × Nat} (hrb:a.heap[rb]? = some (.cells x T f)) {base e s n:Nat} {v:Value} {xs:List Value} (ho:a.ownsRow base e s v n xs) (hne:e≠T):b.ownsRow base e s v n xs:=by
 refine ⟨ho.1,?_⟩
 rcases ho.2 with ⟨rfl,h0⟩ | ⟨g,cap,cur,rfl,h1,hh,h2⟩
 ·exact .inl ⟨rfl,h0⟩
 ·refine .inr ⟨g,cap,cur,rfl,h1,(h.block g (lt_of_heap hh) (fun e' => ?_)).trans hh,h2⟩
  subst e'
  rw [hrb] at hh
  cases hh
  exact hne rfl
theorem RdAt.grown {w w':World} {rb:Nat} {r:Rd} (h:RdAt w rb r) {base n s:Nat} {v:Value} {xs:List Value} (hown:w.ownsRow base 53 s v n xs) (hg:w.grownBy w' v.ownBlock):RdAt w' rb r:=
 ((But.refl 53 w).grown hown hg).cells h (by decide)
theorem nmb_len (k:Nat) (r:Rd):(nmb k r).2.1.length≤r.1.length:=(tk_len k r).2
theorem rdItem_len (u:Bs→Option Bs) (r:Rd):(rdItem u r).2.1.length≤r.1.length:=by
 unfold rdItem
 simp only
 have h1:=nmb_len 2 r
 have h2:=nmb_len 4 (nmb 2 r).2
 have h3:=nmb_len 1 (nmb 4 (nmb 2 r).2).2
 have h4:=(tk_len (nmb 1 (nmb 4 (nmb 2 r).2).2).1 (nmb 1 (nmb 4 (nmb 2 r).2).2).2).2
 by_cases hk:32768≤(nmb 2 r).1
 ·rw [if_pos hk];simp only;omega
 ·rw [if_neg hk]
  have h5:=nmb_len 2 (Go.Nt.tk (nmb 1 (nmb 4 (nmb 2 r).2).2).1 (nmb 1 (nmb 4 (nmb 2 r).2).2).2).2
  have h6:=(tk_len (nmb 2 (Go.Nt.tk (nmb 1 (nmb 4 (nmb 2 r).2).2).1 (nmb 1 (nmb 4 (nmb 2 r).2).2).2).2).1 (nmb 2 (Go.Nt.tk (nmb 1 (nmb 4 (nmb 2 r).2).2).1 (nmb 1 (nmb 4 (nmb 2 r).2).2).2).2).2).2
  simp only
  omega
theorem rdItem_fit {u:Bs→Option Bs} (hu:∀ t d:Bs,u t=some d→d.length≤4000) (r:Rd):(rdItem u r).1.path.length≤255∧(rdItem u r).1.data.length≤4000:=by
 unfold rdItem
 simp only
 have hp:(Go.Nt.tk (nmb 1 (nmb 4 (nmb 2 r).2).2).1 (nmb 1 (nmb 4 (nmb 2 r).2).2).2).1.length≤255:=by
  have h1:=(tk_len (nmb 1 (nmb 4 (nmb 2 r).2).2).1 (nmb 1 (nmb 4 (nmb 2 r).2).2).2).1
  have h2:=nmb_lt 1 (nmb 4 (nmb 2 r).2).2
  omega
 by_cases hk:32768≤(nmb 2 r).1
 ·rw [if_pos hk];exact ⟨hp,by simp⟩
 ·rw [if_neg hk]
  refine ⟨hp,?_⟩
  simp only
  cases h:u _ with
  | none=>simp
  | some d=>simpa using hu _ d h
def FromP (u:Bs→Option Bs) (t:Bs) (w:World) (e:Ending) (w':World):Prop:=
 Below w.heap.size w w' ∧
  ((e=.returned (.tuple #[.map none,.bool false])∧∀ l,parse u t=some l→isTree l=false) ∨
  ∃ l b,parse u t=some l∧isTree l=true∧e=.returned (.tuple #[.map (some b),.bool true])∧w.heap.size≤b∧TreeAt w' b l)
theorem fromText_any {u:Bs→Option Bs} (hP:PackC u) (t:Bs) (w:World) (hml:ML w) (ht:t.length≤1000000) :
 Calls Tryz.prog 35 #[.string (txt t)] w fun e w'=>FromP u t w e w':=by
 obtain ⟨i0,hi,hz0,hz1,hz2⟩:=info_parts Tryz.info24
 have hml0:=hml.lt
 have Hml:=hidI hml
 obtain ⟨W0,hW0⟩:∃ W0,W0=w.alloc (.cells #[.string (txt t),.bool true] 121):=⟨_,rfl⟩
 have h0:RdAt W0 w.heap.size (t,true):=by rw [hW0];exact heap_alloc_new _ _
 have hB0:Below w.heap.size w W0:=by rw [hW0];exact (Below.refl _ w).alloc (Nat.le_refl _) _
 have hs0:W0.heap.size=w.heap.size+1:=by rw [hW0];simp
 have A1:=hidI (number_any w.heap.size (t,true) 1 W0 h0 (by decide) ht)
 obtain ⟨nr,hn⟩:∃ nr,nr=nmb 1 (t,true):=⟨_,rfl⟩
 obtain ⟨m0,r0⟩:=nr
 have hm0:m0<256:=by have:=nmb_lt 1 (t,true);rw [←hn] at this;exact this
 have l0:r0.1.length≤1000000:=by have:=(tk_len 1 (t,true)).2;have e:(nmb 1 (t,true)).2=(Go.Nt.tk 1 (t,true)).2:=rfl;rw [←hn] at e;rw [←e] at this;exact Nat.le_trans this ht
 rw [←hn] at A1
 simp only at A1
 have Hpar:Hid (parse u t=if (rdItems u m0 r0 []).2.2 then some (rdItems u m0 r0 []).1 else none):=hidI (by unfold parse;rw [←hn])
 have HW0:=hidI hW0
 have HB0:=hidI hB0
 clear hml hW0 h0 hB0 hn
 go_enter Tryz.func35,Tryz.ntmps35
 go_wp2_with (first | (rw [←HW0.out]) | fail)
 refine A1.out.mono ?_
 rintro e w1 ⟨rfl,h1,t1⟩
 have HB1:=hidI (HB0.out.trans (t1.below (Nat.le_refl _) (by omega)))
 have hs1:=t1.size
 have H1:=hidI h1
 clear A1 h1 t1
 go_wp2
 go_loopw [5,6] (fun v i wr=>∃ (m:Nat) (r:Rd) (acc:List It),i=.int .i64 m∧m+acc.length=m0∧Hid (rdItems u m0 r0 []=rdItems u m r acc)∧r.1.length≤1000000∧Hid (RdAt wr w.heap.size r)∧Hid (wr.ownsRow w.heap.size 53 5 v acc.length (its acc))∧Hid (Below w.heap.size w wr)∧Hid (∀ x∈acc,x.path.length≤255∧x.data.length≤4000)) (fun _ i _=>(intOf i).toNat)
 case atStart=>exact ⟨m0,r0,[],rfl,by simp,hidI rfl,l0,H1,hidI (World.ownsRow_nil _ _ _ _),HB1,hidI (by simp)⟩
 case round =>
  obtain ⟨m,r,acc,rfl,hm,Hrd,lr,HR,HO,HB,Hfit⟩:=hrel
  have hszr:=HB.out.size
  have k1:=HR.out.c1
  obtain ⟨fn,hfn⟩:∃ fn,fn=r.2:=⟨_,rfl⟩
  rw [←hfn] at k1
  have Hfn:=hidI hfn
  clear hfn
  obtain ⟨a2,c2,rfl,hin⟩:=own_in HO.out
  obtain ⟨L,hL⟩:∃ L,L=acc.length:=⟨_,rfl⟩
  rw [←hL] at HO ⊢
  have hLm:m+L=m0:=by omega
  have HL:=hidI hL
  have Hin:=hidI hin
  clear hL hin hm
  cases m with
  | zero =>
    have hend:Hid (rdItems u m0 r0 []=(acc,r)):=Hrd
    cases fn with
    | false =>
      go_wp2
      go_ret2
      exact ⟨HB.out,.inl ⟨rfl,fun l hl=>by rw [Hpar.out,hend.out] at hl;simp only at hl;rw [←Hfn.out] at hl;cases hl⟩⟩
    | true =>
      have HN:=hidI (new_any a2 c2 acc wr (Hml.out.below HB.out hml0) Hin.out (by rw [←HL.out];omega) (fun x hx=>by have:=(Hfit.out x hx).1;omega) (fun x hx=>by have:=(Hfit.out x hx).2;omega))
      rw [←HL.out] at HN
      have Hp:Hid (parse u t=some acc):=hidI (by rw [Hpar.out,hend.out];simp only;rw [←Hfn.out];rfl)
      go_wp2_with fail
      refine HN.out.mono ?_
      rintro e w5 ⟨hb5,⟨hno,rfl⟩ | ⟨hyes,b,rfl,hbb,hT⟩⟩
      ·have HB5:=hidI (HB.out.trans (hb5.mono hszr))
       clear hb5 HN
       go_wp2
       go_ret2
       exact ⟨HB5.out,.inl ⟨rfl,fun l hl=>by rw [Hp.out] at hl;cases hl;exact hno⟩⟩
      ·have HB5:=hidI (HB.out.trans (hb5.mono hszr))
       have HT:=hidI hT
       clear hb5 HN hT
       go_wp2
       go_ret2
       exact ⟨HB5.out,.inr ⟨acc,b,Hp.out,hyes,rfl,by omega,HT.out⟩⟩
  | succ m =>
    cases fn with
    | false =>
      have hend:Hid (rdItems u m0 r0 []=(acc,r)):=hidI (by rw [Hrd.out];show (if r.2 then _ else _)=_;rw [←Hfn.out];rfl)
      go_wp2
      go_ret2
      exact ⟨HB.out,.inl ⟨rfl,fun l hl=>by rw [Hpar.out,hend.out] at hl;simp only at hl;rw [←Hfn.out] at hl;cases hl⟩⟩
    | true =>
      have A:=hidI (item_any hP w.heap.size r wr HR.out lr)
      have Hstep:Hid (rdItems u m0 r0 []=rdItems u m (rdItem u r).2 (acc++[(rdItem u r).1])):=hidI (by rw [Hrd.out];show (if r.2 then _ else _)=_;rw [←Hfn.out];rfl)
      have Hf2:=hidI (rdItem_fit hP.small r)
      have lr2:(rdItem u r).2.1.length≤1000000:=Nat.le_trans (rdItem_len u r) lr
      obtain ⟨x,hx⟩:∃ x,x=(rdItem u r).1:=⟨_,rfl⟩
      obtain ⟨r',hr'⟩:∃ r',r'=(rdItem u r).2:=⟨_,rfl⟩
      rw [←hx,←hr'] at A Hstep
      rw [←hx] at Hf2
      rw [←hr'] at lr2
      unfold itv at A
      clear hx hr' Hrd
      go_wp2_with fail
      refine A.out.mono ?_
      rintro e w3 ⟨rfl,h3,t3⟩
      have ho3:=t3.own HR.out HO.out (by decide)
      have hb3:=HB.out.trans (t3.below (Nat.le_refl _) (by omega))
      have hs3:=t3.size
      have hrlt:=HR.out.lt
      have HO3:=hidI ho3
      have HB3:=hidI hb3
      have H3:=hidI h3
      clear A h3 t3 ho3 hb3 k1
      go_wp2_with (at_builtin;refine wpList_append_own _ rfl (.tmp 20) (.tmp 22) 42 rfl w.heap.size 53 i0 _ 5 56 Tryz.underlying42 hi hz0 hz1 hz2 rfl (by decide) _ _ _ rfl (HO3.out.alloc _) ⟨w3.heap.size,0,none⟩ 1 1 (itl x) rfl ?e1 ?e2 ?e3 ?e4 ?e5 ?e6 ?_)
      case e1=>rfl
      case e2 =>
       intro j v hv
       rw [addr_add]
       have h:=(boxed_at w3 x).cell hv
       unfold boxed at h
       simpa using h
      case e3=>intro v hv;exact its_one_cell (l:=[x]) v (by rw [its_one];exact hv)
      case e4=>unfold maxLen;omega
      case e5=>omega
      case e6=>simp;omega
      intro v4 w4 hown4 hgrow4 _
      have hb4:Below w.heap.size w w4:=(HB3.out.alloc (by omega) _).grown hgrow4 (by simp;omega) (fun q hq=>(HO3.out.lt q hq).1)
      have h4:RdAt w4 w.heap.size r':=RdAt.grown ((Below.heap_alloc w3 _ _ (by omega)).trans H3.out) (HO3.out.alloc _) hgrow4
      have HO4:Hid (w4.ownsRow w.heap.size 53 5 v4 (acc++[x]).length (its (acc++[x]))):=hidI (by rw [its_append,its_one,List.length_append,←HL.out];exact hown4)
      have HB4:=hidI hb4
      have H4:=hidI h4
      clear hown4 hgrow4 hb4 h4
      go_wp2
      go_roundw
      case rel=>exact ⟨m,r',acc++[x],by go_num,by rw [List.length_append,←HL.out];simp;omega,Hstep,lr2,H4,HO4,HB4,hidI (fun y hy=>(List.mem_append.1 hy).elim (Hfit.out y) (fun e=>by simp at e;subst e;exact Hf2.out))⟩
      case measure=>simp [intOf]
end Go.Proofs.YtodmdkhdbfbfgabGreatDoor
namespace Go.Proofs.YtodmdkhdbfbfgabGreatDoor
open Go.RowKit Go.Nt
open S1 (RecsP rcs)
set_option linter.unusedVariables false
set_option linter.unusedSimpArgs false
def MountP (ps:List Fp) (b r:Nat) (np:Nat) (cb:Nat) (tl:List It) (w:World) (e:Ending) (w':World):Prop:=
 ∃ fb lb tb ib n,e=.returned (.tuple #[.pointer (some ⟨fb,0,none⟩),.int .i64 0])∧FsAt w' fb cb lb tb∧TreeAt w' tb tl∧S1.LogAt w' lb cb ⟨b,r,none⟩ (some ib) none (endF ps) np∧n≤100000∧S1.BlAt w' ib n (inF ps)∧w.heap.size≤fb∧w.heap.size≤lb∧w.heap.size≤tb∧w.heap.size≤ib∧ib<tb∧Below w.heap.size w w'
theorem mount1 (w:World) (lo hi cb:Nat) (L:S1.Loc) (m:S1.M) (hw:S1.WF m) (h:S1.CP w lo hi cb L m) (hsz:hi≤w.heap.size) (hlf:m.life≠0) (l:List Fp) (hl:scanF (S1.pgs m) m.np m.nb=l) (b r:Nat) (hb:b≤1000000) (hr:r≤4294967295) (hone:∀ x y,hasL l x y=(x==b&&y==r)) (ps:List Fp) (hps:recF l b r=some ps) (hok:∀ f∈l,FpOk f∧f.blk<1000)
 (hml:ML w) {u:Bs→Option Bs} (hP:PackC u) (tl:List It) (hpar:parse u (txtF ps)=some tl) (htr:isTree tl=true) (hlen:(txtF ps).length≤1000000) :
 Calls Tryz.prog 16 #[.pointer (some ⟨cb,0,none⟩)] w fun e w'=>MountP ps b r m.np cb tl w e w':=by
 have A:=hidI (S1.dead_any w lo hi cb L m h)
 have hlb:(m.life==0)=false:=by simp [hlf]
 rw [hlb] at A
 have B:=hidI ((callsIn_wide (n:=20)).1 (S1.records1 w lo hi cb L m hw h hsz hlf l hl b r hb hr hone ps hps hok))
 have HC:=hidI h
 have Hml:=hidI hml
 have Hpar:=hidI hpar
 have Htr:=hidI htr
 obtain ⟨X,hX⟩:∃ X,X=txt (txtF ps):=⟨_,rfl⟩
 obtain ⟨E,hE⟩:∃ E,E=endF ps:=⟨_,rfl⟩
 have HX:=hidI hX
 have HXS:Hid (S1.txt (txtF ps)=X):=hidI (by rw [hX];rfl)
 have HE:=hidI hE
 unfold MountP
 rw [←hE]
 clear h hml hpar htr hlb hone hps hok hl hX hE
 go_enter Tryz.func16,Tryz.ntmps16
 go_wp2_with fail
 refine A.out.mono ?_
 rintro e w' ⟨rfl,hw'⟩
 have hw2:=hw'.symm
 subst hw2
 go_wp2_with fail
 refine B.out.mono ?_
 rintro e w1 ⟨v,ib,n,rfl,hrow,hib,hn,hBl,hb1⟩
 unfold rcs at hrow
 rw [HXS.out,←HE.out] at hrow
 rcases hrow.2 with ⟨_,h0⟩ | ⟨g,cap,cur,rfl,q1,q2,q3,q4,q5,q6⟩
 ·omega
 obtain ⟨c0,c1,c2,c3,c4⟩:w1.cell? ⟨g,0,none⟩=some (.string X)∧w1.cell? ⟨g,1,none⟩=some (.int .i64 (b:Nat))∧w1.cell? ⟨g,2,none⟩=some (.int .u32 (r:Nat))∧w1.cell? ⟨g,3,none⟩=some (.map (some ib))∧w1.cell? ⟨g,4,none⟩=some (.int .i64 (E:Nat)):=by
  have key:∀ k (hk:k<5),w1.cell? ⟨g,k,none⟩=[Value.string X,.int .i64 (b:Nat),.int .u32 (r:Nat),.map (some ib),.int .i64 (E:Nat)][k]? := fun k hk=>by
   rw [cell_of_row w1 g k _ 78 (0,0) q2,←q6,←Array.getElem?_toList,List.getElem?_take_of_lt (by omega)]
  exact ⟨key 0 (by omega),key 1 (by omega),key 2 (by omega),key 3 (by omega),key 4 (by omega)⟩
 obtain ⟨z1,hz1⟩:∃ z1,z1=w1.heap.size:=⟨_,rfl⟩
 obtain ⟨W2,hW2⟩:∃ W2,W2=w1.alloc (.cells #[.string X,.int .i64 (b:Nat),.int .u32 (r:Nat),.map (some ib),.int .i64 (E:Nat)] 78):=⟨_,rfl⟩
 have s2:W2.heap.size=z1+1:=by rw [hW2,hz1];simp
 have hr2:W2.heap[z1]? = some (.cells #[.string X,.int .i64 (b:Nat),.int .u32 (r:Nat),.map (some ib),.int .i64 (E:Nat)] 78 (0,0)):=by rw [hW2,hz1];exact heap_alloc_new _ _
 have b2:Below w1.heap.size w1 W2:=by rw [hW2];exact (Below.refl _ _).alloc (Nat.le_refl _) _
 have d0:W2.cell? ⟨z1,0,none⟩=some (.string X):=by rw [cell_of_row W2 z1 0 _ 78 (0,0) hr2];rfl
 have hb2:Below w.heap.size w W2:=hb1.trans (b2.mono hb1.size)
 have C:=hidI (fromText_any hP (txtF ps) W2 (Hml.out.below hb2 Hml.out.lt) hlen)
 rw [←HX.out] at C
 have hBl2:S1.BlAt W2 ib n (inF ps):=hBl.of_block (b2.block ib hBl.lt)
 have hBlt:=hBl2.lt
 have Hb2:=hidI hb2
 have HBl2:=hidI hBl2
 have HW2:=hidI hW2
 have Hz1:=hidI hz1
 have Hs2:=hidI s2
 have Hr2:=hidI hr2
 have hwz:w.heap.size≤z1:=by rw [hz1];exact hb1.size
 clear hrow hBl q1 q2 q3 q4 q5 q6 hb1 hz1 hW2 s2 b2 hr2 hb2 hBl2 A B
 go_wp2
 refine wp_loop_rounds 1 ?_
 rw [rounds_succ]
 go_wp2_with (first | (rw [←HW2.out,←Hz1.out]) | fail)
 refine C.out.mono ?_
 rintro e w3 ⟨hb3,⟨_,hno⟩ | ⟨tl',tb,hp',_,rfl,htb,hT⟩⟩
 ·have:=hno tl Hpar.out
  rw [Htr.out] at this
  cases this
 have htt:tl'=tl:=by have:=Hpar.out;rw [hp'] at this;exact Option.some.inj this
 subst htt
 have hb23:Below w.heap.size w w3:=Hb2.out.trans (hb3.mono Hb2.out.size)
 have D:=hidI (follow_any w3 lo hi cb L m X b r E (some ib) (S1.MemX.below HC.out hsz hb23) (by have:=hb23.size;omega))
 have z2:W2.heap.size≤w3.heap.size:=hb3.size
 rw [Hs2.out] at hb3 htb z2
 have hr3:w3.heap[z1]? = some (.cells #[.string X,.int .i64 (b:Nat),.int .u32 (r:Nat),.map (some ib),.int .i64 (E:Nat)] 78 (0,0)):=(hb3.block z1 (by omega)).trans Hr2.out
 have e0:w3.cell? ⟨z1,0,none⟩=some (.string X):=by rw [cell_of_row w3 z1 0 _ 78 (0,0) hr3];rfl
 have e1:w3.cell? ⟨z1,1,none⟩=some (.int .i64 (b:Nat)):=by rw [cell_of_row w3 z1 1 _ 78 (0,0) hr3];rfl
 have e2:w3.cell? ⟨z1,2,none⟩=some (.int .u32 (r:Nat)):=by rw [cell_of_row w3 z1 2 _ 78 (0,0) hr3];rfl
 have e3:w3.cell? ⟨z1,3,none⟩=some (.map (some ib)):=by rw [cell_of_row w3 z1 3 _ 78 (0,0) hr3];rfl
 have e4:w3.cell? ⟨z1,4,none⟩=some (.int .i64 (E:Nat)):=by rw [cell_of_row w3 z1 4 _ 78 (0,0) hr3];rfl
 have hBl3:S1.BlAt w3 ib n (inF ps):=HBl2.out.of_block (hb3.block ib (by have:=Hs2.out;omega))
 have HT:=hidI hT
 have HBl3:=hidI hBl3
 have Hb3:=hidI hb23
 clear hb3 hp' hT hr3 hBl3 hb23 C d0 c0 c1 c2 c3 c4
 go_wp2_with fail
 refine D.out.mono ?_
 rintro e w4 ⟨lb,rfl,hlb,hLg,hb4⟩
 obtain ⟨W5,hW5⟩:∃ W5,W5=w4.alloc (.cells #[.pointer (some ⟨cb,0,none⟩),.pointer (some ⟨lb,0,none⟩),.map (some tb)] 68):=⟨_,rfl⟩
 obtain ⟨fb,hfb⟩:∃ fb,fb=w4.heap.size:=⟨_,rfl⟩
 have b5:Below w4.heap.size w4 W5:=by rw [hW5];exact (Below.refl _ _).alloc (Nat.le_refl _) _
 have hF5:FsAt W5 fb cb lb tb:=by rw [hW5,hfb];exact heap_alloc_new _ _
 have hT4:TreeAt w4 tb tl':=HT.out.below hb4 HT.out.lt
 have HT5:Hid (TreeAt W5 tb tl'):=hidI (hT4.below b5 hT4.lt)
 have hBl4:=HBl3.out.of_block (w':=w4) (hb4.block ib HBl3.out.lt)
 have HBl5:Hid (S1.BlAt W5 ib n (inF ps)):=hidI (hBl4.of_block (b5.block ib hBl4.lt))
 have HL5:Hid (S1.LogAt W5 lb cb ⟨b,r,none⟩ (some ib) none E m.np):=hidI ((b5.block lb (lt_of_heap hLg)).trans hLg)
 have Hb5:Hid (Below w.heap.size w W5):=hidI ((Hb3.out.trans (hb4.mono Hb3.out.size)).trans (b5.mono (by have:=Hb3.out.size;have:=hb4.size;omega)))
 have HW5:=hidI hW5
 have Hfb:=hidI hfb
 have HF5:=hidI hF5
 have hfw:w.heap.size≤fb:=by have:=Hb3.out.size;have:=hb4.size;omega
 have hlw:w.heap.size≤lb:=by have:=Hb3.out.size;omega
 have htw:w.heap.size≤tb:=by omega
 have hit:ib<tb:=by have:=Hs2.out;omega
 clear hT4 hBl4 hLg hb4 b5 hF5 hW5 hfb D e0 e1 e2 e3 e4
 go_wp2_with (first | (rw [←HW5.out,←Hfb.out]) | fail)
 go_ret2
 exact ⟨fb,lb,tb,ib,n,rfl,HF5.out,HT5.out,HL5.out,hn,HBl5.out,hfw,hlw,htw,hib,hit,Hb5.out⟩
end Go.Proofs.YtodmdkhdbfbfgabGreatDoor
namespace Go.Proofs.YtodmdkhdbfbfgabGreatDoor.S1
open Go.RowKit Pk
open Go.Nt (Fp nxt pagesN splitR pageB pgOf hasL hasL_iff scanF mem_scanF readP readP_torn readP_pageB pgOf_ok fpR lookF lookF_of_mem)
set_option linter.unusedVariables false
theorem pad_short {x:List UInt8} (h:x.length<64):readP (pad x)=none:=by
 apply readP_torn
 unfold pad
 rw [List.getD_eq_getElem?_getD,List.getElem?_append_right (by omega),List.getElem?_replicate]
 rw [if_pos (by omega)]
 rfl
theorem pad_full {x:List UInt8} (h:x.length=64):pad x=x:=by
 unfold pad
 rw [h]
 simp
theorem LayI.found {m0:M} {K:Nat→Bool} {bn kn:Nat} {t:List UInt8} {m:M} {S:Nat→Bool} {ps:List (Nat × Nat)} {left:List (List UInt8)} (h:LayI m0 K (splitR bn kn t) m S ps left) (hb:bn<256) (hn:kn<4294967296) (ho:pagesN t.length<65536) {f:Fp} (hf:f∈scanF (pgs m) m.np m.nb) :
 (∃ k i q,ps[k]? = some (i,q)∧k<pagesN t.length∧f=fpR bn kn t k i)∨f∈scanF (pgs m0) m0.np m0.nb:=by
 obtain ⟨i,p,q,hi,hp,hr,rfl⟩:=mem_scanF.1 hf
 rcases h.page i p hi hp with h1 | ⟨x,hx,c,hc,e⟩ | e | e
 ·left
  obtain ⟨k,hk⟩:=List.getElem?_of_mem h1
  obtain ⟨a1,a2,a3,a4,a5⟩:=h.posn k i p hk
  have hkl:k<pagesN t.length:=by
   have:=(List.getElem?_eq_some_iff.1 a4).1
   rwa [Go.Nt.splitR_length] at this
  have e:m.pg i p=pageB (pgOf bn kn t k):=by
   unfold splitR at a4
   rw [List.getElem?_map,List.getElem?_range hkl] at a4
   simpa using a4.symm
  refine ⟨k,i,p,hk,hkl,?_⟩
  have hok:=pgOf_ok (t:=t) hb hn hkl ho
  unfold pgs at hr
  rw [e,pad_full (Go.Nt.pageB_length _ hok.t),readP_pageB hok] at hr
  cases hr
  rfl
 ·exfalso
  unfold pgs at hr
  rw [e,pad_short (by rw [List.length_take];omega)] at hr
  cases hr
 ·exfalso
  unfold pgs at hr
  rw [e,pad_short (by decide)] at hr
  cases hr
 ·right
  refine mem_scanF.2 ⟨i,p,q,by rw [←h.nb];exact hi,by rw [←h.np];exact hp,?_,rfl⟩
  unfold pgs at hr ⊢
  rw [←e]
  exact hr
theorem LayI.there {m0:M} {K:Nat→Bool} {bn kn:Nat} {t:List UInt8} {m:M} {S:Nat→Bool} {ps:List (Nat × Nat)} {left:List (List UInt8)} (h:LayI m0 K (splitR bn kn t) m S ps left) (hb:bn<256) (hn:kn<4294967296) (ho:pagesN t.length<65536) {k i q:Nat} (hk:ps[k]? = some (i,q)) :
 fpR bn kn t k i∈scanF (pgs m) m.np m.nb:=by
 obtain ⟨a1,a2,a3,a4,a5⟩:=h.posn k i q hk
 have hkl:k<pagesN t.length:=by
  have:=(List.getElem?_eq_some_iff.1 a4).1
  rwa [Go.Nt.splitR_length] at this
 have e:m.pg i q=pageB (pgOf bn kn t k):=by
  unfold splitR at a4
  rw [List.getElem?_map,List.getElem?_range hkl] at a4
  simpa using a4.symm
 have hok:=pgOf_ok (t:=t) hb hn hkl ho
 have h6:readP (pgs m i q)=some { pgOf bn kn t k with text:=(pgOf bn kn t k).text++List.replicate (51 - (pgOf bn kn t k).text.length) 0 }:=by
  unfold pgs
  rw [e,pad_full (Go.Nt.pageB_length _ hok.t)]
  exact readP_pageB hok
 exact mem_scanF.2 ⟨i,q,_,a1,a2,h6,rfl⟩
structure New (m:M):Prop where
 wf:WF m
 life:m.life = -1
 fail:m.fail<0
 pg:∀ i p,m.pg i p=[]
 nx:∀ i,m.nx i=0
theorem New.era {m:M} (h:New m) (b:Nat) (hb:b<m.nb):eraA m (b:Nat)=(!m.bd b,m):=by
 cases hbd:m.bd b with
 | true=>exact eraA_bd hbd
 | false =>
   have ht:tick m=m:=by
    unfold tick callF
    have h1:=h.life
    have h2:=h.fail
    cases m
    simp only at h1 h2
    subst h1
    simp [h2]
   have hn:=eraA_nf h.fail hb hbd
   rcases eraA_cases m b with ⟨h1,_,_,_,e⟩ | ⟨h1,_⟩
   ·refine Prod.ext (by rw [h1];rfl) ?_
    rw [e,ht]
    have h3:=h.pg
    have h4:=h.nx
    cases m
    simp only at h3 h4
    simp only [setN,setE]
    congr 1
    ·funext a c
     split
     ·rw [h3]
     ·rfl
    ·funext a
     split
     ·rw [h4]
     ·rfl
   ·rcases hn.2.2 with h2 | h2
    ·rw [h1] at h2;cases h2
    ·have:=eraA_life h.life b
     rw [h2] at this
     cases this
theorem New.eraAll {m:M} (h:New m):∀ k,k≤m.nb→S1.eraAll m k=(m,fun j=>decide (j<k) && !m.bd j)
 | 0,_=>by
   rw [S1.eraAll]
   refine Prod.ext rfl ?_
   funext j
   simp
 | k+1,hk=>by
   have ih:=New.eraAll h k (by omega)
   rw [S1.eraAll,ih]
   simp only []
   rw [h.era k (by omega)]
   refine Prod.ext rfl ?_
   funext j
   simp only []
   cases hb:m.bd k with
   | true =>
     simp only [Bool.not_true,Bool.false_eq_true,if_false]
     by_cases e:j=k
     ·subst e;simp [hb]
     ·have:decide (j<k+1)=decide (j<k):=by simp;omega
      rw [this]
   | false =>
     simp only [Bool.not_false,if_true]
     by_cases e:j=k
     ·subst e;simp [hb]
     ·have h1:decide (j<k+1)=decide (j<k):=by simp;omega
      have h2:(j==k)=false:=by simp [e]
      rw [h1,h2,Bool.false_or]
theorem New.scan {m:M} (h:New m) (np:Nat):∀ k,scanF (pgs m) np k=[]:=by
 intro k
 cases hs:scanF (pgs m) np k with
 | nil=>rfl
 | cons f fs =>
   obtain ⟨i,p,q,_,_,hr,_⟩:=mem_scanF.1 (show f∈scanF (pgs m) np k by rw [hs];simp)
   unfold pgs at hr
   rw [h.pg,pad_short (by decide)] at hr
   cases hr
theorem New.renew {m:M} (h:New m) {t:List UInt8} (ht:0<t.length) (hm:mayE m t.length=0) :
 (renA m t).1=0∧WF (renA m t).2∧(renA m t).2.life = -1∧∃ blk:Nat→Nat,(∀ k,k<pagesN t.length→lookF (scanF (pgs (renA m t).2) (renA m t).2.np (renA m t).2.nb) (badN m) 1 k=some (fpR (badN m) 1 t k (blk k)))∧(∀ f∈scanF (pgs (renA m t).2) (renA m t).2.np (renA m t).2.nb,f.bad=badN m∧f.num=1)∧(renA m t).2.fail<0∧(renA m t).2.bd=m.bd∧(renA m t).2.nb=m.nb∧(renA m t).2.np=m.np∧∃ S,cntB m.nb S≤good m/2∧∀ k,k<pagesN t.length→S (blk k)=true∧blk k<m.nb:=by
 have hw:=h.wf
 have he:=h.eraAll m.nb (Nat.le_refl _)
 have hroom:pagesN t.length≤roomP m:=by
  unfold mayE at hm
  split at hm
  ·omega
  ·split at hm<;>omega
 have hr256:=roomP_le hw
 have hbn:=badN_le m
 have h32:=hw.nb2
 have h4:=hw.nb1
 have hpn:0<pagesN t.length:=by unfold pagesN;omega
 have hnum:numN m ⟨0,0,none⟩ (hasL (scanF (pgs m) m.np m.nb))=1:=by
  unfold numN
  rw [h.scan]
  exact Go.Nt.nxt_here (by decide) rfl
 obtain ⟨Q1,hQ1⟩:∃ Q1,Q1=fun j=>decide (j<m.nb) && !m.bd j:=⟨_,rfl⟩
 obtain ⟨s0,hs0⟩:∃ s0:LS,s0=⟨splitR (badN m) 1 t,m,Q1,m.nb - 1,m.np,fun _=>false⟩:=⟨_,rfl⟩
 have hS:renS m Q1 t=layN (fun _=>false) m.nb s0:=by
  unfold renS addS
  rw [hnum]
  unfold layF lay0
  rw [if_neg (by show ¬(splitR (badN m) 1 t).length+m.np≤m.np;rw [Go.Nt.splitR_length];omega),hs0]
 have hSd:Snd m (fun _=>false) Q1 (m.nb - 1) m.np:=⟨hw,h.life,h.fail,Rdy.shut m Q1 _ (fun i hi=>by
  rw [hQ1] at hi
  simp only [Bool.and_eq_true,decide_eq_true_eq,Bool.not_eq_true'] at hi
  exact ⟨hi.1,hi.2,h.nx i⟩),by rw [cntB_none];exact Nat.zero_le _,by omega,Nat.le_refl _⟩
 have hlf0:layF (fun _=>false) ⟨splitR (badN m) 1 t,m,Q1,m.nb - 1,m.np,fun _=>false⟩=layN (fun _=>false) m.nb s0:=by
  unfold layF lay0
  rw [if_neg (by show ¬(splitR (badN m) 1 t).length+m.np≤m.np;rw [Go.Nt.splitR_length];omega),hs0]
 obtain ⟨hall,hSn,hnbN,hnpN,hbdN⟩:=hSd.lay (split_len (badN m) 1 t) (by rw [Go.Nt.splitR_length];exact hpn) (by rw [Go.Nt.splitR_length];exact hroom) _ hlf0.symm
 have hren:renA m t=(0,(layN (fun _=>false) m.nb s0).m):=by
  unfold renA
  rw [if_neg (by simp [hm]),he]
  simp only []
  rw [if_neg (by simp [hm]),←hQ1,hS,if_pos hall]
 have hV:LayV m (fun _=>false) (splitR (badN m) 1 t) (m.nb - 1) 0 s0 []:=by
  rw [hs0]
  refine ⟨LayI.start hw _ _,?_,fun i hi=>(by cases hi),Nat.le_refl _⟩
  show m.nb - 1=(m.nb - 1+0)%m.nb
  rw [Nat.add_zero,Nat.mod_eq_of_lt (by omega)]
 obtain ⟨v,ps,_,hL⟩:=LayV.rounds (by omega) m.nb 0 s0 [] hV (by omega)
 obtain ⟨m',hm'⟩:∃ m',m'=(layN (fun _=>false) m.nb s0).m:=⟨_,rfl⟩
 have hI:=hL.lay
 rw [hall,←hm'] at hI
 rw [hren]
 simp only [←hm']
 have hb256:badN m<256:=by omega
 have ho:pagesN t.length<65536:=by omega
 have hpl:ps.length=pagesN t.length:=by
  have h1:=hI.part
  have h2:=congrArg List.length h1
  rw [List.length_drop,Go.Nt.splitR_length] at h2
  have h3:=hI.le
  rw [Go.Nt.splitR_length] at h3
  simp at h2
  omega
 have honly:∀ f∈scanF (pgs m') m'.np m'.nb,∃ k i q,ps[k]? = some (i,q)∧f=fpR (badN m) 1 t k i:=fun f hf=>by
  rcases hI.found hb256 (by decide) ho hf with ⟨k,i,q,h1,_,h2⟩ | h1
  ·exact ⟨k,i,q,h1,h2⟩
  ·rw [h.scan] at h1;cases h1
 refine ⟨by simp,by rw [hm'];exact hSn.wf,by rw [hm'];exact hSn.life,fun k=>(ps.getD k (0,0)).1,fun k hk => ?_,fun f hf => ?_,by rw [hm'];exact hSn.fail,by rw [hm'];exact hbdN,by rw [hm'];exact hnbN,by rw [hm'];exact hnpN,(layN (fun _=>false) m.nb s0).S,by have:=hSn.few;rw [good_congr hnbN hbdN,hnbN] at this;exact this,fun k hk => ?_⟩
 ·obtain ⟨x,hx⟩:∃ x,ps[k]? = some x:=⟨_,List.getElem?_eq_getElem (by omega)⟩
  obtain ⟨i,q⟩:=x
  have hmem:=hI.there hb256 (by decide) ho hx
  have e:(ps.getD k (0,0)).1=i:=by rw [List.getD_eq_getElem?_getD,hx];rfl
  show lookF (scanF (pgs m') m'.np m'.nb) (badN m) 1 k=some (fpR (badN m) 1 t k (ps.getD k (0,0)).1)
  rw [e]
  exact lookF_of_mem hmem (fun y hy h1 h2 h3=>by
   obtain ⟨k',i',q',hx',rfl⟩:=honly y hy
   have hkk:k'=k:=h3
   subst hkk
   rw [hx] at hx'
   cases hx'
   rfl)
 ·obtain ⟨k,i,q,_,rfl⟩:=honly f hf
  exact ⟨rfl,rfl⟩
 ·obtain ⟨x,hx⟩:∃ x,ps[k]? = some x:=⟨_,List.getElem?_eq_getElem (by omega)⟩
  obtain ⟨i,q⟩:=x
  have e:(ps.getD k (0,0)).1=i:=by rw [List.getD_eq_getElem?_getD,hx];rfl
  obtain ⟨a1,_,_,_,a5⟩:=hI.posn k i q hx
  show (layN (fun _=>false) m.nb s0).S (ps.getD k (0,0)).1=true∧(ps.getD k (0,0)).1<m.nb
  rw [e]
  exact ⟨a5,by rw [←hnbN,←hm'];exact a1⟩
end Go.Proofs.YtodmdkhdbfbfgabGreatDoor.S1
namespace Go.Proofs.YtodmdkhdbfbfgabGreatDoor.S1
open Go.RowKit Pk
set_option linter.unusedVariables false
set_option linter.unusedSimpArgs false
theorem Tryz.info4:(Tryz.prog.info? 4).map (fun i=>(i.zero,i.size,i.bytes))=some (some (.bool false),1,1):=by kernel_rfl
end Go.Proofs.YtodmdkhdbfbfgabGreatDoor.S1
namespace Go.Proofs.YtodmdkhdbfbfgabGreatDoor.S1
open Go.RowKit Pk
set_option linter.unusedVariables false
set_option linter.unusedSimpArgs false
theorem copy_any (w:World) (lo hi cb:Nat) (L:Loc) (m:M) (hw:WF m) (h:CP w lo hi cb L m) (hsz:hi≤w.heap.size) :
 Calls Tryz.prog 17 #[.pointer (some ⟨cb,0,none⟩)] w fun e w'=>∃ L',e=.returned (.pointer (some ⟨w.heap.size,0,none⟩))∧CP w' w.heap.size w'.heap.size w.heap.size L' m∧Below w.heap.size w w':=by
 have c0:=MemX.c0 h
 have c1:=MemX.c1 h
 have c2:=MemX.c2 h
 have c3:=MemX.c3 h
 have c4:=MemX.c4 h
 have c5:=MemX.c5 h
 have c6:=MemX.c6 h
 have c7:=MemX.c7 h
 have hnb1:=hw.nb1
 have hnb2:=hw.nb2
 have hnp1:=hw.np1
 have hnp2:=hw.np2
 have Hh:Hid (∀ W,Below w.heap.size w W→CP W lo hi cb L m):=fun W hb=>MemX.below h hsz hb
 clear h
 go_enter Tryz.func17,Tryz.ntmps17
 go_wp2
 have hG:cb<w.heap.size:=Nat.lt_of_lt_of_le (Hh.out _ (Below.refl _ _)).hcb.2 hsz
 have Hst0:=hidI (heap_alloc_new w (Obj.cells #[.int .i64 (m.np:Nat),.slice none 0 0,.slice (some ⟨L.nk,0,none⟩) m.nb L.cn,.slice (some ⟨L.bk,0,none⟩) m.nb L.ck,.int .i64 m.life,.int .i64 m.cut,.int .i64 m.fail,.int .i64 m.part] 60))
 have Hb0:=hidI ((Below.refl w.heap.size w).alloc (Nat.le_refl _) (Obj.cells #[.int .i64 (m.np:Nat),.slice none 0 0,.slice (some ⟨L.nk,0,none⟩) m.nb L.cn,.slice (some ⟨L.bk,0,none⟩) m.nb L.ck,.int .i64 m.life,.int .i64 m.cut,.int .i64 m.fail,.int .i64 m.part] 60))
 clear c0 c1 c2 c3 c4 c5 c6 c7
 obtain ⟨i0,hi0,hz0,hz1,hz2⟩:=info_parts Tryz.info23
 obtain ⟨j0,gi,gz0,gz1,gz2⟩:=info_parts Tryz.info9
 obtain ⟨k0,ki,kz0,kz1,kz2⟩:=info_parts Tryz.info3
 obtain ⟨l0,li,lz0,lz1,lz2⟩:=info_parts Tryz.info4
 obtain ⟨G,hGe⟩:∃ G,G=w.heap.size:=⟨_,rfl⟩
 rw [←hGe] at Hst0 Hb0 Hh hG hsz ⊢
 have HGe:=hidI hGe
 clear hGe
 go_loopw [4] (fun x wr=>∃ k:Nat,k≤m.nb∧x=.int .i64 k∧∃ da dc rw cr,wr.heap[G]? = some (.cells #[.int .i64 (m.np:Nat),.slice da k dc,.slice (some ⟨L.nk,0,none⟩) m.nb L.cn,.slice (some ⟨L.bk,0,none⟩) m.nb L.ck,.int .i64 m.life,.int .i64 m.cut,.int .i64 m.fail,.int .i64 m.part] 60 (0,0))∧Data wr G (.slice da k dc) k m.np rw cr (fun i p=>id (m.pg i p))∧Below G w wr) (fun x _=>m.nb - (intOf x).toNat)
 case atStart=>exact ⟨0,by omega,rfl,none,0,fun _=>0,fun _=>0,Hst0.out,Data.nil _ _ _ _ _ _,Hb0.out⟩
 case round =>
  clear Hst0 Hb0
  obtain ⟨k,hk,rfl,da,dc,rw,cr,hst,hdat,hbel⟩:=hrel
  have hm:=Hh.out _ hbel
  have c1:=MemX.c1 hm
  have hGr:G<wr.heap.size:=lt_of_heap hst
  by_cases hlt:k<m.nb
  ·have cd:=hm.data.cell hlt
   have hrow:=hm.page k hlt
   have Hst:=hidI hst
   have Hdat:=hidI hdat
   have Hbel:=hidI hbel
   have Hm:=hidI hm
   clear hst hdat hbel hm
   have x0:wr.cell? ⟨G,1,none⟩=some (.slice da k dc):=by rw [cell_of_row wr G 1 _ 60 (0,0) Hst.out];rfl
   have hl0:(((List.range m.np).map fun p=>Value.string (txt (id (m.pg k p))))).length=m.np*1:=by simp
   have h1c:∀ u∈((List.range m.np).map fun p=>Value.string (txt (id (m.pg k p)))),u.oneCell'=true:=(by intro u hu;simp at hu;obtain ⟨p,_,rfl⟩:=hu;rfl)
   have Hrn:=hidI hrow.news
   clear hrow
   go_wp2_with fail
   go_region_law (first
    | (refine step_append_lies _ (by rfl) _ _ _ (by rfl) G 9 j0 _ 1 16 Tryz.underlying61 gi gz0 gz1 gz2 rfl (by omega) (.slice none 0 0) 0 [] (by rfl) (World.ownsRow_nil _ _ _ _) ⟨L.rw k,0,none⟩ m.np (L.cr k) ((List.range m.np).map fun p=>Value.string (txt (id (m.pg k p)))) (by rfl) hl0 Hrn.out h1c (by omega) (by unfold maxLen;omega) (by omega) (by simp;omega) wr.heap.size (by simp) ?_;intro g cap w1 hown hgrow hat hlt1;have HgW:Hid (g=wr.heap.size):=(by rcases hat with h | h;(· simp [Value.ownBlock] at h);(· exact h));have K1:∀ t,Keeps t wr w1:=(fun t k x f e=>hgrow.block k (lt_of_heap e) (by simp [Value.ownBlock]));have hst1:=(K1 60).block Hst.out;have Hbel1:Hid (Below G w w1):=Hbel.out.drew.grown hgrow (Nat.le_of_lt hGr) (fun q hq=>by simp [Value.ownBlock] at hq);have x1:w1.cell? ⟨G,1,none⟩=some (.slice da k dc):=(by rw [cell_of_row w1 G 1 _ 60 (0,0) hst1];rfl);have x1a:∀ o,(w1.alloc o).cell? ⟨G,1,none⟩=some (.slice da k dc):=(fun o=>(World.cell?_of_block (w:=w1) (Below.heap_alloc w1 o G (World.block_lt_of_cell? w1 ⟨G,1,none⟩ x1))).trans x1);have Hown23:=hidI ((K1 61).own Hdat.out.own);have Hrw1:Hid (Rw w1 g 9 m.np (fun p=>.string (txt (id (m.pg k p))))):=(by
        have hown:w1.ownsRow G 9 1 (.slice (some ⟨g,0,none⟩) m.np cap) m.np ((List.range m.np).map fun p=>.string (txt (id (m.pg k p)))):=(by simpa using hown)
        obtain ⟨g',cap',hgc,_,hrw1⟩:=own_rw hown (by omega)
        simp at hgc
        obtain ⟨rfl,rfl⟩:=hgc
        exact hrw1);have hgs:wr.heap.size≤w1.heap.size:=hgrow.size;have HK1:=hidI K1;have Hst1:=hidI hst1;clear hgrow hat hst1 hown K1)
    | (refine step_append_lies _ (by rfl) _ _ _ (by rfl) G 61 i0 _ 1 24 Tryz.underlying57 hi0 hz0 hz1 hz2 rfl (by omega) (.slice da k dc) k _ (by rfl) (Hown23.out.alloc _) ⟨w1.heap.size,0,none⟩ 1 1 [.slice (some ⟨g,0,none⟩) m.np cap] (by rfl) rfl (cell_one_new _ _ _) (by intro u hu;simp at hu;subst hu;rfl) (by omega) (by unfold maxLen;omega) (by omega) (by simp;omega) (w1.heap.size+1) (by simp) ?_;intro g2 cap2 w2 hown2 hgrow2 hat2 hlt2;have K2:∀ t,t≠61→Keeps t w1 w2:=(fun t ht=>((Keeps.refl t w1).alloc _).grown (Hown23.out.alloc _) (fun e=>ht e.symm) hgrow2);have hst2:=(K2 60 (by decide)).block Hst1.out;have x2:w2.cell? ⟨G,1,none⟩=some (.slice da k dc):=(by rw [cell_of_row w2 G 1 _ 60 (0,0) hst2];rfl);have f2:=frozen_of_row w2 G 1 _ 60 hst2;have Hbel2:Hid (Below G w w2):=(Hbel1.out.alloc (Nat.le_trans (Nat.le_of_lt hGr) hgs) _).grown hgrow2 (by simp;omega) (fun q hq=>(Hown23.out.lt q hq).1);have HK2:=hidI K2;have Hst2:=hidI hst2;have Hown2:=hidI hown2;clear hown2 hgrow2 hat2 K2 hst2))
   all_goals have hst3:=heap_setCell_same w2 G 1 _ 60 (.slice (some ⟨g2,0,none⟩) (k+1) cap2) Hst2.out
   all_goals have K9:Keeps 9 wr (w2.setCell ⟨G,1,none⟩ (.slice (some ⟨g2,0,none⟩) (k+1) cap2)):=((HK1.out 9).trans (HK2.out 9 (by decide))).set Hst2.out (by decide)
   all_goals have K23:Keeps 61 w2 (w2.setCell ⟨G,1,none⟩ (.slice (some ⟨g2,0,none⟩) (k+1) cap2)):=(Keeps.refl _ _).set Hst2.out (by decide)
   all_goals have K9':Keeps 9 w1 (w2.setCell ⟨G,1,none⟩ (.slice (some ⟨g2,0,none⟩) (k+1) cap2)):=(HK2.out 9 (by decide)).set Hst2.out (by decide)
   all_goals have hdat3:=Hdat.out.push K9 (r:=g) (c:=cap) (f:=fun p=>id (m.pg k p)) (by rw [HgW.out];omega) (by rw [HgW.out];omega) (K9'.rw Hrw1.out) (K23.own Hown2.out)
   all_goals have hpe:put (fun i p=>id (m.pg i p)) k (fun p=>id (m.pg k p))=fun i p=>id (m.pg i p):=(by
    funext a b
    unfold put
    by_cases e:a=k
    ·rw [if_pos e,e]
    ·rw [if_neg e])
   all_goals rw [hpe] at hdat3
   all_goals have Hbel3:=hidI (Hbel2.out.setCell (p:=⟨G,1,none⟩) (Nat.le_refl _) (.slice (some ⟨g2,0,none⟩) (k+1) cap2))
   all_goals have Hst3:=hidI hst3
   all_goals have Hdat3:=hidI hdat3
   all_goals clear hst3 hdat3 K9 K23 K9' hpe
   all_goals go_wp2
   all_goals (go_roundw;(case rel=>exact ⟨k+1,by omega,by go_num,some ⟨g2,0,none⟩,cap2,_,_,Hst3.out,Hdat3.out,Hbel3.out⟩);(case measure=>simp [intOf];omega))
  ·have hke:m.nb=k:=by omega
   subst hke
   have a1:=MemX.c2 hm
   have Hst:=hidI hst
   have Hdat:=hidI hdat
   have Hbel:=hidI hbel
   have hrn:=hm.next
   clear hst hdat hbel hm
   go_wp2_with (at_builtin;refine wpList_append_lies _ rfl _ _ 22 rfl G 3 k0 (.int .i64 0) 1 8 Tryz.underlying22 ki kz0 kz1 kz2 rfl (by decide) (.slice none 0 0) 0 [] rfl (World.ownsRow_nil _ _ _ _) ⟨L.nk,0,none⟩ m.nb L.cn ((List.range m.nb).map fun i=>.int .i64 (m.nx i:Nat)) rfl ?c0 ?c1 ?c2 ?c3 ?c4 ?c5 ?c6 wr.heap.size rfl ?_)
   case c0=>simp
   case c1=>exact hrn.news
   case c2=>intro u hu;simp at hu;obtain ⟨p,_,rfl⟩:=hu;rfl
   case c3=>omega
   case c4=>unfold maxLen;omega
   case c5=>omega
   case c6=>omega
   intro g cap w1 hown hgrow hat hlt1
   have hown1:w1.ownsRow G 3 1 (.slice (some ⟨g,0,none⟩) m.nb cap) m.nb ((List.range m.nb).map fun i=>.int .i64 (m.nx i:Nat)):=(by simpa using hown)
   have K1:∀ t,Keeps t wr w1:=fun t k x f e=>hgrow.block k (lt_of_heap e) (by simp [Value.ownBlock])
   have hst1:=(K1 60).block Hst.out
   have z2:w1.cell? ⟨G,2,none⟩=some (.slice (some ⟨L.nk,0,none⟩) m.nb L.cn):=(by rw [cell_of_row w1 G 2 _ 60 (0,0) hst1];rfl)
   have zf:=frozen_of_row w1 G 2 _ 60 hst1
   have hstB:=heap_setCell_same w1 G 2 _ 60 (.slice (some ⟨g,0,none⟩) m.nb cap) hst1
   have hownB:=((Keeps.refl 3 w1).set (o:=2) (v:=.slice (some ⟨g,0,none⟩) m.nb cap) hst1 (by decide)).own hown1
   have hdatB:=Hdat.out.keep ((K1 9).set (o:=2) (v:=.slice (some ⟨g,0,none⟩) m.nb cap) hst1 (by decide)) ((K1 61).set (o:=2) (v:=.slice (some ⟨g,0,none⟩) m.nb cap) hst1 (by decide))
   have hbelB:Below G w (w1.setCell ⟨G,2,none⟩ (.slice (some ⟨g,0,none⟩) m.nb cap)):=(Hbel.out.grown hgrow (Nat.le_of_lt hGr) (fun q hq=>by simp [Value.ownBlock] at hq)).setCell (Nat.le_refl _) _
   have HstB:=hidI hstB
   have HownB:=hidI hownB
   have HdatB:=hidI hdatB
   have HbelB:=hidI hbelB
   have hmb:=Hh.out _ hbelB
   have b3:=MemX.c3 hmb
   have hrb:=hmb.bad
   have hGb:G<(w1.setCell ⟨G,2,none⟩ (.slice (some ⟨g,0,none⟩) m.nb cap)).heap.size:=lt_of_heap hstB
   clear hstB hownB hdatB hbelB hmb hst1 hown hown1 hgrow hat K1 Hst Hdat Hbel hrn a1
   go_wp2_with (at_builtin;refine wpList_append_lies _ rfl _ _ 58 rfl G 4 l0 (.bool false) 1 1 Tryz.underlying58 li lz0 lz1 lz2 rfl (by decide) (.slice none 0 0) 0 [] rfl (World.ownsRow_nil _ _ _ _) ⟨L.bk,0,none⟩ m.nb L.ck ((List.range m.nb).map fun i=>.bool (m.bd i)) rfl ?c0 ?c1 ?c2 ?c3 ?c4 ?c5 ?c6 (w1.setCell ⟨G,2,none⟩ (.slice (some ⟨g,0,none⟩) m.nb cap)).heap.size rfl ?_)
   case c0=>simp
   case c1=>exact hrb.news
   case c2=>intro u hu;simp at hu;obtain ⟨p,_,rfl⟩:=hu;rfl
   case c3=>omega
   case c4=>unfold maxLen;omega
   case c5=>omega
   case c6=>omega
   intro g3 cap3 w3 hown hgrow hat hlt3
   have hown1:w3.ownsRow G 4 1 (.slice (some ⟨g3,0,none⟩) m.nb cap3) m.nb ((List.range m.nb).map fun i=>.bool (m.bd i)):=(by simpa using hown)
   have K1:∀ t,Keeps t (w1.setCell ⟨G,2,none⟩ (.slice (some ⟨g,0,none⟩) m.nb cap)) w3:=fun t k x f e=>hgrow.block k (lt_of_heap e) (by simp [Value.ownBlock])
   have hst1:=(K1 60).block HstB.out
   have y2:w3.cell? ⟨G,3,none⟩=some (.slice (some ⟨L.bk,0,none⟩) m.nb L.ck):=(by rw [cell_of_row w3 G 3 _ 60 (0,0) hst1];rfl)
   have yf:=frozen_of_row w3 G 3 _ 60 hst1
   have hstD:=heap_setCell_same w3 G 3 _ 60 (.slice (some ⟨g3,0,none⟩) m.nb cap3) hst1
   have hownD:=((Keeps.refl 4 w3).set (o:=3) (v:=.slice (some ⟨g3,0,none⟩) m.nb cap3) hst1 (by decide)).own hown1
   have hownN:=((K1 3).set (o:=3) (v:=.slice (some ⟨g3,0,none⟩) m.nb cap3) hst1 (by decide)).own HownB.out
   have hdatD:=HdatB.out.keep ((K1 9).set (o:=3) (v:=.slice (some ⟨g3,0,none⟩) m.nb cap3) hst1 (by decide)) ((K1 61).set (o:=3) (v:=.slice (some ⟨g3,0,none⟩) m.nb cap3) hst1 (by decide))
   have hbelD:Below G w (w3.setCell ⟨G,3,none⟩ (.slice (some ⟨g3,0,none⟩) m.nb cap3)):=(HbelB.out.grown hgrow (Nat.le_of_lt hGb) (fun q hq=>by simp [Value.ownBlock] at hq)).setCell (Nat.le_refl _) _
   have HE:=hidI (MemX.built (T:=60) (enc:=id) (g4:=m.life) (g5:=m.cut) (g6:=m.fail) (g7:=m.part) (by omega:0<m.nb) (by decide) (Nat.le_refl G) hstD hdatD (fun i p _ _=>rfl) hownN hownD)
   have HbelD:=hidI hbelD
   clear hown1 hstD hownD hownN hdatD hbelD HstB HbelB HdatB HownB hst1 K1 hown hgrow hat z2 zf b3 hrb
   go_wp2
   go_ret
   obtain ⟨L',hL⟩:=HE.out
   rw [←HGe.out]
   exact ⟨L',rfl,hL,HbelD.out⟩
end Go.Proofs.YtodmdkhdbfbfgabGreatDoor.S1
namespace Go.Proofs.YtodmdkhdbfbfgabGreatDoor
open Go.RowKit Go.Nt
set_option linter.unusedVariables false
set_option linter.unusedSimpArgs false
theorem weigh_order (l:List It):weigh (inOrder l)=weigh l:=((order_perm l).map _).sum_nat
theorem dirAt_order (l:List It) (p:Bs):dirAt (inOrder l) p=dirAt l p:=by
 unfold dirAt
 rw [Bool.eq_iff_iff,List.any_eq_true,List.any_eq_true]
 exact ⟨fun ⟨x,hx,h⟩=>⟨x,order_mem.1 hx,h⟩,fun ⟨x,hx,h⟩=>⟨x,order_mem.2 hx,h⟩⟩
theorem TreeP.order {l:List It} (h:TreeP l):TreeP (inOrder l):=
 ⟨by rw [order_length];exact h.len,fun x hx=>h.ok x (order_mem.1 hx),(((order_perm l).map _).nodup_iff).2 h.nodup,fun x hx=>by rw [dirAt_order];exact h.up x (order_mem.1 hx)⟩
theorem txtF_len {ps:List Fp} (h:∀ f∈ps,f.text.length=51):(txtF ps).length=ps.length*51:=by
 induction ps with
 | nil=>rfl
 | cons f ps ih =>
   have h1:=ih (fun g hg=>h g (by simp [hg]))
   have h2:=h f (by simp)
   unfold txtF at h1 ⊢
   simp only [List.map_cons,List.flatten_cons,List.length_append,List.length_cons,h1,h2]
   omega
end Go.Proofs.YtodmdkhdbfbfgabGreatDoor
