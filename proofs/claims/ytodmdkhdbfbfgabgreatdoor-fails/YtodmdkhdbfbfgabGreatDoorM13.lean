/- Lemmas. -/
import Derived.Test.YtodmdkhdbfbfgabGreatDoorM12
set_option linter.unusedVariables false
set_option linter.unusedSimpArgs false
set_option maxRecDepth 100000
set_option maxHeartbeats 8000000
namespace Go.Proofs.YtodmdkhdbfbfgabGreatDoor.S1
open Go.RowKit Pk
open Go.Nt (nxt pagesN splitR pageB pgOf)
def numN (m:M) (v0:Lv) (S:Nat→Nat→Bool):Nat:=nxt (S (badN m)) ((v0.nn+1)%4294967296)
def addS (m:M) (v0:Lv) (S:Nat→Nat→Bool) (K Q:Nat→Bool) (b p:Nat) (t:List UInt8):LS:=layF K ⟨splitR (badN m) (numN m v0 S) t,m,Q,b,p,fun _=>false⟩
def AddYes (w:World) (lo hi cb lb:Nat) (L:Loc) (v0:Lv) (kv qv:Option Nat) (nq:Nat) (m:M) (S:Nat→Nat→Bool) (s:LS) (e:Ending) (w':World):Prop:=
 ∃ ib nk tb nt,e=.returned (.int .i64 0)∧LogM w' lo hi cb lb L ⟨badN m,numN m v0 S,some tb⟩ (some ib) qv nk nq s.m s.S s.Q s.b s.p∧LbAt w' tb nt S∧nt≤100000∧¬LogS lo hi lb (some ib) qv tb∧Fm (LogS lo hi lb kv qv) w w'∧w.heap.size≤ib∧(v0.tk=some tb∨w.heap.size≤tb)
def AddNo (w:World) (lo hi cb lb:Nat) (L:Loc) (v0:Lv) (kv qv:Option Nat) (nk nq:Nat) (m:M) (K:Nat→Bool) (b:Nat) (s:LS) (e:Ending) (w':World):Prop:=
 e=.returned (.int .i64 (if s.m.life=0 then 10 else 9))∧LogM w' lo hi cb lb L ⟨v0.nb,v0.nn,none⟩ kv qv nk nq s.m K s.Q b m.np∧Fm (LogS lo hi lb kv qv) w w'
def AddPost (w:World) (lo hi cb lb:Nat) (L:Loc) (v0:Lv) (kv qv:Option Nat) (nk nq:Nat) (m:M) (K Q:Nat→Bool) (b p:Nat) (S:Nat→Nat→Bool) (t:List UInt8) (e:Ending) (w':World):Prop:=
 (mayE m t.length≠0→e=.returned (.int .i64 (mayE m t.length))∧w'=w) ∧
 (mayE m t.length=0→(addS m v0 S K Q b p t).left=[]→AddYes w lo hi cb lb L v0 kv qv nq m S (addS m v0 S K Q b p t) e w') ∧
 (mayE m t.length=0→(addS m v0 S K Q b p t).left≠[]→AddNo w lo hi cb lb L v0 kv qv nk nq m K b (addS m v0 S K Q b p t) e w')
theorem qh3 {w:World} {g b n:Nat} {t:List UInt8} (h:Rw w g 9 (pagesN t.length) (fun k=>.string (Go.Proofs.YtodmdkhdbfbfgabGreatDoor.txt (pageB (pgOf b n t k))))):Txts w g 0 (splitR b n t):=by
 intro k x hx;unfold splitR at hx;rw [List.getElem?_map] at hx;cases hk:(List.range (pagesN t.length))[k]? with
 | none=>rw [hk] at hx;cases hx
 | some j =>
   rw [hk] at hx;have hlt:k<pagesN t.length:=by have:=(List.getElem?_eq_some_iff.1 hk).1;simpa using this
   have hj:j=k:=by
    rw [List.getElem?_range hlt] at hk;cases hk;rfl
   subst hj;cases hx
   rw [Nat.zero_add];exact h.cell hlt
theorem split_len (b n:Nat) (t:List UInt8):∀ x∈splitR b n t,x.length=64:=by
 intro x hx;unfold splitR at hx;obtain ⟨k,hk,rfl⟩:=List.mem_map.1 hx;exact Go.Nt.pageB_length _ (by simp [pgOf];omega)
theorem qj5 (K:Nat→Bool):∀ (k:Nat) (s:LS),(layN K k s).m.np=s.m.np∧(layN K k s).m.nb=s.m.nb
 | 0,s=>⟨rfl,rfl⟩
 | k+1,s=>by
   rw [layN]
   split
   ·exact ⟨rfl,rfl⟩
   obtain ⟨h1,h2,_⟩:=qje K s;obtain ⟨h3,h4⟩:=qj5 K k (lay1 K s);exact ⟨h3.trans h2,h4.trans h1⟩
theorem qnp (K:Nat→Bool) (s:LS):(layF K s).m.np=s.m.np:=by
 unfold layF lay0;rw [(qj5 K _ _).1]
 split
 ·exact (qkT s).2.1
 rfl
theorem roomP_le {m:M} (h:WF m):roomP m≤256:=by
 have h1:=qnP m;have h2:=h.nb2;have h3:=h.np2;unfold roomP;exact Nat.mul_le_mul (show good m/2≤16 by omega) h3
theorem LogM.keep {w:World} {lo hi cb lb:Nat} {L:Loc} {v:Lv} {kv qv:Option Nat} {nk nq:Nat} {m:M} {K Q:Nat→Bool} {b p:Nat} (h:LogM w lo hi cb lb L v kv qv nk nq m K Q b p) {ib n:Nat} {S:Nat→Bool} (hI:BlAt w ib n S) (hn:¬LogS lo hi lb kv qv ib) :
 LogM (w.setCell ⟨lb,3,none⟩ (.map (some ib))) lo hi cb lb L v (some ib) qv n nq m S Q b p:=by
 have e:∀ k,k≠lb→(w.setCell ⟨lb,3,none⟩ (.map (some ib))).heap[k]? = w.heap[k]? := fun k hk=>Below.heap_setCell w ⟨lb,3,none⟩ _ k hk
 have hne:ib≠lb:=fun e=>hn (.inr (.inl e))
 exact ⟨h.log.set2 (some ib),MemX.of_blocks h.chip fun k h1 h2=>e k (fun e'=>h.al (by subst e';exact ⟨h1,h2⟩)),h.wf,.inr ⟨ib,rfl,hI.of_block (e ib hne)⟩,h.clean.of_blocks fun g hg _=>e g (h.aq g hg).1,fun g hg=>by cases hg;exact ⟨hne,fun hr=>hn (.inl hr)⟩,h.aq,fun g hg hq=>by cases hg;exact hn (.inr (.inr (.inr hq))),h.al,by have:=h.sz;simpa using this⟩
theorem LogM.label {w:World} {lo hi cb lb:Nat} {L:Loc} {v:Lv} {kv qv:Option Nat} {nk nq:Nat} {m:M} {K Q:Nat→Bool} {b p:Nat} (h:LogM w lo hi cb lb L v kv qv nk nq m K Q b p) (x y:Nat) :
 LogM ((w.setCell ⟨lb,1,none⟩ (.int .i64 (x:Nat))).setCell ⟨lb,2,none⟩ (.int .u32 (y:Nat))) lo hi cb lb L ⟨x,y,v.tk⟩ kv qv nk nq m K Q b p:=by
 have h1:LogM (w.setCell ⟨lb,1,none⟩ (.int .i64 (x:Nat))) lo hi cb lb L ⟨x,v.nn,v.tk⟩ kv qv nk nq m K Q b p:=h.field (heap_setCell_same w lb 1 _ 124 _ h.log);exact h1.field (heap_setCell_same _ lb 2 _ 124 _ h1.log)
theorem LogM.untake {w:World} {lo hi cb lb:Nat} {L:Loc} {v:Lv} {kv qv:Option Nat} {nk nq:Nat} {m:M} {K Q:Nat→Bool} {b p:Nat} (h:LogM w lo hi cb lb L v kv qv nk nq m K Q b p) :
 LogM (w.setCell ⟨lb,4,none⟩ (.map none)) lo hi cb lb L ⟨v.nb,v.nn,none⟩ kv qv nk nq m K Q b p:=h.field (h.log.setT none)
theorem add_any (w:World) (lo hi cb lb:Nat) (L:Loc) (v0:Lv) (kv qv:Option Nat) (nk nq:Nat) (m:M) (K Q:Nat→Bool) (b p:Nat) (S:Nat→Nat→Bool) (t:List UInt8) (h:LogM w lo hi cb lb L v0 kv qv nk nq m K Q b p) (hb:b<1000) (hp:p≤m.np) (ht:t.length≤1000000)
 (hnum:numN m v0 S<4294967296) (hnext:mayE m t.length=0→Calls Tryz.prog 77 #[.pointer (some ⟨lb,0,none⟩)] w fun e w'=>NextPost w lo hi cb lb L v0 kv qv nk nq m K Q b p S e w') :
 Calls Tryz.prog 51 #[.pointer (some ⟨lb,0,none⟩),.string (txt t)] w fun e w'=>AddPost w lo hi cb lb L v0 kv qv nk nq m K Q b p S t e w':=by
 have HM:=hidI (qk3 w lo hi cb L m t h.wf h.chip (by omega));have c0:=h.log.c0;have c4:=h.log.c4;obtain ⟨X,hX⟩:∃ X,X=txt t:=⟨_,rfl⟩;rw [←hX] at HM ⊢;have HX:=hidI hX;by_cases hme:mayE m t.length=0
 ·rw [hme] at HM;have hroom:pagesN t.length≤roomP m:=by
   unfold mayE at hme
   split at hme
   ·omega
   split at hme
   ·omega
   omega
  have hr256:=roomP_le h.wf;have hbn:=badN_le m;have h32:=h.wf.nb2;have H0:=hidI h;have HN:=hidI (hnext hme);obtain ⟨bn,hbne⟩:∃ bn,bn=badN m:=⟨_,rfl⟩;obtain ⟨kn,hkne⟩:∃ kn,kn=numN m v0 S:=⟨_,rfl⟩;rw [←hbne] at hbn;rw [←hkne] at hnum;have Hbn:=hidI hbne;have Hkn:=hidI hkne;obtain ⟨np,hnpe⟩:∃ np,np=pagesN t.length:=⟨_,rfl⟩;rw [←hnpe] at hroom;have Hnp:=hidI hnpe;obtain ⟨s,hs⟩:∃ s,s=addS m v0 S K Q b p t:=⟨_,rfl⟩;have Hs:=hidI hs;have HsNp:Hid (s.m.np=m.np):=hidI (by rw [hs];exact qnp K _);have Hme:=hidI hme;clear h hnext hbne hkne hX hnpe hs hme;go_enter Tryz.func51,Tryz.ntmps51
  go_wp2_with (first | (go_at_call 73;refine HM.out.mono ?_;rintro e w' ⟨rfl,hw⟩;have hw':=hw.symm;subst hw';clear hw) | fail);refine HN.out.mono ?_;rintro e W1 ⟨tb,nt,rfl,hL1,hT1,hnt,hts,htk,hF1⟩;rw [←Hbn.out];rw [show nxt (S bn) ((v0.nn+1)%4294967296)=kn by rw [Hkn.out,Hbn.out];rfl];obtain ⟨W2,hW2⟩:∃ W2,W2=W1.alloc (.map #[] 0):=⟨_,rfl⟩;have hmk:=make92 W1;rw [←hW2] at hmk;have hI2:BlAt W2 W1.heap.size 0 (fun _=>false):=by rw [hW2];exact qgW W1
  have hB2:Below W1.heap.size W1 W2:=by rw [hW2];exact (Below.refl _ W1).alloc (Nat.le_refl _) _
  obtain ⟨W3,hW3⟩:∃ W3,W3=W2.alloc (.cells #[.int .i64 (bn:Nat),.int .u32 (kn:Nat)] 74):=⟨_,rfl⟩;have hB3:Below W2.heap.size W2 W3:=by rw [hW3];exact (Below.refl _ W2).alloc (Nat.le_refl _) _
  obtain ⟨ib,hib⟩:∃ ib,ib=W1.heap.size:=⟨_,rfl⟩;obtain ⟨nb_,hnb_⟩:∃ nb_,nb_=W2.heap.size:=⟨_,rfl⟩;rw [←hib] at hmk hI2;have hs2:W2.heap.size=W1.heap.size+1:=by rw [hW2];simp
  have hR3:W3.heap[nb_]? = some (.cells #[.int .i64 (bn:Nat),.int .u32 (kn:Nat)] 74 (0,0)):=by rw [hW3,hnb_];exact heap_alloc_new _ _
  have hL3:=(hL1.new hB2).new hB3;have hI3:=hI2.of_block (hB3.block ib (by omega));have hT3:=(hT1.of_block (hB2.block tb hT1.lt)).of_block (hB3.block tb (by have:=hT1.lt;omega));have hB13:Below W1.heap.size W1 W3:=hB2.trans (hB3.mono (by omega));have r0:W3.cell? ⟨nb_,0,none⟩=some (.int .i64 (bn:Nat)):=by rw [cell_of_row W3 nb_ 0 _ 74 (0,0) hR3];rfl
  have r1:W3.cell? ⟨nb_,1,none⟩=some (.int .u32 (kn:Nat)):=by rw [cell_of_row W3 nb_ 1 _ 74 (0,0) hR3];rfl
  have HSp:=hidI (qh1 bn kn t W3 (by omega) hnum ht);rw [show Go.Proofs.YtodmdkhdbfbfgabGreatDoor.txt t=X from HX.out.symm] at HSp;unfold lbv at HSp;have HW3:=hidI hW3;have Hnb_:=hidI hnb_;have Hib:Hid (W1.heap.size≤ib∧ib<W3.heap.size∧ib≠nb_):=hidI ⟨by omega,hI3.lt,by omega⟩;have HL3:=hidI hL3;have HI3:=hidI hI3;have HT3:=hidI hT3;have HR3:=hidI hR3;have HLw:Hid (∀ k,LogS lo hi lb kv qv k→k<W1.heap.size):=hidI (fun k hk=>logS_lt hL1 hk);have Htb:Hid (tb<W1.heap.size):=hidI hT1.lt;have HW1w:Hid (w.heap.size≤W1.heap.size):=hidI hF1.size;have HnbW:Hid (W1.heap.size≤nb_):=hidI (by omega);have HF3:Hid (Fm (LogS lo hi lb kv qv) w W3):=hidI ((hF1.mono fun k _ hk=>.inr (.inl hk)).trans (Fm.of_new hB13));have Hts:=hidI hts;have Htk:=hidI htk;have Hnt:=hidI hnt;clear hL1 hT1 htk hF1 hW2 hI2 hB2 hW3 hB3 hib hnb_ hs2 hR3 hL3 hI3 hT3 hB13 hts hnt HM HN
  go_wp2_with (first | (rw [←HW3.out,←Hnb_.out]) | fail);refine HSp.out.mono ?_;rintro e W4 ⟨g,rfl,hg,hRw,hB4⟩;rw [←Hnp.out];have hgW:W3.heap.size≤g:=hg;have hT4:Txts W4 g 0 (splitR bn kn t):=qh3 hRw;have hL4:=HL3.out.new hB4;have hI4:=HI3.out.of_block (hB4.block ib Hib.out.2.1);have hR4:=(hB4.block nb_ (lt_of_heap HR3.out)).trans HR3.out;have hTb4:=HT3.out.of_block (hB4.block tb HT3.out.lt);have hnotI:¬LogS lo hi lb kv qv ib:=fun hk=>by have:=HLw.out ib hk;have:=Hib.out.1;omega
  have h13:W1.heap.size≤W3.heap.size:=by have:=Hib.out;omega
  have hnotG:¬LogS lo hi lb kv qv g:=fun hk=>by have:=HLw.out g hk;omega
  have hgi:g≠ib:=by have:=Hib.out.2.1;omega
  have hsl:(splitR bn kn t).length=np:=by rw [Go.Nt.splitR_length];exact Hnp.out.symm
  have hA:=qnA W4 lo hi cb lb L ⟨v0.nb,v0.nn,some tb⟩ kv qv nk nq K ⟨splitR bn kn t,m,Q,b,p,fun _=>false⟩ ib 0 g 0 np hL4 hb hp hI4 (by show 0+40*(splitR bn kn t).length≤_;rw [hsl];omega) ⟨hnotI,hnotG,hgi⟩ hT4 (fun x hx=>Nat.le_of_eq (split_len bn kn t x hx)) (by show (splitR bn kn t).length≤_;rw [hsl];exact Nat.le_refl _) (by omega);have hse:layF K ⟨splitR bn kn t,m,Q,b,p,fun _=>false⟩=s:=by rw [Hs.out,Hbn.out,Hkn.out];rfl
  rw [hse] at hA;have hA':Calls Tryz.prog 78 #[.pointer (some ⟨lb,0,none⟩),.slice (some ⟨g,0,none⟩) np np,.map (some ib)] W4 fun e w'=>qgB W4 lo hi cb lb L ⟨v0.nb,v0.nn,some tb⟩ kv qv nk nq K ib 0 ⟨splitR bn kn t,m,Q,b,p,fun _=>false⟩ s e w':=by
   have:=hA
   simp only [hsl] at this;exact this
  have HA:=hidI hA';have HR4:=hidI hR4;have HT4:=hidI hTb4;have HF4:Hid (Fm (LogS lo hi lb kv qv) w W4):=hidI (HF3.out.trans (Fm.of_new hB4));have HnI:=hidI hnotI;have Hib4:Hid (w.heap.size≤ib):=hidI (by have h1:=Hib.out.1;have:=HF3.out.size;have h2:=HLw.out lb (.inr (.inl rfl));exact Nat.le_trans (HW1w.out) h1);have Htbn:Hid (tb≠ib∧tb≠nb_):=hidI ⟨by have:=Htb.out;have:=Hib.out;omega,by have h1:=Htb.out;have h2:=HnbW.out;omega⟩;have hnbi:nb_≠ib:=fun e=>Hib.out.2.2 e.symm
  have hnbS:¬LogS lo hi lb kv qv nb_:=fun hk=>by have h1:=HLw.out nb_ hk;have h2:=HnbW.out;omega
  have hnbl:=lt_of_heap hR4;clear hA hA' hse hT4 hL4 hI4 hR4 hTb4 hnotI hnotG hgi hsl hRw hB4 HSp HL3 HI3 HT3 HR3 HF3 r0 r1 c0 c4 hg hgW h13;go_wp2_with fail;refine HA.out.mono ?_;rintro e W5 ⟨rfl,hL5,hI5,hF5⟩;have hib5:=Hib.out;have HL5:=hidI hL5;have HI5:=hidI hI5;have HF5:Hid (Fm (LogS lo hi lb kv qv) w W5):=hidI (((HF4.out.mono (T:=fun k=>LogS lo hi lb kv qv k∨k=ib) fun k _ h=>.inl h).trans hF5).mono fun k hk h=>by
   rcases h with h | h
   ·exact h
   exfalso;have:=Hib4.out;omega)
  have hR5:=(hF5.block nb_ hnbl (fun h=>by
   rcases h with h | h
   ·exact hnbS h
   exact hnbi h)).trans HR4.out
  have HT5:=hidI (HT4.out.of_block (hF5.block tb HT4.out.lt (fun h=>by
   rcases h with h | h
   ·exact Hts.out h
   exact Htbn.out.1 h)))
  have r0:W5.cell? ⟨nb_,0,none⟩=some (.int .i64 (bn:Nat)):=by rw [cell_of_row W5 nb_ 0 _ 74 (0,0) hR5];rfl
  have r1:W5.cell? ⟨nb_,1,none⟩=some (.int .u32 (kn:Nat)):=by rw [cell_of_row W5 nb_ 1 _ 74 (0,0) hR5];rfl
  have n0:=hL5.log.n0;have n1:=hL5.log.n1;have k2:=hL5.log.c2;have t4:=hL5.log.t4;have d0:=hL5.log.c0;have d4:=hL5.log.c4;have d5:=hL5.log.c5;have f1:=hL5.log.fz 1;have f2:=hL5.log.fz 2;have f3:=hL5.log.fz 3;have f4:=hL5.log.fz 4;have f6:=hL5.log.fz 6;have f7:=hL5.log.fz 7;obtain ⟨z,hz⟩:∃ z,z=s.left.isEmpty:=⟨_,rfl⟩;rw [←hz];have Hz:=hidI hz;clear hL5 hI5 hF5 hR5 HA HR4 HT4 HF4 hz;cases z with
  | true =>
    have hle:s.left=[]:=List.isEmpty_iff.1 Hz.out.symm;obtain ⟨W6,hW6⟩:∃ W6,W6=((W5.setCell ⟨lb,1,none⟩ (.int .i64 (bn:Nat))).setCell ⟨lb,2,none⟩ (.int .u32 (kn:Nat))).setCell ⟨lb,3,none⟩ (.map (some ib)):=⟨_,rfl⟩;have eo:∀ j,j≠lb→((W5.setCell ⟨lb,1,none⟩ (.int .i64 (bn:Nat))).setCell ⟨lb,2,none⟩ (.int .u32 (kn:Nat))).heap[j]? = W5.heap[j]? := fun j hj=>(Below.heap_setCell _ ⟨lb,2,none⟩ _ j hj).trans (Below.heap_setCell _ ⟨lb,1,none⟩ _ j hj)
    have hibl:ib≠lb:=fun e=>HnI.out (.inr (.inl e))
    have htbl:tb≠lb:=fun e=>Hts.out (.inr (.inl e))
    have HL6:=hidI ((HL5.out.label bn kn).keep (HI5.out.of_block (eo ib hibl)) HnI.out);have HT6:=hidI (HT5.out.of_block (w':=W6) (by rw [hW6];exact (Below.heap_setCell _ ⟨lb,3,none⟩ _ tb htbl).trans (eo tb htbl)));have HF6:Hid (Fm (LogS lo hi lb kv qv) w W6):=hidI (by rw [hW6];exact ((HF5.out.set (g:=lb) (fun _=>.inr (.inl rfl)) 1 _).set (g:=lb) (fun _=>.inr (.inl rfl)) 2 _).set (g:=lb) (fun _=>.inr (.inl rfl)) 3 _);rw [←hW6] at HL6;have HW6:=hidI hW6;have Hle:=hidI hle;clear eo hW6 hle;go_wp2_with fail;go_ret
    rw [←HW6.out];refine ⟨fun h=>absurd Hme.out h,fun _ _ => ?_,fun _ h=>absurd (by rw [←Hs.out];exact Hle.out) h⟩;rw [←Hs.out];refine ⟨ib,0+40*(splitR bn kn t).length,tb,nt,rfl,?_,HT6.out,Hnt.out,?_,HF6.out,Hib4.out,Htk.out⟩
    ·rw [←Hbn.out,←Hkn.out];exact HL6.out
    intro h;rcases h with h | h | h | h
    ·exact Hts.out (.inl h)
    ·exact htbl h
    ·cases h;exact Htbn.out.1 rfl
    exact Hts.out (.inr (.inr (.inr h)))
  | false =>
    have hle:s.left≠[]:=fun h=>by have:=Hz.out;rw [h] at this;cases this
    have HP:=hidI (pages_any W5 lo hi cb L s.m HL5.out.chip);rw [show s.m.np=m.np from HsNp.out] at HP;obtain ⟨W6,hW6⟩:∃ W6,W6=((W5.setCell ⟨lb,4,none⟩ (.map none)).setCell ⟨lb,6,none⟩ (.int .i64 (b:Nat))).setCell ⟨lb,7,none⟩ (.int .i64 (m.np:Nat)):=⟨_,rfl⟩;have HL6:=hidI ((HL5.out.untake.set4 b).set5 m.np);rw [←hW6] at HL6;have HF6:Hid (Fm (LogS lo hi lb kv qv) w W6):=hidI (by rw [hW6];exact ((HF5.out.set (g:=lb) (fun _=>.inr (.inl rfl)) 4 _).set (g:=lb) (fun _=>.inr (.inl rfl)) 6 _).set (g:=lb) (fun _=>.inr (.inl rfl)) 7 _);have HD:=hidI (dead_any W6 lo hi cb L s.m HL6.out.chip);have d06:=HL6.out.log.c0;have HW6:=hidI hW6;have Hle:=hidI hle;clear hW6 hle;by_cases hd:s.m.life=0
    ·have hdb:(s.m.life==0)=true:=beq_iff_eq.2 hd;rw [hdb] at HD;go_wp2_with (first | (go_at_call 9;refine HP.out.mono ?_;rintro e w' ⟨rfl,hw⟩;have hw':=hw.symm;subst hw';clear hw) | (rw [←HW6.out]) | (go_at_call 31;refine HD.out.mono ?_;rintro e w' ⟨rfl,hw⟩;have hw':=hw.symm;subst hw';clear hw) | fail);go_ret
     refine ⟨fun h=>absurd Hme.out h,fun _ h=>absurd h (by rw [←Hs.out];exact Hle.out),fun _ _ => ?_⟩;rw [←Hs.out];exact ⟨by rw [if_pos hd];rfl,HL6.out,HF6.out⟩
    have hdb:(s.m.life==0)=false:=beq_eq_false_iff_ne.2 hd;rw [hdb] at HD;go_wp2_with (first | (go_at_call 9;refine HP.out.mono ?_;rintro e w' ⟨rfl,hw⟩;have hw':=hw.symm;subst hw';clear hw) | (rw [←HW6.out]) | (go_at_call 31;refine HD.out.mono ?_;rintro e w' ⟨rfl,hw⟩;have hw':=hw.symm;subst hw';clear hw) | fail);go_ret
    refine ⟨fun h=>absurd Hme.out h,fun _ h=>absurd h (by rw [←Hs.out];exact Hle.out),fun _ _ => ?_⟩;rw [←Hs.out];exact ⟨by rw [if_neg hd];rfl,HL6.out,HF6.out⟩
 obtain ⟨me,hmee⟩:∃ me,me=mayE m t.length:=⟨_,rfl⟩;rw [←hmee] at HM hme;have hmi:(me != 0)=true:=by simpa using hme
 have Hmee:=hidI hmee;clear h hnext hmee hX c4;go_enter Tryz.func51,Tryz.ntmps51
 go_wp2_with (first | (go_at_call 73;refine HM.out.mono ?_;rintro e w' ⟨rfl,hw⟩;have hw':=hw.symm;subst hw';clear hw) | fail);go_ret
 have h9:=Hmee.out;exact ⟨fun _=>⟨by rw [←h9];rfl,rfl⟩,fun h=>absurd (h9.trans h) hme,fun h=>absurd (h9.trans h) hme⟩
end Go.Proofs.YtodmdkhdbfbfgabGreatDoor.S1
