/- Lemmas. -/
import Derived.Test.YtodmdkhdbfbfgabGreatDoorM17
set_option linter.unusedVariables false
set_option linter.unusedSimpArgs false
set_option maxRecDepth 100000
set_option maxHeartbeats 8000000
namespace Go.Proofs.YtodmdkhdbfbfgabGreatDoor
open Go.RowKit Go.Nt
theorem below_grown {w w':World} (h:Below w.heap.size w w'):w.grownBy w' none:=⟨h.os,h.tape,h.output,h.size,fun k hk _=>h.block k hk⟩
theorem clone_any (s:ByteArray) (w:World) (hs:s.size≤1048576):Calls Tryz.prog 54 #[.string s] w fun e w'=>e=.returned (.string s)∧Below w.heap.size w w':=by
 have HC:=hidI (Tryz.stringslite_Clone s w (by omega));go_enter Tryz.func54,Tryz.ntmps54
 go_wp2_with (go_at_call 81;refine HC.out.mono ?_;rintro e w' ⟨rfl,hb⟩);go_ret
 exact ⟨rfl,hb⟩
structure NewAt (l:List It) (k:Nat):Prop where
 ok:∀ x∈l.take k,okItem x=true
 nd:((l.take k).map (·.path)).Nodup
theorem NewAt.next {l:List It} {k:Nat} {x:It} (h:NewAt l k) (hx:l[k]? = some x) (ho:okItem x=true) (hn:at? (l.take k) x.path=none):NewAt l (k+1):=by
 have e:l.take (k+1)=l.take k++[x]:=by rw [List.take_add_one,hx];rfl
 refine ⟨fun y hy => ?_,?_⟩
 ·rw [e] at hy;rcases List.mem_append.1 hy with hy | hy
  ·exact h.ok y hy
  simp at hy;subst hy;exact ho
 rw [e,List.map_append,List.nodup_append];refine ⟨h.nd,by simp,fun a ha b hb => ?_⟩;obtain ⟨y,hy,rfl⟩:=List.mem_map.1 ha;simp at hb;subst hb;exact at_none.1 hn y hy
def RegAt (w W V:World) (l:List It) (k:Nat):Prop:=W.grownBy V (some w.heap.size)∧Below w.heap.size w V∧(TreeAt V w.heap.size (l.take k)∨TreeAt V w.heap.size (l.take (k+1)))
theorem qhK {w W V V':World} {l:List It} {k:Nat} (h:Hid (RegAt w W V l k)) (hb:Below V.heap.size V V'):Hid (RegAt w W V' l k):=by
 obtain ⟨h1,h2,h3⟩:=h;have hs:=h2.size;refine ⟨h1.trans ((below_grown hb).but _),h2.trans (hb.mono hs),?_⟩;rcases h3 with h | h
 ·exact .inl (h.below hb h.lt)
 exact .inr (h.below hb h.lt)
theorem qnX {w W V:World} {l:List It} {k:Nat} {x:It} (h:Hid (RegAt w W V l k)) (hn:NewAt l (k+1)) (hx:l[k]? = some x) (hno:at? (l.take k) x.path=none) (hl:l.length≤60) (hp:x.path.length≤maxLen) :
 ∃ V',(Instr.mapUpdate 64 (.map (some w.heap.size)) (.string (txt x.path)) (ndv (nd x))).run Tryz.prog V=.ok () V'∧Hid (RegAt w W V' l k)∧Hid (TreeAt V' w.heap.size (l.take (k+1))):=by
 obtain ⟨h1,h2,h3⟩:=h;have e:l.take (k+1)=l.take k++[x]:=by rw [List.take_add_one,hx];rfl
 have hn1:((l.take k).map (·.path)).Nodup:=by
  have:=hn.nd
  rw [e,List.map_append] at this;exact (List.nodup_append.1 this).1
 have fin:∀ m,TreeAt V w.heap.size m→(m.map (·.path)).Nodup→m.length≤60→(∀ p,at? (setIt m x) p=at? (l.take (k+1)) p)→∃ V',(Instr.mapUpdate 64 (.map (some w.heap.size)) (.string (txt x.path)) (ndv (nd x))).run Tryz.prog V=.ok () V'∧Hid (RegAt w W V' l k)∧Hid (TreeAt V' w.heap.size (l.take (k+1))):=by
  intro m hT hnd hm hsame;obtain ⟨V',r1,⟨D,o1,o2⟩,r3⟩:=hT.store hnd (by unfold maxLen;omega) x hp;have hT':TreeAt V' w.heap.size (l.take (k+1)):=⟨D,o1,o2.same hsame⟩;exact ⟨V',r1,hidI ⟨h1.trans r3.grown,h2.grown r3.grown h2.size (fun q hq=>by cases hq;exact Nat.le_refl _),.inr hT'⟩,hidI hT'⟩
 have hlen1:(l.take k).length≤60:=by rw [List.length_take];omega
 have hlen2:(l.take (k+1)).length≤60:=by rw [List.length_take];omega
 rcases h3 with h | h
 ·refine fin _ h hn1 hlen1 (fun p => ?_);rw [qnZ (at_none.1 hno),e]
 refine fin _ h hn.nd hlen2 (fun p => ?_);by_cases ep:p=x.path
 ·subst ep;rw [qbn];exact (at_mem hn.nd (by rw [e];simp)).symm
 rw [qbv ep]
def Five (V:World) (g:Nat) (x:It):Prop:=
 V.cell? ⟨g,0,none⟩=some (.string (txt x.path))∧V.cell? ⟨g,1,none⟩=some (.bool x.dir)∧V.cell? ⟨g,2,none⟩=some (.string (txt x.data)) ∧
 V.cell? ⟨g,3,none⟩=some (.int .i64 x.mode)∧V.cell? ⟨g,4,none⟩=some (.int .i64 x.time)
theorem ItAt.five {V:World} {g:Nat} {x:It} (h:ItAt V g 0 x):Five V g x:=by
 obtain ⟨h0,h1,h2,h3,h4⟩:=h;rw [Nat.zero_add] at h1 h2 h3 h4;exact ⟨h0,h1,h2,h3,h4⟩
theorem qcU {w W V:World} {l:List It} {k g:Nat} {x:It} (h:Hid (RegAt w W V l k)) (hf:Hid (Five W g x)) (hg:g<W.heap.size) (hne:w.heap.size<g):Five V g x:=by
 have hb:V.heap[g]? = W.heap[g]? := h.out.1.block g hg (fun e=>by cases e;omega);obtain ⟨h0,h1,h2,h3,h4⟩:=hf;exact ⟨(World.cell?_of_block hb).trans h0,(World.cell?_of_block hb).trans h1,(World.cell?_of_block hb).trans h2,(World.cell?_of_block hb).trans h3,(World.cell?_of_block hb).trans h4⟩
theorem qlq {l:List It} (h60:l.length≤60) (hok:∀ x∈l,okItem x=true) (hnd:(l.map (·.path)).Nodup) (he:∀ x∈l,enterE l x.path=0):isTree l=true:=by
 have h1:l.all okItem=true:=List.all_eq_true.2 hok;unfold isTree;rw [qdc l h1,h1];have h2:(l.all fun x=>qaK l x.path)=true:=List.all_eq_true.2 fun x hx=>by rw [qbV l _ hnd,he x hx];rfl
 rw [h2];simp [h60,hnd]
theorem qi3 {l:List It} (hok:∀ x∈l,okItem x=true) (hnd:(l.map (·.path)).Nodup) {x:It} (hx:x∈l) (he:enterE l x.path≠0):isTree l=false:=by
 have h1:l.all okItem=true:=List.all_eq_true.2 hok;unfold isTree;rw [qdc l h1];have h2:(l.all fun x=>qaK l x.path)=false:=by
  cases h:l.all fun x=>qaK l x.path with
  | false=>rfl
  | true =>
    have:=List.all_eq_true.1 h x hx
    rw [qbV l _ hnd] at this;exact absurd (by simpa using this) he
 rw [h2];simp
theorem new_any (a:Option Addr) (c:Nat) (l:List It) (w:World) (hml:ML w) (hl:ItsIn w a l) (hn:l.length≤1048576) (hp:∀ x∈l,x.path.length≤1048576) (hd:∀ x∈l,x.data.length≤1048576) :
 Calls Tryz.prog 45 #[.slice a l.length c] w fun e w'=>Below w.heap.size w w' ∧
  ((isTree l=false∧e=.returned (.tuple #[.map none,.int .i64 3]))∨(isTree l=true∧∃ b,e=.returned (.tuple #[.map (some b),.int .i64 0])∧w.heap.size≤b∧TreeAt w' b l)):=by
 have Hl:=hidI hl;have Hp:=hidI hp;have Hd:=hidI hd;have Hml:=hidI hml;have h0:=hml.lt;clear hl hp hml hd;have hmm:=qi2;by_cases h60:l.length≤60
 ·go_enter Tryz.func45,Tryz.ntmps45
  go_wp2
  go_loopw [18] (fun i wr=>∃ k:Nat,k≤l.length∧i=.int .i64 k∧Hid (NewAt l k)∧Hid (TreeAt wr w.heap.size (l.take k))∧Hid (Below w.heap.size w wr)) (fun i _=>l.length - (intOf i).toNat)
  case atStart=>exact ⟨0,Nat.zero_le _,rfl,hidI ⟨by simp,by simp⟩,hidI (qjo w),hidI ((Below.refl _ w).alloc (Nat.le_refl _) _)⟩
  obtain ⟨k,hk,rfl,Hat,HT,Hb⟩:=hrel;by_cases hlt:k<l.length
  ·obtain ⟨x,hx⟩:∃ x,l[k]? = some x:=⟨_,List.getElem?_eq_getElem hlt⟩;obtain ⟨b,off,rfl,hc⟩:=(Hl.out.below Hb.out) (fun h=>by rw [h] at hlt;simp at hlt);obtain ⟨x0,x1,x2,x3,x4⟩:=hc k x hx;have hxp:=Hp.out x (List.mem_of_getElem? hx);have hxd':=Hd.out x (List.mem_of_getElem? hx);have hszb:=Hb.out.size;have hTlt:=HT.out.lt;have Hx:=hidI hx;have hT1:TreeAt (boxed wr x) w.heap.size (l.take k):=HT.out.of_block (Below.heap_alloc wr _ _ hTlt);have hpl:x.path.length≤maxLen:=by unfold maxLen;omega
   cases ha:at? (l.take k) x.path with
   | some y =>
     have hlook:=(hT1.look_some hpl ha).1;have HR:Hid (isTree l=false):=by
      obtain ⟨hy,hyp⟩:=qau ha;obtain ⟨j',hj',hje⟩:=List.getElem_of_mem hy;have hj2:j'<k:=by rw [List.length_take] at hj';omega
      rw [List.getElem_take] at hje;exact qiF (qlt hx (List.getElem?_eq_getElem (by omega)) hj2 (by rw [hje];exact hyp))
     unfold boxed ndv nd at hlook;clear hx hc ha hT1;go_wp2;go_ret2
     exact ⟨(Hb.out.alloc hszb _).alloc (by simp;omega) _,.inl ⟨HR.out,rfl⟩⟩
   | none =>
     have hlook:=(hT1.look_none hpl ha).1;have Ha:=hidI ha;obtain ⟨W0,hW0⟩:∃ W0,W0=(boxed wr x).alloc (.cells #[.bool false,.string (txt []),.int .i64 0,.int .i64 0] 94):=⟨_,rfl⟩;have hbW0:Below w.heap.size w W0:=by rw [hW0];exact (Hb.out.alloc hszb _).alloc (by simp;omega) _
     have HI:=hidI (qiA x W0 (Hml.out.below hbW0 h0) hxp);rw [hW0] at HI;unfold boxed itv at HI;unfold boxed ndv at hlook;obtain ⟨o,ho⟩:∃ o,o=okItem x:=⟨_,rfl⟩;rw [←ho] at HI;have Ho:=hidI ho;have HW0:=hidI hW0;clear hx hc ha hT1 ho hW0;go_wp2_with fail;refine HI.out.mono ?_;rintro e W ⟨hbW,rfl⟩;have hbW':Below (wr.heap.size+2) W0 W:=by
      rw [HW0.out];have h:=hbW;simp only [World.size_alloc] at h;exact h
     have hs0:W0.heap.size=wr.heap.size+2:=by rw [HW0.out];simp [boxed]
     have hsW:=hbW'.size;have HbW:Hid (Below w.heap.size w W):=hbW0.trans (hbW'.mono (by omega));cases o with
     | false =>
       have HR:Hid (isTree l=false):=qkC (List.mem_of_getElem? Hx.out) Ho.out.symm;clear hbW hbW' hlook x0 x1 x2 x3 x4 HI hs0 hbW0;go_wp2;go_ret2
       exact ⟨HbW.out,.inl ⟨HR.out,rfl⟩⟩
     | true =>
       have hgW:wr.heap.size<W.heap.size:=by omega
       have hFW:ItAt W wr.heap.size 0 x:=by
        have h1:ItAt W0 wr.heap.size 0 x:=by rw [HW0.out];exact (qbJ wr x).of_block (Below.heap_alloc _ _ _ (by simp [boxed]))
        exact h1.below hbW' (by omega)
       have HF:=hidI hFW.five;have HTW:Hid (TreeAt W w.heap.size (l.take k)):=by
        have h1:TreeAt W0 w.heap.size (l.take k):=by rw [HW0.out];exact (HT.out.of_block (w':=boxed wr x) (Below.heap_alloc wr _ _ hTlt)).of_block (Below.heap_alloc _ _ _ (by simp [boxed];omega))
        exact h1.below hbW' (by omega)
       have HN1:Hid (NewAt l (k+1)):=Hat.out.next Hx.out Ho.out.symm Ha.out;have hR0:Hid (RegAt w W W.drew l k):=⟨⟨rfl,rfl,rfl,Nat.le_refl _,fun _ _ _=>rfl⟩,HbW.out.drew,.inl (HTW.out.of_block rfl)⟩;have HU:Hid (∀ V,Hid (RegAt w W V l k)→∃ V',(Instr.mapUpdate 64 (.map (some w.heap.size)) (.string (txt x.path)) (.agg #[.bool x.dir,.string (txt x.data),.int .i64 x.mode,.int .i64 x.time])).run Tryz.prog V=.ok () V'∧Hid (RegAt w W V' l k)∧Hid (TreeAt V' w.heap.size (l.take (k+1)))):=
        fun V hV=>qnX hV HN1.out Hx.out Ha.out h60 hpl
       have HCX:=hidI (fun V=>clone_any (txt x.path) V (by rw [qaa];exact hxp));have HCD:=hidI (fun V=>clone_any (txt x.data) V (by rw [qaa];exact hxd'));obtain ⟨f0,f1,f2,f3,f4⟩:=hFW.five;clear hbW hbW' hlook x0 x1 x2 x3 x4 HI hs0 hbW0 hFW HTW Hat HT Hb HW0 Ho Ha;clear hsW W0;go_wp2_with fail;go_region_held3 (fun V=>Hid (RegAt w W V l k)∧V.cell? ⟨wr.heap.size,0,none⟩=some (.string (txt x.path))∧V.cell? ⟨wr.heap.size,1,none⟩=some (.bool x.dir)∧V.cell? ⟨wr.heap.size,2,none⟩=some (.string (txt x.data))∧V.cell? ⟨wr.heap.size,3,none⟩=some (.int .i64 x.mode)∧V.cell? ⟨wr.heap.size,4,none⟩=some (.int .i64 x.time)) (go_keep) (first
        | (go_at_call_of 54 (txt x.path);refine (HCX.out _).mono ?_;rintro e V ⟨rfl,hbV⟩;have HS:=qhK (w:=w) (W:=W) (l:=l) (k:=k) (by go_split_ands;assumption) hbV;obtain ⟨c0,c1,c2,c3,c4⟩:=qcU HS HF hgW hTlt;obtain ⟨V',hupd,HS',HT'⟩:=HU.out V HS;obtain ⟨d0,d1,d2,d3,d4⟩:=qcU HS' HF hgW hTlt)
        | (go_at_call_of 54 (txt x.data);refine (HCD.out _).mono ?_;rintro e V ⟨rfl,hbV⟩;have HS:=qhK (w:=w) (W:=W) (l:=l) (k:=k) (by go_split_ands;assumption) hbV;obtain ⟨c0,c1,c2,c3,c4⟩:=qcU HS HF hgW hTlt;obtain ⟨V',hupd,HS',HT'⟩:=HU.out V HS;obtain ⟨d0,d1,d2,d3,d4⟩:=qcU HS' HF hgW hTlt))
       all_goals
        have Hend:Hid (Below w.heap.size w V'):=HS'.out.2.1;clear c0 c1 c2 c3 c4 d0 d1 d2 d3 d4 hupd HS HS' hbV f0 f1 f2 f3 f4 HCX HCD HU hR0;rename_i hHeld;clear hHeld;go_wp2;go_roundw
        case rel=>exact ⟨k+1,by omega,by go_num,HN1,HT',Hend⟩
        case measure=>simp [intOf];omega
  have hke:k=l.length:=by omega
  subst hke;have HN:Hid (NewAt l l.length):=Hat;have HT2:Hid (TreeAt wr w.heap.size l):=by
   have h:=HT.out;rw [List.take_length] at h;exact h
  have Hok:Hid (∀ x∈l,okItem x=true):=by
   have h:=HN.out.ok;rw [List.take_length] at h;exact h
  have Hnd:Hid ((l.map (·.path)).Nodup):=by
   have h:=HN.out.nd;rw [List.take_length] at h;exact h
  obtain ⟨D,ho,hh⟩:=HT2.out;have Hh:=hidI hh;have Hown:=hidI ho;clear ho hh HT Hat HN;go_wp2_with (first | (at_range;refine wpList_range_own _ rfl _ 64 rfl 9 94 law9 Tryz.underlying64 _ w.heap.size _ D rfl Hown.out ?_;intro w0 hrg0 hg0 hs0) | go_in)
  go_frame
  have Hb0:Hid (Below w.heap.size w w0):=Hb.out.grown hg0 Hb.out.size (fun q hq=>by cases hq);have Hrg0:=hidI hrg0;have hwr:=Hb.out.size;clear hrg0 hg0 Hown HT2 hs0 Hb;obtain ⟨r,hr⟩:∃ r,r=wr.heap.size:=⟨_,rfl⟩;rw [←hr] at Hrg0 hwr ⊢;clear hr
  go_loopw [9] (fun _ wx=>∃ (left:Lit→Bool) (cnt:Nat),wx.ranges Tryz.prog 9 ndOf w.heap.size r (Maps.size D) D left cnt∧Hid (∀ p,Maps.has D (.string p)=true→left (.string p)=false→enterE l p=0)∧Hid (Below w.heap.size w wx))
   (fun _ wx=>wx.rangeLeft w.heap.size r)
  case atStart=>exact ⟨_,_,Hrg0.out,hidI (fun p h1 h2=>by rw [h1] at h2;cases h2),Hb0⟩
  obtain ⟨left,cnt,hrg,He,Hbx⟩:=hrel;clear Hb0 Hrg0;go_wp2_with (first | (at_next;refine wpList_next_ranges _ rfl _ rfl 9 law9 ndOf (fun x:Bs=>.string (txt x)) id (fun key kl hk=>by obtain ⟨x,hx,_⟩:=Maps.keyOf_str Tryz.underlying9 hk;exact ⟨x,hx⟩) (fun v _ _=>⟨v,rfl⟩) w.heap.size r _ _ _ _ rfl hrg ?_ ?_) | go_in)
  ·intro _ hl0;have HR:Hid (isTree l=true):=qlq h60 Hok.out Hnd.out (fun x hx=>He.out x.path (by rw [(Hh.out x.path).1,at_mem Hnd.out hx];rfl) (hl0 _));have HTx:Hid (TreeAt _ w.heap.size l):=⟨D,tight hrg.owns,Hh.out⟩;go_wp2;go_ret2
   exact ⟨Hbx.out,.inr ⟨HR.out,_,rfl,Nat.le_refl _,HTx.out⟩⟩
  intro p cv kl yd yp w2 cnt2 hkey hlk hv hat hrg2 hlt2 hg2 hs2 hen;obtain ⟨p',ep,rfl,_⟩:=Maps.keyOf_str Tryz.underlying9 hkey;obtain rfl:p=p':=by cases ep;rfl
  have hhas:Maps.has D (.string p)=true:=Maps.has_true_of_atKey hat;rw [(Hh.out p).1] at hhas;obtain ⟨x,hx⟩:=Option.isSome_iff_exists.1 hhas;obtain ⟨hxl,hxp⟩:=qau hx;have hpl:p.length≤1048576:=by rw [←hxp];exact Hp.out x hxl
  have hT2:TreeAt w2 w.heap.size l:=⟨D,tight hrg2.owns,Hh.out⟩;have HE:=hidI (qfM w.heap.size l p w2 hT2 hpl);have Hbx2:Hid (Below w.heap.size w w2):=Hbx.out.grown hg2 Hbx.out.size (fun q hq=>by cases hq;exact hwr);have hszx:=Hbx2.out.size;have Hrg2:=hidI hrg2;have Hrg:=hidI hrg;have Hxl:=hidI hxl;have Hxp:=hidI hxp;obtain ⟨ee,hee⟩:∃ ee,ee=enterE l p:=⟨_,rfl⟩;rw [←hee] at HE;have Hee:=hidI hee;clear hee hat hv hkey hlk hg2 hs2 hrg2 hrg hT2 hhas hx hxl hxp ep;by_cases h0e:ee=0
  ·subst h0e;go_wp2_with (go_at_call 72;refine HE.out.mono ?_;rintro e w3 ⟨hb3,rfl⟩);go_roundw
   case rel =>
    refine ⟨_,cnt2,Hrg2.out.kept (below_grown hb3) (by simp) (by simp),hidI (fun q h1 h2 => ?_),hidI (Hbx2.out.trans (hb3.mono hszx))⟩;by_cases e:q=p
    ·rw [e];exact Hee.out.symm
    refine He.out q h1 ?_;have hs:Lit.sameKey (.string q) (.string p)=false:=Maps.sameKey_ne (fun h=>e (by cases h;rfl));rw [hs] at h2;simpa using h2
   rw [(Hrg2.out.kept (below_grown hb3) (by simp) (by simp)).left_eq,Hrg.out.left_eq];exact hlt2
  have h0e':(ee != 0)=true:=bne_iff_ne.2 h0e;have HR:Hid (isTree l=false):=qi3 Hok.out Hnd.out Hxl.out (by rw [Hxp.out,←Hee.out];exact h0e);go_wp2_with (go_at_call 72;refine HE.out.mono ?_;rintro e w3 ⟨hb3,rfl⟩);go_ret2
  exact ⟨Hbx2.out.trans (hb3.mono hszx),.inl ⟨HR.out,rfl⟩⟩
 have HR:Hid (isTree l=false):=qjl (by omega);go_enter Tryz.func45,Tryz.ntmps45
 go_wp2;go_ret2
 exact ⟨Below.refl _ _,.inl ⟨HR.out,rfl⟩⟩
structure PackC (u:Bs→Option Bs):Prop where
 small:∀ (t d:Bs),u t=some d→d.length≤4000
 pack:∀ (w:World) (d:Bs),d.length≤4000→Calls Tryz.prog 109 #[.string (txt d)] w fun e w'=>∃ t,e=.returned (.tuple #[.string (txt t),.int .i64 0])∧u t=some d∧t.length≤d.length+1∧Below w.heap.size w w'
 some:∀ (w:World) (t d:Bs),t.length≤1000000→u t=some d→Calls Tryz.prog 97 #[.string (txt t)] w fun e w'=>e=.returned (.tuple #[.string (txt d),.int .i64 0])∧Below w.heap.size w w'
 none:∀ (w:World) (t:Bs),t.length≤1000000→u t=none→Calls Tryz.prog 97 #[.string (txt t)] w fun e w'=>e=.returned (.tuple #[.string ⟨#[]⟩,.int .i64 2])∧Below w.heap.size w w'
def headB (k t:Nat) (p:Bs):Bs:=enc 2 k++enc 4 t++enc 1 p.length++p
theorem Bytes.alloc {w:World} {B:Nat} {v:Value} {l:Bs} (h:Bytes w B v l) (o:Obj):Bytes (w.alloc o) B v l:=World.ownsRow.alloc h o
theorem Bytes.below {w w':World} {B M:Nat} {v:Value} {l:Bs} (h:Bytes w B v l) (hb:Below M w w') (hM:w.heap.size≤M):Bytes w' B v l:=own_below h hb (fun q hq=>Nat.lt_of_lt_of_le (World.ownsRow.lt h q hq).2 hM)
theorem qgX {u:Bs→Option Bs} (B:Nat) (v:Value) (l:Bs) (x:It) (w:World) (hB:B≤w.heap.size) (hv:Bytes w B v l) (hl:l.length≤900000) (hf:Fit x) (hd:x.dir=true) :
 Calls Tryz.prog 75 #[v,itv x] w fun e w'=>∃ v' a,e=.returned v'∧IsItem u x a∧Bytes w' B v' (l++a)∧Below B w w'∧But 5 w w':=by
 obtain ⟨i0,hi,hz0,hz1,hz2⟩:=info_parts Tryz.info5;obtain ⟨m0,m1,t0,t1,hp,hda,he⟩:=hf;obtain ⟨p,d,dt,m,t⟩:=x;simp only at *;subst hd;obtain rfl:=he rfl;obtain ⟨M,rfl⟩:=Int.eq_ofNat_of_zero_le m0;obtain ⟨T,rfl⟩:=Int.eq_ofNat_of_zero_le t0;have hor:=or15 M m0 m1;unfold itv;obtain ⟨X,hX⟩:∃ X,X=txt p:=⟨_,rfl⟩;have Sx:X.size=p.length:=by rw [hX,qaa]
 have HX:=hidI hX;have HS:=hidI Sx;have hXs:X.size≤255:=by omega
 clear Sx;simp only;rw [←hX];obtain ⟨Wb,hWb⟩:∃ Wb,Wb=w.alloc (.cells #[.string X,.bool true,.string (txt []),.int .i64 M,.int .i64 T] 53):=⟨_,rfl⟩;have hbx:Wb.heap[w.heap.size]? = some (.cells #[.string X,.bool true,.string (txt []),.int .i64 M,.int .i64 T] 53 (0,0)):=by rw [hWb];exact heap_alloc_new _ _
 have hB1:Below B w Wb:=by rw [hWb];exact (Below.refl _ w).alloc hB _
 have hbut1:But 5 w Wb:=by rw [hWb];exact (But.refl _ w).alloc _
 have hv1:Bytes Wb B v l:=by rw [hWb];exact hv.alloc _
 have A1:=hidI (qav B v l 2 (M+32768) Wb (by have:=hB1.size;omega) hv1 (by decide) (by omega) (by omega));have HWb:=hidI hWb;have Hbx:=hidI hbx;have HB1:=hidI hB1;have Hbut1:=hidI hbut1;have hszb:=hB1.size;clear hX hbx hB1 hbut1 hv1 hv he hWb;go_enter Tryz.func75,Tryz.ntmps75
 go_wp2_with fail;rw [←HWb.out];refine A1.out.mono ?_;rintro e w1 ⟨v1,rfl,hv1,hb1,hk1⟩;have hx1:=hk1.cells Hbx.out (by decide);have c14:w1.cell? ⟨w.heap.size,4,none⟩=some (.int .i64 T):=by rw [cell_of_row w1 w.heap.size 4 _ 53 (0,0) hx1];rfl
 have A2:=hidI (qav B v1 _ 4 T w1 (by have:=hb1.size;omega) hv1 (by decide) (by rw [List.length_append,qab];omega) (by omega));have Hx1:=hidI hx1;have Hb1:=hidI (HB1.out.trans hb1);have Hk1:=hidI (Hbut1.out.trans hk1);have hsz1:=hb1.size;clear A1 hx1 hb1 hk1 hv1;go_wp2_with fail;refine A2.out.mono ?_;rintro e w2 ⟨v2,rfl,hv2,hb2,hk2⟩;have hx2:=hk2.cells Hx1.out (by decide);have c20:w2.cell? ⟨w.heap.size,0,none⟩=some (.string X):=by rw [cell_of_row w2 w.heap.size 0 _ 53 (0,0) hx2];rfl
 have A3:=hidI (qav B v2 _ 1 X.size w2 (by have:=hb2.size;omega) hv2 (by decide) (by rw [List.length_append,List.length_append,qab,qab];omega) (by omega));have Hx2:=hidI hx2;have Hb2:=hidI (Hb1.out.trans hb2);have Hk2:=hidI (Hk1.out.trans hk2);have hsz2:=hb2.size;clear A2 hx2 hb2 hk2 hv2 c14 Hx1 Hb1 Hk1;go_wp2_with fail;refine A3.out.mono ?_;rintro e w3 ⟨v3,rfl,hv3,hb3,hk3⟩;have hx3:=hk3.cells Hx2.out (by decide);have c30:w3.cell? ⟨w.heap.size,0,none⟩=some (.string X):=by rw [cell_of_row w3 w.heap.size 0 _ 53 (0,0) hx3];rfl
 obtain ⟨a3,cp3,rfl⟩:=hv3.slice;obtain ⟨L,hL⟩:∃ L,L=(l++enc 2 (M+32768)++enc 4 T++enc 1 X.size).length:=⟨_,rfl⟩;have hLl:L≤900007:=by rw [hL];simp [qab];omega
 have Ho:Hid (w3.ownsRow B 5 1 (.slice a3 L cp3) L (bv (l++enc 2 (M+32768)++enc 4 T++enc 1 X.size))):=hidI (by unfold Bytes at hv3;rw [←hL] at hv3;exact hv3);rw [←hL];have HL:=hidI hL;have Hx3:=hidI hx3;have Hb3:=hidI (Hb2.out.trans hb3);have Hk3:=hidI (Hk2.out.trans hk3);have hsz3:=hb3.size;clear A3 hx3 hb3 hk3 hv3 c20 Hx2 Hb2 Hk2 hL;go_wp2_with (at_builtin;refine Lib.wpList_append_own_string _ rfl (.tmp 26) (.tmp 28) 50 9 rfl B 5 i0 Tryz.underlying50 Tryz.underlying9 hi hz0 hz1 hz2 _ _ _ rfl Ho.out X rfl ?c3 ?c4 ?c5 ?_)
 case c3=>unfold maxLen;omega
 case c4=>omega
 case c5=>omega
 intro v4 w4 hown4 hgrow _;have hb4:Below B w w4:=Hb3.out.grown hgrow (by omega) (fun q hq=>(Ho.out.lt q hq).1);have hk4:But 5 w w4:=Hk3.out.grown Ho.out hgrow;have hx4:=(((But.refl 5 w3).grown Ho.out hgrow).cells Hx3.out (by decide));have c41:w4.cell? ⟨w.heap.size,1,none⟩=some (.bool true):=by rw [cell_of_row w4 w.heap.size 1 _ 53 (0,0) hx4];rfl
 have hv4:Hid (Bytes w4 B v4 (l++headB (M+32768) T p)):=by
  refine hidI ?_;unfold Bytes;have h1:=HX.out;have h2:=HL.out;have Sx:=HS.out;have e1:l++headB (M+32768) T p=l++enc 2 (M+32768)++enc 4 T++enc 1 X.size++p:=by unfold headB;rw [Sx];simp
  rw [e1,qaM,List.length_append,←h2,←qfs p,←h1,←Sx];simp only [List.append_assoc];exact hown4
 have Hb4:=hidI hb4;have Hk4:=hidI hk4;clear hown4 hgrow hb4 hk4 hx4 c30;go_wp2;go_ret
 refine ⟨v4,headB (M+32768) T p,rfl,?_,hv4.out,Hb4.out,Hk4.out⟩;unfold IsItem;rw [if_pos rfl];rfl
theorem qf5 {u:Bs→Option Bs} (hP:PackC u) (B:Nat) (v:Value) (l:Bs) (x:It) (w:World) (hB:B≤w.heap.size) (hv:Bytes w B v l) (hl:l.length≤900000) (hf:Fit x) (hd:x.dir=false) :
 Calls Tryz.prog 75 #[v,itv x] w fun e w'=>∃ v' a,e=.returned v'∧IsItem u x a∧Bytes w' B v' (l++a)∧Below B w w'∧But 5 w w':=by
 obtain ⟨i0,hi,hz0,hz1,hz2⟩:=info_parts Tryz.info5;obtain ⟨m0,m1,t0,t1,hp,hda,he⟩:=hf;obtain ⟨p,d,dt,m,t⟩:=x;simp only at *;subst hd;obtain ⟨M,rfl⟩:=Int.eq_ofNat_of_zero_le m0;obtain ⟨T,rfl⟩:=Int.eq_ofNat_of_zero_le t0;unfold itv;obtain ⟨X,hX⟩:∃ X,X=txt p:=⟨_,rfl⟩;have Sx:X.size=p.length:=by rw [hX,qaa]
 have HX:=hidI hX;obtain ⟨Y,hY⟩:∃ Y,Y=txt dt:=⟨_,rfl⟩;have HPk:=hidI (fun W=>hP.pack W dt hda);rw [←hY] at HPk;have HS:=hidI Sx;have hXs:X.size≤255:=by omega
 clear Sx;simp only;rw [←hX,←hY];obtain ⟨Wb,hWb⟩:∃ Wb,Wb=w.alloc (.cells #[.string X,.bool false,.string Y,.int .i64 M,.int .i64 T] 53):=⟨_,rfl⟩;have hbx:Wb.heap[w.heap.size]? = some (.cells #[.string X,.bool false,.string Y,.int .i64 M,.int .i64 T] 53 (0,0)):=by rw [hWb];exact heap_alloc_new _ _
 have hB1:Below B w Wb:=by rw [hWb];exact (Below.refl _ w).alloc hB _
 have hbut1:But 5 w Wb:=by rw [hWb];exact (But.refl _ w).alloc _
 have hv1:Bytes Wb B v l:=by rw [hWb];exact hv.alloc _
 have A1:=hidI (qav B v l 2 M Wb (by have:=hB1.size;omega) hv1 (by decide) (by omega) (by omega));have HWb:=hidI hWb;have Hbx:=hidI hbx;have HB1:=hidI hB1;have Hbut1:=hidI hbut1;have hszb:=hB1.size;clear hX hbx hB1 hbut1 hv1 hv he hWb hY hP;go_enter Tryz.func75,Tryz.ntmps75
 go_wp2_with fail;rw [←HWb.out];refine A1.out.mono ?_;rintro e w1 ⟨v1,rfl,hv1,hb1,hk1⟩;have hx1:=hk1.cells Hbx.out (by decide);have c14:w1.cell? ⟨w.heap.size,4,none⟩=some (.int .i64 T):=by rw [cell_of_row w1 w.heap.size 4 _ 53 (0,0) hx1];rfl
 have A2:=hidI (qav B v1 _ 4 T w1 (by have:=hb1.size;omega) hv1 (by decide) (by rw [List.length_append,qab];omega) (by omega));have Hx1:=hidI hx1;have Hb1:=hidI (HB1.out.trans hb1);have Hk1:=hidI (Hbut1.out.trans hk1);have hsz1:=hb1.size;clear A1 hx1 hb1 hk1 hv1;go_wp2_with fail;refine A2.out.mono ?_;rintro e w2 ⟨v2,rfl,hv2,hb2,hk2⟩;have hx2:=hk2.cells Hx1.out (by decide);have c20:w2.cell? ⟨w.heap.size,0,none⟩=some (.string X):=by rw [cell_of_row w2 w.heap.size 0 _ 53 (0,0) hx2];rfl
 have A3:=hidI (qav B v2 _ 1 X.size w2 (by have:=hb2.size;omega) hv2 (by decide) (by rw [List.length_append,List.length_append,qab,qab];omega) (by omega));have Hx2:=hidI hx2;have Hb2:=hidI (Hb1.out.trans hb2);have Hk2:=hidI (Hk1.out.trans hk2);have hsz2:=hb2.size;clear A2 hx2 hb2 hk2 hv2 c14 Hx1 Hb1 Hk1;go_wp2_with fail;refine A3.out.mono ?_;rintro e w3 ⟨v3,rfl,hv3,hb3,hk3⟩;have hx3:=hk3.cells Hx2.out (by decide);have c30:w3.cell? ⟨w.heap.size,0,none⟩=some (.string X):=by rw [cell_of_row w3 w.heap.size 0 _ 53 (0,0) hx3];rfl
 obtain ⟨a3,cp3,rfl⟩:=hv3.slice;obtain ⟨L,hL⟩:∃ L,L=(l++enc 2 M++enc 4 T++enc 1 X.size).length:=⟨_,rfl⟩;have hLl:L≤900007:=by rw [hL];simp [qab];omega
 have Ho:Hid (w3.ownsRow B 5 1 (.slice a3 L cp3) L (bv (l++enc 2 M++enc 4 T++enc 1 X.size))):=hidI (by unfold Bytes at hv3;rw [←hL] at hv3;exact hv3);rw [←hL];have HL:=hidI hL;have Hx3:=hidI hx3;have Hb3:=hidI (Hb2.out.trans hb3);have Hk3:=hidI (Hk2.out.trans hk3);have hsz3:=hb3.size;clear A3 hx3 hb3 hk3 hv3 c20 Hx2 Hb2 Hk2 hL;go_wp2_with (at_builtin;refine Lib.wpList_append_own_string _ rfl (.tmp 26) (.tmp 28) 50 9 rfl B 5 i0 Tryz.underlying50 Tryz.underlying9 hi hz0 hz1 hz2 _ _ _ rfl Ho.out X rfl ?c3 ?c4 ?c5 ?_)
 case c3=>unfold maxLen;omega
 case c4=>omega
 case c5=>omega
 intro v4 w4 hown4 hgrow _;have hb4:Below B w w4:=Hb3.out.grown hgrow (by omega) (fun q hq=>(Ho.out.lt q hq).1);have hk4:But 5 w w4:=Hk3.out.grown Ho.out hgrow;have hx4:=(((But.refl 5 w3).grown Ho.out hgrow).cells Hx3.out (by decide));have c41:w4.cell? ⟨w.heap.size,1,none⟩=some (.bool false):=by rw [cell_of_row w4 w.heap.size 1 _ 53 (0,0) hx4];rfl
 have hv4:Hid (Bytes w4 B v4 (l++headB M T p)):=by
  refine hidI ?_;unfold Bytes;have h1:=HX.out;have h2:=HL.out;have Sx:=HS.out;have e1:l++headB M T p=l++enc 2 M++enc 4 T++enc 1 X.size++p:=by unfold headB;rw [Sx];simp
  rw [e1,qaM,List.length_append,←h2,←qfs p,←h1,←Sx];simp only [List.append_assoc];exact hown4
 have c42:w4.cell? ⟨w.heap.size,2,none⟩=some (.string Y):=by rw [cell_of_row w4 w.heap.size 2 _ 53 (0,0) hx4];rfl
 have Hb4:=hidI hb4;have Hk4:=hidI hk4;have hsz4:=hgrow.size;clear hown4 hgrow hb4 hk4 hx4 c30;go_wp2_with fail;refine (HPk.out w4).mono ?_;rintro e w5 ⟨t,rfl,hu,htl,hb5⟩;obtain ⟨a4,cp4,rfl⟩:=hv4.out.slice;obtain ⟨J,hJ⟩:∃ J,J=(l++headB M T p).length:=⟨_,rfl⟩;have Hv5:Hid (Bytes w5 B (.slice a4 J cp4) (l++headB M T p)):=hidI (by rw [hJ];exact hv4.out.below hb5 (Nat.le_refl _));have hJl:J≤900270:=by rw [hJ];simp [headB,qab];omega
 rw [←hJ];clear hJ;obtain ⟨Z,hZ⟩:∃ Z,Z=txt t:=⟨_,rfl⟩;have SZ:Z.size=t.length:=by rw [hZ,qaa]
 have A6:=hidI (qav B _ _ 2 Z.size w5 (by have:=hb5.size;have:=Hb4.out.size;omega) Hv5.out (by decide) (by simp [headB,qab];omega) (by omega));have hA6:True:=trivial;rw [←hZ];have HZ:=hidI hZ;have HSZ:=hidI SZ;have Hu:=hidI hu;have Htl:=hidI htl;have Hb5:=hidI (Hb4.out.trans (hb5.mono (by have:=Hb4.out.size;omega)));have Hk5:=hidI (Hk4.out.below hb5);have hsz5:=hb5.size;have hZl:Z.size≤4001:=by omega
 clear hZ SZ hu htl hb5 hv4 Hb4 Hk4 c41 c42 HPk;go_wp2_with fail;refine A6.out.mono ?_;rintro e w6 ⟨v6,rfl,hv6,hb6,hk6⟩;obtain ⟨a6,cp6,rfl⟩:=hv6.slice;obtain ⟨K,hK⟩:∃ K,K=(l++headB M T p++enc 2 Z.size).length:=⟨_,rfl⟩;have hKl:K≤900300:=by rw [hK];simp [headB,qab];omega
 have Ho6:Hid (w6.ownsRow B 5 1 (.slice a6 K cp6) K (bv (l++headB M T p++enc 2 Z.size))):=hidI (by unfold Bytes at hv6;rw [←hK] at hv6;exact hv6);rw [←hK];have HK:=hidI hK;have Hb6:=hidI (Hb5.out.trans hb6);have Hk6:=hidI (Hk5.out.trans hk6);have hsz6:=hb6.size;have hszw:=Hb5.out.size;clear hK hv6 hb6 hk6 Hb5 Hk5 A6 Hv5;go_wp2_with (at_builtin;refine Lib.wpList_append_own_string _ rfl (.tmp 43) (.tmp 44) 50 9 rfl B 5 i0 Tryz.underlying50 Tryz.underlying9 hi hz0 hz1 hz2 _ _ _ rfl Ho6.out Z rfl ?c3 ?c4 ?c5 ?_)
 case c3=>unfold maxLen;omega
 case c4=>omega
 case c5=>omega
 intro v7 w7 hown7 hgrow7 _;have hb7:Below B w w7:=Hb6.out.grown hgrow7 (by omega) (fun q hq=>(Ho6.out.lt q hq).1);have hk7:But 5 w w7:=Hk6.out.grown Ho6.out hgrow7;have hv7:Hid (Bytes w7 B v7 (l++(headB M T p++enc 2 t.length++t))):=by
  refine hidI ?_;unfold Bytes;have h1:=HZ.out;have h2:=HK.out;have h3:=HSZ.out;have e1:l++(headB M T p++enc 2 t.length++t)=l++headB M T p++enc 2 Z.size++t:=by rw [h3];simp
  rw [e1,qaM,List.length_append,←h2,←qfs t,←h1,←h3];simp only [List.append_assoc] at hown7 ⊢;exact hown7
 have Hb7:=hidI hb7;have Hk7:=hidI hk7;clear hown7 hgrow7 hb7 hk7;go_wp2;go_ret
 refine ⟨v7,headB M T p++enc 2 t.length++t,rfl,?_,hv7.out,Hb7.out,Hk7.out⟩;unfold IsItem;exact ⟨t,Hu.out,Htl.out,rfl⟩
theorem qgE {u:Bs→Option Bs} (hP:PackC u) (B:Nat) (v:Value) (l:Bs) (x:It) (w:World) (hB:B≤w.heap.size) (hv:Bytes w B v l) (hl:l.length≤900000) (hf:Fit x) :
 Calls Tryz.prog 75 #[v,itv x] w fun e w'=>∃ v' a,e=.returned v'∧IsItem u x a∧Bytes w' B v' (l++a)∧Below B w w'∧But 5 w w':=by
 cases hd:x.dir with
 | true=>exact qgX B v l x w hB hv hl hf hd
 | false=>exact qf5 hP B v l x w hB hv hl hf hd
end Go.Proofs.YtodmdkhdbfbfgabGreatDoor
