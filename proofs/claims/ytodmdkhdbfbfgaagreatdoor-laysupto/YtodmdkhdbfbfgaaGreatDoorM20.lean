/- Lemmas. -/
import Derived.Defers
import Derived.Test.YtodmdkhdbfbfgaaGreatDoorM19
set_option linter.unusedVariables false
set_option linter.unusedSimpArgs false
set_option maxRecDepth 100000
set_option maxHeartbeats 8000000
open Go.Proofs.Tryz
namespace Go.Proofs.YtodmdkhdbfbfgaaGreatDoor
section
open Go.RowKit Go.Nt Go.Sort Go.Shelf
def KU(l:List Bs):List Bs:=l.mergeSort λx y=>decide (x<=y)
theorem Wo(l:List Bs):sv l=l.map encStr:=rfl
theorem Tk{a b:List Bs}(h:a.Perm b):KU a=KU b:=by
 have tr:∀x y z:Bs,decide (x<=y)=true->decide (y<=z)=true->decide (x<=z)=true:=λx y z h1 h2=>by simp at h1 h2 ⊢;exact List.le_trans h1 h2
 have tt:∀x y:Bs,(decide (x<=y)||decide (y<=x))=true:=λx y=>by
  rcases List.le_total x y with h | h<;>simp[h]
 unfold KU;refine Ci (le:=λx y:Bs=>decide (x<=y)=true) (λx y _ _ h1 h2 => ?_) (CE tr tt a) (CE tr tt b) (((CI _ _).trans h).trans (CI _ _).symm);simp at h1 h2;exact List.le_antisymm h1 h2
theorem Xo(l:List Bs):(KU l).length=l.length:=(CI _ _).length_eq
theorem eQ(B:Nat)(v:Value)(l:List Bs)(w:D7)(ho:w.ownsRow B 9 1 v l.length (sv l))(hl:l.length<=1000) :
 Calls prog 70 #[v] w λe w'=>e=.returned (.tuple #[])/\w'.ownsRow B 9 1 v l.length (sv (KU l))/\w.grownBy w' v.ownBlock:=by
 rcases ho.2 with⟨rfl,h0⟩ | ⟨g,cap,cur,rfl,hbase,hgb,r1,r2,r3,r4⟩
 ·have a0:=BN.1 h0;subst a0;refine(Any.slices_Sort_string_none MN none 0 w).mono ?_;rintro e w' ⟨rfl,rfl⟩;exact⟨rfl,by simpa[KU]using ho,⟨rfl,rfl,rfl,AB _,λ_ _ _=>rfl⟩⟩
 have hH:Holds encStr w g 0 l.toArray:=holds_of_block hgb (by simpa[Wo]using r4);have a1:g<w.heap.size:=(Az.1 hgb).1;refine(Any.slices_Sort_string MN g 0 cap l w hH a1 (by omega)).mono ?_;rintro e w' ⟨rfl,n,os,rfl⟩;refine⟨rfl,?_,grownBy_sorted _⟩;rw[Wo];exact ownsRow_sorted (by simp) hbase hgb r1 r2 r3
def GB(l:List It)(p:Bs):Int:=if p=[]then 0 else if FN l p=0 then(if(GI l p).dir then 0 else 6)else FN l p
def GJ(l:List It)(p:Bs):List Bs:=KU (((l.map (·.path)).filter λq=>decide (par q=p)).map nm)
def Ij(l:List It)(p:Bs)(w:D7)(e:Ending)(w':D7):Prop:=
 Below w.heap.size w w'/\((GB l p≠0/\e=.returned (.tuple #[.slice none 0 0,.int .i64 (GB l p)])) \/
  (GB l p=0/\∃v,e=.returned (.tuple #[v,.int .i64 0])/\w'.ownsRow w.heap.size 9 1 v (GJ l p).length (sv (GJ l p))))
theorem VL{w:D7}{B n:Nat}{e:TypeId}{v:Value}{xs:List Value}(h:w.ownsRow B e 1 v n xs):∃a c,v=.slice a n c:=by
 rcases h.2 with⟨rfl,h0⟩ | ⟨g,cap,cur,rfl,_⟩
 ·exact⟨none,0,by rw[h0]⟩
 exact⟨_,_,rfl⟩
theorem fm(b:Nat)(l:List It)(w:D7)(hT:Dk w b l)(hn:(l.map (·.path)).Nodup)(hl:l.length<=1000)(hq:∀x∈l,x.path.length<=1048576) :
 Calls prog 40 #[.map (some b),.string (D9 [])] w λe w'=>Ij l [] w e w':=by
 obtain⟨i0,hi,aR,b0,aQ⟩:=Ai JK;have b6:=hT.lt;have Hn:=Jy hn;have Hq:=Jy hq;obtain⟨D,ho,hh⟩:=hT;have aV:=Jy (Ry ho hh hn);have Hh:=Jy hh;have ae:=Jy ho;have aS:(D9 []).toList.isEmpty=true:=by rw[LC];rfl
 have HE:Hid (GB l []=0):=Jy (AE rfl);have ao:=Jy (AM w.heap.size w);clear hn hq ho hh;go_enter func40,ntmps40
 go_wp2_with (first | (at_range;refine wpList_range_own _ rfl _ 77 rfl 9 117 J0 underlying77 _ b _ D rfl ae.o ?_;intro w0 a7 aI aD) | go_in)
 go_frame
 have aG:Hid (Below w.heap.size w w0):=Jy (ao.o.grown aI ao.o.size (λq hq=>by cases hq));have a5:=Jy a7;clear a7 aI ae;obtain⟨r,hr⟩:=Jq w.heap.size;rw[<-hr]at a5 aD ⊢;have Kq:w.heap.size<=r:=by have:=ao.o.size;omega
 clear hr aD
 go_loopw [8] (λv wx=>∃(left:Lit->Bool) (cnt:Nat) (qs:List Bs),wx.ranges prog 9 IJ b r (Maps.size D) D left cnt/\qs.length+cnt<=l.length/\Hid (MK l (λq=>decide (par q=([]:Bs))) left qs)/\Hid (wx.ownsRow w.heap.size 9 1 v (qs.map nm).length (sv (qs.map nm)))/\Hid (Below w.heap.size w wx))
  (λ_ wx=>wx.rangeLeft b r)
 case atStart=>exact⟨_,_,[],a5.o,by have:=aV.o;simp;omega,Jy ⟨by simp,λq=>by simp;intro h1 h2;exact((Hh.o q).1).trans h1⟩,Jy (AZ _ _ _ _),aG⟩
 case round =>
  obtain⟨left,cnt,qs,ai,au,HP,HO,HB⟩:=hrel;clear aG a5;have aj:=HB.o.size;obtain⟨a8,c8,rfl⟩:=VL HO.o;obtain⟨L,hL⟩:=Jq ((qs.map nm).length);have aK:L=qs.length:=by rw[hL];simp
  rw[<-hL]at HO ⊢;have HL:=Jy hL;have aL:=Jy aK;have ax:L+cnt<=l.length:=by omega
  clear hL aK au;go_wp2_with (first | (at_next;refine wpList_next_ranges _ rfl _ rfl 9 J0 IJ (λx:Bs=>.string (D9 x)) id (λkey kl hk=>by obtain⟨x,hx,_⟩:=Maps.keyOf_str underlying9 hk;exact⟨x,hx⟩) (λv _ _=>⟨v,rfl⟩) b r _ _ _ _ rfl ai ?_ ?_) | go_in)
  ·intro _ aT;have hd:=HP.o.done Hn.o aT;have az:=Jy (eQ w.heap.size (.slice a8 L c8) (qs.map nm) wr (by have:=HL.o;rw[<-this];exact HO.o) (by have:=HL.o;omega));have HN:Hid (KU (qs.map nm)=GJ l ([]:Bs)):=Jy (Tk (hd.map nm));clear hd ai;go_wp2_with fail;refine az.o.mono ?_;rintro e w5 ⟨rfl,aJ,aE⟩;have aZ:Hid (Below w.heap.size w w5):=Jy (HB.o.grown aE aj (λq hq=>(HO.o.lt q hq).1));have b3:Hid (w5.ownsRow w.heap.size 9 1 (.slice a8 L c8) (GJ l ([]:Bs)).length (sv (GJ l ([]:Bs)))):=Jy (by
    have e1:(GJ l ([]:Bs)).length=(qs.map nm).length:=by rw[<-HN.o,Xo]
    rw[e1,<-HN.o];exact aJ)
   clear aJ aE az HP HO;go_wp2;go_ret2
   exact⟨aZ.o,.inr ⟨HE.o,_,rfl,b3.o⟩⟩
  intro q cv kl yd yp w2 af ag aB hv aH ah ad ar aP aY;obtain⟨q',ep,rfl,_⟩:=Maps.keyOf_str underlying9 ag;obtain rfl:q=q':=by cases ep;rfl
  have a3:Maps.has D (.string q)=true:=C5 aH;rw[(Hh.o q).1]at a3;have a9:=Jy (HP.o.step a3 aB);obtain⟨x,hx⟩:=CC.1 a3;obtain⟨aN,aw⟩:=Ml hx;have aU:q.length<=1048576:=by rw[<-aw];exact Hq.o x aN
  have HI:=Jy (f9 q w2 aU);have aF:Hid (Below w.heap.size w w2):=Jy (HB.o.grown ar aj (λk e=>by cases e;omega));have a0:∃a b' c d,wr.heap[r]? = some (.mapIter a b' c d):=by obtain⟨es,cl,si,se,c0,_,_,_,_,h5,_⟩:=ai;exact⟨_,_,_,_,h5⟩
  have an:Hid (w2.ownsRow w.heap.size 9 1 (.slice a8 L c8) L (sv (qs.map nm))):=Jy (by
   have a6:=HO.o;refine⟨a6.1,?_⟩;rcases a6.2 with h1 | ⟨g',cap',cur,h1,h2,h3,h4⟩
   ·exact .inl h1
   refine .inr ⟨g',cap',cur,h1,h2,(ar.block g' (lt_of_heap h3) (λe => ?_)).trans h3,h4⟩;obtain⟨a,b',c,d,hh⟩:=a0;cases e
   rw[hh]at h3;cases h3)
  have ac:=Jy ah;have aM:=Jy ai;have aX:wr.heap.size<=w2.heap.size:=by omega
  obtain⟨Q,hQ⟩:=Jq (D9 q);obtain⟨U,hU⟩:=Jq (D9 (par q));obtain⟨V,hV⟩:=Jq (D9 (nm q));rw[<-hQ]at HI aY ⊢;rw[<-hU,<-hV]at HI;have HU:=Jy hU;have HV:=Jy hV;obtain⟨o,a6⟩:=Jq (decide (par q=([]:Bs)));rw[<-a6]at a9;have b4:(U.toList==(D9 ([]:Bs)).toList)=o:=by rw[a6,hU,O8]
  clear a6 aH hv ag aB ar aP ah ai a3 hx aN aw ep a0 hQ HO HB hU hV;cases o with
  | false =>
    simp only[BS,C6]at a9;go_wp2_with fail;refine HI.o.mono ?_;rintro e w3 ⟨rfl,a2⟩;have av:=Jy (aF.o.trans (a2.zM));have aa:=Jy (own_below an.o a2 (λq hq=>(an.o.lt q hq).2));have am:=Jy (ac.o.kept (below_grown a2) (by simp) (by simp));clear a2 HI;go_wp2;go_roundw
    case rel=>exact⟨_,af,qs,am.o,by have:=aL.o;omega,a9,by have:=HL.o;rw[<-this];exact aa,av⟩
    case measure=>rw[am.o.left_eq,aM.o.left_eq];exact ad
  | true =>
    simp only[if_true]at a9;go_wp2_with fail;refine HI.o.mono ?_;rintro e w3 ⟨rfl,a2⟩;have av:=Jy (aF.o.trans (a2.zM));have aa:=Jy (own_below an.o a2 (λq hq=>(an.o.lt q hq).2));have am:=Jy (ac.o.kept (below_grown a2) (by simp) (by simp));have b5:=a2.size;clear a2 HI;go_wp2_with (at_builtin;refine Ar _ rfl (.tmp 44) (.tmp 46) 40 rfl w.heap.size 9 i0 (.string ByteArray.empty) 1 16 underlying40 hi aR b0 aQ rfl (by decide) _ _ _ rfl (aa.o.alloc _) ⟨w3.heap.size,0,none⟩ 1 1 [.string V] rfl rfl ?c1 ?c2 ?c3 ?c4 ?c5 ?_)
    case c1=>exact Bg _ _ _
    case c2=>intro u hu;simp at hu;subst hu;rfl
    case c3=>unfold maxLen;omega
    case c4=>omega
    case c5=>simp;omega
    intro v4 w4 a4 a1 _;have ay:Below w.heap.size w w4:=(av.o.zA).grown a1 (by simp;omega) (λk hk=>(aa.o.lt k hk).1);have aW:Hid (w4.ownsRow w.heap.size 9 1 v4 ((qs++[q]).map nm).length (sv ((qs++[q]).map nm))):=Jy (by
     have e1:sv ((qs++[q]).map nm)=sv (qs.map nm)++[.string V]:=by rw[HV.o];simp[sv]
     rw[e1,Aq,AN,<-HL.o];exact a4)
    have aC:=XL (am.o.kept (BV w3 (.cells #[.string V] 9) none) (by simp) (by simp)) (aa.o.alloc _) a1;have aA:=Jy aC;have aO:=Jy ay;clear a4 a1 ay aC;go_wp2;go_roundw
    case rel=>exact⟨_,af,qs++[q],aA.o,by rw[AN,<-aL.o];simp;omega,a9,aW,aO⟩
    case measure=>rw[aA.o.left_eq,aM.o.left_eq];exact ad
theorem kS(b:Nat)(l:List It)(p:Bs)(w:D7)(hT:Dk w b l)(hml:ML w)(hp0:p≠[])(hp:p.length<=1048576)(hn:(l.map (·.path)).Nodup)(hl:l.length<=1000)(hq:∀x∈l,x.path.length<=1048576) :
 Calls prog 40 #[.map (some b),.string (D9 p)] w λe w'=>Ij l p w e w':=by
 obtain⟨i0,hi,b3,bg,b0⟩:=Ai JK;have HR:=Jy (Y0 b l p w hT hml hp);have b7:=hT.lt;have Hn:=Jy hn;have Hq:=Jy hq;have HT:=Jy hT;have b4:(D9 p).toList.isEmpty=false:=by rw[LC];simpa using hp0
 obtain⟨n,av⟩:=Jq (GI l p);obtain⟨E,hE⟩:=Jq (FN l p);have aK:GB l p=if E=0 then(if n.dir then 0 else 6)else E:=by unfold GB;rw[AC hp0,<-av,<-hE]
 have aw:=Jy aK;rw[<-av,<-hE]at HR;unfold JX at HR;clear hn hq hT hml av hE aK;by_cases ay:E=0
 ·subst ay;cases hd:n.dir with
  | false =>
    have HE:Hid (GB l p=6):=Jy (by rw[aw.o,AE rfl,hd];rfl);rw[hd]at HR;go_enter func40,ntmps40
    go_wp2_with fail;refine HR.o.mono ?_;rintro e w1 ⟨a0,rfl⟩;have aA:=Jy a0;have aB:=a0.size;clear a0 HR;go_wp2;go_ret2
    exact⟨aA.o.alloc aB _,.inl ⟨by rw[HE.o];decide,by rw[HE.o];rfl⟩⟩
  | true =>
    have HE:Hid (GB l p=0):=Jy (by rw[aw.o,AE rfl,hd];rfl);rw[hd]at HR;go_enter func40,ntmps40
    go_wp2_with fail;refine HR.o.mono ?_;rintro e w1 ⟨a0,rfl⟩;have au:=HT.o.below a0 b7;obtain⟨W2,ag⟩:=Jq (w1.alloc (.cells #[.bool true,.string (D9 n.data),.int .i64 n.mode,.int .i64 n.time] 117));have b5:Dk W2 b l:=by rw[ag];exact au.of_block (AO _ _ _ au.lt)
    have ax:Hid (Below w.heap.size w W2):=Jy (by rw[ag];exact a0.alloc a0.size _);have m0:W2.cell? ⟨w1.heap.size,0,none⟩=some (.bool true):=by rw[ag,AG _ w1.heap.size 0 _ 117 (0,0) (AQ _ _)];rfl
    obtain⟨D,ho,hh⟩:=b5;have b9:=Jy (Ry ho hh Hn.o);have Hh:=Jy hh;have af:=Jy ho;have aX:=Jy ag;clear a0 HR au ag ho hh HT;go_wp2_with (first | (rw[<-aX.o]) | (at_range;refine wpList_range_own _ rfl _ 77 rfl 9 117 J0 underlying77 _ b _ D rfl af.o ?_;intro w0 a9 aR aM) | go_in)
    go_frame
    have aP:Hid (Below w.heap.size w w0):=Jy (ax.o.grown aR ax.o.size (λq hq=>by cases hq));have a6:=Jy a9;clear a9 aR af;obtain⟨r,hr⟩:=Jq W2.heap.size;rw[<-hr]at a6 aM ⊢;have Kq:w.heap.size<=r:=by have:=ax.o.size;omega
    clear hr aM
    go_loopw [8] (λv wx=>∃(left:Lit->Bool) (cnt:Nat) (qs:List Bs),wx.ranges prog 9 IJ b r (Maps.size D) D left cnt/\qs.length+cnt<=l.length/\Hid (MK l (λq=>decide (par q=p)) left qs)/\Hid (wx.ownsRow w.heap.size 9 1 v (qs.map nm).length (sv (qs.map nm)))/\Hid (Below w.heap.size w wx))
     (λ_ wx=>wx.rangeLeft b r)
    case atStart=>exact⟨_,_,[],a6.o,by have:=b9.o;simp;omega,Jy ⟨by simp,λq=>by simp;intro h1 h2;exact((Hh.o q).1).trans h1⟩,Jy (AZ _ _ _ _),aP⟩
    case round =>
     obtain⟨left,cnt,qs,am,aC,HP,HO,HB⟩:=hrel;clear aP a6;have an:=HB.o.size;obtain⟨a8,c8,rfl⟩:=VL HO.o;obtain⟨L,hL⟩:=Jq ((qs.map nm).length);have aT:L=qs.length:=by rw[hL];simp
     rw[<-hL]at HO ⊢;have HL:=Jy hL;have aU:=Jy aT;have aF:L+cnt<=l.length:=by omega
     clear hL aT aC;go_wp2_with (first | (at_next;refine wpList_next_ranges _ rfl _ rfl 9 J0 IJ (λx:Bs=>.string (D9 x)) id (λkey kl hk=>by obtain⟨x,hx,_⟩:=Maps.keyOf_str underlying9 hk;exact⟨x,hx⟩) (λv _ _=>⟨v,rfl⟩) b r _ _ _ _ rfl am ?_ ?_) | go_in)
     ·intro _ b6;have hd:=HP.o.done Hn.o b6;have aJ:=Jy (eQ w.heap.size (.slice a8 L c8) (qs.map nm) wr (by have:=HL.o;rw[<-this];exact HO.o) (by have:=HL.o;omega));have HN:Hid (KU (qs.map nm)=GJ l p):=Jy (Tk (hd.map nm));clear hd am;go_wp2_with fail;refine aJ.o.mono ?_;rintro e w5 ⟨rfl,aS,aN⟩;have bf:Hid (Below w.heap.size w w5):=Jy (HB.o.grown aN an (λq hq=>(HO.o.lt q hq).1));have bh:Hid (w5.ownsRow w.heap.size 9 1 (.slice a8 L c8) (GJ l p).length (sv (GJ l p))):=Jy (by
       have e1:(GJ l p).length=(qs.map nm).length:=by rw[<-HN.o,Xo]
       rw[e1,<-HN.o];exact aS)
      clear aS aN aJ HP HO;go_wp2;go_ret2
      exact⟨bf.o,.inr ⟨HE.o,_,rfl,bh.o⟩⟩
     intro q cv kl yd yp w2 ah ai aI hv aQ aj ad az aZ be;obtain⟨q',ep,rfl,_⟩:=Maps.keyOf_str underlying9 ai;obtain rfl:q=q':=by cases ep;rfl
     have a4:Maps.has D (.string q)=true:=C5 aQ;rw[(Hh.o q).1]at a4;have aa:=Jy (HP.o.step a4 aI);obtain⟨x,hx⟩:=CC.1 a4;obtain⟨aW,aE⟩:=Ml hx;have b8:q.length<=1048576:=by rw[<-aE];exact Hq.o x aW
     have HI:=Jy (f9 q w2 b8);have aO:Hid (Below w.heap.size w w2):=Jy (HB.o.grown az an (λk e=>by cases e;omega));have a1:∃a b' c d,wr.heap[r]? = some (.mapIter a b' c d):=by obtain⟨es,cl,si,se,c0,_,_,_,_,h5,_⟩:=am;exact⟨_,_,_,_,h5⟩
     have ar:Hid (w2.ownsRow w.heap.size 9 1 (.slice a8 L c8) L (sv (qs.map nm))):=Jy (by
      have a7:=HO.o;refine⟨a7.1,?_⟩;rcases a7.2 with h1 | ⟨g',cap',cur,h1,h2,h3,h4⟩
      ·exact .inl h1
      refine .inr ⟨g',cap',cur,h1,h2,(az.block g' (lt_of_heap h3) (λe => ?_)).trans h3,h4⟩;obtain⟨a,b',c,d,hh⟩:=a1;cases e
      rw[hh]at h3;cases h3)
     have ae:=Jy aj;have aV:=Jy am;have bc:wr.heap.size<=w2.heap.size:=by omega
     obtain⟨Q,hQ⟩:=Jq (D9 q);obtain⟨U,hU⟩:=Jq (D9 (par q));obtain⟨V,hV⟩:=Jq (D9 (nm q));rw[<-hQ]at HI be ⊢;rw[<-hU,<-hV]at HI;have HU:=Jy hU;have HV:=Jy hV;obtain⟨o,a7⟩:=Jq (decide (par q=p));rw[<-a7]at aa;have bi:(U.toList==(D9 p).toList)=o:=by rw[a7,hU,O8]
     clear a7 aQ hv ai aI az aZ aj am a4 hx aW aE ep a1 hQ HO HB hU hV;cases o with
     | false =>
       simp only[BS,C6]at aa;go_wp2_with fail;refine HI.o.mono ?_;rintro e w3 ⟨rfl,a3⟩;have aD:=Jy (aO.o.trans (a3.zM));have ac:=Jy (own_below ar.o a3 (λq hq=>(ar.o.lt q hq).2));have ao:=Jy (ae.o.kept (below_grown a3) (by simp) (by simp));clear a3 HI;go_wp2;go_roundw
       case rel=>exact⟨_,ah,qs,ao.o,by have:=aU.o;omega,aa,by have:=HL.o;rw[<-this];exact ac,aD⟩
       case measure=>rw[ao.o.left_eq,aV.o.left_eq];exact ad
     | true =>
       simp only[if_true]at aa;go_wp2_with fail;refine HI.o.mono ?_;rintro e w3 ⟨rfl,a3⟩;have aD:=Jy (aO.o.trans (a3.zM));have ac:=Jy (own_below ar.o a3 (λq hq=>(ar.o.lt q hq).2));have ao:=Jy (ae.o.kept (below_grown a3) (by simp) (by simp));have bj:=a3.size;clear a3 HI;go_wp2_with (at_builtin;refine Ar _ rfl (.tmp 44) (.tmp 46) 40 rfl w.heap.size 9 i0 (.string ByteArray.empty) 1 16 underlying40 hi b3 bg b0 rfl (by decide) _ _ _ rfl (ac.o.alloc _) ⟨w3.heap.size,0,none⟩ 1 1 [.string V] rfl rfl ?c1 ?c2 ?c3 ?c4 ?c5 ?_)
       case c1=>exact Bg _ _ _
       case c2=>intro u hu;simp at hu;subst hu;rfl
       case c3=>unfold maxLen;omega
       case c4=>omega
       case c5=>simp;omega
       intro v4 w4 a5 a2 _;have aG:Below w.heap.size w w4:=(aD.o.zA).grown a2 (by simp;omega) (λk hk=>(ac.o.lt k hk).1);have bb:Hid (w4.ownsRow w.heap.size 9 1 v4 ((qs++[q]).map nm).length (sv ((qs++[q]).map nm))):=Jy (by
        have e1:sv ((qs++[q]).map nm)=sv (qs.map nm)++[.string V]:=by rw[HV.o];simp[sv]
        rw[e1,Aq,AN,<-HL.o];exact a5)
       have aL:=XL (ao.o.kept (BV w3 (.cells #[.string V] 9) none) (by simp) (by simp)) (ac.o.alloc _) a2;have aH:=Jy aL;have aY:=Jy aG;clear a5 a2 aG aL;go_wp2;go_roundw
       case rel=>exact⟨_,ah,qs++[q],aH.o,by rw[AN,<-aU.o];simp;omega,aa,bb,aY⟩
       case measure=>rw[aH.o.left_eq,aV.o.left_eq];exact ad
 have HE:Hid (GB l p=E):=Jy (by rw[aw.o,AC ay]);go_enter func40,ntmps40
 go_wp2_with fail;refine HR.o.mono ?_;rintro e w1 ⟨a0,rfl⟩;have aA:=Jy a0;have aB:=a0.size;clear a0 HR;go_wp2;go_ret2
 exact⟨aA.o.alloc aB _,.inl ⟨by rw[HE.o];exact ay,by rw[HE.o];rfl⟩⟩
theorem iE(b:Nat)(l:List It)(p:Bs)(w:D7)(hT:Dk w b l)(ht:Ev l)(hml:ML w)(hp:p.length<=1048576) :
 Calls prog 40 #[.map (some b),.string (D9 p)] w λe w'=>Ij l p w e w':=by
 have hq:∀x∈l,x.path.length<=1048576:=λx hx=>by have:=(Nw (ht.ok x hx)).p;omega
 have hl:l.length<=1000:=by have:=ht.len;omega
 by_cases h:p=[]
 ·subst h;exact fm b l w hT ht.nodup hl hq
 exact kS b l p w hT hml h hp ht.nodup hl hq
end
section
open Go.RowKit Go.Nt
theorem jH(w:D7)(lo hi cb:Nat)(L:S1.Loc)(m:S1.M)(X:ByteArray)(b n e:Nat)(q:Option Nat)(h:S1.CP w lo hi cb L m)(hsz:hi<=w.heap.size) :
 Calls prog 47 #[.pointer (some ⟨cb,0,none⟩),.agg #[.string X,.int .i64 b,.int .u32 n,.map q,.int .i64 e]] w λe' w'=>∃lb,e'=.returned (.pointer (some ⟨lb,0,none⟩))/\w.heap.size<=lb/\S1.E8 w' lb cb ⟨b,n,none⟩ q none e m.np/\Below w.heap.size w w':=by
 obtain⟨W1,a3⟩:=Jq (w.alloc (.cells #[.string X,.int .i64 b,.int .u32 n,.map q,.int .i64 e] 94));obtain⟨rb,a2⟩:=Jq w.heap.size;have a4:Below w.heap.size w W1:=by rw[a3];exact(AM _ w).alloc (AB _) _
 have a0:W1.heap[rb]? = some (.cells #[.string X,.int .i64 b,.int .u32 n,.map q,.int .i64 e] 94 (0,0)):=by rw[a3,a2];exact AQ _ _
 have a7:S1.CP W1 lo hi cb L m:=S1.Db.below h hsz a4;have A:=Jy (S1.Er W1.drew lo hi cb L m a7.drew);have r1:W1.drew.cell? ⟨rb,1,none⟩=some (.int .i64 b):=by rw[AJ (w:=W1) (w':=W1.drew) rfl,AG W1 rb 1 _ 94 (0,0) a0];rfl
 have r2:W1.drew.cell? ⟨rb,2,none⟩=some (.int .u32 n):=by rw[AJ (w:=W1) (w':=W1.drew) rfl,AG W1 rb 2 _ 94 (0,0) a0];rfl
 have r3:W1.drew.cell? ⟨rb,3,none⟩=some (.map q):=by rw[AJ (w:=W1) (w':=W1.drew) rfl,AG W1 rb 3 _ 94 (0,0) a0];rfl
 have r4:W1.drew.cell? ⟨rb,4,none⟩=some (.int .i64 e):=by rw[AJ (w:=W1) (w':=W1.drew) rfl,AG W1 rb 4 _ 94 (0,0) a0];rfl
 obtain⟨np,a8⟩:=Jq m.np;rw[<-a8]at A ⊢;have a6:=Jy a4;have ae:=Jy a3;have aa:=Jy a2;have ad:=lt_of_heap a0;rw[<-a2];rw[<-a2]at a6;clear a8 a3 a2 a4 a7 h a0;go_enter func47,ntmps47
 go_wp2_with (first | (rw[<-ae.o,<-aa.o]) | fail);refine BE (S:=λV=>V.cell? ⟨rb,1,none⟩=some (.int .i64 b)/\V.cell? ⟨rb,2,none⟩=some (.int .u32 n)/\V.cell? ⟨rb,3,none⟩=some (.map q)/\V.cell? ⟨rb,4,none⟩=some (.int .i64 e)) (by kernel_rfl) ⟨r1,r2,r3,r4⟩ (λhHeld => ?_);refine tk 0 ⟨some 5,.move (.tmp 0),_,_,_,none⟩ (.pointer (some ⟨cb,0,none⟩)) rfl (λw h=>by go_simp) hHeld ?_;simp only[zP,List.set];refine tk 1 ⟨some 6,.fieldAddr 94 (.tmp 3) 1,_,_,_,none⟩ (.pointer (some ⟨rb,1,none⟩)) rfl (λw h=>by go_simp) hHeld ?_;simp only[zP,List.set]
 refine tk 2 ⟨some 7,.load 90 (.tmp 6),_,_,_,none⟩ (.agg #[.int .i64 b,.int .u32 n]) rfl (λw h=>by go_simp) hHeld ?_;simp only[zP,List.set];refine tk 3 ⟨some 8,.fieldAddr 94 (.tmp 3) 2,_,_,_,none⟩ (.pointer (some ⟨rb,3,none⟩)) rfl (λw h=>by go_simp) hHeld ?_;simp only[zP,List.set];refine tk 4 ⟨some 9,.load 92 (.tmp 8),_,_,_,none⟩ (.map q) rfl (λw h=>by go_simp) hHeld ?_;simp only[zP,List.set];refine tk 5 ⟨some 10,.fieldAddr 94 (.tmp 3) 3,_,_,_,none⟩ (.pointer (some ⟨rb,4,none⟩)) rfl (λw h=>by go_simp) hHeld ?_;simp only[zP,List.set]
 refine tk 6 ⟨some 11,.load 3 (.tmp 10),_,_,_,none⟩ (.int .i64 e) rfl (λw h=>by go_simp) hHeld ?_;simp only[zP,List.set];refine tk 7 ⟨some 12,.move (.tmp 0),_,_,_,none⟩ (.pointer (some ⟨cb,0,none⟩)) rfl (λw h=>by go_simp) hHeld ?_;simp only[zP,List.set];refine rd 8 rfl (λK hK => ?_);go_simp;refine Jj A.o ?_;refine hK.o _ _ ⟨r1,r2,r3,r4⟩ (λhHeld => ?_);clear hK K
 refine tk 9 ⟨some 14,.build 132 #[(0,.tmp 5),(1,.tmp 7),(2,.tmp 9),(5,.tmp 11),(6,.tmp 13)],_,_,_,none⟩ (.agg #[.pointer (some ⟨cb,0,none⟩),.int .i64 b,.int .u32 n,.map q,.map none,.map none,.int .i64 e,.int .i64 np]) rfl (λw h=>by go_simp) hHeld ?_;simp only[zP,List.set];refine rd 10 rfl (λK hK => ?_);go_simp;obtain⟨W2,a1⟩:=Jq ((W1.alloc (.cells #[.pointer (some ⟨cb,0,none⟩),.int .i64 b,.int .u32 n,.map q,.map none,.map none,.int .i64 e,.int .i64 np] 132)).drew);obtain⟨lb,a5⟩:=Jq W1.heap.size;have hk:∀k,W2.cell? ⟨rb,k,none⟩=W1.drew.cell? ⟨rb,k,none⟩:=λk=>by rw[a1];exact AJ (AO W1 _ rb ad)
 have ah:=(hk 1).trans r1;have ag:=(hk 2).trans r2;have a9:=(hk 3).trans r3;have aj:=(hk 4).trans r4;have am:Hid (S1.E8 W2 lb cb ⟨b,n,none⟩ q none e np):=Jy (by show W2.heap[lb]? = _;rw[a1,a5];exact AQ _ _);have ac:Hid (Below rb w W2):=Jy (by rw[a1];exact N5 (a6.o.alloc (by omega) _));have ai:rb<=lb:=by omega
 refine hK.o _ _ (by rw[<-a1];exact⟨ah,ag,a9,aj⟩) (λhHeld => ?_);rw[<-a1]at hHeld ⊢;simp only[<-a5];clear hK K a1 a5 hk;refine tk 11 ⟨some 4,.assign (.tmp 15),_,_,_,none⟩ (.pointer (some ⟨lb,0,none⟩)) rfl (λw h=>by go_simp) hHeld ?_;simp only[zP,List.set];refine BT (by kernel_rfl) ?_ _;clear hHeld;go_wp2_with fail;go_ret
 exact⟨lb,rfl,ai,am.o,ac.o⟩
def Ja(w:D7)(fb cb lb tb:Nat):Prop:=w.heap[fb]? = some (.cells #[.pointer (some ⟨cb,0,none⟩),.pointer (some ⟨lb,0,none⟩),.map (some tb)] 79 (0,0))
theorem Ja.c2{w:D7}{fb cb lb tb:Nat}(h:Ja w fb cb lb tb):w.cell? ⟨fb,2,none⟩=some (.map (some tb)):=by rw[AG w fb 2 _ 79 (0,0) h];rfl
theorem UN(w:D7)(fb cb lb tb:Nat)(l:List It)(h:Ja w fb cb lb tb)(hT:Dk w tb l)(ht:Ev l)(hml:ML w) :
 Calls prog 12 #[.pointer (some ⟨fb,0,none⟩)] w λe w'=>Below w.heap.size w w'/\∃v,e=.returned v/\w'.ownsRow w.heap.size 39 5 v l.length (E9 (Eb l)):=by
 have c2:=h.c2;have A:=Jy (eU tb l w hT ht.nodup (by have:=ht.len;omega) hml (λx hx=>by have:=(Nw (ht.ok x hx)).p;omega));clear h hT ht hml;go_enter func12,ntmps12
 go_wp2_with fail;refine A.o.mono ?_;rintro e W1 ⟨hb,v,rfl,ho⟩;have Ho:=Jy ho;have Hb:=Jy hb;obtain⟨a2,a1,rfl,a0⟩:=OY (l:=Eb l) (by rw[(MZ l).length_eq];exact ho);clear ho hb a0;go_wp2_with fail;go_ret
 exact⟨Hb.o,_,rfl,Ho.o⟩
theorem sF(w:D7)(fb cb lb tb:Nat)(l:List It)(p:Bs)(h:Ja w fb cb lb tb)(hT:Dk w tb l)(hml:ML w)(hp:p.length<=1048576) :
 Calls prog 14 #[.pointer (some ⟨fb,0,none⟩),.string (D9 p)] w λe w'=>Below w.heap.size w w'/\e=.returned (.tuple #[.string (D9 (Ga l p).data),.int .i64 (Fu l p)]):=by
 have c2:=h.c2;have A:=Jy (qj tb l p w hT hml hp);obtain⟨X,hX⟩:=Jq (D9 p);obtain⟨Y,hY⟩:=Jq (D9 (Ga l p).data);obtain⟨E,hE⟩:=Jq (Fu l p);rw[<-hX,<-hY,<-hE]at A ⊢;clear h hT hml hX hY hE;go_enter func14,ntmps14
 go_wp2_with fail;refine A.o.mono ?_;rintro e W1 ⟨hb,rfl⟩;have Hb:=Jy hb;clear hb;go_wp2_with fail;go_ret2
 exact⟨Hb.o,rfl⟩
variable {rb s n:Nat} {v:Value} {xs:List Value} {u:Bs->Option Bs}
theorem Ep.own{a b:D7}(h:Ep rb a b){x:Array Value}{T:TypeId}{f:Nat × Nat}(hrb:a.heap[rb]? = some (.cells x T f)){base e:Nat}(ho:a.ownsRow base e s v n xs)(hne:e≠T):b.ownsRow base e s v n xs:=by
 refine⟨ho.1,?_⟩;rcases ho.2 with⟨rfl,h0⟩ | ⟨g,cap,cur,rfl,h1,hh,h2⟩
 ·exact .inl ⟨rfl,h0⟩
 refine .inr ⟨g,cap,cur,rfl,h1,(h.block g (lt_of_heap hh) (λe' => ?_)).trans hh,h2⟩;subst e';rw[hrb]at hh;cases hh
 exact hne rfl
theorem FI.grown{w w':D7}{r:Rd}(h:FI w rb r){base:Nat}(hown:w.ownsRow base 39 s v n xs)(hg:w.grownBy w' v.ownBlock):FI w' rb r:=
 ((Gc.refl 39 w).grown hown hg).cells h (by decide)
theorem TY(k:Nat)(r:Rd):(Ez k r).2.1.length<=r.1.length:=(M6 k r).2
theorem sI(u:Bs->Option Bs)(r:Rd):(Es u r).2.1.length<=r.1.length:=by
 unfold Es;simp only;have h1:=TY 2 r;have h2:=TY 4 (Ez 2 r).2;have h3:=TY 1 (Ez 4 (Ez 2 r).2).2;have h4:=(M6 (Ez 1 (Ez 4 (Ez 2 r).2).2).1 (Ez 1 (Ez 4 (Ez 2 r).2).2).2).2;by_cases hk:32768<=(Ez 2 r).1
 ·rw[AE hk];simp only;omega
 rw[AC hk];have h5:=TY 2 (Go.Nt.tk (Ez 1 (Ez 4 (Ez 2 r).2).2).1 (Ez 1 (Ez 4 (Ez 2 r).2).2).2).2;have h6:=(M6 (Ez 2 (Go.Nt.tk (Ez 1 (Ez 4 (Ez 2 r).2).2).1 (Ez 1 (Ez 4 (Ez 2 r).2).2).2).2).1 (Ez 2 (Go.Nt.tk (Ez 1 (Ez 4 (Ez 2 r).2).2).1 (Ez 1 (Ez 4 (Ez 2 r).2).2).2).2).2).2;simp only;omega
theorem l8(hu:∀t d:Bs,u t=some d->d.length<=4000)(r:Rd):(Es u r).1.path.length<=255/\(Es u r).1.data.length<=4000:=by
 unfold Es;simp only;have hp:(Go.Nt.tk (Ez 1 (Ez 4 (Ez 2 r).2).2).1 (Ez 1 (Ez 4 (Ez 2 r).2).2).2).1.length<=255:=by
  have h1:=(M6 (Ez 1 (Ez 4 (Ez 2 r).2).2).1 (Ez 1 (Ez 4 (Ez 2 r).2).2).2).1;have h2:=Q9 1 (Ez 4 (Ez 2 r).2).2;omega
 by_cases hk:32768<=(Ez 2 r).1
 ·rw[AE hk];exact⟨hp,by simp⟩
 rw[AC hk];refine⟨hp,?_⟩;simp only;cases h:u _ with
 | none=>simp
 | some d=>simpa using hu _ d h
def Qu(u:Bs->Option Bs)(t:Bs)(w:D7)(e:Ending)(w':D7):Prop:=
 Below w.heap.size w w' /\
  ((e=.returned (.tuple #[.map none,.bool false])/\∀l,parse u t=some l->Dw l=false) \/
  ∃l b,parse u t=some l/\Dw l=true/\e=.returned (.tuple #[.map (some b),.bool true])/\w.heap.size<=b/\Dk w' b l)
theorem pH(hP:Fj u)(t:Bs)(w:D7)(hml:ML w)(ht:t.length<=1000000) :
 Calls prog 46 #[.string (D9 t)] w λe w'=>Qu u t w e w':=by
 obtain⟨i0,hi,az,aG,ay⟩:=Ai Iw;have af:=hml.lt;have aC:=Jy hml;obtain⟨W0,aa⟩:=Jq (w.alloc (.cells #[.string (D9 t),.bool true] 151));have h0:FI W0 w.heap.size (t,true):=by rw[aa];exact AQ _ _
 have ao:Below w.heap.size w W0:=by rw[aa];exact(AM _ w).alloc (AB _) _
 have aM:W0.heap.size=w.heap.size+1:=by rw[aa];simp
 have A1:=Jy (Ri w.heap.size (t,true) 1 W0 h0 (by decide) ht);obtain⟨nr,hn⟩:=Jq (Ez 1 (t,true));obtain⟨m0,r0⟩:=nr;have aP:m0<256:=by have:=Q9 1 (t,true);rw[<-hn]at this;exact this
 have l0:r0.1.length<=1000000:=by have:=(M6 1 (t,true)).2;have e:(Ez 1 (t,true)).2=(Go.Nt.tk 1 (t,true)).2:=rfl;rw[<-hn]at e;rw[<-e]at this;exact AF this ht
 rw[<-hn]at A1;simp only at A1;have a6:Hid (parse u t=if(MS u m0 r0 []).2.2 then some (MS u m0 r0 []).1 else none):=Jy (by unfold parse;rw[<-hn]);have aI:=Jy aa;have aA:=Jy ao;clear hml aa h0 ao hn;go_enter func46,ntmps46
 go_wp2_with (first | (rw[<-aI.o]) | fail);refine A1.o.mono ?_;rintro e w1 ⟨rfl,h1,t1⟩;have aB:=Jy (aA.o.trans (t1.below (AB _) (by omega)));have aN:=t1.size;have H1:=Jy h1;clear A1 h1 t1;go_wp2
 go_loopw [5,6] (λv i wr=>∃(m:Nat) (r:Rd) (a0:List It),i=.int .i64 m/\m+a0.length=m0/\Hid (MS u m0 r0 []=MS u m r a0)/\r.1.length<=1000000/\Hid (FI wr w.heap.size r)/\Hid (wr.ownsRow w.heap.size 39 5 v a0.length (E9 a0))/\Hid (Below w.heap.size w wr)/\Hid (∀x∈a0,x.path.length<=255/\x.data.length<=4000)) (λ_ i _=>(intOf i).toNat)
 case atStart=>exact⟨m0,r0,[],rfl,by simp,Jy rfl,l0,H1,Jy (AZ _ _ _ _),aB,Jy (by simp)⟩
 case round =>
  obtain⟨m,r,a0,rfl,hm,ac,lr,HR,HO,HB,a7⟩:=hrel;have a9:=HB.o.size;have k1:=HR.o.c1;obtain⟨fn,ai⟩:=Jq r.2;rw[<-ai]at k1;have a8:=Jy ai;clear ai;obtain⟨a2,c2,rfl,aw⟩:=OY HO.o;obtain⟨L,hL⟩:=Jq a0.length;rw[<-hL]at HO ⊢;have aL:m+L=m0:=by omega
  have HL:=Jy hL;have aE:=Jy aw;clear hL aw hm;cases m with
  | zero =>
    have a3:Hid (MS u m0 r0 []=(a0,r)):=ac;cases fn with
    | false =>
      go_wp2;go_ret2
      exact⟨HB.o,.inl ⟨rfl,λl hl=>by rw[a6.o,a3.o]at hl;simp only at hl;rw[<-a8.o]at hl;cases hl⟩⟩
    | true =>
      have HN:=Jy (Ii a2 c2 a0 wr (aC.o.below HB.o af) aE.o (by rw[<-HL.o];omega) (λx hx=>by have:=(a7.o x hx).1;omega) (λx hx=>by have:=(a7.o x hx).2;omega));rw[<-HL.o]at HN;have Hp:Hid (parse u t=some a0):=Jy (by rw[a6.o,a3.o];simp only;rw[<-a8.o];rfl);go_wp2_with fail;refine HN.o.mono ?_;rintro e w5 ⟨ad,⟨aJ,rfl⟩ | ⟨ag,b,rfl,aO,hT⟩⟩
      ·have aj:=Jy (HB.o.trans (ad.mono a9));clear ad HN;go_wp2;go_ret2
       exact⟨aj.o,.inl ⟨rfl,λl hl=>by rw[Hp.o]at hl;cases hl;exact aJ⟩⟩
      have aj:=Jy (HB.o.trans (ad.mono a9));have HT:=Jy hT;clear ad HN hT;go_wp2;go_ret2
      exact⟨aj.o,.inr ⟨a0,b,Hp.o,ag,rfl,by omega,HT.o⟩⟩
  | succ m =>
    cases fn with
    | false =>
      have a3:Hid (MS u m0 r0 []=(a0,r)):=Jy (by rw[ac.o];show(if r.2 then _ else _)=_;rw[<-a8.o];rfl);go_wp2;go_ret2
      exact⟨HB.o,.inl ⟨rfl,λl hl=>by rw[a6.o,a3.o]at hl;simp only at hl;rw[<-a8.o]at hl;cases hl⟩⟩
    | true =>
      have A:=Jy (qP hP w.heap.size r wr HR.o lr);have a5:Hid (MS u m0 r0 []=MS u m (Es u r).2 (a0++[(Es u r).1])):=Jy (by rw[ac.o];show(if r.2 then _ else _)=_;rw[<-a8.o];rfl);have av:=Jy (l8 hP.small r);have ar:(Es u r).2.1.length<=1000000:=AF (sI u r) lr;obtain⟨x,hx⟩:=Jq ((Es u r).1);obtain⟨r',ah⟩:=Jq ((Es u r).2);rw[<-hx,<-ah]at A a5;rw[<-hx]at av;rw[<-ah]at ar;unfold JB at A;clear hx ah ac;go_wp2_with fail;refine A.o.mono ?_;rintro e w3 ⟨rfl,h3,t3⟩;have an:=t3.own HR.o HO.o (by decide);have au:=HB.o.trans (t3.below (AB _) (by omega));have aK:=t3.size;have aF:=HR.o.lt;have ae:=Jy an;have aH:=Jy au;have H3:=Jy h3;clear A h3 t3 an au k1
      go_wp2_with (at_builtin;refine Ar _ rfl (.tmp 20) (.tmp 22) 26 rfl w.heap.size 39 i0 _ 5 56 underlying26 hi az aG ay rfl (by decide) _ _ _ rfl (ae.o.alloc _) ⟨w3.heap.size,0,none⟩ 1 1 (IU x) rfl ?e1 ?e2 ?e3 ?e4 ?e5 ?e6 ?_)
      case e1=>rfl
      case e2 =>
       intro j v hv;rw[addr_add];have h:=(NN w3 x).cell hv;unfold boxed at h;simpa using h
      case e3=>intro v hv;exact N3 (l:=[x]) v (by rw[OA];exact hv)
      case e4=>unfold maxLen;omega
      case e5=>omega
      case e6=>simp;omega
      intro v4 w4 a4 a1 _;have am:Below w.heap.size w w4:=(aH.o.alloc (by omega) _).grown a1 (by simp;omega) (λq hq=>(ae.o.lt q hq).1);have h4:FI w4 w.heap.size r':=FI.grown ((AO w3 _ _ (by omega)).trans H3.o) (ae.o.alloc _) a1;have aD:Hid (w4.ownsRow w.heap.size 39 5 v4 (a0++[x]).length (E9 (a0++[x]))):=Jy (by rw[Oq,OA,AN,<-HL.o];exact a4);have ax:=Jy am;have H4:=Jy h4;clear a4 a1 am h4;go_wp2;go_roundw
      case rel=>exact⟨m,r',a0++[x],by go_num,by rw[AN,<-HL.o];simp;omega,a5,ar,H4,aD,ax,Jy (λy hy=>(An.1 hy).elim (a7.o y) (λe=>by simp at e;subst e;exact av.o))⟩
      case measure=>simp[intOf]
end
section
open Go.RowKit Go.Nt
open S1 (Mi)
def PY(l:List Fp)(b r:Nat):Prop:=∀ord,S1.F9 l ord->ord≠[]->ord.getLast? = some (b,r)
end
namespace S1
open Go.RowKit Pk
open Go.Nt
theorem Tl{ys:List Nat}(ha:Asc ys){x:Nat}(hx:x∈ys):x<=ys.getLastD 0:=by
 obtain⟨i,hi,rfl⟩:=DB.1 hx;have hl:ys.length - 1<ys.length:=by omega
 rw[Cc,List.getLast?_eq_getElem?,AD hl];show ys[i]<=ys[ys.length - 1];by_cases h:i=ys.length - 1
 ·exact Cf (by congr 1)
 exact CL.1 ha i (ys.length - 1) hi hl (by omega)
theorem UG(lo hi wd:Nat)(h1:hi<4294967296)(h2:hi - lo<=wd):∀(l:List Nat) (i f a:Nat),Asc (a :: l)->(∀y∈a :: l,lo<=y/\y<=hi)->Ig l i f wd a=f
 | [],_,_,_,_,_=>rfl
 | y :: l,i,f,a,ha,hb=>by
   have h3:=DK.1 ha;have h4:=h3.1 y (by simp);have h5:=hb a (by simp);have h6:=hb y (by simp);have hg:Il y a=y - a:=by unfold Il;omega
   simp only[Ig];rw[AC (by rw[hg];omega)];exact UG lo hi wd h1 h2 l (i+1) f y h3.2 (λz hz=>hb z (by simp[hz]))
theorem oL{ys:List Nat}(ha:Asc ys)(hb:∀y∈ys,y<2147483648):Eu ys=0:=by
 cases ys with
 | nil=>rfl
 | cons y l =>
   unfold Eu;have hl:(y :: l).getLastD 0∈y :: l:=by
    rw[Cc,CA (by simp)];exact List.getLast_mem _
   obtain⟨z,hz⟩:=Jq ((y :: l).getLastD 0);rw[<-hz]at hl ⊢;have a0:∀x∈y :: l,y<=x:=λx hx=>by
    rcases As.1 hx with h | h
    ·omega
    exact(DK.1 ha).1 x h
   have a1:∀x∈y :: l,x<=z:=λx hx=>by
    rw[hz];exact Tl ha hx
   have h1:=hb y (by simp);have h2:=hb z hl;have h3:=a0 z hl;have hg:Il y z=if y=z then 0 else 4294967296 - (z - y):=by unfold Il;split<;>omega
   simp only[Ig]
   split
   ·rename_i hw;rw[hg]at hw ⊢
    split at hw
    ·omega
    rename_i a2;rw[AC a2];exact UG y z _ (by omega) (by omega) l _ _ y ha (λx hx=>⟨a0 x hx,a1 x hx⟩)
   rename_i hw;rw[hg]at hw
   split at hw
   ·rename_i he;exact UG y z 0 (by omega) (by omega) l _ _ y ha (λx hx=>⟨a0 x hx,a1 x hx⟩)
   omega
variable {l l':List Fp} {f:Fp} {m m':M} {c n k x y cn nn:Nat} {t:D8} {K S:Nat->Bool} {ps:List (Nat × Nat)}
abbrev IK (m:M):List Fp:=EB (Fs m) m.np m.nb
def KQ(l:List Fp):Prop:=∀f∈l,∀g∈l,f.bad=g.bad->f.num=g.num->f.at_=g.at_->f=g
theorem KQ.look(h:KQ l)(hf:f∈l):Dp l f.bad f.num f.at_=some f:=WI hf (λx hx h1 h2 h3=>h x hx f hf h1 h2 h3)
theorem qx{i q:Nat}(hb:c<256)(hn:n<4294967296)(ho:De t.length<65536)(hk:k<De t.length)(hi:i<m.nb)(hq:q<m.np)(e:m.pg i q=Ej (F0 c n t k)):Kx c n t k i∈IK m:=by
 have a0:=SX (t:=t) hb hn hk ho;have h6:Ef (Fs m i q)=some { F0 c n t k with text:=(F0 c n t k).text++List.replicate (51 - (F0 c n t k).text.length) 0 }:=by
  unfold Fs;rw[e,VM (Go.Nt.FT _ a0.t)];exact Sr a0
 exact FB.2 ⟨i,q,_,hi,hq,h6,rfl⟩
theorem fJ(hs:∀f∈l',f.bad=x->f.num=y->f∈l)(hu:KQ l)(h:Dp l' x y k=some f):Dp l x y k=some f:=by
 obtain⟨h1,h2,h3,h4⟩:=M0 h
 have:=hu.look (hs f h1 h2 h3)
 rw[h2,h3,h4]at this;exact this
theorem SE{l l':List Fp}{x y o:Nat}(hs:∀f∈l',f.bad=x->f.num=y->f∈l)(hu:KQ l):∀(k:Nat) (ps:List Fp),FH l' x y o k=some ps->FH l x y o k=some ps
 | 0,ps,h=>h
 | k+1,ps,h=>by
   unfold FH at h ⊢;cases h1:FH l' x y o k with
   | none=>rw[h1]at h;cases h
   | some qs =>
     rw[h1]at h;cases h2:Dp l' x y k with
     | none=>rw[h2]at h;cases h
     | some f =>
       rw[h2]at h;rw[SE hs hu k qs h1,fJ hs hu h2];exact h
theorem pN(hs:∀f∈l',f.bad=x->f.num=y->f∈l)(hu:KQ l)(h:Eh l' x y=true):Eh l x y=true:=by
 unfold Eh at h ⊢;rw[Af]at h ⊢;refine⟨?_,?_⟩
 ·obtain⟨f,hf,h1,h2⟩:=E0.1 h.1;exact E0.2 ⟨f,hs f hf h1 h2,h1,h2⟩
 have h2:=h.2;unfold FG at h2 ⊢;by_cases h0:Ls l' x y=0
 ·rw[AE h0]at h2;cases h2
 rw[AC h0]at h2;have he:Ls l x y=Ls l' x y:=by
  unfold Ls at h0 ⊢;cases h3:Dp l' x y 0 with
  | none=>rw[h3]at h0;exact absurd rfl h0
  | some f=>rw[fJ hs hu h3]
 rw[he,AC h0];cases h4:FH l' x y (Ls l' x y) (Ls l' x y)with
 | none=>rw[h4]at h2;cases h2
 | some ps=>rw[SE hs hu _ ps h4];rfl
structure OB (m:M) (c n:Nat) (K:Nat->Bool) (t:D8):Prop where
 uniq:KQ (IK m)
 here:∃pos:Nat->Nat × Nat,∀k,k<De t.length->(pos k).1<m.nb/\(pos k).2<m.np/\(pos k).2<m.nx (pos k).1/\K (pos k).1=true/\m.pg (pos k).1 (pos k).2=Ej (F0 c n t k)
 PR:∀x y,Eh (IK m) x y=true->x<c\/(x=c/\y<=n)
 bad:∀f∈IK m,f.bad<=Dt m
 qt:c<=Dt m
 pos:0<t.length
 NX:De t.length<=256
 num:n<2147483648
theorem OB.Px(h:OB m c n K t)(hw:WF m):c<256:=by
 have:=h.qt;have:=Fc m;have:=hw.Iu;omega
theorem OB.look(h:OB m c n K t)(hw:WF m):∃Dg:Nat->Nat,∀k,k<De t.length->Dp (IK m) c n k=some (Kx c n t k (Dg k)):=by
 obtain⟨pos,hp⟩:=h.here;refine⟨λk=>(pos k).1,λk hk => ?_⟩;obtain⟨h1,h2,_,_,h5⟩:=hp k hk
 have:=h.num
 have:=h.NX
 exact h.uniq.look (qx (h.Px hw) (by omega) (by omega) hk h1 h2 h5)
theorem OB.whole(h:OB m c n K t)(hw:WF m):∃ps z,FG (IK m) c n=some ps/\Ei ps=t++z/\Eh (IK m) c n=true/\(Ei ps).length<=De t.length*51:=by
 obtain⟨Dg,hb⟩:=h.look hw;have h1:=Zr h.pos hb;obtain⟨z,hz⟩:=ZN c n t Dg;refine⟨_,z,h1,hz,?_,?_⟩
 ·have a0:0<De t.length:=by have:=h.pos;unfold De;omega
  have h2:=M0 (hb 0 a0);unfold Eh;rw[h1,E0.2 ⟨_,h2.1,h2.2.1,h2.2.2.1⟩];rfl
 have key:∀k,(Ei ((List.range k).map λj=>Kx c n t j (Dg j))).length<=k*51:=λk=>by
  induction k with
  | zero=>simp[Ei]
  | succ k ih =>
    rw[B0,Aq,List.map_singleton,TR,AN]
    have:(Kx c n t k (Dg k)).text.length<=51:=by unfold Kx;simp;omega
    omega
 exact key _
theorem VJ{p q:Nat->Bool}(h:∀i,p i=true->q i=true):∀l:List Nat,l.countP p<=l.countP q
 | []=>AB _
 | a :: l=>by
   have ih:=VJ h l;rw[C0,C0];by_cases hp:p a=true
   ·rw[AE hp,AE (h a hp)];omega
   rw[AC hp];omega
theorem Et.Fc{m0:M}{xs:List D8}{left:List D8}(h:Et m0 K xs m S ps left):Dt m0<=Dt m:=by
 unfold Dt;rw[h.nb];exact VJ h.bad _
theorem pW{left:List D8}(h:Et m K (EE cn nn t) m' S ps left)(hb:cn<256)(hn:nn<4294967296)(ho:De t.length<65536)(hu:KQ (IK m))(hf:FJ (IK m) cn nn=false):KQ (IK m'):=by
 intro f a3 g a0 e1 e2 e3;have no:∀f∈IK m,¬(f.bad=cn/\f.num=nn):=λf hf' ⟨a,b⟩=>by
  have:=E0.2 ⟨f,hf',a,b⟩
  rw[hf]at this;cases this
 rcases h.found hb hn ho a3 with⟨k,i,q,a1,a2,rfl⟩ | a1
 ·rcases h.found hb hn ho a0 with⟨k',i',q',b1,b2,rfl⟩ | b1
  ·have:k=k':=e3
   subst this;rw[a1]at b1;cases b1;rfl
  exact absurd ⟨e1.symm,e2.symm⟩ (no g b1)
 rcases h.found hb hn ho a0 with⟨k',i',q',b1,b2,rfl⟩ | b1
 ·exact absurd ⟨e1,e2⟩ (no f a1)
 exact hu f a1 g b1 e1 e2 e3
theorem kO{left:List D8}(h:Et m K (EE cn nn t) m' S ps left)(hb:cn<256)(hn:nn<4294967296)(ho:De t.length<65536)(hu:KQ (IK m))(hne:¬(x=cn/\y=nn))(hw:Eh (IK m') x y=true):Eh (IK m) x y=true:=
 pN (λf hf1 a b=>by
  rcases h.found hb hn ho hf1 with⟨k,i,q,_,_,rfl⟩ | h1
  ·exact absurd ⟨a.symm,b.symm⟩ hne
  exact h1) hu hw
theorem OB.last(h:OB m c n K t)(hw:WF m):PY (IK m) c n:=by
 intro ah hT ag;obtain⟨ls,ks,rs,h1,h2,h3,h4,h5,h6,rfl⟩:=hT;obtain⟨ps,z,aa,_,a9,_⟩:=h.whole hw;have ac:=h.num;have hc:=h.Px hw;have af:(c,n)∈ls:=(h2 _).2 ⟨by omega,by omega,a9⟩;have a4:∀x∈ls,x.1<c\/(x.1=c/\x.2<=n):=λx hx=>h.PR x.1 x.2 ((h2 x).1 hx).2.2
 have a5:n∈numsOf ls c:=Am.2 ⟨(c,n),BC.2 ⟨af,by simp⟩,rfl⟩;have GW:c∈ks:=(h5 _).2 (λe=>by rw[e]at a5;cases a5);have ae:∀b∈ks,b<=c:=λb hb=>by
  obtain⟨x,hx⟩:=Cd _ ((h5 b).1 hb);unfold numsOf at hx;obtain⟨y,hy,rfl⟩:=Am.1 hx;have h7:=BC.1 hy;have e:y.1=b:=by simpa using h7.2
  have:=a4 y h7.1
  omega
 have a8:ks.getLast? = some c:=by
  have a0:ks≠[]:=λe=>by rw[e]at GW;cases GW
  rw[CA a0];have h8:=Tl h3 GW;rw[Cc,CA a0]at h8;have h9:=ae _ (List.getLast_mem a0)
  have:ks.getLast a0=c:=by simp at h8;omega
  rw[this]
 obtain⟨a7,ad⟩:∃a7,ks=a7++[c]:=by
  have a0:ks≠[]:=λe=>by rw[e]at GW;cases GW
  refine⟨ks.dropLast,?_⟩;rw[CA a0]at a8
  have:=(List.dropLast_concat_getLast a0).symm
  rw[DX a8]at this;exact this
 obtain⟨ys,hp,ha,hr⟩:=h6 c GW;have a3:∀y∈ys,y<=n:=λy hy=>by
  have:=hp.mem_iff.1 hy
  unfold numsOf at this;obtain⟨x,hx,rfl⟩:=Am.1 this;have h7:=BC.1 hx;have e:x.1=c:=by simpa using h7.2
  have:=a4 x h7.1
  omega
 rw[oL ha (λy hy=>by have:=a3 y hy;omega)]at hr;simp only[List.drop_zero,List.take_zero,CD]at hr;have a6:=hp.mem_iff.2 a5;have a1:ys≠[]:=λe=>by rw[e]at a6;cases a6
 have a2:ys.getLast? = some n:=by
  rw[CA a1];have h8:=Tl ha a6;rw[Cc,CA a1]at h8;have h9:=a3 _ (List.getLast_mem a1)
  have:ys.getLast a1=n:=by simp at h8;omega
  rw[this]
 rw[ad,List.flatMap_append];simp only[List.flatMap_cons,List.flatMap_nil,CD];rw[hr];unfold FX;rw[List.getLast?_append,List.getLast?_map,a2];rfl
end S1
section
open Go.RowKit Go.Nt
theorem Zv{l:List It}(hn:(l.map (·.path)).Nodup){x:It}:x∈l↔at? l x.path=some x:=by
 constructor
 ·intro hx;cases h:at? l x.path with
  | none=>exact absurd rfl (Ge.1 h x hx)
  | some y =>
    obtain⟨hy,e⟩:=Ml h;obtain⟨i,hi,rfl⟩:=DB.1 hx;obtain⟨j,hj,rfl⟩:=DB.1 hy
    have:=(CL.1 hn)
    by_cases a0:i=j
    ·subst a0;rfl
    exfalso
    rcases Nat.lt_or_gt_of_ne a0 with h1 | h1
    ·exact this i j (by simpa using hi) (by simpa using hj) h1 (by simpa using e.symm)
    exact this j i (by simpa using hj) (by simpa using hi) h1 (by simpa using e)
 exact λh=>(Ml h).1
theorem gH{l l':List It}(h:(l.map (·.path)).Nodup)(hp:l'.Perm l):Eb l'=Eb l:=by
 have hs:∀l:List It,(Eb l).Pairwise (λx y=>(!less y.path x.path)=true):=λl=>by
  unfold Eb;exact CE (le:=λx y:It => !less y.path x.path) (λa b c h1 h2=>by
   simp only[Bool.not_eq_true']at h1 h2 ⊢;cases h3:less c.path a.path with
   | false=>rfl
   | true =>
     cases h4:less a.path b.path with
     | true=>rw[Oi _ _ _ h3 h4]at h2;cases h2
     | false=>rw[Nz _ _ h4 h1]at h3;rw[h3]at h2;cases h2) (λa b=>by
   cases h1:less b.path a.path with
   | false=>simp
   | true=>rw[SN h1];simp) l
 refine Ci (le:=λx y=>(!less y.path x.path)=true) (λa b ha hb h1 h2 => ?_) (hs l') (hs l) (((MZ l').trans hp).trans (MZ l).symm);simp only[Bool.not_eq_true']at h1 h2;have e:=Nz _ _ h2 h1;have a0:a∈l:=hp.mem_iff.1 (ET.1 ha);have a1:b∈l:=ET.1 hb;have x1:=(Zv h).1 a0;have x2:=(Zv h).1 a1;rw[e,x2]at x1;exact(DX x1).symm
theorem YP{l:List It}(h:Ev l):Eb (Eb l)=Eb l:=gH h.nodup (MZ l)
end
namespace S1
open Go.RowKit Pk
open Go.Nt
variable {m0:M} {K:Nat->Bool} {xs:List D8} {b0 v:Nat} {s:LS}
theorem mS(h:IY m0 K xs b0 v s)(ho:(Di s.m K s.Q s.b).1=true):(LS.IM K s).prog.m.Da=0\/(LS.IM K s).prog.left.length<=s.left.length - m0.np:=by
 have a8:=h.wf.KZ;have a5:(s.b+1)%s.m.nb<s.m.nb:=BM _ (by omega);obtain⟨k1,k2,k3⟩:=OW s.m K s.Q s.b;have a4:=SK h.wf K h.MM;have a6:=Nq h.wf K s.Q s.b;have a7:(Di s.m K s.Q s.b).2.1.fail<0:=by
  unfold Di
  split
  ·exact h.fail
  split
  ·exact h.fail
  cases hbd:s.m.bd ((s.b+1)%s.m.nb)with
  | true=>rw[TO hbd];exact h.fail
  | false =>
    have:=Qt h.fail a5 hbd
    split<;>exact this.1
 have a0:(Di s.m K s.Q s.b).2.2.2=0:=by
  unfold Di at ho ⊢
  repeat' split at ho
  all_goals first | cases ho | skip
  all_goals simp_all
 obtain⟨a1,a2,a3⟩:=QZ (Q:=(Di s.m K s.Q s.b).2.2.1) ((s.b+1)%s.m.nb) s.left (Di s.m K s.Q s.b).2.1 (Di s.m K s.Q s.b).2.2.2 s.S a6 a7 a4 h.lens;rcases a3 with a3 | a3
 ·exact .inl a3
 right
 rw[a0,k2,h.np,Cq]at a3;show(Df _ s.left _ (Di s.m K s.Q s.b).2.2.2 s.S).1.length<=_;rw[a0];exact a3
structure Kg (m0:M) (K:Nat->Bool) (xs:List D8) (b0 v:Nat) (s:LS):Prop where
 g:IY m0 K xs b0 v s
 part:s.m.Da≠0->s.left≠[]->Ed m0.nb s.S*m0.np+s.left.length<=xs.length
 all:Ed m0.nb s.S*m0.np<xs.length+m0.np
theorem Kg.round(h:Kg m0 K xs b0 v s)(hlf:s.m.Da≠0)(hl:s.left≠[]):Kg m0 K xs b0 (v+1) (EF K s):=by
 have hg:=h.g.round hlf;have hp:=h.part hlf hl;have a2:0<s.left.length:=Bt.2 hl;refine⟨hg,?_,?_⟩
 all_goals
  unfold EF
  split
 ·rename_i ho;intro a1 a0;have hf:=(mS h.g ho).resolve_left a1;have hc:=Qg m0.nb ((s.b+1)%s.m.nb) s.left (Di s.m K s.Q s.b).2.1 (Di s.m K s.Q s.b).2.2.2 s.S;have hm:Ed m0.nb (LS.IM K s).prog.S*m0.np<=(Ed m0.nb s.S+1)*m0.np:=Ba m0.np hc;rw[Cg,DS]at hm;have h1:0<(LS.IM K s).prog.left.length:=Bt.2 a0;omega
 ·exact λ_ _=>hp
 ·rename_i ho;have hc:=Qg m0.nb ((s.b+1)%s.m.nb) s.left (Di s.m K s.Q s.b).2.1 (Di s.m K s.Q s.b).2.2.2 s.S;have hm:Ed m0.nb (LS.IM K s).prog.S*m0.np<=(Ed m0.nb s.S+1)*m0.np:=Ba m0.np hc;rw[Cg,DS]at hm;omega
 exact h.all
theorem Kg.rounds{m0:M}{K:Nat->Bool}{xs:List D8}{b0:Nat}:∀(k v:Nat) (s:LS),Kg m0 K xs b0 v s->∃v',Kg m0 K xs b0 v' (EV K k s)
 | 0,v,s,h=>⟨v,h⟩
 | k+1,v,s,h=>by
   rw[EV]
   split
   ·exact⟨v,h⟩
   rename_i hc;exact Kg.rounds k (v+1) _ (h.round (λe=>hc (.inr e)) λe=>hc (.inl e))
structure Rh (m:M) (K Q:Nat->Bool) (b p:Nat):Prop where
 wf:WF m
 fail:m.fail<0
 MM:IZ m Q b p
 NX:Ed m.nb K<=Eg m/2
 b:b<m.nb
 p:p<=m.np
theorem Rh.lay{m:M}{Q:Nat->Bool}{b p:Nat}(h:Rh m K Q b p)(hx:∀x∈xs,x.length=64)(h1:0<xs.length)(h2:xs.length<=Ec m)(s:LS)(hs:s=E7 K ⟨xs,m,Q,b,p,λ_=>false⟩) :
 (s.left=[]/\Rh s.m s.S s.Q s.b s.p\/s.left≠[]/\s.m.Da=0/\Rh s.m K s.Q b m.np)/\s.m.nb=m.nb/\s.m.np=m.np/\s.m.bd=m.bd:=by
 have aa:1<=Eg m/2:=by
  unfold Ec at h2;rcases DJ (Eg m/2)with e | e
  ·rw[e,Nat.zero_mul]at h2;omega
  exact e
 have ac:=h.wf.Md;have a6:=qd (K:=K) (s:=⟨xs,m,Q,b,p,λ_=>false⟩) h.wf h.MM;rw[<-hs]at a6;unfold E7 FW at hs;by_cases hc:xs.length+p<=m.np
 ·rw[AE (show(LS.mk xs m Q b p λ_=>false).left.length+(LS.mk xs m Q b p λ_=>false).p<=(LS.mk xs m Q b p λ_=>false).m.np from hc)]at hs;obtain⟨a1,a2,a3⟩:=QZ (Q:=Q) b xs m p (λ_=>false) h.wf h.fail h.MM hx;have a4:(Df b xs m p (λ_=>false)).1=[]\/(Df b xs m p (λ_=>false)).2.1.Da=0:=by
   rcases a3 with a3 | a3
   ·exact .inr a3
   exact .inl (Bf (by omega))
  rw[Sq K a4]at hs;obtain⟨k1,k2,k3,k4⟩:=MW b xs m p (λ_=>false);have a8:=Qg m.nb b xs m p (λ_=>false);rw[Oe]at a8;subst hs;refine⟨?_,k1,k2,a2⟩;by_cases a0:(Df b xs m p (λ_=>false)).1=[]
  ·refine .inl ⟨a0,⟨Mq b xs m p _ h.wf,a1,Qd b xs m p _ h.wf h.MM,?_,?_,?_⟩⟩
   ·show Ed (Df b xs m p (λ_=>false)).2.1.nb (Df b xs m p (λ_=>false)).2.2.2<=Eg (Df b xs m p (λ_=>false)).2.1/2;rw[QQ k1 a2,k1];omega
   ·show b<(Df b xs m p (λ_=>false)).2.1.nb;rw[k1];exact h.b
   show(Df b xs m p (λ_=>false)).2.2.1<=(Df b xs m p (λ_=>false)).2.1.np;rw[k2];exact k4 h.p
  refine .inr ⟨a0,a4.resolve_left a0,⟨a6.2,a1,?_,?_,?_,?_⟩⟩
  ·have:=IZ.shut (LS.prog ⟨xs,m,Q,b,p,λ_=>false⟩).m (LS.prog ⟨xs,m,Q,b,p,λ_=>false⟩).Q b a6.1.clean
   have e:(LS.prog ⟨xs,m,Q,b,p,λ_=>false⟩).m.np=m.np:=k2;rw[e]at this;exact this
  ·show Ed (Df b xs m p (λ_=>false)).2.1.nb K<=Eg (Df b xs m p (λ_=>false)).2.1/2;rw[QQ k1 a2,k1];exact h.NX
  ·show b<(Df b xs m p (λ_=>false)).2.1.nb;rw[k1];exact h.b
  show m.np<=(Df b xs m p (λ_=>false)).2.1.np;rw[k2];exact AB _
 rw[AC (show ¬(LS.mk xs m Q b p λ_=>false).left.length+(LS.mk xs m Q b p λ_=>false).p<=(LS.mk xs m Q b p λ_=>false).m.np from hc)]at hs;have hG:IY m K xs b 0 ⟨xs,m,Q,b,p,λ_=>false⟩:=⟨h.wf,rfl,rfl,by show b=(b+0)%m.nb;rw[Br,Bi h.b],h.fail,rfl,h.MM,hx,.inr (by simp[cntF])⟩;have hC:Kg m K xs b 0 ⟨xs,m,Q,b,p,λ_=>false⟩:=⟨hG,λ_ _=>by show Ed m.nb (λ_=>false)*m.np+xs.length<=_;rw[Oe];omega,by show Ed m.nb (λ_=>false)*m.np<_;rw[Oe];omega⟩;obtain⟨v,hV⟩:=Kg.rounds m.nb 0 _ hC;rw[<-hs]at hV;have a5:=Z2 hG (by
  have e1:Eg m<=(List.range m.nb).countP (λi => !K i && !m.bd i)+Ed m.nb K:=by
   rw[<-XC];refine AF (DP λi _ hi => ?_) (Tc _ K (List.range m.nb))
   revert hi
   cases K i<;>cases m.bd i<;>simp
  have e2:Eg m/2<=(List.range m.nb).countP (λi => !K i && !m.bd i):=by have:=h.NX;omega
  refine AF h2 ?_;unfold Ec;rw[BG];exact D4 _ e2)
 have e:s=EV K m.nb ⟨xs,m,Q,b,p,λ_=>false⟩:=hs;rw[<-e]at a5;have a7:=QQ hV.g.nb hV.g.bd;have a9:=h.wf.KZ;refine⟨?_,hV.g.nb,hV.g.np,hV.g.bd⟩;by_cases a0:s.left=[]
 ·refine .inl ⟨a0,⟨hV.g.wf,hV.g.fail,hV.g.MM,?_,?_,?_⟩⟩
  ·rw[a7,hV.g.nb];have e1:=hV.all;unfold Ec at h2;have e2:Ed m.nb s.S*m.np<(Eg m/2+1)*m.np:=by rw[Cg,DS];omega
   have:=Nat.lt_of_mul_lt_mul_right e2
   omega
  ·rw[hV.g.b,hV.g.nb];exact BM _ (by omega)
  have:=Wg (K:=K) (k:=m.nb) (s:=⟨xs,m,Q,b,p,λ_=>false⟩) h.p
  rw[<-e]at this;exact this
 refine .inr ⟨a0,a5.resolve_right a0,⟨hV.g.wf,hV.g.fail,?_,?_,?_,?_⟩⟩
 ·rw[<-hV.g.np];exact IZ.shut _ _ _ a6.1.clean
 ·rw[a7,hV.g.nb];exact h.NX
 ·rw[hV.g.nb];exact h.b
 rw[hV.g.np];exact AB _
end S1
end Go.Proofs.YtodmdkhdbfbfgaaGreatDoor
