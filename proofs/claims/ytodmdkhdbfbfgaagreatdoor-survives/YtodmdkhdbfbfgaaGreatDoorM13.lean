/- Lemmas. -/
import Derived.Shelf.Sort.Plain
import Derived.Shelf.Slices.In.SortNone
import Derived.Defers
import Derived.Test.YtodmdkhdbfbfgaaGreatDoorM12
set_option linter.unusedVariables false
set_option linter.unusedSimpArgs false
set_option maxRecDepth 100000
set_option maxHeartbeats 8000000
namespace Go.Proofs.YtodmdkhdbfbfgaaGreatDoor
section
open Go.RowKit Go.Nt
theorem qi0 (w:World) (lo hi cb:Nat) (L:S1.Loc) (m:S1.M) (X:ByteArray) (b n e:Nat) (q:Option Nat) (h:S1.CP w lo hi cb L m) (hsz:hi≤w.heap.size) :
 Calls Tryz.prog 47 #[.pointer (some ⟨cb,0,none⟩),.agg #[.string X,.int .i64 (b:Nat),.int .u32 (n:Nat),.map q,.int .i64 (e:Nat)]] w fun e' w'=>∃ lb,e'=.returned (.pointer (some ⟨lb,0,none⟩))∧w.heap.size≤lb∧S1.LogAt w' lb cb ⟨b,n,none⟩ q none e m.np∧Below w.heap.size w w':=by
 obtain ⟨W1,hW1⟩:∃ W1,W1=w.alloc (.cells #[.string X,.int .i64 (b:Nat),.int .u32 (n:Nat),.map q,.int .i64 (e:Nat)] 94):=⟨_,rfl⟩;obtain ⟨rb,hrb⟩:∃ rb,rb=w.heap.size:=⟨_,rfl⟩;have hb1:Below w.heap.size w W1:=by rw [hW1];exact (Below.refl _ w).alloc (Nat.le_refl _) _
 have hr1:W1.heap[rb]? = some (.cells #[.string X,.int .i64 (b:Nat),.int .u32 (n:Nat),.map q,.int .i64 (e:Nat)] 94 (0,0)):=by rw [hW1,hrb];exact heap_alloc_new _ _
 have hC1:S1.CP W1 lo hi cb L m:=S1.MemX.below h hsz hb1;have A:=hidI (S1.pages_any W1.drew lo hi cb L m hC1.drew);have r1:W1.drew.cell? ⟨rb,1,none⟩=some (.int .i64 (b:Nat)):=by rw [World.cell?_of_block (w:=W1) (w':=W1.drew) rfl,cell_of_row W1 rb 1 _ 94 (0,0) hr1];rfl
 have r2:W1.drew.cell? ⟨rb,2,none⟩=some (.int .u32 (n:Nat)):=by rw [World.cell?_of_block (w:=W1) (w':=W1.drew) rfl,cell_of_row W1 rb 2 _ 94 (0,0) hr1];rfl
 have r3:W1.drew.cell? ⟨rb,3,none⟩=some (.map q):=by rw [World.cell?_of_block (w:=W1) (w':=W1.drew) rfl,cell_of_row W1 rb 3 _ 94 (0,0) hr1];rfl
 have r4:W1.drew.cell? ⟨rb,4,none⟩=some (.int .i64 (e:Nat)):=by rw [World.cell?_of_block (w:=W1) (w':=W1.drew) rfl,cell_of_row W1 rb 4 _ 94 (0,0) hr1];rfl
 obtain ⟨np,hnp⟩:∃ np,np=m.np:=⟨_,rfl⟩;rw [←hnp] at A ⊢;have HB1:=hidI hb1;have HW1:=hidI hW1;have Hrb:=hidI hrb;have hlt:=lt_of_heap hr1;rw [←hrb];rw [←hrb] at HB1;clear hnp hW1 hrb hb1 hC1 h hr1;go_enter Tryz.func47,Tryz.ntmps47
 go_wp2_with (first | (rw [←HW1.out,←Hrb.out]) | fail);refine wp_region_held_drew (S:=fun V=>V.cell? ⟨rb,1,none⟩=some (.int .i64 (b:Nat))∧V.cell? ⟨rb,2,none⟩=some (.int .u32 (n:Nat))∧V.cell? ⟨rb,3,none⟩=some (.map q)∧V.cell? ⟨rb,4,none⟩=some (.int .i64 (e:Nat))) (by kernel_rfl) ⟨r1,r2,r3,r4⟩ (fun hHeld => ?_);refine tk 0 ⟨some 5,.move (.tmp 0),_,_,_,none⟩ (.pointer (some ⟨cb,0,none⟩)) rfl (fun w h=>by go_simp) hHeld ?_;simp only [zP,List.set];refine tk 1 ⟨some 6,.fieldAddr 94 (.tmp 3) 1,_,_,_,none⟩ (.pointer (some ⟨rb,1,none⟩)) rfl (fun w h=>by go_simp) hHeld ?_;simp only [zP,List.set]
 refine tk 2 ⟨some 7,.load 90 (.tmp 6),_,_,_,none⟩ (.agg #[.int .i64 (b:Nat),.int .u32 (n:Nat)]) rfl (fun w h=>by go_simp) hHeld ?_;simp only [zP,List.set];refine tk 3 ⟨some 8,.fieldAddr 94 (.tmp 3) 2,_,_,_,none⟩ (.pointer (some ⟨rb,3,none⟩)) rfl (fun w h=>by go_simp) hHeld ?_;simp only [zP,List.set];refine tk 4 ⟨some 9,.load 92 (.tmp 8),_,_,_,none⟩ (.map q) rfl (fun w h=>by go_simp) hHeld ?_;simp only [zP,List.set];refine tk 5 ⟨some 10,.fieldAddr 94 (.tmp 3) 3,_,_,_,none⟩ (.pointer (some ⟨rb,4,none⟩)) rfl (fun w h=>by go_simp) hHeld ?_;simp only [zP,List.set]
 refine tk 6 ⟨some 11,.load 3 (.tmp 10),_,_,_,none⟩ (.int .i64 (e:Nat)) rfl (fun w h=>by go_simp) hHeld ?_;simp only [zP,List.set];refine tk 7 ⟨some 12,.move (.tmp 0),_,_,_,none⟩ (.pointer (some ⟨cb,0,none⟩)) rfl (fun w h=>by go_simp) hHeld ?_;simp only [zP,List.set];refine rd 8 rfl (fun K hK => ?_);go_simp;refine A.out.mono ?_;rintro e' w' ⟨rfl,hw⟩;have hw':=hw.symm;subst hw';clear hw;refine hK.out _ _ ⟨r1,r2,r3,r4⟩ (fun hHeld => ?_);clear hK K
 refine tk 9 ⟨some 14,.build 132 #[(0,.tmp 5),(1,.tmp 7),(2,.tmp 9),(5,.tmp 11),(6,.tmp 13)],_,_,_,none⟩ (.agg #[.pointer (some ⟨cb,0,none⟩),.int .i64 (b:Nat),.int .u32 (n:Nat),.map q,.map none,.map none,.int .i64 (e:Nat),.int .i64 (np:Nat)]) rfl (fun w h=>by go_simp) hHeld ?_;simp only [zP,List.set];refine rd 10 rfl (fun K hK => ?_);go_simp;obtain ⟨W2,hW2⟩:∃ W2,W2=(W1.alloc (.cells #[.pointer (some ⟨cb,0,none⟩),.int .i64 (b:Nat),.int .u32 (n:Nat),.map q,.map none,.map none,.int .i64 (e:Nat),.int .i64 (np:Nat)] 132)).drew:=⟨_,rfl⟩;obtain ⟨lb,hlb⟩:∃ lb,lb=W1.heap.size:=⟨_,rfl⟩;have hk:∀ k,W2.cell? ⟨rb,k,none⟩=W1.drew.cell? ⟨rb,k,none⟩:=fun k=>by rw [hW2];exact World.cell?_of_block (Below.heap_alloc W1 _ rb hlt)
 have r1':=(hk 1).trans r1;have r2':=(hk 2).trans r2;have r3':=(hk 3).trans r3;have r4':=(hk 4).trans r4;have HLg:Hid (S1.LogAt W2 lb cb ⟨b,n,none⟩ q none e np):=hidI (by show W2.heap[lb]? = _;rw [hW2,hlb];exact heap_alloc_new _ _);have HB2:Hid (Below rb w W2):=hidI (by rw [hW2];exact qat (HB1.out.alloc (by omega) _));have hlr:rb≤lb:=by omega
 refine hK.out _ _ (by rw [←hW2];exact ⟨r1',r2',r3',r4'⟩) (fun hHeld => ?_);rw [←hW2] at hHeld ⊢;simp only [←hlb];clear hK K hW2 hlb hk;refine tk 11 ⟨some 4,.assign (.tmp 15),_,_,_,none⟩ (.pointer (some ⟨lb,0,none⟩)) rfl (fun w h=>by go_simp) hHeld ?_;simp only [zP,List.set];refine wpAnyH_done (by kernel_rfl) ?_ _;clear hHeld;go_wp2_with fail;go_ret
 exact ⟨lb,rfl,hlr,HLg.out,HB2.out⟩
def FsAt (w:World) (fb cb lb tb:Nat):Prop:=w.heap[fb]? = some (.cells #[.pointer (some ⟨cb,0,none⟩),.pointer (some ⟨lb,0,none⟩),.map (some tb)] 79 (0,0))
theorem FsAt.c2 {w:World} {fb cb lb tb:Nat} (h:FsAt w fb cb lb tb):w.cell? ⟨fb,2,none⟩=some (.map (some tb)):=by rw [cell_of_row w fb 2 _ 79 (0,0) h];rfl
theorem qir (w:World) (fb cb lb tb:Nat) (l:List It) (h:FsAt w fb cb lb tb) (hT:TreeAt w tb l) (ht:TreeP l) (hml:ML w) :
 Calls Tryz.prog 12 #[.pointer (some ⟨fb,0,none⟩)] w fun e w'=>Below w.heap.size w w'∧∃ v,e=.returned v∧w'.ownsRow w.heap.size 39 5 v l.length (its (qab l)):=by
 have c2:=h.c2;have A:=hidI (qfT tb l w hT ht.nodup (by have:=ht.len;omega) hml (fun x hx=>by have:=(qaF (ht.ok x hx)).p;omega));clear h hT ht hml;go_enter Tryz.func12,Tryz.ntmps12
 go_wp2_with fail;refine A.out.mono ?_;rintro e W1 ⟨hb,v,rfl,ho⟩;have Ho:=hidI ho;have Hb:=hidI hb;obtain ⟨a2,c2',rfl,hin⟩:=qbO (l:=qab l) (by rw [(qao l).length_eq];exact ho);clear ho hb hin;go_wp2_with fail;go_ret
 exact ⟨Hb.out,_,rfl,Ho.out⟩
theorem qi2 (b:Nat) (l:List It) (w:World) (hT:TreeAt w b l) :
 Calls Tryz.prog 146 #[.map (some b)] w fun e w'=>e=.returned (.map (some w.heap.size))∧TreeAt w' w.heap.size l∧Below w.heap.size w w':=by
 obtain ⟨D,ho,hh⟩:=hT;refine (AnyW.maps_Clone_owns Tryz.mclone 9 ndOf b _ D w ho).mono ?_;rintro e w' ⟨rfl,h1,_,hB⟩;exact ⟨rfl,⟨D,h1,hh⟩,hB⟩
theorem qoE (x y:Nd):(if x.dir==y.dir then if (txt x.data).toList==(txt y.data).toList then if x.mode==y.mode then x.time==y.time else false else false else false)=decide (x=y):=by
 rw [qdj];obtain ⟨a2,a3,a4,a5⟩:=x;obtain ⟨b2,b3,b4,b5⟩:=y;simp only [Nd.mk.injEq];by_cases h2:a2=b2<;>by_cases h3:a3=b3<;>by_cases h4:a4=b4<;>by_cases h5:a5=b5<;>simp [h2,h3,h4,h5]
theorem eqn (op:BinOp) (x y:Operand) (xs ys:Array Value) (w:World):(eqGuard op 117 x y (.agg xs) (.agg ys)).run Tryz.prog w=.ok () w:=run_eqGuard_agg w op 117 x y xs ys (by kernel_rfl)
theorem qoL (x y:Nd) (w:World):(Op.equalIn 10000 117 (ndv x) (ndv y)).run Tryz.prog w=.ok (decide (x=y)) w:=by
 unfold ndv;rw [run_equalIn_agg w 9999 117 _ _ (by kernel_rfl) (by kernel_rfl)];rw [show Tryz.prog.fieldsOf 117=_ from by unfold Program.fieldsOf;rw [Tryz.underlying117]];rw [←qoE];simp [Op.eqFields,part,go_sem,Tryz.underlying9,Tryz.underlying4,Tryz.underlying3];by_cases h2:x.dir=y.dir<;>by_cases h3:(txt x.data).toList=(txt y.data).toList<;>by_cases h4:x.mode=y.mode<;>by_cases h5:x.time=y.time<;>simp [h2,h3,h4,h5]
theorem qoA (x y:Nd) (w:World):(binOp .neq 117 (ndv x) (ndv y)).run Tryz.prog w=.ok (.bool (!decide (x=y))) w:=by
 have h:=qoL x y w;unfold ndv at *;rw [run_neq_struct,h];rfl
theorem qhl:∀ {l m:List It},(l.map (·.path)).Nodup→(∀ x∈l,x∈m)→m.length≤l.length→∀ x∈m,x∈l
 | [],m,_,_,hl,x,hx=>by
   have:m=[]:=List.length_eq_zero_iff.1 (by simpa using hl)
   rw [this] at hx;exact hx
 | a :: l,m,hn,hs,hl,x,hx=>by
   rw [List.map_cons,List.nodup_cons] at hn;have ha:=hs a (by simp);by_cases e:x=a
   ·simp [e]
   have hlen:=List.length_erase_of_mem ha
   have:=qhl (m:=m.erase a) hn.2 (fun y hy=>(List.mem_erase_of_ne (fun e'=>hn.1 (List.mem_map.2 ⟨y,hy,by rw [e']⟩))).2 (hs y (by simp [hy]))) (by simp at hl;omega) x ((List.mem_erase_of_ne e).2 hx)
   simp [this]
theorem qnC {l m:List It} (hn:(l.map (·.path)).Nodup) (hm:(m.map (·.path)).Nodup) (hl:l.length=m.length) (h:∀ x∈l,at? m x.path=some x):∀ p,at? l p=at? m p:=by
 have hsub:∀ x∈l,x∈m:=fun x hx=>(qas (h x hx)).1
 have hback:=qhl hn hsub (by omega);intro p;cases ha:at? m p with
 | none=>rw [at_none] at ha ⊢;exact fun x hx=>ha x (hsub x hx)
 | some y =>
   obtain ⟨hy,rfl⟩:=qas ha;exact at_mem hn (hback y hy)
def EqP (l m:List It) (w:World) (e:Ending) (w':World):Prop:=Below w.heap.size w w'∧∃ r,e=.returned (.bool r)∧(r=true→∀ p,at? l p=at? m p)
theorem qi1 (b1 b2:Nat) (l m:List It) (w:World) (h1:TreeAt w b1 l) (h2:TreeAt w b2 m) (hn:(l.map (·.path)).Nodup) (hm:(m.map (·.path)).Nodup) (hl:l.length≤1000) (hq:∀ x∈l,x.path.length≤1048576) :
 Calls Tryz.prog 148 #[.map (some b1),.map (some b2)] w fun e w'=>EqP l m w e w':=by
 have hlen1:=h1.len hn 3;have hlen2:=h2.len hm 3;have hlt1:=h1.lt;have hlt2:=h2.lt;have Hq:=hidI hq;have Hn:=hidI hn;have Hm:=hidI hm;have HT2:=hidI h2;obtain ⟨D,ho,hh⟩:=h1;have Hh:=hidI hh;have Hown:=hidI ho;by_cases hne:l.length=m.length
 ·have HSame:=hidI (qnC hn hm hne);rw [←hne] at hlen2;clear hn hm hq ho hh h2 hne;go_enter Tryz.func148,Tryz.ntmps148
  go_wp2_with (first | (at_range;refine wpList_range_own _ rfl _ 77 rfl 9 117 law9 Tryz.underlying77 _ b1 _ D rfl Hown.out ?_;intro w0 hrg0 hg0 hs0) | go_in)
  go_frame
  have Hb0:Hid (Below w.heap.size w w0):=hidI ((Below.refl _ w).grown hg0 (Nat.le_refl _) (fun q hq=>by cases hq));have Hrg0:=hidI hrg0;clear hrg0 hg0 Hown;obtain ⟨r,hr⟩:∃ r,r=w.heap.size:=⟨_,rfl⟩;rw [←hr] at Hrg0 hs0 ⊢;have hrw:w.heap.size≤r:=by omega
  clear hs0 hr
  go_loopw [5] (fun _ wx=>∃ (left:Lit→Bool) (cnt:Nat),wx.ranges Tryz.prog 9 ndOf b1 r (Maps.size D) D left cnt∧Hid (∀ x∈l,left (.string x.path)=false→at? m x.path=some x)∧Hid (Below w.heap.size w wx))
   (fun _ wx=>wx.rangeLeft b1 r)
  case atStart=>exact ⟨_,_,Hrg0.out,hidI (fun x hx hle=>by rw [(Hh.out x.path).1,at_mem Hn.out hx] at hle;cases hle),Hb0⟩
  obtain ⟨left,cnt,hrg,HP,HB⟩:=hrel;clear Hb0 Hrg0;have hszr:=HB.out.size;go_wp2_with (first | (at_next;refine wpList_next_ranges _ rfl _ rfl 9 law9 ndOf (fun x:Bs=>.string (txt x)) id (fun key kl hk=>by obtain ⟨x,hx,_⟩:=Maps.keyOf_str Tryz.underlying9 hk;exact ⟨x,hx⟩) (fun v _ _=>⟨v,rfl⟩) b1 r _ _ _ _ rfl hrg ?_ ?_) | go_in)
  ·intro _ hl0;have HR:=hidI (HSame.out (fun x hx=>HP.out x hx (hl0 _)));go_wp2;go_ret
   exact ⟨HB.out,true,rfl,fun _=>HR.out⟩
  intro q cv kl yd yp w2 cnt2 hkey hlk hv hat hrg2 hlc hg2 hs2 hen;obtain ⟨q',ep,rfl,_⟩:=Maps.keyOf_str Tryz.underlying9 hkey;obtain rfl:q=q':=by cases ep;rfl
  have hhas:Maps.has D (.string q)=true:=Maps.has_true_of_atKey hat;rw [(Hh.out q).1] at hhas;obtain ⟨x,hx⟩:=Option.isSome_iff_exists.1 hhas;obtain ⟨hxl,hxp⟩:=qas hx;have hql:q.length≤maxLen:=by have:=Hq.out x hxl;rw [hxp] at this;unfold maxLen;omega
  have hcv:cv=ndv (nd x):=by
   have e1:=(Hh.out q).2 x hx (.lit (.bool false));rw [hat] at e1;subst e1;exact qca hv
  have HB2:Hid (Below w.heap.size w w2):=hidI (HB.out.grown hg2 hszr (fun k e=>by cases e;exact hrw));have hT2:TreeAt w2 b2 m:=HT2.out.below (HB2.out) hlt2;have hs2':wr.heap.size≤w2.heap.size:=by omega
  have hsw:=HB2.out.size;have Hrg2:=hidI hrg2;have Hrg:=hidI hrg;have Hxl:=hidI hxl;have Hxp:=hidI hxp;have hT3:TreeAt (w2.alloc (.cells #[.bool x.dir,.string (txt x.data),.int .i64 x.mode,.int .i64 x.time] 117)) b2 m:=hT2.of_block (Below.heap_alloc _ _ _ hT2.lt);subst hcv;unfold ndv nd at hen ⊢;simp only at hen ⊢;have Hen:=hidI hen;clear hat hv hkey hlk hg2 hs2 hrg2 hrg hhas hx hxl hxp ep hT2;cases ha:at? m q with
  | none =>
    have hlook:=(hT3.look_none hql ha).1;unfold ndv at hlook;clear hT3 ha;go_wp2;go_ret
    exact ⟨(HB2.out.alloc hsw _).alloc (by simp;omega) _,false,rfl,fun h=>by cases h⟩
  | some y =>
    have hlook:=(hT3.look_some hql ha).1;have hneq:=fun W=>qoA (nd x) (nd y) W
    have hqn:=eqn .neq;unfold ndv nd at hlook hneq;simp only at hlook hneq;obtain ⟨Y,hY⟩:∃ Y,Y=txt y.data:=⟨_,rfl⟩;obtain ⟨X,hX⟩:∃ X,X=txt x.data:=⟨_,rfl⟩;rw [←hY,←hX] at hneq;rw [←hY,←hX] at hlook;rw [←hX] at hen ⊢;obtain ⟨o,hoo⟩:∃ o,o=decide (nd x=nd y):=⟨_,rfl⟩;have hoo':=hoo;unfold nd at hoo';rw [←hoo'] at hneq;have Hoo:=hidI hoo;have Ha:=hidI ha;clear hT3 ha hY hX hoo hoo';cases o with
    | false =>
      go_wp2;go_ret
      exact ⟨(HB2.out.alloc hsw _).alloc (by simp;omega) _,false,rfl,fun h=>by cases h⟩
    | true =>
      go_wp2;go_roundw
      case rel =>
       refine ⟨_,cnt2,(Hrg2.out.kept (World.grownBy_alloc w2 _ none) (by simp) (by simp)).kept (World.grownBy_alloc _ _ none) (by simp) (by simp),hidI (fun z hz hle => ?_),hidI ((HB2.out.alloc hsw _).alloc (by simp;omega) _)⟩;by_cases e:z.path=q
       ·have hxy:nd x=nd y:=by have:=Hoo.out;simpa using this.symm
        have h1:=at_mem Hn.out hz;have h2:=at_mem Hn.out Hxl.out;rw [Hxp.out,←e,h1] at h2;have hzx:z=x:=by cases h2;rfl
        obtain ⟨hy1,hy2⟩:=qas Ha.out;have hyx:y=x:=by
         have e1:=qjI y;have e2:=qjI x;rw [hy2,←hxy] at e1;rw [Hxp.out] at e2;exact e1.symm.trans e2
        rw [e,Ha.out,hzx,hyx]
       refine HP.out z hz ?_;have hsk:Lit.sameKey (.string z.path) (.string q)=false:=Maps.sameKey_ne (fun h=>e (by cases h;rfl));rw [hsk] at hle;simpa using hle
      case measure=>rw [((Hrg2.out.kept (World.grownBy_alloc w2 _ none) (by simp) (by simp)).kept (World.grownBy_alloc _ _ none) (by simp) (by simp)).left_eq,Hrg.out.left_eq];exact hlc
 clear hn hm hq ho hh h2;have hl2:((l.length:Int) != (m.length:Int))=true:=bne_iff_ne.2 (by omega);go_enter Tryz.func148,Tryz.ntmps148
 go_wp2;go_ret
 exact ⟨Below.refl _ _,false,rfl,fun h=>by cases h⟩
theorem qob (a b c fb:Nat) (g:Option Nat) (E:Int) (x:Value) (w:World) (hb:w.cell? ⟨b,0,none⟩=some (.int .i64 E)) (hd:w.cell? ⟨c,0,none⟩=some (.map g)) (ha:w.cell? ⟨a,0,none⟩=some (.pointer (some ⟨fb,0,none⟩))) (hx:w.cell? ⟨fb,2,none⟩=some x) (hz:w.frozen? ⟨fb,2,none⟩=false) (hE:E≠0) :
 CallsD Tryz.prog 147 #[.pointer (some ⟨b,0,none⟩),.pointer (some ⟨c,0,none⟩),.pointer (some ⟨a,0,none⟩)] .returning w fun e u' w'=>u'=.returning∧(e=.returned (.tuple #[])∧w'=w.setCell ⟨fb,2,none⟩ (.map g)):=by
 have hE':(E != 0)=true:=by simpa using hE
 go_enter_d Tryz.func147,Tryz.ntmps147
 go_wp2;go_end0
 exact ⟨rfl,rfl⟩
theorem qlL (a b c:Nat) (w:World) (hb:w.cell? ⟨b,0,none⟩=some (.int .i64 0)) :
 CallsD Tryz.prog 147 #[.pointer (some ⟨b,0,none⟩),.pointer (some ⟨c,0,none⟩),.pointer (some ⟨a,0,none⟩)] .returning w fun e u' w'=>u'=.returning∧(e=.returned (.tuple #[])∧w'=w):=by
 go_enter_d Tryz.func147,Tryz.ntmps147
 go_wp2;go_end0
 exact ⟨rfl,rfl⟩
end
section
open Go.RowKit Go.Nt
structure FsM (w:World) (fb tb lo hi cb lb:Nat) (L:S1.Loc) (lv:S1.Lv) (kv qv:Option Nat) (nk nq:Nat) (m:S1.M) (K Q:Nat→Bool) (b p:Nat) (l:List It):Prop where
 fs:FsAt w fb cb lb tb
 tree:TreeAt w tb l
 log:S1.LogM w lo hi cb lb L lv kv qv nk nq m K Q b p
 nf:¬S1.LogS lo hi lb kv qv fb
 nt:¬S1.LogS lo hi lb kv qv tb
 ne:fb≠tb
 tk:∀ g,lv.tk=some g→¬S1.LogS lo hi lb kv qv g∧g≠fb∧g≠tb∧∃ n S,S1.LbAt w g n S∧n≤100000∧∀ x,Free (S x)
def FsS (fb tb lo hi lb:Nat) (kv qv:Option Nat) (k:Nat):Prop:=S1.LogS lo hi lb kv qv k∨k=fb∨k=tb
theorem FsAt.p0 {w:World} {fb cb lb tb:Nat} (h:FsAt w fb cb lb tb):w.cell? ⟨fb,0,none⟩=some (.pointer (some ⟨cb,0,none⟩)):=by rw [cell_of_row w fb 0 _ 79 (0,0) h];rfl
theorem FsAt.p1 {w:World} {fb cb lb tb:Nat} (h:FsAt w fb cb lb tb):w.cell? ⟨fb,1,none⟩=some (.pointer (some ⟨lb,0,none⟩)):=by rw [cell_of_row w fb 1 _ 79 (0,0) h];rfl
theorem FsAt.fz {w:World} {fb cb lb tb:Nat} (h:FsAt w fb cb lb tb) (k:Nat):w.frozen? ⟨fb,k,none⟩=false:=frozen_of_row w fb k _ 79 h
theorem FsAt.set {w:World} {fb cb lb tb:Nat} (h:FsAt w fb cb lb tb) (c:Nat):FsAt (w.setCell ⟨fb,2,none⟩ (.map (some c))) fb cb lb c:=heap_setCell_same w fb 2 _ 79 (.map (some c)) h
theorem FsM.of_blocks {w w':World} {fb tb lo hi cb lb:Nat} {L:S1.Loc} {lv:S1.Lv} {kv qv:Option Nat} {nk nq:Nat} {m:S1.M} {K Q:Nat→Bool} {b p:Nat} {l:List It} (h:FsM w fb tb lo hi cb lb L lv kv qv nk nq m K Q b p l) (hs:w.heap.size≤w'.heap.size) (e:∀ k,FsS fb tb lo hi lb kv qv k∨lv.tk=some k→k<w.heap.size→w'.heap[k]? = w.heap[k]?):FsM w' fb tb lo hi cb lb L lv kv qv nk nq m K Q b p l:=
 ⟨(e fb (.inl (.inr (.inl rfl))) (lt_of_heap h.fs)).trans h.fs,h.tree.of_block (e tb (.inl (.inr (.inr rfl))) h.tree.lt),h.log.of_blocks (Nat.le_trans h.log.sz hs) (fun k hk hl=>e k (.inl (.inl hk)) hl),h.nf,h.nt,h.ne,fun g hg=>by
   obtain ⟨h1,h2,h3,n,S,h4,h5,h6⟩:=h.tk g hg;exact ⟨h1,h2,h3,n,S,h4.of_block (e g (.inr hg) h4.lt),h5,h6⟩⟩
theorem FsM.below {w w':World} {fb tb lo hi cb lb:Nat} {L:S1.Loc} {lv:S1.Lv} {kv qv:Option Nat} {nk nq:Nat} {m:S1.M} {K Q:Nat→Bool} {b p:Nat} {l:List It} (h:FsM w fb tb lo hi cb lb L lv kv qv nk nq m K Q b p l) (hb:Below w.heap.size w w'):FsM w' fb tb lo hi cb lb L lv kv qv nk nq m K Q b p l:=
 h.of_blocks hb.size fun k _ hk=>hb.block k hk
def TkS (w:World) (lv:S1.Lv) (m:S1.M) (S:Nat→Nat→Bool):Prop:=(lv.tk=none→S=hasL (scanF (S1.pgs m) m.np m.nb))∧∀ g,lv.tk=some g→∃ n,S1.LbAt w g n S∧n≤100000
def ChgP (u:Bs→Option Bs) (w:World) (fb tb lo hi cb lb:Nat) (L:S1.Loc) (lv:S1.Lv) (kv qv:Option Nat) (nk nq:Nat) (m:S1.M) (K Q:Nat→Bool) (b p:Nat) (l l':List It) (E:Int) (e:Ending) (w':World):Prop:=
 S1.Fm (FsS fb tb lo hi lb kv qv) w w' ∧
 ((∃ x c,(E≠0∧x=E∨E=0∧m.life=0∧x=10∨E=0∧m.life≠0∧∃ t,IsText u (qab l') t∧S1.mayE m t.length≠0∧x=S1.mayE m t.length)∧e=.returned (.int .i64 x)∧w.heap.size≤c∧FsM w' fb c lo hi cb lb L lv kv qv nk nq m K Q b p l) ∨
 (E=0∧m.life≠0∧(∀ q,at? l' q=at? l q)∧e=.returned (.int .i64 0)∧FsM w' fb tb lo hi cb lb L lv kv qv nk nq m K Q b p l') ∨
 (E=0∧m.life≠0∧∃ t S,IsText u (qab l') t∧S1.mayE m t.length=0∧TkS w lv m S∧(∀ x,Free (S x)) ∧
   ((∃ ib nk' g,(S1.addS m lv S K Q b p t).left=[]∧e=.returned (.int .i64 0)∧w.heap.size≤ib∧(lv.tk=some g∨w.heap.size≤g)∧(∃ nt,S1.LbAt w' g nt S∧nt≤100000)∧FsM w' fb tb lo hi cb lb L ⟨S1.badN m,S1.numN m lv S,some g⟩ (some ib) qv nk' nq (S1.addS m lv S K Q b p t).m (S1.addS m lv S K Q b p t).S (S1.addS m lv S K Q b p t).Q (S1.addS m lv S K Q b p t).b (S1.addS m lv S K Q b p t).p l') ∨
   (∃ c,(S1.addS m lv S K Q b p t).left≠[]∧e=.returned (.int .i64 (if (S1.addS m lv S K Q b p t).m.life=0 then 10 else 9))∧w.heap.size≤c∧FsM w' fb c lo hi cb lb L ⟨lv.nb,lv.nn,none⟩ kv qv nk nq (S1.addS m lv S K Q b p t).m K (S1.addS m lv S K Q b p t).Q b m.np l))))
theorem qmK (tb pb db:Nat) (l:List It) (p d:Bs) (w:World) (hT:TreeAt w tb l) (ht:TreeP l) (hml:ML w) (hp:p.length≤1048576) (hd:d.length≤1048576) (h1:w.cell? ⟨pb,0,none⟩=some (.string (txt p))) (h2:w.cell? ⟨db,0,none⟩=some (.string (txt d))) :
 Calls Tryz.prog 92 #[.map (some tb),.pointer (some ⟨pb,0,none⟩),.pointer (some ⟨db,0,none⟩)] w fun e w'=>Done tb l (setIt l (putI l p d)) (putE l p d) w e w':=by
 have A:=hidI (qe8 tb l p d w hT ht hml hp hd);obtain ⟨X,hX⟩:∃ X,X=txt p:=⟨_,rfl⟩;obtain ⟨Y,hY⟩:∃ Y,Y=txt d:=⟨_,rfl⟩;obtain ⟨E,hE⟩:∃ E,E=putE l p d:=⟨_,rfl⟩;rw [←hX,←hY,←hE] at A;rw [←hX] at h1;rw [←hY] at h2;rw [←hE];clear hX hY hE hT ht hml;go_enter Tryz.func92,Tryz.ntmps92
 go_wp2_with fail;refine A.out.mono ?_;rintro e w' ⟨rfl,hT1,hT2⟩;have H1:=hidI hT1;have H2:=hidI hT2;clear hT1 hT2 A;go_wp2_with fail;go_ret
 exact ⟨rfl,H1.out,H2.out⟩
theorem qgD (tb pb:Nat) (l:List It) (p:Bs) (w:World) (hT:TreeAt w tb l) (ht:TreeP l) (hml:ML w) (hp:p.length≤1048576) (h1:w.cell? ⟨pb,0,none⟩=some (.string (txt p))) :
 Calls Tryz.prog 90 #[.map (some tb),.pointer (some ⟨pb,0,none⟩)] w fun e w'=>Done tb l (l.filter fun y=>decide (y.path≠p)) (removeE l p) w e w':=by
 have A:=hidI (qia tb l p w hT ht hml hp);obtain ⟨X,hX⟩:∃ X,X=txt p:=⟨_,rfl⟩;obtain ⟨E,hE⟩:∃ E,E=removeE l p:=⟨_,rfl⟩;rw [←hX,←hE] at A;rw [←hX] at h1;rw [←hE];clear hX hE hT ht hml;go_enter Tryz.func90,Tryz.ntmps90
 go_wp2_with fail;refine A.out.mono ?_;rintro e w' ⟨rfl,hT1,hT2⟩;have H1:=hidI hT1;have H2:=hidI hT2;clear hT1 hT2 A;go_wp2_with fail;go_ret
 exact ⟨rfl,H1.out,H2.out⟩
theorem FsM.back {w:World} {fb t0 c lo hi cb lb:Nat} {L:S1.Loc} {lv:S1.Lv} {kv qv:Option Nat} {nk nq:Nat} {m:S1.M} {K Q:Nat→Bool} {b p:Nat} {l:List It} (hf:FsAt w fb cb lb t0) (hc:TreeAt w c l) (hl:S1.LogM w lo hi cb lb L lv kv qv nk nq m K Q b p) (nf:¬S1.LogS lo hi lb kv qv fb) (nc:¬S1.LogS lo hi lb kv qv c) (ne:fb≠c) (tk:∀ g,lv.tk=some g→¬S1.LogS lo hi lb kv qv g∧g≠fb∧g≠c∧∃ n S,S1.LbAt w g n S∧n≤100000∧∀ x,Free (S x)) :
 FsM (w.setCell ⟨fb,2,none⟩ (.map (some c))) fb c lo hi cb lb L lv kv qv nk nq m K Q b p l:=by
 have e:∀ k,k≠fb→(w.setCell ⟨fb,2,none⟩ (.map (some c))).heap[k]? = w.heap[k]? := fun k hk=>Below.heap_setCell w ⟨fb,2,none⟩ _ k hk
 refine ⟨hf.set c,hc.of_block (e c fun h=>ne h.symm),hl.of_blocks (by have:=hl.sz;simpa using this) (fun k hk _=>e k fun h=>nf (by rw [←h];exact hk)),nf,nc,ne,fun g hg => ?_⟩;obtain ⟨h1,h2,h3,n,S,h4,h5,h6⟩:=tk g hg;exact ⟨h1,h2,h3,n,S,h4.of_block (e g h2),h5,h6⟩
theorem qoi (tmps:Array Value) (R:Ending→World→Prop) (z D fb:Nat) (c:Option Nat) (x:Int) (y:Value) (V:World) (h4:tmps[4]? = some (.pointer (some ⟨z+1,0,none⟩))) (he:V.cell? ⟨z+1,0,none⟩=some (.int .i64 x)) (hd:V.cell? ⟨D,0,none⟩=some (.map c)) (ha:V.cell? ⟨z,0,none⟩=some (.pointer (some ⟨fb,0,none⟩))) (hy:V.cell? ⟨fb,2,none⟩=some y) (hz:V.frozen? ⟨fb,2,none⟩=false) (hx:x≠0) (hne:fb≠z+1) (hR:R (.returned (.int .i64 x)) (V.setCell ⟨fb,2,none⟩ (.map c))) :
 bodyPostD Tryz.prog Tryz.f89 R Exit.ret { tmps:=tmps,defers:=[{ target:=.fn (.func 147) #[.pointer (some ⟨z+1,0,none⟩),.pointer (some ⟨D,0,none⟩),.pointer (some ⟨z,0,none⟩)],args:=#[] }] } V:=by
 refine leaves_cons (f:=147) (args:=#[.pointer (some ⟨z+1,0,none⟩),.pointer (some ⟨D,0,none⟩),.pointer (some ⟨z,0,none⟩)]) (by simp) (by simp [go_sem]) ?_;refine (qob z (z+1) D fb c x y V he hd ha hy hz hx).mono ?_;rintro e u' w'' ⟨rfl,rfl,rfl⟩;have h5:(V.setCell ⟨fb,2,none⟩ (.map c)).cell? ⟨z+1,0,none⟩=some (.int .i64 x):=by
  rw [World.cell?_setCell_other]
  ·exact he
  intro h;cases h
 simp [Leaves,settle,results,Tryz.results89,go_sem,h4,h5];exact hR
theorem qhO (tmps:Array Value) (R:Ending→World→Prop) (z D:Nat) (V:World) (h4:tmps[4]? = some (.pointer (some ⟨z+1,0,none⟩))) (he:V.cell? ⟨z+1,0,none⟩=some (.int .i64 0)) (hR:R (.returned (.int .i64 0)) V) :
 bodyPostD Tryz.prog Tryz.f89 R Exit.ret { tmps:=tmps,defers:=[{ target:=.fn (.func 147) #[.pointer (some ⟨z+1,0,none⟩),.pointer (some ⟨D,0,none⟩),.pointer (some ⟨z,0,none⟩)],args:=#[] }] } V:=by
 refine leaves_cons (f:=147) (args:=#[.pointer (some ⟨z+1,0,none⟩),.pointer (some ⟨D,0,none⟩),.pointer (some ⟨z,0,none⟩)]) (by simp) (by simp [go_sem]) ?_;refine (qlL z (z+1) D V he).mono ?_;rintro e u' w'' ⟨rfl,rfl,rfl⟩;simp [Leaves,settle,results,Tryz.results89,go_sem,h4,he];exact hR
structure Mid (V:World) (z D fb tb c lo hi cb lb:Nat) (L:S1.Loc) (lv:S1.Lv) (kv qv:Option Nat) (nk nq:Nat) (m:S1.M) (K Q:Nat→Bool) (b p:Nat) (l l':List It) (x:Int):Prop where
 a:V.heap[z]? = some (.cells #[.pointer (some ⟨fb,0,none⟩)] 30 (0,0))
 d:V.heap[D]? = some (.cells #[.map (some c)] 77 (0,0))
 e:V.heap[z+1]? = some (.cells #[.int .i64 x] 35 (0,0))
 fs:FsAt V fb cb lb tb
 was:TreeAt V c l
 tree:TreeAt V tb l'
 log:S1.LogM V lo hi cb lb L lv kv qv nk nq m K Q b p
 tk:∀ g,lv.tk=some g→¬S1.LogS lo hi lb kv qv g∧g≠fb∧g≠tb∧g<z∧∃ n S,S1.LbAt V g n S∧n≤100000∧∀ x,Free (S x)
 nf:¬S1.LogS lo hi lb kv qv fb
 nt:¬S1.LogS lo hi lb kv qv tb
 nc:∀ k,z≤k→¬S1.LogS lo hi lb kv qv k
 ne:fb≠tb
 zs:fb<z∧tb<z∧z+2≤c∧c<D
namespace Mid
variable {V V':World} {z D fb tb c lo hi cb lb:Nat} {L:S1.Loc} {lv:S1.Lv} {kv qv:Option Nat} {nk nq:Nat} {m:S1.M} {K Q:Nat→Bool} {b p:Nat} {l l':List It} {x:Int}
theorem below (h:Mid V z D fb tb c lo hi cb lb L lv kv qv nk nq m K Q b p l l' x) (hb:Below V.heap.size V V'):Mid V' z D fb tb c lo hi cb lb L lv kv qv nk nq m K Q b p l l' x:=
 ⟨(hb.block _ (lt_of_heap h.a)).trans h.a,(hb.block _ (lt_of_heap h.d)).trans h.d,(hb.block _ (lt_of_heap h.e)).trans h.e,(hb.block _ (lt_of_heap h.fs)).trans h.fs,h.was.below hb h.was.lt,h.tree.below hb h.tree.lt,h.log.new hb,fun g hg=>by
   obtain ⟨h1,h2,h3,h4,n,S,h5,h6⟩:=h.tk g hg;exact ⟨h1,h2,h3,h4,n,S,h5.of_block (hb.block g h5.lt),h6⟩,h.nf,h.nt,h.nc,h.ne,h.zs⟩
theorem drew (h:Mid V z D fb tb c lo hi cb lb L lv kv qv nk nq m K Q b p l l' x):Mid V.drew z D fb tb c lo hi cb lb L lv kv qv nk nq m K Q b p l l' x:=h.below ((Below.refl _ V).drew)
theorem set (h:Mid V z D fb tb c lo hi cb lb L lv kv qv nk nq m K Q b p l l' x) (y:Int):Mid (V.setCell ⟨z+1,0,none⟩ (.int .i64 y)) z D fb tb c lo hi cb lb L lv kv qv nk nq m K Q b p l l' y:=by
 have e:∀ k,k≠z+1→(V.setCell ⟨z+1,0,none⟩ (.int .i64 y)).heap[k]? = V.heap[k]? := fun k hk=>Below.heap_setCell V ⟨z+1,0,none⟩ _ k hk
 have zs:=h.zs;refine ⟨(e _ (by omega)).trans h.a,(e _ (by omega)).trans h.d,heap_setCell_same V (z+1) 0 _ 35 (.int .i64 y) h.e,(e _ (by omega)).trans h.fs,h.was.of_block (e _ (by omega)),h.tree.of_block (e _ (by omega)),h.log.of_blocks (by have:=h.log.sz;simpa using this) (fun k hk _=>e k fun h'=>h.nc (z+1) (by omega) (by rw [←h'];exact hk)),fun g hg => ?_,h.nf,h.nt,h.nc,h.ne,h.zs⟩;obtain ⟨h1,h2,h3,h4,n,S,h5,h6⟩:=h.tk g hg;exact ⟨h1,h2,h3,h4,n,S,h5.of_block (e g (by omega)),h6⟩
theorem a0 (h:Mid V z D fb tb c lo hi cb lb L lv kv qv nk nq m K Q b p l l' x):V.cell? ⟨z,0,none⟩=some (.pointer (some ⟨fb,0,none⟩)):=by rw [cell_of_row V z 0 _ 30 (0,0) h.a];rfl
theorem d0 (h:Mid V z D fb tb c lo hi cb lb L lv kv qv nk nq m K Q b p l l' x):V.cell? ⟨D,0,none⟩=some (.map (some c)):=by rw [cell_of_row V D 0 _ 77 (0,0) h.d];rfl
theorem e0 (h:Mid V z D fb tb c lo hi cb lb L lv kv qv nk nq m K Q b p l l' x):V.cell? ⟨z+1,0,none⟩=some (.int .i64 x):=by rw [cell_of_row V (z+1) 0 _ 35 (0,0) h.e];rfl
theorem ef (h:Mid V z D fb tb c lo hi cb lb L lv kv qv nk nq m K Q b p l l' x):V.frozen? ⟨z+1,0,none⟩=false:=frozen_of_row V (z+1) 0 _ 35 h.e
theorem now (h:Mid V z D fb tb c lo hi cb lb L lv kv qv nk nq m K Q b p l l' x):FsM V fb tb lo hi cb lb L lv kv qv nk nq m K Q b p l':=
 ⟨h.fs,h.tree,h.log,h.nf,h.nt,h.ne,fun g hg=>by
  obtain ⟨h1,h2,h3,h4,n,S,h5,h6⟩:=h.tk g hg;exact ⟨h1,h2,h3,n,S,h5,h6⟩⟩
theorem door {R:Ending→World→Prop} (h:Mid V z D fb tb c lo hi cb lb L lv kv qv nk nq m K Q b p l l' x) (tmps:Array Value) (h4:tmps[4]? = some (.pointer (some ⟨z+1,0,none⟩))) (hx:x≠0) (hR:FsM (V.setCell ⟨fb,2,none⟩ (.map (some c))) fb c lo hi cb lb L lv kv qv nk nq m K Q b p l→R (.returned (.int .i64 x)) (V.setCell ⟨fb,2,none⟩ (.map (some c)))) :
 bodyPostD Tryz.prog Tryz.f89 R Exit.ret { tmps:=tmps,defers:=[{ target:=.fn (.func 147) #[.pointer (some ⟨z+1,0,none⟩),.pointer (some ⟨D,0,none⟩),.pointer (some ⟨z,0,none⟩)],args:=#[] }] } V:=by
 have zs:=h.zs;refine qoi tmps R z D fb (some c) x _ V h4 h.e0 h.d0 h.a0 h.fs.c2 (h.fs.fz 2) hx (by omega) (hR (FsM.back h.fs h.was h.log h.nf (h.nc c (by omega)) (by omega) fun g hg => ?_));obtain ⟨h1,h2,h3,h4,n,S,h5,h6⟩:=h.tk g hg;exact ⟨h1,h2,by omega,n,S,h5,h6⟩
end Mid
theorem qnX {w:World} {lo hi cb lb:Nat} {L:S1.Loc} {v0:S1.Lv} {kv qv:Option Nat} {nk nq:Nat} {m:S1.M} {K Q:Nat→Bool} {b p:Nat} {S:Nat→Nat→Bool} {t:List UInt8} {e:Ending} {w':World} (h:S1.AddPost w lo hi cb lb L v0 kv qv nk nq m K Q b p S t e w'):(∃ x:Int,e=.returned (.int .i64 x))∧S1.Fm (S1.LogS lo hi lb kv qv) w w':=by
 obtain ⟨h1,h2,h3⟩:=h;by_cases hm:S1.mayE m t.length=0
 ·by_cases hl:(S1.addS m v0 S K Q b p t).left=[]
  ·obtain ⟨_,_,_,_,rfl,_,_,_,_,hF,_⟩:=h2 hm hl;exact ⟨⟨_,rfl⟩,hF⟩
  obtain ⟨rfl,_,hF⟩:=h3 hm hl;exact ⟨⟨_,rfl⟩,hF⟩
 obtain ⟨rfl,rfl⟩:=h1 hm;exact ⟨⟨_,rfl⟩,S1.Fm.refl _ _⟩
theorem qfg {m:S1.M} (hw:S1.WF m) (x:Nat):Free (hasL (scanF (S1.pgs m) m.np m.nb) x):=qdi (by
 have h1:=scanF_len (S1.pgs m) m.np m.nb;have h2:m.nb*m.np≤32*16:=Nat.mul_le_mul hw.nb2 hw.np2;omega) x
theorem Mid.turned {V V':World} {z D fb tb c lo hi cb lb:Nat} {L:S1.Loc} {lv:S1.Lv} {kv qv:Option Nat} {nk nq:Nat} {m:S1.M} {K Q:Nat→Bool} {b p:Nat} {l l':List It} {x:Int} (h:Mid V z D fb tb c lo hi cb lb L lv kv qv nk nq m K Q b p l l' x) (hF:S1.Fm (S1.LogS lo hi lb kv qv) V V') {lv':S1.Lv} {nk' nq':Nat} {m':S1.M} {K' Q':Nat→Bool} {b' p':Nat} (hL:S1.LogM V' lo hi cb lb L lv' kv qv nk' nq' m' K' Q' b' p') (htk:lv'.tk=none):Mid V' z D fb tb c lo hi cb lb L lv' kv qv nk' nq' m' K' Q' b' p' l l' x:=by
 have zs:=h.zs;exact ⟨(hF.block _ (lt_of_heap h.a) (h.nc _ (Nat.le_refl _))).trans h.a,(hF.block _ (lt_of_heap h.d) (h.nc _ (by omega))).trans h.d,(hF.block _ (lt_of_heap h.e) (h.nc _ (by omega))).trans h.e,(hF.block _ (lt_of_heap h.fs) h.nf).trans h.fs,h.was.of_block (hF.block _ h.was.lt (h.nc _ (by omega))),h.tree.of_block (hF.block _ h.tree.lt h.nt),hL,fun g hg=>(by rw [htk] at hg;cases hg),h.nf,h.nt,h.nc,h.ne,h.zs⟩
theorem qey {u:Bs→Option Bs} (hP:PackC u) (G:Nat) (cap:Array Value) (w:World) (fb tb lo hi cb lb:Nat) (L:S1.Loc) (lv:S1.Lv) (kv qv:Option Nat) (nk nq:Nat) (m:S1.M) (K Q:Nat→Bool) (b p:Nat) (l l':List It) (E:Int)
 (h:FsM w fb tb lo hi cb lb L lv kv qv nk nq m K Q b p l) (ht:TreeP l) (ht':E=0→TreeP l') (hml:ML w) (h0:¬FsS fb tb lo hi lb kv qv 0) (hb:b<1000) (hp:p≤m.np)
 (hin:∀ args w,(callFunc G args).run Tryz.prog w=.ok (.enter G args) w)
 (hdo:∀ W,Below w.heap.size w W→Calls Tryz.prog G (#[.map (some tb)]++cap) W fun e w'=>Done tb l l' E W e w') :
 Calls Tryz.prog 89 #[.pointer (some ⟨fb,0,none⟩),.func (.func G) #[] cap] w fun e w'=>ChgP u w fb tb lo hi cb lb L lv kv qv nk nq m K Q b p l l' E e w':=by
 have hmf:∀ (fn:Fn) (first cap:Array Value) (w:World),(Instr.makeFunc fn first cap).run Tryz.prog w=.ok (.func fn first cap) w:=fun _ _ _ _=>rfl
 have hfl:=lt_of_heap h.fs;have htl:=h.tree.lt;obtain ⟨z0,hz0⟩:∃ z0,z0=w.heap.size:=⟨_,rfl⟩;obtain ⟨W1,hW1⟩:∃ W1,W1=(w.alloc (.cells #[.pointer (some ⟨fb,0,none⟩)] 30)).alloc (.cells #[.int .i64 0] 35):=⟨_,rfl⟩;have hB1:Below w.heap.size w W1:=by rw [hW1];exact ((Below.refl _ w).alloc (Nat.le_refl _) _).alloc (by simp) _
 have hs1:W1.heap.size=z0+2:=by rw [hW1,hz0];simp
 have hA1:W1.heap[z0]? = some (.cells #[.pointer (some ⟨fb,0,none⟩)] 30 (0,0)):=by rw [hW1,hz0];exact (Below.heap_alloc _ _ _ (by simp)).trans (heap_alloc_new _ _)
 have hE1:W1.heap[z0+1]? = some (.cells #[.int .i64 0] 35 (0,0)):=by rw [hW1,hz0];have:=heap_alloc_new (w.alloc (.cells #[.pointer (some ⟨fb,0,none⟩)] 30)) (.cells #[.int .i64 0] 35);simpa using this
 have hM1:=h.below hB1;have A:=hidI (qi2 tb l W1 hM1.tree);have a0:W1.cell? ⟨z0,0,none⟩=some (.pointer (some ⟨fb,0,none⟩)):=by rw [cell_of_row W1 z0 0 _ 30 (0,0) hA1];rfl
 have c2:=hM1.fs.c2;have HM1:=hidI hM1;have HA1:=hidI hA1;have HE1:=hidI hE1;have HB1:=hidI hB1;have HW1:=hidI hW1;have Hz0:=hidI hz0;have Hdo:=hidI hdo;have Hin:=hidI hin;have Hs1:=hidI hs1;have H:=hidI h;have Hml:=hidI hml;clear hM1 hA1 hE1 hB1 hW1 hdo h hml hin hs1 hz0
 go_enter_defers Tryz.func89,Tryz.ntmps89
 go_wp2_with (first | (rw [←HW1.out,←Hz0.out]) | fail);refine A.out.mono ?_;rintro e W2 ⟨rfl,hC2,hB2⟩;obtain ⟨C,hC⟩:∃ C,C=W1.heap.size:=⟨_,rfl⟩;rw [←hC] at hC2 ⊢;have hM2:=HM1.out.below hB2;have hA2:=(hB2.block z0 (by have:=Hs1.out;omega)).trans HA1.out;have hE2:=(hB2.block (z0+1) (by have:=Hs1.out;omega)).trans HE1.out;obtain ⟨D,hD⟩:∃ D,D=W2.heap.size:=⟨_,rfl⟩;obtain ⟨W3,hW3⟩:∃ W3,W3=W2.alloc (.cells #[.map (some C)] 77):=⟨_,rfl⟩;have hB3:Below W2.heap.size W2 W3:=by rw [hW3];exact (Below.refl _ W2).alloc (Nat.le_refl _) _
 have hz2:z0+2≤D:=by rw [hD];have:=hB2.size;have:=Hs1.out;omega
 have hs3:W3.heap.size=D+1:=by rw [hW3,hD];simp
 have hM3:=hM2.below hB3;have hA3:W3.heap[z0]? = _:=(hB3.block z0 (by omega)).trans hA2;have hE3:W3.heap[z0+1]? = _:=(hB3.block (z0+1) (by omega)).trans hE2;have hD3:W3.heap[D]? = some (.cells #[.map (some C)] 77 (0,0)):=by rw [hW3,hD];exact heap_alloc_new _ _
 have hT3:TreeAt W3 C l:=hC2.below hB3 (by have:=hC2.lt;omega);have hB03:Below w.heap.size w W3:=(HB1.out.trans (hB2.mono HB1.out.size)).trans (hB3.mono (by have:=HB1.out.size;have:=hB2.size;omega));have hC0:z0+2≤C∧C<D:=⟨by rw [hC];have:=Hs1.out;omega,by rw [hD];exact hC2.lt⟩;have a0:W3.cell? ⟨z0,0,none⟩=some (.pointer (some ⟨fb,0,none⟩)):=by rw [cell_of_row W3 z0 0 _ 30 (0,0) hA3];rfl
 have c2:=hM3.fs.c2;have HW3:=hidI hW3;have HD:=hidI hD;have HM3:=hidI hM3;have HA3:=hidI hA3;have HE3:=hidI hE3;have HD3:=hidI hD3;have HT3:=hidI hT3;have HB03:=hidI hB03;have Hs3:=hidI hs3;have hcall:=Hdo.out W3 hB03;have Hcall:=hidI hcall;clear hM2 hA2 hE2 hB2 hW3 hD hC2 hC hB3 hM3 hA3 hE3 hD3 hT3 hB03 hs3 hcall HM1 HA1 HE1 HW1 A;have hin:=Hin.out;go_wp2_with (first | (rw [←HW3.out,←HD.out]) | fail);refine Hcall.out.mono ?_;rintro e W4 ⟨rfl,hTu,hT4⟩;have hDt:z0+1≠tb∧z0≠tb∧D≠tb∧C≠tb∧fb<z0∧tb<z0:=by have:=Hz0.out;omega
 obtain ⟨W5,hW5⟩:∃ W5,W5=W4.setCell ⟨z0+1,0,none⟩ (.int .i64 E):=⟨_,rfl⟩;have hK:∀ k,k<W3.heap.size→k≠tb→k≠z0+1→W5.heap[k]? = W3.heap[k]? := fun k hk h1 h2=>by
  rw [hW5];exact (Below.heap_setCell W4 ⟨z0+1,0,none⟩ _ k h2).trans (hTu.block k hk h1)
 have hsz5:W3.heap.size≤W5.heap.size:=by rw [hW5];have:=hTu.size;simpa using this
 have hS0:∀ k,S1.LogS lo hi lb kv qv k→k<z0∧k≠tb:=fun k hk=>⟨by rw [Hz0.out];exact S1.logS_lt H.out.log hk,fun e=>H.out.nt (by rw [←e];exact hk)⟩
 have hs3:=Hs3.out;have hM5:Mid W5 z0 D fb tb C lo hi cb lb L lv kv qv nk nq m K Q b p l (if E=0 then l' else l) E:=by
  refine ⟨(hK z0 (by omega) (by omega) (by omega)).trans HA3.out,(hK D (by omega) (by omega) (by omega)).trans HD3.out,?_,(hK fb (by omega) H.out.ne (by omega)).trans HM3.out.fs,HT3.out.of_block (hK C HT3.out.lt (by omega) (by omega)),hT4.of_block (by rw [hW5];exact Below.heap_setCell W4 ⟨z0+1,0,none⟩ _ tb (show tb≠z0+1 by omega)),HM3.out.log.of_blocks (Nat.le_trans HM3.out.log.sz hsz5) (fun k hk _=>by
   have:=hS0 k hk
   exact hK k (by omega) this.2 (by omega)),fun g hg => ?_,H.out.nf,H.out.nt,fun k hk h=>by have:=hS0 k h;omega,H.out.ne,by omega⟩
  ·rw [hW5];exact heap_setCell_same W4 (z0+1) 0 _ 35 (.int .i64 E) ((hTu.block (z0+1) (by omega) (by omega)).trans HE3.out)
  obtain ⟨h1,h2,h3,n,S,h4,h5,h6⟩:=H.out.tk g hg;obtain ⟨_,_,_,n',S',h4',h5',h6'⟩:=HM3.out.tk g hg;have hlt:g<z0:=by rw [Hz0.out];exact h4.lt
  exact ⟨h1,h2,h3,hlt,n',S',h4'.of_block (hK g (by omega) h3 (by omega)),h5',h6'⟩
 have hR5:S1.Fm (FsS fb tb lo hi lb kv qv) w W5:=by
  have h1:S1.Fm (FsS fb tb lo hi lb kv qv) W3 W4:=⟨hTu.os,hTu.tape,hTu.output,hTu.size,fun k hk hn=>hTu.block k hk fun e=>hn (.inr (.inr e))⟩;rw [hW5];exact ((S1.Fm.of_new HB03.out).trans h1).set (fun hlt=>by have:=Hz0.out;omega) 0 _
 have HX:Hid (∀ V y,S1.Fm (FsS fb tb lo hi lb kv qv) w V→S1.Fm (FsS fb tb lo hi lb kv qv) w (V.setCell ⟨z0+1,0,none⟩ (.int .i64 y))):=hidI fun V y hV=>hV.set (fun hlt=>by have:=Hz0.out;omega) 0 _
 have HY:Hid (∀ V y,S1.Fm (FsS fb tb lo hi lb kv qv) w V→S1.Fm (FsS fb tb lo hi lb kv qv) w (V.setCell ⟨fb,2,none⟩ y)):=hidI fun V y hV=>hV.set (fun _=>.inr (.inl rfl)) 2 _
 have e0:W4.cell? ⟨z0+1,0,none⟩=some (.int .i64 0):=by rw [cell_of_row W4 (z0+1) 0 _ 35 (0,0) ((hTu.block (z0+1) (by omega) (by omega)).trans HE3.out)];rfl
 have f0:W4.frozen? ⟨z0+1,0,none⟩=false:=frozen_of_row W4 (z0+1) 0 _ 35 ((hTu.block (z0+1) (by omega) (by omega)).trans HE3.out);have e5:=hM5.e0;have f5:=hM5.ef;have a5:=hM5.a0;have d5:=hM5.d0;have HW5:=hidI hW5;have HM5:=hidI hM5;have HR5:=hidI hR5;have HCz:Hid (w.heap.size≤C):=hidI (by have:=Hz0.out;omega);have Hht:=hidI ht;have Hht':=hidI ht';clear hTu hT4 hW5 hK hsz5 hR5 hS0 hs3 hM5 HM3 HA3 HE3 HD3 HT3 Hcall Hdo a0 c2 ht ht';by_cases hE:E=0
 ·subst hE;rw [if_pos rfl] at HM5;have A:=hidI (S1.dead_any W5 lo hi cb L m HM5.out.log.chip);have p0:=HM5.out.fs.p0;have p1:=HM5.out.fs.p1;have p2:=HM5.out.fs.c2;have ht':=Hht'.out rfl;have ht:=Hht.out;by_cases hlf:m.life=0
  ·have hlb:(m.life==0)=true:=by simp [hlf]
   rw [hlb] at A;go_wp2_with (first | (rw [←HW5.out]) | (go_at_call 25;refine A.out.mono ?_;rintro e w' ⟨rfl,hw⟩;have hw':=hw.symm;subst hw';clear hw) | fail);exact (HM5.out.set 10).door _ rfl (by decide) fun hM=>⟨HY.out _ _ (HX.out _ _ HR5.out),.inl ⟨10,C,.inr (.inl ⟨rfl,hlf,rfl⟩),rfl,HCz.out,hM⟩⟩
  have hlb:(m.life==0)=false:=by simp [hlf]
  rw [hlb] at A;have hml5:ML W5:=by
   obtain ⟨x,hx⟩:=Hml.out;exact ⟨x,by rw [World.cell?_of_block (HR5.out.block 0 Hml.out.lt h0)];exact hx⟩
  have B:=hidI (qi1 tb C l' l W5.drew HM5.out.drew.tree HM5.out.drew.was ht'.nodup ht.nodup (by have:=ht'.len;omega) (fun x hx=>by have:=(qaF (ht'.ok x hx)).p;omega));have Hml5:=hidI hml5;have Hlf:=hidI hlf;have a5d:W5.drew.cell? ⟨z0,0,none⟩=some (.pointer (some ⟨fb,0,none⟩)):=a5;have p2d:W5.drew.cell? ⟨fb,2,none⟩=some (.map (some tb)):=p2;have d5d:W5.drew.cell? ⟨D,0,none⟩=some (.map (some C)):=d5;clear hml5 hlf;go_wp2_with (first | (rw [←HW5.out]) | (go_at_call 25;refine A.out.mono ?_;rintro e w' ⟨rfl,hw⟩;have hw':=hw.symm;subst hw';clear hw) | fail);go_region_held3 (fun V=>V.cell? ⟨z0,0,none⟩=some (.pointer (some ⟨fb,0,none⟩))∧V.cell? ⟨fb,2,none⟩=some (.map (some tb))∧V.cell? ⟨D,0,none⟩=some (.map (some C))) (go_keep) (first
   | (go_at_call 148;refine B.out.mono ?_;rintro e W6 ⟨hb6,r,rfl,hr⟩;have HM6:=hidI (HM5.out.drew.below hb6);have a6:=HM6.out.a0;have p6:=HM6.out.fs.c2;have d6:=HM6.out.d0;have HR6:=hidI (HR5.out.drew.trans (S1.Fm.of_new hb6));have Hml6:Hid (ML W6):=hidI ((Hml5.out.below (Below.refl _ W5).drew Hml5.out.lt).below hb6 Hml5.out.lt);have Hr:=hidI hr;clear hb6 hr))
  rename_i hHeld;clear hHeld a5d p2d d5d a5 p2 d5 A B p0 p1 e5 f5;have e6:=HM6.out.e0;have f6:=HM6.out.ef;cases r with
  | true =>
    go_wp2_with fail;exact qhO _ _ z0 D _ rfl (HM6.out.set 0).e0 ⟨HX.out _ _ HR6.out,.inr (.inl ⟨rfl,Hlf.out,Hr.out trivial,rfl,(HM6.out.set 0).now⟩)⟩
  | false =>
    obtain ⟨S,hS1,hS2,hS3⟩:∃ S,TkS w lv m S∧(∀ x,Free (S x))∧∀ V,Below W6.drew.heap.size W6.drew V→S1.LogM V lo hi cb lb L lv kv qv nk nq m K Q b p→Calls Tryz.prog 127 #[.pointer (some ⟨lb,0,none⟩)] V fun e w'=>S1.NextPost V lo hi cb lb L lv kv qv nk nq m K Q b p S e w':=by
     cases hg:lv.tk with
     | none=>exact ⟨_,⟨fun _=>rfl,fun g hg'=>by rw [hg] at hg';cases hg'⟩,qfg HM6.out.log.wf,fun V _ hL=>S1.next_both.2 V lo hi cb lb L lv kv qv nk nq m K Q b p _ rfl hL hg Hlf.out (qfg HM6.out.log.wf _)⟩
     | some g =>
       obtain ⟨h1,h2,h3,h4,n,S,h5,h6,h7⟩:=HM6.out.drew.tk g hg;have hwg:w.heap[g]? = W6.drew.heap[g]? := (HR6.out.block g (by have:=Hz0.out;omega) (fun hS=>by
        rcases hS with h | h | h
        ·exact h1 h
        ·exact h2 h
        exact h3 h)).symm
       exact ⟨S,⟨(fun h=>by rw [hg] at h;cases h),fun g' hg'=>by rw [hg] at hg';cases hg';exact ⟨n,h5.of_block hwg,h6⟩⟩,h7,fun V hV hL=>S1.next_both.1 V lo hi cb lb L lv kv qv nk nq m K Q b p S g n hL hg (h5.of_block (hV.block g h5.lt)) h6 h1 (h7 _)⟩
    have HT:=hidI (qhq hP tb l' W6.drew HM6.out.drew.tree ht' (Hml6.out.below (Below.refl _ W6).drew Hml6.out.lt));have hwl:weigh (qab l')≤4271*60:=by
     have h1:weigh (qab l')=weigh l':=((qao l').map _).sum_nat;have h2:=qfb fun x hx=>qaF (ht'.ok x hx)
     have h3:=ht'.len;have h4:4271*l'.length≤4271*60:=Nat.mul_le_mul_left _ h3;omega
    have HAdd:Hid (∀ V t,IsText u (qab l') t→Below W6.drew.heap.size W6.drew V→Calls Tryz.prog 78 #[.pointer (some ⟨lb,0,none⟩),.string (txt t)] V fun e w'=>S1.AddPost V lo hi cb lb L lv kv qv nk nq m K Q b p S t e w'):=hidI fun V t hIt hV=>by
     have hL:=HM6.out.log.drew.new hV;exact S1.add_any V lo hi cb lb L lv kv qv nk nq m K Q b p S t hL hb hp (by have:=qbH hIt;omega) (nxt_free (hS2 _) (Nat.mod_lt _ (by decide))).2 (fun _=>hS3 V hV hL)
    have HS1:=hidI hS1;have HS2:=hidI hS2;have p1:=HM6.out.fs.p1;have a6d:W6.drew.cell? ⟨z0,0,none⟩=some (.pointer (some ⟨fb,0,none⟩)):=a6;have p6d:W6.drew.cell? ⟨fb,2,none⟩=some (.map (some tb)):=p6;have p1d:W6.drew.cell? ⟨fb,1,none⟩=some (.pointer (some ⟨lb,0,none⟩)):=p1;clear hS1 hS2 hS3 hwl d6 ht ht';go_wp2_with fail;go_region_held3 (fun V=>V.cell? ⟨z0,0,none⟩=some (.pointer (some ⟨fb,0,none⟩))∧V.cell? ⟨fb,2,none⟩=some (.map (some tb))∧V.cell? ⟨fb,1,none⟩=some (.pointer (some ⟨lb,0,none⟩))) (go_keep) (first
     | (go_at_call 43;refine HT.out.mono ?_;rintro e W7 ⟨t,rfl,hIt,hb7⟩;have HM7:=hidI (HM6.out.drew.below hb7);have a7:=HM7.out.a0;have p7:=HM7.out.fs.c2;have q7:=HM7.out.fs.p1;have HR7:=hidI (HR6.out.drew.trans (S1.Fm.of_new hb7));have HAt:=hidI (HAdd.out W7 t hIt hb7);have HIt:=hidI hIt;have Hs7:=hidI hb7.size;clear hb7 hIt;obtain ⟨X,hX⟩:∃ X,X=txt t:=⟨_,rfl⟩;rw [←hX] at HAt ⊢;clear hX)
     | (go_at_call 78;refine HAt.out.mono ?_;rintro e W8 hpost;obtain ⟨⟨x,rfl⟩,hF8⟩:=qnX hpost;have HP8:=hidI hpost;have HF8:=hidI hF8;have zs:=HM7.out.zs;have k8:=(hF8.block _ (lt_of_heap HM7.out.a) (HM7.out.nc _ (Nat.le_refl _))).trans HM7.out.a;have k9:=(hF8.block _ (lt_of_heap HM7.out.fs) HM7.out.nf).trans HM7.out.fs;have k10:=(hF8.block _ (lt_of_heap HM7.out.e) (HM7.out.nc _ (by omega))).trans HM7.out.e;have a8:W8.cell? ⟨z0,0,none⟩=some (.pointer (some ⟨fb,0,none⟩)):=(by rw [cell_of_row W8 z0 0 _ 30 (0,0) k8];rfl);have p8:=FsAt.c2 k9;have q8:=FsAt.p1 k9;have e8:W8.cell? ⟨z0+1,0,none⟩=some (.int .i64 0):=(by rw [cell_of_row W8 (z0+1) 0 _ 35 (0,0) k10];rfl);have f8:W8.frozen? ⟨z0+1,0,none⟩=false:=frozen_of_row W8 (z0+1) 0 _ 35 k10;have p9:(W8.setCell ⟨z0+1,0,none⟩ (.int .i64 x)).cell? ⟨fb,2,none⟩=some (.map (some tb)):=(by rw [World.cell?_setCell_other];exact p8;intro h;cases h);have q9:(W8.setCell ⟨z0+1,0,none⟩ (.int .i64 x)).cell? ⟨fb,1,none⟩=some (.pointer (some ⟨lb,0,none⟩)):=(by rw [World.cell?_setCell_other];exact q8;intro h;cases h);clear hpost hF8 k8 k9 k10))
    rename_i hHeld;clear hHeld HT HAdd a6d p6d p1d a6 p6 p1;go_wp2_with fail;have HRx:=HX.out W8 x (HR7.out.trans (HF8.out.mono fun k _ hk=>.inl hk));have hz7:z0+2≤W7.heap.size:=by have:=HM7.out.was.lt;omega
    have hzw:=Hz0.out;obtain ⟨h1,h2,h3⟩:=HP8.out;by_cases hm:S1.mayE m t.length=0
    ·by_cases hl:(S1.addS m lv S K Q b p t).left=[]
     ·obtain ⟨ib,nk',g,nt,hx,hL8,hg8,hnt,hgs,_,hib,hgo⟩:=h2 hm hl;have hx0:x=0:=by injection hx with h;injection h
      subst hx0;have hE8:W8.heap[z0+1]? = some (.cells #[.int .i64 0] 35 (0,0)):=(HF8.out.block _ (lt_of_heap HM7.out.e) (HM7.out.nc _ (by omega))).trans HM7.out.e;have hE9:=heap_setCell_same W8 (z0+1) 0 _ 35 (.int .i64 0) hE8;have ek:∀ k,k≠z0+1→(W8.setCell ⟨z0+1,0,none⟩ (.int .i64 0)).heap[k]? = W8.heap[k]? := fun k hk=>Below.heap_setCell W8 ⟨z0+1,0,none⟩ _ k hk
      have hSib:∀ k,S1.LogS lo hi lb (some ib) qv k→S1.LogS lo hi lb kv qv k∨k=ib:=fun k hk=>by
       rcases hk with h | h | h | h
       ·exact .inl (.inl h)
       ·exact .inl (.inr (.inl h))
       ·cases h;exact .inr rfl
       exact .inl (.inr (.inr (.inr h)))
      have hgz:g≠z0+1∧g≠fb∧g≠tb:=by
       rcases hgo with h | h
       ·obtain ⟨_,a1,a2,a3,_⟩:=HM7.out.tk g h;exact ⟨by omega,a1,a2⟩
       omega
      refine qhO _ _ z0 D _ rfl (by rw [cell_of_row _ (z0+1) 0 _ 35 (0,0) hE9];rfl) ⟨HRx,.inr (.inr ⟨rfl,Hlf.out,t,S,HIt.out,hm,HS1.out,HS2.out,.inl ⟨ib,nk',g,hl,rfl,by omega,?_,⟨nt,hg8.of_block (ek g hgz.1),hnt⟩,?_⟩⟩)⟩
      ·rcases hgo with h | h
       ·exact .inl h
       exact .inr (by omega)
      refine ⟨(ek fb (by omega)).trans ((HF8.out.block _ (lt_of_heap HM7.out.fs) HM7.out.nf).trans HM7.out.fs),(HM7.out.tree.of_block (HF8.out.block _ HM7.out.tree.lt HM7.out.nt)).of_block (ek tb (by omega)),hL8.of_blocks (by have:=hL8.sz;simpa using this) (fun k hk _=>ek k ?_),fun h => ?_,fun h => ?_,HM7.out.ne,fun g' hg' => ?_⟩
      ·intro e;rcases hSib k hk with h | h
       ·exact HM7.out.nc k (by omega) h
       omega
      ·rcases hSib fb h with h | h
       ·exact HM7.out.nf h
       omega
      ·rcases hSib tb h with h | h
       ·exact HM7.out.nt h
       omega
      cases hg'
      exact ⟨hgs,hgz.2.1,hgz.2.2,nt,S,hg8.of_block (ek g hgz.1),hnt,HS2.out⟩
     obtain ⟨hx,hL8,_⟩:=h3 hm hl;have hx0:x=if (S1.addS m lv S K Q b p t).m.life=0 then 10 else 9:=by injection hx with h;injection h
     have hM8:=HM7.out.turned HF8.out hL8 rfl;exact (hM8.set x).door _ rfl (by rw [hx0];split<;>decide) fun hM=>⟨HY.out _ _ HRx,.inr (.inr ⟨rfl,Hlf.out,t,S,HIt.out,hm,HS1.out,HS2.out,.inr ⟨C,hl,by rw [hx0],HCz.out,hM⟩⟩)⟩
    obtain ⟨hx,hw8⟩:=h1 hm;have hx0:x=S1.mayE m t.length:=by injection hx with h;injection h
    subst hw8;exact (HM7.out.set x).door _ rfl (by rw [hx0];exact hm) fun hM=>⟨HY.out _ _ HRx,.inl ⟨x,C,.inr (.inr ⟨rfl,Hlf.out,t,HIt.out,hm,hx0⟩),rfl,HCz.out,hM⟩⟩
 have hEb:(E != 0)=true:=by simpa using hE
 rw [if_neg hE] at HM5;go_wp2_with (first | (rw [←HW5.out]) | fail);exact (HM5.out.set E).door _ rfl hE fun hM=>⟨HY.out _ _ (HX.out _ _ HR5.out),.inl ⟨E,C,.inl ⟨hE,rfl⟩,rfl,HCz.out,hM⟩⟩
end
section
open Go.RowKit Go.Nt
variable {p:Bs} {l l':List It} {u:Bs→Option Bs} {w w':World} {fb tb lo hi cb lb nk nq b:Nat} {L:S1.Loc} {kv qv:Option Nat} {m:S1.M} {K Q:Nat→Bool} {E:Int} {e:Ending}
theorem qjl:∀ q:Bs,q.contains 47=true→(par q++[47]) <+: q
 | [],h=>by cases h
 | c :: cs,h=>by
   unfold par;by_cases hc:cs.contains 47=true
   ·rw [if_pos hc];obtain ⟨r,hr⟩:=qjl cs hc;exact ⟨r,by rw [List.cons_append,List.cons_append,hr]⟩
   rw [if_neg hc];have e:c=47:=by
    rw [List.contains_cons] at h;rcases Bool.or_eq_true_iff.1 h with h1 | h1
    ·exact (beq_iff_eq.1 h1).symm
    exact absurd h1 hc
   rw [e];exact ⟨cs,rfl⟩
theorem qoD {q:Bs} (h:par q=p) (hp:p≠[]):inB q p=true:=by
 have hc:q.contains 47=true:=by
  cases q with
  | nil=>exact absurd h.symm hp
  | cons c cs =>
    unfold par at h;by_cases hc:cs.contains 47=true
    ·rw [List.contains_cons,hc,Bool.or_true]
    rw [if_neg hc] at h;exact absurd h.symm hp
 unfold inB;rw [←h];exact List.isPrefixOf_iff_prefix.2 (qjl q hc)
theorem TreeP.remove (h:TreeP l) (he:removeE l p=0):TreeP (l.filter fun y=>decide (y.path≠p)):=by
 refine h.drop p fun y hy e => ?_
 unfold removeE at he;by_cases hf:findE l p=0
 ·rw [if_pos hf] at he;have hp:p≠[]:=by
   rintro rfl;unfold findE reachE at hf;rw [show okPath []=false from rfl] at hf;simp at hf
  have hi:=qoD e hp;have ha:(l.map (·.path)).any (fun q=>inB q p)=true:=List.any_eq_true.2 ⟨y.path,List.mem_map.2 ⟨y,hy,rfl⟩,hi⟩;rw [ha,if_pos rfl] at he;cases he
 rw [if_neg hf] at he;exact hf he
theorem ChgP.new {W:World} {lv:S1.Lv} {p:Nat} (h:ChgP u W fb tb lo hi cb lb L lv kv qv nk nq m K Q b p l l' E e w') (hb:Below w.heap.size w W) (hg:∀ g,lv.tk=some g→g<w.heap.size):ChgP u w fb tb lo hi cb lb L lv kv qv nk nq m K Q b p l l' E e w':=by
 obtain ⟨h1,h2⟩:=h;have hT:∀ S,TkS W lv m S→TkS w lv m S:=fun S h=>⟨h.1,fun g hg'=>by
  obtain ⟨n,h3,h4⟩:=h.2 g hg';exact ⟨n,h3.of_block (hb.block g (hg g hg')).symm,h4⟩⟩
 have hs:=hb.size;refine ⟨(S1.Fm.of_new hb).trans h1,?_⟩;rcases h2 with ⟨x,c,a1,a2,a3,a4⟩ | h2 | ⟨a1,a2,t,S,a3,a4,a5,a6,⟨ib,nk',g,a7,a8,a9,a10,a12,a11⟩ | ⟨c,a7,a8,a9,a10⟩⟩
 ·exact .inl ⟨x,c,a1,a2,Nat.le_trans hs a3,a4⟩
 ·exact .inr (.inl h2)
 ·exact .inr (.inr ⟨a1,a2,t,S,a3,a4,hT S a5,a6,.inl ⟨ib,nk',g,a7,a8,Nat.le_trans hs a9,a10.imp id (Nat.le_trans hs),a12,a11⟩⟩)
 exact .inr (.inr ⟨a1,a2,t,S,a3,a4,hT S a5,a6,.inr ⟨c,a7,a8,Nat.le_trans hs a9,a10⟩⟩)
theorem qjM {lv:S1.Lv} {p:Nat} (h:ChgP u w fb tb lo hi cb lb L lv kv qv nk nq m K Q b p l l' E e w'):∃ x:Int,e=.returned (.int .i64 x):=by
 obtain ⟨_,h2⟩:=h;rcases h2 with ⟨x,c,a1,a2,a3,a4⟩ | ⟨_,_,_,a8,_⟩ | ⟨a1,a2,t,S,a3,a4,a5,a6,⟨ib,nk',g,a7,a8,a9,a10,a12,a11⟩ | ⟨c,a7,a8,a9,a10⟩⟩
 ·exact ⟨_,a2⟩
 ·exact ⟨_,a8⟩
 ·exact ⟨_,a8⟩
 exact ⟨_,a8⟩
theorem qlI (hP:PackC u) (q d:Bs) (w:World) (fb tb lo hi cb lb:Nat) (L:S1.Loc) (lv:S1.Lv) (kv qv:Option Nat) (nk nq:Nat) (m:S1.M) (K Q:Nat→Bool) (b p:Nat) (l:List It)
 (h:FsM w fb tb lo hi cb lb L lv kv qv nk nq m K Q b p l) (ht:TreeP l) (hml:ML w) (h0:¬FsS fb tb lo hi lb kv qv 0) (hb:b<1000) (hp:p≤m.np) (hq:q.length≤1048576) (hd:d.length≤1048576) :
 Calls Tryz.prog 51 #[.pointer (some ⟨fb,0,none⟩),.string (txt q),.string (txt d)] w fun e w'=>ChgP u w fb tb lo hi cb lb L lv kv qv nk nq m K Q b p l (setIt l (putI l q d)) (putE l q d) e w':=by
 have hmf:∀ (fn:Fn) (first cap:Array Value) (w:World),(Instr.makeFunc fn first cap).run Tryz.prog w=.ok (.func fn first cap) w:=fun _ _ _ _=>rfl
 obtain ⟨z,hz⟩:∃ z,z=w.heap.size:=⟨_,rfl⟩;obtain ⟨W1,hW1⟩:∃ W1,W1=(w.alloc (.cells #[.string (txt q)] 9)).alloc (.cells #[.string (txt d)] 9):=⟨_,rfl⟩;have hB1:Below w.heap.size w W1:=by rw [hW1];exact ((Below.refl _ w).alloc (Nat.le_refl _) _).alloc (by simp) _
 have hA1:W1.heap[z]? = some (.cells #[.string (txt q)] 9 (0,0)):=by rw [hW1,hz];exact (Below.heap_alloc _ _ _ (by simp)).trans (heap_alloc_new _ _)
 have hE1:W1.heap[z+1]? = some (.cells #[.string (txt d)] 9 (0,0)):=by rw [hW1,hz];have:=heap_alloc_new (w.alloc (.cells #[.string (txt q)] 9)) (.cells #[.string (txt d)] 9);simpa using this
 have hM1:=h.below hB1;have hml1:ML W1:=hml.below hB1 hml.lt;have A:=hidI (qey hP 92 #[.pointer (some ⟨z,0,none⟩),.pointer (some ⟨z+1,0,none⟩)] W1 fb tb lo hi cb lb L lv kv qv nk nq m K Q b p l (setIt l (putI l q d)) (putE l q d) hM1 ht ht.put hml1 h0 hb hp (enters_of Tryz.func92 (by kernel_rfl) rfl) (fun W hW=>qmK tb z (z+1) l q d W (hM1.tree.below hW hM1.tree.lt) ht (hml1.below hW hml1.lt) hq hd (by rw [cell_of_row W z 0 _ 9 (0,0) ((hW.block z (lt_of_heap hA1)).trans hA1)];rfl) (by rw [cell_of_row W (z+1) 0 _ 9 (0,0) ((hW.block (z+1) (lt_of_heap hE1)).trans hE1)];rfl)));obtain ⟨X,hX⟩:∃ X,X=txt q:=⟨_,rfl⟩;obtain ⟨Y,hY⟩:∃ Y,Y=txt d:=⟨_,rfl⟩;rw [←hX,←hY] at hW1;rw [←hX,←hY];have HW1:=hidI hW1;have Hz:=hidI hz;have HB1:=hidI hB1;have Htk:Hid (∀ g,lv.tk=some g→g<w.heap.size):=hidI (fun g hg=>by
  obtain ⟨_,_,_,n,S,h5,_⟩:=h.tk g hg;exact h5.lt)
 clear hW1 hz hB1 hA1 hE1 hM1 hml1 h ht hml hX hY;go_enter Tryz.func51,Tryz.ntmps51
 go_wp2_with (first | (rw [←HW1.out,←Hz.out]) | fail);refine A.out.mono ?_;rintro e W2 hpost;obtain ⟨x,rfl⟩:=qjM hpost;have HP:=hidI (hpost.new HB1.out Htk.out);clear hpost A;go_wp2_with fail;go_ret
 exact HP.out
theorem qgL (hP:PackC u) (q:Bs) (w:World) (fb tb lo hi cb lb:Nat) (L:S1.Loc) (lv:S1.Lv) (kv qv:Option Nat) (nk nq:Nat) (m:S1.M) (K Q:Nat→Bool) (b p:Nat) (l:List It)
 (h:FsM w fb tb lo hi cb lb L lv kv qv nk nq m K Q b p l) (ht:TreeP l) (hml:ML w) (h0:¬FsS fb tb lo hi lb kv qv 0) (hb:b<1000) (hp:p≤m.np) (hq:q.length≤1048576) :
 Calls Tryz.prog 48 #[.pointer (some ⟨fb,0,none⟩),.string (txt q)] w fun e w'=>ChgP u w fb tb lo hi cb lb L lv kv qv nk nq m K Q b p l (l.filter fun y=>decide (y.path≠q)) (removeE l q) e w':=by
 have hmf:∀ (fn:Fn) (first cap:Array Value) (w:World),(Instr.makeFunc fn first cap).run Tryz.prog w=.ok (.func fn first cap) w:=fun _ _ _ _=>rfl
 obtain ⟨z,hz⟩:∃ z,z=w.heap.size:=⟨_,rfl⟩;obtain ⟨W1,hW1⟩:∃ W1,W1=w.alloc (.cells #[.string (txt q)] 9):=⟨_,rfl⟩;have hB1:Below w.heap.size w W1:=by rw [hW1];exact (Below.refl _ w).alloc (Nat.le_refl _) _
 have hA1:W1.heap[z]? = some (.cells #[.string (txt q)] 9 (0,0)):=by rw [hW1,hz];exact heap_alloc_new _ _
 have hM1:=h.below hB1;have hml1:ML W1:=hml.below hB1 hml.lt;have A:=hidI (qey hP 90 #[.pointer (some ⟨z,0,none⟩)] W1 fb tb lo hi cb lb L lv kv qv nk nq m K Q b p l (l.filter fun y=>decide (y.path≠q)) (removeE l q) hM1 ht ht.remove hml1 h0 hb hp (enters_of Tryz.func90 (by kernel_rfl) rfl) (fun W hW=>qgD tb z l q W (hM1.tree.below hW hM1.tree.lt) ht (hml1.below hW hml1.lt) hq (by rw [cell_of_row W z 0 _ 9 (0,0) ((hW.block z (lt_of_heap hA1)).trans hA1)];rfl)));obtain ⟨X,hX⟩:∃ X,X=txt q:=⟨_,rfl⟩;rw [←hX] at hW1;rw [←hX];have HW1:=hidI hW1;have Hz:=hidI hz;have HB1:=hidI hB1;have Htk:Hid (∀ g,lv.tk=some g→g<w.heap.size):=hidI (fun g hg=>by
  obtain ⟨_,_,_,n,S,h5,_⟩:=h.tk g hg;exact h5.lt)
 clear hW1 hz hB1 hA1 hM1 hml1 h ht hml hX;go_enter Tryz.func48,Tryz.ntmps48
 go_wp2_with (first | (rw [←HW1.out,←Hz.out]) | fail);refine A.out.mono ?_;rintro e W2 hpost;obtain ⟨x,rfl⟩:=qjM hpost;have HP:=hidI (hpost.new HB1.out Htk.out);clear hpost A;go_wp2_with fail;go_ret
 exact HP.out
end
end Go.Proofs.YtodmdkhdbfbfgaaGreatDoor
