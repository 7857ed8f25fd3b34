/- Lemmas. -/
import Derived.Defers
import Derived.Test.YtodmdkhdbfbfgabGreatDoorM22
set_option linter.unusedVariables false
set_option linter.unusedSimpArgs false
set_option maxRecDepth 100000
set_option maxHeartbeats 8000000
namespace Go.Proofs.YtodmdkhdbfbfgabGreatDoor
open Go.RowKit Go.Nt
theorem qiN (b:Nat) (l:List It) (w:World) (hT:TreeAt w b l) :
 Calls Tryz.prog 48 #[.map (some b)] w fun e w'=>e=.returned (.map (some w.heap.size))∧TreeAt w' w.heap.size l∧Below w.heap.size w w':=by
 obtain ⟨D,ho,hh⟩:=hT;refine (AnyW.maps_Clone_owns Tryz.mclone 9 ndOf b _ D w ho).mono ?_;rintro e w' ⟨rfl,h1,_,hB⟩;exact ⟨rfl,⟨D,h1,hh⟩,hB⟩
theorem qot (x y:Nd):(if x.dir==y.dir then if (txt x.data).toList==(txt y.data).toList then if x.mode==y.mode then x.time==y.time else false else false else false)=decide (x=y):=by
 rw [qdj];obtain ⟨a2,a3,a4,a5⟩:=x;obtain ⟨b2,b3,b4,b5⟩:=y;simp only [Nd.mk.injEq];by_cases h2:a2=b2<;>by_cases h3:a3=b3<;>by_cases h4:a4=b4<;>by_cases h5:a5=b5<;>simp [h2,h3,h4,h5]
theorem eqn (op:BinOp) (x y:Operand) (xs ys:Array Value) (w:World):(eqGuard op 94 x y (.agg xs) (.agg ys)).run Tryz.prog w=.ok () w:=run_eqGuard_agg w op 94 x y xs ys (by kernel_rfl)
theorem qoG (x y:Nd) (w:World):(Op.equalIn 10000 94 (ndv x) (ndv y)).run Tryz.prog w=.ok (decide (x=y)) w:=by
 unfold ndv;rw [run_equalIn_agg w 9999 94 _ _ (by kernel_rfl) (by kernel_rfl)];rw [show Tryz.prog.fieldsOf 94=_ from by unfold Program.fieldsOf;rw [Tryz.underlying94]];rw [←qot];simp [Op.eqFields,part,go_sem,Tryz.underlying9,Tryz.underlying4,Tryz.underlying3];by_cases h2:x.dir=y.dir<;>by_cases h3:(txt x.data).toList=(txt y.data).toList<;>by_cases h4:x.mode=y.mode<;>by_cases h5:x.time=y.time<;>simp [h2,h3,h4,h5]
theorem qou (x y:Nd) (w:World):(binOp .neq 94 (ndv x) (ndv y)).run Tryz.prog w=.ok (.bool (!decide (x=y))) w:=by
 have h:=qoG x y w;unfold ndv at *;rw [run_neq_struct,h];rfl
theorem qhc:∀ {l m:List It},(l.map (·.path)).Nodup→(∀ x∈l,x∈m)→m.length≤l.length→∀ x∈m,x∈l
 | [],m,_,_,hl,x,hx=>by
   have:m=[]:=List.length_eq_zero_iff.1 (by simpa using hl)
   rw [this] at hx;exact hx
 | a :: l,m,hn,hs,hl,x,hx=>by
   rw [List.map_cons,List.nodup_cons] at hn;have ha:=hs a (by simp);by_cases e:x=a
   ·simp [e]
   have hlen:=List.length_erase_of_mem ha
   have:=qhc (m:=m.erase a) hn.2 (fun y hy=>(List.mem_erase_of_ne (fun e'=>hn.1 (List.mem_map.2 ⟨y,hy,by rw [e']⟩))).2 (hs y (by simp [hy]))) (by simp at hl;omega) x ((List.mem_erase_of_ne e).2 hx)
   simp [this]
theorem qnz {l m:List It} (hn:(l.map (·.path)).Nodup) (hm:(m.map (·.path)).Nodup) (hl:l.length=m.length) (h:∀ x∈l,at? m x.path=some x):∀ p,at? l p=at? m p:=by
 have hsub:∀ x∈l,x∈m:=fun x hx=>(qau (h x hx)).1
 have hback:=qhc hn hsub (by omega);intro p;cases ha:at? m p with
 | none=>rw [at_none] at ha ⊢;exact fun x hx=>ha x (hsub x hx)
 | some y =>
   obtain ⟨hy,rfl⟩:=qau ha;exact at_mem hn (hback y hy)
def EqP (l m:List It) (w:World) (e:Ending) (w':World):Prop:=Below w.heap.size w w'∧∃ r,e=.returned (.bool r)∧(r=true→∀ p,at? l p=at? m p)
theorem qik (b1 b2:Nat) (l m:List It) (w:World) (h1:TreeAt w b1 l) (h2:TreeAt w b2 m) (hn:(l.map (·.path)).Nodup) (hm:(m.map (·.path)).Nodup) (hl:l.length≤1000) (hq:∀ x∈l,x.path.length≤1048576) :
 Calls Tryz.prog 50 #[.map (some b1),.map (some b2)] w fun e w'=>EqP l m w e w':=by
 have hlen1:=h1.len hn 3;have hlen2:=h2.len hm 3;have hlt1:=h1.lt;have hlt2:=h2.lt;have Hq:=hidI hq;have Hn:=hidI hn;have Hm:=hidI hm;have HT2:=hidI h2;obtain ⟨D,ho,hh⟩:=h1;have Hh:=hidI hh;have Hown:=hidI ho;by_cases hne:l.length=m.length
 ·have HSame:=hidI (qnz hn hm hne);rw [←hne] at hlen2;clear hn hm hq ho hh h2 hne;go_enter Tryz.func50,Tryz.ntmps50
  go_wp2_with (first | (at_range;refine wpList_range_own _ rfl _ 64 rfl 9 94 law9 Tryz.underlying64 _ b1 _ D rfl Hown.out ?_;intro w0 hrg0 hg0 hs0) | go_in)
  go_frame
  have Hb0:Hid (Below w.heap.size w w0):=hidI ((Below.refl _ w).grown hg0 (Nat.le_refl _) (fun q hq=>by cases hq));have Hrg0:=hidI hrg0;clear hrg0 hg0 Hown;obtain ⟨r,hr⟩:∃ r,r=w.heap.size:=⟨_,rfl⟩;rw [←hr] at Hrg0 hs0 ⊢;have hrw:w.heap.size≤r:=by omega
  clear hs0 hr
  go_loopw [5] (fun _ wx=>∃ (left:Lit→Bool) (cnt:Nat),wx.ranges Tryz.prog 9 ndOf b1 r (Maps.size D) D left cnt∧Hid (∀ x∈l,left (.string x.path)=false→at? m x.path=some x)∧Hid (Below w.heap.size w wx))
   (fun _ wx=>wx.rangeLeft b1 r)
  case atStart=>exact ⟨_,_,Hrg0.out,hidI (fun x hx hle=>by rw [(Hh.out x.path).1,at_mem Hn.out hx] at hle;cases hle),Hb0⟩
  obtain ⟨left,cnt,hrg,HP,HB⟩:=hrel;clear Hb0 Hrg0;have hszr:=HB.out.size;go_wp2_with (first | (at_next;refine wpList_next_ranges _ rfl _ rfl 9 law9 ndOf (fun x:Bs=>.string (txt x)) id (fun key kl hk=>by obtain ⟨x,hx,_⟩:=Maps.keyOf_str Tryz.underlying9 hk;exact ⟨x,hx⟩) (fun v _ _=>⟨v,rfl⟩) b1 r _ _ _ _ rfl hrg ?_ ?_) | go_in)
  ·intro _ hl0;have HR:=hidI (HSame.out (fun x hx=>HP.out x hx (hl0 _)));go_wp2;go_ret
   exact ⟨HB.out,true,rfl,fun _=>HR.out⟩
  intro q cv kl yd yp w2 cnt2 hkey hlk hv hat hrg2 hlc hg2 hs2 hen;obtain ⟨q',ep,rfl,_⟩:=Maps.keyOf_str Tryz.underlying9 hkey;obtain rfl:q=q':=by cases ep;rfl
  have hhas:Maps.has D (.string q)=true:=Maps.has_true_of_atKey hat;rw [(Hh.out q).1] at hhas;obtain ⟨x,hx⟩:=Option.isSome_iff_exists.1 hhas;obtain ⟨hxl,hxp⟩:=qau hx;have hql:q.length≤maxLen:=by have:=Hq.out x hxl;rw [hxp] at this;unfold maxLen;omega
  have hcv:cv=ndv (nd x):=by
   have e1:=(Hh.out q).2 x hx (.lit (.bool false));rw [hat] at e1;subst e1;exact qb2 hv
  have HB2:Hid (Below w.heap.size w w2):=hidI (HB.out.grown hg2 hszr (fun k e=>by cases e;exact hrw));have hT2:TreeAt w2 b2 m:=HT2.out.below (HB2.out) hlt2;have hs2':wr.heap.size≤w2.heap.size:=by omega
  have hsw:=HB2.out.size;have Hrg2:=hidI hrg2;have Hrg:=hidI hrg;have Hxl:=hidI hxl;have Hxp:=hidI hxp;have hT3:TreeAt (w2.alloc (.cells #[.bool x.dir,.string (txt x.data),.int .i64 x.mode,.int .i64 x.time] 94)) b2 m:=hT2.of_block (Below.heap_alloc _ _ _ hT2.lt);subst hcv;unfold ndv nd at hen ⊢;simp only at hen ⊢;have Hen:=hidI hen;clear hat hv hkey hlk hg2 hs2 hrg2 hrg hhas hx hxl hxp ep hT2;cases ha:at? m q with
  | none =>
    have hlook:=(hT3.look_none hql ha).1;unfold ndv at hlook;clear hT3 ha;go_wp2;go_ret
    exact ⟨(HB2.out.alloc hsw _).alloc (by simp;omega) _,false,rfl,fun h=>by cases h⟩
  | some y =>
    have hlook:=(hT3.look_some hql ha).1;have hneq:=fun W=>qou (nd x) (nd y) W
    have hqn:=eqn .neq;unfold ndv nd at hlook hneq;simp only at hlook hneq;obtain ⟨Y,hY⟩:∃ Y,Y=txt y.data:=⟨_,rfl⟩;obtain ⟨X,hX⟩:∃ X,X=txt x.data:=⟨_,rfl⟩;rw [←hY,←hX] at hneq;rw [←hY,←hX] at hlook;rw [←hX] at hen ⊢;obtain ⟨o,hoo⟩:∃ o,o=decide (nd x=nd y):=⟨_,rfl⟩;have hoo':=hoo;unfold nd at hoo';rw [←hoo'] at hneq;have Hoo:=hidI hoo;have Ha:=hidI ha;clear hT3 ha hY hX hoo hoo';cases o with
    | false =>
      go_wp2;go_ret
      exact ⟨(HB2.out.alloc hsw _).alloc (by simp;omega) _,false,rfl,fun h=>by cases h⟩
    | true =>
      go_wp2;go_roundw
      case rel =>
       refine ⟨_,cnt2,(Hrg2.out.kept (World.grownBy_alloc w2 _ none) (by simp) (by simp)).kept (World.grownBy_alloc _ _ none) (by simp) (by simp),hidI (fun z hz hle => ?_),hidI ((HB2.out.alloc hsw _).alloc (by simp;omega) _)⟩;by_cases e:z.path=q
       ·have hxy:nd x=nd y:=by have:=Hoo.out;simpa using this.symm
        have h1:=at_mem Hn.out hz;have h2:=at_mem Hn.out Hxl.out;rw [Hxp.out,←e,h1] at h2;have hzx:z=x:=by cases h2;rfl
        obtain ⟨hy1,hy2⟩:=qau Ha.out;have hyx:y=x:=by
         have e1:=qkD y;have e2:=qkD x;rw [hy2,←hxy] at e1;rw [Hxp.out] at e2;exact e1.symm.trans e2
        rw [e,Ha.out,hzx,hyx]
       refine HP.out z hz ?_;have hsk:Lit.sameKey (.string z.path) (.string q)=false:=Maps.sameKey_ne (fun h=>e (by cases h;rfl));rw [hsk] at hle;simpa using hle
      case measure=>rw [((Hrg2.out.kept (World.grownBy_alloc w2 _ none) (by simp) (by simp)).kept (World.grownBy_alloc _ _ none) (by simp) (by simp)).left_eq,Hrg.out.left_eq];exact hlc
 clear hn hm hq ho hh h2;have hl2:((l.length:Int) != (m.length:Int))=true:=bne_iff_ne.2 (by omega);go_enter Tryz.func50,Tryz.ntmps50
 go_wp2;go_ret
 exact ⟨Below.refl _ _,false,rfl,fun h=>by cases h⟩
theorem qnU (a b c fb:Nat) (g:Option Nat) (E:Int) (x:Value) (w:World) (hb:w.cell? ⟨b,0,none⟩=some (.int .i64 E)) (hd:w.cell? ⟨c,0,none⟩=some (.map g)) (ha:w.cell? ⟨a,0,none⟩=some (.pointer (some ⟨fb,0,none⟩))) (hx:w.cell? ⟨fb,2,none⟩=some x) (hz:w.frozen? ⟨fb,2,none⟩=false) (hE:E≠0) :
 CallsD Tryz.prog 49 #[.pointer (some ⟨b,0,none⟩),.pointer (some ⟨c,0,none⟩),.pointer (some ⟨a,0,none⟩)] .returning w fun e u' w'=>u'=.returning∧(e=.returned (.tuple #[])∧w'=w.setCell ⟨fb,2,none⟩ (.map g)):=by
 have hE':(E != 0)=true:=by simpa using hE
 go_enter_d Tryz.func49,Tryz.ntmps49
 go_wp2;go_end0
 exact ⟨rfl,rfl⟩
theorem qlT (a b c:Nat) (w:World) (hb:w.cell? ⟨b,0,none⟩=some (.int .i64 0)) :
 CallsD Tryz.prog 49 #[.pointer (some ⟨b,0,none⟩),.pointer (some ⟨c,0,none⟩),.pointer (some ⟨a,0,none⟩)] .returning w fun e u' w'=>u'=.returning∧(e=.returned (.tuple #[])∧w'=w):=by
 go_enter_d Tryz.func49,Tryz.ntmps49
 go_wp2;go_end0
 exact ⟨rfl,rfl⟩
end Go.Proofs.YtodmdkhdbfbfgabGreatDoor
