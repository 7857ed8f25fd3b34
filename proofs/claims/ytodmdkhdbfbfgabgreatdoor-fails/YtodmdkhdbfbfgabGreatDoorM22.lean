/- Lemmas. -/
import Derived.Shelf.Strings.LastIndex
import Derived.Shelf.Strings.Prefix
import Derived.Shelf.SlMaps.Clone
import Derived.Shelf.Sort.Plain
import Derived.Shelf.Slices.In.SortNone
import Derived.Test.YtodmdkhdbfbfgabGreatDoorM21
set_option linter.unusedVariables false
set_option linter.unusedSimpArgs false
set_option maxRecDepth 100000
set_option maxHeartbeats 8000000
namespace Go.Proofs.YtodmdkhdbfbfgabGreatDoor
open Go.RowKit Go.Nt
def Done (b:Nat) (l l':List It) (E:Int) (w:World) (e:Ending) (w':World):Prop:=
 e=.returned (.int .i64 E)∧Turn b w w'∧TreeAt w' b (if E=0 then l' else l)
theorem Done.no {b:Nat} {l l':List It} {E:Int} {w w':World} (hE:E≠0) (hT:TreeAt w b l) (hb:Below w.heap.size w w'):Done b l l' E w (.returned (.int .i64 E)) w':=
 ⟨rfl,.of_below hb,by rw [if_neg hE];exact hT.below hb hT.lt⟩
theorem qeR (b:Nat) (l:List It) (p d:Bs) (w:World) (hT:TreeAt w b l) (ht:TreeP l) (hml:ML w) (hp:p.length≤1048576) (hd:d.length≤1048576) :
 Calls Tryz.prog 30 #[.map (some b),.string (txt p),.string (txt d)] w fun e w'=>Done b l (setIt l (putI l p d)) (putE l p d) w e w':=by
 have HR:=hidI (qfY b l p w hT hml hp);have hlt:=hT.lt;have HT:=hidI hT;have hnd:=ht.nodup;have h60:=ht.len;have HS:=hidI (fun W (h:TreeAt W b l) (n:Nd)=>qn8 b l p n W h hnd (by omega) hp);have HF:=hidI (fun W (h:TreeAt W b l)=>qlB b l W h hnd);have HC:=hidI (fun W=>clone_any (txt d) W (by rw [qaa];exact hd));obtain ⟨X,hX⟩:∃ X,X=txt p:=⟨_,rfl⟩;obtain ⟨Z,hZ⟩:∃ Z,Z=txt d:=⟨_,rfl⟩;have Sz:Z.size=d.length:=by rw [hZ,qaa]
 rw [←hX] at HR HS;rw [←hZ] at HC;have HZ:=hidI hZ;have HSz:=hidI Sz;clear hT hml;by_cases hr:reachE l p=0
 ·rw [hr] at HR;cases ha:at? l p with
  | some x =>
    have hlook:=fun W (h:TreeAt W b l)=>(h.look_some (p:=p) (by unfold maxLen;omega) ha).1
    rw [←hX] at hlook;have HL:=hidI hlook;have hpe:putE l p d=if x.dir then 6 else if 4000<d.length then 8 else 0:=by unfold putE;rw [if_pos hr,ha]
    have hpi:putI l p d=itOf p ⟨false,d,x.mode,x.time⟩:=by unfold putI;rw [ha];rfl
    rw [hpe,hpi];rw [←hX,←hZ];obtain ⟨Y,hY⟩:∃ Y,Y=txt x.data:=⟨_,rfl⟩;clear hlook hpe hpi hX hZ hr ha;cases hd':x.dir with
    | true =>
      rw [if_pos rfl];go_enter Tryz.func30,Tryz.ntmps30
      go_wp2_with fail;refine HR.out.mono ?_;rintro e w1 ⟨hb1,rfl⟩;have hl1:=HL.out w1 (HT.out.below hb1 hlt);unfold ndv nd at hl1;simp only at hl1;rw [hd'] at hl1;have HB1:=hidI hb1;have hs1:=hb1.size;clear hb1 HR HL HS HF HC hd';go_wp2;go_ret
      exact Done.no (by decide) HT.out (HB1.out.alloc hs1 _)
    | false =>
      simp only [Bool.false_eq_true,if_false];by_cases h4:4000<Z.size
      ·have h4':(if 4000<d.length then (8:Int) else 0)=8:=if_pos (by omega);rw [h4'];clear Sz h4';go_enter Tryz.func30,Tryz.ntmps30
       go_wp2_with fail;refine HR.out.mono ?_;rintro e w1 ⟨hb1,rfl⟩;have hl1:=HL.out w1 (HT.out.below hb1 hlt);unfold ndv nd at hl1;simp only at hl1;rw [hd'] at hl1;have HB1:=hidI hb1;have hs1:=hb1.size;clear hb1 HR HL HS HF HC hd';go_wp2;go_ret
       exact Done.no (by decide) HT.out (HB1.out.alloc hs1 _)
      have h4':(if 4000<d.length then (8:Int) else 0)=0:=if_neg (by omega);rw [h4'];clear Sz h4';go_enter Tryz.func30,Tryz.ntmps30
      go_wp2_with fail;refine HR.out.mono ?_;rintro e w1 ⟨hb1,rfl⟩;have hl1:=HL.out w1 (HT.out.below hb1 hlt);unfold ndv nd at hl1;simp only at hl1;rw [hd'] at hl1;rw [←hY] at hl1;have HB1:=hidI hb1;have hs1:=hb1.size;have HT1:=hidI (HT.out.below hb1 hlt);clear hb1 HR HL HF hd' hY;obtain ⟨W2,hW2⟩:∃ W2,W2=w1.alloc (.cells #[.bool false,.string Y,.int .i64 x.mode,.int .i64 x.time] 94):=⟨_,rfl⟩;have q2:W2.heap[w1.heap.size]? = some (.cells #[.bool false,.string Y,.int .i64 x.mode,.int .i64 x.time] 94 (0,0)):=by rw [hW2];exact heap_alloc_new _ _
      have hT2:TreeAt W2 b l:=by rw [hW2];exact HT1.out.of_block (Below.heap_alloc _ _ _ HT1.out.lt)
      have hB2:Below w.heap.size w W2:=by rw [hW2];exact HB1.out.alloc (by omega) _
      have hs2:W2.heap.size=w1.heap.size+1:=by rw [hW2];simp
      obtain ⟨c0,c1,c2,c3,f0,f1,f2,f3⟩:=four q2;have HW2:=hidI hW2;have Q2:=hidI q2;have HT2:=hidI hT2;have HB2:=hidI hB2;clear hW2 q2 hT2 hB2;go_wp2_with (first | (rw [←HW2.out]) | fail);refine (HC.out W2).mono ?_;rintro e w3 ⟨rfl,hb3⟩;have q3:=(hb3.block w1.heap.size (by omega)).trans Q2.out;obtain ⟨d0,d1,d2,d3,g0,g1,g2,g3⟩:=four q3;have hs3:=hb3.size;obtain ⟨W4,hW4⟩:∃ W4,W4=w3.setCell ⟨w1.heap.size,1,none⟩ (.string Z):=⟨_,rfl⟩;have q4:W4.heap[w1.heap.size]? = some (.cells #[.bool false,.string Z,.int .i64 x.mode,.int .i64 x.time] 94 (0,0)):=by rw [hW4];exact heap_setCell_same w3 w1.heap.size 1 _ 94 _ q3
      obtain ⟨e0,e1,e2,e3,_,_,_,_⟩:=four q4;have hT4:TreeAt W4 b l:=by rw [hW4];exact (HT2.out.below hb3 HT2.out.lt).of_block (Below.heap_setCell w3 ⟨w1.heap.size,1,none⟩ _ _ (by simp;omega))
      have hB4:Below w.heap.size w W4:=by rw [hW4];exact (HB2.out.trans (hb3.mono HB2.out.size)).setCell (p:=⟨w1.heap.size,1,none⟩) (by simp;omega) _
      have HS4:=hidI (HS.out W4 hT4 ⟨false,d,x.mode,x.time⟩);unfold ndv at HS4;simp only at HS4;have hZ:=HZ.out;rw [←hZ] at HS4;have HB4:=hidI hB4;have HW4:=hidI hW4;clear hb3 q3 q4 hT4 hB4 hW4 hZ HC HS c0 c1 c2 c3 f0 f1 f2 f3;go_wp2_with (first | (rw [←HW4.out]) | fail);refine HS4.out.mono ?_;rintro e w5 ⟨rfl,hT5,ht5⟩;have HT5:=hidI hT5;have H5:=hidI ((Turn.of_below HB4.out).trans ht5);clear hT5 ht5 HS4;go_wp2;go_ret
      exact ⟨rfl,H5.out,HT5.out⟩
  | none =>
    have hlook:=fun W (h:TreeAt W b l)=>(h.look_none (p:=p) (by unfold maxLen;omega) ha).1
    rw [←hX] at hlook;have HL:=hidI hlook;have hpe:putE l p d=if 4000<d.length∨60≤l.length then 8 else 0:=by unfold putE;rw [if_pos hr,ha]
    have hpi:putI l p d=itOf p ⟨false,d,0,0⟩:=by unfold putI;rw [ha];rfl
    rw [hpe,hpi];rw [←hX,←hZ];clear hlook hpe hpi hX hZ hr ha;by_cases h4:4000<Z.size
    ·have h4':(if 4000<d.length∨60≤l.length then (8:Int) else 0)=8:=if_pos (.inl (by omega));rw [h4'];clear Sz h4';go_enter Tryz.func30,Tryz.ntmps30
     go_wp2_with fail;refine HR.out.mono ?_;rintro e w1 ⟨hb1,rfl⟩;have hl1:=HL.out w1 (HT.out.below hb1 hlt);unfold ndv at hl1;have HB1:=hidI hb1;have hs1:=hb1.size;clear hb1 HR HL HS HF HC;go_wp2;go_ret
     exact Done.no (by decide) HT.out (HB1.out.alloc hs1 _)
    obtain ⟨fl,hfl⟩:∃ fl,fl=decide (60≤l.length):=⟨_,rfl⟩;rw [←hfl] at HF;cases fl with
    | true =>
      have h4':(if 4000<d.length∨60≤l.length then (8:Int) else 0)=8:=if_pos (.inr (by simpa using hfl.symm));rw [h4'];clear Sz h4' hfl;go_enter Tryz.func30,Tryz.ntmps30
      go_wp2_with fail;refine HR.out.mono ?_;rintro e w1 ⟨hb1,rfl⟩;have hl1:=HL.out w1 (HT.out.below hb1 hlt);unfold ndv at hl1;have HB1:=hidI hb1;have hs1:=hb1.size;have HT1:=hidI (HT.out.below hb1 hlt);have HF2:=hidI (HF.out (w1.alloc (.cells #[.bool false,.string (txt []),.int .i64 0,.int .i64 0] 94)) (HT1.out.of_block (Below.heap_alloc _ _ _ HT1.out.lt)));clear hb1 HR HL HS HC HF;go_wp2_with (go_at_call 53;refine HF2.out.mono ?_;rintro e w' ⟨rfl,hw⟩;have hw':=hw.symm;subst hw';clear hw);go_ret
      exact Done.no (by decide) HT.out (HB1.out.alloc hs1 _)
    | false =>
      have h4':(if 4000<d.length∨60≤l.length then (8:Int) else 0)=0:=if_neg (by have:=hfl.symm;simp at this;omega);rw [h4'];clear Sz h4' hfl;go_enter Tryz.func30,Tryz.ntmps30
      go_wp2_with fail;refine HR.out.mono ?_;rintro e w1 ⟨hb1,rfl⟩;have hl1:=HL.out w1 (HT.out.below hb1 hlt);unfold ndv at hl1;have HB1:=hidI hb1;have hs1:=hb1.size;have HT1:=hidI (HT.out.below hb1 hlt);clear hb1 HR HL;obtain ⟨W2,hW2⟩:∃ W2,W2=w1.alloc (.cells #[.bool false,.string (txt []),.int .i64 0,.int .i64 0] 94):=⟨_,rfl⟩;have q2:W2.heap[w1.heap.size]? = some (.cells #[.bool false,.string (txt []),.int .i64 0,.int .i64 0] 94 (0,0)):=by rw [hW2];exact heap_alloc_new _ _
      have hT2:TreeAt W2 b l:=by rw [hW2];exact HT1.out.of_block (Below.heap_alloc _ _ _ HT1.out.lt)
      have hB2:Below w.heap.size w W2:=by rw [hW2];exact HB1.out.alloc (by omega) _
      have hs2:W2.heap.size=w1.heap.size+1:=by rw [hW2];simp
      have HF2:=hidI (HF.out W2 hT2);obtain ⟨c0,c1,c2,c3,f0,f1,f2,f3⟩:=four q2;have HW2:=hidI hW2;have Q2:=hidI q2;have HT2:=hidI hT2;have HB2:=hidI hB2;clear hW2 q2 hT2 hB2;go_wp2_with (first | (rw [←HW2.out]) | fail);refine HF2.out.mono ?_;rintro e w' ⟨rfl,hw⟩;have hw':=hw.symm;subst hw';clear hw;go_wp2_with fail;refine (HC.out W2).mono ?_;rintro e w3 ⟨rfl,hb3⟩;have q3:=(hb3.block w1.heap.size (by omega)).trans Q2.out;obtain ⟨d0,d1,d2,d3,g0,g1,g2,g3⟩:=four q3;have hs3:=hb3.size;obtain ⟨W4,hW4⟩:∃ W4,W4=w3.setCell ⟨w1.heap.size,1,none⟩ (.string Z):=⟨_,rfl⟩;have q4:W4.heap[w1.heap.size]? = some (.cells #[.bool false,.string Z,.int .i64 0,.int .i64 0] 94 (0,0)):=by rw [hW4];exact heap_setCell_same w3 w1.heap.size 1 _ 94 _ q3
      obtain ⟨e0,e1,e2,e3,_,_,_,_⟩:=four q4;have hT4:TreeAt W4 b l:=by rw [hW4];exact (HT2.out.below hb3 HT2.out.lt).of_block (Below.heap_setCell w3 ⟨w1.heap.size,1,none⟩ _ _ (by simp;omega))
      have hB4:Below w.heap.size w W4:=by rw [hW4];exact (HB2.out.trans (hb3.mono HB2.out.size)).setCell (p:=⟨w1.heap.size,1,none⟩) (by simp;omega) _
      have HS4:=hidI (HS.out W4 hT4 ⟨false,d,0,0⟩);unfold ndv at HS4;simp only at HS4;have hZ:=HZ.out;rw [←hZ] at HS4;have HB4:=hidI hB4;have HW4:=hidI hW4;clear hb3 q3 q4 hT4 hB4 hW4 hZ HC HS c0 c1 c2 c3 f0 f1 f2 f3;go_wp2_with (first | (rw [←HW4.out]) | fail);refine HS4.out.mono ?_;rintro e w5 ⟨rfl,hT5,ht5⟩;have HT5:=hidI hT5;have H5:=hidI ((Turn.of_below HB4.out).trans ht5);clear hT5 ht5 HS4;go_wp2;go_ret
      exact ⟨rfl,H5.out,HT5.out⟩
 have hpe:putE l p d=reachE l p:=by unfold putE;rw [if_neg hr]
 rw [hpe];obtain ⟨E,hE⟩:∃ E,E=reachE l p:=⟨_,rfl⟩;rw [←hE] at HR hr ⊢;rw [←hX,←hZ];clear hpe hE hX hZ Sz;go_enter Tryz.func30,Tryz.ntmps30
 go_wp2_with fail;refine HR.out.mono ?_;rintro e w1 ⟨hb1,rfl⟩;have HB1:=hidI hb1;clear hb1 HR HS HF HC;go_wp2;go_ret
 exact Done.no hr HT.out HB1.out
end Go.Proofs.YtodmdkhdbfbfgabGreatDoor
namespace Go.Proofs
open Go.Shelf
def Tryz.lays99_ren:Go.Shelf.Ren:=⟨fun | 99=>118 | 206=>145 | n=>n,fun | 9=>9 | 4=>4 | 3=>3 | n=>n,fun | n=>n⟩
theorem Tryz.lays99:Go.Proofs.Lays.n99 Tryz.prog Tryz.lays99_ren:={
 mixed:=by kernel_rfl
 f99:=Tryz.func118.trans (congrArg some (by kernel_rfl))
 f206:=Tryz.func145.trans (congrArg some (by kernel_rfl))
 t3:=Tryz.underlying3
 a3:=Tryz.isAgg3
 z3:=Tryz.sizeOf3
 v3:=Tryz.zeroValue3
 t4:=Tryz.underlying4
 a4:=Tryz.isAgg4
 z4:=Tryz.sizeOf4
 v4:=Tryz.zeroValue4
 t9:=Tryz.underlying9
 a9:=Tryz.isAgg9
 z9:=Tryz.sizeOf9
 v9:=Tryz.zeroValue9 }
open Go.RowKit Go.Lib in
theorem Tryz.strings_HasPrefix (s p:ByteArray) (w:World) :
 Calls Tryz.prog 118 #[.string s,.string p] w fun e w'=>e=.returned (.bool (Lib.hasPrefix s.data.toList p.data.toList))∧w'=w:=Any.strings_HasPrefix Tryz.lays99 s p w
def Tryz.mclone_ren:Go.Shelf.Ren:=⟨fun | 5=>48 | 7=>76 | n=>n,fun | 23=>64 | 25=>9 | 3=>94 | 4=>4 | 20=>20 | n=>n,fun | n=>n⟩
theorem Tryz.mclone:Go.Proofs.SlLaysW.n5 Tryz.prog Tryz.mclone_ren:={
 mixed:=by kernel_rfl
 f5:=⟨Tryz.f48.name,by decide,Tryz.func48.trans (congrArg some (by kernel_rfl))⟩
 f7:=Tryz.func76.trans (congrArg some (by kernel_rfl))
 t4:=Tryz.underlying4
 a4:=Tryz.isAgg4
 z4:=Tryz.sizeOf4
 v4:=Tryz.zeroValue4
 t20:=Tryz.underlying20
 a20:=Tryz.isAgg20
 z20:=Tryz.sizeOf20
 v20:=Tryz.zeroValue20
 t23:=Tryz.underlying64
 a23:=Tryz.isAgg64
 z23:=Tryz.sizeOf64
 v23:=Tryz.zeroValue64 }
end Go.Proofs
namespace Go.Proofs.YtodmdkhdbfbfgabGreatDoor
open Go.RowKit Go.Nt
def inB (p d:Bs):Bool:=(d++[47]).isPrefixOf p
theorem qmG (p d:Bs) (w:World) (hp:p.length≤1048576) (hd:d.length≤1048576):Calls Tryz.prog 82 #[.string (txt p),.string (txt d)] w fun e w'=>e=.returned (.bool (inB p d))∧w'=w:=by
 have hcat:txt d++(⟨#[47]⟩:ByteArray)=txt (d++[47]):=by
  apply ByteArray.ext
  simp [txt]
 have HH:=hidI (Tryz.strings_HasPrefix (txt p) (txt (d++[47])) w);have e:Lib.hasPrefix (txt p).data.toList (txt (d++[47])).data.toList=inB p d:=rfl;rw [e] at HH;clear e;have hs:(txt d).size≤1048576:=by rw [qaa];exact hd
 go_enter Tryz.func82,Tryz.ntmps82
 go_wp2_with (go_at_call 118;refine HH.out.mono ?_;rintro e w' ⟨rfl,hw⟩;have hw':=hw.symm;subst hw';clear hw);go_ret
 exact ⟨rfl,rfl⟩
theorem qnQ {α:Type} [DecidableEq α] {a b:List α} (ha:a.Nodup) (hb:b.Nodup) (h:∀ x,x∈a↔x∈b):a.Perm b:=
 (List.perm_ext_iff_of_nodup ha hb).2 h
structure Pick (l:List It) (f:Bs→Bool) (left:Lit→Bool) (acc:List Bs):Prop where
 nd:acc.Nodup
 mem:∀ q,q∈acc↔((at? l q).isSome=true∧f q=true∧left (.string q)=false)
theorem Pick.step {l:List It} {f:Bs→Bool} {left:Lit→Bool} {acc:List Bs} (h:Pick l f left acc) {p:Bs} (hp:(at? l p).isSome=true) (hl:left (.string p)=true):Pick l f (fun z=>left z && !z.sameKey (.string p)) (if f p then acc++[p] else acc):=by
 have hs:∀ q,q≠p→Lit.sameKey (.string q) (.string p)=false:=fun q e=>Maps.sameKey_ne (fun h=>e (by cases h;rfl))
 have hss:Lit.sameKey (.string p) (.string p)=true:=by
  cases h:Lit.sameKey (.string p) (.string p) with
  | true=>rfl
  | false=>simp [Lit.sameKey] at h
 have hnp:p∉acc:=fun hm=>by have:=((h.mem p).1 hm).2.2;rw [hl] at this;cases this
 cases hf:f p with
 | true =>
   simp only [if_true];refine ⟨?_,fun q => ?_⟩
   ·rw [List.nodup_append];exact ⟨h.nd,by simp,fun a ha b hb e=>by simp at hb;subst hb;subst e;exact hnp ha⟩
   by_cases e:q=p
   ·subst e;simp [hp,hf,hss]
   simp only [List.mem_append,List.mem_singleton,e,or_false,hs q e];rw [h.mem q];simp
 | false =>
   simp only [Bool.false_eq_true,if_false];refine ⟨h.nd,fun q => ?_⟩;by_cases e:q=p
   ·subst e;simp [hf,hnp]
   rw [h.mem q];simp [hs q e]
theorem Pick.done {l:List It} {f:Bs→Bool} {left:Lit→Bool} {acc:List Bs} (h:Pick l f left acc) (hn:(l.map (·.path)).Nodup) (h0:∀ k,left k=false):acc.Perm ((l.map (·.path)).filter f):=by
 refine qnQ h.nd (hn.sublist List.filter_sublist) (fun q => ?_);rw [h.mem q,List.mem_filter,List.mem_map]
 constructor
 ·rintro ⟨h1,h2,_⟩;obtain ⟨x,hx⟩:=Option.isSome_iff_exists.1 h1;exact ⟨⟨x,(qau hx).1,(qau hx).2⟩,h2⟩
 rintro ⟨⟨x,hx,rfl⟩,h2⟩;exact ⟨by rw [at_mem hn hx];rfl,h2,h0 _⟩
theorem qfr {w w':World} {b r n:Nat} {D:DataW Nd} {left:Lit→Bool} {cnt base m s:Nat} {e:TypeId} {v:Value} {xs:List Value} (h:w.ranges Tryz.prog 9 ndOf b r n D left cnt) (ho:w.ownsRow base e s v m xs) (hg:w.grownBy w' v.ownBlock):w'.ranges Tryz.prog 9 ndOf b r n D left cnt:=by
 have h':=h;obtain ⟨es,cl,si,se,c0,hb,_,_,_,hr,_⟩:=h';refine h.kept hg (fun e => ?_) (fun e => ?_)
 ·rcases ho.2 with ⟨rfl,_⟩ | ⟨g,cap,cur,rfl,_,hh,_⟩
  ·simp [Value.ownBlock] at e
  simp [Value.ownBlock] at e;subst e;rw [hb] at hh;cases hh
 rcases ho.2 with ⟨rfl,_⟩ | ⟨g,cap,cur,rfl,_,hh,_⟩
 ·simp [Value.ownBlock] at e
 simp [Value.ownBlock] at e;subst e;rw [hr] at hh;cases hh
def sv (l:List Bs):List Value:=l.map fun x=>.string (txt x)
theorem qlP (w:World) (x:Bs):(w.alloc (.cells #[.string (txt x)] 9)).ownsRow w.heap.size 9 1 (.slice (some ⟨w.heap.size,0,none⟩) 1 1) 1 (sv [x]):=
 ⟨rfl,.inr ⟨w.heap.size,1,#[.string (txt x)],rfl,Nat.le_refl _,heap_alloc_new _ _,Nat.le_refl _,by unfold maxLen;omega,rfl,rfl⟩⟩
theorem qmI (b:Nat) (l:List It) (p:Bs) (w:World) (hT:TreeAt w b l) (hn:(l.map (·.path)).Nodup) (hl:l.length≤1000) (hp:p.length≤1048576) (hq:∀ x∈l,x.path.length≤1048576) :
 Calls Tryz.prog 57 #[.map (some b),.string (txt p)] w fun e w'=>∃ v qs,e=.returned v∧w'.ownsRow w.heap.size 9 1 v (qs.length+1) (sv (p :: qs))∧qs.Perm ((l.map (·.path)).filter fun q=>inB q p)∧Below w.heap.size w w':=by
 obtain ⟨i0,hi,hz0,hz1,hz2⟩:=info_parts Tryz.info9;have hlt:=hT.lt;have HR:=hidI (qlP w p);have Hn:=hidI hn;have Hq:=hidI hq;obtain ⟨X,hX⟩:∃ X,X=txt p:=⟨_,rfl⟩;have HX:=hidI hX;obtain ⟨W1,hW1⟩:∃ W1,W1=w.alloc (.cells #[.string X] 9):=⟨_,rfl⟩;have hT1:TreeAt W1 b l:=by rw [hW1];exact hT.of_block (Below.heap_alloc _ _ _ hlt)
 have hB1:Below w.heap.size w W1:=by rw [hW1];exact (Below.refl _ w).alloc (Nat.le_refl _) _
 have hs1:W1.heap.size=w.heap.size+1:=by rw [hW1];simp
 rw [←hX,←hW1] at HR;rw [←hX];obtain ⟨D,ho,hh⟩:=hT1;have Hsz:=hidI (qce ho hh hn);have Hh:=hidI hh;have Hown:=hidI ho;have HW1:=hidI hW1;have HB1:=hidI hB1;clear hT hn hq hX hW1 hB1 ho hh;go_enter Tryz.func57,Tryz.ntmps57
 go_wp2_with (first | (rw [←HW1.out]) | (at_range;refine wpList_range_own _ rfl _ 64 rfl 9 94 law9 Tryz.underlying64 _ b _ D rfl Hown.out ?_;intro w0 hrg0 hg0 hs0) | go_in)
 go_frame
 have Hb0:Hid (Below w.heap.size w w0):=hidI (HB1.out.grown hg0 HB1.out.size (fun q hq=>by cases hq));have HR0:Hid (w0.ownsRow w.heap.size 9 1 (.slice (some ⟨w.heap.size,0,none⟩) 1 1) 1 (sv [p])):=hidI (own_below HR.out (N:=W1.heap.size) ⟨hg0.os,hg0.tape,hg0.output,hg0.size,fun k hk=>hg0.block k hk (by simp)⟩ (fun q hq=>(HR.out.lt q hq).2));have Hrg0:=hidI hrg0;clear hrg0 hg0 Hown HR HB1;obtain ⟨r,hr⟩:∃ r,r=W1.heap.size:=⟨_,rfl⟩;rw [←hr] at Hrg0 hs0 hs1 ⊢;have hrw:w.heap.size<r:=by omega
 clear hr HW1 hs0 hs1
 go_loopw [5] (fun v wx=>∃ (left:Lit→Bool) (cnt:Nat) (qs:List Bs),wx.ranges Tryz.prog 9 ndOf b r (Maps.size D) D left cnt∧qs.length+cnt≤l.length∧Hid (Pick l (fun q=>inB q p) left qs)∧Hid (wx.ownsRow w.heap.size 9 1 v (qs.length+1) (sv (p :: qs)))∧Hid (Below w.heap.size w wx))
  (fun _ wx=>wx.rangeLeft b r)
 case atStart=>exact ⟨_,_,[],Hrg0.out,by have:=Hsz.out;simp;omega,hidI ⟨by simp,fun q=>by simp;intro h1 h2;exact ((Hh.out q).1).trans h1⟩,HR0,Hb0⟩
 case round =>
  obtain ⟨left,cnt,qs,hrg,hcnt,HP,HO,HB⟩:=hrel;clear Hb0 Hrg0 HR0;have hszr:=HB.out.size;obtain ⟨g,cap,rfl⟩:=qe0 HO.out;obtain ⟨L,hL⟩:∃ L,L=qs.length:=⟨_,rfl⟩;rw [←hL] at HO hcnt ⊢;have HL:=hidI hL;clear hL;go_wp2_with (first | (at_next;refine wpList_next_ranges _ rfl _ rfl 9 law9 ndOf (fun x:Bs=>.string (txt x)) id (fun key kl hk=>by obtain ⟨x,hx,_⟩:=Maps.keyOf_str Tryz.underlying9 hk;exact ⟨x,hx⟩) (fun v _ _=>⟨v,rfl⟩) b r _ _ _ _ rfl hrg ?_ ?_) | go_in)
  ·intro _ hl0;have HD:=hidI (HP.out.done Hn.out hl0);go_wp2;go_ret
   have hL:=HL.out;rw [hL] at HO;exact ⟨_,qs,by rw [hL];rfl,HO.out,HD.out,HB.out⟩
  intro q cv kl yd yp w2 cnt2 hkey hlk hv hat hrg2 hlt2 hg2 hs2 hen;obtain ⟨q',ep,rfl,_⟩:=Maps.keyOf_str Tryz.underlying9 hkey;obtain rfl:q=q':=by cases ep;rfl
  have hhas:Maps.has D (.string q)=true:=Maps.has_true_of_atKey hat;rw [(Hh.out q).1] at hhas;have Hst:=hidI (HP.out.step hhas hlk);obtain ⟨x,hx⟩:=Option.isSome_iff_exists.1 hhas;obtain ⟨hxl,hxp⟩:=qau hx;have hql:q.length≤1048576:=by rw [←hxp];exact Hq.out x hxl
  have HI:=hidI (qmG q p w2 hql hp);have hx0:=HX.out;rw [←hx0] at HI;obtain ⟨o,hoo⟩:∃ o,o=inB q p:=⟨_,rfl⟩;rw [←hoo] at HI Hst;have HB2:Hid (Below w.heap.size w w2):=hidI (HB.out.grown hg2 hszr (fun k e=>by cases e;omega));have hrcell:∃ a b' c d,wr.heap[r]? = some (.mapIter a b' c d):=by obtain ⟨es,cl,si,se,c0,_,_,_,_,h5,_⟩:=hrg;exact ⟨_,_,_,_,h5⟩
  have HO2:Hid (w2.ownsRow w.heap.size 9 1 (.slice (some ⟨g,0,none⟩) (L+1) cap) (L+1) (sv (p :: qs))):=hidI (by
   have hoo:=HO.out;refine ⟨hoo.1,?_⟩;rcases hoo.2 with ⟨h1,_⟩ | ⟨g',cap',cur,h1,h2,h3,h4⟩
   ·cases h1
   refine .inr ⟨g',cap',cur,h1,h2,(hg2.block g' (lt_of_heap h3) (fun e => ?_)).trans h3,h4⟩;obtain ⟨a,b',c,d,hh⟩:=hrcell;cases e
   rw [hh] at h3;cases h3)
  have Hrg2:=hidI hrg2;have Hrg:=hidI hrg;obtain ⟨Q,hQ⟩:∃ Q,Q=txt q:=⟨_,rfl⟩;rw [←hQ] at HI hen ⊢;have HQ:=hidI hQ;have hs2':wr.heap.size≤w2.heap.size:=by omega
  clear hoo hat hv hkey hlk hg2 hs2 hrg2 hrg hhas hx hxl hxp ep hrcell hQ HO HB hx0;cases o with
  | false =>
    simp only [Bool.false_eq_true,if_false] at Hst;go_wp2_with (go_at_call 82;refine HI.out.mono ?_;rintro e w' ⟨rfl,hw⟩;have hw':=hw.symm;subst hw';clear hw);go_roundw
    case rel=>exact ⟨_,cnt2,qs,Hrg2.out,by have:=HL.out;omega,Hst,by have:=HL.out;rw [←this];exact HO2,HB2⟩
    case measure=>rw [Hrg2.out.left_eq,Hrg.out.left_eq];exact hlt2
  | true =>
    simp only [if_true] at Hst;go_wp2_with fail;refine HI.out.mono ?_;rintro e w' ⟨rfl,hw⟩;have hw':=hw.symm;subst hw';clear hw;go_wp2_with (at_builtin;refine wpList_append_own _ rfl (.tmp 18) (.tmp 20) 61 rfl w.heap.size 9 i0 (.string ByteArray.empty) 1 16 Tryz.underlying61 hi hz0 hz1 hz2 rfl (by decide) _ _ _ rfl (HO2.out.alloc _) ⟨w2.heap.size,0,none⟩ 1 1 [.string Q] rfl rfl ?c1 ?c2 ?c3 ?c4 ?c5 ?_)
    case c1=>exact cell_one_new _ _ _
    case c2=>intro u hu;simp at hu;subst hu;rfl
    case c3=>unfold maxLen;omega
    case c4=>omega
    case c5=>simp;omega
    intro v3 w3 hown3 hgrow _;have hb3:Below w.heap.size w w3:=(HB2.out.alloc (by omega) _).grown hgrow (by simp;omega) (fun k hk=>(HO2.out.lt k hk).1);have HO3:Hid (w3.ownsRow w.heap.size 9 1 v3 ((qs++[q]).length+1) (sv (p :: (qs++[q])))):=hidI (by
     have e1:sv (p :: (qs++[q]))=sv (p :: qs)++[.string Q]:=by rw [HQ.out];simp [sv]
     rw [e1,List.length_append,←HL.out];exact hown3)
    have hr3:=qfr (Hrg2.out.kept (World.grownBy_alloc w2 (.cells #[.string Q] 9) none) (by simp) (by simp)) (HO2.out.alloc _) hgrow;have Hr3:=hidI hr3;have HB3:=hidI hb3;clear hown3 hgrow hb3 hr3;go_wp2;go_roundw
    case rel=>exact ⟨_,cnt2,qs++[q],Hr3.out,by rw [List.length_append,←HL.out];simp;omega,Hst,HO3,HB3⟩
    case measure=>rw [Hr3.out.left_eq,Hrg.out.left_eq];exact hlt2
def removeE (l:List It) (p:Bs):Int:=if findE l p=0 then (if (l.map (·.path)).any (fun q=>inB q p) then 7 else 0) else findE l p
theorem qhY (b:Nat) (l:List It) (p:Bs) (w:World) (hT:TreeAt w b l) (ht:TreeP l) (hml:ML w) (hp:p.length≤1048576) :
 Calls Tryz.prog 33 #[.map (some b),.string (txt p)] w fun e w'=>Done b l (l.filter fun y=>decide (y.path≠p)) (removeE l p) w e w':=by
 have HR:=hidI (qjF b l p w hT hml hp);have hlt:=hT.lt;have HT:=hidI hT;have hnd:=ht.nodup;have h60:=ht.len;have HF:=hidI (fun W (h:TreeAt W b l)=>qmI b l p W h hnd (by omega) hp (fun x hx=>by have:=(qaH (ht.ok x hx)).p;omega));have HD:=hidI (fun W (h:TreeAt W b l)=>h.drop p (by unfold maxLen;omega) 0);obtain ⟨X,hX⟩:∃ X,X=txt p:=⟨_,rfl⟩;rw [←hX] at HR HF HD ⊢;obtain ⟨nn,hnn⟩:∃ nn,nn=findN l p:=⟨_,rfl⟩;rw [←hnn] at HR;unfold ndv at HR;clear hT hml hX hnn;by_cases hr:findE l p=0
 ·rw [hr] at HR;have hre:removeE l p=if (l.map (·.path)).any (fun q=>inB q p) then 7 else 0:=by unfold removeE;rw [if_pos hr]
  rw [hre];obtain ⟨an,han⟩:∃ an,an=(l.map (·.path)).any (fun q=>inB q p):=⟨_,rfl⟩;rw [←han];have Han:=hidI han;clear hre hr han;go_enter Tryz.func33,Tryz.ntmps33
  go_wp2_with fail;refine HR.out.mono ?_;rintro e w1 ⟨hb1,rfl⟩;have hT1:=HT.out.below hb1 hlt;obtain ⟨W2,hW2⟩:∃ W2,W2=w1.alloc (.cells #[.bool nn.dir,.string (txt nn.data),.int .i64 nn.mode,.int .i64 nn.time] 94):=⟨_,rfl⟩;have hT2:TreeAt W2 b l:=by rw [hW2];exact hT1.of_block (Below.heap_alloc _ _ _ hT1.lt)
  have hB2:Below w.heap.size w W2:=by rw [hW2];exact hb1.alloc hb1.size _
  have HF2:=hidI (HF.out W2 hT2);have HW2:=hidI hW2;have HT2:=hidI hT2;have HB2:=hidI hB2;clear hb1 HR hT1 hT2 hB2 hW2 HF;go_wp2_with (first | (rw [←HW2.out]) | fail);refine HF2.out.mono ?_;rintro e w3 ⟨v,qs,rfl,hown,hperm,hb3⟩;obtain ⟨g,cap,rfl⟩:=qe0 hown;have HT3:=hidI (HT2.out.below hb3 HT2.out.lt);have HB3:=hidI (HB2.out.trans (hb3.mono HB2.out.size));have hany:an=decide (0<qs.length):=by
   rw [Han.out,Bool.eq_iff_iff,List.any_eq_true,decide_eq_true_iff,hperm.length_eq,List.length_pos_iff_exists_mem]
   constructor
   ·rintro ⟨x,hx,hf⟩;exact ⟨x,List.mem_filter.2 ⟨hx,hf⟩⟩
   rintro ⟨x,hx⟩;exact ⟨x,(List.mem_filter.1 hx).1,(List.mem_filter.1 hx).2⟩
  have hqs:qs.length≤60:=by rw [hperm.length_eq];exact Nat.le_trans (List.length_filter_le _ _) (by simpa using h60)
  obtain ⟨L,hL⟩:∃ L,L=qs.length:=⟨_,rfl⟩;rw [←hL] at hany hqs ⊢;have Hany:=hidI hany;clear hown hperm hb3 HF2 hany hL;by_cases h1:0<L
  ·have ha:an=true:=by rw [Hany.out];simpa using h1
   subst ha;clear HD;go_wp2;go_ret
   exact Done.no (by decide) HT.out HB3.out
  have ha:an=false:=by rw [Hany.out];simpa using h1
  subst ha;obtain ⟨w4,hdel,hT4,hm4⟩:=HD.out w3 HT3.out;have HT4:=hidI hT4;have H4:=hidI ((Turn.of_below HB3.out).of_map hm4);clear hT4 hm4 HD;go_wp2;go_ret
  exact ⟨rfl,H4.out,by rw [if_pos rfl];have h:=HT4.out;simpa only [ne_eq,decide_not] using h⟩
 have hre:removeE l p=findE l p:=by unfold removeE;rw [if_neg hr]
 rw [hre];obtain ⟨E,hE⟩:∃ E,E=findE l p:=⟨_,rfl⟩;rw [←hE] at HR hr ⊢;clear hre hE HF HD;go_enter Tryz.func33,Tryz.ntmps33
 go_wp2_with fail;refine HR.out.mono ?_;rintro e w1 ⟨hb1,rfl⟩;have HB1:=hidI hb1;have hs1:=hb1.size;clear hb1 HR;go_wp2;go_ret
 exact Done.no hr HT.out (HB1.out.alloc hs1 _)
theorem qiL (w:World) (lo hi cb:Nat) (L:S1.Loc) (m:S1.M) (X:ByteArray) (b n e:Nat) (q:Option Nat) (h:S1.CP w lo hi cb L m) (hsz:hi≤w.heap.size) :
 Calls Tryz.prog 36 #[.pointer (some ⟨cb,0,none⟩),.agg #[.string X,.int .i64 (b:Nat),.int .u32 (n:Nat),.map q,.int .i64 (e:Nat)]] w fun e' w'=>∃ lb,e'=.returned (.pointer (some ⟨lb,0,none⟩))∧w.heap.size≤lb∧S1.LogAt w' lb cb ⟨b,n,none⟩ q none e m.np∧Below w.heap.size w w':=by
 obtain ⟨W1,hW1⟩:∃ W1,W1=w.alloc (.cells #[.string X,.int .i64 (b:Nat),.int .u32 (n:Nat),.map q,.int .i64 (e:Nat)] 78):=⟨_,rfl⟩;obtain ⟨rb,hrb⟩:∃ rb,rb=w.heap.size:=⟨_,rfl⟩;have hb1:Below w.heap.size w W1:=by rw [hW1];exact (Below.refl _ w).alloc (Nat.le_refl _) _
 have hr1:W1.heap[rb]? = some (.cells #[.string X,.int .i64 (b:Nat),.int .u32 (n:Nat),.map q,.int .i64 (e:Nat)] 78 (0,0)):=by rw [hW1,hrb];exact heap_alloc_new _ _
 have hC1:S1.CP W1 lo hi cb L m:=S1.MemX.below h hsz hb1;have A:=hidI (S1.pages_any W1.drew lo hi cb L m hC1.drew);have r1:W1.drew.cell? ⟨rb,1,none⟩=some (.int .i64 (b:Nat)):=by rw [World.cell?_of_block (w:=W1) (w':=W1.drew) rfl,cell_of_row W1 rb 1 _ 78 (0,0) hr1];rfl
 have r2:W1.drew.cell? ⟨rb,2,none⟩=some (.int .u32 (n:Nat)):=by rw [World.cell?_of_block (w:=W1) (w':=W1.drew) rfl,cell_of_row W1 rb 2 _ 78 (0,0) hr1];rfl
 have r3:W1.drew.cell? ⟨rb,3,none⟩=some (.map q):=by rw [World.cell?_of_block (w:=W1) (w':=W1.drew) rfl,cell_of_row W1 rb 3 _ 78 (0,0) hr1];rfl
 have r4:W1.drew.cell? ⟨rb,4,none⟩=some (.int .i64 (e:Nat)):=by rw [World.cell?_of_block (w:=W1) (w':=W1.drew) rfl,cell_of_row W1 rb 4 _ 78 (0,0) hr1];rfl
 obtain ⟨np,hnp⟩:∃ np,np=m.np:=⟨_,rfl⟩;rw [←hnp] at A ⊢;have HB1:=hidI hb1;have HW1:=hidI hW1;have Hrb:=hidI hrb;have hlt:=lt_of_heap hr1;rw [←hrb];rw [←hrb] at HB1;clear hnp hW1 hrb hb1 hC1 h hr1;go_enter Tryz.func36,Tryz.ntmps36
 go_wp2_with (first | (rw [←HW1.out,←Hrb.out]) | fail);refine wp_region_held_drew (S:=fun V=>V.cell? ⟨rb,1,none⟩=some (.int .i64 (b:Nat))∧V.cell? ⟨rb,2,none⟩=some (.int .u32 (n:Nat))∧V.cell? ⟨rb,3,none⟩=some (.map q)∧V.cell? ⟨rb,4,none⟩=some (.int .i64 (e:Nat))) (by kernel_rfl) ⟨r1,r2,r3,r4⟩ (fun hHeld => ?_);refine tk 0 ⟨some 5,.move (.tmp 0),_,_,_,none⟩ (.pointer (some ⟨cb,0,none⟩)) rfl (fun w h=>by go_simp) hHeld ?_;simp only [zP,List.set];refine tk 1 ⟨some 6,.fieldAddr 78 (.tmp 3) 1,_,_,_,none⟩ (.pointer (some ⟨rb,1,none⟩)) rfl (fun w h=>by go_simp) hHeld ?_;simp only [zP,List.set]
 refine tk 2 ⟨some 7,.load 74 (.tmp 6),_,_,_,none⟩ (.agg #[.int .i64 (b:Nat),.int .u32 (n:Nat)]) rfl (fun w h=>by go_simp) hHeld ?_;simp only [zP,List.set];refine tk 3 ⟨some 8,.fieldAddr 78 (.tmp 3) 2,_,_,_,none⟩ (.pointer (some ⟨rb,3,none⟩)) rfl (fun w h=>by go_simp) hHeld ?_;simp only [zP,List.set];refine tk 4 ⟨some 9,.load 76 (.tmp 8),_,_,_,none⟩ (.map q) rfl (fun w h=>by go_simp) hHeld ?_;simp only [zP,List.set];refine tk 5 ⟨some 10,.fieldAddr 78 (.tmp 3) 3,_,_,_,none⟩ (.pointer (some ⟨rb,4,none⟩)) rfl (fun w h=>by go_simp) hHeld ?_;simp only [zP,List.set]
 refine tk 6 ⟨some 11,.load 3 (.tmp 10),_,_,_,none⟩ (.int .i64 (e:Nat)) rfl (fun w h=>by go_simp) hHeld ?_;simp only [zP,List.set];refine tk 7 ⟨some 12,.move (.tmp 0),_,_,_,none⟩ (.pointer (some ⟨cb,0,none⟩)) rfl (fun w h=>by go_simp) hHeld ?_;simp only [zP,List.set];refine rd 8 rfl (fun K hK => ?_);go_simp;refine A.out.mono ?_;rintro e' w' ⟨rfl,hw⟩;have hw':=hw.symm;subst hw';clear hw;refine hK.out _ _ ⟨r1,r2,r3,r4⟩ (fun hHeld => ?_);clear hK K
 refine tk 9 ⟨some 14,.build 124 #[(0,.tmp 5),(1,.tmp 7),(2,.tmp 9),(5,.tmp 11),(6,.tmp 13)],_,_,_,none⟩ (.agg #[.pointer (some ⟨cb,0,none⟩),.int .i64 (b:Nat),.int .u32 (n:Nat),.map q,.map none,.map none,.int .i64 (e:Nat),.int .i64 (np:Nat)]) rfl (fun w h=>by go_simp) hHeld ?_;simp only [zP,List.set];refine rd 10 rfl (fun K hK => ?_);go_simp;obtain ⟨W2,hW2⟩:∃ W2,W2=(W1.alloc (.cells #[.pointer (some ⟨cb,0,none⟩),.int .i64 (b:Nat),.int .u32 (n:Nat),.map q,.map none,.map none,.int .i64 (e:Nat),.int .i64 (np:Nat)] 124)).drew:=⟨_,rfl⟩;obtain ⟨lb,hlb⟩:∃ lb,lb=W1.heap.size:=⟨_,rfl⟩;have hk:∀ k,W2.cell? ⟨rb,k,none⟩=W1.drew.cell? ⟨rb,k,none⟩:=fun k=>by rw [hW2];exact World.cell?_of_block (Below.heap_alloc W1 _ rb hlt)
 have r1':=(hk 1).trans r1;have r2':=(hk 2).trans r2;have r3':=(hk 3).trans r3;have r4':=(hk 4).trans r4;have HLg:Hid (S1.LogAt W2 lb cb ⟨b,n,none⟩ q none e np):=hidI (by show W2.heap[lb]? = _;rw [hW2,hlb];exact heap_alloc_new _ _);have HB2:Hid (Below rb w W2):=hidI (by rw [hW2];exact qat (HB1.out.alloc (by omega) _));have hlr:rb≤lb:=by omega
 refine hK.out _ _ (by rw [←hW2];exact ⟨r1',r2',r3',r4'⟩) (fun hHeld => ?_);rw [←hW2] at hHeld ⊢;simp only [←hlb];clear hK K hW2 hlb hk;refine tk 11 ⟨some 4,.assign (.tmp 15),_,_,_,none⟩ (.pointer (some ⟨lb,0,none⟩)) rfl (fun w h=>by go_simp) hHeld ?_;simp only [zP,List.set];refine wpAnyH_done (by kernel_rfl) ?_ _;clear hHeld;go_wp2_with fail;go_ret
 exact ⟨lb,rfl,hlr,HLg.out,HB2.out⟩
def FsAt (w:World) (fb cb lb tb:Nat):Prop:=w.heap[fb]? = some (.cells #[.pointer (some ⟨cb,0,none⟩),.pointer (some ⟨lb,0,none⟩),.map (some tb)] 68 (0,0))
theorem FsAt.c2 {w:World} {fb cb lb tb:Nat} (h:FsAt w fb cb lb tb):w.cell? ⟨fb,2,none⟩=some (.map (some tb)):=by rw [cell_of_row w fb 2 _ 68 (0,0) h];rfl
theorem qd5 (w:World) (fb cb lb tb:Nat) (l:List It) (h:FsAt w fb cb lb tb) (hT:TreeAt w tb l) (ht:TreeP l) (hml:ML w) :
 Calls Tryz.prog 24 #[.pointer (some ⟨fb,0,none⟩)] w fun e w'=>Below w.heap.size w w'∧∃ v,e=.returned v∧w'.ownsRow w.heap.size 53 5 v l.length (its (qac l)):=by
 have c2:=h.c2;have A:=hidI (qff tb l w hT ht.nodup (by have:=ht.len;omega) hml (fun x hx=>by have:=(qaH (ht.ok x hx)).p;omega));clear h hT ht hml;go_enter Tryz.func24,Tryz.ntmps24
 go_wp2_with fail;refine A.out.mono ?_;rintro e W1 ⟨hb,v,rfl,ho⟩;have Ho:=hidI ho;have Hb:=hidI hb;obtain ⟨a2,c2',rfl,hin⟩:=qa9 (l:=qac l) (by rw [(qaq l).length_eq];exact ho);clear ho hb hin;go_wp2_with fail;go_ret
 exact ⟨Hb.out,_,rfl,Ho.out⟩
end Go.Proofs.YtodmdkhdbfbfgabGreatDoor
