/- Lemmas. -/
import Derived.Shelf.Strings.LastIndex
import Derived.Shelf.Strings.Prefix
import Derived.Shelf.SlMaps.Clone
import Derived.Shelf.Sort.Plain
import Derived.Shelf.Slices.In.SortNone
import Derived.Test.YtodmdkhdbfbfgaaGreatDoorM18
set_option linter.unusedVariables false
set_option linter.unusedSimpArgs false
set_option maxRecDepth 100000
set_option maxHeartbeats 8000000
open Go.Proofs.Tryz
namespace Go.Proofs.YtodmdkhdbfbfgaaGreatDoor
section
open Go.RowKit Go.Nt
theorem iS(b:Nat)(l:List It)(p:Bs)(w:D7)(hT:Dk w b l)(hml:ML w)(hp:p.length<=1048576) :
 Calls prog 115 #[.map (some b),.string (D9 p)] w λe w'=>Below w.heap.size w w'/\e=.returned (.int .i64 (GR l p)):=by
 have HP:=Jy (Zk p w hml hp);have HT:=Jy hT;have HE:=Jy (λW (h:Dk W b l)=>Zt b l p W h hp);unfold GR;cases ho:Du p with
 | false =>
   rw[ho]at HP;clear ho hT hml HE;go_enter func115,ntmps115
   go_wp2_with (go_at_call 121;refine HP.o.mono ?_;rintro e w' ⟨hb,rfl⟩;have Hb:=Jy hb;clear hb);go_ret
   exact⟨Hb.o,rfl⟩
 | true =>
   rw[ho]at HP;have a2:=hT.lt;clear ho hT hml;go_enter func115,ntmps115
   go_wp2_with (first | (go_at_call 121;refine HP.o.mono ?_;rintro e w' ⟨hb,rfl⟩;have Hb:=Jy hb;have a0:=Jy (HE.o w' (HT.o.below hb HT.o.lt));clear hb) | (go_at_call 73;refine a0.o.mono ?_;rintro e a3 ⟨hb,rfl⟩;have a1:=Jy hb;clear hb));go_ret
   exact⟨Hb.o.trans (a1.o.mono Hb.o.size),rfl⟩
def Ns:Nd:=⟨false,[],0,0⟩
def GI(l:List It)(p:Bs):Nd:=if FN l p=0 then(match at? l p with | some x=>nd x | none=>Ns)else Ns
def Ga(l:List It)(p:Bs):Nd:=if Fu l p=0 then(match at? l p with | some x=>nd x | none=>Ns)else Ns
def MY(w:D7)(b:Nat)(v0 v1 v2 v3:Value):D7:=(((w.setCell ⟨b,0,none⟩ v0).setCell ⟨b,1,none⟩ v1).setCell ⟨b,2,none⟩ v2).setCell ⟨b,3,none⟩ v3
theorem Q5{w W:D7}{b B:Nat}(h:Below B w W)(hb:B<=b)(v0 v1 v2 v3:Value):Below B w (MY W b v0 v1 v2 v3):=
 (((h.setCell (p:=⟨b,0,none⟩) hb v0).setCell (p:=⟨b,1,none⟩) hb v1).setCell (p:=⟨b,2,none⟩) hb v2).setCell (p:=⟨b,3,none⟩) hb v3
structure Ub (W:D7) (b:Nat) (a0 a1 a2 a3:Value):Prop where
 c0:W.cell? ⟨b,0,none⟩=some a0
 c1:W.cell? ⟨b,1,none⟩=some a1
 c2:W.cell? ⟨b,2,none⟩=some a2
 c3:W.cell? ⟨b,3,none⟩=some a3
 f0:W.frozen? ⟨b,0,none⟩=false
 f1:W.frozen? ⟨b,1,none⟩=false
 f2:W.frozen? ⟨b,2,none⟩=false
 f3:W.frozen? ⟨b,3,none⟩=false
theorem four{W:D7}{b:Nat}{a0 a1 a2 a3:Value}{T:TypeId}(h:W.heap[b]? = some (.cells #[a0,a1,a2,a3] T (0,0))):Ub W b a0 a1 a2 a3:=
 ⟨by rw[AG W b 0 _ T (0,0) h];rfl,by rw[AG W b 1 _ T (0,0) h];rfl,by rw[AG W b 2 _ T (0,0) h];rfl,by rw[AG W b 3 _ T (0,0) h];rfl,
  FU 0 h,FU 1 h,FU 2 h,FU 3 h⟩
theorem Y0(b:Nat)(l:List It)(p:Bs)(w:D7)(hT:Dk w b l)(hml:ML w)(hp:p.length<=1048576) :
 Calls prog 68 #[.map (some b),.string (D9 p)] w λe w'=>Below w.heap.size w w'/\e=.returned (.tuple #[JX (GI l p),.int .i64 (FN l p)]):=by
 obtain⟨W0,a8⟩:=Jq (w.alloc (.cells #[.bool false,.string ⟨#[]⟩,.int .i64 0,.int .i64 0] 117));have a9:=KD a8;have ag:=L0 a8;have q0:=K5 a8;have HR:=Jy (iS b l p W0 (hT.below a9 hT.lt) (hml.below a9 hml.lt) hp);have HT:=Jy hT;have ad:=Jy a8;have a7:=Jy a9;have ae:=hT.lt;have Q0:=Jy q0;clear hT hml a9 q0 a8;obtain⟨X,hX⟩:=Jq (D9 p);by_cases hr:GR l p=0
 ·have a2:FN l p=if(at? l p).isSome then 0 else 4:=by unfold FN;rw[AE hr]
  rw[hr]at HR;cases ha:at? l p with
  | none =>
    rw[ha]at a2;have a1:FN l p=4:=a2;have a4:GI l p=Ns:=by unfold GI;rw[a1];rfl
    rw[a1,a4];have HL:=Jy (λW (h:Dk W b l)=>(h.Iy (p:=p) (by unfold maxLen;omega) ha).1);rw[<-hX]at HL HR ⊢;clear a2 a1 a4 ha hr hX;go_enter func68,ntmps68
    go_wp2_with (first | (rw[<-ad.o]) | fail);refine HR.o.mono ?_;rintro e w1 ⟨a0,rfl⟩;have q1:=(a0.zK w.heap.size).trans Q0.o;have a6:=HL.o w1 ((HT.o.below a7.o ae).below a0 (by omega));have a5:=Jy (a7.o.trans (a0.zM));have af:=a0.size;obtain⟨W2,a3⟩:=Jq (w1.alloc (.cells #[.bool false,.string (D9 []),.int .i64 0,.int .i64 0] 117));have q2:W2.heap[w.heap.size]? = some (.cells #[.bool false,.string ⟨#[]⟩,.int .i64 0,.int .i64 0] 117 (0,0)):=by rw[a3];exact(Lh).trans q1
    obtain⟨c0,c1,c2,c3,f0,f1,f2,f3⟩:=four q2;have ac:Hid (Below w.heap.size w W2):=Jy (by rw[a3];exact a5.o.zA);have aa:=Jy a3;unfold JX at a6;clear a0 q1 q2 a3 HR HL Q0;go_wp2_with (rw[<-aa.o]);have hb:=Q5 ac.o (AB _) (.bool false) (.string ⟨#[]⟩) (.int .i64 0) (.int .i64 0);refine Au (v:=.tuple #[.agg #[.bool false,.string ⟨#[]⟩,.int .i64 0,.int .i64 0],.int .i64 4]) ?_ rfl ⟨hb,rfl⟩;simp[results,go_sem,c0,c1,c2,c3]
  | some x =>
    rw[ha]at a2;have a1:FN l p=0:=a2;have a4:GI l p=nd x:=by unfold GI;rw[a1,ha];rfl
    rw[a1,a4];have HL:=Jy (λW (h:Dk W b l)=>(h.H7 (p:=p) (by unfold maxLen;omega) ha).1);rw[<-hX]at HL HR ⊢;clear a2 a1 a4 ha hr hX;go_enter func68,ntmps68
    go_wp2_with (first | (rw[<-ad.o]) | fail);refine HR.o.mono ?_;rintro e w1 ⟨a0,rfl⟩;have q1:=(a0.zK w.heap.size).trans Q0.o;have a6:=HL.o w1 ((HT.o.below a7.o ae).below a0 (by omega));have a5:=Jy (a7.o.trans (a0.zM));have af:=a0.size;unfold JX nd at a6;simp only at a6;obtain⟨Y,hY⟩:=Jq (D9 x.data);rw[<-hY]at a6;obtain⟨W2,a3⟩:=Jq (w1.alloc (.cells #[.bool x.dir,.string Y,.int .i64 x.mode,.int .i64 x.time] 117));have q2:W2.heap[w.heap.size]? = some (.cells #[.bool false,.string ⟨#[]⟩,.int .i64 0,.int .i64 0] 117 (0,0)):=by rw[a3];exact(Lh).trans q1
    obtain⟨c0,c1,c2,c3,f0,f1,f2,f3⟩:=four q2;obtain⟨m0,m1,m2,m3,_,_,_,_⟩:=four (show W2.heap[w1.heap.size]? = some (.cells #[.bool x.dir,.string Y,.int .i64 x.mode,.int .i64 x.time] 117 (0,0)) by rw[a3];exact AQ _ _);have ac:Hid (Below w.heap.size w W2):=Jy (by rw[a3];exact a5.o.zA);have aa:=Jy a3;have HY:=Jy hY;clear a0 q1 q2 a3 HR HL Q0 hY;go_wp2_with (rw[<-aa.o]);have hb:=Q5 ac.o (AB _) (.bool x.dir) (.string Y) (.int .i64 x.mode) (.int .i64 x.time);refine Au (v:=.tuple #[.agg #[.bool x.dir,.string Y,.int .i64 x.mode,.int .i64 x.time],.int .i64 0]) ?_ rfl ⟨hb,by rw[HY.o];rfl⟩;simp[results,go_sem,c0,c1,c2,c3]
 have a2:FN l p=GR l p:=by unfold FN;rw[AC hr]
 have a4:GI l p=Ns:=by unfold GI;rw[a2,AC hr]
 rw[a2,a4];obtain⟨E,hE⟩:=Jq (GR l p);rw[<-hE]at HR hr ⊢;rw[<-hX]at HR ⊢;clear a2 a4 hX hE;go_enter func68,ntmps68
 go_wp2_with (first | (rw[<-ad.o]) | fail);refine HR.o.mono ?_;rintro e w1 ⟨a0,rfl⟩;have q1:=(a0.zK w.heap.size).trans Q0.o;obtain⟨c0,c1,c2,c3,f0,f1,f2,f3⟩:=four q1;have a5:=Jy (a7.o.trans (a0.zM));have af:=a0.size;clear a0 q1 HR Q0;go_wp2;have hb:=Q5 a5.o (AB _) (.bool false) (.string ⟨#[]⟩) (.int .i64 0) (.int .i64 0);refine Au (v:=.tuple #[.agg #[.bool false,.string ⟨#[]⟩,.int .i64 0,.int .i64 0],.int .i64 E]) ?_ rfl ⟨hb,rfl⟩;simp[results,go_sem,c0,c1,c2,c3]
theorem fl{l:List It}{p:Bs}(h:FN l p=0):∃x,at? l p=some x/\GR l p=0:=by
 unfold FN at h
 split at h
 ·rename_i hr;cases ha:at? l p with
  | none=>rw[ha]at h;cases h
  | some x=>exact⟨x,rfl,hr⟩
 rename_i hr;exact absurd h hr
theorem jq(b:Nat)(l:List It)(p:Bs)(w:D7)(hT:Dk w b l)(hml:ML w)(hp:p.length<=1048576) :
 Calls prog 67 #[.map (some b),.string (D9 p)] w λe w'=>Below w.heap.size w w'/\e=.returned (.tuple #[JX (Ga l p),.int .i64 (Fu l p)]):=by
 obtain⟨W0,a8⟩:=Jq (w.alloc (.cells #[.bool false,.string ⟨#[]⟩,.int .i64 0,.int .i64 0] 117));have a9:=KD a8;have ae:=L0 a8;have q0:=K5 a8;have HR:=Jy (Y0 b l p W0 (hT.below a9 hT.lt) (hml.below a9 hml.lt) hp);have aa:=Jy a8;have ac:=Jy a9;have Q0:=Jy q0;obtain⟨X,hX⟩:=Jq (D9 p);rw[<-hX]at HR ⊢;clear hT hml a9 q0 a8 hX;by_cases hr:FN l p=0
 ·obtain⟨x,ha,_⟩:=fl hr;have a7:GI l p=nd x:=by unfold GI;rw[hr,ha];rfl
  rw[hr,a7]at HR;unfold JX nd at HR;simp only at HR;obtain⟨Y,hY⟩:=Jq (D9 x.data);rw[<-hY]at HR;have HY:=Jy hY;clear hY a7;cases hd:x.dir with
  | true =>
    have a2:Fu l p=6:=by unfold Fu;rw[AE hr,ha];simp[hd]
    have a3:Ga l p=Ns:=by unfold Ga;rw[a2];rfl
    rw[a2,a3];rw[hd]at HR;clear a2 a3 ha hr hd;go_enter func67,ntmps67
    go_wp2_with (first | (rw[<-aa.o]) | fail);refine HR.o.mono ?_;rintro e w1 ⟨a1,rfl⟩;have q1:=(a1.zK w.heap.size).trans Q0.o;have a5:=Jy (ac.o.trans (a1.zM));have ad:=a1.size;obtain⟨W2,a0⟩:=Jq (w1.alloc (.cells #[.bool true,.string Y,.int .i64 x.mode,.int .i64 x.time] 117));have q2:W2.heap[w.heap.size]? = some (.cells #[.bool false,.string ⟨#[]⟩,.int .i64 0,.int .i64 0] 117 (0,0)):=by rw[a0];exact(Lh).trans q1
    obtain⟨c0,c1,c2,c3,f0,f1,f2,f3⟩:=four q2;obtain⟨m0,m1,m2,m3,_,_,_,_⟩:=four (show W2.heap[w1.heap.size]? = some (.cells #[.bool true,.string Y,.int .i64 x.mode,.int .i64 x.time] 117 (0,0)) by rw[a0];exact AQ _ _);have a6:Hid (Below w.heap.size w W2):=Jy (by rw[a0];exact a5.o.zA);have a4:=Jy a0;clear a1 q1 q2 a0 HR Q0;go_wp2_with (rw[<-a4.o]);have hb:=Q5 a6.o (AB _) (.bool false) (.string ⟨#[]⟩) (.int .i64 0) (.int .i64 0);refine Au (v:=.tuple #[.agg #[.bool false,.string ⟨#[]⟩,.int .i64 0,.int .i64 0],.int .i64 6]) ?_ rfl ⟨hb,rfl⟩;simp[results,go_sem,c0,c1,c2,c3]
  | false =>
    have a2:Fu l p=0:=by unfold Fu;rw[AE hr,ha];simp[hd]
    have a3:Ga l p=nd x:=by unfold Ga;rw[a2,ha];rfl
    rw[a2,a3];rw[hd]at HR;have Hd:=Jy hd;clear a2 a3 ha hr hd;go_enter func67,ntmps67
    go_wp2_with (first | (rw[<-aa.o]) | fail);refine HR.o.mono ?_;rintro e w1 ⟨a1,rfl⟩;have q1:=(a1.zK w.heap.size).trans Q0.o;have a5:=Jy (ac.o.trans (a1.zM));have ad:=a1.size;obtain⟨W2,a0⟩:=Jq (w1.alloc (.cells #[.bool false,.string Y,.int .i64 x.mode,.int .i64 x.time] 117));have q2:W2.heap[w.heap.size]? = some (.cells #[.bool false,.string ⟨#[]⟩,.int .i64 0,.int .i64 0] 117 (0,0)):=by rw[a0];exact(Lh).trans q1
    obtain⟨c0,c1,c2,c3,f0,f1,f2,f3⟩:=four q2;obtain⟨m0,m1,m2,m3,_,_,_,_⟩:=four (show W2.heap[w1.heap.size]? = some (.cells #[.bool false,.string Y,.int .i64 x.mode,.int .i64 x.time] 117 (0,0)) by rw[a0];exact AQ _ _);have a6:Hid (Below w.heap.size w W2):=Jy (by rw[a0];exact a5.o.zA);have a4:=Jy a0;clear a1 q1 q2 a0 HR Q0;go_wp2_with (rw[<-a4.o]);have hb:=Q5 a6.o (AB _) (.bool false) (.string Y) (.int .i64 x.mode) (.int .i64 x.time);have hd:=Hd.o;refine Au (v:=.tuple #[.agg #[.bool false,.string Y,.int .i64 x.mode,.int .i64 x.time],.int .i64 0]) ?_ rfl ⟨hb,by rw[HY.o];unfold JX nd;rw[hd]⟩;simp[results,go_sem,c0,c1,c2,c3]
 have a2:Fu l p=FN l p:=by unfold Fu;rw[AC hr]
 have a3:Ga l p=Ns:=by unfold Ga;rw[a2,AC hr]
 have a7:GI l p=Ns:=by unfold GI;rw[AC hr]
 rw[a2,a3];rw[a7]at HR;obtain⟨E,hE⟩:=Jq (FN l p);rw[<-hE]at HR hr ⊢;unfold JX Ns at HR;simp only at HR;clear a2 a7 a3 hE;go_enter func67,ntmps67
 go_wp2_with (first | (rw[<-aa.o]) | fail);refine HR.o.mono ?_;rintro e w1 ⟨a1,rfl⟩;have q1:=(a1.zK w.heap.size).trans Q0.o;have a5:=Jy (ac.o.trans (a1.zM));have ad:=a1.size;obtain⟨W2,a0⟩:=Jq (w1.alloc (.cells #[.bool false,.string (D9 []),.int .i64 0,.int .i64 0] 117));have q2:W2.heap[w.heap.size]? = some (.cells #[.bool false,.string ⟨#[]⟩,.int .i64 0,.int .i64 0] 117 (0,0)):=by rw[a0];exact(Lh).trans q1
 obtain⟨c0,c1,c2,c3,f0,f1,f2,f3⟩:=four q2;have a6:Hid (Below w.heap.size w W2):=Jy (by rw[a0];exact a5.o.zA);have a4:=Jy a0;clear a1 q1 q2 a0 HR Q0;go_wp2_with (rw[<-a4.o]);have hb:=Q5 a6.o (AB _) (.bool false) (.string ⟨#[]⟩) (.int .i64 0) (.int .i64 0);refine Au (v:=.tuple #[.agg #[.bool false,.string ⟨#[]⟩,.int .i64 0,.int .i64 0],.int .i64 E]) ?_ rfl ⟨hb,rfl⟩;simp[results,go_sem,c0,c1,c2,c3]
theorem qj(b:Nat)(l:List It)(p:Bs)(w:D7)(hT:Dk w b l)(hml:ML w)(hp:p.length<=1048576) :
 Calls prog 39 #[.map (some b),.string (D9 p)] w λe w'=>Below w.heap.size w w'/\e=.returned (.tuple #[.string (D9 (Ga l p).data),.int .i64 (Fu l p)]):=by
 have HR:=Jy (jq b l p w hT hml hp);obtain⟨n,hn⟩:=Jq (Ga l p);obtain⟨E,hE⟩:=Jq (Fu l p);rw[<-hn,<-hE]at HR ⊢;unfold JX at HR;obtain⟨X,hX⟩:=Jq (D9 p);rw[<-hX]at HR ⊢;clear hn hE hX hT hml;go_enter func39,ntmps39
 go_wp2_with (go_at_call 67;refine HR.o.mono ?_;rintro e w' ⟨hb,rfl⟩;have Hb:=Jy hb;have a0:=hb.size;clear hb);go_ret2
 exact⟨Hb.o.alloc a0 _,rfl⟩
end
section
open Go.RowKit Go.Nt
def FI(w:D7)(rb:Nat)(r:Rd):Prop:=w.heap[rb]? = some (.cells #[.string (D9 r.1),.bool r.2] 151 (0,0))
theorem FI.c0{w:D7}{rb:Nat}{r:Rd}(h:FI w rb r):w.cell? ⟨rb,0,none⟩=some (.string (D9 r.1)):=by rw[AG w rb 0 _ 151 (0,0) h];rfl
theorem FI.c1{w:D7}{rb:Nat}{r:Rd}(h:FI w rb r):w.cell? ⟨rb,1,none⟩=some (.bool r.2):=by rw[AG w rb 1 _ 151 (0,0) h];rfl
theorem FI.fz{w:D7}{rb:Nat}{r:Rd}(h:FI w rb r)(k:Nat):w.frozen? ⟨rb,k,none⟩=false:=FU k h
theorem FI.lt{w:D7}{rb:Nat}{r:Rd}(h:FI w rb r):rb<w.heap.size:=lt_of_heap h
structure Ep (rb:Nat) (w w':D7):Prop where
 os:w'.os=w.os
 tape:w'.tape=w.tape
 output:w'.output=w.output
 size:w.heap.size<=w'.heap.size
 block:∀k,k<w.heap.size->k≠rb->w'.heap[k]? = w.heap[k]?
namespace Ep
variable {rb:Nat} {a b c:D7}
theorem refl(rb:Nat)(w:D7):Ep rb w w:=⟨rfl,rfl,rfl,AB _,λ_ _ _=>rfl⟩
theorem trans(h:Ep rb a b)(k:Ep rb b c):Ep rb a c:=
 ⟨k.os.trans h.os,k.tape.trans h.tape,k.output.trans h.output,AF h.size k.size,λi hi hn=>(k.block i (AR hi h.size) hn).trans (h.block i hi hn)⟩
theorem of_below(h:Below a.heap.size a b):Ep rb a b:=⟨h.os,h.tape,h.output,h.size,λk hk _=>h.block k hk⟩
theorem below(h:Ep rb a b){B:Nat}(hB:B<=rb)(hs:B<=a.heap.size):Below B a b:=⟨h.os,h.tape,h.output,h.size,λk hk=>h.block k (by omega) (by omega)⟩
theorem set(h:Ep rb a b)(o:Nat)(v:Value):Ep rb a (b.setCell ⟨rb,o,none⟩ v):=
 h.trans ⟨rfl,rfl,rfl,by simp,λk _ hn=>AH b ⟨rb,o,none⟩ v k hn⟩
theorem alloc(h:Ep rb a b)(o:Obj):Ep rb a (b.alloc o):=h.trans ⟨rfl,rfl,rfl,by simp,λk hk _=>AO b o k hk⟩
end Ep
theorem FI.below{w w':D7}{rb:Nat}{r:Rd}(h:FI w rb r)(hb:Below w.heap.size w w'):FI w' rb r:=(hb.block rb h.lt).trans h
theorem We(rb:Nat)(r:Rd)(n:Nat)(w:D7)(h:FI w rb r)(hn:n<=1000000)(hr:r.1.length<=1000000) :
 Calls prog 144 #[.pointer (some ⟨rb,0,none⟩),.int .i64 n] w λe w'=>e=.returned (.string (D9 (Go.Nt.tk n r).1))/\FI w' rb (Go.Nt.tk n r).2/\Ep rb w w':=by
 have c0:=h.c0;have c1:=h.c1;have f0:=h.fz 0;have f1:=h.fz 1;obtain⟨X,hX⟩:=Jq (D9 r.1);have Sx:X.size=r.1.length:=by rw[hX,Dd]
 rw[<-hX]at c0;have HX:=Jy hX;have Hh:=Jy h;have HS:=Jy Sx;by_cases a0:r.1.length<n
 ·have ht:Go.Nt.tk n r=([],([],false)):=by unfold Go.Nt.tk;rw[AE a0]
  rw[ht];have a1:X.size<n:=by omega
  clear Sx hX h a0 ht;go_enter func144,ntmps144
  go_wp2;go_ret
  refine⟨rfl,?_,((Ep.refl rb w).set _ _).set _ _⟩;have h1:=AK w rb 0 _ 151 (.string ⟨#[]⟩) Hh.o;exact AK _ rb 1 _ 151 (.bool false) h1
 have ht:Go.Nt.tk n r=(r.1.take n,(r.1.drop n,r.2)):=by unfold Go.Nt.tk;rw[AC a0]
 rw[ht];have a1:n<=X.size:=by omega
 have a4:X.size<=1000000:=by omega
 have a3:Hid (X.extract 0 n=D9 (r.1.take n)):=Jy (by rw[hX,Jb];simp);have a2:Hid (X.extract n X.size=D9 (r.1.drop n)):=Jy (by rw[Sx,hX,Jb];congr 1;exact AT (by simp));clear Sx hX h a0 ht;go_enter func144,ntmps144
 go_wp2;go_ret
 refine⟨by rw[<-a3.o];rfl,?_,(Ep.refl rb w).set _ _⟩;rw[a2.o];exact AK w rb 0 _ 151 _ Hh.o
theorem ql{s:Bs}{i:Nat}(h:i<s.length):num (s.take (i+1))=num (s.take i)*256+(s.getD i 0).toNat:=by
 rw[Ah,AD h];simp only[Option.toList_some];rw[VZ];simp[List.getD,h]
theorem M6(n:Nat)(r:Rd):(Go.Nt.tk n r).1.length<=n/\(Go.Nt.tk n r).2.1.length<=r.1.length:=by
 unfold Go.Nt.tk
 split
 ·simp
 simp;omega
theorem qn(w:D7)(s:ByteArray)(rb:Nat):Below w.heap.size w (Lib.bytesWorld w 5 s):=
 ⟨rfl,rfl,rfl,by rw[Lib.bytesWorld_size];omega,λk hk=>Lib.bytesWorld_at_old w 5 s k hk⟩
theorem Ri(rb:Nat)(r:Rd)(n:Nat)(w:D7)(h:FI w rb r)(hn:n<=4)(hr:r.1.length<=1000000) :
 Calls prog 87 #[.pointer (some ⟨rb,0,none⟩),.int .i64 n] w λe w'=>e=.returned (.int .i64 ((Ez n r).1:Nat))/\FI w' rb (Ez n r).2/\Ep rb w w':=by
 have HT:=Jy (We rb r n w h (by omega) hr);have ad:=(M6 n r).1;unfold Ez;obtain⟨s,hs⟩:=Jq ((Go.Nt.tk n r).1);obtain⟨r',a7⟩:∃s,s=(Go.Nt.tk n r).2:=⟨_,rfl⟩;rw[<-hs]at HT ad;rw[<-hs,<-a7];rw[<-a7]at HT;have aj:s.length<=4:=by omega
 clear hs a7 h;obtain⟨X,hX⟩:=Jq (D9 s);have Sx:X.size=s.length:=by rw[hX,Dd]
 rw[<-hX]at HT;have gx:Hid (∀j,j<s.length->X.data.toList.getD j 0=s.getD j 0):=Jy (λj _=>by rw[hX];rfl);have HS:=Jy Sx;have ai:X.size<=4:=by omega
 clear hX Sx;go_enter func87,ntmps87
 go_wp2_with fail;refine HT.o.mono ?_;rintro e w1 ⟨rfl,h1,t1⟩;have a9:=Lib.run_convert_string_bytes (P:=prog) w1 9 111 5 X underlying9 underlying111 underlying5;have a5:=qn w1 X rb;have a0:=Lib.bytesWorld_cell w1 5 X;obtain⟨ag,a3⟩:∃c,c=grownCap w1 X.size 0 5:=⟨_,rfl⟩;obtain⟨W2,aa⟩:=Jq (Lib.bytesWorld w1 5 X);rw[<-aa]at a9 a5 a0;rw[<-a3]at a9;have H2:Hid (FI W2 rb r'):=Jy (h1.below a5);have T2:Hid (Ep rb w W2):=Jy (t1.trans (.of_below a5));have HC:=Jy a0;clear a3 aa h1 t1 a5 a0 HT;go_wp2
 go_loopw [5,13] (λa i wr=>∃k:Nat,k<=X.size/\i=.int .i64 k/\a=.int .i64 (num (s.take k):Nat)/\wr=W2) (λ_ i _=>X.size - (intOf i).toNat)
 case atStart=>exact⟨0,AU _,rfl,rfl,rfl⟩
 case round =>
  obtain⟨k,hk,rfl,rfl,rfl⟩:=hrel;by_cases ae:k<X.size
  ·have a6:k<s.length:=by have:=HS.o;omega
   have hc:=HC.o k ae;rw[gx.o k a6]at hc;have a2:=ql a6;have a1:=QP (s.take k);have af:num (s.take k)<16777216:=by
    refine AR a1 ?_
    have:(s.take k).length<=3:=by rw[Ae];omega
    exact AF (BD (by decide) this) (by decide)
   have a4:=(s.getD k 0).toNat_lt;obtain⟨c,ac⟩:=Jq ((s.getD k 0).toNat);rw[<-ac]at hc a2 a4;obtain⟨m,hm⟩:=Jq (num (s.take k));rw[<-hm]at a2 af ⊢;have ah:=qD m c (by omega) (by omega);have a8:=Jy a2;clear ac hm a2 a1;go_wp2;refine⟨⟨k+1,by omega,by go_num,?_,trivial⟩,by simp[intOf];omega⟩;rw[a8.o];simp
  have a6:X.size=k:=by omega
  have HR:Hid (s.take k=s):=Jy (AT (by have:=HS.o;omega));go_wp2;go_ret
  rw[HR.o];exact⟨rfl,H2.o,T2.o⟩
theorem RU{n i:Nat}(h:n<65536)(hi:16<=i):n.testBit i=false:=
 Nat.testBit_lt_two_pow (AR h (AF (by decide:65536<=2^16) (BD (by decide) hi)))
theorem Rt(n:Nat)(h:n<65536):(bits .and .i64 (n:Int) 32768 != 0)=decide (32768<=n):=by
 rw[show(32768:Int)=((32768:Nat):Int)from rfl,(bits_nat .i64 62 (by decide) Sp n 32768 (by omega) (by omega)).1];have e:n &&& 32768=if 32768<=n then 32768 else 0:=by
  apply Nat.eq_of_testBit_eq
  intro i;rw[Nat.testBit_and,show(32768:Nat)=2^15 from rfl,Nat.testBit_two_pow];have h2:n.testBit 15=decide (2^15<=n):=by
   rw[Nat.testBit_eq_decide_div_mod_eq];by_cases hh:2^15<=n
   ·simp[hh];omega
   simp[hh];omega
  by_cases hi:15=i
  ·subst hi;rw[h2];by_cases hh:2^15<=n
   ·rw[AE hh,Nat.testBit_two_pow];simp[hh]
   rw[AC hh];simp[hh]
  simp only[hi,decide_false,Bool.and_false]
  split
  ·rw[Nat.testBit_two_pow];simp[hi]
  simp
 rw[e];by_cases hh:32768<=n<;>simp[hh]
theorem RS(n:Nat)(h:n<65536):bits .andNot .i64 (n:Int) 32768=((n%32768:Nat):Int):=by
 have key:(BitVec.ofInt 64 (n:Int) &&& ~~~BitVec.ofInt 64 32768).toNat=n%32768:=by
  rw[BitVec.toNat_and,BitVec.ofInt_natCast,BitVec.toNat_ofNat,Bi (by omega)];have hc:(~~~BitVec.ofInt 64 32768).toNat=18446744073709518847:=by decide
  rw[hc]
  apply Nat.eq_of_testBit_eq
  intro i;rw[Nat.testBit_and,show(32768:Nat)=2^15 from rfl,Nat.testBit_mod_two_pow];rcases CM i 16 with hi | hi
  ·have:∀j,j<16->(18446744073709518847:Nat).testBit j=decide (j<15):=by decide
   rw[this i hi,Bool.and_comm]
  rw[RU h hi];simp
 show IntKind.i64.wrap ((BitVec.ofInt 64 (n:Int) &&& ~~~BitVec.ofInt 64 32768).toNat:Int)=_;rw[key,Sp _ (by omega) (by omega)]
def JF(w:D7)(b:Nat)(v0 v1 v2 v3 v4:Value):D7:=((((w.setCell ⟨b,0,none⟩ v0).setCell ⟨b,1,none⟩ v1).setCell ⟨b,2,none⟩ v2).setCell ⟨b,3,none⟩ v3).setCell ⟨b,4,none⟩ v4
theorem VG{w:D7}{b:Nat}{a0 a1 a2 a3 a4:Value}{T:TypeId}(h:w.heap[b]? = some (.cells #[a0,a1,a2,a3,a4] T (0,0)))(v0 v1 v2 v3 v4:Value) :
 (JF w b v0 v1 v2 v3 v4).heap[b]? = some (.cells #[v0,v1,v2,v3,v4] T (0,0)):=by
 have h0:=AK w b 0 _ T v0 h;have h1:=AK _ b 1 _ T v1 h0;have h2:=AK _ b 2 _ T v2 h1;have h3:=AK _ b 3 _ T v3 h2;exact AK _ b 4 _ T v4 h3
theorem WA(w:D7)(b:Nat)(v0 v1 v2 v3 v4:Value)(k:Nat)(hk:k≠b):(JF w b v0 v1 v2 v3 v4).heap[k]? = w.heap[k]? := by
 unfold JF;rw[AH _ _ _ k hk,AH _ _ _ k hk,AH _ _ _ k hk,AH _ _ _ k hk,AH _ _ _ k hk]
theorem Ep.GA{rb:Nat}{a b:D7}(h:Ep rb a b){g:Nat}(hg:a.heap.size<=g)(o:Nat)(v:Value):Ep rb a (b.setCell ⟨g,o,none⟩ v):=
 ⟨(Ep.set (Ep.refl g b) o v).os.trans h.os,(Ep.set (Ep.refl g b) o v).tape.trans h.tape,(Ep.set (Ep.refl g b) o v).output.trans h.output,by have:=h.size;simp;omega,λk hk hn=>(AH b ⟨g,o,none⟩ v k (by simp;omega)).trans (h.block k hk hn)⟩
theorem U6{rb:Nat}{w W:D7}{b:Nat}(h:Ep rb w W)(hb:w.heap.size<=b)(v0 v1 v2 v3 v4:Value):Ep rb w (JF W b v0 v1 v2 v3 v4):=
 ((((h.GA hb 0 v0).GA hb 1 v1).GA hb 2 v2).GA hb 3 v3).GA hb 4 v4
theorem Q9(k:Nat)(r:Rd):(Ez k r).1<256^k:=by
 unfold Ez;exact AR (QP _) (BD (by decide) (M6 k r).1)
theorem qP{u:Bs->Option Bs}(hP:Fj u)(rb:Nat)(r:Rd)(w:D7)(h:FI w rb r)(hr:r.1.length<=1000000) :
 Calls prog 88 #[.pointer (some ⟨rb,0,none⟩)] w λe w'=>e=.returned (JB (Es u r).1)/\FI w' rb (Es u r).2/\Ep rb w w':=by
 unfold Es;simp only;have aA:=h.lt;obtain⟨kr,hk⟩:=Jq (Ez 2 r);obtain⟨k,r1⟩:=kr;have ar:k<65536:=by have:=Q9 2 r;rw[<-hk]at this;exact this
 have l1:r1.1.length<=1000000:=by have:=(M6 2 r).2;have e:(Ez 2 r).2=(Go.Nt.tk 2 r).2:=rfl;rw[<-hk]at e;rw[<-e]at this;exact AF this hr
 rw[<-hk];simp only;obtain⟨tr,ht⟩:=Jq (Ez 4 r1);obtain⟨t,r2⟩:=tr;have aL:t<4294967296:=by have:=Q9 4 r1;rw[<-ht]at this;exact this
 have l2:r2.1.length<=1000000:=by have:=(M6 4 r1).2;have e:(Ez 4 r1).2=(Go.Nt.tk 4 r1).2:=rfl;rw[<-ht]at e;rw[<-e]at this;exact AF this l1
 rw[<-ht];simp only;obtain⟨nr,hn⟩:=Jq (Ez 1 r2);obtain⟨n,r3⟩:=nr;have aJ:n<256:=by have:=Q9 1 r2;rw[<-hn]at this;exact this
 have l3:r3.1.length<=1000000:=by have:=(M6 1 r2).2;have e:(Ez 1 r2).2=(Go.Nt.tk 1 r2).2:=rfl;rw[<-hn]at e;rw[<-e]at this;exact AF this l2
 rw[<-hn];simp only;obtain⟨pr,hp⟩:=Jq (Go.Nt.tk n r3);obtain⟨p,r4⟩:=pr;have l4:r4.1.length<=1000000:=by have:=(M6 n r3).2;rw[<-hp]at this;exact AF this l3
 rw[<-hp];simp only;obtain⟨W0,a6⟩:=Jq (w.alloc (.cells #[.string ⟨#[]⟩,.bool false,.string ⟨#[]⟩,.int .i64 0,.int .i64 0] 39));have t0:Ep rb w W0:=by rw[a6];exact(Ep.refl rb w).alloc _
 have h0:FI W0 rb r:=by rw[a6];exact(AO _ _ _ aA).trans h
 have A1:=Jy (Ri rb r 2 W0 h0 (by decide) hr);rw[<-hk]at A1;simp only at A1;have ha:=Rt k ar;have hb:=RS k ar;have ai:=Jy a6;have T0:=Jy t0;have Hk:=Jy hk;have Ht:=Jy ht;have Hn:=Jy hn;have Hp:=Jy hp;clear hk ht hn hp h h0 t0 a6;obtain⟨dr,ah⟩:=Jq (decide (32768<=k));have au:=Jy ah;obtain⟨md,ao⟩:=Jq (k%32768);rw[<-ah]at ha;rw[<-ao]at hb ⊢;clear ah ao;go_enter func88,ntmps88
 go_wp2_with fail;rw[<-ai.o];refine A1.o.mono ?_;rintro e w1 ⟨rfl,h1,t1⟩;have A2:=Jy (Ri rb r1 4 w1 h1 (by decide) l1);have e2:=Ht.o;rw[<-e2]at A2;simp only at A2;have aH:W0.heap.size=w.heap.size+1:=by rw[ai.o];simp
 have q0:W0.heap[w.heap.size]? = some (.cells #[.string ⟨#[]⟩,.bool false,.string ⟨#[]⟩,.int .i64 0,.int .i64 0] 39 (0,0)):=by rw[ai.o];exact AQ _ _
 have Q1:=Jy ((t1.block w.heap.size (by omega) (by omega)).trans q0);have T1:=Jy (T0.o.trans t1);have z1:=t1.size;clear A1 h1 t1 e2 q0;go_wp2_with fail;refine A2.o.mono ?_;rintro e w2 ⟨rfl,h2,t2⟩;have Q2:=Jy ((t2.block w.heap.size (by omega) (by omega)).trans Q1.o);have T2:=Jy (T1.o.trans t2);have z2:=t2.size;obtain⟨W3,ae⟩:=Jq (w2.alloc (.cells #[.string ⟨#[]⟩,.bool dr,.string ⟨#[]⟩,.int .i64 md,.int .i64 t] 39));have h3:FI W3 rb r2:=by rw[ae];exact(AO _ _ _ h2.lt).trans h2
 have A4:=Jy (Ri rb r2 1 W3 h3 (by decide) l2);have e4:=Hn.o;rw[<-e4]at A4;simp only at A4;have a5:=Jy ae;clear A2 h2 t2 h3 ae e4;go_wp2_with fail;rw[<-a5.o];refine A4.o.mono ?_;rintro e w4 ⟨rfl,h4,t4⟩;have aF:W3.heap.size=w2.heap.size+1:=by rw[a5.o];simp
 have q3:W3.heap[w2.heap.size]? = some (.cells #[.string ⟨#[]⟩,.bool dr,.string ⟨#[]⟩,.int .i64 md,.int .i64 t] 39 (0,0)):=by rw[a5.o];exact AQ _ _
 have an:W3.heap[w.heap.size]? = some (.cells #[.string ⟨#[]⟩,.bool false,.string ⟨#[]⟩,.int .i64 0,.int .i64 0] 39 (0,0)):=by rw[a5.o];exact(AO _ _ _ (by omega)).trans Q2.o
 have T3:Ep rb w W3:=by rw[a5.o];exact T2.o.alloc _
 have P4:=Jy ((t4.block w2.heap.size (by omega) (by omega)).trans q3);have Q4:=Jy ((t4.block w.heap.size (by omega) (by omega)).trans an);have T4:=Jy (T3.trans t4);have z4:=t4.size;have A5:=Jy (We rb r3 n w4 h4 (by omega) l3);have e5:=Hp.o;rw[<-e5]at A5;simp only at A5;obtain⟨Y,hY⟩:=Jq (D9 p);rw[<-hY]at A5;have HY:=Jy hY;clear A4 h4 t4 q3 an T3 e5 hY Q1 Q2 T1 T2;go_wp2_with fail;refine A5.o.mono ?_;rintro e w5 ⟨rfl,h5,t5⟩;have p5:=(t5.block w2.heap.size (by omega) (by omega)).trans P4.o;have q5:=(t5.block w.heap.size (by omega) (by omega)).trans Q4.o;have T5:=Jy (T4.o.trans t5);have z5:=t5.size;obtain⟨W6,a1⟩:=Jq (w5.setCell ⟨w2.heap.size,0,none⟩ (.string Y))
 have p6:W6.heap[w2.heap.size]? = some (.cells #[.string Y,.bool dr,.string ⟨#[]⟩,.int .i64 md,.int .i64 t] 39 (0,0)):=by rw[a1];exact AK w5 w2.heap.size 0 _ 39 _ p5
 have q6:W6.heap[w.heap.size]? = some (.cells #[.string ⟨#[]⟩,.bool false,.string ⟨#[]⟩,.int .i64 0,.int .i64 0] 39 (0,0)):=by rw[a1];exact(AH w5 ⟨w2.heap.size,0,none⟩ _ _ (by simp;omega)).trans q5
 have h6:FI W6 rb r4:=by rw[a1];exact(AH w5 ⟨w2.heap.size,0,none⟩ _ _ (by simp;omega)).trans h5
 have T6:Ep rb w W6:=by
  rw[a1];refine⟨T5.o.os,T5.o.tape,T5.o.output,by have:=T5.o.size;simp;omega,λj hj ax => ?_⟩;exact(AH w5 ⟨w2.heap.size,0,none⟩ _ _ (by simp;omega)).trans (T5.o.block j hj ax)
 have s6:W6.heap.size=w5.heap.size:=by rw[a1];simp
 have aC:w5.cell? ⟨w2.heap.size,0,none⟩=some (.string ⟨#[]⟩):=by rw[AG w5 w2.heap.size 0 _ 39 (0,0) p5];rfl
 have az:w5.frozen? ⟨w2.heap.size,0,none⟩=false:=Al w5 w2.heap.size 0 _ 39 p5;have aa:W6.cell? ⟨w2.heap.size,0,none⟩=some (.string Y):=by rw[AG W6 w2.heap.size 0 _ 39 (0,0) p6];rfl
 have ac:W6.cell? ⟨w2.heap.size,1,none⟩=some (.bool dr):=by rw[AG W6 w2.heap.size 1 _ 39 (0,0) p6];rfl
 have aj:W6.cell? ⟨w2.heap.size,2,none⟩=some (.string ⟨#[]⟩):=by rw[AG W6 w2.heap.size 2 _ 39 (0,0) p6];rfl
 have af:=Dv 3 p6;have a8:=Dv 4 p6;have d0:=Dv 0 q6;have d1:=Dv 1 q6;have d2:=Dv 2 q6;have d3:=Dv 3 q6;have d4:=Dv 4 q6;have g0:=FU 0 q6;have g1:=FU 1 q6;have g2:=FU 2 q6;have g3:=FU 3 q6;have g4:=FU 4 q6;have P6:=Jy p6;have Q6:=Jy q6;have H6:=Jy h6;have av:=Jy T6;have am:=Jy a1;clear A5 h5 t5 p5 q5 p6 q6 h6 T6 P4 Q4 T4 T5 a1;cases dr with
 | true =>
   have aG:32768<=k:=by have:=au.o;simpa using this.symm
   go_wp2_with (rw[<-am.o]);have a4:=VG Q6.o (.string Y) (.bool true) (.string ⟨#[]⟩) (.int .i64 md) (.int .i64 t);have hh:=(WA W6 w.heap.size (.string Y) (.bool true) (.string ⟨#[]⟩) (.int .i64 md) (.int .i64 t) rb (by omega)).trans H6.o;have ht:=U6 av.o (AB _) (.string Y) (.bool true) (.string ⟨#[]⟩) (.int .i64 md) (.int .i64 t);have hY:=HY.o;refine Au (v:=.agg #[.string Y,.bool true,.string ⟨#[]⟩,.int .i64 md,.int .i64 t]) ?_ rfl ⟨by rw[hY];rfl,hh,ht⟩;simp[results,go_sem,d0,d1,d2,d3,d4]
 | false =>
   have aI:k<32768:=by have:=au.o;simp at this;omega
   obtain⟨zr,hz⟩:=Jq (Ez 2 r4);obtain⟨z,r5⟩:=zr;have aK:z<65536:=by have:=Q9 2 r4;rw[<-hz]at this;exact this
   have l5:r5.1.length<=1000000:=by have:=(M6 2 r4).2;have e:(Ez 2 r4).2=(Go.Nt.tk 2 r4).2:=rfl;rw[<-hz]at e;rw[<-e]at this;exact AF this l4
   have A7:=Jy (Ri rb r4 2 W6 H6.o (by decide) l4);rw[<-hz]at A7;simp only at A7;obtain⟨br,a7⟩:=Jq (Go.Nt.tk z r5);obtain⟨bb,r6⟩:=br;have lb:bb.length<=1000000:=by have:=(M6 z r5).1;rw[<-a7]at this;exact AF this (by omega)
   have HE:Hid (Go.Nt.tk (Ez 2 r4).1 (Ez 2 r4).2=(bb,r6)):=Jy (by rw[<-hz];exact a7.symm);have aE:=Jy a7;clear hz a7;go_wp2_with (rw[<-am.o]);refine A7.o.mono ?_;rintro e w7 ⟨rfl,h7,t7⟩;have A8:=Jy (We rb r5 z w7 h7 (by omega) l5);have e8:=aE.o;rw[<-e8]at A8;simp only at A8;have P7:=Jy ((t7.block w2.heap.size (by omega) (by omega)).trans P6.o);have Q7:=Jy ((t7.block w.heap.size (by omega) (by omega)).trans Q6.o);have T7:=Jy (av.o.trans t7);have z7:=t7.size;clear A7 h7 t7 e8 aa ac aj af a8 d0 d1 d2 d3 d4 g0 g1 g2 g3 g4 aC az;go_wp2_with fail;refine A8.o.mono ?_;rintro e w8 ⟨rfl,h8,t8⟩;have P8:=Jy ((t8.block w2.heap.size (by omega) (by omega)).trans P7.o);have Q8:=Jy ((t8.block w.heap.size (by omega) (by omega)).trans Q7.o);have T8:=Jy (T7.o.trans t8);have z8:=t8.size;have H8:=Jy h8;clear A8 h8 t8 P7 Q7 T7
   obtain⟨V,hV⟩:=Jq ((u bb).getD []);have A9:Hid (Calls prog 145 #[.string (D9 bb)] w8 λe w'=>e=.returned (.tuple #[.string (D9 V),.int .i64 (if(u bb).isSome then 0 else 2)])/\Below w8.heap.size w8 w'):=by
    refine Jy ?_;cases hu:u bb with
    | none=>rw[show V=[] by rw[hV,hu];rfl];exact hP.none w8 bb lb hu
    | some d=>rw[show V=d by rw[hV,hu];rfl];exact hP.some w8 bb d lb hu
   obtain⟨so,ag⟩:=Jq ((u bb).isSome);rw[<-ag]at A9;have HV:=Jy hV;have aw:=Jy ag;obtain⟨Z,hZ⟩:=Jq (D9 V);rw[<-hZ]at A9;have HZ:=Jy hZ;clear hV ag hZ;go_wp2_with fail;refine A9.o.mono ?_;rintro e w9 ⟨rfl,a3⟩;have p9:=(a3.zK w2.heap.size).trans P8.o;have q9:=(a3.zK w.heap.size).trans Q8.o;have r9:FI w9 rb r6:=H8.o.below a3;have T9:=Jy (T8.o.trans (.of_below a3));have z9:=a3.size;clear A9 a3 P8 Q8 T8;cases so with
   | true =>
     obtain⟨Wa,a0⟩:=Jq ((w9).setCell ⟨w2.heap.size,2,none⟩ (.string Z));have pa:Wa.heap[w2.heap.size]? = some (.cells #[.string Y,.bool false,.string Z,.int .i64 md,.int .i64 t] 39 (0,0)):=by rw[a0];exact AK _ w2.heap.size 2 _ 39 _ p9
     have qa:Wa.heap[w.heap.size]? = some (.cells #[.string ⟨#[]⟩,.bool false,.string ⟨#[]⟩,.int .i64 0,.int .i64 0] 39 (0,0)):=by rw[a0];exact(AH _ ⟨w2.heap.size,2,none⟩ _ _ (by simp;omega)).trans q9
     have ra:FI Wa rb r6:=by rw[a0];exact(AH _ ⟨w2.heap.size,2,none⟩ _ _ (by simp;omega)).trans r9
     have Ta:Ep rb w Wa:=by rw[a0];exact T9.o.GA (by omega) _ _
     have aB:=Dv 2 p9;have ay:=FU 2 p9;have aa:=Dv 0 pa;have ac:=Dv 1 pa;have aj:=Dv 2 pa;have af:=Dv 3 pa;have a8:=Dv 4 pa;have d0:=Dv 0 qa;have d1:=Dv 1 qa;have d2:=Dv 2 qa;have d3:=Dv 3 qa;have d4:=Dv 4 qa;have g0:=FU 0 qa;have g1:=FU 1 qa;have g2:=FU 2 qa;have g3:=FU 3 qa;have g4:=FU 4 qa;have Qa:=Jy qa;have Ra:=Jy ra;have ad:=Jy Ta;have a9:=Jy a0;clear pa qa ra Ta a0 p9 q9 r9 T9;go_wp2_with (rw[<-a9.o]);have a4:=VG Qa.o (.string Y) (.bool false) (.string Z) (.int .i64 md) (.int .i64 t);have hh:=(WA Wa w.heap.size (.string Y) (.bool false) (.string Z) (.int .i64 md) (.int .i64 t) rb (by omega)).trans Ra.o;have ht:=U6 ad.o (AB _) (.string Y) (.bool false) (.string Z) (.int .i64 md) (.int .i64 t);have hY:=HY.o;have hZ:=HZ.o;have hE:=HE.o;have hV:=HV.o;have hS:=aw.o
     refine Au (v:=.agg #[.string Y,.bool false,.string Z,.int .i64 md,.int .i64 t]) ?_ rfl ?_
     ·simp[results,go_sem,d0,d1,d2,d3,d4]
     rw[hE];simp only;rw[<-hV,<-hS];refine⟨by rw[hY,hZ];rfl,?_,ht⟩;simp only[Bool.and_true];exact hh
   | false =>
     have k0:=r9.c0;have k1:=r9.c1;have m1:=r9.fz 1;obtain⟨wf,a2⟩:=Jq (w9.setCell ⟨rb,1,none⟩ (.bool false));replace p9:wf.heap[w2.heap.size]? = some (.cells #[.string Y,.bool false,.string ⟨#[]⟩,.int .i64 md,.int .i64 t] 39 (0,0)):=by rw[a2];exact(AH w9 ⟨rb,1,none⟩ _ _ (by simp;omega)).trans p9
     replace q9:wf.heap[w.heap.size]? = some (.cells #[.string ⟨#[]⟩,.bool false,.string ⟨#[]⟩,.int .i64 0,.int .i64 0] 39 (0,0)):=by rw[a2];exact(AH w9 ⟨rb,1,none⟩ _ _ (by simp;omega)).trans q9
     replace r9:FI wf rb (r6.1,false):=by rw[a2];exact AK w9 rb 1 _ 151 (.bool false) r9
     replace T9:Hid (Ep rb w wf):=Jy (by rw[a2];exact T9.o.set _ _);have aD:=Jy a2;obtain⟨Wa,a0⟩:=Jq ((wf).setCell ⟨w2.heap.size,2,none⟩ (.string Z));have pa:Wa.heap[w2.heap.size]? = some (.cells #[.string Y,.bool false,.string Z,.int .i64 md,.int .i64 t] 39 (0,0)):=by rw[a0];exact AK _ w2.heap.size 2 _ 39 _ p9
     have qa:Wa.heap[w.heap.size]? = some (.cells #[.string ⟨#[]⟩,.bool false,.string ⟨#[]⟩,.int .i64 0,.int .i64 0] 39 (0,0)):=by rw[a0];exact(AH _ ⟨w2.heap.size,2,none⟩ _ _ (by simp;omega)).trans q9
     have ra:FI Wa rb (r6.1,false):=by rw[a0];exact(AH _ ⟨w2.heap.size,2,none⟩ _ _ (by simp;omega)).trans r9
     have Ta:Ep rb w Wa:=by rw[a0];exact T9.o.GA (by omega) _ _
     have aB:=Dv 2 p9;have ay:=FU 2 p9;have aa:=Dv 0 pa;have ac:=Dv 1 pa;have aj:=Dv 2 pa;have af:=Dv 3 pa;have a8:=Dv 4 pa;have d0:=Dv 0 qa;have d1:=Dv 1 qa;have d2:=Dv 2 qa;have d3:=Dv 3 qa;have d4:=Dv 4 qa;have g0:=FU 0 qa;have g1:=FU 1 qa;have g2:=FU 2 qa;have g3:=FU 3 qa;have g4:=FU 4 qa;have Qa:=Jy qa;have Ra:=Jy ra;have ad:=Jy Ta;have a9:=Jy a0;clear pa qa ra Ta a0 p9 q9 r9 T9 a2;go_wp2_with (first | rw[<-aD.o] | rw[<-a9.o]);have a4:=VG Qa.o (.string Y) (.bool false) (.string Z) (.int .i64 md) (.int .i64 t);have hh:=(WA Wa w.heap.size (.string Y) (.bool false) (.string Z) (.int .i64 md) (.int .i64 t) rb (by omega)).trans Ra.o;have ht:=U6 ad.o (AB _) (.string Y) (.bool false) (.string Z) (.int .i64 md) (.int .i64 t);have hY:=HY.o;have hZ:=HZ.o;have hE:=HE.o;have hV:=HV.o;have hS:=aw.o
     refine Au (v:=.agg #[.string Y,.bool false,.string Z,.int .i64 md,.int .i64 t]) ?_ rfl ?_
     ·simp[results,go_sem,d0,d1,d2,d3,d4]
     rw[hE];simp only;rw[<-hV,<-hS];refine⟨by rw[hY,hZ];rfl,?_,ht⟩;simp only[Bool.and_false];exact hh
end
end Go.Proofs.YtodmdkhdbfbfgaaGreatDoor
namespace Go.Proofs
open Go.Shelf
def Ld:Go.Shelf.Ren:=⟨fun | 149=>116 | 222=>174 | n=>n,fun | 9=>9 | 5=>5 | 3=>3 | 4=>4 | n=>n,fun | n=>n⟩
theorem OH:Go.Proofs.Lays.n149 prog Ld:={
 mixed:=by kernel_rfl
 f149:=func116.trans (AV some (by kernel_rfl))
 f222:=func174.trans (AV some (by kernel_rfl))
 t3:=underlying3
 a3:=isAgg3
 z3:=sizeOf3
 v3:=zeroValue3
 t4:=underlying4
 a4:=isAgg4
 z4:=sizeOf4
 v4:=zeroValue4
 t5:=underlying5
 a5:=isAgg5
 z5:=sizeOf5
 v5:=zeroValue5
 t9:=underlying9
 a9:=isAgg9
 z9:=sizeOf9
 v9:=zeroValue9 }
open Go.RowKit Go.Lib in
theorem strings_LastIndexByte(s:ByteArray)(c:Int)(hs:s.size<4611686018427387904)(w:D7) :
 Calls prog 116 #[.string s,.int .u8 c] w λe w'=>e=.returned (.int .i64 (Lib.lastIndexByte s c))/\w'=w:=Any.strings_LastIndexByte OH s c hs w
end Go.Proofs
namespace Go.Proofs.YtodmdkhdbfbfgaaGreatDoor
open Go.RowKit Go.Nt
theorem fu{α:Type}[DecidableEq α]{a b:List α}(ha:a.Nodup)(hb:b.Nodup)(h:∀x,x∈a↔x∈b):a.Perm b:=
 (List.perm_ext_iff_of_nodup ha hb).2 h
structure MK (l:List It) (f:Bs->Bool) (left:Lit->Bool) (acc:List Bs):Prop where
 nd:acc.Nodup
 mem:∀q,q∈acc↔((at? l q).isSome=true/\f q=true/\left (.string q)=false)
theorem MK.step{l:List It}{f:Bs->Bool}{left:Lit->Bool}{acc:List Bs}(h:MK l f left acc){p:Bs}(hp:(at? l p).isSome=true)(hl:left (.string p)=true):MK l f (λz=>left z && !z.sameKey (.string p)) (if f p then acc++[p]else acc):=by
 have hs:∀q,q≠p->Lit.sameKey (.string q) (.string p)=false:=λq e=>DL (λh=>e (by cases h;rfl))
 have a1:Lit.sameKey (.string p) (.string p)=true:=by
  cases h:Lit.sameKey (.string p) (.string p)with
  | true=>rfl
  | false=>simp[Lit.sameKey]at h
 have a0:p∉acc:=λhm=>by have:=((h.mem p).1 hm).2.2;rw[hl]at this;cases this
 cases hf:f p with
 | true =>
   simp only[if_true];refine⟨?_,λq => ?_⟩
   ·rw[CG];exact⟨h.nd,by simp,λa ha b hb e=>by simp at hb;subst hb;subst e;exact a0 ha⟩
   by_cases e:q=p
   ·subst e;simp[hp,hf,a1]
   simp only[An,List.mem_singleton,e,or_false,hs q e];rw[h.mem q];simp
 | false =>
   simp only[BS,C6];refine⟨h.nd,λq => ?_⟩;by_cases e:q=p
   ·subst e;simp[hf,a0]
   rw[h.mem q];simp[hs q e]
theorem MK.done{l:List It}{f:Bs->Bool}{left:Lit->Bool}{acc:List Bs}(h:MK l f left acc)(hn:(l.map (·.path)).Nodup)(h0:∀k,left k=false):acc.Perm ((l.map (·.path)).filter f):=by
 refine fu h.nd (hn.sublist List.filter_sublist) (λq => ?_);rw[h.mem q,BC,Am]
 constructor
 ·rintro⟨h1,h2,_⟩;obtain⟨x,hx⟩:=CC.1 h1;exact⟨⟨x,(Ml hx).1,(Ml hx).2⟩,h2⟩
 rintro⟨⟨x,hx,rfl⟩,h2⟩;exact⟨by rw[at_mem hn hx];rfl,h2,h0 _⟩
theorem XL{w w':D7}{b r n:Nat}{D:DataW Nd}{left:Lit->Bool}{cnt base m s:Nat}{e:TypeId}{v:Value}{xs:List Value}(h:w.ranges prog 9 IJ b r n D left cnt)(ho:w.ownsRow base e s v m xs)(hg:w.grownBy w' v.ownBlock):w'.ranges prog 9 IJ b r n D left cnt:=by
 have h':=h;obtain⟨es,cl,si,se,c0,hb,_,_,_,hr,_⟩:=h';refine h.kept hg (λe => ?_) (λe => ?_)
 ·rcases ho.2 with⟨rfl,_⟩ | ⟨g,cap,cur,rfl,_,hh,_⟩
  ·simp[Value.ownBlock]at e
  simp[Value.ownBlock]at e;subst e;rw[hb]at hh;cases hh
 rcases ho.2 with⟨rfl,_⟩ | ⟨g,cap,cur,rfl,_,hh,_⟩
 ·simp[Value.ownBlock]at e
 simp[Value.ownBlock]at e;subst e;rw[hr]at hh;cases hh
def sv(l:List Bs):List Value:=l.map λx=>.string (D9 x)
def nm:Bs->Bs
 | []=>[]
 | c :: cs=>if cs.contains 47 then nm cs else if c=47 then cs else c :: cs
theorem WY{p:Bs}(h:∀i,i<p.length->p.getD i 0≠47):nm p=p:=by
 cases p with
 | nil=>rfl
 | cons c cs =>
   unfold nm;rw[AC,AC]
   ·have:=h 0 (by simp);simpa[List.getD]using this
   intro hc;obtain⟨i,hi,he⟩:=Bl (Bu.1 hc)
   have:=h (i+1) (by simp;omega)
   simp[List.getD,hi]at this;exact this he
theorem Xl:∀{p:Bs} {j:Nat},p.getD j 0=47->(∀i,j<i->i<p.length->p.getD i 0≠47)->nm p=p.drop (j+1)
 | [],j,h,_=>by simp at h
 | c :: cs,0,h1,h2=>by
   unfold nm;rw[AC,AE]
   ·rfl
   ·simpa[List.getD]using h1
   intro hc;obtain⟨i,hi,he⟩:=Bl (Bu.1 hc)
   have:=h2 (i+1) (by omega) (by simp;omega)
   simp[List.getD,hi]at this;exact this he
 | c :: cs,j+1,h1,h2=>by
   have h1':cs.getD j 0=47:=by simpa[List.getD]using h1
   have hj:j<cs.length:=by
    rcases CM j cs.length with h | h
    ·exact h
    rw[List.getD,Aw h]at h1';cases h1'
   have hc:cs.contains 47=true:=by
    rw[Bu]
    have:cs[j]=47:=by simpa[List.getD,hj]using h1'
    exact this ▸ Bp hj
   unfold nm;rw[AE hc,Xl h1' (λi hi hl => ?_)]
   ·rfl
   have:=h2 (i+1) (by omega) (by simp;omega)
   simpa[List.getD]using this
theorem kE(p:Bs):(Lib.lastIndexByte (D9 p) 47 = -1/\par p=[]/\nm p=p)\/∃j:Nat,Lib.lastIndexByte (D9 p) 47=(j:Int)/\j<p.length/\par p=p.take j/\nm p=p.drop (j+1):=by
 have hg:∀j,j<p.length->(((D9 p).data[j]!).toNat:Int)=((p.getD j 0).toNat:Int):=λj hj=>by
  simp[D9,List.getD,hj]
 have a0:∀x:UInt8,((x.toNat:Int)=47)↔x=47:=λx=>by
  constructor
  ·intro h;exact BL.1 (by have:(47:UInt8).toNat=47:=rfl;omega)
  intro h;rw[h];rfl
 rcases Lib.lastIdx_spec (D9 p) 47 (D9 p).size with⟨h1,h2⟩ | ⟨i,h1,h2,h3,h4⟩
 ·have hn:∀i,i<p.length->p.getD i 0≠47:=λi hi e=>h2 i (by rw[Dd];exact hi) (by rw[hg i hi,e];rfl)
  exact .inl ⟨h1,TN hn,WY hn⟩
 rw[Dd]at h1 h4;have e:p.getD i 0=47:=(a0 _).1 (by rw[<-hg i h1];exact h3);have hn:∀k,i<k->k<p.length->p.getD k 0≠47:=λk hk hl e'=>h4 k hk hl (by rw[hg k hl,e'];rfl)
 exact .inr ⟨i,h2,h1,Qe e hn,Xl e hn⟩
theorem f9(p:Bs)(w:D7)(hp:p.length<=1048576):Calls prog 69 #[.string (D9 p)] w λe w'=>e=.returned (.tuple #[.string (D9 (par p)),.string (D9 (nm p))])/\Below w.heap.size w w':=by
 have HL:=Jy (strings_LastIndexByte (D9 p) 47 (by rw[Dd];omega) w);obtain⟨X,hX⟩:=Jq (D9 p);have Sx:X.size=p.length:=by rw[hX,Dd]
 rcases kE p with⟨h1,h2,h3⟩ | ⟨j,h1,h2,h3,h4⟩
 ·rw[h1]at HL;rw[h2,h3,<-hX];rw[<-hX]at HL;have a1:Hid (X.extract 0 0=D9 []):=Jy (by rw[hX,Jb];rfl);have a2:Hid (X.extract 0 X.size=X):=Jy (by rw[Sx];rw[hX,Jb];congr 1;simp);have a3:X.size<=1048576:=by omega
  clear h1 h2 h3 hX Sx;go_enter func69,ntmps69
  go_wp2_with (go_at_call 116;refine Jj HL.o ?_);go_region;go_wp2;go_ret2
  refine⟨?_,(AM _ w).drew⟩;have e1:=a1.o;show Ending.returned (.tuple #[.string (X.extract 0 (max (-1:Int) 0).toNat),.string X])=_;rw[show(max (-1:Int) 0).toNat=0 from rfl,e1]
 rw[h1]at HL;rw[h3,h4,<-hX];rw[<-hX]at HL;have a1:Hid (X.extract 0 j=D9 (p.take j)):=Jy (by rw[hX,Jb];simp);have a2:Hid (X.extract (j+1) X.size=D9 (p.drop (j+1))):=Jy (by rw[Sx,hX,Jb];congr 1;exact AT (by simp));have a3:X.size<=1048576:=by omega
 have hj:j<X.size:=by omega
 have hm:max (j:Int) 0=(j:Int):=by omega
 clear h1 h2 h3 h4 hX Sx;go_enter func69,ntmps69
 go_wp2_with (go_at_call 116;refine Jj HL.o ?_);go_region;go_wp2;go_ret2
 refine⟨?_,(AM _ w).drew⟩;have e1:=a1.o;have e2:=a2.o;show Ending.returned (.tuple #[.string (X.extract 0 j),.string (X.extract (j+1) X.size)])=_;rw[e1,e2]
end Go.Proofs.YtodmdkhdbfbfgaaGreatDoor
namespace Go.Proofs
open Go.Shelf
def LL:Go.Shelf.Ren:=⟨fun | 190=>70 | 125=>118 | 258=>117 | 128=>184 | 129=>185 | 302=>175 | 303=>176 | 304=>177 | 305=>178 | 306=>179 | 307=>180 | 308=>181 | 309=>182 | 310=>183 | 333=>235 | 329=>236 | 330=>237 | 334=>238 | 335=>239 | 336=>231 | 344=>273 | n=>n,fun | 31=>40 | 9=>9 | 3=>3 | 46=>110 | 0=>0 | 51=>88 | 53=>240 | 4=>4 | 183=>231 | 182=>230 | 131=>236 | 5=>5 | 218=>261 | 222=>265 | 228=>308 | 229=>309 | n=>n,fun | n=>n⟩
theorem MN:Go.Proofs.Lays.n190 prog LL:={
 mixed:=by kernel_rfl
 f125:=func118.trans (AV some (by kernel_rfl))
 f128:=func184.trans (AV some (by kernel_rfl))
 f129:=func185.trans (AV some (by kernel_rfl))
 f190:=func70.trans (AV some (by kernel_rfl))
 f258:=func117.trans (AV some (by kernel_rfl))
 f302:=func175.trans (AV some (by kernel_rfl))
 f303:=func176.trans (AV some (by kernel_rfl))
 f304:=func177.trans (AV some (by kernel_rfl))
 f305:=func178.trans (AV some (by kernel_rfl))
 f306:=func179.trans (AV some (by kernel_rfl))
 f307:=func180.trans (AV some (by kernel_rfl))
 f308:=func181.trans (AV some (by kernel_rfl))
 f309:=func182.trans (AV some (by kernel_rfl))
 f310:=func183.trans (AV some (by kernel_rfl))
 f329:=func236.trans (AV some (by kernel_rfl))
 f330:=func237.trans (AV some (by kernel_rfl))
 f333:=func235.trans (AV some (by kernel_rfl))
 f334:=func238.trans (AV some (by kernel_rfl))
 f335:=func239.trans (AV some (by kernel_rfl))
 f336:=func231.trans (AV some (by kernel_rfl))
 f344:=func273.trans (AV some (by kernel_rfl))
 t0:=underlying0
 a0:=isAgg0
 z0:=sizeOf0
 v0:=zeroValue0
 t3:=underlying3
 a3:=isAgg3
 z3:=sizeOf3
 v3:=zeroValue3
 t4:=underlying4
 a4:=isAgg4
 z4:=sizeOf4
 v4:=zeroValue4
 t5:=underlying5
 a5:=isAgg5
 z5:=sizeOf5
 v5:=zeroValue5
 t9:=underlying9
 a9:=isAgg9
 z9:=sizeOf9
 v9:=zeroValue9
 t31:=underlying40
 a31:=isAgg40
 z31:=sizeOf40
 v31:=zeroValue40
 t46:=underlying110
 a46:=isAgg110
 z46:=sizeOf110
 v46:=zeroValue110
 t51:=underlying88
 a51:=isAgg88
 z51:=sizeOf88
 v51:=zeroValue88
 t53:=underlying240
 a53:=isAgg240
 z53:=sizeOf240
 v53:=zeroValue240
 t131:=underlying236
 a131:=isAgg236
 z131:=sizeOf236
 v131:=zeroValue236
 t182:=underlying230
 a182:=isAgg230
 z182:=sizeOf230
 v182:=zeroValue230
 t183:=underlying231
 a183:=isAgg231
 z183:=sizeOf231
 v183:=zeroValue231
 t218:=underlying261
 a218:=isAgg261
 z218:=sizeOf261
 v218:=zeroValue261
 t222:=underlying265
 a222:=isAgg265
 z222:=sizeOf265
 v222:=zeroValue265
 t228:=underlying308
 a228:=isAgg308
 z228:=sizeOf308
 v228:=zeroValue308
 t229:=underlying309
 a229:=isAgg309
 z229:=sizeOf309
 v229:=zeroValue309 }
end Go.Proofs
