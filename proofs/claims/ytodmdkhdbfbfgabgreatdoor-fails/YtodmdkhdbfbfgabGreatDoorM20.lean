/- Lemmas. -/
import Derived.Test.YtodmdkhdbfbfgabGreatDoorM18
import Derived.Test.YtodmdkhdbfbfgabGreatDoorM19
set_option linter.unusedVariables false
set_option linter.unusedSimpArgs false
set_option maxRecDepth 100000
set_option maxHeartbeats 8000000
namespace Go.Proofs.YtodmdkhdbfbfgabGreatDoor
open Go.RowKit Go.Nt
theorem But.own {t e:TypeId} {a b:World} (h:But t a b) (hne:e≠t) {base s n:Nat} {v:Value} {xs:List Value} (ho:a.ownsRow base e s v n xs):b.ownsRow base e s v n xs:=by
 refine ⟨ho.1,?_⟩;rcases ho.2 with ⟨rfl,h0⟩ | ⟨g,cap,cur,rfl,h1,hh,h2⟩
 ·exact .inl ⟨rfl,h0⟩
 exact .inr ⟨g,cap,cur,rfl,h1,h.cells hh hne,h2⟩
theorem Bytes.str {w:World} {B:Nat} {v:Value} {l:Bs} (h:Bytes w B v l):(convert 50 9 v).run Tryz.prog w=.ok (.string (txt l)) w:=S1.conv_own h
theorem qaq (l:List It):(qac l).Perm l:=List.mergeSort_perm _ _
theorem qiv (l:List It) (k:Nat):weigh (l.take k)≤weigh l:=by
 have h:weigh l=weigh (l.take k)+weigh (l.drop k):=by
  unfold weigh;rw [←List.sum_append,←List.map_append,List.take_append_drop]
 omega
theorem qeC {l:List It} (hf:∀ x∈l,Fit x):weigh l≤4271*l.length:=
 qk4 _ 4271 l (fun x hx=>by have h:=hf x hx;have:=h.p;have:=h.d;omega)
theorem qk8 (w:World) (n:Nat) (hn:n≤255):Bytes (w.alloc (.cells #[.int .u8 n] 5)) w.heap.size (.slice (some ⟨w.heap.size,0,none⟩) 1 1) (enc 1 n):=by
 have e:bv (enc 1 n)=[.int .u8 n]:=by
  simp only [enc,bv,List.nil_append,List.map_cons,List.map_nil,UInt8.toNat_ofNat']
  congr 2
  omega
 unfold Bytes;rw [qab,e];exact ⟨rfl,.inr ⟨w.heap.size,1,#[.int .u8 n],rfl,Nat.le_refl _,heap_alloc_new _ _,Nat.le_refl _,by unfold maxLen;omega,rfl,rfl⟩⟩
theorem qn6 {L:List It} {k:Nat} {x:It} (h:L[k]? = some x):L.take (k+1)=L.take k++[x]:=by
 rw [List.take_add_one,h];rfl
theorem qhp {u:Bs→Option Bs} (hP:PackC u) (b:Nat) (l:List It) (w:World) (hT:TreeAt w b l) (ht:TreeP l) (hml:ML w) :
 Calls Tryz.prog 47 #[.map (some b)] w fun e w'=>∃ t,e=.returned (.string (txt t))∧IsText u (qac l) t∧Below w.heap.size w w':=by
 obtain ⟨L,hL⟩:∃ L,L=qac l:=⟨_,rfl⟩;have hLl:L.length=l.length:=by rw [hL];exact (qaq l).length_eq
 have hfit:∀ x∈L,Fit x:=fun x hx=>qaH (ht.ok x ((qaq l).mem_iff.1 (hL ▸ hx)))
 have h60:=ht.len;have hlen:=fun W (h:TreeAt W b l)=>h.len ht.nodup 3
 have HI:=hidI (fun W (h:TreeAt W b l) (hm:ML W)=>qff b l W h ht.nodup (by omega) hm (fun x hx=>by have:=(qaH (ht.ok x hx)).p;omega));rw [←hL] at HI ⊢;have HLl:=hidI hLl;have Hfit:=hidI hfit;have HT:=hidI hT;have Hml:=hidI hml;have hlen0:=hlen w hT;have Hw:=hidI (qeC hfit);clear hL hfit ht hlen hT hml;go_enter Tryz.func47,Tryz.ntmps47
 go_wp2_with fail;have HB0:=hidI (qk8 w l.length (by omega));obtain ⟨W1,hW1⟩:∃ W1,W1=w.alloc (.cells #[.int .u8 (l.length:Nat)] 5):=⟨_,rfl⟩;rw [←hW1] at HB0 ⊢;have hB1:Below w.heap.size w W1:=by rw [hW1];exact (Below.refl _ w).alloc (Nat.le_refl _) _
 have hs1:W1.heap.size=w.heap.size+1:=by rw [hW1];simp
 have HB1:=hidI hB1;refine (HI.out W1 (HT.out.below hB1 HT.out.lt) (Hml.out.below hB1 Hml.out.lt)).mono ?_;rintro e w2 ⟨hb2,v2,rfl,hown2⟩;have HB2:=hidI (HB1.out.trans (hb2.mono (by omega)));have HY2:Hid (Bytes w2 w.heap.size (.slice (some ⟨w.heap.size,0,none⟩) 1 1) (enc 1 l.length)):=hidI (HB0.out.below hb2 (Nat.le_refl _));rw [←hLl] at hown2;obtain ⟨a2,c2,rfl,hin2⟩:=qa9 hown2;have HO2:=hidI hown2;have hsz2:=hb2.size;rw [hLl] at HO2;clear hb2 hown2 hin2 HI HB0 HB1 hB1 hW1 HT Hml hlen0;obtain ⟨n,hn⟩:∃ n,n=l.length:=⟨_,rfl⟩;rw [hLl];rw [←hn] at HO2 HY2 h60 HLl ⊢;clear hn hLl;go_wp2
 go_loopw [3,13] (fun v i wr=>∃ (k:Nat) (e:Bs),k≤n∧i=.int .i64 k∧Hid (qaO u (L.take k) e)∧Hid (Bytes wr w.heap.size v (enc 1 n++e))∧Hid (Below w.heap.size w wr)∧Hid (But 5 w2 wr)) (fun _ i _=>n - (intOf i).toNat)
 case atStart=>exact ⟨0,[],Nat.zero_le _,rfl,hidI rfl,hidI (by simpa using HY2.out),HB2,hidI (But.refl _ _)⟩
 case round =>
  obtain ⟨k,e,hk,rfl,He,HY,HB,HK⟩:=hrel;have hszr:=HB.out.size;by_cases hlt:k<n
  ·obtain ⟨x,hx⟩:∃ x,L[k]? = some x:=⟨_,List.getElem?_eq_getElem (by have:=HLl.out;omega)⟩;have hox:=HK.out.own (by decide) HO2.out;have hox':wr.ownsRow W1.heap.size 53 5 (.slice a2 L.length c2) L.length (its L):=by rw [HLl.out];exact hox
   rcases qf1 hox' with ⟨_,hnil⟩ | ⟨g,cap,hsl,_,hglt,_,_,hc⟩
   ·rw [hnil] at hx;simp at hx
   cases hsl
   have hh:=hc k x hx;rw [Nat.zero_add] at hh;obtain ⟨x0,x1,x2,x3,x4⟩:=hh;have hel:=qbz He.out;have hwt:=qiv L k;have hwl:=Hw.out;have hel':e.length≤300000:=by have:=HLl.out;omega
   obtain ⟨Wb,hWb⟩:∃ Wb,Wb=wr.alloc (.cells #[.string (txt x.path),.bool x.dir,.string (txt x.data),.int .i64 x.mode,.int .i64 x.time] 53):=⟨_,rfl⟩;have A:=hidI (qgE hP w.heap.size _ _ x Wb (by rw [hWb];simp;omega) (by rw [hWb];exact HY.out.alloc _) (by rw [List.length_append,qab];omega) (Hfit.out x (List.mem_of_getElem? hx)));unfold itv at A;have HBb:Hid (Below w.heap.size w Wb):=hidI (by rw [hWb];exact HB.out.alloc hszr _);have HKb:Hid (But 5 w2 Wb):=hidI (by rw [hWb];exact HK.out.alloc _);have HWb:=hidI hWb;have Hx:=hidI hx;clear hox hox' hc hx hel hwt hwl hWb;go_wp2_with fail;rw [←HWb.out];refine A.out.mono ?_;rintro e3 w3 ⟨v3,a3,rfl,hit,hY3,hB3,hK3⟩;have HB3:=hidI (HBb.out.trans hB3);have HK3:=hidI (HKb.out.trans hK3);have HY3:=hidI hY3;have He3:Hid (qaO u (L.take (k+1)) (e++a3)):=hidI (by rw [qn6 Hx.out];exact qch He.out hit)
   clear hit hY3 hB3 hK3 A x0 x1 x2 x3 x4;go_wp2;go_roundw
   case rel=>exact ⟨k+1,e++a3,by omega,by go_num,He3,hidI (by have:=HY3.out;rwa [List.append_assoc] at this),HB3,HK3⟩
   case measure=>simp [intOf];omega
  have hkn:k=n:=by omega
  subst hkn;have hst:=HY.out.str;have HR:Hid (IsText u L (enc 1 k++e)):=by
   refine hidI ⟨e,?_,by rw [HLl.out]⟩
   have:=He.out
   rwa [List.take_of_length_le (by have:=HLl.out;omega)] at this
  go_wp2;go_ret
  exact ⟨_,rfl,HR.out,HB.out⟩
def BuildP (u:Bs→Option Bs) (l:List It) (lo hi cb:Nat) (L:S1.Loc) (m:S1.M) (w:World) (e:Ending) (w':World):Prop:=
 (isTree l=false∧e=.returned (.int .i64 3)∧S1.CP w' lo hi cb L m∧S1.Only lo hi w w') ∨
 (isTree l=true∧∃ t,IsText u (qac l) t∧e=.returned (.int .i64 (S1.renA m t).1)∧S1.CP w' lo hi cb L (S1.renA m t).2∧S1.Only lo hi w w')
theorem qkx {u:Bs→Option Bs} (hP:PackC u) (a:Option Addr) (c:Nat) (l:List It) (w:World) (lo hi cb:Nat) (L:S1.Loc) (m:S1.M) (hw:S1.WF m) (h:S1.CP w lo hi cb L m) (hsz:hi≤w.heap.size) (hml:ML w) (hmlo:0<lo) (hl:ItsIn w a l) (hn:l.length≤1048576) (hp:∀ x∈l,x.path.length≤1048576) (hd:∀ x∈l,x.data.length≤1048576) :
 Calls Tryz.prog 26 #[.pointer (some ⟨cb,0,none⟩),.slice a l.length c] w fun e w'=>BuildP u l lo hi cb L m w e w':=by
 have HN:=hidI (new_any a c l w hml hl hn hp hd);have HC:=hidI h;have Hml:=hidI hml;have Hw:=hidI hw;clear h hml hl hp hd hw;go_enter Tryz.func26,Tryz.ntmps26
 go_wp2_with fail;refine HN.out.mono ?_;rintro e W1 ⟨hb1,⟨hno,rfl⟩ | ⟨hyes,b,rfl,hbb,hT⟩⟩
 ·have HC1:=hidI (S1.MemX.below HC.out hsz hb1);have HO1:Hid (S1.Only lo hi w W1):=hidI (S1.Only.of_below hb1);clear hb1;go_wp2_with fail;go_ret
  exact .inl ⟨hno,rfl,HC1.out,HO1.out⟩
 have hC1:S1.CP W1 lo hi cb L m:=S1.MemX.below HC.out hsz hb1;have hml1:=Hml.out.below hb1 Hml.out.lt;have htp:TreeP l:=(qbH l).1 hyes;have HT:=hidI (qhp hP b l W1 hT htp hml1);have HO1:Hid (S1.Only lo hi w W1):=hidI (S1.Only.of_below hb1);have HC1:=hidI hC1;have Hb1:=hidI hb1.size;have Hyes:=hidI hyes;have Hfit:=hidI (qiM hyes);clear hb1 hT hC1 hml1 htp hyes HN;go_wp2_with fail;refine HT.out.mono ?_;rintro e W2 ⟨t,rfl,ht,hb2⟩;have hC2:S1.CP W2 lo hi cb L m:=S1.MemX.below HC1.out (by have:=Hb1.out;omega) hb2;have htl:t.length≤1000000:=by
  have h1:=qbO ht;have h2:=qeC (l:=qac l) (fun x hx=>Hfit.out.1 x ((qaq l).mem_iff.1 hx));have h3:(qac l).length=l.length:=(qaq l).length_eq;have h4:=Hfit.out.2;rw [h3] at h2
  have:4271*l.length≤4271*60:=Nat.mul_le_mul_left _ h4
  omega
 have HR:=hidI (S1.renew_any W2 lo hi cb L m t Hw.out hC2 (by have:=Hb1.out;have:=hb2.size;omega) htl);rw [show S1.txt t=txt t from rfl] at HR;have HO2:=hidI (HO1.out.trans (S1.Only.of_below hb2));have Ht:=hidI ht;clear hC2 hb2 ht HT;go_wp2_with fail;refine HR.out.mono ?_;rintro e W3 ⟨rfl,hC3,hO3⟩;have HC3:=hidI hC3;have HO3:=hidI (HO2.out.trans hO3);obtain ⟨er,her⟩:∃ er,er=(S1.renA m t).1:=⟨_,rfl⟩;rw [←her];have Her:=hidI her;clear hC3 hO3 HR her;go_wp2_with fail;go_ret
 exact .inr ⟨Hyes.out,t,Ht.out,by rw [←Her.out];rfl,HC3.out,HO3.out⟩
theorem qfY (b:Nat) (l:List It) (p:Bs) (w:World) (hT:TreeAt w b l) (hml:ML w) (hp:p.length≤1048576) :
 Calls Tryz.prog 52 #[.map (some b),.string (txt p)] w fun e w'=>Below w.heap.size w w'∧e=.returned (.int .i64 (reachE l p)):=by
 have HP:=hidI (qet p w hml hp);have HT:=hidI hT;have HE:=hidI (fun W (h:TreeAt W b l)=>qfM b l p W h hp);unfold reachE;cases ho:okPath p with
 | false =>
   rw [ho] at HP;clear ho hT hml HE;go_enter Tryz.func52,Tryz.ntmps52
   go_wp2_with (go_at_call 80;refine HP.out.mono ?_;rintro e w' ⟨hb,rfl⟩;have Hb:=hidI hb;clear hb);go_ret
   exact ⟨Hb.out,rfl⟩
 | true =>
   rw [ho] at HP;have hlt:=hT.lt;clear ho hT hml;go_enter Tryz.func52,Tryz.ntmps52
   go_wp2_with (first | (go_at_call 80;refine HP.out.mono ?_;rintro e w' ⟨hb,rfl⟩;have Hb:=hidI hb;have HE2:=hidI (HE.out w' (HT.out.below hb HT.out.lt));clear hb) | (go_at_call 72;refine HE2.out.mono ?_;rintro e w'' ⟨hb,rfl⟩;have Hb2:=hidI hb;clear hb));go_ret
   exact ⟨Hb.out.trans (Hb2.out.mono Hb.out.size),rfl⟩
def ndN:Nd:=⟨false,[],0,0⟩
def findN (l:List It) (p:Bs):Nd:=if findE l p=0 then (match at? l p with | some x=>nd x | none=>ndN) else ndN
def set4 (w:World) (b:Nat) (v0 v1 v2 v3:Value):World:=(((w.setCell ⟨b,0,none⟩ v0).setCell ⟨b,1,none⟩ v1).setCell ⟨b,2,none⟩ v2).setCell ⟨b,3,none⟩ v3
theorem qcF {w W:World} {b B:Nat} (h:Below B w W) (hb:B≤b) (v0 v1 v2 v3:Value):Below B w (set4 W b v0 v1 v2 v3):=
 (((h.setCell (p:=⟨b,0,none⟩) hb v0).setCell (p:=⟨b,1,none⟩) hb v1).setCell (p:=⟨b,2,none⟩) hb v2).setCell (p:=⟨b,3,none⟩) hb v3
structure Four (W:World) (b:Nat) (a0 a1 a2 a3:Value):Prop where
 c0:W.cell? ⟨b,0,none⟩=some a0
 c1:W.cell? ⟨b,1,none⟩=some a1
 c2:W.cell? ⟨b,2,none⟩=some a2
 c3:W.cell? ⟨b,3,none⟩=some a3
 f0:W.frozen? ⟨b,0,none⟩=false
 f1:W.frozen? ⟨b,1,none⟩=false
 f2:W.frozen? ⟨b,2,none⟩=false
 f3:W.frozen? ⟨b,3,none⟩=false
theorem four {W:World} {b:Nat} {a0 a1 a2 a3:Value} {T:TypeId} (h:W.heap[b]? = some (.cells #[a0,a1,a2,a3] T (0,0))):Four W b a0 a1 a2 a3:=
 ⟨by rw [cell_of_row W b 0 _ T (0,0) h];rfl,by rw [cell_of_row W b 1 _ T (0,0) h];rfl,by rw [cell_of_row W b 2 _ T (0,0) h];rfl,by rw [cell_of_row W b 3 _ T (0,0) h];rfl,
  frozen_of_row W b 0 _ T h,frozen_of_row W b 1 _ T h,frozen_of_row W b 2 _ T h,frozen_of_row W b 3 _ T h⟩
theorem qjF (b:Nat) (l:List It) (p:Bs) (w:World) (hT:TreeAt w b l) (hml:ML w) (hp:p.length≤1048576) :
 Calls Tryz.prog 56 #[.map (some b),.string (txt p)] w fun e w'=>Below w.heap.size w w'∧e=.returned (.tuple #[ndv (findN l p),.int .i64 (findE l p)]):=by
 obtain ⟨W0,hW0⟩:∃ W0,W0=w.alloc (.cells #[.bool false,.string ⟨#[]⟩,.int .i64 0,.int .i64 0] 94):=⟨_,rfl⟩;have hB0:Below w.heap.size w W0:=by rw [hW0];exact (Below.refl _ w).alloc (Nat.le_refl _) _
 have hs0:W0.heap.size=w.heap.size+1:=by rw [hW0];simp
 have q0:W0.heap[w.heap.size]? = some (.cells #[.bool false,.string ⟨#[]⟩,.int .i64 0,.int .i64 0] 94 (0,0)):=by rw [hW0];exact heap_alloc_new _ _
 have HR:=hidI (qfY b l p W0 (hT.below hB0 hT.lt) (hml.below hB0 hml.lt) hp);have HT:=hidI hT;have HW0:=hidI hW0;have HB0:=hidI hB0;have hlt:=hT.lt;have Q0:=hidI q0;clear hT hml hB0 q0 hW0;obtain ⟨X,hX⟩:∃ X,X=txt p:=⟨_,rfl⟩;by_cases hr:reachE l p=0
 ·have hfe:findE l p=if (at? l p).isSome then 0 else 4:=by unfold findE;rw [if_pos hr]
  rw [hr] at HR;cases ha:at? l p with
  | none =>
    rw [ha] at hfe;have hfe':findE l p=4:=hfe;have hfn:findN l p=ndN:=by unfold findN;rw [hfe'];rfl
    rw [hfe',hfn];have HL:=hidI (fun W (h:TreeAt W b l)=>(h.look_none (p:=p) (by unfold maxLen;omega) ha).1);rw [←hX] at HL HR ⊢;clear hfe hfe' hfn ha hr hX;go_enter Tryz.func56,Tryz.ntmps56
    go_wp2_with (first | (rw [←HW0.out]) | fail);refine HR.out.mono ?_;rintro e w1 ⟨hb1,rfl⟩;have q1:=(hb1.block w.heap.size (by omega)).trans Q0.out;have hl1:=HL.out w1 ((HT.out.below HB0.out hlt).below hb1 (by omega));have HB1:=hidI (HB0.out.trans (hb1.mono (by omega)));have hs1:=hb1.size;obtain ⟨W2,hW2⟩:∃ W2,W2=w1.alloc (.cells #[.bool false,.string (txt []),.int .i64 0,.int .i64 0] 94):=⟨_,rfl⟩;have q2:W2.heap[w.heap.size]? = some (.cells #[.bool false,.string ⟨#[]⟩,.int .i64 0,.int .i64 0] 94 (0,0)):=by rw [hW2];exact (Below.heap_alloc w1 _ _ (by omega)).trans q1
    obtain ⟨c0,c1,c2,c3,f0,f1,f2,f3⟩:=four q2;have HB2:Hid (Below w.heap.size w W2):=hidI (by rw [hW2];exact HB1.out.alloc (by omega) _);have HW2:=hidI hW2;unfold ndv at hl1;clear hb1 q1 q2 hW2 HR HL Q0;go_wp2_with (rw [←HW2.out]);have hb:=qcF HB2.out (Nat.le_refl _) (.bool false) (.string ⟨#[]⟩) (.int .i64 0) (.int .i64 0);refine bodyPost_ret (v:=.tuple #[.agg #[.bool false,.string ⟨#[]⟩,.int .i64 0,.int .i64 0],.int .i64 4]) ?_ rfl ⟨hb,rfl⟩;simp [results,go_sem,c0,c1,c2,c3]
  | some x =>
    rw [ha] at hfe;have hfe':findE l p=0:=hfe;have hfn:findN l p=nd x:=by unfold findN;rw [hfe',ha];rfl
    rw [hfe',hfn];have HL:=hidI (fun W (h:TreeAt W b l)=>(h.look_some (p:=p) (by unfold maxLen;omega) ha).1);rw [←hX] at HL HR ⊢;clear hfe hfe' hfn ha hr hX;go_enter Tryz.func56,Tryz.ntmps56
    go_wp2_with (first | (rw [←HW0.out]) | fail);refine HR.out.mono ?_;rintro e w1 ⟨hb1,rfl⟩;have q1:=(hb1.block w.heap.size (by omega)).trans Q0.out;have hl1:=HL.out w1 ((HT.out.below HB0.out hlt).below hb1 (by omega));have HB1:=hidI (HB0.out.trans (hb1.mono (by omega)));have hs1:=hb1.size;unfold ndv nd at hl1;simp only at hl1;obtain ⟨Y,hY⟩:∃ Y,Y=txt x.data:=⟨_,rfl⟩;rw [←hY] at hl1;obtain ⟨W2,hW2⟩:∃ W2,W2=w1.alloc (.cells #[.bool x.dir,.string Y,.int .i64 x.mode,.int .i64 x.time] 94):=⟨_,rfl⟩;have q2:W2.heap[w.heap.size]? = some (.cells #[.bool false,.string ⟨#[]⟩,.int .i64 0,.int .i64 0] 94 (0,0)):=by rw [hW2];exact (Below.heap_alloc w1 _ _ (by omega)).trans q1
    obtain ⟨c0,c1,c2,c3,f0,f1,f2,f3⟩:=four q2;obtain ⟨m0,m1,m2,m3,_,_,_,_⟩:=four (show W2.heap[w1.heap.size]? = some (.cells #[.bool x.dir,.string Y,.int .i64 x.mode,.int .i64 x.time] 94 (0,0)) by rw [hW2];exact heap_alloc_new _ _);have HB2:Hid (Below w.heap.size w W2):=hidI (by rw [hW2];exact HB1.out.alloc (by omega) _);have HW2:=hidI hW2;have HY:=hidI hY;clear hb1 q1 q2 hW2 HR HL Q0 hY;go_wp2_with (rw [←HW2.out]);have hb:=qcF HB2.out (Nat.le_refl _) (.bool x.dir) (.string Y) (.int .i64 x.mode) (.int .i64 x.time);refine bodyPost_ret (v:=.tuple #[.agg #[.bool x.dir,.string Y,.int .i64 x.mode,.int .i64 x.time],.int .i64 0]) ?_ rfl ⟨hb,by rw [HY.out];rfl⟩;simp [results,go_sem,c0,c1,c2,c3]
 have hfe:findE l p=reachE l p:=by unfold findE;rw [if_neg hr]
 have hfn:findN l p=ndN:=by unfold findN;rw [hfe,if_neg hr]
 rw [hfe,hfn];obtain ⟨E,hE⟩:∃ E,E=reachE l p:=⟨_,rfl⟩;rw [←hE] at HR hr ⊢;rw [←hX] at HR ⊢;clear hfe hfn hX hE;go_enter Tryz.func56,Tryz.ntmps56
 go_wp2_with (first | (rw [←HW0.out]) | fail);refine HR.out.mono ?_;rintro e w1 ⟨hb1,rfl⟩;have q1:=(hb1.block w.heap.size (by omega)).trans Q0.out;obtain ⟨c0,c1,c2,c3,f0,f1,f2,f3⟩:=four q1;have HB1:=hidI (HB0.out.trans (hb1.mono (by omega)));have hs1:=hb1.size;clear hb1 q1 HR Q0;go_wp2;have hb:=qcF HB1.out (Nat.le_refl _) (.bool false) (.string ⟨#[]⟩) (.int .i64 0) (.int .i64 0);refine bodyPost_ret (v:=.tuple #[.agg #[.bool false,.string ⟨#[]⟩,.int .i64 0,.int .i64 0],.int .i64 E]) ?_ rfl ⟨hb,rfl⟩;simp [results,go_sem,c0,c1,c2,c3]
end Go.Proofs.YtodmdkhdbfbfgabGreatDoor
