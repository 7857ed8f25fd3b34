/- Lemmas. -/
import Derived.Maps.RangeWalk
import Derived.Ground.Names2Prog
import Derived.Ground.SlgnProg
import Derived.Shelf.Strings.BuilderK
import Derived.Test.YtodmdkhdbfbfgaaGreatDoorM11
set_option linter.unusedVariables false
set_option linter.unusedSimpArgs false
set_option maxRecDepth 100000
set_option maxHeartbeats 8000000
namespace Go.Proofs.YtodmdkhdbfbfgaaGreatDoor.S1
open Go.RowKit Pk
open Go.Nt (Fp lookF hasL hasL_iff FpOk qaq)
theorem qkq (g n b r:Nat) (S:Nat→Nat→Bool) (w:World) (h:LbAt w g n S) (hb:b≤1000000) (hr:r≤4294967295) (hn:n≤1000000) :
 Calls Tryz.prog 135 #[.map (some g),lv b r] w fun e w'=>e=.returned (.tuple #[])∧LbAt w' g (n+1) (fun x y=>(x==b&&y==r)||S x y)∧Fm (fun k=>k=g) w w':=by
 obtain ⟨W1,hW1⟩:∃ W1,W1=w.alloc (.cells #[.int .i64 (b:Nat),.int .u32 (r:Nat)] 90):=⟨_,rfl⟩;obtain ⟨g3,hg3⟩:∃ g3,g3=w.heap.size:=⟨_,rfl⟩;have hb1:W1.heap[g3]? = some (.cells #[.int .i64 (b:Nat),.int .u32 (r:Nat)] 90 (0,0)):=by rw [hW1,hg3];exact heap_alloc_new _ _
 have h1:LbAt W1 g n S:=h.of_block (by rw [hW1];exact Below.heap_alloc w _ _ h.lt);have hF1:Fm (fun k=>k=g) w W1:=by rw [hW1];exact (Fm.refl _ w).alloc _
 have c0:W1.cell? ⟨g3,0,none⟩=some (.int .i64 (b:Nat)):=by rw [cell_of_row W1 g3 0 _ 90 (0,0) hb1];rfl
 have c1:W1.cell? ⟨g3,1,none⟩=some (.int .u32 (r:Nat)):=by rw [cell_of_row W1 g3 1 _ 90 (0,0) hb1];rfl
 obtain ⟨V,hu,hS,hm⟩:=h1.store hb hr hn;unfold lv at hu ⊢;have HS:=hidI hS;have HF:=hidI (hF1.map (fun _=>rfl) hm);have HW1:=hidI hW1;have Hg3:=hidI hg3;clear h h1 hb1 hW1 hS hm hF1 hg3;go_enter Tryz.func135,Tryz.ntmps135
 go_wp2_with (first | (rw [←HW1.out,←Hg3.out]) | fail);go_end0
 exact ⟨rfl,HS.out,HF.out⟩
theorem qj7 (g n b r:Nat) (S:Nat→Nat→Bool) (w:World) (h:LbAt w g n S) (hb:b≤1000000) (hr:r≤4294967295) :
 Calls Tryz.prog 191 #[.map (some g),lv b r] w fun e w'=>e=.returned (.bool (S b r))∧Below w.heap.size w w':=by
 obtain ⟨W1,hW1⟩:∃ W1,W1=w.alloc (.cells #[.int .i64 (b:Nat),.int .u32 (r:Nat)] 90):=⟨_,rfl⟩;obtain ⟨g3,hg3⟩:∃ g3,g3=w.heap.size:=⟨_,rfl⟩;have hb1:W1.heap[g3]? = some (.cells #[.int .i64 (b:Nat),.int .u32 (r:Nat)] 90 (0,0)):=by rw [hW1,hg3];exact heap_alloc_new _ _
 have h1:LbAt W1 g n S:=h.of_block (by rw [hW1];exact Below.heap_alloc w _ _ h.lt);have c0:W1.cell? ⟨g3,0,none⟩=some (.int .i64 (b:Nat)):=by rw [cell_of_row W1 g3 0 _ 90 (0,0) hb1];rfl
 have c1:W1.cell? ⟨g3,1,none⟩=some (.int .u32 (r:Nat)):=by rw [cell_of_row W1 g3 1 _ 90 (0,0) hb1];rfl
 have hbl:Below w.heap.size w W1:=by rw [hW1];exact (Below.refl _ w).alloc (Nat.le_refl _) _
 have hl:=h1.look hb hr;obtain ⟨z,hz⟩:∃ z,z=S b r:=⟨_,rfl⟩;rw [←hz] at hl ⊢;unfold lv at hl ⊢;have HB:=hidI hbl;have HW1:=hidI hW1;have Hg3:=hidI hg3;clear h h1 hb1 hW1 hbl hg3 hz;go_enter Tryz.func191,Tryz.ntmps191
 go_wp2_with (first | (rw [←HW1.out,←Hg3.out]) | fail);go_ret
 exact ⟨rfl,HB.out.alloc HB.out.size _⟩
theorem qmI (w:World):(Instr.makeMap 130 none).run Tryz.prog w=.ok (.map (some w.heap.size)) (w.alloc (.map #[] 0)):=by
 simp [Instr.makeMap,Result.andThen]
def qjN (l:List Fp) (w:World) (e:Ending) (w':World):Prop:=
 e=.returned (.map (some w.heap.size))∧LbAt w' w.heap.size 100000 (hasL l)∧Below w.heap.size w w'
theorem qdY (w:World) (g n:Nat) (l:List Fp) (hF:FAt w g n (lookF l)) (hn:n≤100000) (hok:∀ f∈l,FpOk f) :
 Calls Tryz.prog 81 #[.map (some g)] w fun e w'=>qjN l w e w':=by
 obtain ⟨D,ho,hh,hk⟩:=hF;have hgl:=ho.lt;have hsz:Maps.size D≤100000:=Nat.le_trans ho.size_le hn;obtain ⟨W0,hW0⟩:∃ W0,W0=w.alloc (.map #[] 0):=⟨_,rfl⟩;have hbW:Below w.heap.size w W0:=by rw [hW0];exact (Below.refl _ w).alloc (Nat.le_refl _) _
 have hL0:LbAt W0 w.heap.size 0 (fun _ _=>false):=by rw [hW0];exact qmG w
 have hmk:=qmI w;rw [←hW0] at hmk;have ho0:W0.ownsMap Tryz.prog 189 fpOf g n D:=by
  obtain ⟨es,clock,h1,h2⟩:=ho;exact ⟨es,clock,(hbW.block g hgl).trans h1,h2⟩
 obtain ⟨lb,hlb⟩:∃ lb,lb=w.heap.size:=⟨_,rfl⟩;unfold qjN;rw [←hlb] at hL0 hmk hbW hgl ⊢;have Ho0:=hidI ho0;have HL0:=hidI hL0;have HB0:=hidI hbW;have Hh:=hidI hh;have Hk:=hidI hk;have Hok:=hidI hok;have hs0:lb<W0.heap.size:=hL0.lt;clear ho hh hk hW0 hbW hL0 ho0 hlb hok;go_enter Tryz.func81,Tryz.ntmps81
 go_wp2_with (first | (at_range;refine wpList_range_own _ rfl _ 135 rfl 189 187 law189 Tryz.underlying135 _ g _ D rfl Ho0.out ?_;intro w0 hrg0 hg0 hs0') | go_in)
 go_frame
 have Hb0:Hid (Below lb w w0):=hidI (HB0.out.grown hg0 (by omega) (fun q hq=>by cases hq));have HL1:Hid (LbAt w0 lb 0 (fun _ _=>false)):=hidI (HL0.out.of_block (hg0.block lb hs0 (fun e=>by cases e)));have Hrg0:=hidI hrg0;have hsz0:=hs0';obtain ⟨r,hr⟩:∃ r,r=W0.heap.size:=⟨_,rfl⟩;rw [←hr] at Hrg0 hs0 hsz0 ⊢;clear hrg0 hg0 Ho0 HL0 HB0 hmk hs0' hr
 go_loopw [4] (fun _ wx=>∃ (left:Lit→Bool) (cnt k:Nat) (S:Nat→Nat→Bool),wx.ranges Tryz.prog 189 fpOf g r n D left cnt∧k+cnt≤Maps.size D∧Hid (∀ b n,S b n=true→hasL l b n=true)∧Hid (∀ b n a,b≤1000000→n≤4294967295→a≤1000000→(lookF l b n a).isSome=true→left (pk b n a)=false→S b n=true)∧Hid (LbAt wx lb k S)∧Hid (Below lb w wx))
  (fun _ wx=>wx.rangeLeft g r)
 case atStart=>exact ⟨_,_,0,_,Hrg0.out,by omega,hidI (fun b n h=>by cases h),hidI (fun b n a h1 h2 h3 h4 h5=>by rw [(Hh.out b n a h1 h2 h3).1,h4] at h5;cases h5),HL1,Hb0⟩
 case round =>
  clear Hrg0 Hb0 HL1;obtain ⟨left,cnt,k,S,hrg,hkc,H1,H2,HL,HB⟩:=hrel;go_wp2_with (first | (at_next;refine wpList_next_ranges _ rfl _ rfl 189 law189 fpOf id id (fun key kl hk=>⟨key,rfl⟩) (fun v _ _=>⟨v,rfl⟩) g r _ _ _ _ rfl hrg ?_ ?_) | go_in)
  ·intro _ hl0;have HS:Hid (∀ b n,S b n=hasL l b n):=hidI (fun b n=>by
    cases hs:S b n with
    | true=>exact (H1.out b n hs).symm
    | false =>
      cases hh:hasL l b n with
      | false=>rfl
      | true =>
        obtain ⟨f,hf,rfl,rfl⟩:=hasL_iff.1 hh;have ok:=Hok.out f hf;have hx:(lookF l f.bad f.num f.at_).isSome=true:=by
         cases hl:lookF l f.bad f.num f.at_ with
         | some _=>rfl
         | none=>exact absurd ⟨rfl,rfl,rfl⟩ (Go.Nt.lookF_none.1 hl f hf)
        have:=H2.out f.bad f.num f.at_ (by have:=ok.b;omega) (by have:=ok.n;omega) (by have:=ok.a;have:=ok.o;omega) hx (hl0 _)
        rw [hs] at this;cases this)
   clear hrg H1 H2;go_wp2;go_ret
   exact ⟨rfl,(HL.out.congr HS.out).mono (by omega),HB.out⟩
  intro x cv kl yd yp w2 cnt2 hkey hlk hv hat hrg2 hlt2 hg2 hs2 hen;have hhas:Maps.has D kl=true:=Maps.has_true_of_atKey hat;obtain ⟨b,rr,a,hb,hrr,ha,rfl⟩:=Hk.out kl hhas;have hx:x=pv b rr a:=law189.inj (hkey.trans rfl) (key189 hb hrr ha);subst hx;have his:(lookF l b rr a).isSome=true:=by rw [←(Hh.out b rr a hb hrr ha).1];exact hhas
  have hlab:hasL l b rr=true:=by
   obtain ⟨f,hf⟩:=Option.isSome_iff_exists.1 his
   have:=qaq hf
   exact hasL_iff.2 ⟨f,this.1,this.2.1,this.2.2.1⟩
  have HB2:Hid (Below lb w w2):=hidI (HB.out.grown hg2 (Nat.le_of_lt HL.out.lt) (fun q hq=>by cases hq;omega));have HL2:Hid (LbAt w2 lb k S):=hidI (HL.out.of_block (hg2.block lb HL.out.lt (fun e=>by cases e;omega)));have Hrg2:=hidI hrg2;have Hrg:=hidI hrg;have Hlab:=hidI hlab;have hrsz:r<w2.heap.size:=by rw [hs2];exact hrg.lt
  clear hat hv hkey hlk hg2 hs2 hrg2 hrg hhas his hlab HB HL
  try simp only [id] at hen
  unfold pv at hen
  try simp only [id]
  unfold pv;obtain ⟨W3,hW3⟩:∃ W3,W3=w2.alloc (.cells #[.int .i64 (b:Nat),.int .u32 (rr:Nat),.int .i64 (a:Nat)] 189):=⟨_,rfl⟩;obtain ⟨kb,hkb⟩:∃ kb,kb=w2.heap.size:=⟨_,rfl⟩;have hr3:W3.heap[kb]? = some (.cells #[.int .i64 (b:Nat),.int .u32 (rr:Nat),.int .i64 (a:Nat)] 189 (0,0)):=by rw [hW3,hkb];exact heap_alloc_new _ _
  have hb3:Below w2.heap.size w2 W3:=by rw [hW3];exact (Below.refl _ w2).alloc (Nat.le_refl _) _
  have c0:W3.cell? ⟨kb,0,none⟩=some (.int .i64 (b:Nat)):=by rw [cell_of_row W3 kb 0 _ 189 (0,0) hr3];rfl
  have c1:W3.cell? ⟨kb,1,none⟩=some (.int .u32 (rr:Nat)):=by rw [cell_of_row W3 kb 1 _ 189 (0,0) hr3];rfl
  have HL3:=hidI (HL2.out.of_block (hb3.block lb HL2.out.lt));have HB3:=hidI (HB2.out.trans (hb3.mono (by have:=HB2.out.size;have h9:=HL2.out.lt;omega)));have Hrg3:Hid (W3.ranges Tryz.prog 189 fpOf g r n D (fun z=>left z && !z.sameKey (pk b rr a)) cnt2):=hidI (by rw [hW3];exact Hrg2.out.alloc _);have A:=hidI (qkq lb k b rr S W3 HL3.out hb hrr (by omega));unfold lv at A;have HW3:=hidI hW3;have Hkb:=hidI hkb;clear hW3 hkb hr3 hb3 HL2 HB2 Hrg2;go_wp2_with (first | (rw [←HW3.out,←Hkb.out]) | fail);refine A.out.mono ?_;rintro e W4 ⟨rfl,hL4,hF4⟩;have hr4:W4.ranges Tryz.prog 189 fpOf g r n D (fun z=>left z && !z.sameKey (pk b rr a)) cnt2:=Hrg3.out.kept (row:=some lb) ⟨hF4.os,hF4.tape,hF4.output,hF4.size,fun j hj hne=>hF4.block j hj (fun e=>hne (by rw [e]))⟩ (by intro e;cases e;omega) (by intro e;cases e;omega)
  have HB4:=hidI (HB3.out.trans (hF4.below (B:=lb) (fun k hk=>Nat.le_of_eq hk.symm) (Nat.le_of_lt HL3.out.lt)));have HL4:=hidI hL4;have Hr4:=hidI hr4;clear hL4 hF4 hr4 A HL3 HB3 Hrg3;go_wp2_with fail;go_roundw
  case rel =>
   refine ⟨_,cnt2,k+1,_,Hr4.out,by omega,hidI (fun x y h => ?_),hidI (fun x y z h1 h2 h3 h4 h5 => ?_),HL4,HB4⟩
   ·simp only [Bool.or_eq_true,Bool.and_eq_true,beq_iff_eq] at h;rcases h with ⟨rfl,rfl⟩ | h
    ·exact Hlab.out
    exact H1.out x y h
   by_cases e:x=b∧y=rr
   ·obtain ⟨rfl,rfl⟩:=e;simp
   have hs:Lit.sameKey (pk x y z) (pk b rr a)=false:=Maps.sameKey_ne (fun h=>e (by have:=qme h1 h2 h3 hb hrr ha h;exact ⟨this.1,this.2.1⟩));rw [hs] at h5
   have:=H2.out x y z h1 h2 h3 h4 (by simpa using h5)
   simp [this]
  rw [Hr4.out.left_eq,Hrg.out.left_eq];exact hlt2
end Go.Proofs.YtodmdkhdbfbfgaaGreatDoor.S1
namespace Go.Proofs
open Go.Shelf
def Tryz.lays169_ren:Go.Shelf.Ren:=⟨fun | 169=>137 | n=>n,fun | 70=>191 | 9=>9 | 0=>0 | 72=>193 | 37=>111 | 127=>242 | 3=>3 | 5=>5 | n=>n,fun | n=>n⟩
theorem Tryz.lays169:Go.Proofs.Lays.n169 Tryz.prog Tryz.lays169_ren:={
 mixed:=by kernel_rfl
 f169:=Tryz.func137.trans (congrArg some (by kernel_rfl))
 t0:=Tryz.underlying0
 a0:=Tryz.isAgg0
 z0:=Tryz.sizeOf0
 v0:=Tryz.zeroValue0
 t3:=Tryz.underlying3
 a3:=Tryz.isAgg3
 z3:=Tryz.sizeOf3
 v3:=Tryz.zeroValue3
 t9:=Tryz.underlying9
 a9:=Tryz.isAgg9
 z9:=Tryz.sizeOf9
 v9:=Tryz.zeroValue9
 t37:=Tryz.underlying111
 a37:=Tryz.isAgg111
 z37:=Tryz.sizeOf111
 v37:=Tryz.zeroValue111
 t70:=Tryz.underlying191
 a70:=Tryz.isAgg191
 z70:=Tryz.sizeOf191
 v70:=Tryz.zeroValue191
 t72:=Tryz.underlying193
 a72:=Tryz.isAgg193
 z72:=Tryz.sizeOf193
 v72:=Tryz.zeroValue193
 t127:=Tryz.underlying242
 a127:=Tryz.isAgg242
 z127:=Tryz.sizeOf242
 v127:=Tryz.zeroValue242 }
theorem Tryz.Builder_Extra_169:Builder.Extra Tryz.prog Tryz.lays169_ren:={
 sizeBuilder:=by kernel_rfl
 liesBuilder:=by kernel_rfl
 t5:=Tryz.underlying5
 a5:=Tryz.isAgg5
 z5:=Tryz.sizeOf5
 v5:=Tryz.zeroValue5
 infoByte:=by kernel_rfl
 cellsByte:=by kernel_rfl
 sizeByte:=by kernel_rfl
 neB5:=by decide }
open Go.RowKit in
theorem Tryz.Builder_String_any_k (B b:Nat) (l:List UInt8) (w:World) (h:Lib.IsBuilderF 193 5 B b (Lib.byteCells l) w) (hBw:B≤w.heap.size) :
 Calls Tryz.prog 137 #[.pointer (some ⟨b,0,none⟩)] w fun e w'=>e=.returned (.string ⟨l.toArray⟩)∧(Lib.IsBuilderF 193 5 B b (Lib.byteCells l) w'∧Below B w w'∧Lib.OthersKept 5 (some b) w w'):=Any.Builder_String_any_k Tryz.lays169 Tryz.Builder_Extra_169 B b l w h hBw
end Go.Proofs
namespace Go.Proofs.YtodmdkhdbfbfgaaGreatDoor
open Go.RowKit Go.Nt
theorem sizeB:(Tryz.prog.info? 193).map (·.size)=some 2:=by kernel_rfl
theorem liesB:liesAt Tryz.prog Tryz.prog.depth 193 (2/Tryz.prog.cellsOf 193) 0 193 1=true:=by kernel_rfl
theorem qcI (b:Nat) (w:World) (h0:w.cell? ⟨b,0,none⟩=some (.pointer none)) (hf:w.frozen? ⟨b,0,none⟩=false) (hsh:w.shape? b=some (193,2)) :
 Calls Tryz.prog 199 #[.pointer (some ⟨b,0,none⟩)] w fun e w'=>e=.returned (.tuple #[])∧w'=w.setCell ⟨b,0,none⟩ (.pointer (some ⟨b,0,none⟩)):=by
 obtain ⟨j,hj,hjs⟩:=Option.map_eq_some_iff.1 sizeB;have k1:=Lib.run_to_unsafe (P:=Tryz.prog) w ⟨b,0,none⟩ Tryz.underlying191 Tryz.underlying285 hj (by rw [hjs];decide) hsh (Nat.zero_lt_succ 1);have k2:=Lib.run_from_unsafe (P:=Tryz.prog) w ⟨b,0,none⟩ Tryz.underlying285 Tryz.underlying191 hj hsh liesB;clear hj hjs;go_enter Tryz.func199,Tryz.ntmps199
 go_wp2;rw [run_callFunc_extern Tryz.func251 (by kernel_rfl) (by kernel_rfl) (by kernel_rfl) (e:=Extern.AbiNoEscape.same) (by kernel_rfl)];rw [Lib.run_noEscape];simp only [Result.andThen];rw [Oper.upon_value];go_wp2;go_end0
 exact ⟨rfl,rfl⟩
theorem qdE (b:Nat) (w:World) (h0:w.cell? ⟨b,0,none⟩=some (.pointer (some ⟨b,0,none⟩))) :
 Calls Tryz.prog 199 #[.pointer (some ⟨b,0,none⟩)] w fun e w'=>e=.returned (.tuple #[])∧w'=w:=by
 obtain ⟨j,hj,hjs⟩:=Option.map_eq_some_iff.1 sizeB;have k1:=Lib.run_neq_ptr_same (P:=Tryz.prog) w ⟨b,0,none⟩ Tryz.underlying191 hj;clear hj hjs;go_enter Tryz.func199,Tryz.ntmps199
 go_wp2;go_end0
 exact ⟨rfl,rfl⟩
def BdAt (w:World) (b:Nat) (l:Bs):Prop:=∃ p v,w.heap[b]? = some (.cells #[p,v] 193 (0,0))∧(p=.pointer none∨p=.pointer (some ⟨b,0,none⟩))∧Bytes w (b+1) v l
theorem BdAt.lib {w:World} {b:Nat} {l:Bs} (h:BdAt w b l):Lib.IsBuilderF 193 5 b b (Lib.byteCells l) w:=by
 obtain ⟨p,v,hb,hp,hv⟩:=h;have hown:w.ownsRow b 5 1 v (bv l).length (bv l):=by
  have h1:=hv;unfold Bytes at h1;rw [qaS];refine ⟨h1.1,?_⟩;rcases h1.2 with h2 | ⟨g,cap,cur,e,hg,h3⟩
  ·exact .inl h2
  exact .inr ⟨g,cap,cur,e,by omega,h3⟩
 have hne:v.ownBlock≠some b:=by
  intro e
  have:=(World.ownsRow.lt hv b e).1
  omega
 have hB:Lib.byteCells l=bv l:=rfl;rw [hB];rcases hp with rfl | rfl
 ·exact .inl ⟨Nat.le_refl _,v,hb,World.ownsRowF_of hown,hne⟩
 exact .inr ⟨Nat.le_refl _,v,hb,World.ownsRowF_of hown,hne⟩
theorem BdAt.of_blocks {w w':World} {b:Nat} {l:Bs} (h:BdAt w b l) (hk:But 90 w w'∨∀ k,k<w.heap.size→w'.heap[k]? = w.heap[k]?):BdAt w' b l:=by
 obtain ⟨p,v,hb,hp,hv⟩:=h;rcases hk with hk | hk
 ·refine ⟨p,v,hk.cells hb (by decide),hp,hv.1,?_⟩;rcases hv.2 with h2 | ⟨g,cap,cur,e,hg,h3,h4⟩
  ·exact .inl h2
  exact .inr ⟨g,cap,cur,e,hg,hk.cells h3 (by decide),h4⟩
 refine ⟨p,v,(hk b (lt_of_heap hb)).trans hb,hp,hv.1,?_⟩;rcases hv.2 with h2 | ⟨g,cap,cur,e,hg,h3,h4⟩
 ·exact .inl h2
 exact .inr ⟨g,cap,cur,e,hg,(hk g (lt_of_heap h3)).trans h3,h4⟩
def BdKept (b:Nat) (w w':World):Prop:=w'.os=w.os∧w'.tape=w.tape∧w'.output=w.output∧w.heap.size≤w'.heap.size∧∀ (k:Nat) (o:Obj),w.heap[k]? = some o→k≠b→isOf 5 o=false→w'.heap[k]? = some o
theorem qde (b:Nat) (l:Bs) (s:Bs) (w:World) (h:BdAt w b l) (hl:l.length≤100000000) (hs:s.length≤100000000) :
 Calls Tryz.prog 136 #[.pointer (some ⟨b,0,none⟩),.string (txt s)] w fun e w'=>(∃ v,e=.returned v)∧BdAt w' b (l++s)∧BdKept b w w'∧Below b w w':=by
 obtain ⟨i0,hi,hz0,hz1,hz2⟩:=info_parts Tryz.info5;obtain ⟨p,v,hb,hp,hv⟩:=h;have hbl:=lt_of_heap hb;obtain ⟨X,hX⟩:∃ X,X=txt s:=⟨_,rfl⟩;have Sx:X.size=s.length:=by rw [hX,qaa]
 rw [←hX];have HX:=hidI hX;have HS:=hidI Sx;have hX9:X.size≤100000000:=by omega
 have A:Hid (Calls Tryz.prog 199 #[.pointer (some ⟨b,0,none⟩)] w fun e w'=>e=.returned (.tuple #[])∧w'.heap[b]? = some (.cells #[.pointer (some ⟨b,0,none⟩),v] 193 (0,0))∧(∀ k,k≠b→w'.heap[k]? = w.heap[k]?)∧w'.heap.size=w.heap.size∧w'.os=w.os∧w'.tape=w.tape∧w'.output=w.output):=by
  refine hidI ?_;rcases hp with rfl | rfl
  ·refine (qcI b w (by rw [cell_of_row w b 0 _ 193 (0,0) hb];rfl) (frozen_of_row w b 0 _ 193 hb) (by simp [World.shape?,hb])).mono ?_;rintro e w' ⟨rfl,rfl⟩;exact ⟨rfl,heap_setCell_same w b 0 _ 193 _ hb,fun k hk=>Below.heap_setCell w ⟨b,0,none⟩ _ k hk,by simp,rfl,rfl,rfl⟩
  refine (qdE b w (by rw [cell_of_row w b 0 _ 193 (0,0) hb];rfl)).mono ?_;rintro e w' ⟨rfl,rfl⟩;exact ⟨rfl,hb,fun _ _=>rfl,rfl,rfl,rfl,rfl⟩
 obtain ⟨n,hn⟩:∃ n,n=l.length:=⟨_,rfl⟩;have Hn:=hidI hn;have Hv:=hidI hv;have hn9:n≤100000000:=by omega
 clear hb hp hv hX Sx hn;go_enter Tryz.func136,Tryz.ntmps136
 go_wp2_with fail;refine A.out.mono ?_;rintro e W1 ⟨rfl,hb1,hk1,hs1,ho1,ht1,hu1⟩;have hv1:W1.ownsRow (b+1) 5 1 v n (bv l):=by
  have h1:=Hv.out;unfold Bytes at h1;rw [←Hn.out] at h1;refine ⟨h1.1,?_⟩;rcases h1.2 with h2 | ⟨g,cap,cur,e,hg,h3,h4⟩
  ·exact .inl h2
  exact .inr ⟨g,cap,cur,e,hg,(hk1 g (by omega)).trans h3,h4⟩
 have c1:W1.cell? ⟨b,1,none⟩=some v:=by rw [cell_of_row W1 b 1 _ 193 (0,0) hb1];rfl
 have Ho:=hidI hv1;have Hb1:=hidI hb1;obtain ⟨a9,c9,rfl⟩:=Bytes.slice (w:=W1) (B:=b+1) (v:=v) (l:=l) (by unfold Bytes;rw [←Hn.out];exact hv1);rw [←Hn.out] at Ho c1 Hb1;have hK1:=hidI (And.intro hk1 (And.intro hs1 (And.intro ho1 (And.intro ht1 hu1))));clear A hk1 hb1 hv1 hs1 ho1 ht1 hu1;go_wp2_with (at_builtin;refine Lib.wpList_append_own_string _ rfl (.tmp 12) (.tmp 13) 111 9 rfl (b+1) 5 i0 Tryz.underlying111 Tryz.underlying9 hi hz0 hz1 hz2 _ _ _ rfl Ho.out X rfl ?c3 ?c4 ?c5 ?_)
 case c3=>unfold maxLen;omega
 case c4=>omega
 case c5=>have:=hK1.out.2.1;omega
 intro v2 W2 hown2 hgrow2 _;have hbl1:b<W1.heap.size:=lt_of_heap Hb1.out;have hne:b≠b+1:=by omega
 have hb2:W2.heap[b]? = some (.cells #[.pointer (some ⟨b,0,none⟩),.slice a9 n c9] 193 (0,0)):=(hgrow2.block b hbl1 (fun e=>by have:=(World.ownsRow.lt Ho.out b e.symm).1;omega)).trans Hb1.out;have hY2:Bytes W2 (b+1) v2 (l++s):=by
  unfold Bytes;have h1:=HX.out;have h2:=Hn.out;have h3:=HS.out;rw [qaI,List.length_append,←h2,←h3,←qfU s,←h1];exact hown2
 obtain ⟨a2,c2,rfl⟩:=hY2.slice;have d1:W2.cell? ⟨b,1,none⟩=some (.slice a9 n c9):=by rw [cell_of_row W2 b 1 _ 193 (0,0) hb2];rfl
 have f1:=frozen_of_row W2 b 1 _ 193 hb2;obtain ⟨ns,hns⟩:∃ ns,ns=(l++s).length:=⟨_,rfl⟩;rw [←hns] at hY2;rw [show (l++s).length=ns from hns.symm] at hown2 ⊢;obtain ⟨W3,hW3⟩:∃ W3,W3=W2.setCell ⟨b,1,none⟩ (.slice a2 ns c2):=⟨_,rfl⟩;have hb3:W3.heap[b]? = some (.cells #[.pointer (some ⟨b,0,none⟩),.slice a2 ns c2] 193 (0,0)):=by rw [hW3];exact heap_setCell_same _ b 1 _ 193 _ hb2
 have eo:∀ k,k≠b→W3.heap[k]? = W2.heap[k]? := fun k hk=>by rw [hW3];exact Below.heap_setCell W2 ⟨b,1,none⟩ _ k hk
 have HB3:Hid (BdAt W3 b (l++s)):=hidI ⟨_,_,hb3,.inr rfl,hY2.1,by
  rcases hY2.2 with h2 | ⟨g,cap,cur,e,hg,h3,h4⟩
  ·exact .inl h2
  exact .inr ⟨g,cap,cur,e,hg,(eo g (by omega)).trans h3,h4⟩⟩
 obtain ⟨q1,q2,q3,q4,q5⟩:=hK1.out;have hsz3:w.heap.size≤W3.heap.size:=by rw [hW3];have:=hgrow2.size;simp;omega
 have HK3:Hid (BdKept b w W3):=hidI ⟨by rw [hW3];exact hgrow2.os.trans q3,by rw [hW3];exact hgrow2.tape.trans q4,by rw [hW3];exact hgrow2.output.trans q5,hsz3,fun k o hk hkb ho=>by
  rw [eo k hkb];have hk1:=(q1 k hkb).trans hk;refine (hgrow2.block k (lt_of_heap hk1) (fun e => ?_)).trans hk1;rcases Ho.out.2 with ⟨hv,_⟩ | ⟨g,cap,cur,hv,_,hh,_⟩
  ·cases hv;cases e
  cases hv
  cases e
  rw [hh] at hk1;cases hk1
  simp [isOf] at ho⟩
 have HL3:Hid (Below b w W3):=hidI ⟨HK3.out.1,HK3.out.2.1,HK3.out.2.2.1,hsz3,fun k hk=>by
  rw [eo k (by omega)];refine (hgrow2.block k (by omega) (fun e => ?_)).trans (q1 k (by omega))
  have:=(World.ownsRow.lt Ho.out k e.symm).1
  omega⟩
 have HW3:=hidI hW3;clear hown2 hgrow2 hY2 hb2 hb3 eo q1 q2 q3 q4 q5 hW3 hsz3 hns;go_wp2_with (first | (rw [←HW3.out]) | fail);go_ret2
 exact ⟨⟨_,rfl⟩,HB3.out,HK3.out,HL3.out⟩
end Go.Proofs.YtodmdkhdbfbfgaaGreatDoor
namespace Go.Proofs.YtodmdkhdbfbfgaaGreatDoor.S1
open Go.RowKit Pk
open Go.Nt (Fp lookF FpOk qaq recF partF ofF txtF inF endF qdJ qcL qgQ qfA)
theorem FAt.keptB {w w':World} {g n b:Nat} {P:Nat→Nat→Nat→Option Fp} (h:FAt w g n P) (hk:BdKept b w w') (hne:g≠b):FAt w' g n P:=by
 obtain ⟨D,⟨es,clock,h1,h2⟩,hh⟩:=h;exact ⟨D,⟨es,clock,hk.2.2.2.2 g _ h1 hne rfl,h2⟩,hh⟩
theorem BlAt.keptB {w w':World} {g n b:Nat} {S:Nat→Bool} (h:BlAt w g n S) (hk:BdKept b w w') (hne:g≠b):BlAt w' g n S:=by
 obtain ⟨D,⟨es,clock,h1,h2⟩,hh⟩:=h;exact ⟨D,⟨es,clock,hk.2.2.2.2 g _ h1 hne rfl,h2⟩,hh⟩
theorem fld1 (W:World) (a b c d e f:Value):(Instr.field 187 (.agg #[a,b,c,d,e,f]) 0).run Tryz.prog W=.ok (.agg #[a,b,c,d,e]) W:=by
 simp [Instr.field,run_underlying Tryz.underlying187,asAgg,go_sem]
theorem fld2 (W:World) (a b c d e:Value):(Instr.field 182 (.agg #[a,b,c,d,e]) 2).run Tryz.prog W=.ok d W:=by
 simp [Instr.field,run_underlying Tryz.underlying182,asAgg,go_sem]
def RcAt (w:World) (rb ib:Nat) (X:ByteArray) (b r e:Nat):Prop:=w.heap[rb]? = some (.cells #[.string X,.int .i64 (b:Nat),.int .u32 (r:Nat),.map (some ib),.int .i64 (e:Nat)] 94 (0,0))
def RecP (l:List Fp) (b r:Nat) (w:World) (e:Ending) (w':World):Prop:=
 Below w.heap.size w w' ∧
 ((∃ ps ib n,recF l b r=some ps∧e=.returned (.tuple #[.agg #[.string (txt (txtF ps)),.int .i64 (b:Nat),.int .u32 (r:Nat),.map (some ib),.int .i64 (endF ps:Nat)],.bool true])∧w.heap.size≤ib∧n≤100000∧BlAt w' ib n (inF ps)) ∨
  (recF l b r=none∧∃ X y z q k,e=.returned (.tuple #[.agg #[.string X,.int .i64 y,.int .u32 z,.map q,.int .i64 k],.bool false])))
theorem qhz (w:World) (g n:Nat) (l:List Fp) (b r:Nat) (hF:FAt w g n (lookF l)) (hok:∀ f∈l,FpOk f∧f.blk<1000) (hb:b≤1000000) (hr:r≤4294967295) :
 Calls Tryz.prog 82 #[.map (some g),lv b r] w fun e w'=>RecP l b r w e w':=by
 have hgl:=hF.lt;obtain ⟨z0,hz0⟩:∃ z0,z0=w.heap.size:=⟨_,rfl⟩
 -- the blocks that are laid ahead of the loop
 obtain ⟨W1,hW1⟩:∃ W1,W1=w.alloc (.cells #[.int .i64 (b:Nat),.int .u32 (r:Nat)] 90):=⟨_,rfl⟩;obtain ⟨W2,hW2⟩:∃ W2,W2=W1.alloc (.cells #[.string ⟨#[]⟩,.int .i64 0,.int .u32 0,.map none,.int .i64 0] 94):=⟨_,rfl⟩;obtain ⟨W3,hW3⟩:∃ W3,W3=W2.alloc (.map #[] 0):=⟨_,rfl⟩;obtain ⟨W4,hW4⟩:∃ W4,W4=W3.alloc (.cells #[.string ⟨#[]⟩,.int .i64 (b:Nat),.int .u32 (r:Nat),.map (some (z0+2)),.int .i64 0] 94):=⟨_,rfl⟩;obtain ⟨W5,hW5⟩:∃ W5,W5=W4.alloc (.cells #[.pointer none,.slice none 0 0] 193):=⟨_,rfl⟩;have s1:W1.heap.size=z0+1:=by rw [hW1,hz0];simp
 have s2:W2.heap.size=z0+2:=by rw [hW2];simp [s1]
 have s3:W3.heap.size=z0+3:=by rw [hW3];simp [s2]
 have s4:W4.heap.size=z0+4:=by rw [hW4];simp [s3]
 have s5:W5.heap.size=z0+5:=by rw [hW5];simp [s4]
 have b1:Below w.heap.size w W1:=by rw [hW1];exact (Below.refl _ w).alloc (Nat.le_refl _) _
 have b5:Below w.heap.size w W5:=by rw [hW5,hW4,hW3,hW2];exact (((b1.alloc (by omega) _).alloc (by simp<;>omega) _).alloc (by simp<;>omega) _).alloc (by simp<;>omega) _
 have e1:W1.heap[z0]? = some (.cells #[.int .i64 (b:Nat),.int .u32 (r:Nat)] 90 (0,0)):=by rw [hW1,hz0];exact heap_alloc_new _ _
 have up2:∀ k,k<z0+1→W2.heap[k]? = W1.heap[k]? := fun k hk=>by rw [hW2];exact Below.heap_alloc W1 _ k (by omega)
 have up3:∀ k,k<z0+2→W3.heap[k]? = W2.heap[k]? := fun k hk=>by rw [hW3];exact Below.heap_alloc W2 _ k (by omega)
 have up4:∀ k,k<z0+3→W4.heap[k]? = W3.heap[k]? := fun k hk=>by rw [hW4];exact Below.heap_alloc W3 _ k (by omega)
 have up5:∀ k,k<z0+4→W5.heap[k]? = W4.heap[k]? := fun k hk=>by rw [hW5];exact Below.heap_alloc W4 _ k (by omega)
 have f1:W5.heap[z0]? = some (.cells #[.int .i64 (b:Nat),.int .u32 (r:Nat)] 90 (0,0)):=by rw [up5 z0 (by omega),up4 z0 (by omega),up3 z0 (by omega),up2 z0 (by omega)];exact e1
 have f2:W5.heap[z0+1]? = some (.cells #[.string ⟨#[]⟩,.int .i64 0,.int .u32 0,.map none,.int .i64 0] 94 (0,0)):=by rw [up5 _ (by omega),up4 _ (by omega),up3 _ (by omega),hW2,←s1];exact heap_alloc_new _ _
 have f3:BlAt W5 (z0+2) 0 (fun _=>false):=by
  have h3:=qgk W2;rw [←hW3,s2] at h3;exact (h3.of_block (up4 _ (by omega))).of_block (up5 _ (by omega))
 have f4:RcAt W5 (z0+3) (z0+2) ⟨#[]⟩ b r 0:=by
  unfold RcAt;rw [up5 _ (by omega),hW4,←s3];exact heap_alloc_new _ _
 have f5:BdAt W5 (z0+4) []:=⟨.pointer none,.slice none 0 0,by rw [hW5,←s4];exact heap_alloc_new _ _,.inl rfl,World.ownsRow_nil _ _ _ _⟩;have f6:FAt W5 g n (lookF l):=hF.of_block (b5.block g hgl);have g10:W2.cell? ⟨z0,0,none⟩=some (.int .i64 (b:Nat)):=by rw [World.cell?_of_block (up2 z0 (by omega)),cell_of_row W1 z0 0 _ 90 (0,0) e1];rfl
 have g11:W2.cell? ⟨z0,1,none⟩=some (.int .u32 (r:Nat)):=by rw [World.cell?_of_block (up2 z0 (by omega)),cell_of_row W1 z0 1 _ 90 (0,0) e1];rfl
 have g50:W5.cell? ⟨z0,0,none⟩=some (.int .i64 (b:Nat)):=by rw [cell_of_row W5 z0 0 _ 90 (0,0) f1];rfl
 have g51:W5.cell? ⟨z0,1,none⟩=some (.int .u32 (r:Nat)):=by rw [cell_of_row W5 z0 1 _ 90 (0,0) f1];rfl
 have hmk:=make92 W2;rw [←hW3,s2] at hmk;have hlk0:=(f6.look (a:=0) hb hr (by omega)).2;unfold pv fv at hlk0;rw [show ((0:Nat):Int)=0 from rfl] at hlk0;obtain ⟨o,ho⟩:∃ o,o=ofF l b r:=⟨_,rfl⟩;have hoe:((lookF l b r 0).getD fp0).of_=o:=by rw [ho];unfold ofF;cases lookF l b r 0<;>rfl
 have ho9:o<65536:=by
  rw [ho];unfold ofF;cases hx:lookF l b r 0 with
  | none=>show 0<65536;decide
  | some f=>exact (hok f (qaq hx).1).1.o
 obtain ⟨q0,hq0⟩:∃ q0,q0=(lookF l b r 0).getD fp0:=⟨_,rfl⟩;rw [←hq0] at hlk0 hoe;rw [hoe] at hlk0;have Ho:=hidI ho;have HW1:=hidI hW1;have HW2:=hidI hW2;have HW3:=hidI hW3;have HW4:=hidI hW4;have HW5:=hidI hW5;have Hs1:=hidI s1;have Hs2:=hidI s2;have Hs3:=hidI s3;have Hs4:=hidI s4;have Hz0:=hidI hz0;have F1:=hidI f1;have F2:=hidI f2;have F3:=hidI f3;have F4:=hidI f4;have F5:=hidI f5;have F6:=hidI f6;rw [hz0.symm] at b5;have B5:=hidI b5;have Hok:=hidI hok;unfold RecP;rw [←hz0];rw [←hz0] at hgl;clear hF hz0 hW1 hW2 hW3 hW4 hW5 s1 s2 s3 s4 s5 b1 b5 e1 up2 up3 up4 up5 f1 f2 f3 f4 f5 f6 ho hq0 hok hoe;unfold lv;have hfl1:=fld1 W5 (.int .i64 (q0.bad:Nat)) (.int .u32 (q0.num:Nat)) (.int .i64 (q0.at_:Nat)) (.int .i64 (o:Nat)) (.string (txt q0.text)) (.int .i64 (q0.blk:Nat))
 have hfl2:=fld2 W5 (.int .i64 (q0.bad:Nat)) (.int .u32 (q0.num:Nat)) (.int .i64 (q0.at_:Nat)) (.int .i64 (o:Nat)) (.string (txt q0.text));go_enter Tryz.func82,Tryz.ntmps82
 go_wp2_with (first | (rw [←HW1.out,←Hz0.out]) | (rw [←HW2.out,Hs1.out]) | (rw [←HW4.out,Hs3.out]) | (rw [←HW5.out,Hs4.out]) | fail);clear g10 g11 g50 g51 hmk hlk0 hfl1 hfl2
 go_loopw [22] (fun i wr=>∃ (k n':Nat) (ps:List Fp),k≤o∧i=.int .i64 k∧n'≤k∧Hid (partF l b r o k=some ps)∧Hid (wr.heap[z0]? = some (.cells #[.int .i64 (b:Nat),.int .u32 (r:Nat)] 90 (0,0)))∧Hid (wr.heap[z0+1]? = some (.cells #[.string ⟨#[]⟩,.int .i64 0,.int .u32 0,.map none,.int .i64 0] 94 (0,0)))∧Hid (BlAt wr (z0+2) n' (inF ps))∧Hid (RcAt wr (z0+3) (z0+2) ⟨#[]⟩ b r (endF ps))∧Hid (BdAt wr (z0+4) (txtF ps))∧Hid (FAt wr g n (lookF l))∧Hid (Below z0 w wr)∧Hid ((txtF ps).length=k*51)) (fun i _=>o - (intOf i).toNat)
 case atStart=>exact ⟨0,0,[],Nat.zero_le _,rfl,Nat.le_refl _,hidI rfl,F1,F2,F3,F4,F5,F6,B5,hidI rfl⟩
 case round =>
  clear F1 F2 F3 F4 F5 F6 B5;obtain ⟨k,n',ps,hk,rfl,hn',HP,F1,F2,F3,F4,F5,F6,HB,HTl⟩:=hrel;have hz4:z0+4<wr.heap.size:=by obtain ⟨_,_,hb9,_⟩:=F5.out;exact lt_of_heap hb9
  by_cases hlt:k<o
  ·have c0:wr.cell? ⟨z0,0,none⟩=some (.int .i64 (b:Nat)):=by rw [cell_of_row wr z0 0 _ 90 (0,0) F1.out];rfl
   have c1:wr.cell? ⟨z0,1,none⟩=some (.int .u32 (r:Nat)):=by rw [cell_of_row wr z0 1 _ 90 (0,0) F1.out];rfl
   have hlk:=(F6.out.look (a:=k) hb hr (by omega)).1;unfold pv fv at hlk;obtain ⟨q,hq⟩:∃ q,q=(lookF l b r k).getD fp0:=⟨_,rfl⟩;obtain ⟨zz,hzz⟩:∃ zz,zz=(lookF l b r k).isSome:=⟨_,rfl⟩;rw [←hq,←hzz] at hlk;obtain ⟨V1,hV1⟩:∃ V1,V1=wr.alloc (.cells #[.int .i64 (q.bad:Nat),.int .u32 (q.num:Nat),.int .i64 (q.at_:Nat),.int .i64 (q.of_:Nat),.string (txt q.text),.int .i64 (q.blk:Nat)] 187):=⟨_,rfl⟩;obtain ⟨pb,hpb⟩:∃ pb,pb=wr.heap.size:=⟨_,rfl⟩;have hp1:V1.heap[pb]? = some (.cells #[.int .i64 (q.bad:Nat),.int .u32 (q.num:Nat),.int .i64 (q.at_:Nat),.int .i64 (q.of_:Nat),.string (txt q.text),.int .i64 (q.blk:Nat)] 187 (0,0)):=by rw [hV1,hpb];exact heap_alloc_new _ _
   have hbv:Below wr.heap.size wr V1:=by rw [hV1];exact (Below.refl _ wr).alloc (Nat.le_refl _) _
   have hbk:∀ j,j<wr.heap.size→V1.heap[j]? = wr.heap[j]? := fun j hj=>hbv.block j hj
   have p3:V1.cell? ⟨pb,3,none⟩=some (.int .i64 (q.of_:Nat)):=by rw [cell_of_row V1 pb 3 _ 187 (0,0) hp1];rfl
   have p4:V1.cell? ⟨pb,4,none⟩=some (.string (txt q.text)):=by rw [cell_of_row V1 pb 4 _ 187 (0,0) hp1];rfl
   have G1:=hidI ((hbk z0 (by omega)).trans F1.out);have G2:=hidI ((hbk (z0+1) (by omega)).trans F2.out);have G3:=hidI (F3.out.of_block (hbk (z0+2) (by omega)));have G4:Hid (RcAt V1 (z0+3) (z0+2) ⟨#[]⟩ b r (endF ps)):=hidI ((hbk (z0+3) (by omega)).trans F4.out);have G5:=hidI (F5.out.of_blocks (w':=V1) (.inr hbk));have G6:=hidI (F6.out.of_block (hbk g (by have:=F6.out.lt;exact this)));have G7:Hid (Below z0 w V1):=hidI (HB.out.trans (hbv.mono (by omega)));have Hq:=hidI hq;have Hzz:=hidI hzz;have HV1:=hidI hV1;have Hpb:=hidI hpb;have Hp1:=hidI hp1;have hpz:z0+4<pb:=by omega
   clear hq hzz hV1 hpb hp1 hbv hbk F1 F2 F3 F4 F5 F6 HB;by_cases hgood:zz=true∧q.of_=o
   ·obtain ⟨hzt,hqo⟩:=hgood;subst hzt;obtain ⟨f,hf⟩:∃ f,lookF l b r k=some f:=Option.isSome_iff_exists.1 Hzz.out.symm;have hqf:q=f:=by rw [Hq.out,hf];rfl
    subst hqf;have hfok:=Hok.out q (qaq hf).1;have hql:=hfok.1.t;have hblk:=hfok.2;have Hst:Hid (partF l b r o (k+1)=some (ps++[q])):=hidI (by rw [partF,HP.out,hf];simp [hqo]);have A:=hidI (qde (z0+4) (txtF ps) q.text V1 G5.out (by rw [HTl.out];omega) (by omega));rw [show Go.Proofs.YtodmdkhdbfbfgaaGreatDoor.txt q.text=txt q.text from rfl] at A;rw [hqo] at HV1 Hp1 p3 hlk;have Hqo:=hidI hqo;clear hf hqo;go_wp2_with (first | (rw [←HV1.out,←Hpb.out]) | fail);refine A.out.mono ?_;rintro e V2 ⟨⟨rv,rfl⟩,hD2,hK2,hB2⟩;have K2:=hK2.2.2.2.2;have I1:=hidI (K2 z0 _ G1.out (by omega) rfl);have I2:=hidI (K2 (z0+1) _ G2.out (by omega) rfl);have I3:=hidI (G3.out.keptB hK2 (by omega));have I4:Hid (RcAt V2 (z0+3) (z0+2) ⟨#[]⟩ b r (endF ps)):=hidI (K2 (z0+3) _ G4.out (by omega) rfl);have I6:=hidI (G6.out.keptB hK2 (by omega));have Ip:=hidI (K2 pb _ Hp1.out (by omega) rfl)
    have I7:Hid (Below z0 w V2):=hidI (G7.out.trans (hB2.mono (by omega)));have I5:=hidI hD2;have r3:V2.cell? ⟨z0+3,3,none⟩=some (.map (some (z0+2))):=by rw [cell_of_row V2 (z0+3) 3 _ 94 (0,0) I4.out];rfl
    have p5:V2.cell? ⟨pb,5,none⟩=some (.int .i64 (q.blk:Nat)):=by rw [cell_of_row V2 pb 5 _ 187 (0,0) Ip.out];rfl
    have A2:=hidI (qeL (z0+2) n' q.blk (inF ps) V2 I3.out (by omega) (by omega));clear A hD2 hK2 hB2 K2 G1 G2 G3 G4 G5 G6 G7 p3 p4 c0 c1 hlk Hp1;go_wp2_with fail;refine A2.out.mono ?_;rintro e V3 ⟨rfl,hS3,hm3⟩;have ek:∀ j,j<V2.heap.size→j≠z0+2→V3.heap[j]? = V2.heap[j]? := fun j hj hne=>hm3.grown.block j hj (fun e=>by cases e;exact hne rfl)
    have hpl:=lt_of_heap Ip.out;have J1:=hidI ((ek z0 (lt_of_heap I1.out) (by omega)).trans I1.out);have J2:=hidI ((ek (z0+1) (lt_of_heap I2.out) (by omega)).trans I2.out);have J4:Hid (RcAt V3 (z0+3) (z0+2) ⟨#[]⟩ b r (endF ps)):=hidI ((ek (z0+3) (lt_of_heap I4.out) (by omega)).trans I4.out);have J6:=hidI (I6.out.of_block (ek g I6.out.lt (by omega)));have Jp:=hidI ((ek pb hpl (by omega)).trans Ip.out);have J5:Hid (BdAt V3 (z0+4) (txtF ps++q.text)):=hidI (by
     obtain ⟨p9,v9,h91,h92,h93⟩:=I5.out;refine ⟨p9,v9,(ek (z0+4) (lt_of_heap h91) (by omega)).trans h91,h92,h93.1,?_⟩;rcases h93.2 with h94 | ⟨g9,cap,cur,e9,hg9,h95,h96⟩
     ·exact .inl h94
     exact .inr ⟨g9,cap,cur,e9,hg9,(ek g9 (lt_of_heap h95) (by omega)).trans h95,h96⟩)
    have J3:Hid (BlAt V3 (z0+2) (n'+1) (inF (ps++[q]))):=hidI (hS3.congr fun i=>(qgQ ps q i).symm);have J7:Hid (Below z0 w V3):=hidI (I7.out.trans ⟨hm3.grown.os,hm3.grown.tape,hm3.grown.output,hm3.grown.size,fun j hj=>ek j (by omega) (by omega)⟩);have p5':V3.cell? ⟨pb,5,none⟩=some (.int .i64 (q.blk:Nat)):=by rw [cell_of_row V3 pb 5 _ 187 (0,0) Jp.out];rfl
    have r4:V3.cell? ⟨z0+3,4,none⟩=some (.int .i64 (endF ps:Nat)):=by rw [cell_of_row V3 (z0+3) 4 _ 94 (0,0) J4.out];rfl
    have fz4:=frozen_of_row V3 (z0+3) 4 _ 94 J4.out;obtain ⟨V4,hV4⟩:∃ V4,V4=V3.setCell ⟨z0+3,4,none⟩ (.int .i64 (q.blk:Nat)):=⟨_,rfl⟩;have eo:∀ j,j≠z0+3→V4.heap[j]? = V3.heap[j]? := fun j hj=>by rw [hV4];exact Below.heap_setCell V3 ⟨z0+3,4,none⟩ _ j hj
    have L1:=hidI ((eo z0 (by omega)).trans J1.out);have L2:=hidI ((eo (z0+1) (by omega)).trans J2.out);have L3:=hidI (J3.out.of_block (eo (z0+2) (by omega)));have L4:Hid (RcAt V4 (z0+3) (z0+2) ⟨#[]⟩ b r (endF (ps++[q]))):=hidI (by rw [qfA,hV4];exact heap_setCell_same V3 (z0+3) 4 _ 94 _ J4.out);have L5:Hid (BdAt V4 (z0+4) (txtF (ps++[q]))):=hidI (by
     rw [qcL];obtain ⟨p9,v9,h91,h92,h93⟩:=J5.out;refine ⟨p9,v9,(eo (z0+4) (by omega)).trans h91,h92,h93.1,?_⟩;rcases h93.2 with h94 | ⟨g9,cap,cur,e9,hg9,h95,h96⟩
     ·exact .inl h94
     exact .inr ⟨g9,cap,cur,e9,hg9,(eo g9 (by omega)).trans h95,h96⟩)
    have L6:=hidI (J6.out.of_block (eo g (by omega)));have L7:Hid (Below z0 w V4):=hidI (by rw [hV4];exact J7.out.setCell (by simp<;>omega) _);have HT4:Hid ((txtF (ps++[q])).length=(k+1)*51):=hidI (by rw [qcL,List.length_append,HTl.out,hql];omega);have HV4:=hidI hV4;clear A2 hS3 hm3 ek I1 I2 I3 I4 I5 I6 I7 Ip J1 J2 J3 J4 J5 J6 J7 Jp eo hV4 r3 p5;go_wp2_with (first | (rw [←HV4.out]) | fail);go_roundw
    case rel=>exact ⟨k+1,n'+1,ps++[q],by omega,by go_num,by omega,Hst,L1,L2,L3,L4,L5,L6,L7,HT4⟩
    case measure=>simp [intOf];omega
   have HR:Hid (recF l b r=none):=hidI (by
    have h1:partF l b r o (k+1)=none:=by
     rw [partF,HP.out];cases hf:lookF l b r k with
     | none=>rfl
     | some f =>
       have hqf:q=f:=by rw [Hq.out,hf];rfl
       have hz1:zz=true:=by rw [Hzz.out,hf];rfl
       have:f.of_≠o:=fun e=>hgood ⟨hz1,by rw [hqf];exact e⟩
       simp [this]
    unfold recF;rw [←Ho.out]
    split
    ·rfl
    exact qdJ (by omega) h1)
   have q20:V1.cell? ⟨z0+1,0,none⟩=some (.string ⟨#[]⟩):=by rw [cell_of_row V1 (z0+1) 0 _ 94 (0,0) G2.out];rfl
   have q21:V1.cell? ⟨z0+1,1,none⟩=some (.int .i64 0):=by rw [cell_of_row V1 (z0+1) 1 _ 94 (0,0) G2.out];rfl
   have q22:V1.cell? ⟨z0+1,2,none⟩=some (.int .u32 0):=by rw [cell_of_row V1 (z0+1) 2 _ 94 (0,0) G2.out];rfl
   have q23:V1.cell? ⟨z0+1,3,none⟩=some (.map none):=by rw [cell_of_row V1 (z0+1) 3 _ 94 (0,0) G2.out];rfl
   have q24:V1.cell? ⟨z0+1,4,none⟩=some (.int .i64 0):=by rw [cell_of_row V1 (z0+1) 4 _ 94 (0,0) G2.out];rfl
   have y0:=frozen_of_row V1 (z0+1) 0 _ 94 G2.out;have y1:=frozen_of_row V1 (z0+1) 1 _ 94 G2.out;have y2:=frozen_of_row V1 (z0+1) 2 _ 94 G2.out;have y3:=frozen_of_row V1 (z0+1) 3 _ 94 G2.out;have y4:=frozen_of_row V1 (z0+1) 4 _ 94 G2.out;have hfin:∀ (e:Ending) (V:World),Below z0 w V→e=.returned (.tuple #[.agg #[.string ⟨#[]⟩,.int .i64 0,.int .u32 0,.map none,.int .i64 0],.bool false])→(Below z0 w V∧((∃ ps ib n,recF l b r=some ps∧e=.returned (.tuple #[.agg #[.string (txt (txtF ps)),.int .i64 (b:Nat),.int .u32 (r:Nat),.map (some ib),.int .i64 (endF ps:Nat)],.bool true])∧z0≤ib∧n≤100000∧BlAt V ib n (inF ps))∨(recF l b r=none∧∃ X y z q k,e=.returned (.tuple #[.agg #[.string X,.int .i64 y,.int .u32 z,.map q,.int .i64 k],.bool false])))):=fun e V h1 h2=>⟨h1,.inr ⟨HR.out,_,_,_,_,_,h2⟩⟩
   have Hfin:=hidI hfin;clear hfin;cases zz with
   | false =>
     clear hgood;go_wp2_with (first | (rw [←HV1.out,←Hpb.out]) | fail);refine bodyPost_ret (v:=.tuple #[.agg #[.string ⟨#[]⟩,.int .i64 0,.int .u32 0,.map none,.int .i64 0],.bool false]) ?_ rfl (Hfin.out _ _ ?_ rfl)
     ·simp [results,go_sem,q20,q21,q22,q23,q24]
     exact ((((G7.out.setCell (by simp<;>omega) _).setCell (by simp<;>omega) _).setCell (by simp<;>omega) _).setCell (by simp<;>omega) _).setCell (by simp<;>omega) _
   | true =>
     have hqn:¬q.of_=o:=fun e=>hgood ⟨rfl,e⟩
     have hqi:¬(q.of_:Int)=(o:Int):=by omega
     clear hgood;go_wp2_with (first | (rw [←HV1.out,←Hpb.out]) | fail);refine bodyPost_ret (v:=.tuple #[.agg #[.string ⟨#[]⟩,.int .i64 0,.int .u32 0,.map none,.int .i64 0],.bool false]) ?_ rfl (Hfin.out _ _ ?_ rfl)
     ·simp [results,go_sem,q20,q21,q22,q23,q24]
     exact ((((G7.out.setCell (by simp<;>omega) _).setCell (by simp<;>omega) _).setCell (by simp<;>omega) _).setCell (by simp<;>omega) _).setCell (by simp<;>omega) _
  have hko:k=o:=by omega
  subst hko;have A:=hidI (Tryz.Builder_String_any_k (z0+4) (z0+4) (txtF ps) wr F5.out.lib (by omega));rw [show (⟨(txtF ps).toArray⟩:ByteArray)=txt (txtF ps) from rfl] at A;obtain ⟨X,hX⟩:∃ X,X=txt (txtF ps):=⟨_,rfl⟩;rw [←hX] at A;have HX:=hidI hX;clear hX;go_wp2_with fail;refine A.out.mono ?_;rintro e V2 ⟨rfl,_,hB2,_⟩;have I2:=(hB2.block (z0+1) (by omega)).trans F2.out;have I3:=F3.out.of_block (hB2.block (z0+2) (by omega));have I4:RcAt V2 (z0+3) (z0+2) ⟨#[]⟩ b r (endF ps):=(hB2.block (z0+3) (by omega)).trans F4.out;have I7:Below z0 w V2:=HB.out.trans (hB2.mono (by omega));have r0:V2.cell? ⟨z0+3,0,none⟩=some (.string ⟨#[]⟩):=by rw [cell_of_row V2 (z0+3) 0 _ 94 (0,0) I4];rfl
  have fz0:=frozen_of_row V2 (z0+3) 0 _ 94 I4;obtain ⟨V3,hV3⟩:∃ V3,V3=V2.setCell ⟨z0+3,0,none⟩ (.string X):=⟨_,rfl⟩;have eo:∀ j,j≠z0+3→V3.heap[j]? = V2.heap[j]? := fun j hj=>by rw [hV3];exact Below.heap_setCell V2 ⟨z0+3,0,none⟩ _ j hj
  have J4:RcAt V3 (z0+3) (z0+2) X b r (endF ps):=by rw [hV3];exact heap_setCell_same V2 (z0+3) 0 _ 94 _ I4
  have J2:=(eo (z0+1) (by omega)).trans I2;have J3:=I3.of_block (eo (z0+2) (by omega));have J7:Below z0 w V3:=by rw [hV3];exact I7.setCell (by simp<;>omega) _
  obtain ⟨ee,hee⟩:∃ ee,ee=endF ps:=⟨_,rfl⟩;rw [←hee] at J4;have Hee:=hidI hee;have t0:V3.cell? ⟨z0+3,0,none⟩=some (.string X):=by rw [cell_of_row V3 (z0+3) 0 _ 94 (0,0) J4];rfl
  have t1:V3.cell? ⟨z0+3,1,none⟩=some (.int .i64 (b:Nat)):=by rw [cell_of_row V3 (z0+3) 1 _ 94 (0,0) J4];rfl
  have t2:V3.cell? ⟨z0+3,2,none⟩=some (.int .u32 (r:Nat)):=by rw [cell_of_row V3 (z0+3) 2 _ 94 (0,0) J4];rfl
  have t3:V3.cell? ⟨z0+3,3,none⟩=some (.map (some (z0+2))):=by rw [cell_of_row V3 (z0+3) 3 _ 94 (0,0) J4];rfl
  have t4:V3.cell? ⟨z0+3,4,none⟩=some (.int .i64 (ee:Nat)):=by rw [cell_of_row V3 (z0+3) 4 _ 94 (0,0) J4];rfl
  have q20:V3.cell? ⟨z0+1,0,none⟩=some (.string ⟨#[]⟩):=by rw [cell_of_row V3 (z0+1) 0 _ 94 (0,0) J2];rfl
  have q21:V3.cell? ⟨z0+1,1,none⟩=some (.int .i64 0):=by rw [cell_of_row V3 (z0+1) 1 _ 94 (0,0) J2];rfl
  have q22:V3.cell? ⟨z0+1,2,none⟩=some (.int .u32 0):=by rw [cell_of_row V3 (z0+1) 2 _ 94 (0,0) J2];rfl
  have q23:V3.cell? ⟨z0+1,3,none⟩=some (.map none):=by rw [cell_of_row V3 (z0+1) 3 _ 94 (0,0) J2];rfl
  have q24:V3.cell? ⟨z0+1,4,none⟩=some (.int .i64 0):=by rw [cell_of_row V3 (z0+1) 4 _ 94 (0,0) J2];rfl
  have y0:=frozen_of_row V3 (z0+1) 0 _ 94 J2;have y1:=frozen_of_row V3 (z0+1) 1 _ 94 J2;have y2:=frozen_of_row V3 (z0+1) 2 _ 94 J2;have y3:=frozen_of_row V3 (z0+1) 3 _ 94 J2;have y4:=frozen_of_row V3 (z0+1) 4 _ 94 J2;have HJ3:=hidI J3;have HJ7:=hidI J7;have HV3:=hidI hV3;have hps:k=0∨recF l b r=some ps:=by
   rcases Nat.eq_zero_or_pos k with h0 | h0
   ·exact .inl h0
   right
   unfold recF;rw [←Ho.out,if_neg (by omega)];exact HP.out
  have Hps:=hidI hps;have H0:Hid (k=0→recF l b r=none):=hidI (fun h0=>by unfold recF;rw [←Ho.out,if_pos h0]);clear A hB2 I2 I3 I4 I7 eo hV3 J2 J3 J4 J7 hee hps;by_cases hk0:k=0
  ·subst hk0;go_wp2_with (first | (rw [←HV3.out]) | fail);refine bodyPost_ret (v:=.tuple #[.agg #[.string X,.int .i64 (b:Nat),.int .u32 (r:Nat),.map (some (z0+2)),.int .i64 (ee:Nat)],.bool false]) ?_ rfl ⟨?_,.inr ⟨H0.out trivial,_,_,_,_,_,rfl⟩⟩
   ·simp [results,go_sem,q20,q21,q22,q23,q24]
   exact ((((HJ7.out.setCell (by simp<;>omega) _).setCell (by simp<;>omega) _).setCell (by simp<;>omega) _).setCell (by simp<;>omega) _).setCell (by simp<;>omega) _
  have hki:(0:Int)<(k:Int):=by omega
  go_wp2_with (first | (rw [←HV3.out]) | fail);refine bodyPost_ret (v:=.tuple #[.agg #[.string X,.int .i64 (b:Nat),.int .u32 (r:Nat),.map (some (z0+2)),.int .i64 (ee:Nat)],.bool true]) ?_ rfl ⟨?_,.inl ⟨ps,z0+2,n',Hps.out.resolve_left hk0,?_,by omega,by omega,?_⟩⟩
  ·simp [results,go_sem,q20,q21,q22,q23,q24];omega
  ·exact ((((HJ7.out.setCell (by simp<;>omega) _).setCell (by simp<;>omega) _).setCell (by simp<;>omega) _).setCell (by simp<;>omega) _).setCell (by simp<;>omega) _
  ·rw [←Hee.out,←HX.out]
  exact HJ3.out.of_block (by
   refine (Below.heap_setCell _ ⟨z0+1,4,none⟩ _ _ (by simp<;>omega)).trans ?_;refine (Below.heap_setCell _ ⟨z0+1,3,none⟩ _ _ (by simp<;>omega)).trans ?_;refine (Below.heap_setCell _ ⟨z0+1,2,none⟩ _ _ (by simp<;>omega)).trans ?_;refine (Below.heap_setCell _ ⟨z0+1,1,none⟩ _ _ (by simp<;>omega)).trans ?_;exact Below.heap_setCell _ ⟨z0+1,0,none⟩ _ _ (by simp<;>omega))
end Go.Proofs.YtodmdkhdbfbfgaaGreatDoor.S1
namespace Go.Proofs.YtodmdkhdbfbfgaaGreatDoor.S1
open Go.RowKit Pk Go.Shelf
open Go.Nt (Fp lookF hasL hasL_iff FpOk qaq scanF recF txtF inF endF)
attribute [local go_sem] Oper.semAt_some
def rv (ps:List Fp) (b r ib:Nat):Value:=.agg #[.string (txt (txtF ps)),.int .i64 (b:Nat),.int .u32 (r:Nat),.map (some ib),.int .i64 (endF ps:Nat)]
def rcs (ps:List Fp) (b r ib:Nat):List Value:=[.string (txt (txtF ps)),.int .i64 (b:Nat),.int .u32 (r:Nat),.map (some ib),.int .i64 (endF ps:Nat)]
theorem Tryz.info94:(Tryz.prog.info? 94).map (fun i=>(i.zero,i.size,i.bytes))=some (some (.agg #[.string ⟨#[]⟩,.int .i64 0,.int .u32 0,.map none,.int .i64 0]),5,48):=by kernel_rfl
theorem qan {F:Fence} {n:Nat} {P:Program} {ops:Array Oper} {o:Oper} {a:Act} {w:World} {K:Act→World→Prop} {Q:Exit→Act→World→Prop} {E:Prop} (hgd:o.guard=none) (s x:Operand) (t:TypeId)
 (ho:o.op=.call { callee:=.builtin .append,args:=#[s,x],argTypes:=#[t,t] }) (vs vx:Value) (hs:a.eval s=vs) (hx:a.eval x=vx)
 (v':Value) (w':World) (hr:(Builtin.append_ #[t,t] o.type #[vs,vx]).run P w=.ok v' w') (h:K (a.put o.dst v') w') :
 if Region.wanted o (yielded ops a.tmps)=true then Oper.wpIn F n P o a w K Q else E:=by
 have hw:Region.wanted o (yielded ops a.tmps)=true:=by simp [Region.wanted,hgd]
 rw [if_pos hw];unfold Oper.wpIn;refine ⟨by simp [Oper.about,ho,resolve,Target.leads,Sem.run_pure],?_⟩;rw [Oper.semAt_plain F _ _ (by rw [ho];intro c hc';cases hc')];simp [execOp,ho,resolve,invoke,builtin,hs,hx,hr,Result.andThen];exact h
end Go.Proofs.YtodmdkhdbfbfgaaGreatDoor.S1
namespace Go.Proofs.YtodmdkhdbfbfgaaGreatDoor.S1
open Go.RowKit Pk Go.Shelf
open Go.Nt (Fp lookF hasL hasL_iff FpOk qaq scanF recF txtF inF endF)
def psOf (l:List Fp) (b r:Nat):List Fp:=(recF l b r).getD []
structure WM (w:World) (z gm n:Nat) (l:List Fp) (D:DataW Value) (S:Nat→Nat→Bool) (ib nb:Nat→Nat→Nat):Prop where
 own:w.ownsMap Tryz.prog 90 anyOf gm n D
 has:∀ b r,b≤1000000→r≤4294967295→Maps.has D (lk b r)=S b r
 keys:∀ kl,Maps.has D kl=true→∃ b r,b≤1000000∧r≤4294967295∧kl=lk b r
 recs:∀ b r,S b r=true→b≤1000000∧r≤4294967295∧recF l b r=some (psOf l b r)∧(∀ zd,D.atKey (lk b r) zd=.held (rv (psOf l b r) b r (ib b r)))∧z≤ib b r∧nb b r≤100000∧BlAt w (ib b r) (nb b r) (inF (psOf l b r))
theorem WM.made {w:World} {gm z:Nat} (l:List Fp) (h:w.ownsMap Tryz.prog 90 anyOf gm 0 (.map [])):WM w z gm 0 l (.map []) (fun _ _=>false) (fun _ _=>0) (fun _ _=>0):=
 ⟨h,fun b r _ _=>rfl,fun kl h=>by simp [Maps.has] at h,fun b r h=>by cases h⟩
theorem WM.kept {w w':World} {z gm n:Nat} {l:List Fp} {D:DataW Value} {S:Nat→Nat→Bool} {ib nb:Nat→Nat→Nat} (h:WM w z gm n l D S ib nb) (hk:∀ k,k=gm∨z≤k→k<w.heap.size→w'.heap[k]? = w.heap[k]?):WM w' z gm n l D S ib nb:=
 ⟨qbc h.own (hk gm (.inl rfl) h.own.lt),h.has,h.keys,fun b r hs=>by
  obtain ⟨h1,h2,h3,h4,h5,h6,h7⟩:=h.recs b r hs;exact ⟨h1,h2,h3,h4,h5,h6,h7.of_block (hk _ (.inr h5) h7.lt)⟩⟩
theorem WM.store {w:World} {z gm n:Nat} {l:List Fp} {D:DataW Value} {S:Nat→Nat→Bool} {ib nb:Nat→Nat→Nat} (h:WM w z gm n l D S ib nb) {b r i k:Nat} (hb:b≤1000000) (hr:r≤4294967295) {ps:List Fp} (hps:recF l b r=some ps) (hi:z≤i) (hk:k≤100000) (hB:BlAt w i k (inF ps)) (hn:n≤1000000) (hz:gm<z) :
 ∃ w' D' ib' nb',(Instr.mapUpdate 137 (.map (some gm)) (lv b r) (rv ps b r i)).run Tryz.prog w=.ok () w'∧WM w' z gm (n+1) l D' (fun x y=>(x==b&&y==r)||S x y) ib' nb'∧w.mapTurned w' gm:=by
 obtain ⟨w',h1,h2,h3⟩:=h.own.store law90 Tryz.underlying137 (by unfold maxLen;omega) (key90 hb hr) (show anyOf (rv ps b r i)=some (.held (rv ps b r i),[]) from rfl);have hpo:psOf l b r=ps:=by unfold psOf;rw [hps];rfl
 have hM:=h.own.isMap;have hg:=h3.grown;have hbl:∀ q,z≤q→q<w.heap.size→w'.heap[q]? = w.heap[q]? := fun q hq hl=>hg.block q hl (fun e=>by cases e;omega)
 refine ⟨w',_,fun x y=>if x=b∧y=r then i else ib x y,fun x y=>if x=b∧y=r then k else nb x y,h1,⟨h2,fun x y hx hy => ?_,fun kl hkl => ?_,fun x y hs => ?_⟩,h3⟩
 ·by_cases e:x=b∧y=r
  ·obtain ⟨rfl,rfl⟩:=e;rw [Maps.has_put_same hM (k:=lk x y) (by unfold lk;trivial)];simp
  have hne:lk x y≠lk b r:=fun h'=>e (qd4 hx hy hb hr h')
  rw [Maps.has_put_other hne,h.has x y hx hy]
  have:(x==b&&y==r)=false:=by simpa using fun h1 h2=>e ⟨h1,h2⟩
  rw [this];simp
 ·by_cases e:kl=lk b r
  ·exact ⟨b,r,hb,hr,e⟩
  rw [Maps.has_put_other e] at hkl;exact h.keys kl hkl
 by_cases e:x=b∧y=r
 ·obtain ⟨rfl,rfl⟩:=e;simp only [and_self,if_true];refine ⟨hb,hr,by rw [hpo];exact hps,fun zd => ?_,hi,hk,?_⟩
  ·rw [Maps.atKey_put_same hM (k:=lk x y) (by unfold lk;trivial),hpo]
  rw [hpo];exact hB.of_block (hbl i hi hB.lt)
 have hs':S x y=true:=by
  have:(x==b&&y==r)=false:=by simpa using fun h1 h2=>e ⟨h1,h2⟩
  simpa [this] using hs
 obtain ⟨g1,g2,g3,g4,g5,g6,g7⟩:=h.recs x y hs';have hne:lk x y≠lk b r:=fun h'=>e (qd4 g1 g2 hb hr h')
 simp only [if_neg e];exact ⟨g1,g2,g3,fun zd=>by rw [Maps.atKey_put_other hne];exact g4 zd,g5,g6,g7.of_block (hbl _ g5 g7.lt)⟩
theorem WM.look {w:World} {z gm n:Nat} {l:List Fp} {D:DataW Value} {S:Nat→Nat→Bool} {ib nb:Nat→Nat→Nat} (h:WM w z gm n l D S ib nb) {b r:Nat} (hs:S b r=true):(Instr.lookup 137 (.map (some gm)) (lv b r) false).run Tryz.prog w=.ok (rv (psOf l b r) b r (ib b r)) w:=by
 obtain ⟨g1,g2,g3,g4,g5,g6,g7⟩:=h.recs b r hs;obtain ⟨v',ps',h3,h4⟩:=h.own.lookup law90 Tryz.underlying137 (zero94 w) (show anyOf rec0=some (.held rec0,[]) from rfl) (key90 g1 g2);rw [g4] at h4;rw [qjw h4] at h3;exact h3
attribute [local go_sem] Oper.semAt_some
def wholeF (l:List Fp) (b r:Nat):Bool:=hasL l b r&&(recF l b r).isSome
def TurnOf (l:List Fp) (ord:List (Nat × Nat)):Prop:=∃ (ls:List (Nat × Nat)) (ks:List Nat) (rs:Nat→List Nat),ls.Nodup∧(∀ x,x∈ls↔(x.1≤1000000∧x.2≤4294967295∧wholeF l x.1 x.2=true))∧Asc ks∧ks.Nodup∧(∀ b,b∈ks↔numsOf ls b≠[]) ∧
 (∀ b∈ks,∃ ys,ys.Perm (numsOf ls b)∧Asc ys∧rs b=ys.drop (firstG ys)++ys.take (firstG ys))∧ord=ks.flatMap (fun b=>lbOf b (rs b))
theorem TurnOf.mem {l:List Fp} {ord:List (Nat × Nat)} (h:TurnOf l ord) {x:Nat × Nat} (hx:x∈ord):x.1≤1000000∧x.2≤4294967295∧wholeF l x.1 x.2=true:=by
 obtain ⟨ls,ks,rs,h1,h2,h3,h4,h5,h6,rfl⟩:=h;obtain ⟨b,hb,hxb⟩:=List.mem_flatMap.1 hx;obtain ⟨y,hy,rfl⟩:=List.mem_map.1 hxb;obtain ⟨ys,hp,_,e⟩:=h6 b hb;rw [e] at hy;have hy':y∈ys:=by
  rcases List.mem_append.1 hy with h | h
  ·exact List.mem_of_mem_drop h
  exact List.mem_of_mem_take h
 have hn:=hp.mem_iff.1 hy';unfold numsOf at hn;obtain ⟨z,hz,rfl⟩:=List.mem_map.1 hn
 have:=List.mem_filter.1 hz
 have e2:z.1=b:=by simpa using this.2
 subst e2;exact (h2 z).1 this.1
def rcl (l:List Fp) (ib:Nat→Nat→Nat) (xs:List (Nat × Nat)):List Value:=xs.flatMap (fun x=>rcs (psOf l x.1 x.2) x.1 x.2 (ib x.1 x.2))
theorem qlI (l:List Fp) (ib:Nat→Nat→Nat) (xs:List (Nat × Nat)) (x:Nat × Nat):rcl l ib (xs++[x])=rcl l ib xs++rcs (psOf l x.1 x.2) x.1 x.2 (ib x.1 x.2):=by simp [rcl]
theorem WM.kept2 {w w':World} {z q gm n:Nat} {l:List Fp} {D:DataW Value} {S:Nat→Nat→Bool} {ib nb:Nat→Nat→Nat} (h:WM w z gm n l D S ib nb) (hq:∀ b r,S b r=true→ib b r<q) (hk:∀ k,k=gm∨(z≤k∧k<q)→k<w.heap.size→w'.heap[k]? = w.heap[k]?):WM w' z gm n l D S ib nb:=
 ⟨qbc h.own (hk gm (.inl rfl) h.own.lt),h.has,h.keys,fun b r hs=>by
  obtain ⟨h1,h2,h3,h4,h5,h6,h7⟩:=h.recs b r hs;exact ⟨h1,h2,h3,h4,h5,h6,h7.of_block (hk _ (.inr ⟨h5,hq b r hs⟩) h7.lt)⟩⟩
structure RcJ (w:World) (z0 gm q7 zz zr n:Nat) (l:List Fp) (D:DataW Value) (S:Nat→Nat→Bool) (ib nb:Nat→Nat→Nat) (pre:List (Nat × (Nat × Nat))) (W:World):Prop where
 box:∃ v,W.heap[q7]? = some (.cells #[v] 86 (0,0))∧W.ownsRow zr 94 5 v pre.length (rcl l ib (pre.map (·.2)))
 wm:WM W zz gm n l D S ib nb
 lo:∀ b r,S b r=true→ib b r<q7
 mb:W.heap[gm+1]? = some (.cells #[.map (some gm)] 137 (0,0))
 be:Below z0 w W
theorem RcJ.grown {w:World} {z0 gm q7 zz zr n:Nat} {l:List Fp} {D:DataW Value} {S:Nat→Nat→Bool} {ib nb:Nat→Nat→Nat} {pre:List (Nat × (Nat × Nat))} {W W':World} {row:Option Nat} {B:Nat} (h:RcJ w z0 gm q7 zz zr n l D S ib nb pre W) (h1:z0≤B) (h2:gm+1<B) (h3:q7<B) (h5:z0≤W.heap.size) (hg:W.grownBy W' row) (hr:∀ r,row=some r→B≤r∧∃ o:Obj,W.heap[r]? = some o∧o.isCells=false):RcJ w z0 gm q7 zz zr n l D S ib nb pre W':=by
 have low:∀ k,k<B→k<W.heap.size→W'.heap[k]? = W.heap[k]? := fun k hk hl=>hg.block k hl (fun e=>by have:=(hr k e.symm).1;omega)
 obtain ⟨⟨v,hv1,hv3⟩,hwm,hlo,hmb,hbe⟩:=h;refine ⟨⟨v,(low q7 h3 (lt_of_heap hv1)).trans hv1,?_⟩,hwm.kept2 hlo (fun k hk hl=>low k (by omega) hl),hlo,(low _ h2 (lt_of_heap hmb)).trans hmb,hbe.grown hg h5 (fun k e=>by have:=(hr k e).1;omega)⟩;refine ⟨hv3.1,?_⟩;rcases hv3.2 with h5 | ⟨g,cap,cur,e,h5,h6,h7⟩
 ·exact .inl h5
 exact .inr ⟨g,cap,cur,e,h5,(hg.block g (lt_of_heap h6) (fun e'=>by
  obtain ⟨_,o,ho,hc⟩:=hr g e'.symm;rw [h6] at ho;cases ho
  cases hc)).trans h6,h7⟩
def StW (w:World) (left:Lit→Bool) (zz gm n:Nat) (l:List Fp) (ho:Lit→Bool):Prop:=∃ D S ib nb,WM w zz gm n l D S ib nb∧∀ b r,b≤1000000→r≤4294967295→S b r=(ho (lk b r) && !left (lk b r)&&(recF l b r).isSome)
theorem nodup_le {α:Type} (l:List α):∀ (l':List α),l.Nodup→(∀ x∈l,x∈l')→l.length≤l'.length:=by
 classical
 induction l with
 | nil=>intro _ _ _;exact Nat.zero_le _
 | cons a l ih =>
   intro l' hn hs;have ha:=hs a (by simp);have hn':=List.nodup_cons.1 hn
   have:=ih (l'.erase a) hn'.2 (fun x hx=>(List.mem_erase_of_ne (fun e=>hn'.1 (by rw [←e];exact hx))).2 (hs x (by simp [hx])))
   rw [List.length_erase_of_mem ha] at this;have hp:0<l'.length:=List.length_pos_of_mem ha;simp only [List.length_cons];omega
theorem qmH {α β:Type} (ks:List α) (f:α→List β) (c:Nat) (h:∀ b∈ks,(f b).length≤c):(ks.flatMap f).length≤ks.length*c:=by
 induction ks with
 | nil=>simp
 | cons a l ih =>
   rw [List.flatMap_cons,List.length_append,List.length_cons,Nat.succ_mul]
   have:=ih (fun b hb=>h b (by simp [hb]))
   have:=h a (by simp)
   omega
theorem qmp {w:World} {gm n:Nat} {D:DataW Value} (ho:w.ownsMap Tryz.prog 90 anyOf gm n D) {xs:List (Nat × Nat)} (hn:xs.Nodup) (hok:∀ x∈xs,okLb x) (hm:∀ x∈xs,Maps.has D (lk x.1 x.2)=true):xs.length≤n:=by
 obtain ⟨es,hD,hpw,_⟩:=ho.entries law90;have h1:(xs.map (fun x=>lk x.1 x.2)).Nodup:=List.pairwise_map.2 (hn.imp_of_mem fun {x y} hx hy hne e=>hne (by
  have:=qd4 (hok x hx).1 (hok x hx).2 (hok y hy).1 (hok y hy).2 e
  exact Prod.ext this.1 this.2))
 have h2:=nodup_le _ (es.map (·.1)) h1 (fun k hk=>by
  obtain ⟨x,hx,rfl⟩:=List.mem_map.1 hk
  have:=hm x hx
  rw [hD,Maps.has_eq,List.any_eq_true] at this;obtain ⟨p,hp,hs⟩:=this;refine List.mem_map.2 ⟨p,hp,?_⟩;by_cases e:p.1=lk x.1 x.2
  ·exact e
  rw [Maps.sameKey_ne e] at hs;cases hs)
 have h3:=ho.size_le;rw [hD,Maps.size_eq] at h3;simp only [List.length_map] at h2;omega
end Go.Proofs.YtodmdkhdbfbfgaaGreatDoor.S1
