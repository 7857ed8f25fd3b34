/- Lemmas. -/
import Derived.Lib.UnsafeStr
import Derived.Lib.Buffer
import Derived.Test.YtodmdkhdbfbfgabGreatDoorRows
import Derived.SizedLaws
import Derived.ProofKit
import Derived.OpenShut
import Derived.JoinedCond
import Derived.ShutString
import Derived.ChangeOld
import Derived.Below
import Derived.Test.YtodmdkhdbfbfgabGreatDoorCards
import Derived.Test.YtodmdkhdbfbfgabGreatDoorM49
set_option linter.unusedVariables false
set_option linter.unusedSimpArgs false
set_option maxRecDepth 100000
set_option maxHeartbeats 8000000
namespace Go.Proofs.YtodmdkhdbfbfgabGreatDoor.S1
open Go.RowKit Pk
theorem clone_in (s:ByteArray) (w:World) (hlim:s.size≤140737488351232):Calls Tryz.prog 81 #[.string s] w fun e w'=>e=.returned (.string s)∧Below w.heap.size w w':=by
 by_cases h0:s.size=0
 ·have hs:s=⟨#[]⟩:=by
   apply ByteArray.ext
   exact Array.eq_empty_of_size_eq_zero h0
  subst hs;go_enter Tryz.func81,Tryz.ntmps81
  go_wp2;go_ret
  exact ⟨rfl,Below.refl _ _⟩
 obtain ⟨i0,hi,hz0,hz1,hz2⟩:=info_parts Tryz.info5;have hinfo:(Tryz.prog.info? 5).map (·.size)=some 1:=by rw [hi];simp [hz1]
 have hco:Tryz.prog.cellsOf 5=1:=by simp [Program.cellsOf,hi,hz1]
 obtain ⟨M,hM⟩:∃ M,M=madeCells #[Value.int .u8 0] s.size:=⟨_,rfl⟩;have hMs:M.size=s.size:=by rw [hM,size_madeCells]
 have hmk:∀ W:World,(Instr.makeSlice 50 (.int .i64 (s.size:Int)) (.int .i64 (s.size:Int))).run Tryz.prog W=.ok (.slice (some ⟨W.heap.size,0,none⟩) s.size s.size) (W.alloc (.cells M 5)):=fun W=>by
  rw [hM];exact run_make_row' (P:=Tryz.prog) 50 5 (.int .u8 0) 1 Tryz.underlying50 Tryz.info5 rfl .i64 .i64 s.size (by omega) (by omega) W
 clear hM;have hcp:=Lib.run_copy_row_string (P:=Tryz.prog) (w.alloc (.cells M 5)) 50 9 3 5 w.heap.size 0 s.size s.size s M 5 Tryz.underlying50 hinfo (heap_alloc_new w _) (Nat.le_refl _) (by omega);obtain ⟨Y,hY⟩:∃ Y,Y=(M.toList.take 0++Lib.byteCells s.data.toList++M.toList.drop (0+s.size)).toArray:=⟨_,rfl⟩;rw [←hY] at hcp;have hYl:Y.toList=Lib.byteCells s.data.toList:=by
  rw [hY,List.toList_toArray,List.take_zero,List.nil_append,List.drop_of_length_le (by rw [Array.length_toList];omega),List.append_nil]
 have hYs:Y.size=s.size:=by rw [←Array.length_toList,hYl,Lib.byteCells_length,←Lib.size_eq]
 have hgY:((w.alloc (.cells M 5)).setRow w.heap.size Y).heap[w.heap.size]? = some (.cells Y 5 (0,0)):=setRow_heap _ _ M _ 5 (0,0) (heap_alloc_new w _);have hne:s.data.toList≠[]:=fun e=>h0 (by rw [Lib.size_eq,e];rfl)
 have hUS:=Lib.run_unsafeString_row (P:=Tryz.prog) ((w.alloc (.cells M 5)).setRow w.heap.size Y) 181 3 9 5 Tryz.underlying181 hco w.heap.size Y.size (by unfold World.shape?;rw [hgY]) s.data.toList hne (by rw [←Lib.size_eq];omega) (by rw [←Lib.size_eq];omega)
  (fun j x hx=>Lib.cells_of_row hgY Y.size j _ (by rw [List.take_of_length_le (by rw [Array.length_toList];exact Nat.le_refl _),hYl];simp [Lib.byteCells,hx]))
 rw [←Lib.size_eq] at hUS;clear hY;go_enter Tryz.func81,Tryz.ntmps81
 go_wp2;go_ret
 have hb1:Below w.heap.size w (w.alloc (.cells M 5)):=(Below.refl _ w).alloc (Nat.le_refl _) _;have hb2:Below w.heap.size (w.alloc (.cells M 5)) ((w.alloc (.cells M 5)).setRow w.heap.size Y):=⟨rfl,rfl,rfl,by simp,fun k hk=>setRow_other _ _ _ _ (by omega)⟩;exact ⟨rfl,Lib.below_freeze (hb1.trans hb2) (p:=⟨w.heap.size,0,none⟩) (Nat.le_refl _) _⟩
theorem clone_any (s:ByteArray) (w:World) (hlim:s.size≤140737488351232):Calls Tryz.prog 54 #[.string s] w fun e w'=>e=.returned (.string s)∧Below w.heap.size w w':=by
 go_enter Tryz.func54,Tryz.ntmps54
 go_wp2_with fail;refine (clone_in s w hlim).mono ?_;rintro e w1 ⟨rfl,hb⟩;go_wp2;go_ret
 exact ⟨rfl,hb⟩
theorem qnu (c:UInt8) (r:List UInt8):∃ t,t=txt (c :: r)∧t.size=r.length+1∧(∀ h:0<t.size,(t[0]'h).toNat=c.toNat)∧t.extract 1 t.size=txt r:=by
 refine ⟨_,rfl,by rw [qaa];rfl,fun h=>by rw [qaV];rfl,?_⟩;rw [qah,qaa];simp
theorem qgH (c:UInt8) (r:List UInt8) (w:World) (hr:r.length+1≤140737488351232):Calls Tryz.prog 97 #[.string (txt (c :: r))] w fun e w'=>e=ansU (unpF 288 (c :: r))∧Below w.heap.size w w':=by
 obtain ⟨t,ht,hs,hc,hex⟩:=qnu c r;have hs0:0<t.size:=by omega
 have hc0:=hc hs0;rw [←ht];have hsb:t.size≤140737488351232:=by omega
 have hrs:(txt r).size≤140737488351232:=by rw [qaa];omega
 have hes1:t.size≤r.length+1:=by omega
 have hes2:r.length+1≤t.size:=by omega
 have Hex:=hidI hex;clear ht hc hs hex;have hne:((t.size:Int)==0)=false:=beq_eq_false_iff_ne.2 (by omega);have hlt:(0:Int)<(t.size:Int):=by omega
 have h1t:(1:Int)≤(t.size:Int):=by omega
 by_cases h0:c=0
 ·have hcz:(t[0]'hs0).toNat=0:=by rw [hc0,h0];rfl
  clear hc0;subst h0;by_cases h4:r.length≤4000
  ·have Hu:=hidI (qer 288 r h4);have hd4:decide (((t.size - 1:Nat):Int)≤4000)=true:=decide_eq_true (by omega);go_enter Tryz.func97,Tryz.ntmps97
   go_wp2
   go_quiet (fail)
   go_wp2_with fail;rw [Hex.out];refine (clone_any (txt r) _ hrs).mono ?_;rintro e w1 ⟨rfl,hb1⟩;have hB:Below w.heap.size w w1:=belowD (by simpa using hb1);go_wp2;go_ret2
   refine ⟨?_,hB⟩;rw [Hu.out];rfl
  have Hu:=hidI (qkU 288 r (by omega));have hd4:decide (((t.size - 1:Nat):Int)≤4000)=false:=decide_eq_false (by omega);go_enter Tryz.func97,Tryz.ntmps97
  go_wp2
  go_quiet (fail)
  go_wp2;go_ret2
  refine ⟨?_,below_drewN (Below.refl _ _) _⟩;rw [Hu.out];rfl
 have hcn:c.toNat≠0:=fun h=>h0 (UInt8.toNat_inj.1 h)
 have hc00:((c.toNat:Int)==0)=false:=beq_eq_false_iff_ne.2 (by omega);by_cases h1:c=1
 ·have hcz:(t[0]'hs0).toNat=1:=by rw [hc0,h1];rfl
  clear hc0 hcn hc00;have Hdec:=hidI (fun w=>qiz r w (by omega));subst h1;go_enter Tryz.func97,Tryz.ntmps97
  go_wp2
  go_quiet (fail)
  go_wp2_with fail;rw [Hex.out];refine (Hdec.out _).mono ?_;rintro e w1 ⟨rfl,hb1⟩;have hB:Below w.heap.size w w1:=belowD (by simpa using hb1);cases hu:unpF 288 (1 :: r) with
  | none =>
    have Hu:=hidI hu;clear hu;show _;unfold ansD;go_wp2;go_ret2
    refine ⟨?_,hB⟩;rw [Hu.out];rfl
  | some l =>
    have Hu:=hidI hu;clear hu;unfold ansD;go_wp2;go_ret2
    refine ⟨?_,hB⟩;rw [Hu.out];rfl
 have hcn1:c.toNat≠1:=fun h=>h1 (UInt8.toNat_inj.1 h)
 have hc01:((c.toNat:Int)==1)=false:=beq_eq_false_iff_ne.2 (by omega);have Hu:=hidI (qiB 288 c r h0 h1);go_enter Tryz.func97,Tryz.ntmps97
 go_wp2
 go_quiet (fail)
 go_wp2;go_ret2
 refine ⟨?_,below_drewN (Below.refl _ _) _⟩;rw [Hu.out];rfl
theorem qit (w:World):Calls Tryz.prog 97 #[.string (txt [])] w fun e w'=>e=ansU none∧w'=w:=by
 have hs:(((txt []).size:Int)==0)=true:=by rw [qaa];rfl
 go_enter Tryz.func97,Tryz.ntmps97
 go_wp2;go_ret2
 exact ⟨rfl,rfl⟩
theorem unpack_any (T:List UInt8) (w:World) (hT:T.length≤140737488351232):Calls Tryz.prog 97 #[.string (txt T)] w fun e w'=>e=ansU (unpF 288 T)∧Below w.heap.size w w':=by
 cases T with
 | nil=>exact (qit w).mono fun e w' ⟨he,hw⟩=>by rw [he,hw];exact ⟨rfl,Below.refl _ _⟩
 | cons c r=>exact qgH c r w (by simpa using hT)
theorem qli (s:List UInt8) (z:Nat→Int) (N size f:Nat) (out:List UInt8) (pos:Nat) (x:List UInt8 × Nat) (ho:out.length≤size) (h:dataF s z N size f out pos=some x):x.1.length≤size:=by
 induction f generalizing out pos with
 | zero =>
   rw [dataF] at h
   split at h
   ·cases h;exact ho
   cases h
 | succ f ih =>
   rw [dataF] at h
   split at h
   ·cases h;exact ho
   rename_i hlt
   split at h
   ·cases h
   rename_i i hi
   split at h
   ·exact ih _ _ (by simp;omega) h
   split at h
   ·cases h
   split at h
   ·cases h
   rename_i hno;exact ih _ _ (by rw [qcy];omega) h
theorem unpF_len (t y:List UInt8) (h:unpF 288 t=some y):y.length≤4000:=by
 cases t with
 | nil=>cases h
 | cons c r =>
   rw [qa4] at h
   split at h
   ·split at h
    ·cases h;assumption
    cases h
   split at h
   ·split at h
    ·cases h
    split at h
    ·cases h
    rename_i hsz
    generalize 256*(r.getD 0 0).toNat+(r.getD 1 0).toNat=size at *
    unfold bodyF at h
    split at h
    ·cases h
    split at h
    ·cases h
    split at h
    ·cases h
    rename_i out p hdt
    split at h
    ·cases h
     have:=qli _ _ _ _ _ _ _ _ (by simp) hdt
     simp at this;omega
    cases h
   cases h
end Go.Proofs.YtodmdkhdbfbfgabGreatDoor.S1
namespace Go.Proofs.YtodmdkhdbfbfgabGreatDoor
open Go.RowKit Go.Nt
theorem packC:PackC (S1.Pk.unpF 288) where
 small:=fun t d h=>S1.unpF_len t d h
 pack:=fun w d hd=>(S1.pack_any w d hd).mono fun e w' ⟨t,he,hu,hl,_,hb⟩=>⟨t,he,hu,hl,hb⟩
 some:=fun w t d ht hu=>(S1.unpack_any t w (by omega)).mono fun e w' ⟨he,hb⟩=>⟨by rw [he,hu];rfl,hb⟩
 none:=fun w t ht hu=>(S1.unpack_any t w (by omega)).mono fun e w' ⟨he,hb⟩=>⟨by rw [he,hu];rfl,hb⟩
end Go.Proofs.YtodmdkhdbfbfgabGreatDoor
namespace Go.Proofs.YtodmdkhdbfbfgabGreatDoor.fails
theorem cl0:Rows.failsRow.wf (OpenSpec.ofChange (OpenSpec.ofChange Rows.failsSpec).bare)=true:=by kernel_rfl
theorem cl1:laidOutB Tryz.prog=true:=by kernel_rfl
theorem cl2:mapsRowed Tryz.prog=true:=by kernel_rfl
theorem cl3:Tryz.f4.params.all (Tryz.prog.readableRec ·)=true:=by kernel_rfl
theorem cl4:namedTie Tryz.prog Rows.failsRow.named (OpenSpec.ofChange Rows.failsSpec).bare.vars=true:=by kernel_rfl
theorem cl5:(Rows.failsRow.stops==[])=true:=by kernel_rfl
theorem cl6:(Tryz.prog.stops==[])=true:=by kernel_rfl
theorem cl7:(Rows.failsRow.knobs==[])=true:=by kernel_rfl
theorem cl8:(Tryz.prog.stopKnobs==[])=true:=by kernel_rfl
theorem cl9:(Rows.failsRow.inPlace==Tryz.prog.inPlace 4)=true:=by kernel_rfl
theorem cl10:(Rows.failsRow.unfollowed==Tryz.prog.unfollowed 4)=true:=by kernel_rfl
theorem cl11:(Rows.failsRow.recurses==Tryz.prog.recurses 4)=true:=by kernel_rfl
theorem cl12:(Rows.failsRow.named==Tryz.prog.varsNamed 4)=true:=by kernel_rfl
theorem cl13:(Rows.failsRow.maps==(Tryz.f4.params.toList++(OpenSpec.ofChange Rows.failsSpec).bare.plain.varTypes Tryz.prog).any (Tryz.prog.mapsRec ·))=true:=by kernel_rfl
theorem cl14:(Rows.failsRow.ifaces==(Tryz.f4.params.toList++(OpenSpec.ofChange Rows.failsSpec).bare.plain.varTypes Tryz.prog).any (Tryz.prog.ifacesRec ·))=true:=by kernel_rfl
theorem cl15:(Rows.failsRow.mapsOut==Tryz.prog.mapsAmong Tryz.f4.resultTypes.toList)=true:=by kernel_rfl
theorem cl16:(Rows.failsRow.loops==(Tryz.f4.params.toList++(OpenSpec.ofChange Rows.failsSpec).bare.plain.varTypes Tryz.prog).any (Tryz.prog.loopsFrom ·))=true:=by kernel_rfl
theorem cl17:(Rows.failsRow.wideKeys==(Tryz.f4.params.toList++(OpenSpec.ofChange Rows.failsSpec).bare.plain.varTypes Tryz.prog++Tryz.f4.resultTypes.toList).any (Tryz.prog.wideKeysFrom ·))=true:=by kernel_rfl
theorem cl18:(OpenSpec.ofChange Rows.failsSpec).bare.vars.all (Tryz.prog.varReadable ·)=true:=by kernel_rfl
theorem cl19:Tryz.f4.resultTypes.all (fun t=>Tryz.prog.readableRec t&&decide (t<Tryz.prog.types.size))=true:=by kernel_rfl
theorem cl20:(Rows.failsRow.ifacesOut==Tryz.f4.resultTypes.toList.any (Tryz.prog.ifacesRec ·))=true:=by kernel_rfl
theorem cl21:(Rows.failsRow.loopsOut==Tryz.f4.resultTypes.toList.any (Tryz.prog.loopsFrom ·))=true:=by kernel_rfl
theorem cl22:(Rows.failsRow.plainKeys==Tryz.prog.plainKeys)=true:=by kernel_rfl
theorem cl23:Rows.failsRow.shortTexts.isNone=true:=by kernel_rfl
theorem cl24:Tryz.prog.stopsHeard=true:=by kernel_rfl
theorem cl25:Tryz.prog.mayEnter=true:=by kernel_rfl
theorem cl26:(Rows.failsRow.lifted==Tryz.prog.liftsFinal)=true:=by kernel_rfl
theorem cl27:(Tryz.prog.make==some Rows.failsRow.make)=true:=by kernel_rfl
theorem cl28:(Rows.failsRow.kinds==(if Rows.failsRow.domain.isEmpty then [] else Tryz.f4.params.toList.map fun t=>match Tryz.prog.underlying t with | some (.int k)=>some k | _=>none))=true:=by kernel_rfl
theorem cl29:(Rows.failsRow.pinned==Rows.failsRow.pinnedBy)=true:=by kernel_rfl
theorem cl30:(Rows.failsRow.veiled==(Tryz.f4.params.toList++(OpenSpec.ofChange Rows.failsSpec).bare.plain.varTypes Tryz.prog++Tryz.f4.resultTypes.toList).any (Tryz.prog.veiledRec ·))=true:=by kernel_rfl
theorem cl31:Rows.failsRow.veiledFits Tryz.prog Tryz.f4.params.toList (Tryz.f4.params.toList++(OpenSpec.ofChange Rows.failsSpec).bare.plain.varTypes Tryz.prog++Tryz.f4.resultTypes.toList)=true:=by kernel_rfl
theorem closed:joinedFacts Tryz.prog 4 Tryz.f4 (OpenSpec.ofChange Rows.failsSpec).bare Rows.failsRow=true:=by
 unfold joinedFacts
 exact (Bool.and_eq_true_iff.2 ⟨(Bool.and_eq_true_iff.2 ⟨(Bool.and_eq_true_iff.2 ⟨(Bool.and_eq_true_iff.2 ⟨(Bool.and_eq_true_iff.2 ⟨(Bool.and_eq_true_iff.2 ⟨(Bool.and_eq_true_iff.2 ⟨(Bool.and_eq_true_iff.2 ⟨(Bool.and_eq_true_iff.2 ⟨(Bool.and_eq_true_iff.2 ⟨(Bool.and_eq_true_iff.2 ⟨(Bool.and_eq_true_iff.2 ⟨(Bool.and_eq_true_iff.2 ⟨(Bool.and_eq_true_iff.2 ⟨(Bool.and_eq_true_iff.2 ⟨(Bool.and_eq_true_iff.2 ⟨(Bool.and_eq_true_iff.2 ⟨(Bool.and_eq_true_iff.2 ⟨(Bool.and_eq_true_iff.2 ⟨(Bool.and_eq_true_iff.2 ⟨(Bool.and_eq_true_iff.2 ⟨(Bool.and_eq_true_iff.2 ⟨(Bool.and_eq_true_iff.2 ⟨(Bool.and_eq_true_iff.2 ⟨(Bool.and_eq_true_iff.2 ⟨(Bool.and_eq_true_iff.2 ⟨(Bool.and_eq_true_iff.2 ⟨(Bool.and_eq_true_iff.2 ⟨(Bool.and_eq_true_iff.2 ⟨(Bool.and_eq_true_iff.2 ⟨(Bool.and_eq_true_iff.2 ⟨cl0,cl1⟩),cl2⟩),cl3⟩),cl4⟩),cl5⟩),cl6⟩),cl7⟩),cl8⟩),cl9⟩),cl10⟩),cl11⟩),cl12⟩),cl13⟩),cl14⟩),cl15⟩),cl16⟩),cl17⟩),cl18⟩),cl19⟩),cl20⟩),cl21⟩),cl22⟩),cl23⟩),cl24⟩),cl25⟩),cl26⟩),cl27⟩),cl28⟩),cl29⟩),cl30⟩),cl31⟩)
end Go.Proofs.YtodmdkhdbfbfgabGreatDoor.fails
