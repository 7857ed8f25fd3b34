/- Lemmas. -/
import Derived.Sort.KeysCollected
import Derived.RangeFuncWrites
import Derived.Deep.Draws
import Derived.Test.YtodmdkhdbfbfgabGreatDoorM14
set_option linter.unusedVariables false
set_option linter.unusedSimpArgs false
set_option maxRecDepth 100000
set_option maxHeartbeats 8000000
namespace Go.Proofs.YtodmdkhdbfbfgabGreatDoor
open Go.RowKit Go.Nt
structure Nd where
 dir:Bool
 data:Bs
 mode:Int
 time:Int
deriving DecidableEq,Inhabited
def nd (x:It):Nd:=⟨x.dir,x.data,x.mode,x.time⟩
def itOf (p:Bs) (n:Nd):It:=⟨p,n.dir,n.data,n.mode,n.time⟩
theorem qkD (x:It):itOf x.path (nd x)=x:=rfl
theorem qnH (p:Bs) (n:Nd):nd (itOf p n)=n:=rfl
def ndv (n:Nd):Value:=.agg #[.bool n.dir,.string (txt n.data),.int .i64 n.mode,.int .i64 n.time]
def ndOf:Value→Option (DataW Nd × List MemPlace)
 | .agg cs=>match cs.toList with
   | [.bool d,.string s,.int .i64 m,.int .i64 t]=>some (.held ⟨d,s.data.toList,m,t⟩,[])
   | _=>none
 | _=>none
theorem qdH (n:Nd):ndOf (ndv n)=some (.held n,[]):=rfl
theorem qb2 {v:Value} {n:Nd} {ps:List MemPlace} (h:ndOf v=some (.held n,ps)):v=ndv n:=by
 unfold ndOf at h
 split at h
 ·rename_i cs
  split at h
  ·rename_i d s m t hc;simp at h;obtain ⟨rfl,_⟩:=h
   have:cs=#[.bool d,.string s,.int .i64 m,.int .i64 t]:=by
    apply Array.toList_inj.1
    exact hc
   rw [this];unfold ndv;rw [←qnf]
  cases h
 cases h
def at? (l:List It) (p:Bs):Option It:=l.find? fun x=>decide (x.path=p)
theorem qau {l:List It} {p:Bs} {x:It} (h:at? l p=some x):x∈l∧x.path=p:=⟨List.mem_of_find?_eq_some h,by simpa using List.find?_some h⟩
theorem at_none {l:List It} {p:Bs}:at? l p=none↔∀ x∈l,x.path≠p:=by simp [at?]
theorem at_mem {l:List It} (hn:(l.map (·.path)).Nodup) {x:It} (hx:x∈l):at? l x.path=some x:=by
 induction l with
 | nil=>simp at hx
 | cons y l ih =>
   unfold at?;rw [List.find?_cons];by_cases e:y.path=x.path
   ·simp [e];simp at hn hx;rcases hx with rfl | hx
    ·rfl
    exact absurd e.symm (fun e'=>hn.1 x hx e')
   simp [e];simp at hn hx;rcases hx with rfl | hx
   ·exact absurd rfl e
   exact ih hn.2 hx
theorem qow {l:List It} (hn:(l.map (·.path)).Nodup) (p:Bs):dirAt l p=(match at? l p with | some x=>x.dir | none=>false):=by
 cases h:at? l p with
 | none =>
   have h':=at_none.1 h;unfold dirAt;simp only [List.any_eq_false];intro x hx;simp [h' x hx]
 | some x =>
   obtain ⟨hx,rfl⟩:=qau h;obtain ⟨k,hk,rfl⟩:=List.getElem_of_mem hx;show dirAt l _=l[k].dir;unfold dirAt;cases hd:l[k].dir with
   | true=>exact List.any_eq_true.2 ⟨_,hx,by simp [hd]⟩
   | false =>
     rw [List.any_eq_false];intro y hy;by_cases e:y.path=l[k].path
     ·have h1:=at_mem hn hy;have h2:=at_mem hn hx;rw [e,h2] at h1;cases h1
      simp [hd]
     simp [e]
def Has (D:DataW Nd) (l:List It):Prop:=
 ∀ p,Maps.has D (.string p)=(at? l p).isSome∧∀ x,at? l p=some x→∀ z,D.atKey (.string p) z=.held (nd x)
def TreeAt (w:World) (b:Nat) (l:List It):Prop:=
 ∃ D:DataW Nd,w.ownsMap Tryz.prog 9 ndOf b (Maps.size D) D∧Has D l
theorem law9:Maps.Keyed Tryz.prog 9:=Maps.string_keyed Tryz.underlying9
theorem zero46 (w:World):(zeroValue 94).run Tryz.prog w=.ok (ndv ⟨false,[],0,0⟩) w:=by kernel_rfl
theorem tight {w:World} {b n:Nat} {D:DataW Nd} (h:w.ownsMap Tryz.prog 9 ndOf b n D):w.ownsMap Tryz.prog 9 ndOf b (Maps.size D) D:=by
 obtain ⟨es,clock,hb,F,hs,rfl⟩:=h;exact ⟨es,clock,hb,F,by simp [Maps.size,length_sorted],rfl⟩
theorem TreeAt.lt {w:World} {b:Nat} {l:List It} (h:TreeAt w b l):b<w.heap.size:=by
 obtain ⟨D,h,_⟩:=h;exact h.lt
theorem TreeAt.of_block {w w':World} {b:Nat} {l:List It} (h:TreeAt w b l) (hb:w'.heap[b]? = w.heap[b]?):TreeAt w' b l:=by
 obtain ⟨D,⟨es,clock,h1,h2⟩,hh⟩:=h;exact ⟨D,⟨es,clock,hb.trans h1,h2⟩,hh⟩
theorem TreeAt.below {w w':World} {B b:Nat} {l:List It} (h:TreeAt w b l) (hb:Below B w w') (hlt:b<B):TreeAt w' b l:=h.of_block (hb.block b hlt)
theorem qjo (w:World):TreeAt (w.alloc (.map #[] 0)) w.heap.size []:=
 ⟨.map [],World.ownsMap_made w _ _ _,fun p=>⟨rfl,fun x hx=>by simp [at?] at hx⟩⟩
theorem key9 {p:Bs} (h:p.length≤maxLen):keyOf Tryz.prog 9 (.string (txt p))=some (.string p):=WideMaps.keyOf_string_mk Tryz.underlying9 (by rw [qaa];exact h)
theorem TreeAt.look_some {w:World} {b:Nat} {l:List It} {p:Bs} {x:It} (h:TreeAt w b l) (hp:p.length≤maxLen) (hx:at? l p=some x) :
 (Instr.lookup 64 (.map (some b)) (.string (txt p)) true).run Tryz.prog w=.ok (.tuple #[ndv (nd x),.bool true]) w∧(Instr.lookup 64 (.map (some b)) (.string (txt p)) false).run Tryz.prog w=.ok (ndv (nd x)) w:=by
 obtain ⟨D,ho,hh⟩:=h;obtain ⟨v,ps,h1,h2⟩:=ho.look_ok law9 Tryz.underlying64 (zero46 w) (qdH _) (key9 hp);obtain ⟨v',ps',h3,h4⟩:=ho.lookup law9 Tryz.underlying64 (zero46 w) (qdH _) (key9 hp);rw [(hh p).2 x hx] at h2 h4;rw [qb2 h2,(hh p).1,hx] at h1;rw [qb2 h4] at h3;exact ⟨h1,h3⟩
theorem TreeAt.look_none {w:World} {b:Nat} {l:List It} {p:Bs} (h:TreeAt w b l) (hp:p.length≤maxLen) (hx:at? l p=none) :
 (Instr.lookup 64 (.map (some b)) (.string (txt p)) true).run Tryz.prog w=.ok (.tuple #[ndv ⟨false,[],0,0⟩,.bool false]) w∧(Instr.lookup 64 (.map (some b)) (.string (txt p)) false).run Tryz.prog w=.ok (ndv ⟨false,[],0,0⟩) w:=by
 obtain ⟨D,ho,hh⟩:=h;have hno:Maps.has D (.string p)=false:=by rw [(hh p).1,hx];rfl
 obtain ⟨v,ps,h1,h2⟩:=ho.look_ok law9 Tryz.underlying64 (zero46 w) (qdH _) (key9 hp);obtain ⟨v',ps',h3,h4⟩:=ho.lookup law9 Tryz.underlying64 (zero46 w) (qdH _) (key9 hp);rw [Maps.atKey_of_not_has hno] at h2 h4;rw [qb2 h2,hno] at h1;rw [qb2 h4] at h3;exact ⟨h1,h3⟩
theorem keys_perm {w:World} {b n:Nat} {l:List It} {D:DataW Nd} (ho:w.ownsMap Tryz.prog 9 ndOf b n D) (hh:Has D l) (hn:(l.map (·.path)).Nodup):(l.map (·.path)).Perm (strKeys D):=by
 obtain ⟨es,rfl,hp⟩:=ho.tidy law9;obtain ⟨es',e,hk⟩:=ho.keysOf;cases e
 refine perm_strKeys hp (fun p h => ?_) hn (fun x => ?_)
 ·obtain ⟨v,hv⟩:=hk p h;obtain ⟨x,_,hx,_⟩:=Maps.keyOf_str Tryz.underlying9 hv;exact ⟨x,hx⟩
 rw [(hh x).1]
 constructor
 ·intro h;obtain ⟨y,hy,rfl⟩:=List.mem_map.1 h;rw [at_mem hn hy];rfl
 intro h;obtain ⟨y,hy⟩:=Option.isSome_iff_exists.1 h;obtain ⟨h1,rfl⟩:=qau hy;exact List.mem_map.2 ⟨y,h1,rfl⟩
theorem qf4 (D:DataW Nd) (h:Maps.IsMap D):(strKeys D).length=Maps.size D:=by
 obtain ⟨es,rfl⟩:=h;simp [strKeys,Maps.size]
theorem qce {w:World} {b n:Nat} {l:List It} {D:DataW Nd} (ho:w.ownsMap Tryz.prog 9 ndOf b n D) (hh:Has D l) (hn:(l.map (·.path)).Nodup):Maps.size D=l.length:=by
 have h:=(keys_perm ho hh hn).length_eq;rw [qf4 D ho.isMap] at h;simpa using h.symm
theorem TreeAt.len {w:World} {b:Nat} {l:List It} (h:TreeAt w b l) (hn:(l.map (·.path)).Nodup) (ty:TypeId):(Builtin.len_ #[64] ty #[.map (some b)]).run Tryz.prog w=.ok (.int .i64 l.length) w:=by
 obtain ⟨D,ho,hh⟩:=h
 have:=ho.len Tryz.underlying64 ty
 rw [qce ho hh hn] at this;exact this
def setIt (l:List It) (x:It):List It:=l.filter (fun y=>decide (y.path≠x.path))++[x]
theorem qgn (l m:List It) (p:Bs):at? (l++m) p=(at? l p).or (at? m p):=by simp [at?,List.find?_append]
theorem qby {l:List It} {p q:Bs} (h:p≠q):at? (l.filter (fun y=>decide (y.path≠q))) p=at? l p:=by
 induction l with
 | nil=>rfl
 | cons y l ih =>
   unfold at? at ih ⊢;by_cases e:y.path=q
   ·have:y.path≠p:=fun e'=>h (e'.symm.trans e)
    rw [List.filter_cons_of_neg (by simp [e]),List.find?_cons_of_neg (by simp [this]),ih]
   rw [List.filter_cons_of_pos (by simp [e]),List.find?_cons,List.find?_cons,ih]
theorem qbR (l:List It) (q:Bs):at? (l.filter (fun y=>decide (y.path≠q))) q=none:=by
 rw [at_none];intro x hx;simpa using (List.mem_filter.1 hx).2
theorem qbn (l:List It) (x:It):at? (setIt l x) x.path=some x:=by
 rw [setIt,qgn,qbR];simp [at?]
theorem qbv {l:List It} {x:It} {p:Bs} (h:p≠x.path):at? (setIt l x) p=at? l p:=by
 rw [setIt,qgn,qby h]
 have:at? [x] p=none:=by rw [at_none];intro y hy;simp at hy;subst hy;exact fun e=>h e.symm
 rw [this];cases at? l p<;>rfl
theorem Has.put {D:DataW Nd} {l:List It} (h:Has D l) (hm:Maps.IsMap D) (x:It):Has (D.put (.string x.path) (.held (nd x))) (setIt l x):=by
 intro p;by_cases e:p=x.path
 ·subst e;rw [qbn,Maps.has_put_same hm (k:=.string x.path) trivial];refine ⟨rfl,fun y hy z => ?_⟩;cases hy
  exact Maps.atKey_put_same hm (k:=.string x.path) trivial _ _
 have hne:(Lit.string p)≠.string x.path:=fun h=>e (by cases h;rfl)
 rw [qbv e,Maps.has_put_other hne];exact ⟨(h p).1,fun y hy z=>by rw [Maps.atKey_put_other hne];exact (h p).2 y hy z⟩
theorem Has.del {D:DataW Nd} {l:List It} (h:Has D l) (q:Bs):Has (D.del (.string q)) (l.filter (fun y=>decide (y.path≠q))):=by
 intro p;by_cases e:p=q
 ·subst e;rw [qbR,Maps.has_del_same];exact ⟨rfl,fun y hy=>by cases hy⟩
 have hne:(Lit.string p)≠.string q:=fun h=>e (by cases h;rfl)
 rw [qby e,Maps.has_del_other hne];exact ⟨(h p).1,fun y hy z=>by rw [Maps.atKey_del_other hne];exact (h p).2 y hy z⟩
theorem Has.same {D:DataW Nd} {l m:List It} (h:Has D l) (e:∀ p,at? l p=at? m p):Has D m:=fun p=>by rw [←e p];exact h p
theorem qnZ {l:List It} {x:It} (h:∀ y∈l,y.path≠x.path):setIt l x=l++[x]:=by
 unfold setIt;rw [List.filter_eq_self.2 (fun y hy=>by simpa using h y hy)]
theorem TreeAt.store {w:World} {b:Nat} {l:List It} (h:TreeAt w b l) (hn:(l.map (·.path)).Nodup) (hl:l.length<maxLen) (x:It) (hp:x.path.length≤maxLen) :
 ∃ w',(Instr.mapUpdate 64 (.map (some b)) (.string (txt x.path)) (ndv (nd x))).run Tryz.prog w=.ok () w'∧TreeAt w' b (setIt l x)∧w.mapTurned w' b:=by
 obtain ⟨D,ho,hh⟩:=h;obtain ⟨w',h1,h2,h3⟩:=ho.store law9 Tryz.underlying64 (by rw [qce ho hh hn];exact hl) (key9 hp) (qdH (nd x));exact ⟨w',h1,⟨_,tight h2,hh.put ho.isMap x⟩,h3⟩
theorem TreeAt.drop {w:World} {b:Nat} {l:List It} (h:TreeAt w b l) (p:Bs) (hp:p.length≤maxLen) (ty:TypeId) :
 ∃ w',(Builtin.delete_ #[64,9] ty #[.map (some b),.string (txt p)]).run Tryz.prog w=.ok (.tuple #[]) w'∧TreeAt w' b (l.filter (fun y=>decide (y.path≠p)))∧w.mapTurned w' b:=by
 obtain ⟨D,ho,hh⟩:=h;obtain ⟨w',h1,h2,h3⟩:=ho.drop law9 Tryz.underlying64 (key9 hp) ty;exact ⟨w',h1,⟨_,tight h2,hh.del p⟩,h3⟩
theorem qi2 (n:Int) (w:World):(Instr.makeMap 64 (some (.int .i64 n))).run Tryz.prog w=.ok (.map (some w.heap.size)) (w.alloc (.map #[] 0)):=by
 simp [Instr.makeMap,run_underlying Tryz.underlying64,asInt,asIntOf,Result.andThen]
def qa2 (l:List It) (p:Bs):Nat→Nat→Int
 | 0,_=>0
 | n+1,k=>if p.getD k 0=47 then
    match at? l (p.take k) with
    | none=>4
    | some x=>if x.dir then qa2 l p n (k+1) else 6
   else qa2 l p n (k+1)
def enterE (l:List It) (p:Bs):Int:=qa2 l p p.length 0
theorem qa8 (l:List It) (p:Bs) (hn:(l.map (·.path)).Nodup):∀ n k,qa2 l p n k=0↔∀ i,k≤i→i<k+n→p.getD i 0=47→dirAt l (p.take i)=true
 | 0,k=>by simp [qa2];intro i h1 h2;omega
 | n+1,k=>by
   unfold qa2;by_cases h:p.getD k 0=47
   ·rw [if_pos h];have hd:=qow hn (p.take k);cases ha:at? l (p.take k) with
    | none =>
      rw [ha] at hd;simp only
      constructor
      ·intro h';cases h'
      intro h'
      have:=h' k (Nat.le_refl _) (by omega) h
      rw [hd] at this;cases this
    | some x =>
      rw [ha] at hd;simp only;simp only at hd;by_cases hx:x.dir=true
      ·rw [if_pos hx,qa8 l p hn n (k+1)]
       constructor
       ·intro h' i h1 h2 h3;by_cases e:i=k
        ·subst e;rw [hd,hx]
        exact h' i (by omega) (by omega) h3
       exact fun h' i h1 h2 h3=>h' i (by omega) (by omega) h3
      rw [if_neg hx]
      constructor
      ·intro h';cases h'
      intro h'
      have:=h' k (Nat.le_refl _) (by omega) h
      rw [hd] at this;exact absurd this hx
   rw [if_neg h,qa8 l p hn n (k+1)]
   constructor
   ·intro h' i h1 h2 h3;by_cases e:i=k
    ·subst e;exact absurd h3 h
    exact h' i (by omega) (by omega) h3
   exact fun h' i h1 h2 h3=>h' i (by omega) (by omega) h3
theorem qbV (l:List It) (p:Bs) (hn:(l.map (·.path)).Nodup):qaK l p=decide (enterE l p=0):=by
 unfold qaK enterE;rw [Bool.eq_iff_iff,decide_eq_true_iff,qa8 l p hn,List.all_eq_true]
 constructor
 ·intro h i _ h2 h3
  have:=h i (List.mem_range.2 (by omega))
  rw [h3] at this;simpa using this
 intro h i hi;have hi':=List.mem_range.1 hi;by_cases e:p.getD i 0=47
 ·have:=h i (Nat.zero_le _) (by omega) e
  simp [this]
 have e':decide (p.getD i 0≠47)=true:=by simpa using e
 rw [e'];rfl
theorem qfM (b:Nat) (l:List It) (p:Bs) (w:World) (hT:TreeAt w b l) (hp:p.length≤1048576) :
 Calls Tryz.prog 72 #[.map (some b),.string (txt p)] w fun e w'=>Below w.heap.size w w'∧e=.returned (.int .i64 (enterE l p)):=by
 obtain ⟨X,hX⟩:∃ X,X=txt p:=⟨_,rfl⟩;have Sx:X.size=p.length:=by rw [hX,qaa]
 have gx:Hid (∀ k (h:k<X.size),X[k]'h=p.getD k 0):=fun k h=>by subst hX;exact qaV p k h
 have ex:Hid (∀ b,X.extract 0 b=txt (p.take b)):=fun b=>by subst hX;rw [qah];simp
 rw [←hX];have Hx:=hidI Sx;have HT:=hidI hT;have hX9:X.size≤1048576:=by omega
 clear hX Sx hp hT;go_enter Tryz.func72,Tryz.ntmps72
 go_wp2
 go_loopw [10] (fun i wr=>∃ k:Nat,k≤X.size∧i=.int .i64 k∧Hid (Below w.heap.size w wr)∧Hid (enterE l p=qa2 l p (X.size - k) k)) (fun i _=>X.size - (intOf i).toNat)
 case atStart=>exact ⟨0,Nat.zero_le _,rfl,hidI (Below.refl _ _),by have:=Hx.out;exact hidI (by rw [this];rfl)⟩
 case round =>
  obtain ⟨k,hk,rfl,Hb,He⟩:=hrel;by_cases hlt:k<X.size
  ·have hg:=gx.out k hlt;have hs:X.size - k=(X.size - (k+1))+1:=by omega
   have He':=He.out;rw [hs] at He';by_cases h47:X[k]'hlt=47
   ·have h47':(((X[k]'hlt).toNat:Int) != 47)=false:=by rw [h47];rfl
    have hT':=HT.out.below Hb.out HT.out.lt;have hkl:(p.take k).length≤maxLen:=by rw [List.length_take];unfold maxLen;have:=Hx.out;omega
    have hu:qa2 l p (X.size - (k+1)+1) k=match at? l (p.take k) with | none=>4 | some x=>if x.dir then qa2 l p (X.size - (k+1)) (k+1) else 6:=by
     show (if p.getD k 0=47 then _ else _)=_;rw [if_pos (by rw [←hg];exact h47)]
    rw [hu] at He';have hsz:=Hb.out.size;cases ha:at? l (p.take k) with
    | none =>
      rw [ha] at He';have hl:=(hT'.look_none hkl ha).1;rw [←ex.out] at hl;have HE:=hidI He';unfold ndv at hl;clear He' hu hg h47 hs ha hT';go_wp2;go_ret
      exact ⟨Hb.out.alloc hsz _,qaw HE.out.symm⟩
    | some x =>
      rw [ha] at He';have hl:=(hT'.look_some hkl ha).1;rw [←ex.out] at hl;unfold ndv nd at hl;obtain ⟨xd,hxd⟩:∃ o,o=x.dir:=⟨_,rfl⟩;simp only at He' hl;rw [←hxd] at He' hl;clear hu hg h47 hs ha hT' hxd;cases xd with
      | true =>
        have HE:Hid (enterE l p=qa2 l p (X.size - (k+1)) (k+1)):=hidI (by simpa using He');clear He';go_wp2;go_roundw
        case rel=>exact ⟨k+1,by omega,by go_num,hidI (Hb.out.alloc hsz _),HE⟩
        case measure=>simp [intOf];omega
      | false =>
        have HE:Hid (enterE l p=6):=hidI (by simpa using He');clear He';go_wp2;go_ret
        exact ⟨Hb.out.alloc hsz _,qaw HE.out.symm⟩
   have h47':(((X[k]'hlt).toNat:Int) != 47)=true:=bne_iff_ne.2 fun h=>h47 (UInt8.toNat_inj.1 (by have:(47:UInt8).toNat=47:=rfl;omega))
   have HE:Hid (enterE l p=qa2 l p (X.size - (k+1)) (k+1)):=by
    refine He'.trans ?_;show (if p.getD k 0=47 then _ else _)=_;rw [if_neg (by rw [←hg];exact h47)]
   clear He' hg h47 hs;go_wp2;go_roundw
   case rel=>exact ⟨k+1,by omega,by go_num,Hb,HE⟩
   case measure=>simp [intOf];omega
  have HE:Hid (enterE l p=0):=by
   have:=He.out
   rw [show X.size - k=0 by omega] at this;exact this
  go_wp2;go_ret
  exact ⟨Hb.out,qaw HE.out.symm⟩
end Go.Proofs.YtodmdkhdbfbfgabGreatDoor
namespace Go.Proofs.YtodmdkhdbfbfgabGreatDoor
open Go.RowKit
structure AbBox {β:Type} (bs:Nat) (J:β→World→Prop):Prop where
 set:∀ s W v,J s W→J s (W.setCell ⟨bs,0,none⟩ v)
 drew:∀ s W q,J s W→J s (W.drewN q)
def SeqBox {α:Type} (F:Fence) (n:Nat) (P:Program) (g:Nat) (lb:Array Value) (enc:α→Value) (n₀ bs:Nat) (xs:List α) (w:World):Prop:=
 ∀ (l:Nat) (J Jx:List α→World→Prop) (W:World),Below n₀ w W→AbBox bs J→AbBox bs Jx →
  (∀ pre x W1,J pre W1→pre++[x] <+: xs→YieldAt F (n - 1) P l #[enc x] W1 fun e W'=>(e=.returned (.bool true)∧J (pre++[x]) W'∧Below n₀ W1 W')∨(e=.returned (.bool false)∧Jx (pre++[x]) W')) →
  J [] W→CallsIn F n P g (#[.func (.yield l) #[] #[]]++lb) W fun e W'=>(∃ v,e=.returned v)∧(J xs W'∨∃ pre,pre <+: xs∧Jx pre W')
def qob {α:Type} (B:Nat) (I Ix:List α→World→Prop) (xs:List α) (W:World):Exit→Act→World→Prop
 | .normal,_,W'=>KeepsFrom B W W'∧Below B W W'∧I xs W'
 | .ret,_,W'=>KeepsFrom B W W'∧Ix xs W'
 | .exit _,_,_=>False
 | .goto _,_,_=>False
 | .panic _,_,_=>False
 | .outgrown,_,_=>False
def LoopAt (w:World) (r:Loop) (W:World):Prop:=W.heap[w.heap.size+1]? = some (.loop r)∧W.heap[w.heap.size]? = some (.deferred (some []))
theorem LoopAt.turn {w W:World} {r:Loop} (h:LoopAt w r W) (r':Loop):LoopAt w r' (W.putObj (w.heap.size+1) (.loop r')):=
 ⟨World.putObj_heap_same (Array.getElem?_eq_some_iff.1 h.1).1,(World.putObj_heap_other (by omega)).trans h.2⟩
theorem LoopAt.kept {w W W':World} {r:Loop} (h:LoopAt w r W) (k:KeepsFrom w.heap.size W W'):LoopAt w r W':=
 ⟨k.same _ _ (by omega) h.1 rfl,k.same _ _ (Nat.le_refl _) h.2 rfl⟩
theorem LoopAt.set {w W:World} {r:Loop} (h:LoopAt w r W) {bs:Nat} (hb:bs<w.heap.size) (v:Value):LoopAt w r (W.setCell ⟨bs,0,none⟩ v):=
 ⟨(Below.heap_setCell W ⟨bs,0,none⟩ v _ (by simp;omega)).trans h.1,(Below.heap_setCell W ⟨bs,0,none⟩ v _ (by simp;omega)).trans h.2⟩
variable {F:Fence} {n:Nat} {P:Program}
theorem qeO {α:Type} {g:Operand} {ps:Array Tmp} {assign body:Code} {Q:Exit→Act→World→Prop} {a:Act} {w:World}
 (hro:F.round=none) (h1:1≤n) {gf:Nat} {lb:Array Value} (hg:a.eval g=.func (.func gf) #[] lb) (hFg:F.fn gf) (eg:∀ args w,(callFunc gf args).run P w=.ok (.enter gf args) w)
 {enc:α→Value} {bs:Nat} {xs:List α} (hseq:SeqBox F (n - 1) P gf lb enc w.heap.size bs xs w) (hbs:bs<w.heap.size) (hps:ps.size=1)
 (I Ix:List α→World→Prop) (hI:OwnFrom w.heap.size I) (hIb:AbBox bs I) (hIx:OwnFrom w.heap.size Ix) (hIxb:AbBox bs Ix) (h0:I [] w) (a₁:α→Act)
 (hassign:∀ (l:Nat) (x:α) (W:World) (K:Act→World→Prop),K (a₁ x) W →
   assign.wpIn (F.inRound l) (n - 1 - 1) P (Exit.then K (fun _ _ _=>False)) { tmps:=(ps.zip #[enc x]).foldl (fun t (p,v)=>t.setIfInBounds p v) a.tmps,defers:=[] } W)
 (hbody:∀ (l:Nat) (pre:List α) (x:α) (W:World),I pre W→pre++[x] <+: xs→w.heap.size≤W.heap.size→body.wpIn (F.inRound l) (n - 1 - 1) P (qob w.heap.size I Ix (pre++[x]) W) (a₁ x) W)
 (hdone:∀ (D:Nat) (W:World),w.heap.size≤D→I xs W→W.heap[D]? = some (.deferred (some []))→Q .normal { a with defers:={ target:=.collected D,args:=#[] } :: a.defers } W)
 (hstop:∀ (D:Nat) (pre:List α) (W:World),w.heap.size≤D→pre <+: xs→Ix pre W→W.heap[D]? = some (.deferred (some []))→Code.ret.wpIn F n P Q { a with defers:={ target:=.collected D,args:=#[] } :: a.defers } W) :
 (Code.rangeFunc g ps assign body).wpIn F n P Q a w:=by
 refine wpIn_rangeFunc fun fn hfn => ?_
 rw [hro];obtain ⟨r,hr⟩:∃ r:LoopState→Option Code→Loop,r=fun st pe=>{ state:=st,pending:=pe,fn,tmps:=a.tmps,params:=ps,assign,body,defers:=w.heap.size }:=⟨_,rfl⟩
 obtain ⟨V,hV⟩:∃ V,V=(w.alloc (.deferred (some []))).alloc (.loop (r .ready none)):=⟨_,rfl⟩;have hL:LoopAt w (r .ready none) V:=by
  rw [hV];refine ⟨?_,(Below.heap_alloc _ _ _ (by simp)).trans (World.alloc_heap_new w _)⟩
  have:=World.alloc_heap_new (w.alloc (.deferred (some []))) (.loop (r .ready none))
  rwa [World.size_alloc] at this
 have hIV:I [] V:=by rw [hV];exact hI.alloc _ (hI.alloc _ h0)
 have hBV:Below w.heap.size w V:=by rw [hV];exact ((Below.refl _ w).alloc (Nat.le_refl _) _).alloc (by simp) _
 refine ⟨w.heap.size+1,[{ target:=.collected w.heap.size,args:=#[] }],V,{ target:=.fn (.func gf) lb,args:=#[.func (.yield (w.heap.size+1)) #[] #[]] },V,gf,
  #[.func (.yield (w.heap.size+1)) #[] #[]]++lb,V,?_,?_,?_,?_,fun _=>h1,?_⟩
 ·rw [hV,hr];exact run_enterLoop_outer _ _ _ _ _
 ·simp only [resolve,hg];simp [go_sem]
 ·intro f' hf';simp [Target.leads] at hf';subst hf';exact hFg
 ·simp [invoke,go_sem,eg]
 refine (hseq (w.heap.size+1) (fun pre W=>I pre W∧LoopAt w (r .ready none) W) (fun pre W=>Ix pre W∧LoopAt w (r .done (some .ret)) W) V hBV
  ⟨fun s W v h=>⟨hIb.set s W v h.1,h.2.set hbs v⟩,fun s W q h=>⟨hIb.drew s W q h.1,h.2⟩⟩ ⟨fun s W v h=>⟨hIxb.set s W v h.1,h.2.set hbs v⟩,fun s W q h=>⟨hIxb.drew s W q h.1,h.2⟩⟩ ?_ ⟨hIV,hL⟩).mono ?_
 ·rintro pre x W ⟨hi,hl⟩ hpre;have hlt:=(Array.getElem?_eq_some_iff.1 hl.1).1;have hy:=run_yield (P:=P) (args:=#[enc x]) hl.1 (by rw [hr];simp [hps]);rw [hr] at hy;refine ⟨fn,_,assign,body,hy,roundIn_of_wpIn hfn (hassign _ x W _ ⟨_,run_beginRound hl.1 (by rw [hr]),?_⟩)⟩;clear hy;have hl2:LoopAt w { r .ready none with state:=.busy } (W.putObj (w.heap.size+1) (.loop { r .ready none with state:=.busy })):=hl.turn _;have hb2:Below w.heap.size W (W.putObj (w.heap.size+1) (.loop { r .ready none with state:=.busy })):=belowK_b (w:=w) (Nat.le_refl _) W _ _ _ (by omega) hl.1 rfl rfl;refine wpIn_mono (hbody _ pre x _ (hI.putObj _ hi (by omega) hl.1 rfl) hpre (Nat.le_trans (by omega) hb2.size)) ?_;rintro e a3 W3 hp;cases e with
  | normal =>
    obtain ⟨hk,hb,hi3⟩:=hp;have hl3:=hl2.kept hk;have he:=run_endRound (P:=P) none hl3.1;rw [hr] at he;refine ⟨_,_,he,.inl ⟨rfl,⟨hI.putObj _ hi3 (by omega) hl3.1 rfl,?_⟩,(hb2.trans hb).trans (belowK_b (w:=w) (Nat.le_refl _) _ _ _ _ (by omega) hl3.1 rfl rfl)⟩⟩
    have:=hl3.turn (r .ready none)
    rw [hr] at this ⊢;exact this
  | ret =>
    obtain ⟨hk,hi3⟩:=hp;have hl3:=hl2.kept hk;have he:=run_endRound (P:=P) (some .ret) hl3.1;rw [hr] at he;refine ⟨_,_,he,.inr ⟨rfl,hIx.putObj _ hi3 (by omega) hl3.1 rfl,?_⟩⟩
    have:=hl3.turn (r .done (some .ret))
    rw [hr] at this ⊢;exact this
  | exit id=>exact hp.elim
  | goto t=>exact hp.elim
  | panic ch=>exact hp.elim
  | outgrown=>exact hp.elim
 rintro e W2 ⟨⟨v,rfl⟩,(⟨hi,hl⟩ | ⟨pre,hpre,hi,hl⟩)⟩
 ·exact ⟨none,_,by have:=run_endLoop (P:=P) hl.1 (by rw [hr];simp);rw [hr] at this;exact this,hdone _ _ (Nat.le_refl _) (hI.putObj _ hi (by omega) hl.1 rfl) ((World.putObj_heap_other (by omega)).trans hl.2)⟩
 exact ⟨some .ret,_,by have:=run_endLoop (P:=P) hl.1 (by rw [hr];simp);rw [hr] at this;exact this,hstop _ pre _ (Nat.le_refl _) hpre (hIx.putObj _ hi (by omega) hl.1 rfl) ((World.putObj_heap_other (by omega)).trans hl.2)⟩
end Go.Proofs.YtodmdkhdbfbfgabGreatDoor
