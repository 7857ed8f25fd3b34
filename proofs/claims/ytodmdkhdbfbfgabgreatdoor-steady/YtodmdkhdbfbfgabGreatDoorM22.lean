/- Lemmas. -/
import Derived.Laws.AppendOwnNone
import Derived.Sort.KeysCollected
import Derived.Shelf.SlGeneric
import Derived.Shelf.Small.Utf8
import Derived.Shelf.Small.Strs
import Derived.Shelf.LaysM
import Derived.Shelf.Strconv.Clone
import Derived.Shelf.Strings.SplitShaped
import Derived.Shelf.Strings.IndexAnyAll
import Derived.Shelf.SlSortCmp.NoneTotal
import Derived.Shelf.SlIter.Sorted
import Derived.Shelf.SlIter.Nil
import Derived.Test.YtodmdkhdbfbfgabGreatDoorM21
set_option linter.unusedVariables false
set_option linter.unusedSimpArgs false
set_option maxRecDepth 100000
set_option maxHeartbeats 8000000
namespace Go.Proofs.YtodmdkhdbfbfgabGreatDoor
open Go.RowKit Go.Nt
theorem Tryz.info24:(Tryz.prog.info? 53).map (fun i=>(i.zero,i.size,i.bytes))=some (some (.agg #[.string ByteArray.empty,.bool false,.string ByteArray.empty,.int .i64 0,.int .i64 0]),5,56):=by kernel_rfl
def itl (x:It):List Value:=[.string (txt x.path),.bool x.dir,.string (txt x.data),.int .i64 x.mode,.int .i64 x.time]
def its (l:List It):List Value:=l.flatMap itl
theorem qhf (x:It) (l:List It):its (x :: l)=itl x++its l:=rfl
theorem qeo (l m:List It):its (l++m)=its l++its m:=by simp [its]
theorem qeq (x:It):its [x]=itl x:=by simp [its]
theorem qkC:∀ {l:List It} {k:Nat} {x:It},l[k]? = some x→∀ j,j<5→(its l)[k*5+j]? = (itl x)[j]?
 | [],k,x,h,_,_=>by simp at h
 | y :: l,0,x,h,j,hj=>by
   simp at h;subst h;rw [qhf,Nat.zero_mul,Nat.zero_add,List.getElem?_append_left (by simp [itl];omega)]
 | y :: l,k+1,x,h,j,hj=>by
   have h':l[k]? = some x:=by simpa using h
   rw [qhf,List.getElem?_append_right (by simp [itl];omega)]
   have:(k+1)*5+j - (itl y).length=k*5+j:=by simp [itl];omega
   rw [this];exact qkC h' j hj
theorem qcD {l:List It}:∀ u∈its l,u.oneCell'=true:=by
 intro u hu;obtain ⟨x,_,hx⟩:=List.mem_flatMap.1 hu;simp only [itl,List.mem_cons,List.not_mem_nil,or_false] at hx;rcases hx with rfl | rfl | rfl | rfl | rfl<;>rfl
theorem qhK (b o j:Nat):(⟨b,o,none⟩:Addr).add j=⟨b,o+j,none⟩:=by unfold Addr.add;split<;>simp_all
theorem ItAt.of_cells {w:World} {b o:Nat} {x:It} (h:∀ j u,(itl x)[j]? = some u→w.cell? ⟨b,o+j,none⟩=some u):ItAt w b o x:=
 ⟨h 0 _ rfl,h 1 _ rfl,h 2 _ rfl,h 3 _ rfl,h 4 _ rfl⟩
theorem ItAt.cell {w:World} {b o:Nat} {x:It} (h:ItAt w b o x) {j:Nat} {u:Value} (hu:(itl x)[j]? = some u):w.cell? ⟨b,o+j,none⟩=some u:=by
 obtain ⟨h0,h1,h2,h3,h4⟩:=h
 match j,hu with
 | 0,hu=>simp [itl] at hu;subst hu;exact h0
 | 1,hu=>simp [itl] at hu;subst hu;exact h1
 | 2,hu=>simp [itl] at hu;subst hu;exact h2
 | 3,hu=>simp [itl] at hu;subst hu;exact h3
 | 4,hu=>simp [itl] at hu;subst hu;exact h4
 | j+5,hu=>simp [itl] at hu
theorem qfL {w:World} {B:Nat} {v:Value} {l:List It} (h:w.ownsRow B 53 5 v l.length (its l)):(v=.slice none 0 0∧l=[])∨∃ g cap,v=.slice (some ⟨g,0,none⟩) l.length cap∧B≤g∧g<w.heap.size∧l.length≤cap∧cap≤maxLen∧∀ k (x:It),l[k]? = some x→ItAt w g (0+k*5) x:=by
 rcases h.2 with ⟨rfl,h0⟩ | ⟨g,cap,cur,rfl,hb,hh,h1,h2,h3,h4⟩
 ·exact .inl ⟨rfl,List.eq_nil_of_length_eq_zero h0⟩
 ·refine .inr ⟨g,cap,rfl,hb,qaa hh,h1,h2,fun k x hx=>ItAt.of_cells fun j u hu => ?_⟩;have hk:k<l.length:=(List.getElem?_eq_some_iff.1 hx).1;have hj:j<5:=by have:=(List.getElem?_eq_some_iff.1 hu).1;simpa [itl] using this
  have:=qkC hx j hj
  rw [hu,←h4,List.getElem?_take_of_lt (by omega)] at this;rw [cell_of_row w g _ cur 53 (0,0) hh,Nat.zero_add];simpa using this
theorem qmV {w:World} {B:Nat} {v:Value} {l:List It} (h:w.ownsRow B 53 5 v l.length (its l)):∃ a c,v=.slice a l.length c∧ItsIn w a l:=by
 rcases qfL h with ⟨rfl,rfl⟩ | ⟨g,cap,rfl,_,_,_,_,hc⟩
 ·exact ⟨none,0,rfl,fun hn=>absurd rfl hn⟩
 ·exact ⟨_,cap,rfl,fun _=>⟨g,0,rfl,hc⟩⟩
structure Nd where
 dir:Bool
 data:Bs
 mode:Int
 time:Int
deriving DecidableEq,Inhabited
def nd (x:It):Nd:=⟨x.dir,x.data,x.mode,x.time⟩
def itOf (p:Bs) (n:Nd):It:=⟨p,n.dir,n.data,n.mode,n.time⟩
theorem qjT (x:It):itOf x.path (nd x)=x:=rfl
theorem qnK (p:Bs) (n:Nd):nd (itOf p n)=n:=rfl
def ndv (n:Nd):Value:=.agg #[.bool n.dir,.string (txt n.data),.int .i64 n.mode,.int .i64 n.time]
def ndOf:Value→Option (DataW Nd × List MemPlace)
 | .agg cs=>match cs.toList with
   | [.bool d,.string s,.int .i64 m,.int .i64 t]=>some (.held ⟨d,s.data.toList,m,t⟩,[])
   | _=>none
 | _=>none
theorem qdI (n:Nd):ndOf (ndv n)=some (.held n,[]):=rfl
theorem qbX {v:Value} {n:Nd} {ps:List MemPlace} (h:ndOf v=some (.held n,ps)):v=ndv n:=by
 unfold ndOf at h
 split at h
 ·rename_i cs
  split at h
  ·rename_i d s m t hc;simp at h;obtain ⟨rfl,_⟩:=h
   have:cs=#[.bool d,.string s,.int .i64 m,.int .i64 t]:=by
    apply Array.toList_inj.1
    exact hc
   rw [this];unfold ndv;rw [←qm3]
  ·cases h
 ·cases h
def at? (l:List It) (p:Bs):Option It:=l.find? fun x=>decide (x.path=p)
theorem qaO {l:List It} {p:Bs} {x:It} (h:at? l p=some x):x∈l∧x.path=p:=⟨List.mem_of_find?_eq_some h,by simpa using List.find?_some h⟩
theorem at_none {l:List It} {p:Bs}:at? l p=none↔∀ x∈l,x.path≠p:=by simp [at?]
theorem qbo {l:List It} (hn:(l.map (·.path)).Nodup) {x:It} (hx:x∈l):at? l x.path=some x:=by
 induction l with
 | nil=>simp at hx
 | cons y l ih =>
   unfold at?;rw [List.find?_cons];by_cases e:y.path=x.path
   ·simp [e];simp at hn hx;rcases hx with rfl | hx
    ·rfl
    ·exact absurd e.symm (fun e'=>hn.1 x hx e')
   ·simp [e];simp at hn hx;rcases hx with rfl | hx
    ·exact absurd rfl e
    ·exact ih hn.2 hx
theorem qn9 {l:List It} (hn:(l.map (·.path)).Nodup) (p:Bs):dirAt l p=(match at? l p with | some x=>x.dir | none=>false):=by
 cases h:at? l p with
 | none =>
   have h':=at_none.1 h;unfold dirAt;simp only [List.any_eq_false];intro x hx;simp [h' x hx]
 | some x =>
   obtain ⟨hx,rfl⟩:=qaO h;obtain ⟨k,hk,rfl⟩:=List.getElem_of_mem hx;show dirAt l _=l[k].dir;unfold dirAt;cases hd:l[k].dir with
   | true=>exact List.any_eq_true.2 ⟨_,hx,by simp [hd]⟩
   | false =>
     rw [List.any_eq_false];intro y hy;by_cases e:y.path=l[k].path
     ·have h1:=qbo hn hy;have h2:=qbo hn hx;rw [e,h2] at h1;cases h1
      simp [hd]
     ·simp [e]
def Has (D:DataW Nd) (l:List It):Prop:=
 ∀ p,Maps.has D (.string p)=(at? l p).isSome∧∀ x,at? l p=some x→∀ z,D.atKey (.string p) z=.held (nd x)
def TreeAt (w:World) (b:Nat) (l:List It):Prop:=
 ∃ D:DataW Nd,w.ownsMap Tryz.prog 9 ndOf b (Maps.size D) D∧Has D l
theorem law9:Maps.Keyed Tryz.prog 9:=Maps.string_keyed Tryz.underlying9
theorem zero46 (w:World):(zeroValue 94).run Tryz.prog w=.ok (ndv ⟨false,[],0,0⟩) w:=by kernel_rfl
theorem tight {w:World} {b n:Nat} {D:DataW Nd} (h:w.ownsMap Tryz.prog 9 ndOf b n D):w.ownsMap Tryz.prog 9 ndOf b (Maps.size D) D:=by
 obtain ⟨es,clock,hb,F,hs,rfl⟩:=h;exact ⟨es,clock,hb,F,by simp [Maps.size,length_sorted],rfl⟩
theorem TreeAt.lt {w:World} {b:Nat} {l:List It} (h:TreeAt w b l):b<w.heap.size:=by
 obtain ⟨D,h,_⟩:=h;exact h.lt
theorem TreeAt.of_block {w w':World} {b:Nat} {l:List It} (h:TreeAt w b l) (hb:w'.heap[b]? = w.heap[b]?):TreeAt w' b l:=by
 obtain ⟨D,⟨es,clock,h1,h2⟩,hh⟩:=h;exact ⟨D,⟨es,clock,hb.trans h1,h2⟩,hh⟩
theorem TreeAt.below {w w':World} {B b:Nat} {l:List It} (h:TreeAt w b l) (hb:Below B w w') (hlt:b<B):TreeAt w' b l:=h.of_block (hb.block b hlt)
theorem qka (w:World):TreeAt (w.alloc (.map #[] 0)) w.heap.size []:=
 ⟨.map [],World.ownsMap_made w _ _ _,fun p=>⟨rfl,fun x hx=>by simp [at?] at hx⟩⟩
theorem key9 {p:Bs} (h:p.length≤maxLen):keyOf Tryz.prog 9 (.string (txt p))=some (.string p):=WideMaps.keyOf_string_mk Tryz.underlying9 (by rw [qab];exact h)
theorem TreeAt.look_some {w:World} {b:Nat} {l:List It} {p:Bs} {x:It} (h:TreeAt w b l) (hp:p.length≤maxLen) (hx:at? l p=some x) :
 (Instr.lookup 64 (.map (some b)) (.string (txt p)) true).run Tryz.prog w=.ok (.tuple #[ndv (nd x),.bool true]) w∧(Instr.lookup 64 (.map (some b)) (.string (txt p)) false).run Tryz.prog w=.ok (ndv (nd x)) w:=by
 obtain ⟨D,ho,hh⟩:=h;obtain ⟨v,ps,h1,h2⟩:=ho.look_ok law9 Tryz.underlying64 (zero46 w) (qdI _) (key9 hp);obtain ⟨v',ps',h3,h4⟩:=ho.lookup law9 Tryz.underlying64 (zero46 w) (qdI _) (key9 hp);rw [(hh p).2 x hx] at h2 h4;rw [qbX h2,(hh p).1,hx] at h1;rw [qbX h4] at h3;exact ⟨h1,h3⟩
theorem TreeAt.look_none {w:World} {b:Nat} {l:List It} {p:Bs} (h:TreeAt w b l) (hp:p.length≤maxLen) (hx:at? l p=none) :
 (Instr.lookup 64 (.map (some b)) (.string (txt p)) true).run Tryz.prog w=.ok (.tuple #[ndv ⟨false,[],0,0⟩,.bool false]) w∧(Instr.lookup 64 (.map (some b)) (.string (txt p)) false).run Tryz.prog w=.ok (ndv ⟨false,[],0,0⟩) w:=by
 obtain ⟨D,ho,hh⟩:=h;have hno:Maps.has D (.string p)=false:=by rw [(hh p).1,hx];rfl
 obtain ⟨v,ps,h1,h2⟩:=ho.look_ok law9 Tryz.underlying64 (zero46 w) (qdI _) (key9 hp);obtain ⟨v',ps',h3,h4⟩:=ho.lookup law9 Tryz.underlying64 (zero46 w) (qdI _) (key9 hp);rw [Maps.atKey_of_not_has hno] at h2 h4;rw [qbX h2,hno] at h1;rw [qbX h4] at h3;exact ⟨h1,h3⟩
theorem qfd {w:World} {b n:Nat} {l:List It} {D:DataW Nd} (ho:w.ownsMap Tryz.prog 9 ndOf b n D) (hh:Has D l) (hn:(l.map (·.path)).Nodup):(l.map (·.path)).Perm (strKeys D):=by
 obtain ⟨es,rfl,hp⟩:=ho.tidy law9;obtain ⟨es',e,hk⟩:=ho.keysOf;cases e
 refine perm_strKeys hp (fun p h => ?_) hn (fun x => ?_)
 ·obtain ⟨v,hv⟩:=hk p h;obtain ⟨x,_,hx,_⟩:=Maps.keyOf_str Tryz.underlying9 hv;exact ⟨x,hx⟩
 ·rw [(hh x).1]
  constructor
  ·intro h;obtain ⟨y,hy,rfl⟩:=List.mem_map.1 h;rw [qbo hn hy];rfl
  ·intro h;obtain ⟨y,hy⟩:=Option.isSome_iff_exists.1 h;obtain ⟨h1,rfl⟩:=qaO hy;exact List.mem_map.2 ⟨y,h1,rfl⟩
theorem qfr (D:DataW Nd) (h:Maps.IsMap D):(strKeys D).length=Maps.size D:=by
 obtain ⟨es,rfl⟩:=h;simp [strKeys,Maps.size]
theorem qb7 {w:World} {b n:Nat} {l:List It} {D:DataW Nd} (ho:w.ownsMap Tryz.prog 9 ndOf b n D) (hh:Has D l) (hn:(l.map (·.path)).Nodup):Maps.size D=l.length:=by
 have h:=(qfd ho hh hn).length_eq;rw [qfr D ho.isMap] at h;simpa using h.symm
theorem TreeAt.len {w:World} {b:Nat} {l:List It} (h:TreeAt w b l) (hn:(l.map (·.path)).Nodup) (ty:TypeId):(Builtin.len_ #[64] ty #[.map (some b)]).run Tryz.prog w=.ok (.int .i64 l.length) w:=by
 obtain ⟨D,ho,hh⟩:=h
 have:=ho.len Tryz.underlying64 ty
 rw [qb7 ho hh hn] at this;exact this
def setIt (l:List It) (x:It):List It:=l.filter (fun y=>decide (y.path≠x.path))++[x]
theorem qfu (l m:List It) (p:Bs):at? (l++m) p=(at? l p).or (at? m p):=by simp [at?,List.find?_append]
theorem qbu {l:List It} {p q:Bs} (h:p≠q):at? (l.filter (fun y=>decide (y.path≠q))) p=at? l p:=by
 induction l with
 | nil=>rfl
 | cons y l ih =>
   unfold at? at ih ⊢;by_cases e:y.path=q
   ·have:y.path≠p:=fun e'=>h (e'.symm.trans e)
    rw [List.filter_cons_of_neg (by simp [e]),List.find?_cons_of_neg (by simp [this]),ih]
   ·rw [List.filter_cons_of_pos (by simp [e]),List.find?_cons,List.find?_cons,ih]
theorem qbM (l:List It) (q:Bs):at? (l.filter (fun y=>decide (y.path≠q))) q=none:=by
 rw [at_none];intro x hx;simpa using (List.mem_filter.1 hx).2
theorem qbm (l:List It) (x:It):at? (setIt l x) x.path=some x:=by
 rw [setIt,qfu,qbM];simp [at?]
theorem qbt {l:List It} {x:It} {p:Bs} (h:p≠x.path):at? (setIt l x) p=at? l p:=by
 rw [setIt,qfu,qbu h]
 have:at? [x] p=none:=by rw [at_none];intro y hy;simp at hy;subst hy;exact fun e=>h e.symm
 rw [this];cases at? l p<;>rfl
theorem Has.put {D:DataW Nd} {l:List It} (h:Has D l) (hm:Maps.IsMap D) (x:It):Has (D.put (.string x.path) (.held (nd x))) (setIt l x):=by
 intro p;by_cases e:p=x.path
 ·subst e;rw [qbm,Maps.has_put_same hm (k:=.string x.path) trivial];refine ⟨rfl,fun y hy z => ?_⟩;cases hy
  exact Maps.atKey_put_same hm (k:=.string x.path) trivial _ _
 ·have hne:(Lit.string p)≠.string x.path:=fun h=>e (by cases h;rfl)
  rw [qbt e,Maps.has_put_other hne];exact ⟨(h p).1,fun y hy z=>by rw [Maps.atKey_put_other hne];exact (h p).2 y hy z⟩
theorem Has.del {D:DataW Nd} {l:List It} (h:Has D l) (q:Bs):Has (D.del (.string q)) (l.filter (fun y=>decide (y.path≠q))):=by
 intro p;by_cases e:p=q
 ·subst e;rw [qbM,Maps.has_del_same];exact ⟨rfl,fun y hy=>by cases hy⟩
 ·have hne:(Lit.string p)≠.string q:=fun h=>e (by cases h;rfl)
  rw [qbu e,Maps.has_del_other hne];exact ⟨(h p).1,fun y hy z=>by rw [Maps.atKey_del_other hne];exact (h p).2 y hy z⟩
theorem Has.same {D:DataW Nd} {l m:List It} (h:Has D l) (e:∀ p,at? l p=at? m p):Has D m:=fun p=>by rw [←e p];exact h p
theorem qnf {l:List It} {x:It} (h:∀ y∈l,y.path≠x.path):setIt l x=l++[x]:=by
 unfold setIt;rw [List.filter_eq_self.2 (fun y hy=>by simpa using h y hy)]
theorem TreeAt.store {w:World} {b:Nat} {l:List It} (h:TreeAt w b l) (hn:(l.map (·.path)).Nodup) (hl:l.length<maxLen) (x:It) (hp:x.path.length≤maxLen) :
 ∃ w',(Instr.mapUpdate 64 (.map (some b)) (.string (txt x.path)) (ndv (nd x))).run Tryz.prog w=.ok () w'∧TreeAt w' b (setIt l x)∧w.mapTurned w' b:=by
 obtain ⟨D,ho,hh⟩:=h;obtain ⟨w',h1,h2,h3⟩:=ho.store law9 Tryz.underlying64 (by rw [qb7 ho hh hn];exact hl) (key9 hp) (qdI (nd x));exact ⟨w',h1,⟨_,tight h2,hh.put ho.isMap x⟩,h3⟩
theorem TreeAt.drop {w:World} {b:Nat} {l:List It} (h:TreeAt w b l) (p:Bs) (hp:p.length≤maxLen) (ty:TypeId) :
 ∃ w',(Builtin.delete_ #[64,9] ty #[.map (some b),.string (txt p)]).run Tryz.prog w=.ok (.tuple #[]) w'∧TreeAt w' b (l.filter (fun y=>decide (y.path≠p)))∧w.mapTurned w' b:=by
 obtain ⟨D,ho,hh⟩:=h;obtain ⟨w',h1,h2,h3⟩:=ho.drop law9 Tryz.underlying64 (key9 hp) ty;exact ⟨w',h1,⟨_,tight h2,hh.del p⟩,h3⟩
theorem qh3 (n:Int) (w:World):(Instr.makeMap 64 (some (.int .i64 n))).run Tryz.prog w=.ok (.map (some w.heap.size)) (w.alloc (.map #[] 0)):=by
 simp [Instr.makeMap,run_underlying Tryz.underlying64,asInt,asIntOf,Result.andThen]
def qaS (l:List It) (p:Bs):Nat→Nat→Int
 | 0,_=>0
 | n+1,k=>if p.getD k 0=47 then
    match at? l (p.take k) with
    | none=>4
    | some x=>if x.dir then qaS l p n (k+1) else 6
   else qaS l p n (k+1)
def enterE (l:List It) (p:Bs):Int:=qaS l p p.length 0
theorem qbs (l:List It) (p:Bs) (hn:(l.map (·.path)).Nodup):∀ n k,qaS l p n k=0↔∀ i,k≤i→i<k+n→p.getD i 0=47→dirAt l (p.take i)=true
 | 0,k=>by simp [qaS];intro i h1 h2;omega
 | n+1,k=>by
   unfold qaS;by_cases h:p.getD k 0=47
   ·rw [if_pos h];have hd:=qn9 hn (p.take k);cases ha:at? l (p.take k) with
    | none =>
      rw [ha] at hd;simp only
      constructor
      ·intro h';cases h'
      ·intro h'
       have:=h' k (Nat.le_refl _) (by omega) h
       rw [hd] at this;cases this
    | some x =>
      rw [ha] at hd;simp only;simp only at hd;by_cases hx:x.dir=true
      ·rw [if_pos hx,qbs l p hn n (k+1)]
       constructor
       ·intro h' i h1 h2 h3;by_cases e:i=k
        ·subst e;rw [hd,hx]
        ·exact h' i (by omega) (by omega) h3
       ·exact fun h' i h1 h2 h3=>h' i (by omega) (by omega) h3
      ·rw [if_neg hx]
       constructor
       ·intro h';cases h'
       ·intro h'
        have:=h' k (Nat.le_refl _) (by omega) h
        rw [hd] at this;exact absurd this hx
   ·rw [if_neg h,qbs l p hn n (k+1)]
    constructor
    ·intro h' i h1 h2 h3;by_cases e:i=k
     ·subst e;exact absurd h3 h
     ·exact h' i (by omega) (by omega) h3
    ·exact fun h' i h1 h2 h3=>h' i (by omega) (by omega) h3
theorem qbP (l:List It) (p:Bs) (hn:(l.map (·.path)).Nodup):qaI l p=decide (enterE l p=0):=by
 unfold qaI enterE;rw [Bool.eq_iff_iff,decide_eq_true_iff,qbs l p hn,List.all_eq_true]
 constructor
 ·intro h i _ h2 h3
  have:=h i (List.mem_range.2 (by omega))
  rw [h3] at this;simpa using this
 ·intro h i hi;have hi':=List.mem_range.1 hi;by_cases e:p.getD i 0=47
  ·have:=h i (Nat.zero_le _) (by omega) e
   simp [this]
  ·have e':decide (p.getD i 0≠47)=true:=by simpa using e
   rw [e'];rfl
theorem qf9 (b:Nat) (l:List It) (p:Bs) (w:World) (hT:TreeAt w b l) (hp:p.length≤1048576) :
 Calls Tryz.prog 72 #[.map (some b),.string (txt p)] w fun e w'=>Below w.heap.size w w'∧e=.returned (.int .i64 (enterE l p)):=by
 obtain ⟨X,hX⟩:∃ X,X=txt p:=⟨_,rfl⟩;have Sx:X.size=p.length:=by rw [hX,qab]
 have gx:Hid (∀ k (h:k<X.size),X[k]'h=p.getD k 0):=fun k h=>by subst hX;exact qaV p k h
 have ex:Hid (∀ b,X.extract 0 b=txt (p.take b)):=fun b=>by subst hX;rw [qah];simp
 rw [←hX];have Hx:=hidI Sx;have HT:=hidI hT;have hX9:X.size≤1048576:=by omega
 clear hX Sx hp hT;go_enter Tryz.func72,Tryz.ntmps72
 go_wp2
 go_loopw [10] (fun i wr=>∃ k:Nat,k≤X.size∧i=.int .i64 k∧Hid (Below w.heap.size w wr)∧Hid (enterE l p=qaS l p (X.size - k) k)) (fun i _=>X.size - (intOf i).toNat)
 case atStart=>exact ⟨0,Nat.zero_le _,rfl,hidI (Below.refl _ _),by have:=Hx.out;exact hidI (by rw [this];rfl)⟩
 case round =>
  obtain ⟨k,hk,rfl,Hb,He⟩:=hrel;by_cases hlt:k<X.size
  ·have hg:=gx.out k hlt;have hs:X.size - k=(X.size - (k+1))+1:=by omega
   have He':=He.out;rw [hs] at He';by_cases h47:X[k]'hlt=47
   ·have h47':(((X[k]'hlt).toNat:Int) != 47)=false:=by rw [h47];rfl
    have hT':=HT.out.below Hb.out HT.out.lt;have hkl:(p.take k).length≤maxLen:=by rw [List.length_take];unfold maxLen;have:=Hx.out;omega
    have hu:qaS l p (X.size - (k+1)+1) k=match at? l (p.take k) with | none=>4 | some x=>if x.dir then qaS l p (X.size - (k+1)) (k+1) else 6:=by
     show (if p.getD k 0=47 then _ else _)=_;rw [if_pos (by rw [←hg];exact h47)]
    rw [hu] at He';have hsz:=Hb.out.size;cases ha:at? l (p.take k) with
    | none =>
      rw [ha] at He';have hl:=(hT'.look_none hkl ha).1;rw [←ex.out] at hl;have HE:=hidI He';unfold ndv at hl;clear He' hu hg h47 hs ha hT';go_wp2;go_ret
      exact ⟨Hb.out.alloc hsz _,qaB HE.out.symm⟩
    | some x =>
      rw [ha] at He';have hl:=(hT'.look_some hkl ha).1;rw [←ex.out] at hl;unfold ndv nd at hl;obtain ⟨xd,hxd⟩:∃ o,o=x.dir:=⟨_,rfl⟩;simp only at He' hl;rw [←hxd] at He' hl;clear hu hg h47 hs ha hT' hxd;cases xd with
      | true =>
        have HE:Hid (enterE l p=qaS l p (X.size - (k+1)) (k+1)):=hidI (by simpa using He');clear He';go_wp2;go_roundw
        case rel=>exact ⟨k+1,by omega,by go_num,hidI (Hb.out.alloc hsz _),HE⟩
        case measure=>simp [intOf];omega
      | false =>
        have HE:Hid (enterE l p=6):=hidI (by simpa using He');clear He';go_wp2;go_ret
        exact ⟨Hb.out.alloc hsz _,qaB HE.out.symm⟩
   ·have h47':(((X[k]'hlt).toNat:Int) != 47)=true:=bne_iff_ne.2 fun h=>h47 (UInt8.toNat_inj.1 (by have:(47:UInt8).toNat=47:=rfl;omega))
    have HE:Hid (enterE l p=qaS l p (X.size - (k+1)) (k+1)):=by
     refine He'.trans ?_;show (if p.getD k 0=47 then _ else _)=_;rw [if_neg (by rw [←hg];exact h47)]
    clear He' hg h47 hs;go_wp2;go_roundw
    case rel=>exact ⟨k+1,by omega,by go_num,Hb,HE⟩
    case measure=>simp [intOf];omega
  ·have HE:Hid (enterE l p=0):=by
    have:=He.out
    rw [show X.size - k=0 by omega] at this;exact this
   go_wp2;go_ret
   exact ⟨Hb.out,qaB HE.out.symm⟩
end Go.Proofs.YtodmdkhdbfbfgabGreatDoor
namespace Go.Proofs
open Go.Shelf
def Tryz.lays119_ren:Go.Shelf.Ren:=⟨fun | 119=>238 | n=>n,fun | 21=>21 | 4=>4 | n=>n,fun | n=>n⟩
theorem Tryz.lays119:Go.Proofs.Lays.n119 Tryz.prog Tryz.lays119_ren:={
 mixed:=by kernel_rfl
 f119:=Tryz.func238.trans (congrArg some (by kernel_rfl))
 t4:=Tryz.underlying4
 a4:=Tryz.isAgg4
 z4:=Tryz.sizeOf4
 v4:=Tryz.zeroValue4
 t21:=Tryz.underlying21
 a21:=Tryz.isAgg21
 z21:=Tryz.sizeOf21
 v21:=Tryz.zeroValue21 }
theorem Tryz.utf8_ValidRune (r:Int) (w:World) :
 Calls Tryz.prog 238 #[.int .i32 r] w fun e w'=>e=.returned (.bool (Lib.validRune r))∧w'=w:=Any.utf8_ValidRune Tryz.lays119 r w
def Tryz.lays137_ren:Go.Shelf.Ren:=⟨fun | 137=>237 | 217=>227 | 266=>244 | n=>n,fun | 9=>9 | 5=>5 | 3=>3 | n=>n,fun | n=>n⟩
theorem Tryz.lays137:Go.Proofs.Lays.n137 Tryz.prog Tryz.lays137_ren:={
 mixed:=by kernel_rfl
 f137:=Tryz.func237.trans (congrArg some (by kernel_rfl))
 f217:=Tryz.func227.trans (congrArg some (by kernel_rfl))
 f266:=Tryz.func244.trans (congrArg some (by kernel_rfl))
 t3:=Tryz.underlying3
 a3:=Tryz.isAgg3
 z3:=Tryz.sizeOf3
 v3:=Tryz.zeroValue3
 t5:=Tryz.underlying5
 a5:=Tryz.isAgg5
 z5:=Tryz.sizeOf5
 v5:=Tryz.zeroValue5
 t9:=Tryz.underlying9
 a9:=Tryz.isAgg9
 z9:=Tryz.sizeOf9
 v9:=Tryz.zeroValue9 }
open Go.RowKit in
theorem Tryz.strings_IndexByte (s:ByteArray) (c:Int) (w:World) :
 Calls Tryz.prog 237 #[.string s,.int .u8 c] w fun e w'=>e=.returned (.int .i64 (Lib.indexByte s.data.toList c.toNat.toUInt8))∧w'=w:=Any.strings_IndexByte Tryz.lays137 s c w
def Tryz.laysM316_ren:Go.Shelf.Ren:=⟨fun | 316=>81 | n=>n,fun | 9=>9 | 3=>3 | 4=>4 | 37=>50 | 0=>0 | 127=>181 | 5=>5 | n=>n,fun | n=>n⟩
theorem Tryz.laysM316:Go.Proofs.LaysM.n316 Tryz.prog Tryz.laysM316_ren:={
 mixed:=by kernel_rfl
 f316:=Tryz.func81.trans (congrArg some (by kernel_rfl))
 t0:=Tryz.underlying0
 a0:=Tryz.isAgg0
 z0:=Tryz.sizeOf0
 v0:=Tryz.zeroValue0
 t3:=Tryz.underlying3
 a3:=Tryz.isAgg3
 z3:=Tryz.sizeOf3
 v3:=Tryz.zeroValue3
 t4:=Tryz.underlying4
 a4:=Tryz.isAgg4
 z4:=Tryz.sizeOf4
 v4:=Tryz.zeroValue4
 t9:=Tryz.underlying9
 a9:=Tryz.isAgg9
 z9:=Tryz.sizeOf9
 v9:=Tryz.zeroValue9
 t37:=Tryz.underlying50
 a37:=Tryz.isAgg50
 z37:=Tryz.sizeOf50
 v37:=Tryz.zeroValue50
 t127:=Tryz.underlying181
 a127:=Tryz.isAgg181
 z127:=Tryz.sizeOf181
 v127:=Tryz.zeroValue181
 t5:=Tryz.underlying5
 a5:=Tryz.isAgg5
 z5:=Tryz.sizeOf5
 v5:=Tryz.zeroValue5
 i0:=by kernel_rfl
 i3:=by kernel_rfl
 i4:=by kernel_rfl
 i5:=by kernel_rfl
 i9:=by kernel_rfl
 i37:=by kernel_rfl
 i127:=by kernel_rfl }
open Go.RowKit in
theorem Tryz.stringslite_Clone (s:ByteArray) (w:World) (hlim:s.size≤281474976710656) :
 Calls Tryz.prog 81 #[.string s] w fun e w'=>e=.returned (.string s)∧Below w.heap.size w w':=Any.stringslite_Clone Tryz.laysM316 s w hlim
def Tryz.lays146_ren:Go.Shelf.Ren:=⟨fun | 146=>102 | 221=>135 | 268=>169 | 138=>142 | 143=>170 | 195=>177 | 197=>180 | 218=>178 | 219=>201 | 260=>208 | 217=>227 | 225=>228 | 224=>229 | 267=>230 | 266=>244 | 314=>245 | n=>n,fun | 9=>9 | 31=>61 | 3=>3 | 4=>4 | 0=>0 | 105=>244 | 21=>21 | 5=>5 | 46=>170 | 119=>298 | 139=>301 | 138=>300 | 146=>307 | 51=>72 | n=>n,fun | 1=>0 | 3=>1 | 4=>2 | n=>n⟩
theorem Tryz.lays146:Go.Proofs.Lays.n146 Tryz.prog Tryz.lays146_ren:={
 mixed:=by kernel_rfl
 f138:=Tryz.func142.trans (congrArg some (by kernel_rfl))
 f143:=Tryz.func170.trans (congrArg some (by kernel_rfl))
 f146:=Tryz.func102.trans (congrArg some (by kernel_rfl))
 f195:=Tryz.func177.trans (congrArg some (by kernel_rfl))
 f197:=Tryz.func180.trans (congrArg some (by kernel_rfl))
 f217:=Tryz.func227.trans (congrArg some (by kernel_rfl))
 f218:=Tryz.func178.trans (congrArg some (by kernel_rfl))
 f219:=Tryz.func201.trans (congrArg some (by kernel_rfl))
 f221:=Tryz.func135.trans (congrArg some (by kernel_rfl))
 f224:=Tryz.func229.trans (congrArg some (by kernel_rfl))
 f225:=Tryz.func228.trans (congrArg some (by kernel_rfl))
 f260:=Tryz.func208.trans (congrArg some (by kernel_rfl))
 f266:=Tryz.func244.trans (congrArg some (by kernel_rfl))
 f267:=Tryz.func230.trans (congrArg some (by kernel_rfl))
 f268:=Tryz.func169.trans (congrArg some (by kernel_rfl))
 f314:=Tryz.func245.trans (congrArg some (by kernel_rfl))
 t0:=Tryz.underlying0
 a0:=Tryz.isAgg0
 z0:=Tryz.sizeOf0
 v0:=Tryz.zeroValue0
 t3:=Tryz.underlying3
 a3:=Tryz.isAgg3
 z3:=Tryz.sizeOf3
 v3:=Tryz.zeroValue3
 t4:=Tryz.underlying4
 a4:=Tryz.isAgg4
 z4:=Tryz.sizeOf4
 v4:=Tryz.zeroValue4
 t5:=Tryz.underlying5
 a5:=Tryz.isAgg5
 z5:=Tryz.sizeOf5
 v5:=Tryz.zeroValue5
 t9:=Tryz.underlying9
 a9:=Tryz.isAgg9
 z9:=Tryz.sizeOf9
 v9:=Tryz.zeroValue9
 t21:=Tryz.underlying21
 a21:=Tryz.isAgg21
 z21:=Tryz.sizeOf21
 v21:=Tryz.zeroValue21
 t31:=Tryz.underlying61
 a31:=Tryz.isAgg61
 z31:=Tryz.sizeOf61
 v31:=Tryz.zeroValue61
 t46:=Tryz.underlying170
 a46:=Tryz.isAgg170
 z46:=Tryz.sizeOf170
 v46:=Tryz.zeroValue170
 t51:=Tryz.underlying72
 a51:=Tryz.isAgg72
 z51:=Tryz.sizeOf72
 v51:=Tryz.zeroValue72
 t105:=Tryz.underlying244
 a105:=Tryz.isAgg244
 z105:=Tryz.sizeOf244
 v105:=Tryz.zeroValue244
 t119:=Tryz.underlying298
 a119:=Tryz.isAgg298
 z119:=Tryz.sizeOf298
 t138:=Tryz.underlying300
 a138:=Tryz.isAgg300
 z138:=Tryz.sizeOf300
 v138:=Tryz.zeroValue300
 t139:=Tryz.underlying301
 a139:=Tryz.isAgg301
 z139:=Tryz.sizeOf301
 v139:=Tryz.zeroValue301
 t146:=Tryz.underlying307
 a146:=Tryz.isAgg307
 z146:=Tryz.sizeOf307
 v146:=Tryz.zeroValue307
 g1:=by kernel_rfl
 g3:=by kernel_rfl
 g4:=by kernel_rfl }
open Go.RowKit Go.Lib in
theorem Tryz.strings_Split (s sep:ByteArray) (m:Int) (w:World) (hs:s.size<4294967281) (hm:w.cell? ⟨0,0,none⟩=some (.int .i64 m)) (h1:1≤sep.size) :
 Calls Tryz.prog 102 #[.string s,.string sep] w fun e w' =>
  e=.returned (.slice (some ⟨w.heap.size,0,none⟩) (Lib.countB s sep+1) (Lib.countB s sep+1))∧w'=w.alloc (.cells ((Lib.splitB sep 0 (Lib.countB s sep) s).map Value.string).toArray 9):=Any.strings_Split Tryz.lays146 (by kernel_rfl) s sep m w hs hm h1
def Tryz.lays152_ren:Go.Shelf.Ren:=⟨fun | 152=>209 | 137=>237 | 119=>238 | 224=>229 | 225=>228 | 217=>227 | 266=>244 | n=>n,fun | 9=>9 | 21=>21 | 3=>3 | 4=>4 | 5=>5 | 0=>0 | 46=>170 | n=>n,fun | n=>n⟩
theorem Tryz.lays152:Go.Proofs.Lays.n152 Tryz.prog Tryz.lays152_ren:={
 mixed:=by kernel_rfl
 f119:=Tryz.func238.trans (congrArg some (by kernel_rfl))
 f137:=Tryz.func237.trans (congrArg some (by kernel_rfl))
 f152:=Tryz.func209.trans (congrArg some (by kernel_rfl))
 f217:=Tryz.func227.trans (congrArg some (by kernel_rfl))
 f224:=Tryz.func229.trans (congrArg some (by kernel_rfl))
 f225:=Tryz.func228.trans (congrArg some (by kernel_rfl))
 f266:=Tryz.func244.trans (congrArg some (by kernel_rfl))
 t0:=Tryz.underlying0
 a0:=Tryz.isAgg0
 z0:=Tryz.sizeOf0
 v0:=Tryz.zeroValue0
 t3:=Tryz.underlying3
 a3:=Tryz.isAgg3
 z3:=Tryz.sizeOf3
 v3:=Tryz.zeroValue3
 t4:=Tryz.underlying4
 a4:=Tryz.isAgg4
 z4:=Tryz.sizeOf4
 v4:=Tryz.zeroValue4
 t5:=Tryz.underlying5
 a5:=Tryz.isAgg5
 z5:=Tryz.sizeOf5
 v5:=Tryz.zeroValue5
 t9:=Tryz.underlying9
 a9:=Tryz.isAgg9
 z9:=Tryz.sizeOf9
 v9:=Tryz.zeroValue9
 t21:=Tryz.underlying21
 a21:=Tryz.isAgg21
 z21:=Tryz.sizeOf21
 v21:=Tryz.zeroValue21
 t46:=Tryz.underlying170
 a46:=Tryz.isAgg170
 z46:=Tryz.sizeOf170
 v46:=Tryz.zeroValue170 }
open Go.RowKit Go.Lib in
theorem Tryz.strings_IndexRune_ascii (s:ByteArray) (r:Int) (w:World) (h0:0≤r) (h1:r<128) :
 Calls Tryz.prog 209 #[.string s,.int .i32 r] w fun e w'=>e=.returned (.int .i64 (Lib.indexByte s.data.toList r.toNat.toUInt8))∧w'=w:=Any.strings_IndexRune_ascii Tryz.lays152 s r w h0 h1
def Tryz.lays226_ren:Go.Shelf.Ren:=⟨fun | 226=>210 | n=>n,fun | 3=>3 | 4=>4 | n=>n,fun | n=>n⟩
theorem Tryz.lays226:Go.Proofs.Lays.n226 Tryz.prog Tryz.lays226_ren:={
 mixed:=by kernel_rfl
 f226:=Tryz.func210.trans (congrArg some (by kernel_rfl))
 t3:=Tryz.underlying3
 a3:=Tryz.isAgg3
 z3:=Tryz.sizeOf3
 v3:=Tryz.zeroValue3
 t4:=Tryz.underlying4
 a4:=Tryz.isAgg4
 z4:=Tryz.sizeOf4
 v4:=Tryz.zeroValue4 }
open Go.RowKit Go.Lib in
theorem Tryz.strings_shouldUseASCIISet (n:Int) (w:World) :
 Calls Tryz.prog 210 #[.int .i64 n] w fun e w'=>e=.returned (.bool (decide (8<n)))∧w'=w:=Any.strings_shouldUseASCIISet Tryz.lays226 n w
def Tryz.lays153_ren:Go.Shelf.Ren:=⟨fun | 153=>181 | 152=>209 | 226=>210 | 227=>211 | 228=>212 | 137=>237 | 119=>238 | 224=>229 | 225=>228 | 217=>227 | 266=>244 | n=>n,fun | 9=>9 | 3=>3 | 4=>4 | 5=>5 | 21=>21 | 117=>272 | 116=>271 | 0=>0 | 46=>170 | 124=>303 | n=>n,fun | n=>n⟩
theorem Tryz.lays153:Go.Proofs.Lays.n153 Tryz.prog Tryz.lays153_ren:={
 mixed:=by kernel_rfl
 f119:=Tryz.func238.trans (congrArg some (by kernel_rfl))
 f137:=Tryz.func237.trans (congrArg some (by kernel_rfl))
 f152:=Tryz.func209.trans (congrArg some (by kernel_rfl))
 f153:=Tryz.func181.trans (congrArg some (by kernel_rfl))
 f217:=Tryz.func227.trans (congrArg some (by kernel_rfl))
 f224:=Tryz.func229.trans (congrArg some (by kernel_rfl))
 f225:=Tryz.func228.trans (congrArg some (by kernel_rfl))
 f226:=Tryz.func210.trans (congrArg some (by kernel_rfl))
 f227:=Tryz.func211.trans (congrArg some (by kernel_rfl))
 f228:=Tryz.func212.trans (congrArg some (by kernel_rfl))
 f266:=Tryz.func244.trans (congrArg some (by kernel_rfl))
 t0:=Tryz.underlying0
 a0:=Tryz.isAgg0
 z0:=Tryz.sizeOf0
 v0:=Tryz.zeroValue0
 t3:=Tryz.underlying3
 a3:=Tryz.isAgg3
 z3:=Tryz.sizeOf3
 v3:=Tryz.zeroValue3
 t4:=Tryz.underlying4
 a4:=Tryz.isAgg4
 z4:=Tryz.sizeOf4
 v4:=Tryz.zeroValue4
 t5:=Tryz.underlying5
 a5:=Tryz.isAgg5
 z5:=Tryz.sizeOf5
 v5:=Tryz.zeroValue5
 t9:=Tryz.underlying9
 a9:=Tryz.isAgg9
 z9:=Tryz.sizeOf9
 v9:=Tryz.zeroValue9
 t21:=Tryz.underlying21
 a21:=Tryz.isAgg21
 z21:=Tryz.sizeOf21
 v21:=Tryz.zeroValue21
 t46:=Tryz.underlying170
 a46:=Tryz.isAgg170
 z46:=Tryz.sizeOf170
 v46:=Tryz.zeroValue170
 t116:=Tryz.underlying271
 a116:=Tryz.isAgg271
 z116:=Tryz.sizeOf271
 t117:=Tryz.underlying272
 a117:=Tryz.isAgg272
 z117:=Tryz.sizeOf272
 v117:=Tryz.zeroValue272
 t124:=Tryz.underlying303
 a124:=Tryz.isAgg303
 z124:=Tryz.sizeOf303
 v124:=Tryz.zeroValue303 }
open Go.RowKit Go.Lib in
theorem Tryz.strings_IndexAny_long (hv116:∀ w,(zeroValue 271).run Tryz.prog w=.ok (.agg (Array.replicate 256 (.bool false))) w) (s chars:ByteArray) (w:World) (h2:2≤chars.size) (h8:8<s.size) (hs:s.size<4294967281) (hcs:chars.size<4294967281) (hascii:∀ (j:Nat) b,chars.data.toList[j]? = some b→b.toNat<128) :
 Calls Tryz.prog 181 #[.string s,.string chars] w fun e w'=>e=.returned (.int .i64 (Lib.indexAny s.data.toList chars.data.toList))∧w'=((w.alloc (.cells (Lib.setCells chars.data.toList) 271)).alloc (.cells (Lib.setCells chars.data.toList) 271)):=Any.strings_IndexAny_long Tryz.lays153 hv116 (by kernel_rfl) s chars w h2 h8 hs hcs hascii
def Tryz.sort27_ren:Go.Shelf.Ren:=⟨fun | 6=>99 | 15=>133 | 14=>132 | 28=>166 | 29=>167 | 20=>158 | 21=>159 | 22=>160 | 23=>161 | 24=>162 | 25=>163 | 26=>164 | 27=>165 | 46=>196 | 47=>197 | 48=>198 | 49=>199 | 50=>200 | 57=>226 | n=>n,fun | 22=>61 | 24=>9 | 25=>129 | 3=>3 | 39=>170 | 0=>0 | 53=>72 | 55=>227 | 4=>4 | 46=>219 | 45=>218 | 50=>223 | 5=>5 | 9=>9 | 66=>258 | 70=>262 | 76=>283 | 77=>266 | n=>n,fun | n=>n⟩
theorem Tryz.sort27:Go.Proofs.SlLaysF.n6 Tryz.prog Tryz.sort27_ren:={
 mixed:=by kernel_rfl
 f6:=⟨Tryz.f99.name,by decide,Tryz.func99.trans (congrArg some (by kernel_rfl))⟩
 f14:=⟨Tryz.f132.name,by decide,Tryz.func132.trans (congrArg some (by kernel_rfl))⟩
 f15:=Tryz.func133.trans (congrArg some (by kernel_rfl))
 f20:=⟨Tryz.f158.name,by decide,Tryz.func158.trans (congrArg some (by kernel_rfl))⟩
 f21:=⟨Tryz.f159.name,by decide,Tryz.func159.trans (congrArg some (by kernel_rfl))⟩
 f22:=⟨Tryz.f160.name,by decide,Tryz.func160.trans (congrArg some (by kernel_rfl))⟩
 f23:=⟨Tryz.f161.name,by decide,Tryz.func161.trans (congrArg some (by kernel_rfl))⟩
 f24:=⟨Tryz.f162.name,by decide,Tryz.func162.trans (congrArg some (by kernel_rfl))⟩
 f25:=⟨Tryz.f163.name,by decide,Tryz.func163.trans (congrArg some (by kernel_rfl))⟩
 f26:=⟨Tryz.f164.name,by decide,Tryz.func164.trans (congrArg some (by kernel_rfl))⟩
 f27:=⟨Tryz.f165.name,by decide,Tryz.func165.trans (congrArg some (by kernel_rfl))⟩
 f28:=Tryz.func166.trans (congrArg some (by kernel_rfl))
 f29:=Tryz.func167.trans (congrArg some (by kernel_rfl))
 f46:=⟨Tryz.f196.name,by decide,Tryz.func196.trans (congrArg some (by kernel_rfl))⟩
 f47:=Tryz.func197.trans (congrArg some (by kernel_rfl))
 f48:=Tryz.func198.trans (congrArg some (by kernel_rfl))
 f49:=⟨Tryz.f199.name,by decide,Tryz.func199.trans (congrArg some (by kernel_rfl))⟩
 f50:=⟨Tryz.f200.name,by decide,Tryz.func200.trans (congrArg some (by kernel_rfl))⟩
 f57:=⟨Tryz.f226.name,by decide,Tryz.func226.trans (congrArg some (by kernel_rfl))⟩
 t0:=Tryz.underlying0
 a0:=Tryz.isAgg0
 z0:=Tryz.sizeOf0
 v0:=Tryz.zeroValue0
 t3:=Tryz.underlying3
 a3:=Tryz.isAgg3
 z3:=Tryz.sizeOf3
 v3:=Tryz.zeroValue3
 t4:=Tryz.underlying4
 a4:=Tryz.isAgg4
 z4:=Tryz.sizeOf4
 v4:=Tryz.zeroValue4
 t5:=Tryz.underlying5
 a5:=Tryz.isAgg5
 z5:=Tryz.sizeOf5
 v5:=Tryz.zeroValue5
 t9:=Tryz.underlying9
 a9:=Tryz.isAgg9
 z9:=Tryz.sizeOf9
 v9:=Tryz.zeroValue9
 t22:=Tryz.underlying61
 a22:=Tryz.isAgg61
 z22:=Tryz.sizeOf61
 v22:=Tryz.zeroValue61
 a24:=Tryz.isAgg9
 z24:=Tryz.sizeOf9
 t25:=Tryz.underlying129
 a25:=Tryz.isAgg129
 z25:=Tryz.sizeOf129
 v25:=Tryz.zeroValue129
 t39:=Tryz.underlying170
 a39:=Tryz.isAgg170
 z39:=Tryz.sizeOf170
 v39:=Tryz.zeroValue170
 t45:=Tryz.underlying218
 a45:=Tryz.isAgg218
 z45:=Tryz.sizeOf218
 v45:=Tryz.zeroValue218
 t46:=Tryz.underlying219
 a46:=Tryz.isAgg219
 z46:=Tryz.sizeOf219
 v46:=Tryz.zeroValue219
 t50:=Tryz.underlying223
 a50:=Tryz.isAgg223
 z50:=Tryz.sizeOf223
 v50:=Tryz.zeroValue223
 t53:=Tryz.underlying72
 a53:=Tryz.isAgg72
 z53:=Tryz.sizeOf72
 v53:=Tryz.zeroValue72
 t55:=Tryz.underlying227
 a55:=Tryz.isAgg227
 z55:=Tryz.sizeOf227
 v55:=Tryz.zeroValue227
 t66:=Tryz.underlying258
 a66:=Tryz.isAgg258
 z66:=Tryz.sizeOf258
 v66:=Tryz.zeroValue258
 t70:=Tryz.underlying262
 a70:=Tryz.isAgg262
 z70:=Tryz.sizeOf262
 v70:=Tryz.zeroValue262
 t76:=Tryz.underlying283
 a76:=Tryz.isAgg283
 z76:=Tryz.sizeOf283
 v76:=Tryz.zeroValue283
 t77:=Tryz.underlying266
 a77:=Tryz.isAgg266
 z77:=Tryz.sizeOf266
 v77:=Tryz.zeroValue266 }
def Tryz.keys21_ren:Go.Shelf.Ren:=⟨fun | 7=>69 | 10=>100 | n=>n,fun | 23=>64 | 26=>9 | 3=>94 | 28=>127 | 0=>0 | 27=>126 | 33=>83 | 4=>4 | n=>n,fun | n=>n⟩
theorem Tryz.keys21:Go.Proofs.SlLaysZ.n7 Tryz.prog Tryz.keys21_ren:={
 mixed:=by kernel_rfl
 f7:=⟨Tryz.f69.name,by decide,Tryz.func69.trans (congrArg some (by kernel_rfl))⟩
 f10:=⟨Tryz.f100.name,by decide,Tryz.func100.trans (congrArg some (by kernel_rfl))⟩
 t0:=Tryz.underlying0
 a0:=Tryz.isAgg0
 z0:=Tryz.sizeOf0
 v0:=Tryz.zeroValue0
 t4:=Tryz.underlying4
 a4:=Tryz.isAgg4
 z4:=Tryz.sizeOf4
 v4:=Tryz.zeroValue4
 t23:=Tryz.underlying64
 a23:=Tryz.isAgg64
 z23:=Tryz.sizeOf64
 v23:=Tryz.zeroValue64
 t26:=Tryz.underlying9
 a26:=Tryz.isAgg9
 z26:=Tryz.sizeOf9
 v26:=Tryz.zeroValue9
 t27:=Tryz.underlying126
 a27:=Tryz.isAgg126
 z27:=Tryz.sizeOf126
 v27:=Tryz.zeroValue126
 t28:=Tryz.underlying127
 a28:=Tryz.isAgg127
 z28:=Tryz.sizeOf127
 v28:=Tryz.zeroValue127
 t33:=Tryz.underlying83
 a33:=Tryz.isAgg83
 z33:=Tryz.sizeOf83
 v33:=Tryz.zeroValue83 }
def Tryz.collect26_ren:Go.Shelf.Ren:=⟨fun | 8=>98 | 11=>131 | n=>n,fun | 26=>9 | 28=>127 | 24=>61 | 0=>0 | 33=>83 | 4=>4 | n=>n,fun | n=>n⟩
theorem Tryz.collect26:Go.Proofs.SlLaysZ.n8 Tryz.prog Tryz.collect26_ren:={
 mixed:=by kernel_rfl
 f8:=⟨Tryz.f98.name,by decide,Tryz.func98.trans (congrArg some (by kernel_rfl))⟩
 f11:=⟨Tryz.f131.name,by decide,Tryz.func131.trans (congrArg some (by kernel_rfl))⟩
 t0:=Tryz.underlying0
 a0:=Tryz.isAgg0
 z0:=Tryz.sizeOf0
 v0:=Tryz.zeroValue0
 t24:=Tryz.underlying61
 a24:=Tryz.isAgg61
 z24:=Tryz.sizeOf61
 v24:=Tryz.zeroValue61
 t26:=Tryz.underlying9
 a26:=Tryz.isAgg9
 z26:=Tryz.sizeOf9
 v26:=Tryz.zeroValue9
 t28:=Tryz.underlying127
 a28:=Tryz.isAgg127
 z28:=Tryz.sizeOf127
 v28:=Tryz.zeroValue127
 i26:=by kernel_rfl }
def Tryz.iter28_ren:Go.Shelf.Ren:=⟨fun | 10=>100 | n=>n,fun | 33=>83 | 23=>64 | 0=>0 | 4=>4 | 26=>9 | 3=>94 | n=>n,fun | n=>n⟩
theorem Tryz.iter28:Go.Proofs.SlLaysZ.n10 Tryz.prog Tryz.iter28_ren:={
 mixed:=by kernel_rfl
 f10:=⟨Tryz.f100.name,by decide,Tryz.func100.trans (congrArg some (by kernel_rfl))⟩
 t0:=Tryz.underlying0
 a0:=Tryz.isAgg0
 z0:=Tryz.sizeOf0
 v0:=Tryz.zeroValue0
 t4:=Tryz.underlying4
 a4:=Tryz.isAgg4
 z4:=Tryz.sizeOf4
 v4:=Tryz.zeroValue4
 t23:=Tryz.underlying64
 a23:=Tryz.isAgg64
 z23:=Tryz.sizeOf64
 v23:=Tryz.zeroValue64
 t26:=Tryz.underlying9
 a26:=Tryz.isAgg9
 z26:=Tryz.sizeOf9
 v26:=Tryz.zeroValue9
 t33:=Tryz.underlying83
 a33:=Tryz.isAgg83
 z33:=Tryz.sizeOf83
 v33:=Tryz.zeroValue83 }
end Go.Proofs
