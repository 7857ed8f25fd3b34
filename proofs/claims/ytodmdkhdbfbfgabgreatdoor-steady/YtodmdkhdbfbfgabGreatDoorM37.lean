/- Lemmas. -/
import Derived.Test.YtodmdkhdbfbfgabGreatDoorM36
set_option linter.unusedVariables false
set_option linter.unusedSimpArgs false
set_option maxRecDepth 100000
set_option maxHeartbeats 8000000
namespace Go.Proofs.YtodmdkhdbfbfgabGreatDoor.S1
open Go.RowKit Pk Go.Shelf
def bw (ls:List (Nat × Nat)):List (Nat × (Nat × Nat)):=(List.range ls.length).map (fun k=>(ls.length - 1 - k,ls[ls.length - 1 - k]!))
theorem qcd (ls:List (Nat × Nat)):(bw ls).length=ls.length:=by simp [bw]
theorem qmX (ls:List (Nat × Nat)) {k:Nat} (h:k<(bw ls).length):(bw ls)[k]=(ls.length - 1 - k,ls[ls.length - 1 - k]!):=by simp [bw]
theorem qmY (ls:List (Nat × Nat)):(bw ls).map (·.2)=ls.reverse:=by
 apply List.ext_getElem
 ·simp [bw]
 ·intro k h1 h2;simp [bw] at h1;rw [List.getElem_map,qmX,List.getElem_reverse];simp only;rw [getElem!_pos ls _ (by omega)]
theorem qjF (n:Nat) (hn:1≤n) (w:World) (B g cap:Nat) (ls:List (Nat × Nat)) (n₀:Nat) (S:Nat→Prop) (hB:B<n₀) (hg:g<n₀) (hSB:S B) (hSg:S g) (hlen:ls.length≤100000*100000) (hb:w.cell? ⟨B,0,none⟩=some (.slice (some ⟨g,0,none⟩) ls.length cap)) (cur:Array Value) (hrow:w.heap[g]? = some (.cells cur 74 (0,0))) (hc:cur.toList.take (ls.length*2)=lbs ls) :
 SeqRow Fence.wide n Tryz.prog 90 #[.pointer (some ⟨B,0,none⟩)] encIL (bw ls) n₀ S w:=by
 intro l J W hW hY h0;have hbW:W.cell? ⟨B,0,none⟩=some (.slice (some ⟨g,0,none⟩) ls.length cap):=by rw [hW.cell (p:=⟨B,0,none⟩) hB];exact hb
 have hrowW:W.heap[g]? = some (.cells cur 74 (0,0)):=(hW.block g hg).trans hrow;have HCur:Hid (∀ V:World,V.heap[g]? = some (.cells cur 74 (0,0))→∀ i,(h:i<ls.length)→V.cell? ⟨g,i*2,none⟩=some (.int .i64 (ls[i].1:Nat))∧V.cell? ⟨g,i*2+1,none⟩=some (.int .u32 (ls[i].2:Nat))):=hidI (fun V hr i h=>by
  have e:∀ k,k<ls.length*2→cur[k]? = (lbs ls)[k]? := fun k hk=>by
   rw [←hc,List.getElem?_take_of_lt hk,Array.getElem?_toList]
  rw [cell_of_row V g _ _ 74 (0,0) hr,cell_of_row V g _ _ 74 (0,0) hr,e _ (by omega),e _ (by omega)];exact qjy ls h)
 obtain ⟨m,hm⟩:∃ m,m=ls.length:=⟨_,rfl⟩;have Hm:=hidI hm;have hmb:m≤100000*100000:=by omega
 rw [←hm] at hbW;have HRW:=hidI hrowW;have HBW:Hid (∀ V:World,Keep S W V→V.cell? ⟨B,0,none⟩=some (.slice (some ⟨g,0,none⟩) m cap)):=hidI (fun V hV=>by rw [World.cell?_of_block (hV B hSB)];exact hbW);clear hb hrow hc hm hrowW;refine callsIn_of_wp Tryz.func90 rfl trivial ?_ rfl;simp only [Tryz.ntmps90,List.size_toArray,List.length_cons,List.length_nil,Nat.reduceAdd,Nat.reduceSub,Array.replicate_succ,Array.replicate_zero,List.push_toArray,List.append_toArray,List.nil_append,List.cons_append];gi_wp2
 gi_loopw [3] (fun i wr=>∃ p:Nat,p≤m∧i=.int .i64 ((p:Nat) - 1)∧J ((bw ls).take (m - p)) wr∧Hid (Keep S W wr)) (fun i _=>(intOf i+1).toNat)
 case atStart=>exact ⟨m,Nat.le_refl _,rfl,by simpa using h0,hidI (fun _ _=>rfl)⟩
 case round =>
  clear hbW;obtain ⟨p1,hp1,rfl,hJ,HK⟩:=hrel;by_cases hlt:0<p1
  ·obtain ⟨p,hp⟩:∃ p,p1=p+1:=⟨p1 - 1,by omega⟩;subst hp;have ep:(((p+1:Nat):Int) - 1)=(p:Nat):=by omega
   rw [ep];have hpl:p<ls.length:=by have:=Hm.out;omega
   obtain ⟨c0,c1⟩:=HCur.out wr ((HK.out g hSg).trans HRW.out) p hpl;obtain ⟨b,hb⟩:∃ b,b=(ls[p]).1:=⟨_,rfl⟩;obtain ⟨r,hr⟩:∃ r,r=(ls[p]).2:=⟨_,rfl⟩;have hcB:=HBW.out wr HK.out;have hkb:m - (p+1)<(bw ls).length:=by have:=Hm.out;rw [qcd];omega
   have hget:(bw ls)[m - (p+1)]=(p,(b,r)):=by
    have hm:=Hm.out;rw [qmX];have e:ls.length - 1 - (m - (p+1))=p:=by omega
    rw [e,getElem!_pos ls p hpl,hb,hr]
   obtain ⟨fn,tmps,assign,body,hyy,hR⟩:=hY ((bw ls).take (m - (p+1))) (p,(b,r)) wr hJ (by rw [←hget,List.take_append_getElem hkb];exact List.take_prefix _ _);unfold encIL at hyy;have HR:=hidI hR;have HT:Hid ((bw ls).take (m - p)=(bw ls).take (m - (p+1))++[(p,(b,r))]):=hidI (by
    rw [←hget,List.take_append_getElem hkb]
    congr 1
    omega)
   rw [←hb] at c0;rw [←hr] at c1;have i1:((p:Nat):Int)<(m:Nat):=by omega
   have i2:(0:Int)≤(p:Nat):=by omega
   clear hR hJ hget hb hr ep;gi_wp2_with gi_in;refine HR.out.mono ?_;rintro e W4 ⟨rfl,hJ4,hB4⟩;have HB4:=hidI (HK.out.trans hB4);have HJ4:=hidI hJ4;clear hJ4 hB4 HR hyy c0 c1 hcB;gi_wp2;go_roundw
   case rel=>exact ⟨p,by omega,rfl,by rw [HT.out];exact HJ4.out,HB4⟩
   case measure=>simp [intOf]
  ·have hp0:p1=0:=by omega
   subst hp0;have HJ:=hidI hJ;clear hJ;gi_wp2;go_end0
   exact ⟨⟨_,rfl⟩,by
    have:=HJ.out
    rw [Nat.sub_zero,List.take_of_length_le (by rw [qcd,←Hm.out];exact Nat.le_refl _)] at this;exact this⟩
end Go.Proofs.YtodmdkhdbfbfgabGreatDoor.S1
namespace Go.Proofs.YtodmdkhdbfbfgabGreatDoor.S1
open Go.RowKit Pk Go.Shelf
open Go.Nt (Fp lookF hasL hasL_iff FpOk qaw scanF recF txtF inF endF)
def psOf (l:List Fp) (b r:Nat):List Fp:=(recF l b r).getD []
structure WM (w:World) (z gm n:Nat) (l:List Fp) (D:DataW Value) (S:Nat→Nat→Bool) (ib nb:Nat→Nat→Nat):Prop where
 own:w.ownsMap Tryz.prog 74 anyOf gm n D
 has:∀ b r,b≤1000000→r≤4294967295→Maps.has D (lk b r)=S b r
 keys:∀ kl,Maps.has D kl=true→∃ b r,b≤1000000∧r≤4294967295∧kl=lk b r
 recs:∀ b r,S b r=true→b≤1000000∧r≤4294967295∧recF l b r=some (psOf l b r)∧(∀ zd,D.atKey (lk b r) zd=.held (rv (psOf l b r) b r (ib b r)))∧z≤ib b r∧nb b r≤100000∧BlAt w (ib b r) (nb b r) (inF (psOf l b r))
theorem WM.made {w:World} {gm z:Nat} (l:List Fp) (h:w.ownsMap Tryz.prog 74 anyOf gm 0 (.map [])):WM w z gm 0 l (.map []) (fun _ _=>false) (fun _ _=>0) (fun _ _=>0):=
 ⟨h,fun b r _ _=>rfl,fun kl h=>by simp [Maps.has] at h,fun b r h=>by cases h⟩
theorem WM.kept {w w':World} {z gm n:Nat} {l:List Fp} {D:DataW Value} {S:Nat→Nat→Bool} {ib nb:Nat→Nat→Nat} (h:WM w z gm n l D S ib nb) (hk:∀ k,k=gm∨z≤k→k<w.heap.size→w'.heap[k]? = w.heap[k]?):WM w' z gm n l D S ib nb:=
 ⟨qbh h.own (hk gm (.inl rfl) h.own.lt),h.has,h.keys,fun b r hs=>by
  obtain ⟨h1,h2,h3,h4,h5,h6,h7⟩:=h.recs b r hs;exact ⟨h1,h2,h3,h4,h5,h6,h7.of_block (hk _ (.inr h5) h7.lt)⟩⟩
theorem WM.store {w:World} {z gm n:Nat} {l:List Fp} {D:DataW Value} {S:Nat→Nat→Bool} {ib nb:Nat→Nat→Nat} (h:WM w z gm n l D S ib nb) {b r i k:Nat} (hb:b≤1000000) (hr:r≤4294967295) {ps:List Fp} (hps:recF l b r=some ps) (hi:z≤i) (hk:k≤100000) (hB:BlAt w i k (inF ps)) (hn:n≤1000000) (hz:gm<z) :
 ∃ w' D' ib' nb',(Instr.mapUpdate 105 (.map (some gm)) (lv b r) (rv ps b r i)).run Tryz.prog w=.ok () w'∧WM w' z gm (n+1) l D' (fun x y=>(x==b&&y==r)||S x y) ib' nb'∧w.mapTurned w' gm:=by
 obtain ⟨w',h1,h2,h3⟩:=h.own.store law90 Tryz.underlying105 (by unfold maxLen;omega) (key90 hb hr) (show anyOf (rv ps b r i)=some (.held (rv ps b r i),[]) from rfl);have hpo:psOf l b r=ps:=by unfold psOf;rw [hps];rfl
 have hM:=h.own.isMap;have hg:=h3.grown;have hbl:∀ q,z≤q→q<w.heap.size→w'.heap[q]? = w.heap[q]? := fun q hq hl=>hg.block q hl (fun e=>by cases e;omega)
 refine ⟨w',_,fun x y=>if x=b∧y=r then i else ib x y,fun x y=>if x=b∧y=r then k else nb x y,h1,⟨h2,fun x y hx hy => ?_,fun kl hkl => ?_,fun x y hs => ?_⟩,h3⟩
 ·by_cases e:x=b∧y=r
  ·obtain ⟨rfl,rfl⟩:=e;rw [Maps.has_put_same hM (k:=lk x y) (by unfold lk;trivial)];simp
  ·have hne:lk x y≠lk b r:=fun h'=>e (qek hx hy hb hr h')
   rw [Maps.has_put_other hne,h.has x y hx hy]
   have:(x==b&&y==r)=false:=by simpa using fun h1 h2=>e ⟨h1,h2⟩
   rw [this];simp
 ·by_cases e:kl=lk b r
  ·exact ⟨b,r,hb,hr,e⟩
  ·rw [Maps.has_put_other e] at hkl;exact h.keys kl hkl
 ·by_cases e:x=b∧y=r
  ·obtain ⟨rfl,rfl⟩:=e;simp only [and_self,if_true];refine ⟨hb,hr,by rw [hpo];exact hps,fun zd => ?_,hi,hk,?_⟩
   ·rw [Maps.atKey_put_same hM (k:=lk x y) (by unfold lk;trivial),hpo]
   ·rw [hpo];exact hB.of_block (hbl i hi hB.lt)
  ·have hs':S x y=true:=by
    have:(x==b&&y==r)=false:=by simpa using fun h1 h2=>e ⟨h1,h2⟩
    simpa [this] using hs
   obtain ⟨g1,g2,g3,g4,g5,g6,g7⟩:=h.recs x y hs';have hne:lk x y≠lk b r:=fun h'=>e (qek g1 g2 hb hr h')
   simp only [if_neg e];exact ⟨g1,g2,g3,fun zd=>by rw [Maps.atKey_put_other hne];exact g4 zd,g5,g6,g7.of_block (hbl _ g5 g7.lt)⟩
theorem WM.look {w:World} {z gm n:Nat} {l:List Fp} {D:DataW Value} {S:Nat→Nat→Bool} {ib nb:Nat→Nat→Nat} (h:WM w z gm n l D S ib nb) {b r:Nat} (hs:S b r=true):(Instr.lookup 105 (.map (some gm)) (lv b r) false).run Tryz.prog w=.ok (rv (psOf l b r) b r (ib b r)) w:=by
 obtain ⟨g1,g2,g3,g4,g5,g6,g7⟩:=h.recs b r hs;obtain ⟨v',ps',h3,h4⟩:=h.own.lookup law90 Tryz.underlying105 (zero94 w) (show anyOf rec0=some (.held rec0,[]) from rfl) (key90 g1 g2);rw [g4] at h4;rw [qkb h4] at h3;exact h3
end Go.Proofs.YtodmdkhdbfbfgabGreatDoor.S1
