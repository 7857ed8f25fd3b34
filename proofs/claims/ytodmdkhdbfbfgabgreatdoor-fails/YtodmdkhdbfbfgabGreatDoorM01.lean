/- Lemmas. -/
import Derived.Lib.BufferWrite
import Derived.Test.YtodmdkhdbfbfgabGreatDoorM00
set_option linter.unusedVariables false
set_option linter.unusedSimpArgs false
set_option maxRecDepth 100000
set_option maxHeartbeats 8000000
namespace Go.Proofs.YtodmdkhdbfbfgabGreatDoor.S1
open Go.RowKit Pk
structure M where
 nb:Nat
 np:Nat
 pg:Nat→Nat→List UInt8
 nx:Nat→Nat
 bd:Nat→Bool
 life:Int
 cut:Int
 fail:Int
 part:Int
structure WF (m:M):Prop where
 nb1:4≤m.nb
 nb2:m.nb≤32
 np1:4≤m.np
 np2:m.np≤16
 nx:∀ i,i<m.nb→m.nx i≤m.np
 pg:∀ i p,i<m.nb→p<m.np→(m.pg i p).length≤64
 life1:-1≤m.life
 life2:m.life≤1073741825
 fail1:-1≤m.fail
 fail2:m.fail≤1073741824
 cut1:0≤m.cut
 cut2:m.cut≤63
 part1:0≤m.part
 part2:m.part≤63
def Rw (w:World) (b:Nat) (t:TypeId) (n:Nat) (f:Nat→Value):Prop:=∃ cur,w.heap[b]? = some (.cells cur t (0,0))∧∀ i,i<n→cur[i]? = some (f i)
namespace Rw
variable {w w':World} {b:Nat} {t:TypeId} {n:Nat} {f g:Nat→Value}
theorem cell (h:Rw w b t n f) {i:Nat} (hi:i<n):w.cell? ⟨b,i,none⟩=some (f i):=by
 obtain ⟨c,hb,hc⟩:=h;rw [cell_of_row w b i c t (0,0) hb,hc i hi]
theorem frozen (h:Rw w b t n f) (i:Nat):w.frozen? ⟨b,i,none⟩=false:=by
 obtain ⟨c,hb,_⟩:=h;exact frozen_of_row w b i c t hb
theorem lt (h:Rw w b t n f):b<w.heap.size:=by obtain ⟨c,hb,_⟩:=h;exact lt_of_heap hb
theorem congr (h:Rw w b t n f) (e:∀ i,i<n→f i=g i):Rw w b t n g:=by
 obtain ⟨c,hb,hc⟩:=h;exact ⟨c,hb,fun i hi=>by rw [hc i hi,e i hi]⟩
theorem of_block (h:Rw w b t n f) (e:w'.heap[b]? = w.heap[b]?):Rw w' b t n f:=by
 obtain ⟨c,hb,hc⟩:=h;exact ⟨c,e.trans hb,hc⟩
theorem set (h:Rw w b t n f) (i:Nat) (v:Value):Rw (w.setCell ⟨b,i,none⟩ v) b t n (fun j=>if j=i then v else f j):=by
 obtain ⟨c,hb,hc⟩:=h;refine ⟨_,heap_setCell_same w b i c t v hb,fun j hj => ?_⟩;rw [Array.getElem?_setIfInBounds];have hl:j<c.size:=by
  rcases Nat.lt_or_ge j c.size with h | h
  ·exact h
  have:=hc j hj;rw [Array.getElem?_eq_none h] at this;cases this
 by_cases e:i=j
 ·subst e;rw [if_pos rfl,if_pos hl];simp
 rw [if_neg e,hc j hj];show some (f j)=some (if j=i then v else f j);rw [if_neg (fun h=>e h.symm)]
end Rw
theorem rowIs_rw {w:World} {b:Nat} {t:TypeId} {n:Nat} {f:Nat→Value} (h:w.rowIs b t n f):Rw w b t n f:=by
 obtain ⟨c,h1,_,h3⟩:=h;exact ⟨c,h1,h3⟩
theorem qhd {w:World} {base:Nat} {e:TypeId} {v:Value} {n:Nat} {f:Nat→Value} (h:w.ownsRow base e 1 v n ((List.range n).map f)) (hn:0<n):∃ g c,v=.slice (some ⟨g,0,none⟩) n c∧base≤g∧Rw w g e n f:=by
 rcases h.2 with ⟨_,h0⟩ | ⟨g,cap,cur,rfl,hb,hh,h1,h2,h3,h4⟩
 ·omega
 refine ⟨g,cap,rfl,hb,cur,hh,fun i hi => ?_⟩
 have:=congrArg (fun l:List Value=>l[i]?) h4
 simpa [hi] using this
structure Only (lo hi:Nat) (w w':World):Prop where
 os:w'.os=w.os
 tape:w'.tape=w.tape
 output:w'.output=w.output
 size:w.heap.size≤w'.heap.size
 block:∀ k,k<w.heap.size→¬(lo≤k∧k<hi)→w'.heap[k]? = w.heap[k]?
namespace Only
variable {lo hi:Nat} {a b c:World}
theorem refl (lo hi:Nat) (w:World):Only lo hi w w:=⟨rfl,rfl,rfl,Nat.le_refl _,fun _ _ _=>rfl⟩
theorem trans (h:Only lo hi a b) (k:Only lo hi b c):Only lo hi a c:=
 ⟨k.os.trans h.os,k.tape.trans h.tape,k.output.trans h.output,Nat.le_trans h.size k.size,fun i hi' hn=>(k.block i (Nat.lt_of_lt_of_le hi' h.size) hn).trans (h.block i hi' hn)⟩
theorem of_below (h:Below a.heap.size a b):Only lo hi a b:=⟨h.os,h.tape,h.output,h.size,fun k hk _=>h.block k hk⟩
theorem drew (h:Only lo hi a b):Only lo hi a b.drew:=h.trans ⟨rfl,rfl,rfl,Nat.le_refl _,fun _ _ _=>rfl⟩
theorem set (h:Only lo hi a b) {g:Nat} (hg:lo≤g∧g<hi) (o:Nat) (v:Value):Only lo hi a (b.setCell ⟨g,o,none⟩ v):=
 h.trans ⟨rfl,rfl,rfl,by simp,fun k _ hn=>Below.heap_setCell b ⟨g,o,none⟩ v k (fun e=>hn (by rw [e];exact hg))⟩
theorem below (h:Only lo hi a b) {B:Nat} (hB:B≤lo) (hs:B≤a.heap.size):Below B a b:=
 ⟨h.os,h.tape,h.output,h.size,fun k hk=>h.block k (by omega) (by omega)⟩
end Only
structure Loc where
 db:Nat
 nk:Nat
 bk:Nat
 rw:Nat→Nat
 cd:Nat
 cn:Nat
 ck:Nat
 cr:Nat→Nat
structure MemX (w:World) (lo hi cb:Nat) (T:TypeId) (L:Loc) (m:M) (enc:List UInt8→List UInt8) (g4 g5 g6 g7:Int):Prop where
 hcb:lo≤cb∧cb<hi
 hdb:lo≤L.db∧L.db<hi
 hnk:lo≤L.nk∧L.nk<hi
 hbk:lo≤L.bk∧L.bk<hi
 hrw:∀ i,i<m.nb→lo≤L.rw i∧L.rw i<hi
 inj:∀ i j,i<m.nb→j<m.nb→L.rw i=L.rw j→i=j
 hT:T≠61∧T≠3∧T≠4∧T≠9
 st:w.heap[cb]? = some (.cells #[.int .i64 (m.np:Nat),.slice (some ⟨L.db,0,none⟩) m.nb L.cd,.slice (some ⟨L.nk,0,none⟩) m.nb L.cn,.slice (some ⟨L.bk,0,none⟩) m.nb L.ck,.int .i64 g4,.int .i64 g5,.int .i64 g6,.int .i64 g7] T (0,0))
 data:Rw w L.db 61 m.nb (fun i=>.slice (some ⟨L.rw i,0,none⟩) m.np (L.cr i))
 next:Rw w L.nk 3 m.nb (fun i=>.int .i64 (m.nx i:Nat))
 bad:Rw w L.bk 4 m.nb (fun i=>.bool (m.bd i))
 page:∀ i,i<m.nb→Rw w (L.rw i) 9 m.np (fun p=>.string (txt (enc (m.pg i p))))
theorem qag {w:World} {i j:Nat} {c c':Array Value} {t t':TypeId} {f f':Nat × Nat} (h:w.heap[i]? = some (.cells c t f)) (h':w.heap[j]? = some (.cells c' t' f')) (hne:t≠t'):i≠j:=by
 intro e;subst e;rw [h] at h';simp at h';exact hne h'.2.1
theorem Rw.other {w:World} {b:Nat} {t:TypeId} {n:Nat} {f:Nat→Value} (h:Rw w b t n f) {g o:Nat} (hne:b≠g) (v:Value):Rw (w.setCell ⟨g,o,none⟩ v) b t n f:=
 h.of_block (Below.heap_setCell w ⟨g,o,none⟩ v b hne)
namespace MemX
variable {w w':World} {lo hi cb:Nat} {T:TypeId} {L:Loc} {m:M} {enc:List UInt8→List UInt8} {g4 g5 g6 g7:Int}
theorem of_blocks (h:MemX w lo hi cb T L m enc g4 g5 g6 g7) (e:∀ k,lo≤k→k<hi→w'.heap[k]? = w.heap[k]?):MemX w' lo hi cb T L m enc g4 g5 g6 g7:=
 ⟨h.hcb,h.hdb,h.hnk,h.hbk,h.hrw,h.inj,h.hT,(e cb h.hcb.1 h.hcb.2).trans h.st,h.data.of_block (e _ h.hdb.1 h.hdb.2),h.next.of_block (e _ h.hnk.1 h.hnk.2),h.bad.of_block (e _ h.hbk.1 h.hbk.2),
  fun i hi'=>(h.page i hi').of_block (e _ (h.hrw i hi').1 (h.hrw i hi').2)⟩
theorem below (h:MemX w lo hi cb T L m enc g4 g5 g6 g7) {B:Nat} (hB:hi≤B) (hb:Below B w w'):MemX w' lo hi cb T L m enc g4 g5 g6 g7:=
 h.of_blocks fun k h1 h2=>hb.block k (by omega)
theorem drewN (h:MemX w lo hi cb T L m enc g4 g5 g6 g7) (q:Nat):MemX (w.drewN q) lo hi cb T L m enc g4 g5 g6 g7:=h.of_blocks fun k _ _=>rfl
theorem drew (h:MemX w lo hi cb T L m enc g4 g5 g6 g7):MemX w.drew lo hi cb T L m enc g4 g5 g6 g7:=h.of_blocks fun k _ _=>rfl
theorem c0 (h:MemX w lo hi cb T L m enc g4 g5 g6 g7):w.cell? ⟨cb,0,none⟩=some (.int .i64 (m.np:Nat)):=by rw [cell_of_row w cb 0 _ T (0,0) h.st];rfl
theorem c1 (h:MemX w lo hi cb T L m enc g4 g5 g6 g7):w.cell? ⟨cb,1,none⟩=some (.slice (some ⟨L.db,0,none⟩) m.nb L.cd):=by rw [cell_of_row w cb 1 _ T (0,0) h.st];rfl
theorem c2 (h:MemX w lo hi cb T L m enc g4 g5 g6 g7):w.cell? ⟨cb,2,none⟩=some (.slice (some ⟨L.nk,0,none⟩) m.nb L.cn):=by rw [cell_of_row w cb 2 _ T (0,0) h.st];rfl
theorem c3 (h:MemX w lo hi cb T L m enc g4 g5 g6 g7):w.cell? ⟨cb,3,none⟩=some (.slice (some ⟨L.bk,0,none⟩) m.nb L.ck):=by rw [cell_of_row w cb 3 _ T (0,0) h.st];rfl
theorem c4 (h:MemX w lo hi cb T L m enc g4 g5 g6 g7):w.cell? ⟨cb,4,none⟩=some (.int .i64 g4):=by rw [cell_of_row w cb 4 _ T (0,0) h.st];rfl
theorem c5 (h:MemX w lo hi cb T L m enc g4 g5 g6 g7):w.cell? ⟨cb,5,none⟩=some (.int .i64 g5):=by rw [cell_of_row w cb 5 _ T (0,0) h.st];rfl
theorem c6 (h:MemX w lo hi cb T L m enc g4 g5 g6 g7):w.cell? ⟨cb,6,none⟩=some (.int .i64 g6):=by rw [cell_of_row w cb 6 _ T (0,0) h.st];rfl
theorem c7 (h:MemX w lo hi cb T L m enc g4 g5 g6 g7):w.cell? ⟨cb,7,none⟩=some (.int .i64 g7):=by rw [cell_of_row w cb 7 _ T (0,0) h.st];rfl
theorem fz (h:MemX w lo hi cb T L m enc g4 g5 g6 g7) (k:Nat):w.frozen? ⟨cb,k,none⟩=false:=frozen_of_row w cb k _ T h.st
theorem field (h:MemX w lo hi cb T L m enc g4 g5 g6 g7) (k:Nat) (v:Int) (h4 g5' g6' g7':Int)
 (he:(#[.int .i64 (m.np:Nat),.slice (some ⟨L.db,0,none⟩) m.nb L.cd,.slice (some ⟨L.nk,0,none⟩) m.nb L.cn,.slice (some ⟨L.bk,0,none⟩) m.nb L.ck,.int .i64 g4,.int .i64 g5,.int .i64 g6,.int .i64 g7]:Array Value).setIfInBounds k (.int .i64 v)=#[.int .i64 (m.np:Nat),.slice (some ⟨L.db,0,none⟩) m.nb L.cd,.slice (some ⟨L.nk,0,none⟩) m.nb L.cn,.slice (some ⟨L.bk,0,none⟩) m.nb L.ck,.int .i64 h4,.int .i64 g5',.int .i64 g6',.int .i64 g7']) :
 MemX (w.setCell ⟨cb,k,none⟩ (.int .i64 v)) lo hi cb T L m enc h4 g5' g6' g7':=by
 have hst:=heap_setCell_same w cb k _ T (.int .i64 v) h.st;rw [he] at hst;obtain ⟨cd,hcd,_⟩:=h.data;obtain ⟨cn,hcn,_⟩:=h.next;obtain ⟨ck,hck,_⟩:=h.bad;refine ⟨h.hcb,h.hdb,h.hnk,h.hbk,h.hrw,h.inj,h.hT,hst,h.data.other (qag hcd h.st (fun e=>h.hT.1 e.symm)) _,h.next.other (qag hcn h.st (fun e=>h.hT.2.1 e.symm)) _,h.bad.other (qag hck h.st (fun e=>h.hT.2.2.1 e.symm)) _,fun i hi' => ?_⟩;obtain ⟨cp,hcp,_⟩:=h.page i hi';exact (h.page i hi').other (qag hcp h.st (fun e=>h.hT.2.2.2 e.symm)) _
theorem re (h:MemX w lo hi cb T L m enc g4 g5 g6 g7) (m':M) (e1:m'.nb=m.nb) (e2:m'.np=m.np) (e3:m'.pg=m.pg) (e4:m'.nx=m.nx) (e5:m'.bd=m.bd):MemX w lo hi cb T L m' enc g4 g5 g6 g7:=by
 obtain ⟨nb,np,pg,nx,bd,_,_,_,_⟩:=m;obtain ⟨nb',np',pg',nx',bd',_,_,_,_⟩:=m';simp only at e1 e2 e3 e4 e5;subst e1 e2 e3 e4 e5;exact ⟨h.hcb,h.hdb,h.hnk,h.hbk,h.hrw,h.inj,h.hT,h.st,h.data,h.next,h.bad,h.page⟩
theorem setPage (h:MemX w lo hi cb T L m enc g4 g5 g6 g7) (i p:Nat) (hi':i<m.nb) (hp:p<m.np) (s:List UInt8) :
 MemX (w.setCell ⟨L.rw i,p,none⟩ (.string (txt (enc s)))) lo hi cb T L { m with pg:=fun a b=>if a=i∧b=p then s else m.pg a b } enc g4 g5 g6 g7:=by
 obtain ⟨cp,hcp,_⟩:=h.page i hi';obtain ⟨cd,hcd,_⟩:=h.data;obtain ⟨cn,hcn,_⟩:=h.next;obtain ⟨ck,hck,_⟩:=h.bad;refine ⟨h.hcb,h.hdb,h.hnk,h.hbk,h.hrw,h.inj,h.hT,(Below.heap_setCell w _ _ cb (qag h.st hcp h.hT.2.2.2)).trans h.st,h.data.other (qag hcd hcp (by decide)) _,h.next.other (qag hcn hcp (by decide)) _,h.bad.other (qag hck hcp (by decide)) _,fun j hj => ?_⟩;by_cases e:j=i
 ·subst e;refine ((h.page j hi').set p _).congr fun q hq => ?_
  show _=Value.string (txt (enc (if j=j∧q=p then s else m.pg j q)));by_cases e2:q=p
  ·rw [if_pos e2,if_pos ⟨rfl,e2⟩]
  rw [if_neg e2,if_neg (fun h=>e2 h.2)]
 refine ((h.page j hj).other (fun he=>e (h.inj j i hj hi' he)) _).congr fun q hq => ?_
 show _=Value.string (txt (enc (if j=i∧q=p then s else m.pg j q)));rw [if_neg (fun h=>e h.1)]
theorem setNx (h:MemX w lo hi cb T L m enc g4 g5 g6 g7) (i v:Nat) :
 MemX (w.setCell ⟨L.nk,i,none⟩ (.int .i64 (v:Nat))) lo hi cb T L { m with nx:=fun a=>if a=i then v else m.nx a } enc g4 g5 g6 g7:=by
 obtain ⟨cd,hcd,_⟩:=h.data;obtain ⟨cn,hcn,_⟩:=h.next;obtain ⟨ck,hck,_⟩:=h.bad;refine ⟨h.hcb,h.hdb,h.hnk,h.hbk,h.hrw,h.inj,h.hT,(Below.heap_setCell w _ _ cb (qag h.st hcn h.hT.2.1)).trans h.st,h.data.other (qag hcd hcn (by decide)) _,(h.next.set i _).congr fun j _ => ?_,h.bad.other (qag hck hcn (by decide)) _,fun j hj => ?_⟩
 ·show _=Value.int .i64 ((if j=i then v else m.nx j:Nat):Int);by_cases e:j=i
  ·rw [if_pos e,if_pos e]
  rw [if_neg e,if_neg e]
 obtain ⟨cp,hcp,_⟩:=h.page j hj;exact (h.page j hj).other (qag hcp hcn (by decide)) _
theorem setBd (h:MemX w lo hi cb T L m enc g4 g5 g6 g7) (i:Nat) (v:Bool) :
 MemX (w.setCell ⟨L.bk,i,none⟩ (.bool v)) lo hi cb T L { m with bd:=fun a=>if a=i then v else m.bd a } enc g4 g5 g6 g7:=by
 obtain ⟨cd,hcd,_⟩:=h.data;obtain ⟨cn,hcn,_⟩:=h.next;obtain ⟨ck,hck,_⟩:=h.bad;refine ⟨h.hcb,h.hdb,h.hnk,h.hbk,h.hrw,h.inj,h.hT,(Below.heap_setCell w _ _ cb (qag h.st hck h.hT.2.2.1)).trans h.st,h.data.other (qag hcd hck (by decide)) _,h.next.other (qag hcn hck (by decide)) _,(h.bad.set i _).congr fun j _ => ?_,fun j hj => ?_⟩
 ·show _=Value.bool (if j=i then v else m.bd j);by_cases e:j=i
  ·rw [if_pos e,if_pos e]
  rw [if_neg e,if_neg e]
 obtain ⟨cp,hcp,_⟩:=h.page j hj;exact (h.page j hj).other (qag hcp hck (by decide)) _
end MemX
def pad (l:List UInt8):List UInt8:=l++List.replicate (64 - l.length) 255
def CP (w:World) (lo hi cb:Nat) (L:Loc) (m:M):Prop:=MemX w lo hi cb 60 L m id m.life m.cut m.fail m.part
end Go.Proofs.YtodmdkhdbfbfgabGreatDoor.S1
namespace Go.Proofs.YtodmdkhdbfbfgabGreatDoor.S1
open Go.RowKit Pk
theorem qmf {w:World} {base:Nat} {v:Value} {n:Nat} {l:List UInt8} (h:w.ownsRow base 5 1 v n (Lib.strCells (txt l))) (hn:0<n) :
 ∃ g cap,v=.slice (some ⟨g,0,none⟩) n cap∧∀ j,j<n→w.cell? ⟨g,j,none⟩=some (.int .u8 (l.getD j 0).toNat):=by
 have hl:l.length=n:=by have:=h.1;rw [qaE] at this;simpa using this
 rcases h.2 with ⟨rfl,rfl⟩ | ⟨g,cap,cur,rfl,hb,hh,h1,h2,h3,h4⟩
 ·omega
 refine ⟨g,cap,rfl,fun j hj => ?_⟩;rw [h.cellAt j (by omega),qaE]
 have:j<l.length:=by omega
 simp [List.getD,this]
theorem qeB {w:World} {base:Nat} {v:Value} {n:Nat} {l:List UInt8} (h:w.ownsRow base 5 1 v n (Lib.strCells (txt l))):l.length=n∧∃ a c,v=.slice a n c:=by
 have hl:l.length=n:=by have:=h.1;rw [qaE] at this;simpa using this
 rcases h.2 with ⟨rfl,rfl⟩ | ⟨g,cap,cur,rfl,hb,hh,h1,h2,h3,h4⟩
 ·exact ⟨hl,_,_,rfl⟩
 exact ⟨hl,_,_,rfl⟩
theorem qcj (l:List UInt8) (b:UInt8):Lib.strCells (txt l)++[Value.int .u8 b.toNat]=Lib.strCells (txt (l++[b])):=by
 rw [qaE,qaE,List.map_append];rfl
theorem Tryz.info3:(Tryz.prog.info? 3).map (fun i=>(i.zero,i.size,i.bytes))=some (some (.int .i64 0),1,8):=by kernel_rfl
theorem qmH {w:World} {base:Nat} {v:Value} {k:Nat} {zs:Nat→Int} (h:w.ownsRow base 3 1 v k ((List.range k).map fun j=>Value.int .i64 (zs j))) :
 ∃ a cap,v=.slice a k cap∧IntsIn w a k zs:=by
 obtain ⟨hl,h⟩:=h;rcases h with ⟨rfl,rfl⟩ | ⟨g,cap,cur,rfl,hg,hh,hk,hm,hs,ht⟩
 ·exact ⟨none,0,rfl,fun h=>absurd h (by omega)⟩
 refine ⟨_,cap,rfl,fun _=>⟨g,0,rfl,fun j hj => ?_⟩⟩;have hown:w.ownsRow base 3 1 (.slice (some ⟨g,0,none⟩) k cap) k ((List.range k).map fun j=>Value.int .i64 (zs j)):=⟨hl,.inr ⟨g,cap,cur,rfl,hg,hh,hk,hm,hs,ht⟩⟩;rw [Nat.zero_add,hown.cellAt j (by omega)];simp [hj]
theorem hidI {p:Prop} (h:p):Hid p:=h
def lenOf:Value→Nat
 | .slice _ n _=>n
 | _=>0
def LensAt (s:List UInt8) (R:Option ((Nat→Int) × Nat)) (p pos:Nat) (z:Nat→Int):Prop:=
 (p≤288∧pos≤8*s.length∧(∀ j,p≤j→z j=0)∧∃ f,288≤p+f∧lensF s f p pos z=R)∨(288<p∧p≤320∧R=none)
theorem qiS {s:List UInt8} {R:Option ((Nat→Int) × Nat)} {p pos:Nat} {z:Nat→Int} (h:LensAt s R p pos z) (hp:p<288) (h4:¬8*s.length<pos+4) (hv:val s pos 4≠0) :
 LensAt s R (p+1) (pos+4) (upd z p (val s pos 4)):=by
 rcases h with ⟨_,hpos,hz,f,hf,hR⟩ | ⟨h,_⟩
 ·refine .inl ⟨by omega,by omega,fun j hj => ?_,?_⟩
  ·unfold upd;rw [if_neg (by omega)];exact hz j (by omega)
  obtain ⟨g,rfl⟩:∃ g,f=g+1:=⟨f - 1,by omega⟩;exact ⟨g,by omega,by rw [←hR,qfh s g p pos z hp h4 hv]⟩
 omega
theorem qi0 {s:List UInt8} {R:Option ((Nat→Int) × Nat)} {p pos:Nat} {z:Nat→Int} (h:LensAt s R p pos z) (hp:p<288) (h4:¬8*s.length<pos+4) (hv:val s pos 4=0) (h9:¬8*s.length<pos+9) :
 LensAt s R (p+1+val s (pos+4) 5) (pos+9) z:=by
 have h32:=qd2 s (pos+4) 5;rcases h with ⟨_,hpos,hz,f,hf,hR⟩ | ⟨h,_⟩
 ·obtain ⟨g,rfl⟩:∃ g,f=g+1:=⟨f - 1,by omega⟩;by_cases hov:288<p+1+val s (pos+4) 5
  ·refine .inr ⟨hov,by omega,?_⟩;rw [←hR,qiI s g p pos z hp h4 hv h9 hov]
  refine .inl ⟨by omega,by omega,fun j hj=>hz j (by omega),g,by omega,?_⟩;rw [←hR,qfw s g p pos z hp h4 hv h9 hov]
 omega
theorem qfR {s:List UInt8} {R:Option ((Nat→Int) × Nat)} {p pos:Nat} {z:Nat→Int} (h:LensAt s R p pos z) (hp:p<288) (h4:8*s.length<pos+4):R=none:=by
 rcases h with ⟨_,hpos,hz,f,hf,hR⟩ | ⟨h,_⟩
 ·rw [←hR,qgS s f p pos z hp hf h4]
 omega
theorem qe5 {s:List UInt8} {R:Option ((Nat→Int) × Nat)} {p pos:Nat} {z:Nat→Int} (h:LensAt s R p pos z) (hp:p<288) (h4:¬8*s.length<pos+4) (hv:val s pos 4=0) (h9:8*s.length<pos+9):R=none:=by
 rcases h with ⟨_,hpos,hz,f,hf,hR⟩ | ⟨h,_⟩
 ·obtain ⟨g,rfl⟩:∃ g,f=g+1:=⟨f - 1,by omega⟩;rw [←hR,qfc s g p pos z hp h4 hv h9]
 omega
theorem qiq {s:List UInt8} {R:Option ((Nat→Int) × Nat)} {pos:Nat} {z:Nat→Int} (h:LensAt s R 288 pos z):R=some (z,pos)∧pos≤8*s.length:=by
 rcases h with ⟨_,hpos,hz,f,hf,hR⟩ | ⟨h,_⟩
 ·rw [←hR,qeb];exact ⟨rfl,hpos⟩
 omega
theorem qiH {s:List UInt8} {R:Option ((Nat→Int) × Nat)} {p pos:Nat} {z:Nat→Int} (h:LensAt s R p pos z) (hp:p<288):pos≤8*s.length∧∀ j,p≤j→z j=0:=by
 rcases h with ⟨_,hpos,hz,_⟩ | ⟨h,_⟩
 ·exact ⟨hpos,hz⟩
 omega
def ansU:Option (List UInt8)→Ending
 | none=>.returned (.tuple #[.string ⟨#[]⟩,.int .i64 2])
 | some l=>.returned (.tuple #[.string (txt l),.int .i64 0])
theorem belowD {B:Nat} {w w':World} {q:Nat} (h:Below B (w.drewN q) w'):Below B w w':=(below_drewN (Below.refl _ _) q).trans h
def DataAt (s:List UInt8) (z:Nat→Int) (size:Nat) (R:Option (List UInt8 × Nat)) (out:List UInt8) (pos:Nat):Prop:=
 out.length≤size∧pos≤8*s.length∧∃ f,size≤out.length+f∧dataF s z 288 size f out pos=R
theorem qgA {s:List UInt8} {z:Nat→Int} {size:Nat} {R:Option (List UInt8 × Nat)} {out:List UInt8} {pos:Nat} (h:DataAt s z size R out pos) (hl:out.length<size) (hs:symF s z pos 288=none):R=none:=by
 obtain ⟨_,_,f,hf,hR⟩:=h;rw [←hR,qgI s z 288 size f out pos hl hs]
theorem qgz {s:List UInt8} {z:Nat→Int} {size:Nat} {R:Option (List UInt8 × Nat)} {out:List UInt8} {pos i:Nat} (h:DataAt s z size R out pos) (hl:out.length<size) (hh:hit s z pos i=true) (hi:i<256) :
 DataAt s z size R (out++[UInt8.ofNat i]) (pos+(z i).toNat):=by
 obtain ⟨_,_,f,hf,hR⟩:=h;obtain ⟨g,rfl⟩:∃ g,f=g+1:=⟨f - 1,by omega⟩;have h2:=(qbB s z pos i).1 hh;refine ⟨by simp;omega,h2.2.1,g,by simp;omega,?_⟩;rw [←hR,qem s z 288 size g out pos i hl (qbX s z pos i (by omega) hh) hi]
theorem qfD {s:List UInt8} {z:Nat→Int} {size:Nat} {R:Option (List UInt8 × Nat)} {out:List UInt8} {pos i:Nat} (h:DataAt s z size R out pos) (hl:out.length<size) (hi8:i<288) (hh:hit s z pos i=true) (hi:¬i<256)
 (h2:8*s.length<pos+(z i).toNat+12):R=none:=by
 obtain ⟨_,_,f,hf,hR⟩:=h;obtain ⟨g,rfl⟩:∃ g,f=g+1:=⟨f - 1,by omega⟩;rw [←hR,qgU s z 288 size g out pos i hl (qbX s z pos i hi8 hh) hi h2]
theorem qiC {s:List UInt8} {z:Nat→Int} {size:Nat} {R:Option (List UInt8 × Nat)} {out:List UInt8} {pos i:Nat} (h:DataAt s z size R out pos) (hl:out.length<size) (hi8:i<288) (hh:hit s z pos i=true) (hi:¬i<256)
 (h2:¬8*s.length<pos+(z i).toNat+12) (h3:out.length<val s (pos+(z i).toNat) 12+1∨size<out.length+(i - 253)):R=none:=by
 obtain ⟨_,_,f,hf,hR⟩:=h;obtain ⟨g,rfl⟩:∃ g,f=g+1:=⟨f - 1,by omega⟩;rw [←hR,qjV s z 288 size g out pos i hl (qbX s z pos i hi8 hh) hi h2 h3]
theorem qgF {s:List UInt8} {z:Nat→Int} {size:Nat} {R:Option (List UInt8 × Nat)} {out:List UInt8} {pos i:Nat} (h:DataAt s z size R out pos) (hl:out.length<size) (hi8:i<288) (hh:hit s z pos i=true) (hi:¬i<256)
 (h2:¬8*s.length<pos+(z i).toNat+12) (h3:¬(out.length<val s (pos+(z i).toNat) 12+1∨size<out.length+(i - 253))) :
 DataAt s z size R (cpy out (val s (pos+(z i).toNat) 12+1) (i - 253)) (pos+(z i).toNat+12):=by
 obtain ⟨_,_,f,hf,hR⟩:=h;obtain ⟨g,rfl⟩:∃ g,f=g+1:=⟨f - 1,by omega⟩;refine ⟨by rw [qcy];omega,by omega,g,by rw [qcy];omega,?_⟩;rw [←hR,qd0 s z 288 size g out pos i hl (qbX s z pos i hi8 hh) hi h2 h3]
theorem qiy {s:List UInt8} {z:Nat→Int} {size:Nat} {R:Option (List UInt8 × Nat)} {out:List UInt8} {pos:Nat} (h:DataAt s z size R out pos) (hl:¬out.length<size):R=some (out,pos):=by
 obtain ⟨_,_,f,hf,hR⟩:=h;rw [←hR,qep s z 288 size f out pos (by omega)]
theorem qiV (i:Nat) (h:i<256):(UInt8.ofNat i).toNat=i:=by simp [UInt8.toNat_ofNat'];omega
theorem qjW (x y:Int) (hx0:0≤x) (hx1:x<4611686018427387904) (hy0:0≤y) (hy1:y<2) (hx:x%2=0):bits .or .i64 x y=x+y:=
 bits_join .i64 62 (by decide) (fun n h0 h1=>by rw [IntKind.wrap_i64];omega) 1 x y hx0 (by simpa using hx) (by omega) hy0 (by omega) (by omega)
theorem qnK (x:Int) (h0:0≤x) (h1:x<256):bits .and .u8 x 1=x%2:=bits_mask .u8 8 (by decide) wraps_u8 1 (by decide) x h0 h1
def Rd (w:World) (rb:Nat) (s:List UInt8) (pos:Nat):Prop:=w.heap[rb]? = some (.cells #[.string (txt s),.int .i64 (pos:Nat)] 209 (0,0))
theorem Rd.cell0 {w:World} {rb:Nat} {s:List UInt8} {pos:Nat} (h:Rd w rb s pos):w.cell? ⟨rb,0,none⟩=some (.string (txt s)):=by
 rw [cell_of_row w rb 0 _ 209 (0,0) h];rfl
theorem Rd.cell1 {w:World} {rb:Nat} {s:List UInt8} {pos:Nat} (h:Rd w rb s pos):w.cell? ⟨rb,1,none⟩=some (.int .i64 (pos:Nat)):=by
 rw [cell_of_row w rb 1 _ 209 (0,0) h];rfl
theorem Rd.frozen1 {w:World} {rb:Nat} {s:List UInt8} {pos:Nat} (h:Rd w rb s pos):w.frozen? ⟨rb,1,none⟩=false:=frozen_of_row w rb 1 _ 209 h
theorem Rd.drewN {w:World} {rb:Nat} {s:List UInt8} {pos:Nat} (h:Rd w rb s pos) (q:Nat):Rd (w.drewN q) rb s pos:=by unfold Rd at *;simpa using h
theorem Rd.put {w:World} {rb:Nat} {s:List UInt8} {pos:Nat} (h:Rd w rb s pos) (p:Nat):Rd (w.setCell ⟨rb,1,none⟩ (.int .i64 (p:Nat))) rb s p:=by
 unfold Rd at *
 have:=heap_setCell_same w rb 1 _ 209 (.int .i64 (p:Nat)) h
 simpa using this
theorem Rd.lt {w:World} {rb:Nat} {s:List UInt8} {pos:Nat} (h:Rd w rb s pos):rb<w.heap.size:=lt_of_heap h
theorem qas {a b c:World} {row:Option Nat} (h:a.grownBy b row) (k:b.grownBy c row):a.grownBy c row:=
 ⟨k.os.trans h.os,k.tape.trans h.tape,k.output.trans h.output,Nat.le_trans h.size k.size,fun i hi hr=>(k.block i (Nat.lt_of_lt_of_le hi h.size) hr).trans (h.block i hi hr)⟩
theorem qlh {a b:World} {g o:Nat} (h:a.grownBy b (some g)) (v:Value):a.grownBy (b.setCell ⟨g,o,none⟩ v) (some g):=
 qas h ⟨rfl,rfl,rfl,by simp,fun k _ hk=>Below.heap_setCell b ⟨g,o,none⟩ v k (fun e=>hk (by simp [e]))⟩
theorem qaC (w:World) (q:Nat) (row:Option Nat):w.grownBy (w.drewN q) row:=⟨rfl,rfl,rfl,Nat.le_refl _,fun _ _ _=>rfl⟩
theorem qci (rb:Nat) (s:List UInt8) (pos:Nat) (w:World) (hs:s.length≤140737488351232) (hp:pos≤8*s.length) (hr:Rd w rb s pos) :
 Calls Tryz.prog 195 #[.pointer (some ⟨rb,0,none⟩)] w fun e w'=>e=.returned (.int .i64 (8*s.length - pos:Nat))∧∃ q,w'=w.drewN q:=by
 have h0:=hr.cell0;have h1:=hr.cell1;have hsz:(txt s).size=s.length:=qaa s;obtain ⟨t,ht⟩:∃ t,t=txt s:=⟨_,rfl⟩;rw [←ht] at h0 hsz;have hs1:t.size≤s.length:=by omega
 have hs2:s.length≤t.size:=by omega
 have Hs:=hidI hsz;clear ht hsz;go_enter Tryz.func195,Tryz.ntmps195
 go_wp2
 go_quiet (fail)
 go_wp2;go_ret
 exact ⟨qaw (by rw [Hs.out];omega),_,rfl⟩
theorem qe8 (rb:Nat) (s:List UInt8) (pos d:Nat) (w:World) (hs:s.length≤140737488351232) (hp:pos≤8*s.length) (hr:Rd w rb s pos) (hd:d≤12) (h:8*s.length<pos+d) :
 Calls Tryz.prog 193 #[.pointer (some ⟨rb,0,none⟩),.int .i64 (d:Nat)] w fun e w'=>e=.returned (.tuple #[.int .i64 0,.bool false])∧∃ q,w'=w.drewN q:=by
 go_enter Tryz.func193,Tryz.ntmps193
 go_wp2_with (go_at_call 195;refine (qci rb s pos _ hs hp hr).mono ?_;rintro e w' ⟨rfl,q,rfl⟩);go_ret2
 exact ⟨rfl,_,rfl⟩
theorem qco (rb:Nat) (s:List UInt8) (pos d:Nat) (w:World) (hs:s.length≤140737488351232) (hr:Rd w rb s pos) (hd:d≤12) (h:pos+d≤8*s.length) :
 Calls Tryz.prog 193 #[.pointer (some ⟨rb,0,none⟩),.int .i64 (d:Nat)] w fun e w'=>e=.returned (.tuple #[.int .i64 (val s pos d:Nat),.bool true])∧Rd w' rb s (pos+d)∧w.grownBy w' (some rb):=by
 have hsz:(txt s).size=s.length:=qaa s;have hgd:∀ k (h:k<(txt s).size),((txt s)[k]'h).toNat=(s.getD k 0).toNat:=fun k h=>by rw [qaV]
 go_enter Tryz.func193,Tryz.ntmps193
 go_wp2_with (go_at_call 195;refine (qci rb s pos _ hs (by omega) hr).mono ?_;rintro e w' ⟨rfl,q,rfl⟩)
 go_loopw [6,13] (fun v i wr=>∃ k P:Nat,k≤d∧P≤pos+k∧pos+k≤P∧i=.int .i64 k∧v=.int .i64 (val s pos k:Nat)∧Rd wr rb s P∧w.grownBy wr (some rb)) (fun _ i _=>d - (intOf i).toNat)
 case atStart =>
  refine ⟨0,pos,by omega,by omega,by omega,rfl,rfl,hr.drewN _,?_⟩;exact qaC _ _ _
 case round =>
  obtain ⟨k,P,hk,hP1,hP2,rfl,rfl,hrd,hg⟩:=hrel;by_cases hlt:k<d
  ·have h0:=hrd.cell0;have h1:=hrd.cell1;have hf:=hrd.frozen1;have hrd':=fun q=>(hrd.drewN q).put (P+1)
   obtain ⟨t,ht⟩:∃ t,t=txt s:=⟨_,rfl⟩;rw [←ht] at h0 hgd hsz;have hidx:P/8<t.size:=by omega
   obtain ⟨m,hm⟩:∃ m,m=(s.getD (P/8) 0).toNat:=⟨_,rfl⟩;have hx:(t[P/8]'hidx).toNat=m:=by rw [hm,hgd]
   have hm256:m<256:=by rw [hm];exact (s.getD (P/8) 0).toNat_lt
   have hi1:(0:Int)≤(P:Int)/8:=by omega
   have hi2:(P:Int)/8<(t.size:Int):=by omega
   have hts:t.size≤140737488351232:=by omega
   have hv:val s pos k<4096:=Nat.lt_of_lt_of_le (qd2 s pos k) (Nat.pow_le_pow_right (by omega) (by omega:k≤12));have Hm:=hidI hm;clear hm ht hgd hsz
   generalize hvv:val s pos k=vv at *
   have Hvv:=hidI hvv;clear hvv;obtain ⟨bb,hbb⟩:∃ b,b=bt s P:=⟨_,rfl⟩;have hb2:bb<2:=by rw [hbb];exact qm1 s P
   have hbit:bits BinOp.and IntKind.u8 ((m:Int)/2^(7 - P%8)) 1=(bb:Int):=by
    have e1:((m:Int)/2^(7 - P%8))=((m/2^(7 - P%8):Nat):Int):=by simp
    have e2:m/2^(7 - P%8)≤m:=Nat.div_le_self _ _;have e3:bb=m/2^(7 - P%8)%2:=by rw [hbb];unfold bt;rw [←Hm.out]
    rw [e1]
    generalize m/2^(7 - P%8)=mq at *
    rw [qnK _ (by omega) (by omega),e3];omega
   have hor:bits BinOp.or IntKind.i64 ((vv:Int)*2) (bb:Int)=((2*vv+bb:Nat):Int):=by
    rw [qjW _ _ (by omega) (by omega) (by omega) (by omega) (by omega)];omega
   have Hbb:=hidI hbb;clear hbb;go_wp2
   go_quiet (fail)
   go_wp2;go_roundw
   case rel =>
    refine ⟨k+1,P+1,by omega,by omega,by omega,by go_num,?_,hrd' _,?_⟩
    ·rw [qaF,Hvv.out,show pos+k=P by omega,←Hbb.out];go_num
    exact qlh (qas hg (qaC _ _ _)) _
   case measure=>simp [intOf];omega
  have hkd:k=d:=by omega
  have hPd:P=pos+d:=by omega
  have HP:=hidI hPd;subst hkd;clear hPd;go_wp2;go_ret2
  exact ⟨rfl,HP.out ▸ hrd,hg⟩
theorem qhu (rb:Nat) (s:List UInt8) (pos:Nat) (w:World) (hs:s.length≤140737488351232) (hr:Rd w rb s pos) (hp:pos≤8*s.length) (h8:8*s.length - pos<8) :
 Calls Tryz.prog 157 #[.pointer (some ⟨rb,0,none⟩)] w fun e w'=>e=.returned (.bool (decide (val s pos (8*s.length - pos)=0)))∧w.grownBy w' (some rb):=by
 go_enter Tryz.func157,Tryz.ntmps157
 go_wp2_with fail;refine (qci rb s pos _ hs hp hr).mono ?_;rintro e w1 ⟨rfl,q1,rfl⟩;have hr1:=hr.drewN q1
 generalize hl:8*s.length - pos=l at *
 have Hl:=hidI hl;have hle:pos+l≤8*s.length:=by omega
 have hlp:l≤8*s.length - pos:=by omega
 clear hl;go_wp2_with fail;refine (qci rb s pos _ hs hp hr1).mono ?_;rintro e w2 ⟨rfl,q2,rfl⟩;rw [Hl.out];have hr2:=hr.drewN (q1+q2);go_wp2_with fail;refine (qco rb s pos l _ hs hr2 (by omega) hle).mono ?_;rintro e w3 ⟨rfl,_,hg⟩;have hg3:w.grownBy w3 (some rb):=qas (qaC _ _ _) hg;by_cases hv:val s pos l=0
 ·have Hd:Hid (true=decide (val s pos l=0)):=(by simpa using hv:true=decide (val s pos l=0));rw [hv];go_wp2;go_ret
  exact ⟨qai (by rw [Hl.out];exact Hd.out),hg3⟩
 have hv':((val s pos l:Int)==0)=false:=by simp;omega
 have Hd:Hid (false=decide (val s pos l=0)):=(by simpa using hv:false=decide (val s pos l=0));go_wp2;go_ret
 exact ⟨qai (by rw [Hl.out];exact Hd.out),hg3⟩
theorem qnt (rb:Nat) (s:List UInt8) (pos:Nat) (w:World) (hs:s.length≤140737488351232) (hr:Rd w rb s pos) (hp:pos≤8*s.length) (h8:¬8*s.length - pos<8) :
 Calls Tryz.prog 157 #[.pointer (some ⟨rb,0,none⟩)] w fun e w'=>e=.returned (.bool false)∧w.grownBy w' (some rb):=by
 go_enter Tryz.func157,Tryz.ntmps157
 go_wp2_with fail;refine (qci rb s pos _ hs hp hr).mono ?_;rintro e w1 ⟨rfl,q1,rfl⟩;go_wp2;go_ret
 exact ⟨rfl,qaC _ _ _⟩
def bnd (n lo hi:Int):Int:=if n<lo then lo else if hi<n then hi else n
theorem bnd_le (n lo hi:Int) (h:lo≤hi):lo≤bnd n lo hi∧bnd n lo hi≤hi:=by unfold bnd;split<;>(try split)<;>omega
theorem qdn (n lo hi:Int) (h:lo≤hi) (w:World):Calls Tryz.prog 27 #[.int .i64 n,.int .i64 lo,.int .i64 hi] w fun e w'=>e=.returned (.int .i64 (bnd n lo hi))∧w'=w:=by
 by_cases h1:n<lo
 ·have Hb:Hid (bnd n lo hi=lo):=if_pos h1;go_enter Tryz.func27,Tryz.ntmps27
  go_wp2
  all_goals go_ret
  all_goals exact ⟨qaw (by rw [Hb.out]<;>omega),rfl⟩
 by_cases h2:hi<n
 ·have Hb:Hid (bnd n lo hi=hi):=by unfold bnd;rw [if_neg h1,if_pos h2];exact rfl
  go_enter Tryz.func27,Tryz.ntmps27
  go_wp2
  all_goals go_ret
  all_goals exact ⟨qaw (by rw [Hb.out]<;>omega),rfl⟩
 have Hb:Hid (bnd n lo hi=n):=by unfold bnd;rw [if_neg h1,if_neg h2];exact rfl
 go_enter Tryz.func27,Tryz.ntmps27
 go_wp2
 all_goals go_ret
 all_goals exact ⟨qaw (by rw [Hb.out]<;>omega),rfl⟩
def prt (n:Int):Int:=if n<0 then (-(n+1))%64 else n%64
theorem qiY (n:Int) (h:n<0):-((n+1).tmod 64)=(-(n+1))%64:=by
 rw [←Int.neg_tmod,Int.tmod_eq_emod_of_nonneg (by omega)]
theorem qmS (n:Int) (h1:-9223372036854775808≤n) (h2:n≤9223372036854775807) (w:World):Calls Tryz.prog 40 #[.int .i64 n] w fun e w'=>e=.returned (.int .i64 (prt n))∧w'=w:=by
 by_cases hn:n<0
 ·have Hp:Hid (prt n=(-(n+1))%64):=if_pos hn;have Hm:=hidI (qiY n hn);go_enter Tryz.func40,Tryz.ntmps40
  go_wp2;go_ret
  exact ⟨qaw (by rw [Hp.out];first | exact Hm.out | rfl),rfl⟩
 have Hp:Hid (prt n=n%64):=if_neg hn;go_enter Tryz.func40,Tryz.ntmps40
 go_wp2;go_ret
 exact ⟨qaw (by rw [Hp.out]),rfl⟩
theorem made64:∃ M:Array Value,(∀ W:World,(Instr.makeSlice 50 (.int .i64 64) (.int .i64 64)).run Tryz.prog W=.ok (.slice (some ⟨W.heap.size,0,none⟩) 64 64) (W.alloc (.cells M 5)))∧∀ W:World,(W.alloc (.cells M 5)).rowIs W.heap.size 5 64 (fun _=>.int .u8 0):=
 ⟨madeCells #[Value.int .u8 0] 64,fun W=>run_make_row' (P:=Tryz.prog) 50 5 (.int .u8 0) 1 Tryz.underlying50 Tryz.info5 rfl .i64 .i64 64 (by omega) (by omega) W,fun W=>World.rowIs_made W (.int .u8 0) 64 5⟩
theorem row_str {w:World} {b n c:Nat} {l:List UInt8} (h:w.rowIs b 5 n (fun j=>.int .u8 ((l.getD j 0).toNat:Nat))) (hl:l.length=n):(convert 50 9 (.slice (some ⟨b,0,none⟩) n c)).run Tryz.prog w=.ok (.string (txt l)) w:=by
 have hc:=run_convert_bytes_arg (P:=Tryz.prog) w 50 5 Tryz.underlying50 Tryz.underlying5 b 0 n c (l.map fun b=>(b.toNat:Int)) (by simpa using hl) (fun i hi=>by
  rw [Nat.zero_add,h.cell hi]
  have:i<l.length:=by omega
  simp [List.getD,this]) 9 Tryz.underlying9
 rw [strOfNums_bytes] at hc;exact hc
theorem qiU (l:List UInt8) (h:l.length≤64):(pad l).length=64:=by unfold pad;simp;omega
theorem qod (l:List UInt8) (h:l.length≤64) (j:Nat) (hj:j<64):(pad l).getD j 0=if j<l.length then l.getD j 0 else 255:=by
 unfold pad;simp only [List.getD];by_cases e:j<l.length
 ·rw [if_pos e,List.getElem?_append_left e]
 rw [if_neg e,List.getElem?_append_right (by omega)]
 have:j - l.length<64 - l.length:=by omega
 simp [this]
theorem qi7 {w:World} {g:Nat} {cur:Array Value} {t:TypeId} {Y:Array Value} {f:Nat→Value} {n:Nat} (hg:w.heap[g]? = some (.cells cur t (0,0))) (hn:Y.size=n) (hY:∀ i,i<n→Y[i]? = some (f i)):(w.setRow g Y).rowIs g t n f:=
 ⟨Y,setRow_heap w g cur Y t (0,0) hg,hn,hY⟩
theorem qiK (s:List UInt8) (hs:s.length≤64) (w:World) :
 Calls Tryz.prog 120 #[.string (txt s)] w fun e w'=>e=.returned (.string (txt (pad s)))∧Below w.heap.size w w':=by
 obtain ⟨M,hmk,hM⟩:=made64;have h0:=hM w;have hb0:Below w.heap.size w (w.alloc (.cells M 5)):=(Below.refl _ _).alloc (Nat.le_refl _) _;clear hM;have hinfo:(Tryz.prog.info? 5).map (·.size)=some 1:=by kernel_rfl
 have hse:(txt s).size=s.length:=qaa s;have hdl:(txt s).data.toList=s:=rfl;obtain ⟨t,ht⟩:∃ t,t=txt s:=⟨_,rfl⟩;rw [←ht] at hse hdl ⊢;have ht64:t.size≤64:=by omega
 have Hse:=hidI hse;have Hdl:=hidI hdl;obtain ⟨x,hx⟩:∃ x,x=txt (pad s):=⟨_,rfl⟩;have Hx:=hidI hx;rw [←hx];clear hx ht hse hdl;go_enter Tryz.func120,Tryz.ntmps120
 go_wp2;clear hmk
 go_loopw [4] (fun i wr=>∃ k:Nat,k≤64∧i=.int .i64 k∧wr.rowIs w.heap.size 5 64 (fun j=>if j<k then .int .u8 255 else .int .u8 0)∧Below w.heap.size w wr) (fun i _=>64 - (intOf i).toNat)
 case atStart=>exact ⟨0,by omega,rfl,by simpa using h0,hb0⟩
 case round =>
  clear h0 hb0;obtain ⟨k,hk,rfl,hrow,hb⟩:=hrel;by_cases hlt:k<64
  ·have hc:=hrow.cell hlt;have hf:=hrow.frozen k;have hrow':(wr.setCell ⟨w.heap.size,k,none⟩ (.int .u8 255)).rowIs w.heap.size 5 64 (fun j=>if j<k+1 then .int .u8 255 else .int .u8 0):=(hrow.set k _).congr fun j hj=>by
    by_cases e:j=k
    ·rw [if_pos e,if_pos (by omega)]
    rw [if_neg e];by_cases e2:j<k
    ·rw [if_pos e2,if_pos (by omega)]
    rw [if_neg e2,if_neg (by omega)]
   rw [if_neg (by omega)] at hc;have hb':=hb.setCell (p:=⟨w.heap.size,k,none⟩) (Nat.le_refl _) (.int .u8 255);clear hrow hb;go_wp2;go_roundw
   case rel=>exact ⟨k+1,by omega,by go_num,hrow',hb'⟩
   case measure=>simp [intOf];omega
  have hk64:k=64:=by omega
  subst hk64;obtain ⟨cur,hg,hcs,hcf⟩:=hrow;have hcp:=Lib.run_copy_row_string (P:=Tryz.prog) wr 50 9 3 5 w.heap.size 0 64 64 t cur 5 Tryz.underlying50 hinfo hg (by omega) (by omega);obtain ⟨Y,hY⟩:∃ Y,Y=(cur.toList.take 0++Lib.byteCells t.data.toList++cur.toList.drop (0+t.size)).toArray:=⟨_,rfl⟩;rw [←hY] at hcp;have hYr:(wr.setRow w.heap.size Y).rowIs w.heap.size 5 64 (fun j=>.int .u8 (((pad s).getD j 0).toNat:Nat)):=by
   have hbl:(Lib.byteCells t.data.toList).length=s.length:=by rw [Lib.byteCells_length,Hdl.out]
   have hcl:cur.toList.length=64:=by rw [Array.length_toList];exact hcs
   refine qi7 hg ?_ fun i hi => ?_
   ·rw [hY,List.size_toArray,List.take_zero,List.nil_append,List.length_append,List.length_drop,hbl,hcl,Hse.out];omega
   rw [hY,List.getElem?_toArray,List.take_zero,List.nil_append,qod s hs i hi];by_cases e:i<s.length
   ·rw [if_pos e,List.getElem?_append_left (by omega)];unfold Lib.byteCells;rw [Hdl.out];simp [List.getD,e]
   rw [if_neg e,List.getElem?_append_right (by omega),hbl,List.getElem?_drop,Hse.out,show 0+s.length+(i - s.length)=i by omega,Array.getElem?_toList,hcf i hi];show some (if i<64 then Value.int .u8 255 else .int .u8 0)=_;rw [if_pos hi];rfl
  have hcv:=row_str (c:=64) hYr (qiU s hs);rw [←Hx.out] at hcv;have hB:Below w.heap.size w (wr.setRow w.heap.size Y):=below_setRow hb (Nat.le_refl _) Y;clear hY hcf;go_wp2;go_ret
  exact ⟨rfl,hB⟩
end Go.Proofs.YtodmdkhdbfbfgabGreatDoor.S1
