/- Lemmas. -/
import Derived.Lib.UnsafeStr
import Derived.Lib.Buffer
import Derived.Test.YtodmdkhdbfbfgaaGreatDoorRows
import Derived.SizedLaws
import Derived.ProofKit
import Derived.OpenShut
import Derived.JoinedCond
import Derived.ShutString
import Derived.ChangeOld
import Derived.Below
import Derived.Test.YtodmdkhdbfbfgaaGreatDoorCards
import Derived.Test.YtodmdkhdbfbfgaaGreatDoorM27
import Derived.Test.YtodmdkhdbfbfgaaGreatDoorM26
set_option linter.unusedVariables false
set_option linter.unusedSimpArgs false
set_option maxRecDepth 100000
set_option maxHeartbeats 8000000
namespace Go.Proofs.YtodmdkhdbfbfgaaGreatDoor.S1
open Go.RowKit Pk
theorem qkf (a:Option Addr) (c:Nat) (z:Nat→Int) (w:World) (hz:IntsIn w a 288 z) :
 Calls Tryz.prog 259 #[.slice a 288 c] w fun e w'=>w'=w∧((Fits z 288∧e=.returned (.int .i64 0))∨(¬Fits z 288∧∃ er:Int,(er != 0)=true∧e=.returned (.int .i64 er))):=by
 rcases qiD z 288 with h | ⟨q,hq,hb,hg⟩
 ·by_cases hs:4096<sumTo z 288
  ·refine (qfO a 288 c z w (by omega) hz h).mono fun e w' ⟨he,hw⟩=>⟨hw,.inr ⟨fun hf=>by have:=hf.sum;omega,2,by decide,?_⟩⟩
   rw [he,if_pos hs]
  refine (qfO a 288 c z w (by omega) hz h).mono fun e w' ⟨he,hw⟩=>⟨hw,.inl ⟨⟨h,by omega⟩,?_⟩⟩
  rw [he,if_neg hs]
 exact (qjQ a 288 c z w (by omega) hz q hq hb hg).mono fun e w' ⟨he,hw⟩=>⟨hw,.inr ⟨fun hf=>hb (hf.rng q hq),1,by decide,he⟩⟩
def ansD:Option (List UInt8)→Ending
 | none=>.returned (.tuple #[.string ⟨#[]⟩,.bool false])
 | some l=>.returned (.tuple #[.string (txt l),.bool true])
theorem qi0 (x y:Int) (hx0:0≤x) (hx1:x<4611686018427387904) (hy0:0≤y) (hy1:y<256) (hx:x%256=0):bits .or .i64 x y=x+y:=
 bits_join .i64 62 (by decide) (fun n h0 h1=>by rw [IntKind.wrap_i64];omega) 8 x y hx0 (by simpa using hx) (by omega) hy0 (by omega) (by omega)
theorem qj2 (r:List UInt8) (hr:¬r.length<2):∃ t,t=txt r∧t.size=r.length∧(∀ h:0<t.size,(t[0]'h).toNat=(r.getD 0 0).toNat) ∧
 (∀ h:1<t.size,(t[1]'h).toNat=(r.getD 1 0).toNat)∧t.extract 2 t.size=txt (r.drop 2):=by
 refine ⟨_,rfl,by rw [qaa],fun h=>by rw [qaR],fun h=>by rw [qaR],?_⟩;rw [qae,qaa]
 congr 1
 apply List.take_of_length_le
 simp
theorem qi2 (r:List UInt8) (w:World) (hr:r.length<2):Calls Tryz.prog 206 #[.string (txt r)] w fun e w'=>e=ansD none∧w'=w:=by
 have hsz:(txt r).size<2:=by rw [qaa];exact hr
 go_enter Tryz.func206,Tryz.ntmps206
 go_wp2;go_ret2
 exact ⟨rfl,rfl⟩
theorem ql9 (r:List UInt8) (w:World) (hr:¬r.length<2) (hr2:r.length≤140737488351232) (h:256*(r.getD 0 0).toNat+(r.getD 1 0).toNat<1∨4000<256*(r.getD 0 0).toNat+(r.getD 1 0).toNat) :
 Calls Tryz.prog 206 #[.string (txt r)] w fun e w'=>e=ansD none∧∃ q,w'=w.drewN q:=by
 obtain ⟨t,ht,hs,hc0,hc1,_⟩:=qj2 r hr;have hs1:1<t.size:=by omega
 have hs0:0<t.size:=by omega
 have hsb:t.size≤140737488351232:=by omega
 have hc0:=hc0 hs0;have hc1:=hc1 hs1;rw [←ht];clear ht hs;have hx1:=(r.getD 0 0).toNat_lt;have hx2:=(r.getD 1 0).toNat_lt
 generalize (r.getD 0 0).toNat=x1 at *
 generalize (r.getD 1 0).toNat=x2 at *
 have hlt1:(0:Int)<(t.size:Int):=by omega
 have hlt2:(1:Int)<(t.size:Int):=by omega
 have hor:bits BinOp.or IntKind.i64 ((x1:Int)*256) (x2:Int)=(x1:Int)*256+(x2:Int):=qi0 _ _ (by omega) (by omega) (by omega) (by omega) (by omega);by_cases hd:256*x1+x2<1
 ·go_enter Tryz.func206,Tryz.ntmps206
  go_wp2
  go_quiet (fail)
  go_wp2;go_ret2
  exact ⟨rfl,_,rfl⟩
 have h':4000<256*x1+x2:=by omega
 clear h;go_enter Tryz.func206,Tryz.ntmps206
 go_wp2
 go_quiet (fail)
 go_wp2;go_ret2
 exact ⟨rfl,_,rfl⟩
theorem qaV {w w':World} {B rb:Nat} (h:w.grownBy w' (some rb)) (hB:B≤w.heap.size) (hr:B≤rb):Below B w w':=
 (Below.refl B w).grown h hB (fun k hk=>by simp at hk;omega)
theorem Rd.below {w w':World} {rb:Nat} {s:List UInt8} {pos:Nat} (h:Rd w rb s pos) (hb:Below w.heap.size w w'):Rd w' rb s pos:=(hb.block rb h.lt).trans h
theorem qfH {w:World} {base:Nat} {v:Value} {n:Nat} {l:List UInt8} (h:w.ownsRow base 5 1 v n (Lib.strCells (txt l))) (t:ByteArray) (ht:t=txt l):(convert 111 9 v).run Tryz.prog w=.ok (.string t) w:=by rw [ht];exact conv_own h
theorem qlh (r:List UInt8) (w:World) (hr:¬r.length<2) (hr2:r.length≤140737488351232) (size:Nat) (hsize:256*(r.getD 0 0).toNat+(r.getD 1 0).toNat=size) (h1:1≤size) (h4:size≤4000) :
 Calls Tryz.prog 206 #[.string (txt r)] w fun e w'=>e=ansD (bodyF (r.drop 2) 288 size)∧Below w.heap.size w w':=by
 obtain ⟨t,ht,hs,hc0,hc1,hex⟩:=qj2 r hr;have hs1:1<t.size:=by omega
 have hs0:0<t.size:=by omega
 have hsb:t.size≤140737488351232:=by omega
 have hc0:=hc0 hs0;have hc1:=hc1 hs1;rw [←ht];have hsl:(r.drop 2).length≤140737488351232:=by simp;omega
 have Hex:=hidI hex;clear ht hs hex;have hx1:=(r.getD 0 0).toNat_lt;have hx2:=(r.getD 1 0).toNat_lt
 generalize (r.getD 0 0).toNat=x1 at *
 generalize (r.getD 1 0).toNat=x2 at *
 generalize r.drop 2=s at *
 have hlt1:(0:Int)<(t.size:Int):=by omega
 have hlt2:(1:Int)<(t.size:Int):=by omega
 have hor:bits BinOp.or IntKind.i64 ((x1:Int)*256) (x2:Int)=(size:Int):=by
  rw [qi0 _ _ (by omega) (by omega) (by omega) (by omega) (by omega)];omega
 clear hsize;obtain ⟨R,hR⟩:∃ R,lensF s 288 0 0 (fun _=>0)=R:=⟨_,rfl⟩;have HR:=hidI hR;clear hR;go_enter Tryz.func206,Tryz.ntmps206
 go_wp2
 go_quiet (fail)
 go_wp2_with fail;rw [Hex.out];have hr0:∀ q,Rd ((w.alloc (.cells #[.string (txt s),.int .i64 0] 295)).drewN q) w.heap.size s 0:=fun q=>by
  have h:Rd (w.alloc (.cells #[.string (txt s),.int .i64 0] 295)) w.heap.size s 0:=heap_alloc_new w _;exact h.drewN q
 have hb0:∀ q,Below w.heap.size w ((w.alloc (.cells #[.string (txt s),.int .i64 0] 295)).drewN q):=fun q=>below_drewN ((Below.refl _ _).alloc (Nat.le_refl _) _) q
 refine (qlc w.heap.size s _ hsl (hr0 _) R HR.out).mono ?_;rintro e w1 ⟨hg1,hres⟩;have hb1:Below w.heap.size w w1:=(hb0 _).trans (qaV hg1 (by simp) (Nat.le_refl _));have hs1':=hg1.size;simp at hs1';clear hg1 hb0 hr0;rcases hres with ⟨z,pos,hRz,hpos,rfl,hrow1,hrd1⟩ | ⟨hRn,rfl⟩
 ·rw [hRz] at HR;clear hRz R;simp only [World.heap_drewN,World.size_alloc] at hrow1 ⊢;have hin:=qd2 hrow1;go_wp2_with fail;refine (qkf _ _ z w1 hin).mono ?_;rintro e w2 ⟨rfl,hfit⟩;rcases hfit with ⟨hf,rfl⟩ | ⟨hnf,er,her,rfl⟩
  ·go_wp2_with fail;refine (qdB _ _ z w2 hin).mono ?_;rintro e w3 ⟨rfl,hb3,hdc3⟩;have hrd3:=hrd1.below hb3;have hB3:Below w.heap.size w w3:=hb1.trans (hb3.mono (by omega));have hs3:=hB3.size;have HfB:=hidI ((qds z 288).2 hf);obtain ⟨RD,hRD⟩:∃ R,dataF s z 288 size size [] pos=R:=⟨_,rfl⟩;have HRD:=hidI hRD;clear hb3 hb1 hrd1 hrow1 hin;go_wp2_with fail;refine (qk6 w.heap.size _ _ z s pos size w3 hsl hf hrd3 hpos hdc3 h1 h4 RD hRD).mono ?_;rintro e w4 ⟨hg4,hres⟩;have hB4:Below w.heap.size w w4:=hB3.trans (qaV hg4 hs3 (Nat.le_refl _));have hs4:=hB4.size;clear hg4 hdc3 hrd3 hRD hf;rcases hres with ⟨out,p,a4,c4,n4,hRDs,hp,rfl,hown4,hrd4⟩ | ⟨hRDn,rfl⟩
   ·have Hbody:=hidI (qdV s 288 size z _ _ _ HR.out HfB.out (HRD.out.trans hRDs));clear hRDs;by_cases h8:8*s.length - p<8
    ·by_cases hv0:val s p (8*s.length - p)=0
     ·have Hb:=hidI (Hbody.out.trans (if_pos ⟨h8,hv0⟩));have hends:=qgP w.heap.size s p w4 hsl hrd4 hp h8;rw [show decide (val s p (8*s.length - p)=0)=true by simpa using hv0] at hends;have Hends:=hidI hends;clear hends hv0;go_wp2_with fail;refine Hends.out.mono ?_;rintro e w5 ⟨rfl,hg5⟩;have hB5:Below w.heap.size w w5:=hB4.trans (qaV hg5 hs4 (Nat.le_refl _));have hown5:=qbS hown4 hg5 hrd4.rowT (by decide);obtain ⟨to1,hto⟩:∃ to1,to1=txt out:=⟨_,rfl⟩;have hcv:=qfH hown5 to1 hto;have Hto:=hidI hto;clear hto hown4 hown5 hg5 hrd4;go_wp2;go_ret2
      refine ⟨?_,hB5⟩;rw [Hb.out];show _=Ending.returned (.tuple #[.string (txt out),.bool true]);rw [←Hto.out];rfl
     have Hb:=hidI (Hbody.out.trans (if_neg (fun h=>hv0 h.2)));have hends:=qgP w.heap.size s p w4 hsl hrd4 hp h8;rw [show decide (val s p (8*s.length - p)=0)=false by simpa using hv0] at hends;have Hends:=hidI hends;clear hends hv0;go_wp2_with fail;refine Hends.out.mono ?_;rintro e w5 ⟨rfl,hg5⟩;have hB5:Below w.heap.size w w5:=hB4.trans (qaV hg5 hs4 (Nat.le_refl _));go_wp2;go_ret2
     refine ⟨?_,hB5⟩;rw [Hb.out];rfl
    have Hb:=hidI (Hbody.out.trans (if_neg (fun h=>h8 h.1)));go_wp2_with fail;refine (qmy w.heap.size s p w4 hsl hrd4 hp h8).mono ?_;rintro e w5 ⟨rfl,hg5⟩;have hB5:Below w.heap.size w w5:=hB4.trans (qaV hg5 hs4 (Nat.le_refl _));go_wp2;go_ret2
    refine ⟨?_,hB5⟩;rw [Hb.out];rfl
   have Hb:=hidI (qft s 288 size z _ HR.out HfB.out (HRD.out.trans hRDn));clear hRDn;go_wp2;go_ret2
   refine ⟨?_,hB4⟩;rw [Hb.out];rfl
  have HfB:Hid (fitsB z 288=false):=by
   cases h:fitsB z 288 with
   | false=>rfl
   | true=>exact absurd ((qds z 288).1 h) hnf
  have Hb:=hidI (qgl s 288 size z _ HR.out HfB.out);go_wp2;go_ret2
  refine ⟨?_,hb1⟩;rw [Hb.out];rfl
 have Hb:=hidI (qhs s 288 size (HR.out.trans hRn));clear hRn;go_wp2;go_ret2
 refine ⟨?_,hb1⟩;rw [Hb.out];rfl
theorem qhx (r:List UInt8) (w:World) (hr:r.length≤140737488351232):Calls Tryz.prog 206 #[.string (txt r)] w fun e w'=>e=ansD (unpF 288 (1 :: r))∧Below w.heap.size w w':=by
 by_cases h2:r.length<2
 ·exact (qi2 r w h2).mono fun e w' ⟨he,hw⟩=>by rw [he,hw,qhS 288 r h2];exact ⟨rfl,Below.refl _ _⟩
 by_cases h3:256*(r.getD 0 0).toNat+(r.getD 1 0).toNat<1∨4000<256*(r.getD 0 0).toNat+(r.getD 1 0).toNat
 ·exact (ql9 r w h2 hr h3).mono fun e w' ⟨he,q,hw⟩=>by rw [he,hw,qjW 288 r h2 h3];exact ⟨rfl,below_drewN (Below.refl _ _) q⟩
 rw [qfe 288 r h2 h3];exact qlh r w h2 hr _ rfl (by omega) (by omega)
def EncP (d:List UInt8) (w:World) (e:Ending) (w':World):Prop:=∃ T,e=.returned (.string (txt T))∧unpF 288 T=some d∧T.length≤50000∧(∀ c,(∀ i,i<d.length→(d.getD i 0).toNat=c)→T.length≤40+d.length/16)∧Below w.heap.size w w'
theorem qls (s:Nat × Nat) (h:s.1<256∨254≤s.1):1≤Pk.slen s:=by unfold Pk.slen;split<;>omega
theorem qgC (l:List (Nat × Nat)) (k:Nat) (hk:k≤l.length):k≤posS l k:=by
 induction k with
 | zero=>omega
 | succ k ih =>
   rw [qdc l k (by omega)]
   have:=qls (l.getD k (0,0)) (by omega)
   have:=ih (by omega);omega
theorem qfq (f:(Nat × Nat)→Nat) (l:List (Nat × Nat)) (k:Nat) (h:k<l.length):sumL f (l.take (k+1))=sumL f (l.take k)+f (l.getD k (0,0)):=by
 rw [List.take_add_one,List.getElem?_eq_getElem h,qay,List.getD_eq_getElem?_getD,List.getElem?_eq_getElem h];simp [sumL]
theorem qjm (l:List (Nat × Nat)) (k:Nat) (h:k<l.length):l.getD k (0,0)∈l:=by
 rw [List.getD_eq_getElem?_getD,List.getElem?_eq_getElem h];exact List.getElem_mem h
structure WS (d:List UInt8) (ln:Nat→Nat) (l:List (Nat × Nat)) (p1:Nat) (c:List UInt8) (k pos:Nat):Prop where
 ps:pos=p1+sumL (sbits ln) (l.take k)
 rd:∀ f,Ag c f pos→dataF (f.drop 3) (fun i=>(ln i:Int)) 288 d.length d.length [] (p1 - 24)=dataF (f.drop 3) (fun i=>(ln i:Int)) 288 d.length (d.length - k) (d.take (posS l k)) (pos - 24)
theorem WS.init (d:List UInt8) (ln:Nat→Nat) (l:List (Nat × Nat)) (p1:Nat) (c:List UInt8):WS d ln l p1 c 0 p1:=⟨by simp [sumL],fun f _=>by simp [posS,sumL]⟩
theorem WS.byte {d:List UInt8} {ln:Nat→Nat} {l:List (Nat × Nat)} {p1 k pos:Nat} {c c':List UInt8} (h:WS d ln l p1 c k pos) (hk:k<l.length) (h24:24≤p1) (hok:OkS d l d.length) (hs:(l.getD k (0,0)).1<256) (hln:1≤ln (l.getD k (0,0)).1)
 (hw:Wr c' (pos+ln (l.getD k (0,0)).1)) (ha:Ag c c' pos) (hv:val c' pos (ln (l.getD k (0,0)).1)=num (fun i=>(ln i:Int)) 288 (l.getD k (0,0)).1):WS d ln l p1 c' (k+1) (pos+ln (l.getD k (0,0)).1):=by
 have hps:=h.ps;have hst:=hok.ok k hk;have hge:=qgC l k (by omega);have hsl:Pk.slen (l.getD k (0,0))=1:=by unfold Pk.slen;rw [if_pos hs]
 have hfit:=hst.fit;rw [hsl] at hfit;refine ⟨?_,?_⟩
 ·rw [qfq _ l k hk,hps];unfold sbits;rw [if_pos hs];omega
 rw [qdc l k hk,hsl]
 have:=qiU (b:=c) (b':=c') (z:=fun i=>(ln i:Int)) (d:=d) (a:=posS l k) (pos:=pos) (F:=d.length - (k+1)) (i:=(l.getD k (0,0)).1) (by omega) hs (by omega) (by omega) (hst.byte hs) (by simpa using hw.lo) (by simpa using hv) ha (fun f=>dataF (f.drop 3) (fun i=>(ln i:Int)) 288 d.length d.length [] (p1 - 24)) (by
  intro f hf;rw [show d.length - (k+1)+1=d.length - k by omega];exact h.rd f hf)
 simpa using this
theorem WS.copy {d:List UInt8} {ln:Nat→Nat} {l:List (Nat × Nat)} {p1 k pos:Nat} {c c':List UInt8} (h:WS d ln l p1 c k pos) (hk:k<l.length) (h24:24≤p1) (hok:OkS d l d.length) (hs:¬(l.getD k (0,0)).1<256) (hln:1≤ln (l.getD k (0,0)).1)
 (hw:Wr c' (pos+ln (l.getD k (0,0)).1+12)) (ha:Ag c c' pos) (hv:val c' pos (ln (l.getD k (0,0)).1)=num (fun i=>(ln i:Int)) 288 (l.getD k (0,0)).1) (hv2:val c' (pos+ln (l.getD k (0,0)).1) 12=(l.getD k (0,0)).2 - 1):WS d ln l p1 c' (k+1) (pos+ln (l.getD k (0,0)).1+12):=by
 have hps:=h.ps;have hst:=hok.ok k hk;have hge:=qgC l k (by omega);have hsl:Pk.slen (l.getD k (0,0))=(l.getD k (0,0)).1 - 253:=by unfold Pk.slen;rw [if_neg hs]
 have hfit:=hst.fit;rw [hsl] at hfit;obtain ⟨c1,c2,c3,c4⟩:=hst.copy hs;refine ⟨?_,?_⟩
 ·rw [qfq _ l k hk,hps];unfold sbits;rw [if_neg hs];omega
 rw [qdc l k hk,hsl]
 have:=qkj (b:=c) (b':=c') (z:=fun i=>(ln i:Int)) (d:=d) (a:=posS l k) (pos:=pos) (F:=d.length - (k+1)) (i:=(l.getD k (0,0)).1) (back:=(l.getD k (0,0)).2) (by omega) hs hst.lt (by omega) hfit c1 c3 c4 (by simpa using hw.lo) (by simpa using hv) (by simpa using hv2) ha (fun f=>dataF (f.drop 3) (fun i=>(ln i:Int)) 288 d.length d.length [] (p1 - 24)) (by
  intro f hf;rw [show d.length - (k+1)+1=d.length - k by omega];exact h.rd f hf)
 simpa using this
theorem WS.done {d:List UInt8} {ln:Nat→Nat} {l:List (Nat × Nat)} {p1 pos:Nat} {c:List UInt8} (h:WS d ln l p1 c l.length pos) (hok:OkS d l d.length):dataF (c.drop 3) (fun i=>(ln i:Int)) 288 d.length d.length [] (p1 - 24)=some (d,pos - 24):=by
 rw [h.rd c (Ag.refl _ _),hok.fin,List.take_of_length_le (Nat.le_refl _)];exact qdQ _ _ _ _ _ _ _ (Nat.le_refl _)
theorem BW.of {w w':World} {B g pos:Nat} {b:List UInt8} (h:BW w B g b pos) (hb:∀ k,k<w.heap.size→w'.heap[k]? = w.heap[k]?):BW w' B g b pos:=by
 obtain ⟨v,h1,h2⟩:=h.st;refine ⟨h.hg,⟨v,(hb g (lt_of_heap h1)).trans h1,h2.1,?_⟩,h.wr⟩;rcases h2.2 with h3 | ⟨r,cap,cur,h3,h4,h5,h6⟩
 ·exact .inl h3
 exact .inr ⟨r,cap,cur,h3,h4,(hb r (lt_of_heap h5)).trans h5,h6⟩
theorem qk1 (w:World) (n:Nat) (hn:n≤4000):BW ((w.alloc (.cells #[.int .u8 1,.int .u8 ((n:Int)/256),.int .u8 ((n:Int)%256)] 5)).alloc (.cells #[.slice (some ⟨w.heap.size,0,none⟩) 3 3,.int .i64 0] 279)) w.heap.size (w.heap.size+1) [1,UInt8.ofNat (n/256),UInt8.ofNat (n%256)] 24:=by
 refine ⟨by omega,⟨.slice (some ⟨w.heap.size,0,none⟩) 3 3,?_,?_⟩,⟨by simp,by simp,fun i hi=>qmg _ i (by simp;omega)⟩⟩
 ·have:=heap_alloc_new (w.alloc (.cells #[.int .u8 1,.int .u8 ((n:Int)/256),.int .u8 ((n:Int)%256)] 5)) (.cells #[.slice (some ⟨w.heap.size,0,none⟩) 3 3,.int .i64 0] 279)
  simp only [World.size_alloc] at this;rw [this];rfl
 refine ⟨rfl,.inr ⟨_,3,_,rfl,Nat.le_refl _,(Below.heap_alloc _ _ _ (by simp)).trans (heap_alloc_new _ _),Nat.le_refl _,by unfold maxLen;omega,rfl,?_⟩⟩;have e1:((n:Int)/256)=((n/256:Nat):Int):=by omega
 have e2:((n:Int)%256)=((n%256:Nat):Int):=by omega
 have e3:(UInt8.ofNat (n/256)).toNat=n/256:=by rw [UInt8.toNat_ofNat'];omega
 have e4:(UInt8.ofNat (n%256)).toNat=n%256:=by rw [UInt8.toNat_ofNat'];omega
 simp only [List.map_cons,List.map_nil,e3,e4,e1,e2];rfl
theorem qif (w:World) (d:List UInt8) (h0:0<d.length) (hd:d.length≤4000):Calls Tryz.prog 195 #[.string (txt d)] w fun e w'=>EncP d w e w':=by
 have Hsp:=hidI (qbW w d h0 hd);have hts:(txt d).size=d.length:=qaa d
 generalize txt d=t at *
 go_enter Tryz.func195,Tryz.ntmps195
 go_wp2_with fail;refine Hsp.out.mono ?_;rintro e w1 ⟨l,v,rfl,hown,hok,has,hb1⟩;have hl0:0<l.length:=by
  cases l with
  | nil=>have:=hok.fin;simp [posS,sumL] at this;omega
  | cons x l=>simp
 have hln:l.length≤d.length:=by have:=qgC l l.length (Nat.le_refl _);rw [hok.fin] at this;exact this
 have hsy:∀ s∈l,s.1<288:=fun s hs=>by
  obtain ⟨i,hi,rfl⟩:=List.mem_iff_getElem.1 hs
  have:=(hok.ok i hi).lt
  rw [List.getD_eq_getElem?_getD,List.getElem?_eq_getElem hi] at this;exact this
 obtain ⟨sb,cap,rfl,hsb⟩:∃ sb cap,v=.slice (some ⟨sb,0,none⟩) l.length cap∧w.heap.size≤sb:=by
  rcases hown.2 with ⟨_,h⟩ | ⟨g,c,cur,rfl,h2,_⟩
  ·omega
  exact ⟨g,c,rfl,h2⟩
 have hsblt:=(hown.lt sb rfl).2;have Hct:=hidI (qgu w1 sb l.length cap l rfl (by omega) hsy (qgF hown (Nat.zero_le _)));have Hown:=hidI hown;have Hok:=hidI hok;have Has:=hidI has;have Hb1:=hidI hb1;have Hsy:=hidI hsy;clear hown hok has hb1 hsy Hsp;go_wp2_with fail;refine Hct.out.mono ?_;rintro e w2 ⟨rfl,hrow2,hb2⟩;have hs12:=hb2.size;have hW:sumW (fun i=>((List.range 288).map (cntS l)).getD i 0) 288=l.length:=by
  rw [qbt _ (cntS l) 288 (fun i hi=>qcc _ _ _ hi)];exact qlC l Hsy.out
 have Hco:=hidI (qlV w2 w1.heap.size 288 ((List.range 288).map (cntS l)) (qhm hrow2 (by unfold maxLen;omega)) (by rw [hW];exact hl0) (by rw [hW];omega));have Hb2:=hidI hb2;clear hrow2 hb2 hW Hct;go_wp2_with fail;refine Hco.out.mono ?_;rintro e w3 ⟨ln,L,rfl,hL,hrow3,hb3,c1,c2,c3,c4,c5⟩;have hs23:=hb3.size;have hsyeq:symsTo (fun i=>((List.range 288).map (cntS l)).getD i 0) 288=symsTo (cntS l) 288:=qcj _ _ 288 fun i hi=>by rw [qcc _ _ _ hi]
 rw [hsyeq] at c4 c5;have c1':∀ i,i<288→(0<ln i↔0<cntS l i):=fun i hi=>by rw [c1 i hi,qcc _ _ _ hi]
 have hfits:=qmQ ln (cntS l) c1' c3 c5;have Has3:=hidI (qhL (some ⟨L,0,none⟩) 288 288 (fun i=>(ln i:Int)) w3 (by omega) (qd2 hrow3) hfits);have Hrow3:=hidI hrow3;have Hb3:=hidI hb3;have C1:=hidI c1';have C2:=hidI c2;have C3:=hidI c3;have C4:=hidI c4;have Hfits:=hidI hfits;have hLlt:=hrow3.lt;clear hrow3 hb3 c1 c1' c2 c3 c4 c5 hfits hsyeq Hco;go_wp2_with fail;refine Has3.out.mono ?_;rintro e w4 ⟨rfl,hb4,hrow4⟩;have hs34:=hb4.size;have Hb4:=hidI hb4;have Hrow4:=hidI hrow4;have hrl4:=hrow4.lt;clear hb4 hrow4 Has3;go_wp2_with fail;have hbw:=qk1 w4 d.length hd;have hbA:Below w4.heap.size w4 ((w4.alloc (.cells #[.int .u8 1,.int .u8 ((d.length:Int)/256),.int .u8 ((d.length:Int)%256)] 5)).alloc (.cells #[.slice (some ⟨w4.heap.size,0,none⟩) 3 3,.int .i64 0] 279)):=((Below.refl _ w4).alloc (Nat.le_refl _) _).alloc (by simp) _
 have hrowL:((w4.alloc (.cells #[.int .u8 1,.int .u8 ((d.length:Int)/256),.int .u8 ((d.length:Int)%256)] 5)).alloc (.cells #[.slice (some ⟨w4.heap.size,0,none⟩) 3 3,.int .i64 0] 279)).rowIs L 3 288 (fun j=>.int .i64 ((fun i=>(ln i:Int)) j)):=qam (qam Hrow3.out Hb4.out hLlt) hbA (by omega);have Hle:=hidI (qkH ((w4.alloc (.cells #[.int .u8 1,.int .u8 ((d.length:Int)/256),.int .u8 ((d.length:Int)%256)] 5)).alloc (.cells #[.slice (some ⟨w4.heap.size,0,none⟩) 3 3,.int .i64 0] 279)) w4.heap.size (w4.heap.size+1) L [1,UInt8.ofNat (d.length/256),UInt8.ofNat (d.length%256)] (fun i=>(ln i:Int)) (by simp;omega) (by simp) (by omega) hrowL (fun i=>⟨by omega,by have:=C3.out i;omega⟩) (fun i hi=>by rw [C2.out i hi];rfl) hbw);have HbA:=hidI hbA
 have hsA:w4.heap.size≤((w4.alloc (.cells #[.int .u8 1,.int .u8 ((d.length:Int)/256),.int .u8 ((d.length:Int)%256)] 5)).alloc (.cells #[.slice (some ⟨w4.heap.size,0,none⟩) 3 3,.int .i64 0] 279)).heap.size:=by simp;omega
 clear hbw hbA hrowL
 generalize ((w4.alloc (.cells #[.int .u8 1,.int .u8 ((d.length:Int)/256),.int .u8 ((d.length:Int)%256)] 5)).alloc (.cells #[.slice (some ⟨w4.heap.size,0,none⟩) 3 3,.int .i64 0] 279))=V at *
 refine Hle.out.mono ?_;rintro e w6 ⟨rfl,b6,p1,hbw6,hag6,hp1,hp2,hlens,hb6⟩;have hnz:nz (fun i=>(ln i:Int)) 288≤288:=qng _ _;have hp1b:p1≤4000:=by omega
 have Hcell:Hid (∀ U,Below w4.heap.size w6 U→∀ i,i<l.length→U.cell? ⟨sb,i*2,none⟩=some (.int .i64 ((l.getD i (0,0)).1:Nat))∧U.cell? ⟨sb,i*2+1,none⟩=some (.int .i64 ((l.getD i (0,0)).2:Nat))):=fun U hU i hi=>by
  have hlow:∀ o,U.cell? ⟨sb,o,none⟩=w1.cell? ⟨sb,o,none⟩:=fun o=>by
   rw [hU.cell (p:=⟨sb,o,none⟩) (by simp;omega),hb6.cell (p:=⟨sb,o,none⟩) (by simp;omega),HbA.out.cell (p:=⟨sb,o,none⟩) (by simp;omega),Hb4.out.cell (p:=⟨sb,o,none⟩) (by simp;omega),Hb3.out.cell (p:=⟨sb,o,none⟩) (by simp;omega),Hb2.out.cell (p:=⟨sb,o,none⟩) (by simp;omega)]
  rw [hlow,hlow,Hown.out.cellAt (i*2) (by omega),Hown.out.cellAt (i*2+1) (by omega),Nat.mul_comm i 2];exact qbO l i hi
 have Hcode:Hid (∀ U,Below w4.heap.size w6 U→∀ s,s<288→1≤ln s→U.cell? ⟨w3.heap.size,s*2,none⟩=some (.int .i64 (num (fun i=>(ln i:Int)) 288 s:Nat))∧U.cell? ⟨w3.heap.size,s*2+1,none⟩=some (.int .i64 (ln s:Nat))):=fun U hU s hs h1=>by
  have hr:=qam (qam (qam Hrow4.out HbA.out hrl4) hb6 hrl4) hU hrl4;have hc:=qky (fun i=>(ln i:Int)) 288 s Hfits.out hs;have e1:=hr.cell (i:=s*2) (by omega);have e2:=hr.cell (i:=s*2+1) (by omega);rw [hc.1] at e1;rw [hc.2] at e2;unfold numz at e1;rw [if_pos (by show 1≤(ln s:Int);omega)] at e1;exact ⟨e1,e2⟩
 have Hbw6:=hidI hbw6;have Hag6:=hidI hag6;have Hlens:=hidI hlens;have Hp2:=hidI hp2;have HbT:Hid (Below w.heap.size w w6):=Hb1.out.trans ((Hb2.out.mono Hb1.out.size).trans ((Hb3.out.mono (Nat.le_trans Hb1.out.size hs12)).trans ((Hb4.out.mono (Nat.le_trans Hb1.out.size (Nat.le_trans hs12 hs23))).trans ((HbA.out.trans hb6).mono (Nat.le_trans Hb1.out.size (Nat.le_trans hs12 (Nat.le_trans hs23 hs34)))))));have hs6:w4.heap.size≤w6.heap.size:=Nat.le_trans hsA hb6.size;have hww4:w.heap.size≤w4.heap.size:=Nat.le_trans Hb1.out.size (Nat.le_trans hs12 (Nat.le_trans hs23 hs34));clear hbw6 hag6 hlens hp2 hb6 Hle HbA Hrow3 Hrow4 Hb1 Hb2 Hb3 Hb4 Hown;go_wp2
 go_loopw [31] (fun i wr=>∃ k pos:Nat,∃ c,i=.int .i64 (k:Nat)∧k≤l.length∧pos≤p1+24*k∧w4.heap.size≤wr.heap.size∧Hid (BW wr w4.heap.size (w4.heap.size+1) c pos)∧Hid (WS d ln l p1 c k pos)∧Hid (Ag b6 c p1)∧p1≤pos∧Hid (Below w4.heap.size w6 wr)) (fun i _=>l.length - (intOf i).toNat)
 case atStart=>exact ⟨0,p1,b6,rfl,by omega,by omega,hs6,Hbw6,WS.init _ _ _ _ _,Ag.refl _ _,Nat.le_refl _,Below.refl _ _⟩
 case round =>
  clear Hbw6;obtain ⟨k,pos,c,rfl,hk,hpos,hszr,Hbw,Hws,Hagc,hp1p,Hbel⟩:=hrel;have hbl:0<c.length:=by
   have h1:=Hbw.out.wr.lo;omega
  by_cases hkl:k<l.length
  ·have hst:=Hok.out.ok k hkl;have hmem:=qjm l k hkl;obtain ⟨x1,x2⟩:=Hcell.out wr Hbel.out k hkl;obtain ⟨s,hs⟩:∃ s,s=(l.getD k (0,0)).1:=⟨_,rfl⟩;obtain ⟨bk,hbk⟩:∃ b,b=(l.getD k (0,0)).2:=⟨_,rfl⟩;have hs288:s<288:=by rw [hs];exact hst.lt
   have hln1:1≤ln s:=by
    have:=(C1.out s hs288).2 ((qg4 l s).2 ⟨_,hmem,hs.symm⟩)
    omega
   have hln12:=C3.out s;rw [←hs] at x1;rw [←hbk] at x2;have hnum:num (fun i=>(ln i:Int)) 288 s<2^ln s:=by
    have:=qdN (fun i=>(ln i:Int)) 288 s Hfits.out hs288 (by show 1≤(ln s:Int);omega)
    simpa using this
   obtain ⟨nm,hnm⟩:∃ nm,nm=num (fun i=>(ln i:Int)) 288 s:=⟨_,rfl⟩;rw [←hnm] at hnum;obtain ⟨O,hO⟩:∃ O,O=Obj.cells #[.int .i64 (s:Nat),.int .i64 (bk:Nat)] 282:=⟨_,rfl⟩;have hbelA:Below w4.heap.size w6 (wr.alloc O):=Hbel.out.alloc hszr O;obtain ⟨y1,y2⟩:=Hcode.out _ hbelA s hs288 hln1;rw [←hnm] at y1;have hbl2:(wr.alloc O).heap[wr.heap.size]? = some (.cells #[.int .i64 (s:Nat),.int .i64 (bk:Nat)] 282 (0,0)):=by rw [hO];exact heap_alloc_new _ _
   have z0:(wr.alloc O).cell? ⟨wr.heap.size,0,none⟩=some (.int .i64 (s:Nat)):=by rw [cell_of_row _ _ 0 _ 282 (0,0) hbl2];rfl
   have hbwA:BW (wr.alloc O).drew w4.heap.size (w4.heap.size+1) c pos:=Hbw.out.of fun j hj=>Below.heap_alloc _ _ j hj
   have Hput:=hidI (qne (wr.alloc O).drew w4.heap.size (w4.heap.size+1) c pos nm (ln s) (by simp;omega) hbl (by omega) hln12 hnum hbwA);have Hbl2:=hidI hbl2;have HbelA:=hidI hbelA;have Hs:=hidI hs;have Hbk:=hidI hbk;have Hnm:=hidI hnm;have HO:=hidI hO;have Hst:=hidI hst;have hszA:w4.heap.size≤(wr.alloc O).drew.heap.size:=by simp;omega
   obtain ⟨sl,hsl⟩:∃ sl,sl=wr.heap.size:=⟨_,rfl⟩;have Hsl:=hidI hsl;rw [←hsl] at z0 Hbl2;clear hsl;clear hbl2 hbwA hmem hst hbelA Hbel Hbw;have hlsn:((fun i=>(ln i:Int)) s)=(ln s:Int):=rfl
   generalize hlns:ln s=lns at *
   have Hlns:=hidI hlns;clear hlns;clear hlsn hs hbk hnm;go_wp2;rw [←HO.out,←Hsl.out];clear HO hO;have hw3:w3.heap.size<w4.heap.size:=hrl4;have hsi:(s:Int)<288:=by omega
   have hsi0:(0:Int)≤(s:Int):=by omega
   generalize wr.alloc O=W at *
   go_region_held3 (fun w'=>w'.cell? ⟨sl,0,none⟩=some (.int .i64 (s:Nat))∧w'.cell? ⟨w3.heap.size,s*2,none⟩=some (.int .i64 (nm:Nat))∧w'.cell? ⟨w3.heap.size,s*2+1,none⟩=some (.int .i64 (lns:Nat))) (go_keep) (first | (go_at_call 250;refine Hput.out.mono ?_;rintro e w7 ⟨rfl,c7,hbw7,ha7,hv7,hb7,hk7⟩;have k0:w7.cell? ⟨sl,0,none⟩=some (.int .i64 (s:Nat)):=(by rw [cell_of_row w7 sl 0 _ 282 (0,0) (hk7.block (w:=W.drew) Hbl2.out)];rfl);have k1:w7.cell? ⟨w3.heap.size,s*2,none⟩=some (.int .i64 (nm:Nat)):=(by rw [hb7.cell (p:=⟨w3.heap.size,s*2,none⟩) hw3];exact y1);have k2:w7.cell? ⟨w3.heap.size,s*2+1,none⟩=some (.int .i64 (lns:Nat)):=(by rw [hb7.cell (p:=⟨w3.heap.size,s*2+1,none⟩) hw3];exact y2)))
   ·have hbl7:=hk7.block (w:=W.drew) Hbl2.out;have k3:w7.cell? ⟨sl,1,none⟩=some (.int .i64 (bk:Nat)):=by rw [cell_of_row w7 sl 1 _ 282 (0,0) hbl7];rfl
    have Hbel7:=hidI (HbelA.out.drew.trans hb7);have hsz7:w4.heap.size≤w7.heap.size:=Nat.le_trans hszA hb7.size;have Hag7:=hidI (Hagc.out.trans ha7 hp1p);have hseq:(l.getD k (0,0)).1=s:=Hs.out.symm;have hbeq:(l.getD k (0,0)).2=bk:=Hbk.out.symm;have hcl7:0<c7.length:=Nat.lt_of_lt_of_le hbl ha7.len;rename_i hHeld;clear hHeld k1 k2 y1 y2 z0 hbl7 hb7 hk7 Hput Hbl2 HbelA;by_cases h256:s<256
    ·have Hws7:Hid (WS d ln l p1 c7 (k+1) (pos+lns)):=by
      have:=Hws.out.byte (c':=c7) hkl hp1 Hok.out (by rw [hseq];exact h256) (by rw [hseq,Hlns.out];exact hln1) (by rw [hseq,Hlns.out];exact hbw7.wr) ha7 (by rw [hseq,Hlns.out,hv7,Hnm.out])
      rw [hseq,Hlns.out] at this;exact this
     have Hbw7:=hidI hbw7;clear hbw7 ha7 hv7 hseq hbeq Hws;go_wp2;go_roundw
     case rel=>exact ⟨k+1,pos+lns,c7,by go_num,by omega,by omega,hsz7,Hbw7,Hws7,Hag7,by omega,Hbel7⟩
     case measure=>simp [intOf];omega
    obtain ⟨b1,b2,b3,b4⟩:=Hst.out.copy (by rw [hseq];exact h256);rw [hbeq] at b1 b2 b3;have hput:=qne w7 w4.heap.size (w4.heap.size+1) c7 (pos+lns) (bk - 1) 12 hsz7 hcl7 (by omega) (by omega) (by omega) hbw7;rw [show ((bk - 1:Nat):Int)=(bk:Int) - 1 by omega] at hput;have Hput:=hidI hput;have Hv7:=hidI hv7;have Ha7:=hidI ha7;have hbk4:bk≤4096:=b2;clear hput hbw7 hv7 ha7 b4 b3;go_wp2_with fail;refine Hput.out.mono ?_;rintro e w8 ⟨rfl,c8,hbw8,ha8,hv8,hb8,hk8⟩;have Hws8:Hid (WS d ln l p1 c8 (k+1) (pos+lns+12)):=by
     have:=Hws.out.copy (c':=c8) hkl hp1 Hok.out (by rw [hseq];exact h256) (by rw [hseq,Hlns.out];exact hln1) (by rw [hseq,Hlns.out];exact hbw8.wr) (Ha7.out.trans ha8 (by omega)) (by rw [hseq,Hlns.out,ha8.val pos lns (Nat.le_refl _),Hv7.out,Hnm.out]) (by rw [hseq,Hlns.out,hv8,hbeq])
     rw [hseq,Hlns.out] at this;exact this
    have Hbw8:=hidI hbw8;have Hbel8:=hidI (Hbel7.out.trans hb8);have hsz8:w4.heap.size≤w8.heap.size:=Nat.le_trans hsz7 hb8.size;have Hag8:=hidI (Hag7.out.trans ha8 (by omega));clear hbw8 ha8 hv8 hb8 hk8 hseq hbeq Hws Hput Hbel7 Hag7;go_wp2;go_roundw
    case rel=>exact ⟨k+1,pos+lns+12,c8,by go_num,by omega,by omega,hsz8,Hbw8,Hws8,Hag8,by omega,Hbel8⟩
    case measure=>simp [intOf];omega
  have hkq:k=l.length:=by omega
  subst hkq;obtain ⟨v,hst,hown⟩:=Hbw.out.st;have x0:wr.cell? ⟨w4.heap.size+1,0,none⟩=some v:=by rw [cell_of_row wr _ 0 _ 279 (0,0) hst];rfl
  obtain ⟨va,vc,hv⟩:=slice_form hown;subst hv;obtain ⟨tc,htc⟩:∃ tc,tc=txt c:=⟨_,rfl⟩;have hcv:=qfH (l:=c) hown tc htc;have Htc:=hidI htc;have hwr:=Hbw.out.wr;have Hend:Hid (unpF 288 c=some d∧c.length≤50000∧(∀ e,(∀ i,i<d.length→(d.getD i 0).toNat=e)→c.length≤40+d.length/16)):=by
   have hps:=Hws.out.ps;rw [List.take_of_length_le (Nat.le_refl _)] at hps;refine ⟨?_,?_,?_⟩
   ·refine qnk (p1:=p1) (p2:=pos) h0 hd rfl (Hag6.out.trans Hagc.out hp1) (by omega) Hfits.out hwr ?_ (Hws.out.done Hok.out);exact Hlens.out c (Hagc.out.mono (Nat.le_refl _))
   ·have h1:=hwr.hi;omega
   intro e he;exact qhI h0 (Has.out e he) C1.out C4.out (by rw [hps];have:=Hp2.out;omega) hwr.hi
  clear htc hst hown hwr Hbw Hws;go_wp2;go_ret
  refine ⟨c,?_,Hend.out.1,Hend.out.2.1,Hend.out.2.2,HbT.out.trans (Hbel.out.mono hww4)⟩;rw [←Htc.out];rfl
def PackP (d:List UInt8) (w:World) (e:Ending) (w':World):Prop:=∃ T,e=.returned (.tuple #[.string (txt T),.int .i64 0])∧unpF 288 T=some d∧T.length≤d.length+1∧(∀ c,(∀ i,i<d.length→(d.getD i 0).toNat=c)→T.length≤40+d.length/16)∧Below w.heap.size w w'
theorem ql7 (d:List UInt8):txt [0]++txt d=txt (0 :: d):=by
 apply ByteArray.ext
 simp [txt]
theorem qfn (W:World):(convert 111 9 (.slice (some ⟨W.heap.size,0,none⟩) 1 1)).run Tryz.prog (W.alloc (.cells #[.int .u8 0] 5))=.ok (.string (txt [0])) (W.alloc (.cells #[.int .u8 0] 5)):=
 conv_own (base:=0) (n:=1) (l:=[0]) ⟨rfl,.inr ⟨_,1,_,rfl,Nat.zero_le _,heap_alloc_new _ _,Nat.le_refl _,by unfold maxLen;omega,rfl,rfl⟩⟩
theorem pack_any (w:World) (d:List UInt8) (hd:d.length≤4000):Calls Tryz.prog 131 #[.string (txt d)] w fun e w'=>PackP d w e w':=by
 have hts:(txt d).size=d.length:=qaa d;have hpl:unpF 288 (0 :: d)=some d:=qdR 288 d hd;have hz:=ql7 d;obtain ⟨i0,hi,hz0,hz1,hz2⟩:=info_parts Tryz.info5;by_cases h0:d.length=0
 ·have hnil:d=[]:=List.length_eq_zero_iff.1 h0;subst hnil;have hcv:=qfn w;have hts0:(txt ([]:List UInt8)).size=0:=hts;have hz1s:(txt [0]).size=1:=rfl;obtain ⟨z0,hz0'⟩:∃ z,z=txt [0]:=⟨_,rfl⟩;obtain ⟨t,ht⟩:∃ z,z=txt ([]:List UInt8):=⟨_,rfl⟩;have Hz:Hid (z0++t=txt [0]):=by rw [hz0',ht];exact hz
  rw [←hz0'] at hcv hz1s;rw [←ht] at hts0 ⊢;clear hz hts hz0' ht;go_enter Tryz.func131,Tryz.ntmps131
  go_wp2;go_ret2
  refine ⟨[0],?_,hpl,by simp,fun _ _=>by simp,(Below.refl _ w).alloc (Nat.le_refl _) _⟩;rw [←Hz.out];rfl
 have Henc:=hidI (qif w d (by omega) hd);have h0':0<d.length:=by omega
 have Hpl:=hidI hpl;have Hz:=hidI hz;clear hpl hz;have Htd:Hid (∃ t,t=txt d):=⟨_,rfl⟩
 generalize htd:txt d=t at *
 have Htd:=hidI htd;clear htd;go_enter Tryz.func131,Tryz.ntmps131
 go_wp2_with fail;refine Henc.out.mono ?_;rintro e w1 ⟨T,rfl,hunp,hl5,hsame,hb⟩;have hTs:(txt T).size=T.length:=qaa T;obtain ⟨tT,htT⟩:∃ x,x=txt T:=⟨_,rfl⟩;rw [←htT] at hTs ⊢;have HtT:=hidI htT;have Hunp:=hidI hunp;have Hsame:=hidI hsame;have Hb:=hidI hb;clear htT hunp hsame hb Henc;by_cases hle:T.length≤d.length
 ·go_wp2;go_ret2
  refine ⟨T,?_,Hunp.out,by omega,Hsame.out,Hb.out⟩;rw [←HtT.out];rfl
 have hcv:=qfn w1;have hz1s:(txt [0]).size=1:=rfl
 generalize txt [0]=z0 at *
 go_wp2;go_ret2
 refine ⟨0 :: d,?_,Hpl.out,by simp,fun c hc => ?_,Hb.out.alloc Hb.out.size _⟩
 ·rw [←Hz.out];rfl
 have:=Hsame.out c hc
 simp only [List.length_cons];omega
theorem clone_in (s:ByteArray) (w:World) (hlim:s.size≤140737488351232):Calls Tryz.prog 122 #[.string s] w fun e w'=>e=.returned (.string s)∧Below w.heap.size w w':=by
 by_cases h0:s.size=0
 ·have hs:s=⟨#[]⟩:=by
   apply ByteArray.ext
   exact Array.eq_empty_of_size_eq_zero h0
  subst hs;go_enter Tryz.func122,Tryz.ntmps122
  go_wp2;go_ret
  exact ⟨rfl,Below.refl _ _⟩
 obtain ⟨i0,hi,hz0,hz1,hz2⟩:=info_parts Tryz.info5;have hinfo:(Tryz.prog.info? 5).map (·.size)=some 1:=by rw [hi];simp [hz1]
 have hco:Tryz.prog.cellsOf 5=1:=by simp [Program.cellsOf,hi,hz1]
 obtain ⟨M,hM⟩:∃ M,M=madeCells #[Value.int .u8 0] s.size:=⟨_,rfl⟩;have hMs:M.size=s.size:=by rw [hM,size_madeCells]
 have hmk:∀ W:World,(Instr.makeSlice 111 (.int .i64 (s.size:Int)) (.int .i64 (s.size:Int))).run Tryz.prog W=.ok (.slice (some ⟨W.heap.size,0,none⟩) s.size s.size) (W.alloc (.cells M 5)):=fun W=>by
  rw [hM];exact run_make_row' (P:=Tryz.prog) 111 5 (.int .u8 0) 1 Tryz.underlying111 Tryz.info5 rfl .i64 .i64 s.size (by omega) (by omega) W
 clear hM;have hcp:=Lib.run_copy_row_string (P:=Tryz.prog) (w.alloc (.cells M 5)) 111 9 3 5 w.heap.size 0 s.size s.size s M 5 Tryz.underlying111 hinfo (heap_alloc_new w _) (Nat.le_refl _) (by omega);obtain ⟨Y,hY⟩:∃ Y,Y=(M.toList.take 0++Lib.byteCells s.data.toList++M.toList.drop (0+s.size)).toArray:=⟨_,rfl⟩;rw [←hY] at hcp;have hYl:Y.toList=Lib.byteCells s.data.toList:=by
  rw [hY,List.toList_toArray,List.take_zero,List.nil_append,List.drop_of_length_le (by rw [Array.length_toList];omega),List.append_nil]
 have hYs:Y.size=s.size:=by rw [←Array.length_toList,hYl,Lib.byteCells_length,←Lib.size_eq]
 have hgY:((w.alloc (.cells M 5)).setRow w.heap.size Y).heap[w.heap.size]? = some (.cells Y 5 (0,0)):=setRow_heap _ _ M _ 5 (0,0) (heap_alloc_new w _);have hne:s.data.toList≠[]:=fun e=>h0 (by rw [Lib.size_eq,e];rfl)
 have hUS:=Lib.run_unsafeString_row (P:=Tryz.prog) ((w.alloc (.cells M 5)).setRow w.heap.size Y) 242 3 9 5 Tryz.underlying242 hco w.heap.size Y.size (by unfold World.shape?;rw [hgY]) s.data.toList hne (by rw [←Lib.size_eq];omega) (by rw [←Lib.size_eq];omega)
  (fun j x hx=>Lib.cells_of_row hgY Y.size j _ (by rw [List.take_of_length_le (by rw [Array.length_toList];exact Nat.le_refl _),hYl];simp [Lib.byteCells,hx]))
 rw [←Lib.size_eq] at hUS;clear hY;go_enter Tryz.func122,Tryz.ntmps122
 go_wp2;go_ret
 have hb1:Below w.heap.size w (w.alloc (.cells M 5)):=(Below.refl _ w).alloc (Nat.le_refl _) _;have hb2:Below w.heap.size (w.alloc (.cells M 5)) ((w.alloc (.cells M 5)).setRow w.heap.size Y):=⟨rfl,rfl,rfl,by simp,fun k hk=>setRow_other _ _ _ _ (by omega)⟩;exact ⟨rfl,Lib.below_freeze (hb1.trans hb2) (p:=⟨w.heap.size,0,none⟩) (Nat.le_refl _) _⟩
theorem clone_any (s:ByteArray) (w:World) (hlim:s.size≤140737488351232):Calls Tryz.prog 72 #[.string s] w fun e w'=>e=.returned (.string s)∧Below w.heap.size w w':=by
 go_enter Tryz.func72,Tryz.ntmps72
 go_wp2_with fail;refine (clone_in s w hlim).mono ?_;rintro e w1 ⟨rfl,hb⟩;go_wp2;go_ret
 exact ⟨rfl,hb⟩
theorem qms (c:UInt8) (r:List UInt8):∃ t,t=txt (c :: r)∧t.size=r.length+1∧(∀ h:0<t.size,(t[0]'h).toNat=c.toNat)∧t.extract 1 t.size=txt r:=by
 refine ⟨_,rfl,by rw [qaa];rfl,fun h=>by rw [qaR];rfl,?_⟩;rw [qae,qaa];simp
theorem qf4 (c:UInt8) (r:List UInt8) (w:World) (hr:r.length+1≤140737488351232):Calls Tryz.prog 145 #[.string (txt (c :: r))] w fun e w'=>e=ansU (unpF 288 (c :: r))∧Below w.heap.size w w':=by
 obtain ⟨t,ht,hs,hc,hex⟩:=qms c r;have hs0:0<t.size:=by omega
 have hc0:=hc hs0;rw [←ht];have hsb:t.size≤140737488351232:=by omega
 have hrs:(txt r).size≤140737488351232:=by rw [qaa];omega
 have hes1:t.size≤r.length+1:=by omega
 have hes2:r.length+1≤t.size:=by omega
 have Hex:=hidI hex;clear ht hc hs hex;have hne:((t.size:Int)==0)=false:=beq_eq_false_iff_ne.2 (by omega);have hlt:(0:Int)<(t.size:Int):=by omega
 have h1t:(1:Int)≤(t.size:Int):=by omega
 by_cases h0:c=0
 ·have hcz:(t[0]'hs0).toNat=0:=by rw [hc0,h0];rfl
  clear hc0;subst h0;by_cases h4:r.length≤4000
  ·have Hu:=hidI (qdR 288 r h4);have hd4:decide (((t.size - 1:Nat):Int)≤4000)=true:=decide_eq_true (by omega);go_enter Tryz.func145,Tryz.ntmps145
   go_wp2
   go_quiet (fail)
   go_wp2_with fail;rw [Hex.out];refine (clone_any (txt r) _ hrs).mono ?_;rintro e w1 ⟨rfl,hb1⟩;have hB:Below w.heap.size w w1:=belowD (by simpa using hb1);go_wp2;go_ret2
   refine ⟨?_,hB⟩;rw [Hu.out];rfl
  have Hu:=hidI (qj5 288 r (by omega));have hd4:decide (((t.size - 1:Nat):Int)≤4000)=false:=decide_eq_false (by omega);go_enter Tryz.func145,Tryz.ntmps145
  go_wp2
  go_quiet (fail)
  go_wp2;go_ret2
  refine ⟨?_,below_drewN (Below.refl _ _) _⟩;rw [Hu.out];rfl
 have hcn:c.toNat≠0:=fun h=>h0 (UInt8.toNat_inj.1 h)
 have hc00:((c.toNat:Int)==0)=false:=beq_eq_false_iff_ne.2 (by omega);by_cases h1:c=1
 ·have hcz:(t[0]'hs0).toNat=1:=by rw [hc0,h1];rfl
  clear hc0 hcn hc00;have Hdec:=hidI (fun w=>qhx r w (by omega));subst h1;go_enter Tryz.func145,Tryz.ntmps145
  go_wp2
  go_quiet (fail)
  go_wp2_with fail;rw [Hex.out];refine (Hdec.out _).mono ?_;rintro e w1 ⟨rfl,hb1⟩;have hB:Below w.heap.size w w1:=belowD (by simpa using hb1);cases hu:unpF 288 (1 :: r) with
  | none =>
    have Hu:=hidI hu;clear hu;show _;unfold ansD;go_wp2;go_ret2
    refine ⟨?_,hB⟩;rw [Hu.out];rfl
  | some l =>
    have Hu:=hidI hu;clear hu;unfold ansD;go_wp2;go_ret2
    refine ⟨?_,hB⟩;rw [Hu.out];rfl
 have hcn1:c.toNat≠1:=fun h=>h1 (UInt8.toNat_inj.1 h)
 have hc01:((c.toNat:Int)==1)=false:=beq_eq_false_iff_ne.2 (by omega);have Hu:=hidI (qhp 288 c r h0 h1);go_enter Tryz.func145,Tryz.ntmps145
 go_wp2
 go_quiet (fail)
 go_wp2;go_ret2
 refine ⟨?_,below_drewN (Below.refl _ _) _⟩;rw [Hu.out];rfl
theorem qix (w:World):Calls Tryz.prog 145 #[.string (txt [])] w fun e w'=>e=ansU none∧w'=w:=by
 have hs:(((txt []).size:Int)==0)=true:=by rw [qaa];rfl
 go_enter Tryz.func145,Tryz.ntmps145
 go_wp2;go_ret2
 exact ⟨rfl,rfl⟩
theorem unpack_any (T:List UInt8) (w:World) (hT:T.length≤140737488351232):Calls Tryz.prog 145 #[.string (txt T)] w fun e w'=>e=ansU (unpF 288 T)∧Below w.heap.size w w':=by
 cases T with
 | nil=>exact (qix w).mono fun e w' ⟨he,hw⟩=>by rw [he,hw];exact ⟨rfl,Below.refl _ _⟩
 | cons c r=>exact qf4 c r w (by simpa using hT)
theorem qiW (s:List UInt8) (z:Nat→Int) (N size f:Nat) (out:List UInt8) (pos:Nat) (x:List UInt8 × Nat) (ho:out.length≤size) (h:dataF s z N size f out pos=some x):x.1.length≤size:=by
 induction f generalizing out pos with
 | zero =>
   rw [dataF] at h
   split at h
   ·cases h;exact ho
   cases h
 | succ f ih =>
   rw [dataF] at h
   split at h
   ·cases h;exact ho
   rename_i hlt
   split at h
   ·cases h
   rename_i i hi
   split at h
   ·exact ih _ _ (by simp;omega) h
   split at h
   ·cases h
   split at h
   ·cases h
   rename_i hno;exact ih _ _ (by rw [qcf];omega) h
theorem unpF_len (t y:List UInt8) (h:unpF 288 t=some y):y.length≤4000:=by
 cases t with
 | nil=>cases h
 | cons c r =>
   rw [qaY] at h
   split at h
   ·split at h
    ·cases h;assumption
    cases h
   split at h
   ·split at h
    ·cases h
    split at h
    ·cases h
    rename_i hsz
    generalize 256*(r.getD 0 0).toNat+(r.getD 1 0).toNat=size at *
    unfold bodyF at h
    split at h
    ·cases h
    split at h
    ·cases h
    split at h
    ·cases h
    rename_i out p hdt
    split at h
    ·cases h
     have:=qiW _ _ _ _ _ _ _ _ (by simp) hdt
     simp at this;omega
    cases h
   cases h
end Go.Proofs.YtodmdkhdbfbfgaaGreatDoor.S1
namespace Go.Proofs.YtodmdkhdbfbfgaaGreatDoor
open Go.RowKit Go.Nt
theorem packC:PackC (S1.Pk.unpF 288) where
 small:=fun t d h=>S1.unpF_len t d h
 pack:=fun w d hd=>(S1.pack_any w d hd).mono fun e w' ⟨t,he,hu,hl,_,hb⟩=>⟨t,he,hu,hl,hb⟩
 some:=fun w t d ht hu=>(S1.unpack_any t w (by omega)).mono fun e w' ⟨he,hb⟩=>⟨by rw [he,hu];rfl,hb⟩
 none:=fun w t ht hu=>(S1.unpack_any t w (by omega)).mono fun e w' ⟨he,hb⟩=>⟨by rw [he,hu];rfl,hb⟩
end Go.Proofs.YtodmdkhdbfbfgaaGreatDoor
namespace Go.Proofs.YtodmdkhdbfbfgaaGreatDoor.rebuilt
theorem cl0:Rows.rebuiltRow.wf (OpenSpec.ofChange (OpenSpec.ofChange Rows.rebuiltSpec).bare)=true:=by kernel_rfl
theorem cl1:laidOutB Tryz.prog=true:=by kernel_rfl
theorem cl2:mapsRowed Tryz.prog=true:=by kernel_rfl
theorem cl3:Tryz.f6.params.all (Tryz.prog.readableRec ·)=true:=by kernel_rfl
theorem cl4:namedTie Tryz.prog Rows.rebuiltRow.named (OpenSpec.ofChange Rows.rebuiltSpec).bare.vars=true:=by kernel_rfl
theorem cl5:(Rows.rebuiltRow.stops==[])=true:=by kernel_rfl
theorem cl6:(Tryz.prog.stops==[])=true:=by kernel_rfl
theorem cl7:(Rows.rebuiltRow.knobs==[])=true:=by kernel_rfl
theorem cl8:(Tryz.prog.stopKnobs==[])=true:=by kernel_rfl
theorem cl9:(Rows.rebuiltRow.inPlace==Tryz.prog.inPlace 6)=true:=by kernel_rfl
theorem cl10:(Rows.rebuiltRow.unfollowed==Tryz.prog.unfollowed 6)=true:=by kernel_rfl
theorem cl11:(Rows.rebuiltRow.recurses==Tryz.prog.recurses 6)=true:=by kernel_rfl
theorem cl12:(Rows.rebuiltRow.named==Tryz.prog.varsNamed 6)=true:=by kernel_rfl
theorem cl13:(Rows.rebuiltRow.maps==(Tryz.f6.params.toList++(OpenSpec.ofChange Rows.rebuiltSpec).bare.plain.varTypes Tryz.prog).any (Tryz.prog.mapsRec ·))=true:=by kernel_rfl
theorem cl14:(Rows.rebuiltRow.ifaces==(Tryz.f6.params.toList++(OpenSpec.ofChange Rows.rebuiltSpec).bare.plain.varTypes Tryz.prog).any (Tryz.prog.ifacesRec ·))=true:=by kernel_rfl
theorem cl15:(Rows.rebuiltRow.mapsOut==Tryz.prog.mapsAmong Tryz.f6.resultTypes.toList)=true:=by kernel_rfl
theorem cl16:(Rows.rebuiltRow.loops==(Tryz.f6.params.toList++(OpenSpec.ofChange Rows.rebuiltSpec).bare.plain.varTypes Tryz.prog).any (Tryz.prog.loopsFrom ·))=true:=by kernel_rfl
theorem cl17:(Rows.rebuiltRow.wideKeys==(Tryz.f6.params.toList++(OpenSpec.ofChange Rows.rebuiltSpec).bare.plain.varTypes Tryz.prog++Tryz.f6.resultTypes.toList).any (Tryz.prog.wideKeysFrom ·))=true:=by kernel_rfl
theorem cl18:(OpenSpec.ofChange Rows.rebuiltSpec).bare.vars.all (Tryz.prog.varReadable ·)=true:=by kernel_rfl
theorem cl19:Tryz.f6.resultTypes.all (fun t=>Tryz.prog.readableRec t&&decide (t<Tryz.prog.types.size))=true:=by kernel_rfl
theorem cl20:(Rows.rebuiltRow.ifacesOut==Tryz.f6.resultTypes.toList.any (Tryz.prog.ifacesRec ·))=true:=by kernel_rfl
theorem cl21:(Rows.rebuiltRow.loopsOut==Tryz.f6.resultTypes.toList.any (Tryz.prog.loopsFrom ·))=true:=by kernel_rfl
theorem cl22:(Rows.rebuiltRow.plainKeys==Tryz.prog.plainKeys)=true:=by kernel_rfl
theorem cl23:Rows.rebuiltRow.shortTexts.isNone=true:=by kernel_rfl
theorem cl24:Tryz.prog.stopsHeard=true:=by kernel_rfl
theorem cl25:Tryz.prog.mayEnter=true:=by kernel_rfl
theorem cl26:(Rows.rebuiltRow.lifted==Tryz.prog.liftsFinal)=true:=by kernel_rfl
theorem cl27:(Tryz.prog.make==some Rows.rebuiltRow.make)=true:=by kernel_rfl
theorem cl28:(Rows.rebuiltRow.kinds==(if Rows.rebuiltRow.domain.isEmpty then [] else Tryz.f6.params.toList.map fun t=>match Tryz.prog.underlying t with | some (.int k)=>some k | _=>none))=true:=by kernel_rfl
theorem cl29:(Rows.rebuiltRow.pinned==Rows.rebuiltRow.pinnedBy)=true:=by kernel_rfl
theorem cl30:(Rows.rebuiltRow.veiled==(Tryz.f6.params.toList++(OpenSpec.ofChange Rows.rebuiltSpec).bare.plain.varTypes Tryz.prog++Tryz.f6.resultTypes.toList).any (Tryz.prog.veiledRec ·))=true:=by kernel_rfl
theorem cl31:Rows.rebuiltRow.veiledFits Tryz.prog Tryz.f6.params.toList (Tryz.f6.params.toList++(OpenSpec.ofChange Rows.rebuiltSpec).bare.plain.varTypes Tryz.prog++Tryz.f6.resultTypes.toList)=true:=by kernel_rfl
theorem closed:joinedFacts Tryz.prog 6 Tryz.f6 (OpenSpec.ofChange Rows.rebuiltSpec).bare Rows.rebuiltRow=true:=by
 unfold joinedFacts
 exact (Bool.and_eq_true_iff.2 ⟨(Bool.and_eq_true_iff.2 ⟨(Bool.and_eq_true_iff.2 ⟨(Bool.and_eq_true_iff.2 ⟨(Bool.and_eq_true_iff.2 ⟨(Bool.and_eq_true_iff.2 ⟨(Bool.and_eq_true_iff.2 ⟨(Bool.and_eq_true_iff.2 ⟨(Bool.and_eq_true_iff.2 ⟨(Bool.and_eq_true_iff.2 ⟨(Bool.and_eq_true_iff.2 ⟨(Bool.and_eq_true_iff.2 ⟨(Bool.and_eq_true_iff.2 ⟨(Bool.and_eq_true_iff.2 ⟨(Bool.and_eq_true_iff.2 ⟨(Bool.and_eq_true_iff.2 ⟨(Bool.and_eq_true_iff.2 ⟨(Bool.and_eq_true_iff.2 ⟨(Bool.and_eq_true_iff.2 ⟨(Bool.and_eq_true_iff.2 ⟨(Bool.and_eq_true_iff.2 ⟨(Bool.and_eq_true_iff.2 ⟨(Bool.and_eq_true_iff.2 ⟨(Bool.and_eq_true_iff.2 ⟨(Bool.and_eq_true_iff.2 ⟨(Bool.and_eq_true_iff.2 ⟨(Bool.and_eq_true_iff.2 ⟨(Bool.and_eq_true_iff.2 ⟨(Bool.and_eq_true_iff.2 ⟨(Bool.and_eq_true_iff.2 ⟨(Bool.and_eq_true_iff.2 ⟨cl0,cl1⟩),cl2⟩),cl3⟩),cl4⟩),cl5⟩),cl6⟩),cl7⟩),cl8⟩),cl9⟩),cl10⟩),cl11⟩),cl12⟩),cl13⟩),cl14⟩),cl15⟩),cl16⟩),cl17⟩),cl18⟩),cl19⟩),cl20⟩),cl21⟩),cl22⟩),cl23⟩),cl24⟩),cl25⟩),cl26⟩),cl27⟩),cl28⟩),cl29⟩),cl30⟩),cl31⟩)
end Go.Proofs.YtodmdkhdbfbfgaaGreatDoor.rebuilt
