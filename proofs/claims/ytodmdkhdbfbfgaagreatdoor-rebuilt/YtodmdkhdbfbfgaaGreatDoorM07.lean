/- Lemmas. -/
import Derived.Test.YtodmdkhdbfbfgaaGreatDoorM06
set_option linter.unusedVariables false
set_option linter.unusedSimpArgs false
set_option maxRecDepth 100000
set_option maxHeartbeats 8000000
namespace Go.Proofs.YtodmdkhdbfbfgaaGreatDoor.S1
open Go.RowKit Pk
structure WL (z:Nat→Int) (c:List UInt8) (p pos:Nat):Prop where
 hp:p≤288
 ps:∃ ch,pos=24+4*nz z p+9*ch∧(32*ch≤p+32*nz z p∨(32*ch≤p+32*(nz z p+1)∧(p=288∨z p≠0)))
 rd:∃ F,288≤p+F∧∀ f,Ag c f pos→lensF (f.drop 3) 288 0 0 (fun _=>0)=lensF (f.drop 3) F p (pos - 24) (zp z p)
theorem WL.init (z:Nat→Int) (c:List UInt8):WL z c 0 24:=
 ⟨by omega,⟨0,rfl,.inl (by omega)⟩,288,by omega,fun f _=>by rw [qmN]⟩
theorem WL.bound {z:Nat→Int} {c:List UInt8} {p pos:Nat} (h:WL z c p pos):24≤pos∧pos≤24+13*nz z p+90:=by
 obtain ⟨ch,h1,h2⟩:=h.ps
 have:=h.hp
 omega
theorem WL.one {z:Nat→Int} {c c':List UInt8} {p pos:Nat} (h:WL z c p pos) (hp:p<288) (hz:1≤z p) (hw:Wr c' (pos+4)) (hv:val c' pos 4=(z p).toNat) (ha:Ag c c' pos):WL z c' (p+1) (pos+4):=by
 obtain ⟨ch,h1,h2⟩:=h.ps;obtain ⟨F,hF,hr⟩:=h.rd;have hn:nz z (p+1)=nz z p+1:=by rw [nz,if_neg (by omega)]
 obtain ⟨F',rfl⟩:∃ F',F=F'+1:=⟨F - 1,by omega⟩;exact ⟨by omega,⟨ch,by omega,.inl (by omega)⟩,F',by omega,qlQ hp h.bound.1 hz hw.lo hv ha _ hr⟩
theorem WL.run {z:Nat→Int} {c c':List UInt8} {p pos k:Nat} (h:WL z c p pos) (hp:p+k<288) (hk:k≤31) (hz:∀ i,i<k+1→z (p+i)=0) (he:k=31∨p+1+k=288∨z (p+1+k)≠0) (hw:Wr c' (pos+9)) (hv:val c' pos 4=0) (hv2:val c' (pos+4) 5=k) (ha:Ag c c' pos):WL z c' (p+1+k) (pos+9):=by
 obtain ⟨ch,h1,h2⟩:=h.ps;obtain ⟨F,hF,hr⟩:=h.rd;have hn:nz z (p+1+k)=nz z p:=by rw [show p+1+k=p+(k+1) by omega];exact qnh z p (k+1) hz
 obtain ⟨F',rfl⟩:∃ F',F=F'+1:=⟨F - 1,by omega⟩;have hz0:=hz 0 (by omega);rw [Nat.add_zero] at hz0;have h3:32*ch≤p+32*nz z p:=by
  rcases h2 with h2 | ⟨_,h2 | h2⟩
  ·exact h2
  ·omega
  exact absurd hz0 h2
 refine ⟨by omega,⟨ch+1,by omega,?_⟩,F',by omega,qlf hp h.bound.1 hz hw.lo hv hv2 ha _ hr⟩;rw [hn];rcases he with he | he | he
 ·left;omega
 ·right;exact ⟨by omega,.inl he⟩
 right;exact ⟨by omega,.inr he⟩
theorem WL.done {z:Nat→Int} {c:List UInt8} {pos:Nat} (h:WL z c 288 pos) (hz:∀ i,288≤i→z i=0):∀ f,Ag c f pos→lensF (f.drop 3) 288 0 0 (fun _=>0)=some (z,pos - 24):=by
 intro f hf;obtain ⟨F,hF,hr⟩:=h.rd;rw [hr f hf,qeb,qnl z 288 hz]
theorem qkH (w:World) (B g lb:Nat) (b:List UInt8) (z:Nat→Int) (hB:B≤w.heap.size) (hb:0<b.length) (hlb:lb<B) (hrow:w.rowIs lb 3 288 (fun j=>.int .i64 (z j))) (hz:∀ i,0≤z i∧z i≤12) (hz0:∀ i,288≤i→z i=0) (h:BW w B g b 24) :
 Calls Tryz.prog 249 #[.pointer (some ⟨g,0,none⟩),.slice (some ⟨lb,0,none⟩) 288 288] w fun e w'=>e=.returned (.tuple #[])∧∃ b' pos,BW w' B g b' pos∧Ag b b' 24∧24≤pos∧pos≤24+13*nz z 288+90∧(∀ f,Ag b' f pos→lensF (f.drop 3) 288 0 0 (fun _=>0)=some (z,pos - 24))∧Below B w w':=by
 have Hh:=hidI h;have Hz:=hidI hz;have Hz0:=hidI hz0;have Hrow:=hidI hrow;clear hz hz0 h hrow;go_enter Tryz.func249,Tryz.ntmps249
 go_wp2
 go_loopw [4] (fun i wr=>∃ p pos:Nat,∃ c,i=.int .i64 (p:Nat)∧Hid (WL z c p pos)∧Hid (BW wr B g c pos)∧Hid (Ag b c 24)∧Hid (Below B w wr)) (fun i _=>288 - (intOf i).toNat)
 case atStart=>exact ⟨0,24,b,rfl,WL.init z b,Hh,Ag.refl _ _,Below.refl _ _⟩
 case round =>
  clear Hh;obtain ⟨p,pos,c,rfl,Hw,Hbw,Hag,Hbel⟩:=hrel;have hp:=Hw.out.hp;have hpos:=Hw.out.bound;have hnz:=qng z p;by_cases hlt:p<288
  ·have hc0:=(qam Hrow.out Hbel.out hlb).cell (i:=p) hlt;have hzp:=Hz.out p;obtain ⟨n,hn⟩:∃ n:Nat,z p=(n:Int):=⟨(z p).toNat,by omega⟩;have Hn:=hidI hn;rw [hn] at hc0;have hn12:n≤12:=by omega
   clear hn hzp;have hwB:B≤wr.heap.size:=Nat.le_trans hB Hbel.out.size;go_wp2_with fail;refine (qko _ B g c pos n 4 hwB (Nat.lt_of_lt_of_le hb Hag.out.len) (by omega) (by omega) (by omega) Hbw.out).mono ?_;rintro e w1 ⟨rfl,c1,hbw1,ha1,hv1,hb1⟩;have Hbel1:=hidI (Hbel.out.trans hb1);have hrow1:=qam Hrow.out Hbel1.out hlb;have hc1:=hrow1.cell (i:=p) hlt;rw [Hn.out] at hc1;have Hag1:=hidI (Hag.out.trans ha1 hpos.1);have Hbw1:=hidI hbw1;have Ha1:=hidI ha1;have Hv1:=hidI hv1;have hwB1:B≤w1.heap.size:=Nat.le_trans hB Hbel1.out.size;clear hbw1 ha1 hv1 hb1 hc0 Hbel Hag Hbw;by_cases h0:n=0
   ·subst h0;go_wp2;have hzr:∀ i,i<288→w1.cell? ⟨lb,i,none⟩=some (.int .i64 (z i)):=fun i hi=>hrow1.cell hi
    have Hzr:=hidI hzr;have HzA:=hidI (fun i=>(Hz.out i).1);clear hzr hrow1 hc1
    go_loopw [5] (fun i wr=>∃ q:Nat,i=.int .i64 (q:Nat)∧q≤31∧p+q<288∧Hid (∀ j,j<q+1→z (p+j)=0)∧wr=w1) (fun i _=>32 - (intOf i).toNat)
    case atStart=>exact ⟨0,rfl,by omega,by omega,fun j hj=>by rw [show p+j=p by omega];exact Hn.out,rfl⟩
    obtain ⟨q,rfl,hq,hpq,Hq,rfl⟩:=hrel;have Hend:Hid (q=31∨p+1+q=288∨z (p+1+q)≠0→∀ c2,Wr c2 (pos+9)→Ag c1 c2 (pos+4)→val c2 (pos+4) 5=q→WL z c2 (p+q+1) (pos+9)):=fun he c2 hw2 ha2 hv2=>by
     rw [show p+q+1=p+1+q by omega];exact Hw.out.run hpq hq Hq.out he hw2 (by rw [ha2.val pos 4 (Nat.le_refl _)];exact Hv1.out) hv2 (Ha1.out.trans ha2 (by omega))
    by_cases hg:q<31∧p+q+1<288∧z (p+q+1)=0
    ·obtain ⟨g1,g2,g3⟩:=hg;have hx:=Hzr.out (p+q+1) g2;rw [g3] at hx;have Hq2:Hid (∀ j,j<q+1+1→z (p+j)=0):=fun j hj=>by
      by_cases e:j=q+1
      ·subst e;exact g3
      exact Hq.out j (by omega)
     clear Hq g3 Hend;have g1':decide ((q:Int)<31)=true:=by simp;omega
     have g2':decide ((p:Int)+(q:Int)+1<288)=true:=by simp;omega
     go_wp2;go_roundw
     case rel=>exact ⟨q+1,by go_num,by omega,by omega,Hq2,by trivial⟩
     case measure=>simp [intOf];omega
    have Hend2:Hid (∀ c2,Wr c2 (pos+9)→Ag c1 c2 (pos+4)→val c2 (pos+4) 5=q→WL z c2 (p+q+1) (pos+9)):=Hend.out (by
     by_cases a:q=31
     ·exact .inl a
     by_cases b:p+1+q=288
     ·exact .inr (.inl b)
     refine .inr (.inr fun h=>hg ⟨by omega,by omega,?_⟩);rw [show p+q+1=p+1+q by omega];exact h)
    clear Hend Hq;have hput:=qko wr B g c1 (pos+4) q 5 hwB1 (Nat.lt_of_lt_of_le hb Hag1.out.len) (by omega) (by omega) (by omega) Hbw1.out;have Hput:=hidI hput;clear hput;have hcs:(31≤q)∨(q<31∧p+q+1=288)∨(q<31∧p+q+1<288∧z (p+q+1)≠0):=by
     by_cases a:31≤q
     ·exact .inl a
     by_cases b:p+q+1=288
     ·exact .inr (.inl ⟨by omega,b⟩)
     exact .inr (.inr ⟨by omega,by omega,fun h=>hg ⟨by omega,by omega,h⟩⟩)
    clear hg;rcases hcs with a | ⟨a,b⟩ | ⟨a,b,c0⟩
    focus
     have a1:decide ((q:Int)<31)=false:=by simp;omega
     go_wp2_with fail;refine Hput.out.mono ?_;rintro e w2 ⟨rfl,c2,hbw2,ha2,hv2,hb2⟩;have Hfin:=hidI (Hend2.out c2 hbw2.wr ha2 hv2);have Hag2:=hidI (Hag1.out.trans ha2 (by omega));have Hbel2:=hidI (Hbel1.out.trans hb2);have Hbw2:=hidI hbw2;clear hbw2 ha2 hv2 hb2 Hput Hend2 Hzr Hv1 Ha1
    rotate_left
    focus
     have a1:decide ((q:Int)<31)=true:=by simp;omega
     have a2:decide ((p:Int)+(q:Int)+1<288)=false:=by simp;omega
     go_wp2_with fail;refine Hput.out.mono ?_;rintro e w2 ⟨rfl,c2,hbw2,ha2,hv2,hb2⟩;have Hfin:=hidI (Hend2.out c2 hbw2.wr ha2 hv2);have Hag2:=hidI (Hag1.out.trans ha2 (by omega));have Hbel2:=hidI (Hbel1.out.trans hb2);have Hbw2:=hidI hbw2;clear hbw2 ha2 hv2 hb2 Hput Hend2 Hzr Hv1 Ha1
    rotate_left
    focus
     have a1:decide ((q:Int)<31)=true:=by simp;omega
     have a2:decide ((p:Int)+(q:Int)+1<288)=true:=by simp;omega
     have hx:=Hzr.out (p+q+1) b;have hzb:=Hz.out (p+q+1);have a3:(z (p+q+1)==0)=false:=by simp;exact c0
     clear c0
     generalize z (p+q+1)=y at *
     go_wp2_with fail;refine Hput.out.mono ?_;rintro e w2 ⟨rfl,c2,hbw2,ha2,hv2,hb2⟩;have Hfin:=hidI (Hend2.out c2 hbw2.wr ha2 hv2);have Hag2:=hidI (Hag1.out.trans ha2 (by omega));have Hbel2:=hidI (Hbel1.out.trans hb2);have Hbw2:=hidI hbw2;clear hbw2 ha2 hv2 hb2 Hput Hend2 Hzr Hv1 Ha1 hx
    rotate_left
    all_goals
     go_wp2;go_roundw
     case rel=>exact ⟨p+q+1,pos+9,c2,by go_num,Hfin,Hbw2,Hag2,Hbel2⟩
     case measure=>simp [intOf];omega
   have hn0:(0:Int)<(n:Int):=by omega
   have Hend:=hidI (Hw.out.one hlt (by have:=Hn.out;omega) Hbw1.out.wr (by rw [Hv1.out,Hn.out];rfl) Ha1.out);clear Hw Hn Hv1 Ha1 hrow1;go_wp2;go_roundw
   case rel=>exact ⟨p+1,pos+4,c1,by go_num,Hend,Hbw1,Hag1,Hbel1⟩
   case measure=>simp [intOf];omega
  have h288:p=288:=by omega
  subst h288;go_wp2;go_end0
  exact ⟨rfl,c,pos,Hbw.out,Hag.out,hpos.1,hpos.2,Hw.out.done Hz0.out,Hbel.out⟩
end Go.Proofs.YtodmdkhdbfbfgaaGreatDoor.S1
namespace Go.Proofs.YtodmdkhdbfbfgaaGreatDoor.S1.Pk
open Go
structure Ent where
 wt:Nat
 tn:Nat
 b:Nat
 n:Nat
 c:Nat
def Ent.v (e:Ent):Value:=.slice (some ⟨e.b,0,none⟩) e.n e.c
def noEnt:Ent:=⟨0,0,0,0,0⟩
def qac:List Ent→List Value
 | []=>[]
 | e :: es=>.int .i64 (e.wt:Nat) :: .int .i64 (e.tn:Nat) :: e.v :: qac es
theorem qdw (es:List Ent):(qac es).length=es.length*3:=by
 induction es with
 | nil=>rfl
 | cons e es ih=>simp [qac,ih];omega
theorem qdl (a b:List Ent):qac (a++b)=qac a++qac b:=by
 induction a with
 | nil=>rfl
 | cons e a ih=>simp [qac,ih]
theorem qaA (es:List Ent) (i:Nat) (h:i<es.length) :
 (qac es)[3*i]? = some (.int .i64 ((es.getD i noEnt).wt:Nat))∧(qac es)[3*i+1]? = some (.int .i64 ((es.getD i noEnt).tn:Nat))∧(qac es)[3*i+2]? = some (es.getD i noEnt).v:=by
 induction es generalizing i with
 | nil=>simp at h
 | cons e es ih =>
   cases i with
   | zero=>simp [qac]
   | succ i =>
     have:=ih i (by simpa using h)
     rw [show 3*(i+1)=3*i+1+1+1 by omega,show 3*i+1+1+1+1=(3*i+1)+1+1+1 by omega,show 3*i+1+1+1+2=(3*i+2)+1+1+1 by omega];simpa [qac] using this
theorem qfI (es:List Ent) (i:Nat) (e:Ent) :
 (((qac es).set (3*i) (.int .i64 (e.wt:Nat))).set (3*i+1) (.int .i64 (e.tn:Nat))).set (3*i+2) e.v=qac (es.set i e):=by
 induction es generalizing i with
 | nil=>simp [qac]
 | cons x es ih =>
   cases i with
   | zero=>simp [qac]
   | succ i =>
     have:=ih i
     rw [show 3*(i+1)=3*i+1+1+1 by omega,show 3*i+1+1+1+1=(3*i+1)+1+1+1 by omega,show 3*i+1+1+1+2=(3*i+2)+1+1+1 by omega];simpa [qac] using this
theorem qeG (es:List Ent) (k:Nat):(qac es).take (k*3)=qac (es.take k):=by
 induction es generalizing k with
 | nil=>simp [qac]
 | cons x es ih =>
   cases k with
   | zero=>simp [qac]
   | succ k=>rw [Nat.add_mul,show k*3+1*3=k*3+1+1+1 by omega];simp [qac,ih]
def wa (es:List Ent) (i:Nat):Nat:=(es.getD i noEnt).wt
def swp (es:List Ent) (i j:Nat):List Ent:=(es.set i (es.getD j noEnt)).set j (es.getD i noEnt)
theorem qaB (es:List Ent) (i j:Nat):(swp es i j).length=es.length:=by simp [swp]
theorem qgK (es:List Ent) (i j:Nat) (hi:i<es.length) (hj:j<es.length):List.Perm (swp es i j) es:=by
 have:=List.set_set_perm hi hj
 unfold swp;rw [List.getD_eq_getElem?_getD,List.getElem?_eq_getElem hj,List.getD_eq_getElem?_getD,List.getElem?_eq_getElem hi];exact this
theorem qcm (es:List Ent) (i j k:Nat) (hi:i<es.length) (hj:j<es.length):wa (swp es i j) k=if k=j then wa es i else if k=i then wa es j else wa es k:=by
 unfold wa swp;rw [List.getD_eq_getElem?_getD,List.getElem?_set];by_cases h:j=k
 ·subst h;simp [hi,hj]
 rw [if_neg h,if_neg (fun e=>h e.symm),List.getElem?_set];by_cases h2:i=k
 ·subst h2;simp [hi,hj]
 rw [if_neg h2,if_neg (fun e=>h2 e.symm),List.getD_eq_getElem?_getD]
def Heap (es:List Ent):Prop:=∀ i,0<i→i<es.length→wa es ((i - 1)/2)≤wa es i
structure RI (es:List Ent) (a:Nat):Prop where
 all:∀ i,0<i→i<es.length→i≠a→wa es ((i - 1)/2)≤wa es i
 skip:∀ i,0<i→i<es.length→(i - 1)/2=a→0<a→wa es ((a - 1)/2)≤wa es i
structure SI (es:List Ent) (a:Nat):Prop where
 all:∀ i,0<i→i<es.length→(i - 1)/2≠a→wa es ((i - 1)/2)≤wa es i
 skip:∀ i,0<i→i<es.length→(i - 1)/2=a→0<a→wa es ((a - 1)/2)≤wa es i
theorem qkd {es:List Ent} {a:Nat} (h:RI es a) (h0:0<a) (ha:a<es.length) (hw:wa es a≤wa es ((a - 1)/2)):RI (swp es a ((a - 1)/2)) ((a - 1)/2):=by
 have hb:(a - 1)/2<es.length:=by omega
 obtain ⟨b,hbe⟩:∃ b,b=(a - 1)/2:=⟨_,rfl⟩;rw [←hbe] at hw hb ⊢
 constructor
 ·intro i h1 h2 h3;rw [qaB] at h2;rw [qcm es a b _ ha hb,qcm es a b _ ha hb];rw [if_neg h3];by_cases e:i=a
  ·subst e;rw [if_pos hbe.symm,if_pos rfl];exact hw
  rw [if_neg e];have hi:=h.all i h1 h2 e;by_cases e1:(i - 1)/2=b
  ·rw [if_pos e1];rw [e1] at hi;omega
  rw [if_neg e1];by_cases e2:(i - 1)/2=a
  ·rw [if_pos e2]
   have:=h.skip i h1 h2 e2 h0
   rw [←hbe] at this;exact this
  rw [if_neg e2];exact hi
 intro i h1 h2 h3 h4;rw [qaB] at h2;rw [qcm es a b _ ha hb,qcm es a b _ ha hb];have hbb:=h.all b h4 hb (by omega);rw [if_neg (by omega),if_neg (by omega:¬(b - 1)/2=a)];by_cases e:i=b
 ·omega
 rw [if_neg e];by_cases e2:i=a
 ·rw [if_pos e2];exact hbb
 rw [if_neg e2];have hi:=h.all i h1 h2 e2;rw [h3] at hi;omega
theorem qfw {es:List Ent} {a:Nat} (h:RI es a) (hw:a=0∨wa es ((a - 1)/2)≤wa es a):Heap es:=by
 intro i h1 h2;by_cases e:i=a
 ·subst e;rcases hw with hw | hw
  ·omega
  exact hw
 exact h.all i h1 h2 e
theorem qiF {es:List Ent} {a b:Nat} (h:SI es a) (hab:(b - 1)/2=a) (h0:0<b) (hb:b<es.length) (hw:wa es b≤wa es a) (hc:∀ i,0<i→i<es.length→(i - 1)/2=a→wa es b≤wa es i):SI (swp es a b) b:=by
 have ha:a<es.length:=by omega
 constructor
 ·intro i h1 h2 h3;rw [qaB] at h2;rw [qcm es a b _ ha hb,qcm es a b _ ha hb];rw [if_neg h3];by_cases e:i=b
  ·subst e;rw [if_pos hab,if_pos rfl];exact hw
  rw [if_neg e];by_cases e1:(i - 1)/2=a
  ·rw [if_pos e1,if_neg (by omega)];exact hc i h1 h2 e1
  rw [if_neg e1];have hi:=h.all i h1 h2 e1;by_cases e2:i=a
  ·rw [if_pos e2,e2]
   have:=h.skip b h0 hb hab (by omega)
   exact this
  rw [if_neg e2];exact hi
 intro i h1 h2 h3 h4;rw [qaB] at h2;rw [qcm es a b _ ha hb,qcm es a b _ ha hb];rw [if_neg (by omega),if_pos hab,if_neg (by omega),if_neg (by omega)]
 have:=h.all i h1 h2 (by omega)
 rw [h3] at this;exact this
theorem qiS {es:List Ent} {a:Nat} (h:SI es a) (hc:∀ i,0<i→i<es.length→(i - 1)/2=a→wa es a≤wa es i):Heap es:=by
 intro i h1 h2;by_cases e:(i - 1)/2=a
 ·rw [e];exact hc i h1 h2 e
 exact h.all i h1 h2 e
theorem qkr {es:List Ent} (h:Heap es):∀ i,i<es.length→wa es 0≤wa es i:=by
 intro i
 induction i using Nat.strongRecOn with
 | _ i ih =>
   intro hi;by_cases e:i=0
   ·subst e;exact Nat.le_refl _
   exact Nat.le_trans (ih ((i - 1)/2) (by omega) (by omega)) (h i (by omega) hi)
theorem qjc (es:List Ent) (e:Ent) (i:Nat) (h:i<es.length):wa (es++[e]) i=wa es i:=by
 unfold wa;rw [List.getD_eq_getElem?_getD,List.getElem?_append_left h,List.getD_eq_getElem?_getD]
theorem qjF {es:List Ent} (h:Heap es) (e:Ent):RI (es++[e]) es.length:=by
 constructor
 ·intro i h1 h2 h3;have h2':i<es.length:=by simp at h2;omega
  rw [qjc es e i h2',qjc es e _ (by omega)];exact h i h1 h2'
 intro i h1 h2 h3 h4;simp at h2;omega
def popped (es:List Ent):List Ent:=(es.set 0 (es.getD (es.length - 1) noEnt)).take (es.length - 1)
theorem qbg (es:List Ent):(popped es).length=es.length - 1:=by simp [popped]
theorem qfk (es:List Ent) (i:Nat) (h:0<i) (hi:i<es.length - 1):wa (popped es) i=wa es i:=by
 unfold wa popped;rw [List.getD_eq_getElem?_getD,List.getElem?_take_of_lt hi,List.getElem?_set_ne (by omega),List.getD_eq_getElem?_getD]
theorem qkA {es:List Ent} (h:Heap es):SI (popped es) 0:=by
 constructor
 ·intro i h1 h2 h3;rw [qbg] at h2;rw [qfk es i h1 h2,qfk es _ (by omega) (by omega)];exact h i h1 (by omega)
 intro i h1 h2 h3 h4;omega
theorem qdA (e:Ent) (r:List Ent):List.Perm (popped (e :: r)) r:=by
 cases h:r.reverse with
 | nil =>
   have:r=[]:=by simpa using h
   subst this;exact List.Perm.refl _
 | cons x l =>
   have hr:r=l.reverse++[x]:=by
    have:=congrArg List.reverse h
    simpa using this
   subst hr
   have:popped (e :: (l.reverse++[x]))=x :: l.reverse:=by
    unfold popped;have hx:(e :: (l.reverse++[x])).getD ((e :: (l.reverse++[x])).length - 1) noEnt=x:=by
     rw [List.getD_eq_getElem?_getD];simp [List.getElem?_cons]
    rw [hx];simp [List.take_append]
   rw [this];exact (List.perm_append_singleton x _).symm
end Go.Proofs.YtodmdkhdbfbfgaaGreatDoor.S1.Pk
namespace Go.Proofs.YtodmdkhdbfbfgaaGreatDoor.S1
open Go.RowKit Pk
theorem qfQ (w:World) (p s q t:Nat) (x y:Value):Calls Tryz.prog 338 #[.agg #[.int .i64 (p:Nat),.int .i64 (s:Nat),x],.agg #[.int .i64 (q:Nat),.int .i64 (t:Nat),y]] w fun e w'=>∃ r:Bool,e=.returned (.bool r)∧(r=true→p≤q)∧(r=false→q≤p)∧∃ c d,w'=(w.alloc c).alloc d:=by
 by_cases h:(p:Int)=(q:Int)
 ·have h1:((p:Int) != (q:Int))=false:=by simp [h]
  go_enter Tryz.func338,Tryz.ntmps338
  go_wp2;go_ret
  exact ⟨_,rfl,by omega,by omega,_,_,rfl⟩
 have h1:((p:Int) != (q:Int))=true:=by simp [h]
 go_enter Tryz.func338,Tryz.ntmps338
 go_wp2;go_ret
 exact ⟨_,rfl,by intro h2;simp at h2;omega,by intro h2;simp at h2;omega,_,_,rfl⟩
structure QM (w:World) (B qb:Nat) (es:List Ent) (pu:Nat):Prop where
 hB:B≤qb
 st:∃ v,w.heap[qb]? = some (.cells #[v,.int .i64 (pu:Nat)] 341 (0,0))∧w.ownsRow B 344 3 v es.length (qac es)
structure Fr (B:Nat) (w w':World):Prop where
 bel:Below B w w'
 ints:Keeps 3 w w'
theorem Fr.refl (B:Nat) (w:World):Fr B w w:=⟨Below.refl _ _,Keeps.refl _ _⟩
theorem Fr.trans {B:Nat} {a b c:World} (h:Fr B a b) (k:Fr B b c):Fr B a c:=⟨h.bel.trans k.bel,h.ints.trans k.ints⟩
theorem qcV {w:World} {B n:Nat} {e:TypeId} {v:Value} {xs:List Value} (h:w.ownsRow B e 3 v n xs) (hn:0<n):∃ r cap,v=.slice (some ⟨r,0,none⟩) n cap∧B≤r∧n≤cap:=by
 rcases h.2 with ⟨rfl,rfl⟩ | ⟨g,cap,cur,rfl,h2,h3,h4,_⟩
 ·omega
 exact ⟨g,cap,rfl,h2,h4⟩
theorem QM.of {w w':World} {B qb:Nat} {es:List Ent} {pu:Nat} (h:QM w B qb es pu) (hb:∀ k,k<w.heap.size→w'.heap[k]? = w.heap[k]?):QM w' B qb es pu:=by
 obtain ⟨v,h1,h2⟩:=h.st;refine ⟨h.hB,v,(hb qb (lt_of_heap h1)).trans h1,h2.1,?_⟩;rcases h2.2 with h3 | ⟨g,cap,cur,h3,h4,h5,h6⟩
 ·exact .inl h3
 exact .inr ⟨g,cap,cur,h3,h4,(hb g (lt_of_heap h5)).trans h5,h6⟩
theorem Fr.alloc {B:Nat} {a b:World} (h:Fr B a b) (hB:B≤b.heap.size) (o:Obj):Fr B a (b.alloc o):=⟨h.bel.alloc hB o,h.ints.alloc o⟩
theorem Fr.drew {B:Nat} {a b:World} (h:Fr B a b):Fr B a b.drew:=⟨h.bel.drew,h.ints.drew⟩
theorem Fr.size {B:Nat} {a b:World} (h:Fr B a b) (hB:B≤a.heap.size):B≤b.heap.size:=Nat.le_trans hB h.bel.size
theorem qaN (w:World) (o1 o2:Obj) (k:Nat) (hk:k<w.heap.size):((w.alloc o1).alloc o2).drew.heap[k]? = w.heap[k]? := by
 show ((w.alloc o1).alloc o2).heap[k]? = _;rw [Below.heap_alloc _ _ k (by simp;omega),Below.heap_alloc _ _ k hk]
theorem QM.drew {w:World} {B qb:Nat} {es:List Ent} {pu:Nat} (h:QM w B qb es pu):QM w.drew B qb es pu:=h.of fun _ _=>rfl
theorem QM.make {w:World} {B qb:Nat} {es:List Ent} {pu n:Nat} {v:Value} (hB:B≤qb) (h:w.heap[qb]? = some (.cells #[v,.int .i64 (pu:Nat)] 341 (0,0))) (hn:es.length=n) (ho:w.ownsRow B 344 3 v n (qac es)):QM w B qb es pu:=by
 subst hn;exact ⟨hB,v,h,ho⟩
def setEnt (W:World) (r i:Nat) (e:Ent):World:=((W.setCell ⟨r,i*3,none⟩ (.int .i64 (e.wt:Nat))).setCell ⟨r,i*3+1,none⟩ (.int .i64 (e.tn:Nat))).setCell ⟨r,i*3+2,none⟩ (.slice (some ⟨e.b,0,none⟩) e.n e.c)
theorem qbb {W:World} {B n r cap:Nat} {xs:List Ent} (h:W.ownsRow B 344 3 (.slice (some ⟨r,0,none⟩) n cap) n (qac xs)) (i:Nat) (e:Ent):(setEnt W r i e).ownsRow B 344 3 (.slice (some ⟨r,0,none⟩) n cap) n (qac (xs.set i e)):=by
 have h1:=(h.stored (i*3) (.int .i64 (e.wt:Nat))).1;have h2:=(h1.stored (i*3+1) (.int .i64 (e.tn:Nat))).1;have h3:=(h2.stored (i*3+2) (.slice (some ⟨e.b,0,none⟩) e.n e.c)).1
 have:=qfI xs i e
 rw [Nat.mul_comm 3 i] at this;rw [←this];exact h3
theorem qai (W:World) (r i:Nat) (e:Ent) (k:Nat) (hk:k≠r):(setEnt W r i e).heap[k]? = W.heap[k]? := by
 unfold setEnt;rw [Below.heap_setCell _ _ _ k hk,Below.heap_setCell _ _ _ k hk,Below.heap_setCell _ _ _ k hk]
theorem qbo {B:Nat} {a W:World} {v:Value} {n r cap:Nat} {xs:List Value} (h:Fr B a W) (ho:W.ownsRow B 344 3 (.slice (some ⟨r,0,none⟩) n cap) n xs) (i:Nat) (e:Ent):Fr B a (setEnt W r i e):=by
 have hr:B≤r:=(ho.lt r rfl).1;refine ⟨((h.bel.setCell (p:=⟨r,i*3,none⟩) hr _).setCell (p:=⟨r,i*3+1,none⟩) hr _).setCell (p:=⟨r,i*3+2,none⟩) hr _,?_⟩;obtain ⟨_,_,hk⟩:=Lib.ownsRow_kind ho r rfl;refine h.ints.trans fun k x f e2=>qai W r i e k ?_
 intro ee;subst ee;rw [hk] at e2;simp at e2
theorem qlA (w:World) (B qb:Nat) (es:List Ent) (pu a:Nat) (hB:B≤w.heap.size) (hes:es.length≤1000) (ha:a<es.length) (hri:RI es a) (h:QM w B qb es pu) :
 Calls Tryz.prog 330 #[.pointer (some ⟨qb,0,none⟩),.int .i64 (a:Nat)] w fun e w'=>e=.returned (.tuple #[])∧∃ es',List.Perm es' es∧Pk.Heap es'∧QM w' B qb es' pu∧Fr B w w':=by
 have Hri:=hidI hri;have Hq:=hidI h;clear hri h;go_enter Tryz.func330,Tryz.ntmps330
 go_wp2
 go_loopw [1] (fun i wr=>∃ b:Nat,∃ xs,i=.int .i64 (b:Nat)∧b<xs.length∧xs.length=es.length∧Hid (RI xs b)∧Hid (List.Perm xs es)∧Hid (QM wr B qb xs pu)∧Hid (Fr B w wr)) (fun i _=>(intOf i).toNat)
 case atStart=>exact ⟨a,es,rfl,ha,rfl,Hri,List.Perm.refl _,Hq,Fr.refl _ _⟩
 case round =>
  clear Hri Hq ha;obtain ⟨b,xs,rfl,hb,hlen,Hri,Hp,Hq,Hf⟩:=hrel;by_cases h0:b=0
  ·subst h0;go_wp2;go_end0
   exact ⟨rfl,xs,Hp.out,qfw Hri.out (.inl rfl),Hq.out,Hf.out⟩
  have h0':(0:Int)<(b:Int):=by omega
  obtain ⟨v,hst,hown⟩:=Hq.out.st;have hqB:=Hq.out.hB;obtain ⟨r,cap,rfl,hr,hcap⟩:=qcV hown (by omega);obtain ⟨c,hc⟩:∃ c,c=(b - 1)/2:=⟨_,rfl⟩;have x0:wr.cell? ⟨qb,0,none⟩=some (.slice (some ⟨r,0,none⟩) xs.length cap):=by rw [cell_of_row wr qb 0 _ 341 (0,0) hst];rfl
  obtain ⟨g1,g2,g3⟩:=qaA xs b hb;obtain ⟨k1,k2,k3⟩:=qaA xs c (by omega);have hcl:c<xs.length:=by omega
  obtain ⟨eb,heb⟩:∃ e,e=xs.getD b noEnt:=⟨_,rfl⟩;obtain ⟨ec,hec⟩:∃ e,e=xs.getD c noEnt:=⟨_,rfl⟩;rw [←heb] at g1 g2 g3;rw [←hec] at k1 k2 k3;have y1:wr.cell? ⟨r,b*3,none⟩=some (.int .i64 (eb.wt:Nat)):=by rw [hown.cellAt (b*3) (by omega),Nat.mul_comm];exact g1
  have y2:wr.cell? ⟨r,b*3+1,none⟩=some (.int .i64 (eb.tn:Nat)):=by rw [hown.cellAt (b*3+1) (by omega),Nat.mul_comm];exact g2
  have y3:wr.cell? ⟨r,b*3+2,none⟩=some (.slice (some ⟨eb.b,0,none⟩) eb.n eb.c):=by rw [hown.cellAt (b*3+2) (by omega),Nat.mul_comm];exact g3
  have z1:wr.cell? ⟨r,c*3,none⟩=some (.int .i64 (ec.wt:Nat)):=by rw [hown.cellAt (c*3) (by omega),Nat.mul_comm];exact k1
  have z2:wr.cell? ⟨r,c*3+1,none⟩=some (.int .i64 (ec.tn:Nat)):=by rw [hown.cellAt (c*3+1) (by omega),Nat.mul_comm];exact k2
  have z3:wr.cell? ⟨r,c*3+2,none⟩=some (.slice (some ⟨ec.b,0,none⟩) ec.n ec.c):=by rw [hown.cellAt (c*3+2) (by omega),Nat.mul_comm];exact k3
  have Heb:=hidI heb;have Hec:=hidI hec;obtain ⟨n,hn⟩:∃ n,n=xs.length:=⟨_,rfl⟩;have hdiv:((b:Int) - 1)/2=(c:Int):=by omega
  have Hst:=hidI hst;have Hown:=hidI hown;have Hc:=hidI hc;have Hlen:=hidI hlen;have hx1000:xs.length≤1000:=by omega
  rw [←hn] at x0 hcl hb hx1000;have Hn:=hidI hn;clear g1 g2 g3 k1 k2 k3 hst hown hc hlen heb hec hn hcap hes;go_wp2;rw [hdiv];go_region_held3 (fun w'=>w'.cell? ⟨qb,0,none⟩=some (.slice (some ⟨r,0,none⟩) n cap)∧w'.cell? ⟨r,b*3,none⟩=some (.int .i64 (eb.wt:Nat))∧w'.cell? ⟨r,b*3+1,none⟩=some (.int .i64 (eb.tn:Nat))∧w'.cell? ⟨r,b*3+2,none⟩=some (.slice (some ⟨eb.b,0,none⟩) eb.n eb.c)∧w'.cell? ⟨r,c*3,none⟩=some (.int .i64 (ec.wt:Nat))∧w'.cell? ⟨r,c*3+1,none⟩=some (.int .i64 (ec.tn:Nat))∧w'.cell? ⟨r,c*3+2,none⟩=some (.slice (some ⟨ec.b,0,none⟩) ec.n ec.c)) (go_keep) (first | (go_at_call 338;refine (qfQ _ eb.wt eb.tn ec.wt ec.tn (.slice (some ⟨eb.b,0,none⟩) eb.n eb.c) (.slice (some ⟨ec.b,0,none⟩) ec.n ec.c)).mono ?_;rintro e w' ⟨rr,rfl,ha1,ha2,o1,o2,rfl⟩));have Hq2:=hidI (Hq.out.of (qaN wr o1 o2))
  have Hf2:=hidI (((Hf.out.alloc (Hf.out.size hB) o1).alloc (by have:=Hf.out.size hB;simp;omega) o2).drew);rename_i hHeld;clear hHeld x0 y1 y2 y3 z1 z2 z3 Hst Hown Hq Hf
  generalize ((wr.alloc o1).alloc o2).drew=W at *
  cases rr with
  | false =>
    go_wp2
    ((try simp only [Exit.inBlock,Exit.then]);refine bodyPost_ret (results_none rfl _ _ _) rfl ?_)
    refine ⟨rfl,xs,Hp.out,qfw Hri.out (.inr ?_),Hq2.out,Hf2.out⟩
    have:=ha2 (by trivial)
    rw [←Hc.out];unfold wa;rw [←Heb.out,←Hec.out];exact this
  | true =>
    have hle:=ha1 (by trivial);have Hle:Hid (wa xs b≤wa xs ((b - 1)/2)):=by
     show _≤_;rw [←Hc.out];unfold wa;rw [←Heb.out,←Hec.out];exact hle
    clear ha1 ha2 hle;obtain ⟨v,hst,hown⟩:=Hq2.out.st;obtain ⟨r2,cap2,rfl,hr2,hcap⟩:=qcV hown (by have:=Hn.out;omega);obtain ⟨g1,g2,g3⟩:=qaA xs b (by have:=Hn.out;omega);obtain ⟨k1,k2,k3⟩:=qaA xs c (by have:=Hn.out;omega);rw [←Heb.out] at g1 g2 g3;rw [←Hec.out] at k1 k2 k3;rw [←Hn.out] at hst hown;have x0:W.cell? ⟨qb,0,none⟩=some (.slice (some ⟨r2,0,none⟩) n cap2):=by rw [cell_of_row W qb 0 _ 341 (0,0) hst];rfl
    have y1:W.cell? ⟨r2,b*3,none⟩=some (.int .i64 (eb.wt:Nat)):=by rw [hown.cellAt (b*3) (by omega),Nat.mul_comm];exact g1
    have y2:W.cell? ⟨r2,b*3+1,none⟩=some (.int .i64 (eb.tn:Nat)):=by rw [hown.cellAt (b*3+1) (by omega),Nat.mul_comm];exact g2
    have y3:W.cell? ⟨r2,b*3+2,none⟩=some (.slice (some ⟨eb.b,0,none⟩) eb.n eb.c):=by rw [hown.cellAt (b*3+2) (by omega),Nat.mul_comm];exact g3
    have z1:W.cell? ⟨r2,c*3,none⟩=some (.int .i64 (ec.wt:Nat)):=by rw [hown.cellAt (c*3) (by omega),Nat.mul_comm];exact k1
    have z2:W.cell? ⟨r2,c*3+1,none⟩=some (.int .i64 (ec.tn:Nat)):=by rw [hown.cellAt (c*3+1) (by omega),Nat.mul_comm];exact k2
    have z3:W.cell? ⟨r2,c*3+2,none⟩=some (.slice (some ⟨ec.b,0,none⟩) ec.n ec.c):=by rw [hown.cellAt (c*3+2) (by omega),Nat.mul_comm];exact k3
    have f1:=hown.frozenAt (b*3);have f2:=hown.frozenAt (b*3+1);have f3:=hown.frozenAt (b*3+2);have f4:=hown.frozenAt (c*3);have f5:=hown.frozenAt (c*3+1);have f6:=hown.frozenAt (c*3+2);have Hst:=hidI hst;have Hown:=hidI hown;clear hst hown g1 g2 g3 k1 k2 k3 hcap;go_wp2;go_region;have hqr:qb≠r2:=by
     intro e;subst e;obtain ⟨_,_,hk⟩:=Lib.ownsRow_kind Hown.out qb rfl;rw [Hst.out] at hk;simp at hk
    have hs1:=qbb Hown.out b ec;have hs2:=qbb hs1 c eb;have hfr:Fr B w (setEnt (setEnt W r2 b ec) r2 c eb):=qbo (v:=.slice none 0 0) (qbo (v:=.slice none 0 0) Hf2.out Hown.out b ec) hs1 c eb;have hsw:(xs.set b ec).set c eb=swp xs b c:=by unfold swp;rw [Heb.out,Hec.out]
    have hbl:(setEnt (setEnt W r2 b ec) r2 c eb).heap[qb]? = W.heap[qb]? := (qai _ _ _ _ _ hqr).trans (qai _ _ _ _ _ hqr);rw [hsw] at hs2;have hsl:(swp xs b c).length=n:=by rw [qaB,Hn.out]
    have hq3:=QM.make hqB (hbl.trans Hst.out) hsl hs2;have Hq3:=hidI hq3.drew;have Hf3:=hidI hfr.drew;have Hri3:Hid (RI (swp xs b c) c):=by
     have:=qkd Hri.out (by omega) (by have:=Hn.out;omega) Hle.out
     rw [←Hc.out] at this;exact this
    have Hp3:Hid (List.Perm (swp xs b c) es):=(qgK xs b c (by have:=Hn.out;omega) (by have:=Hn.out;omega)).trans Hp.out;have hl3:(swp xs b c).length=es.length:=by rw [qaB,Hlen.out]
    have hcs:c<(swp xs b c).length:=by omega
    have hcb:c<b:=by have:=Hc.out;omega
    have HW:Hid (setEnt (setEnt W r2 b ec) r2 c eb=((((((W.setCell ⟨r2,b*3,none⟩ (.int .i64 (ec.wt:Nat))).setCell ⟨r2,b*3+1,none⟩ (.int .i64 (ec.tn:Nat))).setCell ⟨r2,b*3+2,none⟩ (.slice (some ⟨ec.b,0,none⟩) ec.n ec.c)).setCell ⟨r2,c*3,none⟩ (.int .i64 (eb.wt:Nat))).setCell ⟨r2,c*3+1,none⟩ (.int .i64 (eb.tn:Nat))).setCell ⟨r2,c*3+2,none⟩ (.slice (some ⟨eb.b,0,none⟩) eb.n eb.c))):=rfl;rw [←HW.out];clear hs1 hs2 hfr hsw hbl HW x0 y1 y2 y3 z1 z2 z3 f1 f2 f3 f4 f5 f6 Hst Hown Hq2 Hf2 Hp Hri
    generalize (setEnt (setEnt W r2 b ec) r2 c eb).drew=W3 at *
    have Hl3:=hidI hl3;clear hl3;go_wp2;go_roundw
    case rel=>exact ⟨c,swp xs b c,rfl,hcs,Hl3.out,Hri3,Hp3,Hq3,Hf3⟩
    case measure=>simp [intOf];omega
theorem QM.look {w:World} {B qb:Nat} {xs:List Ent} {pu n:Nat} (h:QM w B qb xs pu) (hn:n=xs.length) (h0:0<n):∃ r cap,B≤r∧n≤cap∧qb≠r∧w.heap[qb]? = some (.cells #[.slice (some ⟨r,0,none⟩) n cap,.int .i64 (pu:Nat)] 341 (0,0)) ∧
 w.ownsRow B 344 3 (.slice (some ⟨r,0,none⟩) n cap) n (qac xs)∧w.cell? ⟨qb,0,none⟩=some (.slice (some ⟨r,0,none⟩) n cap) ∧
 (∀ i,i<n→∀ e,e=xs.getD i noEnt→w.cell? ⟨r,i*3,none⟩=some (.int .i64 (e.wt:Nat))∧w.cell? ⟨r,i*3+1,none⟩=some (.int .i64 (e.tn:Nat))∧w.cell? ⟨r,i*3+2,none⟩=some (.slice (some ⟨e.b,0,none⟩) e.n e.c))∧(∀ j,w.frozen? ⟨r,j,none⟩=false):=by
 subst hn;obtain ⟨v,hst,hown⟩:=h.st;obtain ⟨r,cap,rfl,hr,hcap⟩:=qcV hown h0;refine ⟨r,cap,hr,hcap,?_,hst,hown,?_,?_,fun j=>hown.frozenAt j⟩
 ·intro e;subst e;obtain ⟨_,_,hk⟩:=Lib.ownsRow_kind hown qb rfl;rw [hst] at hk;simp at hk
 ·rw [cell_of_row w qb 0 _ 341 (0,0) hst];rfl
 intro i hi e he;subst he;obtain ⟨g1,g2,g3⟩:=qaA xs i hi;rw [hown.cellAt (i*3) (by omega),hown.cellAt (i*3+1) (by omega),hown.cellAt (i*3+2) (by omega),Nat.mul_comm i 3];exact ⟨g1,g2,g3⟩
theorem QM.len {w:World} {B qb:Nat} {xs:List Ent} {pu n:Nat} (h:QM w B qb xs pu) (hn:n=xs.length):∃ a cap,w.cell? ⟨qb,0,none⟩=some (.slice a n cap):=by
 subst hn;obtain ⟨v,hst,hown⟩:=h.st
 have:∃ a c,v=.slice a xs.length c:=by
  rcases hown.2 with ⟨rfl,h0⟩ | ⟨g,cap,cur,rfl,_⟩
  ·rw [h0];exact ⟨_,_,rfl⟩
  exact ⟨_,_,rfl⟩
 obtain ⟨a,c,rfl⟩:=this;exact ⟨a,c,by rw [cell_of_row w qb 0 _ 341 (0,0) hst];rfl⟩
theorem ql3 {a W:World} {B qb r cap n pu i j:Nat} {xs:List Ent} {ei ej:Ent} (hB:B≤qb) (hn:n=xs.length) (hf:Fr B a W) (hqr:qb≠r) (hst:W.heap[qb]? = some (.cells #[.slice (some ⟨r,0,none⟩) n cap,.int .i64 (pu:Nat)] 341 (0,0))) (hown:W.ownsRow B 344 3 (.slice (some ⟨r,0,none⟩) n cap) n (qac xs))
 (hi:ei=xs.getD i noEnt) (hj:ej=xs.getD j noEnt):QM (setEnt (setEnt W r i ej) r j ei) B qb (swp xs i j) pu∧Fr B a (setEnt (setEnt W r i ej) r j ei):=by
 have hs1:=qbb hown i ej;have hs2:=qbb hs1 j ei;have hfr:Fr B a (setEnt (setEnt W r i ej) r j ei):=qbo (v:=.slice none 0 0) (qbo (v:=.slice none 0 0) hf hown i ej) hs1 j ei;have hsw:(xs.set i ej).set j ei=swp xs i j:=by unfold swp;rw [hi,hj]
 have hbl:(setEnt (setEnt W r i ej) r j ei).heap[qb]? = W.heap[qb]? := (qai _ _ _ _ _ hqr).trans (qai _ _ _ _ _ hqr);rw [hsw] at hs2;exact ⟨QM.make hB (hbl.trans hst) (by rw [qaB,hn]) hs2,hfr⟩
structure Fr2 (qb B:Nat) (w w':World):Prop where
 fr:Fr B w w'
 own:w'.heap[qb]? = w.heap[qb]?
 far:∀ k,k<w.heap.size→k≠qb→(∀ n cap,w.cell? ⟨qb,0,none⟩≠some (.slice (some ⟨k,0,none⟩) n cap))→w'.heap[k]? = w.heap[k]?
theorem Fr2.refl (qb B:Nat) (w:World):Fr2 qb B w w:=⟨Fr.refl _ _,rfl,fun _ _ _ _=>rfl⟩
theorem Fr2.size {qb B:Nat} {a b:World} (h:Fr2 qb B a b) (hB:B≤a.heap.size):B≤b.heap.size:=h.fr.size hB
theorem Fr2.drew {qb B:Nat} {a b:World} (h:Fr2 qb B a b):Fr2 qb B a b.drew:=⟨h.fr.drew,h.own,h.far⟩
theorem Fr2.alloc2 {qb B:Nat} {a b:World} (h:Fr2 qb B a b) (hB:B≤b.heap.size) (hq:qb<b.heap.size) (o1 o2:Obj):Fr2 qb B a ((b.alloc o1).alloc o2).drew:=
 ⟨((h.fr.alloc hB o1).alloc (by simp;omega) o2).drew,(qaN b o1 o2 qb hq).trans h.own,fun k h1 h2 h3=>(qaN b o1 o2 k (Nat.lt_of_lt_of_le h1 h.fr.bel.size)).trans (h.far k h1 h2 h3)⟩
theorem Fr2.swap {a W:World} {B qb r cap n pu i j:Nat} {ei ej:Ent} (h:Fr2 qb B a W) (hf:Fr B a (setEnt (setEnt W r i ej) r j ei)) (hqr:qb≠r) (hst:W.heap[qb]? = some (.cells #[.slice (some ⟨r,0,none⟩) n cap,.int .i64 (pu:Nat)] 341 (0,0))):Fr2 qb B a (setEnt (setEnt W r i ej) r j ei):=by
 refine ⟨hf,((qai _ _ _ _ _ hqr).trans (qai _ _ _ _ _ hqr)).trans h.own,fun k h1 h2 h3 => ?_⟩;have hk:k≠r:=by
  intro e;subst e;refine h3 n cap ?_
  have:W.cell? ⟨qb,0,none⟩=some (.slice (some ⟨k,0,none⟩) n cap):=by rw [cell_of_row W qb 0 _ 341 (0,0) hst];rfl
  rw [←this];exact (World.cell?_of_block h.own).symm
 exact ((qai _ _ _ _ _ hk).trans (qai _ _ _ _ _ hk)).trans (h.far k h1 h2 h3)
theorem QM.lt {w:World} {B qb:Nat} {es:List Ent} {pu:Nat} (h:QM w B qb es pu):qb<w.heap.size:=by
 obtain ⟨v,h1,h2⟩:=h.st;exact lt_of_heap h1
theorem qkV (w:World) (B qb:Nat) (es:List Ent) (pu:Nat) (hB:B≤w.heap.size) (hes:es.length≤1000) (hsi:SI es 0) (h:QM w B qb es pu) :
 Calls Tryz.prog 331 #[.pointer (some ⟨qb,0,none⟩)] w fun e w'=>e=.returned (.tuple #[])∧∃ es',List.Perm es' es∧Pk.Heap es'∧QM w' B qb es' pu∧Fr2 qb B w w':=by
 have Hsi:=hidI hsi;have Hq:=hidI h;clear hsi h;go_enter Tryz.func331,Tryz.ntmps331
 go_wp2
 go_loopw [2] (fun i wr=>∃ b:Nat,∃ xs,i=.int .i64 (b:Nat)∧b≤xs.length∧xs.length=es.length∧Hid (SI xs b)∧Hid (List.Perm xs es)∧Hid (QM wr B qb xs pu)∧Hid (Fr2 qb B w wr)) (fun i _=>1000 - (intOf i).toNat)
 case atStart=>exact ⟨0,es,rfl,by omega,rfl,Hsi,List.Perm.refl _,Hq,Fr2.refl _ _ _⟩
 case round =>
  clear Hsi Hq;obtain ⟨b,xs,rfl,hb,hlen,Hsi,Hp,Hq,Hf⟩:=hrel;obtain ⟨n,hn⟩:∃ n,n=xs.length:=⟨_,rfl⟩;have Hlen:=hidI hlen;have hn1000:n≤1000:=by omega
  rw [←hn] at hb;have Hn:=hidI hn;clear hlen hn;go_wp2
  go_loopw [4,3] (fun i j wr'=>∃ c d:Nat,i=.int .i64 (c:Nat)∧j=.int .i64 (d:Nat)∧2*b+1≤c∧c≤2*b+3∧(d=b∨(2*b+1≤d∧d<c∧d<n))∧Hid (wa xs d≤wa xs b∧∀ k,2*b+1≤k→k<c→k<n→wa xs d≤wa xs k)∧Hid (QM wr' B qb xs pu)∧Hid (Fr2 qb B w wr')) (fun i _ _=>3000 - (intOf i).toNat)
  case atStart=>exact ⟨2*b+1,b,by go_num,rfl,by omega,by omega,.inl rfl,⟨Nat.le_refl _,by omega⟩,Hq,Hf⟩
  case round =>
   clear Hq Hf;obtain ⟨c,d,rfl,rfl,hc1,hc2,hd,Hw,Hq,Hf⟩:=hrel;have hqB:=Hq.out.hB;by_cases hg:c≤2*b+2∧c<n
   ·obtain ⟨hg1,hg2⟩:=hg;obtain ⟨r,cap,hr,hcap,hqr,hst,hown,x0,hcells,hfz⟩:=Hq.out.look Hn.out (by omega);have hdn:d<n:=by omega
    obtain ⟨ec,hec⟩:∃ e,e=xs.getD c noEnt:=⟨_,rfl⟩;obtain ⟨ed,hed⟩:∃ e,e=xs.getD d noEnt:=⟨_,rfl⟩;obtain ⟨y1,y2,y3⟩:=hcells c hg2 ec hec;obtain ⟨z1,z2,z3⟩:=hcells d hdn ed hed;have Hec:=hidI hec;have Hed:=hidI hed;have gd1:decide ((c:Int)≤2*(b:Int)+2)=true:=by simp;omega
    have gd2:decide ((c:Int)<(n:Int))=true:=by simp;omega
    clear hcells hfz hst hown hec hed hcap;go_wp2;go_region_held3 (fun w'=>w'.cell? ⟨qb,0,none⟩=some (.slice (some ⟨r,0,none⟩) n cap)∧w'.cell? ⟨r,c*3,none⟩=some (.int .i64 (ec.wt:Nat))∧w'.cell? ⟨r,c*3+1,none⟩=some (.int .i64 (ec.tn:Nat))∧w'.cell? ⟨r,c*3+2,none⟩=some (.slice (some ⟨ec.b,0,none⟩) ec.n ec.c)∧w'.cell? ⟨r,d*3,none⟩=some (.int .i64 (ed.wt:Nat))∧w'.cell? ⟨r,d*3+1,none⟩=some (.int .i64 (ed.tn:Nat))∧w'.cell? ⟨r,d*3+2,none⟩=some (.slice (some ⟨ed.b,0,none⟩) ed.n ed.c)) (go_keep) (first | (go_at_call 338;refine (qfQ _ ec.wt ec.tn ed.wt ed.tn (.slice (some ⟨ec.b,0,none⟩) ec.n ec.c) (.slice (some ⟨ed.b,0,none⟩) ed.n ed.c)).mono ?_;rintro e w' ⟨rr,rfl,ha1,ha2,o1,o2,rfl⟩));have Hq2:=hidI (Hq.out.of (qaN wr o1 o2));have Hf2:=hidI (Hf.out.alloc2 (Hf.out.size hB) Hq.out.lt o1 o2);rename_i hHeld;clear hHeld x0 y1 y2 y3 z1 z2 z3 Hq Hf
    generalize ((wr.alloc o1).alloc o2).drew=W at *
    cases rr with
    | false =>
      have hle:=ha2 (by trivial);have Hw2:Hid (wa xs d≤wa xs b∧∀ k,2*b+1≤k→k<c+1→k<n→wa xs d≤wa xs k):=⟨Hw.out.1,fun k k1 k2 k3=>by
       by_cases e:k=c
       ·subst e;unfold wa;rw [←Hec.out,←Hed.out];exact hle
       exact Hw.out.2 k k1 (by omega) k3⟩
      clear ha1 ha2 hle Hw;go_wp2;go_roundw
      case rel=>exact ⟨c+1,d,by go_num,rfl,by omega,by omega,by omega,Hw2,Hq2,Hf2⟩
      case measure=>simp [intOf];omega
    | true =>
      have hle:=ha1 (by trivial);have Hw2:Hid (wa xs c≤wa xs b∧∀ k,2*b+1≤k→k<c+1→k<n→wa xs c≤wa xs k):=by
       have hcd:wa xs c≤wa xs d:=by unfold wa;rw [←Hec.out,←Hed.out];exact hle
       exact ⟨Nat.le_trans hcd Hw.out.1,fun k k1 k2 k3=>by
        by_cases e:k=c
        ·subst e;exact Nat.le_refl _
        exact Nat.le_trans hcd (Hw.out.2 k k1 (by omega) k3)⟩
      clear ha1 ha2 hle Hw;go_wp2;go_roundw
      case rel=>exact ⟨c+1,c,by go_num,rfl,by omega,by omega,by omega,Hw2,Hq2,Hf2⟩
      case measure=>simp [intOf];omega
   obtain ⟨a0,cap0,hx⟩:=Hq.out.len Hn.out;by_cases hg1:c≤2*b+2
   focus
    have gd1:decide ((c:Int)≤2*(b:Int)+2)=true:=by simp;omega
    have gd2:decide ((c:Int)<(n:Int))=false:=by simp;omega
    have hcn:n≤c:=by omega
   rotate_left
   focus
    have gd1:decide ((c:Int)≤2*(b:Int)+2)=false:=by simp;omega
    have hc3:c=2*b+3:=by omega
    have Hc3:=hidI hc3;clear hc3
   rotate_left
   all_goals
    by_cases hbd:d=b
    ·subst hbd;have hdd:((d:Int)==(d:Int))=true:=by simp
     go_wp2
     ·((try simp only [Exit.inBlock,Exit.then]);refine bodyPost_ret (results_none rfl _ _ _) rfl ?_)
      refine ⟨rfl,xs,Hp.out,qiS Hsi.out ?_,Hq.out,Hf.out⟩;intro i h1 h2 h3;exact Hw.out.2 i (by omega) (by have:=Hn.out;omega) (by have:=Hn.out;omega)
    have hdd:((d:Int)==(b:Int))=false:=by simp;omega
    ·skip
     have hdn:d<n:=by omega
     have hbn:b<n:=by omega
     obtain ⟨r,cap,hr,hcap,hqr,hst,hown,x0,hcells,hfz⟩:=Hq.out.look Hn.out (by omega);obtain ⟨eb,heb⟩:∃ e,e=xs.getD b noEnt:=⟨_,rfl⟩;obtain ⟨ed,hed⟩:∃ e,e=xs.getD d noEnt:=⟨_,rfl⟩;obtain ⟨y1,y2,y3⟩:=hcells b hbn eb heb;obtain ⟨z1,z2,z3⟩:=hcells d hdn ed hed;have f1:=hfz (b*3);have f2:=hfz (b*3+1);have f3:=hfz (b*3+2);have f4:=hfz (d*3);have f5:=hfz (d*3+1);have f6:=hfz (d*3+2);have hsm:=ql3 hqB Hn.out Hf.out.fr hqr hst hown heb hed;have Hq3:=hidI hsm.1.drew;have Hf3:=hidI (Hf.out.swap hsm.2 hqr hst).drew;have Hsi3:Hid (SI (swp xs b d) d):=qiF Hsi.out (by omega) (by omega) (by have:=Hn.out;omega) Hw.out.1 fun i h1 h2 h3=>Hw.out.2 i (by omega) (by have:=Hn.out;omega) (by have:=Hn.out;omega)
     have Hp3:Hid (List.Perm (swp xs b d) es):=(qgK xs b d (by have:=Hn.out;omega) (by have:=Hn.out;omega)).trans Hp.out;have Hl3:Hid ((swp xs b d).length=es.length):=by
      show _=_;rw [qaB,Hlen.out]
     have hds:d≤(swp xs b d).length:=by rw [qaB];have:=Hn.out;omega
     have HW:Hid (setEnt (setEnt wr r b ed) r d eb=((((((wr.setCell ⟨r,b*3,none⟩ (.int .i64 (ed.wt:Nat))).setCell ⟨r,b*3+1,none⟩ (.int .i64 (ed.tn:Nat))).setCell ⟨r,b*3+2,none⟩ (.slice (some ⟨ed.b,0,none⟩) ed.n ed.c)).setCell ⟨r,d*3,none⟩ (.int .i64 (eb.wt:Nat))).setCell ⟨r,d*3+1,none⟩ (.int .i64 (eb.tn:Nat))).setCell ⟨r,d*3+2,none⟩ (.slice (some ⟨eb.b,0,none⟩) eb.n eb.c))):=rfl;clear hst hown hcells hfz heb hed hsm hcap hx;go_wp2;go_region;rw [←HW.out];clear HW x0 y1 y2 y3 z1 z2 z3 f1 f2 f3 f4 f5 f6 Hq Hf Hp Hsi
     generalize (setEnt (setEnt wr r b ed) r d eb).drew=W3 at *
     go_wp2;go_roundw
     case rel=>exact ⟨d,swp xs b d,rfl,hds,Hl3.out,Hsi3,Hp3,Hq3,Hf3⟩
     case measure=>simp [intOf];omega
theorem Tryz.info123:(Tryz.prog.info? 344).map (fun i=>(i.zero,i.size,i.bytes))=some (some (.agg #[.int .i64 0,.int .i64 0,.slice none 0 0]),3,40):=by kernel_rfl
theorem qdC (w:World) (a b c:Value) (t:TypeId):∀ j u,[a,b,c][j]? = some u→(w.alloc (.cells #[a,b,c] t)).cell? ((⟨w.heap.size,0,none⟩:Addr).add j)=some u:=
 World.news_of_block (cs:=#[a,b,c]) (heap_alloc_new _ _)
theorem Keeps.grown3 {t:TypeId} {a b c:World} (h:Keeps t a b) {base n:Nat} {e:TypeId} {v:Value} {xs:List Value} (hown:b.ownsRow base e 3 v n xs) (he:e≠t) (hg:b.grownBy c v.ownBlock):Keeps t a c:=by
 refine h.trans fun k x f hk=>hg.block k (lt_of_heap hk) ?_
 rcases hown.2 with ⟨rfl,_⟩ | ⟨g,cap,cur,rfl,_,hh,_⟩
 ·simp [Value.ownBlock]
 intro e2;simp [Value.ownBlock] at e2;subst e2;rw [hk] at hh;simp at hh;exact he hh.2.1.symm
theorem Fr.app {w w2:World} {B n:Nat} {v:Value} {xs:List Value} {o:Obj} (hB:B≤w.heap.size) (ho:w.ownsRow B 344 3 v n xs) (hg:(w.alloc o).drew.grownBy w2 v.ownBlock):Fr B w w2:=
 ⟨(((Below.refl B w).alloc hB o).drew).grown hg (by simp;omega) (fun q hq=>(ho.lt q hq).1),((Keeps.refl 3 w).alloc o).drew.grown3 (ho.alloc o).drew (by decide) hg⟩
theorem qnd (w:World) (B qb:Nat) (es:List Ent) (pu wt gb gn gc:Nat) (hB:B≤w.heap.size) (hes:es.length≤900) (hpu:pu≤1000000) (hhp:Pk.Heap es) (h:QM w B qb es pu) :
 Calls Tryz.prog 310 #[.pointer (some ⟨qb,0,none⟩),.int .i64 (wt:Nat),.slice (some ⟨gb,0,none⟩) gn gc] w fun e w'=>e=.returned (.tuple #[])∧∃ es',List.Perm es' (⟨wt,pu,gb,gn,gc⟩ :: es)∧Pk.Heap es'∧QM w' B qb es' (pu+1)∧Fr B w w':=by
 obtain ⟨i0,hi,hz0,hz1,hz2⟩:=info_parts Tryz.info123;have Hhp:=hidI hhp;obtain ⟨v,hst,hown⟩:=h.st;have hqB:=h.hB;obtain ⟨n,hn⟩:∃ n,n=es.length:=⟨_,rfl⟩;rw [←hn] at hown hes;have hva:∃ a c,v=.slice a n c:=by
  rcases hown.2 with ⟨rfl,h0⟩ | ⟨g,cap,cur,rfl,_⟩
  ·rw [h0];exact ⟨_,_,rfl⟩
  exact ⟨_,_,rfl⟩
 obtain ⟨a,cap,rfl⟩:=hva;have Hn:=hidI hn;have x0:w.cell? ⟨qb,0,none⟩=some (.slice a n cap):=by rw [cell_of_row w qb 0 _ 341 (0,0) hst];rfl
 have x1:w.cell? ⟨qb,1,none⟩=some (.int .i64 (pu:Nat)):=by rw [cell_of_row w qb 1 _ 341 (0,0) hst];rfl
 have x0a:∀ o,(w.alloc o).cell? ⟨qb,0,none⟩=some (.slice a n cap):=fun o=>by rw [←x0];exact World.cell?_of_block (Below.heap_alloc w o qb (lt_of_heap hst))
 have x1a:∀ o,(w.alloc o).cell? ⟨qb,1,none⟩=some (.int .i64 (pu:Nat)):=fun o=>by rw [←x1];exact World.cell?_of_block (Below.heap_alloc w o qb (lt_of_heap hst))
 have Hst:=hidI hst;have Hown:=hidI hown;clear hhp h hst hown hn;go_enter Tryz.func310,Tryz.ntmps310
 go_wp2;go_region_law
  (refine step_append_lies _ (by rfl) _ _ _ (by rfl) B 344 i0 _ 3 40 Tryz.underlying339 hi hz0 hz1 hz2 rfl (by omega) (.slice a n cap) n _ (by rfl) (Hown.out.drew.alloc _) ⟨w.heap.size,0,none⟩ 1 1 [.int .i64 (wt:Nat),.int .i64 (pu:Nat),.slice (some ⟨gb,0,none⟩) gn gc] (by rfl) rfl (qdC w.drew _ _ _ _) (by intro u hu;simp at hu;rcases hu with rfl | rfl | rfl<;>rfl) (by omega) (by unfold maxLen;omega) (by omega) (by simp;omega) (w.heap.size+1) (by simp) ?_;intro g2 cap2 w2 hown2 hgrow hat hlt2;have hst2:=(((Keeps.refl 341 w).drew.alloc _).grown3 (Hown.out.drew.alloc _) (by decide) hgrow).block Hst.out;have y0:w2.cell? ⟨qb,0,none⟩=some (.slice a n cap):=(by rw [cell_of_row w2 qb 0 _ 341 (0,0) hst2];rfl);have yf:=frozen_of_row w2 qb 0 _ 341 hst2;have Hst2:=hidI hst2;have Hown2:=hidI hown2;have Hgrow:=hidI hgrow;clear hst2 hown2 hgrow hat)
 rotate_left
 rotate_left
 rotate_left
 all_goals
  have hst3:=heap_setCell_same w2 qb 0 _ 341 (.slice (some ⟨g2,0,none⟩) (n+1) cap2) Hst2.out;have u1:(w2.setCell ⟨qb,0,none⟩ (.slice (some ⟨g2,0,none⟩) (n+1) cap2)).cell? ⟨qb,1,none⟩=some (.int .i64 (pu:Nat)):=by rw [cell_of_row _ qb 1 _ 341 (0,0) hst3];rfl
  have uf:=frozen_of_row _ qb 1 _ 341 hst3;have hst4:=heap_setCell_same _ qb 1 _ 341 (.int .i64 ((pu+1:Nat):Int)) hst3;have u0:((w2.setCell ⟨qb,0,none⟩ (.slice (some ⟨g2,0,none⟩) (n+1) cap2)).setCell ⟨qb,1,none⟩ (.int .i64 ((pu+1:Nat):Int))).cell? ⟨qb,0,none⟩=some (.slice (some ⟨g2,0,none⟩) (n+1) cap2):=by rw [cell_of_row _ qb 0 _ 341 (0,0) hst4];rfl
  have hqr:qb≠g2:=by
   intro e;subst e;obtain ⟨_,_,hk⟩:=Lib.ownsRow_kind Hown2.out qb rfl;rw [Hst2.out] at hk;simp at hk
  have hgv:(Value.slice (some ⟨g2,0,none⟩) (n+1) cap2).ownBlock≠some qb:=by simp [Value.ownBlock];exact fun e=>hqr e.symm
  have hown4:=ownsRow_setCell_other (a:=⟨qb,1,none⟩) (ownsRow_setCell_other (a:=⟨qb,0,none⟩) Hown2.out hgv (.slice (some ⟨g2,0,none⟩) (n+1) cap2)) hgv (.int .i64 ((pu+1:Nat):Int));have hfr:=Fr.app hB Hown.out Hgrow.out;have hfr4:Fr B w ((w2.setCell ⟨qb,0,none⟩ (.slice (some ⟨g2,0,none⟩) (n+1) cap2)).setCell ⟨qb,1,none⟩ (.int .i64 ((pu+1:Nat):Int))):=⟨(hfr.bel.setCell (p:=⟨qb,0,none⟩) hqB _).setCell (p:=⟨qb,1,none⟩) hqB _,(hfr.ints.set Hst2.out (by decide)).set hst3 (by decide)⟩;have hec:qac es++[.int .i64 (wt:Nat),.int .i64 (pu:Nat),.slice (some ⟨gb,0,none⟩) gn gc]=qac (es++[⟨wt,pu,gb,gn,gc⟩]):=by rw [qdl];rfl
  rw [hec] at hown4;have hq4:=QM.make hqB hst4 (by rw [List.length_append,←Hn.out];rfl) hown4;have Hcall:=hidI (qlA _ B qb (es++[⟨wt,pu,gb,gn,gc⟩]) (pu+1) n (hfr4.size hB) (by rw [List.length_append,←Hn.out];simp;omega) (by rw [List.length_append,←Hn.out];simp) (by rw [Hn.out];exact qjF Hhp.out _) hq4);have Hfr4:=hidI hfr4;clear hst3 hst4 hown4 hfr hfr4 hec hq4 hgv Hst2 Hown2 Hgrow Hst Hown x0 x1 x0a x1a;rw [show ((pu+1:Nat):Int)=(pu:Int)+1 by omega] at u0 Hcall Hfr4;go_wp2_with fail;refine Hcall.out.mono ?_;rintro e w5 ⟨rfl,es',hp,hh,hq,hf⟩;go_wp2;go_end0
  exact ⟨rfl,es',hp.trans (List.perm_append_singleton _ _),hh,hq,Hfr4.out.trans hf⟩
end Go.Proofs.YtodmdkhdbfbfgaaGreatDoor.S1
