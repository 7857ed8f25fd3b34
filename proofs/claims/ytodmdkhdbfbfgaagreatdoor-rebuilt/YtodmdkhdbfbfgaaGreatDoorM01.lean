/- Lemmas. -/
import Derived.Lib.BufferWrite
import Derived.Deep.RegionWith
import Derived.Test.YtodmdkhdbfbfgaaGreatDoorM00
set_option linter.unusedVariables false
set_option linter.unusedSimpArgs false
set_option maxRecDepth 100000
set_option maxHeartbeats 8000000
namespace Go.Proofs.YtodmdkhdbfbfgaaGreatDoor.S1
open Go.RowKit Pk
def ansU:Option (List UInt8)→Ending
 | none=>.returned (.tuple #[.string ⟨#[]⟩,.int .i64 2])
 | some l=>.returned (.tuple #[.string (txt l),.int .i64 0])
theorem belowD {B:Nat} {w w':World} {q:Nat} (h:Below B (w.drewN q) w'):Below B w w':=(below_drewN (Below.refl _ _) q).trans h
def DataAt (s:List UInt8) (z:Nat→Int) (size:Nat) (R:Option (List UInt8 × Nat)) (out:List UInt8) (pos:Nat):Prop:=
 out.length≤size∧pos≤8*s.length∧∃ f,size≤out.length+f∧dataF s z 288 size f out pos=R
theorem qf8 {s:List UInt8} {z:Nat→Int} {size:Nat} {R:Option (List UInt8 × Nat)} {out:List UInt8} {pos:Nat} (h:DataAt s z size R out pos) (hl:out.length<size) (hs:symF s z pos 288=none):R=none:=by
 obtain ⟨_,_,f,hf,hR⟩:=h;rw [←hR,qgw s z 288 size f out pos hl hs]
theorem qgm {s:List UInt8} {z:Nat→Int} {size:Nat} {R:Option (List UInt8 × Nat)} {out:List UInt8} {pos i:Nat} (h:DataAt s z size R out pos) (hl:out.length<size) (hh:hit s z pos i=true) (hi:i<256) :
 DataAt s z size R (out++[UInt8.ofNat i]) (pos+(z i).toNat):=by
 obtain ⟨_,_,f,hf,hR⟩:=h;obtain ⟨g,rfl⟩:∃ g,f=g+1:=⟨f - 1,by omega⟩;have h2:=(qbm s z pos i).1 hh;refine ⟨by simp;omega,h2.2.1,g,by simp;omega,?_⟩;rw [←hR,qdM s z 288 size g out pos i hl (qbH s z pos i (by omega) hh) hi]
theorem qfg {s:List UInt8} {z:Nat→Int} {size:Nat} {R:Option (List UInt8 × Nat)} {out:List UInt8} {pos i:Nat} (h:DataAt s z size R out pos) (hl:out.length<size) (hi8:i<288) (hh:hit s z pos i=true) (hi:¬i<256)
 (h2:8*s.length<pos+(z i).toNat+12):R=none:=by
 obtain ⟨_,_,f,hf,hR⟩:=h;obtain ⟨g,rfl⟩:∃ g,f=g+1:=⟨f - 1,by omega⟩;rw [←hR,qgB s z 288 size g out pos i hl (qbH s z pos i hi8 hh) hi h2]
theorem qhY {s:List UInt8} {z:Nat→Int} {size:Nat} {R:Option (List UInt8 × Nat)} {out:List UInt8} {pos i:Nat} (h:DataAt s z size R out pos) (hl:out.length<size) (hi8:i<288) (hh:hit s z pos i=true) (hi:¬i<256)
 (h2:¬8*s.length<pos+(z i).toNat+12) (h3:out.length<val s (pos+(z i).toNat) 12+1∨size<out.length+(i - 253)):R=none:=by
 obtain ⟨_,_,f,hf,hR⟩:=h;obtain ⟨g,rfl⟩:∃ g,f=g+1:=⟨f - 1,by omega⟩;rw [←hR,qjh s z 288 size g out pos i hl (qbH s z pos i hi8 hh) hi h2 h3]
theorem qfY {s:List UInt8} {z:Nat→Int} {size:Nat} {R:Option (List UInt8 × Nat)} {out:List UInt8} {pos i:Nat} (h:DataAt s z size R out pos) (hl:out.length<size) (hi8:i<288) (hh:hit s z pos i=true) (hi:¬i<256)
 (h2:¬8*s.length<pos+(z i).toNat+12) (h3:¬(out.length<val s (pos+(z i).toNat) 12+1∨size<out.length+(i - 253))) :
 DataAt s z size R (cpy out (val s (pos+(z i).toNat) 12+1) (i - 253)) (pos+(z i).toNat+12):=by
 obtain ⟨_,_,f,hf,hR⟩:=h;obtain ⟨g,rfl⟩:∃ g,f=g+1:=⟨f - 1,by omega⟩;refine ⟨by rw [qcf];omega,by omega,g,by rw [qcf];omega,?_⟩;rw [←hR,qdK s z 288 size g out pos i hl (qbH s z pos i hi8 hh) hi h2 h3]
theorem qiq {s:List UInt8} {z:Nat→Int} {size:Nat} {R:Option (List UInt8 × Nat)} {out:List UInt8} {pos:Nat} (h:DataAt s z size R out pos) (hl:¬out.length<size):R=some (out,pos):=by
 obtain ⟨_,_,f,hf,hR⟩:=h;rw [←hR,qdQ s z 288 size f out pos (by omega)]
theorem qhy (i:Nat) (h:i<256):(UInt8.ofNat i).toNat=i:=by simp [UInt8.toNat_ofNat'];omega
theorem qi9 (x y:Int) (hx0:0≤x) (hx1:x<4611686018427387904) (hy0:0≤y) (hy1:y<2) (hx:x%2=0):bits .or .i64 x y=x+y:=
 bits_join .i64 62 (by decide) (fun n h0 h1=>by rw [IntKind.wrap_i64];omega) 1 x y hx0 (by simpa using hx) (by omega) hy0 (by omega) (by omega)
theorem qmz (x:Int) (h0:0≤x) (h1:x<256):bits .and .u8 x 1=x%2:=bits_mask .u8 8 (by decide) wraps_u8 1 (by decide) x h0 h1
def Rd (w:World) (rb:Nat) (s:List UInt8) (pos:Nat):Prop:=w.heap[rb]? = some (.cells #[.string (txt s),.int .i64 (pos:Nat)] 295 (0,0))
theorem Rd.cell0 {w:World} {rb:Nat} {s:List UInt8} {pos:Nat} (h:Rd w rb s pos):w.cell? ⟨rb,0,none⟩=some (.string (txt s)):=by
 rw [cell_of_row w rb 0 _ 295 (0,0) h];rfl
theorem Rd.cell1 {w:World} {rb:Nat} {s:List UInt8} {pos:Nat} (h:Rd w rb s pos):w.cell? ⟨rb,1,none⟩=some (.int .i64 (pos:Nat)):=by
 rw [cell_of_row w rb 1 _ 295 (0,0) h];rfl
theorem Rd.frozen1 {w:World} {rb:Nat} {s:List UInt8} {pos:Nat} (h:Rd w rb s pos):w.frozen? ⟨rb,1,none⟩=false:=frozen_of_row w rb 1 _ 295 h
theorem Rd.drewN {w:World} {rb:Nat} {s:List UInt8} {pos:Nat} (h:Rd w rb s pos) (q:Nat):Rd (w.drewN q) rb s pos:=by unfold Rd at *;simpa using h
theorem Rd.put {w:World} {rb:Nat} {s:List UInt8} {pos:Nat} (h:Rd w rb s pos) (p:Nat):Rd (w.setCell ⟨rb,1,none⟩ (.int .i64 (p:Nat))) rb s p:=by
 unfold Rd at *
 have:=heap_setCell_same w rb 1 _ 295 (.int .i64 (p:Nat)) h
 simpa using this
theorem Rd.lt {w:World} {rb:Nat} {s:List UInt8} {pos:Nat} (h:Rd w rb s pos):rb<w.heap.size:=lt_of_heap h
theorem qap {a b c:World} {row:Option Nat} (h:a.grownBy b row) (k:b.grownBy c row):a.grownBy c row:=
 ⟨k.os.trans h.os,k.tape.trans h.tape,k.output.trans h.output,Nat.le_trans h.size k.size,fun i hi hr=>(k.block i (Nat.lt_of_lt_of_le hi h.size) hr).trans (h.block i hi hr)⟩
theorem qi6 {a b:World} {g o:Nat} (h:a.grownBy b (some g)) (v:Value):a.grownBy (b.setCell ⟨g,o,none⟩ v) (some g):=
 qap h ⟨rfl,rfl,rfl,by simp,fun k _ hk=>Below.heap_setCell b ⟨g,o,none⟩ v k (fun e=>hk (by simp [e]))⟩
theorem qaz (w:World) (q:Nat) (row:Option Nat):w.grownBy (w.drewN q) row:=⟨rfl,rfl,rfl,Nat.le_refl _,fun _ _ _=>rfl⟩
theorem qbE (rb:Nat) (s:List UInt8) (pos:Nat) (w:World) (hs:s.length≤140737488351232) (hp:pos≤8*s.length) (hr:Rd w rb s pos) :
 Calls Tryz.prog 295 #[.pointer (some ⟨rb,0,none⟩)] w fun e w'=>e=.returned (.int .i64 (8*s.length - pos:Nat))∧∃ q,w'=w.drewN q:=by
 have h0:=hr.cell0;have h1:=hr.cell1;have hsz:(txt s).size=s.length:=qaa s;obtain ⟨t,ht⟩:∃ t,t=txt s:=⟨_,rfl⟩;rw [←ht] at h0 hsz;have hs1:t.size≤s.length:=by omega
 have hs2:s.length≤t.size:=by omega
 have Hs:=hidI hsz;clear ht hsz;go_enter Tryz.func295,Tryz.ntmps295
 go_wp2
 go_quiet (fail)
 go_wp2;go_ret
 exact ⟨qax (by rw [Hs.out];omega),_,rfl⟩
theorem qeC (rb:Nat) (s:List UInt8) (pos d:Nat) (w:World) (hs:s.length≤140737488351232) (hp:pos≤8*s.length) (hr:Rd w rb s pos) (hd:d≤12) (h:8*s.length<pos+d) :
 Calls Tryz.prog 293 #[.pointer (some ⟨rb,0,none⟩),.int .i64 (d:Nat)] w fun e w'=>e=.returned (.tuple #[.int .i64 0,.bool false])∧∃ q,w'=w.drewN q:=by
 go_enter Tryz.func293,Tryz.ntmps293
 go_wp2_with (go_at_call 295;refine (qbE rb s pos _ hs hp hr).mono ?_;rintro e w' ⟨rfl,q,rfl⟩);go_ret2
 exact ⟨rfl,_,rfl⟩
theorem qbL (rb:Nat) (s:List UInt8) (pos d:Nat) (w:World) (hs:s.length≤140737488351232) (hr:Rd w rb s pos) (hd:d≤12) (h:pos+d≤8*s.length) :
 Calls Tryz.prog 293 #[.pointer (some ⟨rb,0,none⟩),.int .i64 (d:Nat)] w fun e w'=>e=.returned (.tuple #[.int .i64 (val s pos d:Nat),.bool true])∧Rd w' rb s (pos+d)∧w.grownBy w' (some rb):=by
 have hsz:(txt s).size=s.length:=qaa s;have hgd:∀ k (h:k<(txt s).size),((txt s)[k]'h).toNat=(s.getD k 0).toNat:=fun k h=>by rw [qaR]
 go_enter Tryz.func293,Tryz.ntmps293
 go_wp2_with (go_at_call 295;refine (qbE rb s pos _ hs (by omega) hr).mono ?_;rintro e w' ⟨rfl,q,rfl⟩)
 go_loopw [6,13] (fun v i wr=>∃ k P:Nat,k≤d∧P≤pos+k∧pos+k≤P∧i=.int .i64 k∧v=.int .i64 (val s pos k:Nat)∧Rd wr rb s P∧w.grownBy wr (some rb)) (fun _ i _=>d - (intOf i).toNat)
 case atStart =>
  refine ⟨0,pos,by omega,by omega,by omega,rfl,rfl,hr.drewN _,?_⟩;exact qaz _ _ _
 case round =>
  obtain ⟨k,P,hk,hP1,hP2,rfl,rfl,hrd,hg⟩:=hrel;by_cases hlt:k<d
  ·have h0:=hrd.cell0;have h1:=hrd.cell1;have hf:=hrd.frozen1;have hrd':=fun q=>(hrd.drewN q).put (P+1)
   obtain ⟨t,ht⟩:∃ t,t=txt s:=⟨_,rfl⟩;rw [←ht] at h0 hgd hsz;have hidx:P/8<t.size:=by omega
   obtain ⟨m,hm⟩:∃ m,m=(s.getD (P/8) 0).toNat:=⟨_,rfl⟩;have hx:(t[P/8]'hidx).toNat=m:=by rw [hm,hgd]
   have hm256:m<256:=by rw [hm];exact (s.getD (P/8) 0).toNat_lt
   have hi1:(0:Int)≤(P:Int)/8:=by omega
   have hi2:(P:Int)/8<(t.size:Int):=by omega
   have hts:t.size≤140737488351232:=by omega
   have hv:val s pos k<4096:=Nat.lt_of_lt_of_le (qdW s pos k) (Nat.pow_le_pow_right (by omega) (by omega:k≤12));have Hm:=hidI hm;clear hm ht hgd hsz
   generalize hvv:val s pos k=vv at *
   have Hvv:=hidI hvv;clear hvv;obtain ⟨bb,hbb⟩:∃ b,b=bt s P:=⟨_,rfl⟩;have hb2:bb<2:=by rw [hbb];exact qkQ s P
   have hbit:bits BinOp.and IntKind.u8 ((m:Int)/2^(7 - P%8)) 1=(bb:Int):=by
    have e1:((m:Int)/2^(7 - P%8))=((m/2^(7 - P%8):Nat):Int):=by simp
    have e2:m/2^(7 - P%8)≤m:=Nat.div_le_self _ _;have e3:bb=m/2^(7 - P%8)%2:=by rw [hbb];unfold bt;rw [←Hm.out]
    rw [e1]
    generalize m/2^(7 - P%8)=mq at *
    rw [qmz _ (by omega) (by omega),e3];omega
   have hor:bits BinOp.or IntKind.i64 ((vv:Int)*2) (bb:Int)=((2*vv+bb:Nat):Int):=by
    rw [qi9 _ _ (by omega) (by omega) (by omega) (by omega) (by omega)];omega
   have Hbb:=hidI hbb;clear hbb;go_wp2
   go_quiet (fail)
   go_wp2;go_roundw
   case rel =>
    refine ⟨k+1,P+1,by omega,by omega,by omega,by go_num,?_,hrd' _,?_⟩
    ·rw [qaD,Hvv.out,show pos+k=P by omega,←Hbb.out];go_num
    exact qi6 (qap hg (qaz _ _ _)) _
   case measure=>simp [intOf];omega
  have hkd:k=d:=by omega
  have hPd:P=pos+d:=by omega
  have HP:=hidI hPd;subst hkd;clear hPd;go_wp2;go_ret2
  exact ⟨rfl,HP.out ▸ hrd,hg⟩
theorem qgP (rb:Nat) (s:List UInt8) (pos:Nat) (w:World) (hs:s.length≤140737488351232) (hr:Rd w rb s pos) (hp:pos≤8*s.length) (h8:8*s.length - pos<8) :
 Calls Tryz.prog 262 #[.pointer (some ⟨rb,0,none⟩)] w fun e w'=>e=.returned (.bool (decide (val s pos (8*s.length - pos)=0)))∧w.grownBy w' (some rb):=by
 go_enter Tryz.func262,Tryz.ntmps262
 go_wp2_with fail;refine (qbE rb s pos _ hs hp hr).mono ?_;rintro e w1 ⟨rfl,q1,rfl⟩;have hr1:=hr.drewN q1
 generalize hl:8*s.length - pos=l at *
 have Hl:=hidI hl;have hle:pos+l≤8*s.length:=by omega
 have hlp:l≤8*s.length - pos:=by omega
 clear hl;go_wp2_with fail;refine (qbE rb s pos _ hs hp hr1).mono ?_;rintro e w2 ⟨rfl,q2,rfl⟩;rw [Hl.out];have hr2:=hr.drewN (q1+q2);go_wp2_with fail;refine (qbL rb s pos l _ hs hr2 (by omega) hle).mono ?_;rintro e w3 ⟨rfl,_,hg⟩;have hg3:w.grownBy w3 (some rb):=qap (qaz _ _ _) hg;by_cases hv:val s pos l=0
 ·have Hd:Hid (true=decide (val s pos l=0)):=(by simpa using hv:true=decide (val s pos l=0));rw [hv];go_wp2;go_ret
  exact ⟨qah (by rw [Hl.out];exact Hd.out),hg3⟩
 have hv':((val s pos l:Int)==0)=false:=by simp;omega
 have Hd:Hid (false=decide (val s pos l=0)):=(by simpa using hv:false=decide (val s pos l=0));go_wp2;go_ret
 exact ⟨qah (by rw [Hl.out];exact Hd.out),hg3⟩
theorem qmy (rb:Nat) (s:List UInt8) (pos:Nat) (w:World) (hs:s.length≤140737488351232) (hr:Rd w rb s pos) (hp:pos≤8*s.length) (h8:¬8*s.length - pos<8) :
 Calls Tryz.prog 262 #[.pointer (some ⟨rb,0,none⟩)] w fun e w'=>e=.returned (.bool false)∧w.grownBy w' (some rb):=by
 go_enter Tryz.func262,Tryz.ntmps262
 go_wp2_with fail;refine (qbE rb s pos _ hs hp hr).mono ?_;rintro e w1 ⟨rfl,q1,rfl⟩;go_wp2;go_ret
 exact ⟨rfl,qaz _ _ _⟩
def bnd (n lo hi:Int):Int:=if n<lo then lo else if hi<n then hi else n
theorem qgL (n lo hi:Int) (h:lo≤hi):lo≤bnd n lo hi∧bnd n lo hi≤hi:=by unfold bnd;split<;>(try split)<;>omega
theorem qeW (n lo hi:Int) (h:lo≤hi) (w:World):Calls Tryz.prog 36 #[.int .i64 n,.int .i64 lo,.int .i64 hi] w fun e w'=>e=.returned (.int .i64 (bnd n lo hi))∧w'=w:=by
 by_cases h1:n<lo
 ·have Hb:Hid (bnd n lo hi=lo):=if_pos h1;go_enter Tryz.func36,Tryz.ntmps36
  go_wp2
  all_goals go_ret
  all_goals exact ⟨qax (by rw [Hb.out]<;>omega),rfl⟩
 by_cases h2:hi<n
 ·have Hb:Hid (bnd n lo hi=hi):=by unfold bnd;rw [if_neg h1,if_pos h2];exact rfl
  go_enter Tryz.func36,Tryz.ntmps36
  go_wp2
  all_goals go_ret
  all_goals exact ⟨qax (by rw [Hb.out]<;>omega),rfl⟩
 have Hb:Hid (bnd n lo hi=n):=by unfold bnd;rw [if_neg h1,if_neg h2];exact rfl
 go_enter Tryz.func36,Tryz.ntmps36
 go_wp2
 all_goals go_ret
 all_goals exact ⟨qax (by rw [Hb.out]<;>omega),rfl⟩
theorem made64:∃ M:Array Value,(∀ W:World,(Instr.makeSlice 111 (.int .i64 64) (.int .i64 64)).run Tryz.prog W=.ok (.slice (some ⟨W.heap.size,0,none⟩) 64 64) (W.alloc (.cells M 5)))∧∀ W:World,(W.alloc (.cells M 5)).rowIs W.heap.size 5 64 (fun _=>.int .u8 0):=
 ⟨madeCells #[Value.int .u8 0] 64,fun W=>run_make_row' (P:=Tryz.prog) 111 5 (.int .u8 0) 1 Tryz.underlying111 Tryz.info5 rfl .i64 .i64 64 (by omega) (by omega) W,fun W=>World.rowIs_made W (.int .u8 0) 64 5⟩
theorem row_str {w:World} {b n c:Nat} {l:List UInt8} (h:w.rowIs b 5 n (fun j=>.int .u8 ((l.getD j 0).toNat:Nat))) (hl:l.length=n):(convert 111 9 (.slice (some ⟨b,0,none⟩) n c)).run Tryz.prog w=.ok (.string (txt l)) w:=by
 have hc:=run_convert_bytes_arg (P:=Tryz.prog) w 111 5 Tryz.underlying111 Tryz.underlying5 b 0 n c (l.map fun b=>(b.toNat:Int)) (by simpa using hl) (fun i hi=>by
  rw [Nat.zero_add,h.cell hi]
  have:i<l.length:=by omega
  simp [List.getD,this]) 9 Tryz.underlying9
 rw [strOfNums_bytes] at hc;exact hc
theorem qho (l:List UInt8) (h:l.length≤64):(pad l).length=64:=by unfold pad;simp;omega
theorem qmq (l:List UInt8) (h:l.length≤64) (j:Nat) (hj:j<64):(pad l).getD j 0=if j<l.length then l.getD j 0 else 255:=by
 unfold pad;simp only [List.getD];by_cases e:j<l.length
 ·rw [if_pos e,List.getElem?_append_left e]
 rw [if_neg e,List.getElem?_append_right (by omega)]
 have:j - l.length<64 - l.length:=by omega
 simp [this]
theorem qii {w:World} {g:Nat} {cur:Array Value} {t:TypeId} {Y:Array Value} {f:Nat→Value} {n:Nat} (hg:w.heap[g]? = some (.cells cur t (0,0))) (hn:Y.size=n) (hY:∀ i,i<n→Y[i]? = some (f i)):(w.setRow g Y).rowIs g t n f:=
 ⟨Y,setRow_heap w g cur Y t (0,0) hg,hn,hY⟩
theorem qhn (s:List UInt8) (hs:s.length≤64) (w:World) :
 Calls Tryz.prog 196 #[.string (txt s)] w fun e w'=>e=.returned (.string (txt (pad s)))∧Below w.heap.size w w':=by
 obtain ⟨M,hmk,hM⟩:=made64;have h0:=hM w;have hb0:Below w.heap.size w (w.alloc (.cells M 5)):=(Below.refl _ _).alloc (Nat.le_refl _) _;clear hM;have hinfo:(Tryz.prog.info? 5).map (·.size)=some 1:=by kernel_rfl
 have hse:(txt s).size=s.length:=qaa s;have hdl:(txt s).data.toList=s:=rfl;obtain ⟨t,ht⟩:∃ t,t=txt s:=⟨_,rfl⟩;rw [←ht] at hse hdl ⊢;have ht64:t.size≤64:=by omega
 have Hse:=hidI hse;have Hdl:=hidI hdl;obtain ⟨x,hx⟩:∃ x,x=txt (pad s):=⟨_,rfl⟩;have Hx:=hidI hx;rw [←hx];clear hx ht hse hdl;go_enter Tryz.func196,Tryz.ntmps196
 go_wp2;clear hmk
 go_loopw [4] (fun i wr=>∃ k:Nat,k≤64∧i=.int .i64 k∧wr.rowIs w.heap.size 5 64 (fun j=>if j<k then .int .u8 255 else .int .u8 0)∧Below w.heap.size w wr) (fun i _=>64 - (intOf i).toNat)
 case atStart=>exact ⟨0,by omega,rfl,by simpa using h0,hb0⟩
 case round =>
  clear h0 hb0;obtain ⟨k,hk,rfl,hrow,hb⟩:=hrel;by_cases hlt:k<64
  ·have hc:=hrow.cell hlt;have hf:=hrow.frozen k;have hrow':(wr.setCell ⟨w.heap.size,k,none⟩ (.int .u8 255)).rowIs w.heap.size 5 64 (fun j=>if j<k+1 then .int .u8 255 else .int .u8 0):=(hrow.set k _).congr fun j hj=>by
    by_cases e:j=k
    ·rw [if_pos e,if_pos (by omega)]
    rw [if_neg e];by_cases e2:j<k
    ·rw [if_pos e2,if_pos (by omega)]
    rw [if_neg e2,if_neg (by omega)]
   rw [if_neg (by omega)] at hc;have hb':=hb.setCell (p:=⟨w.heap.size,k,none⟩) (Nat.le_refl _) (.int .u8 255);clear hrow hb;go_wp2;go_roundw
   case rel=>exact ⟨k+1,by omega,by go_num,hrow',hb'⟩
   case measure=>simp [intOf];omega
  have hk64:k=64:=by omega
  subst hk64;obtain ⟨cur,hg,hcs,hcf⟩:=hrow;have hcp:=Lib.run_copy_row_string (P:=Tryz.prog) wr 111 9 3 5 w.heap.size 0 64 64 t cur 5 Tryz.underlying111 hinfo hg (by omega) (by omega);obtain ⟨Y,hY⟩:∃ Y,Y=(cur.toList.take 0++Lib.byteCells t.data.toList++cur.toList.drop (0+t.size)).toArray:=⟨_,rfl⟩;rw [←hY] at hcp;have hYr:(wr.setRow w.heap.size Y).rowIs w.heap.size 5 64 (fun j=>.int .u8 (((pad s).getD j 0).toNat:Nat)):=by
   have hbl:(Lib.byteCells t.data.toList).length=s.length:=by rw [Lib.byteCells_length,Hdl.out]
   have hcl:cur.toList.length=64:=by rw [Array.length_toList];exact hcs
   refine qii hg ?_ fun i hi => ?_
   ·rw [hY,List.size_toArray,List.take_zero,List.nil_append,List.length_append,List.length_drop,hbl,hcl,Hse.out];omega
   rw [hY,List.getElem?_toArray,List.take_zero,List.nil_append,qmq s hs i hi];by_cases e:i<s.length
   ·rw [if_pos e,List.getElem?_append_left (by omega)];unfold Lib.byteCells;rw [Hdl.out];simp [List.getD,e]
   rw [if_neg e,List.getElem?_append_right (by omega),hbl,List.getElem?_drop,Hse.out,show 0+s.length+(i - s.length)=i by omega,Array.getElem?_toList,hcf i hi];show some (if i<64 then Value.int .u8 255 else .int .u8 0)=_;rw [if_pos hi];rfl
  have hcv:=row_str (c:=64) hYr (qho s hs);rw [←Hx.out] at hcv;have hB:Below w.heap.size w (wr.setRow w.heap.size Y):=below_setRow hb (Nat.le_refl _) Y;clear hY hcf;go_wp2;go_ret
  exact ⟨rfl,hB⟩
def hasB (m:M) (b:Int):Bool:=decide (0≤b)&&decide (b<(m.nb:Int))
def badB (m:M) (b:Int):Bool:=!(hasB m b)||m.bd b.toNat
theorem qbe {m:M} {b:Int} (h:hasB m b=true):0≤b∧b<(m.nb:Int):=by simpa [hasB] using h
theorem qaP (w:World) (lo hi cb:Nat) (L:Loc) (m:M) (h:CP w lo hi cb L m):Calls Tryz.prog 76 #[.pointer (some ⟨cb,0,none⟩)] w fun e w'=>e=.returned (.int .i64 (m.nb:Nat))∧w'=w:=by
 have h1:=MemX.c1 h;clear h;go_enter Tryz.func76,Tryz.ntmps76
 go_wp2;go_ret
 exact ⟨rfl,rfl⟩
theorem pages_any (w:World) (lo hi cb:Nat) (L:Loc) (m:M) (h:CP w lo hi cb L m):Calls Tryz.prog 77 #[.pointer (some ⟨cb,0,none⟩)] w fun e w'=>e=.returned (.int .i64 (m.np:Nat))∧w'=w:=by
 have h1:=MemX.c0 h;clear h;go_enter Tryz.func77,Tryz.ntmps77
 go_wp2;go_ret
 exact ⟨rfl,rfl⟩
theorem dead_any (w:World) (lo hi cb:Nat) (L:Loc) (m:M) (h:CP w lo hi cb L m):Calls Tryz.prog 25 #[.pointer (some ⟨cb,0,none⟩)] w fun e w'=>e=.returned (.bool (m.life==0))∧w'=w:=by
 have h1:=MemX.c4 h;clear h;go_enter Tryz.func25,Tryz.ntmps25
 go_wp2;go_ret
 exact ⟨rfl,rfl⟩
theorem qec (w:World) (lo hi cb:Nat) (L:Loc) (m:M) (b:Int) (h:CP w lo hi cb L m):Calls Tryz.prog 44 #[.pointer (some ⟨cb,0,none⟩),.int .i64 b] w fun e w'=>e=.returned (.bool (hasB m b))∧w'=w:=by
 have h1:=MemX.c1 h;clear h;by_cases hb:0≤b
 ·have hd:decide (0≤b)=true:=by simpa using hb
  by_cases hb2:b<(m.nb:Int)
  ·have Hh:Hid (true=hasB m b):=by simp [hasB,hb,hb2,Hid]
   go_enter Tryz.func44,Tryz.ntmps44
   go_wp2;go_ret
   exact ⟨qah Hh.out,rfl⟩
  have Hh:Hid (false=hasB m b):=by simp [hasB,hb2,Hid]
  go_enter Tryz.func44,Tryz.ntmps44
  go_wp2;go_ret
  exact ⟨qah Hh.out,rfl⟩
 have hd:decide (0≤b)=false:=by simpa using hb
 have Hh:Hid (false=hasB m b):=by simp [hasB,hb,Hid]
 go_enter Tryz.func44,Tryz.ntmps44
 go_wp2;go_ret
 exact ⟨qah Hh.out,rfl⟩
theorem qdy (w:World) (lo hi cb:Nat) (L:Loc) (m:M) (b:Int) (h:CP w lo hi cb L m):Calls Tryz.prog 94 #[.pointer (some ⟨cb,0,none⟩),.int .i64 b] w fun e w'=>e=.returned (.bool (badB m b))∧w'=w:=by
 have Hhas:=hidI (qec w lo hi cb L m b h);have h3:=MemX.c3 h;have hbd:=h.bad;clear h;cases hh:hasB m b with
 | true =>
   obtain ⟨n,rfl⟩:=Int.eq_ofNat_of_zero_le (qbe hh).1;have hn:n<m.nb:=by have:=(qbe hh).2;omega
   have hc:=hbd.cell hn;have Hr:Hid (m.bd n=badB m (n:Nat)):=by simp [badB,hh,Hid]
   rw [hh] at Hhas;clear hh hbd
   generalize m.bd n=x at *
   go_enter Tryz.func94,Tryz.ntmps94
   go_wp2_with fail;refine Hhas.out.mono ?_;rintro e w1 ⟨rfl,rfl⟩;go_wp2;go_ret
   exact ⟨qah Hr.out,rfl⟩
 | false =>
   have Hr:Hid (true=badB m b):=by simp [badB,hh,Hid]
   rw [hh] at Hhas;clear hh hbd;go_enter Tryz.func94,Tryz.ntmps94
   go_wp2_with fail;refine Hhas.out.mono ?_;rintro e w1 ⟨rfl,rfl⟩;go_wp2;go_ret
   exact ⟨qah Hr.out,rfl⟩
def callF (life fail:Int):Int × Int × Int:=
 if life=0 then (3,life,fail)
 else if life=1 then (2,0,fail)
 else if fail<0 then (0,if 0<life then life - 1 else life,fail)
 else if fail=0 then (1,if 0<life then life - 1 else life,-1)
 else (0,if 0<life then life - 1 else life,fail - 1)
theorem qjp (life fail:Int) (h1:-1≤life) (h2:life≤1073741825) (h3:-1≤fail) (h4:fail≤1073741824) :
 0≤(callF life fail).1∧(callF life fail).1≤3 ∧ -1≤(callF life fail).2.1∧(callF life fail).2.1≤1073741825 ∧ -1≤(callF life fail).2.2∧(callF life fail).2.2≤1073741824:=by
 unfold callF
 repeat' split
 all_goals simp
 all_goals omega
theorem qbR (w:World) (lo hi cb:Nat) (L:Loc) (m:M) (hw:WF m) (h:CP w lo hi cb L m):Calls Tryz.prog 190 #[.pointer (some ⟨cb,0,none⟩)] w fun e w'=>e=.returned (.int .i64 (callF m.life m.fail).1)∧CP w' lo hi cb L { m with life:=(callF m.life m.fail).2.1,fail:=(callF m.life m.fail).2.2 }∧Only lo hi w w':=by
 have hl1:=hw.life1;have hl2:=hw.life2;have hf1:=hw.fail1;have hf2:=hw.fail2;have c4:=MemX.c4 h;have cf:=MemX.c6 h;have z4:=MemX.fz h 4;have zf:=MemX.fz h 6;have hcb:=MemX.hcb h;by_cases h0:m.life=0
 ·have e:callF m.life m.fail=(3,m.life,m.fail):=by unfold callF;rw [if_pos h0]
  rw [e];have hb:(m.life==0)=true:=by simpa using h0
  have H:=hidI h;clear h e h0;go_enter Tryz.func190,Tryz.ntmps190
  go_wp2;go_ret
  exact ⟨rfl,H.out,Only.refl _ _ _⟩
 have hb:(m.life==0)=false:=by simpa using h0
 by_cases h1:m.life=1
 ·have e:callF m.life m.fail=(2,0,m.fail):=by unfold callF;rw [if_neg h0,if_pos h1]
  rw [e];have H:Hid (CP (w.setCell ⟨cb,4,none⟩ (.int .i64 0)) lo hi cb L { m with life:=0,fail:=m.fail }):=(MemX.field h 4 0 _ _ _ _ rfl).re _ rfl rfl rfl rfl rfl;have hs:m.life - 1=0:=by omega
  have hp:0<m.life:=by omega
  clear h e h0 h1
  generalize m.life=l at *
  generalize m.fail=f at *
  go_enter Tryz.func190,Tryz.ntmps190
  go_wp2;go_ret
  exact ⟨rfl,H.out,(Only.refl _ _ _).set hcb 4 _⟩
 by_cases hp:0<m.life
 ·have hb1:(m.life - 1==0)=false:=by simp;omega
  have hm:MemX (w.setCell ⟨cb,4,none⟩ (.int .i64 (m.life - 1))) lo hi cb 74 L m id (m.life - 1) m.cut m.fail m.part:=MemX.field h 4 (m.life - 1) _ _ _ _ rfl;have cf':=MemX.c6 hm;have zf':=MemX.fz hm 6;by_cases hf:m.fail<0
  ·have e:callF m.life m.fail=(0,m.life - 1,m.fail):=by unfold callF;rw [if_neg h0,if_neg h1,if_pos hf,if_pos hp]
   rw [e];have H:Hid (CP (w.setCell ⟨cb,4,none⟩ (.int .i64 (m.life - 1))) lo hi cb L { m with life:=m.life - 1,fail:=m.fail }):=hm.re _ rfl rfl rfl rfl rfl;clear h e h0 h1 hm
   generalize m.life=l at *
   generalize m.fail=f at *
   go_enter Tryz.func190,Tryz.ntmps190
   go_wp2;go_ret
   exact ⟨rfl,H.out,(Only.refl _ _ _).set hcb 4 _⟩
  by_cases hfz:m.fail=0
  ·have e:callF m.life m.fail=(1,m.life - 1,-1):=by unfold callF;rw [if_neg h0,if_neg h1,if_neg hf,if_pos hfz,if_pos hp]
   rw [e];have H:Hid (CP ((w.setCell ⟨cb,4,none⟩ (.int .i64 (m.life - 1))).setCell ⟨cb,6,none⟩ (.int .i64 (-1))) lo hi cb L { m with life:=m.life - 1,fail:=-1 }):=(MemX.field hm 6 (-1) _ _ _ _ rfl).re _ rfl rfl rfl rfl rfl;have hs:m.fail - 1 = -1:=by omega
   have cfx:((w.setCell ⟨cb,4,none⟩ (.int .i64 (m.life - 1))).setCell ⟨cb,6,none⟩ (.int .i64 (-1))).cell? ⟨cb,6,none⟩=some (.int .i64 (-1)):=MemX.c6 H.out;clear h e h0 h1 hm
   generalize m.life=l at *
   generalize m.fail=f at *
   go_enter Tryz.func190,Tryz.ntmps190
   go_wp2;go_ret
   exact ⟨rfl,H.out,((Only.refl _ _ _).set hcb 4 _).set hcb 6 _⟩
  have e:callF m.life m.fail=(0,m.life - 1,m.fail - 1):=by unfold callF;rw [if_neg h0,if_neg h1,if_neg hf,if_neg hfz,if_pos hp]
  rw [e];have H:Hid (CP ((w.setCell ⟨cb,4,none⟩ (.int .i64 (m.life - 1))).setCell ⟨cb,6,none⟩ (.int .i64 (m.fail - 1))) lo hi cb L { m with life:=m.life - 1,fail:=m.fail - 1 }):=(MemX.field hm 6 (m.fail - 1) _ _ _ _ rfl).re _ rfl rfl rfl rfl rfl;have cfx:((w.setCell ⟨cb,4,none⟩ (.int .i64 (m.life - 1))).setCell ⟨cb,6,none⟩ (.int .i64 (m.fail - 1))).cell? ⟨cb,6,none⟩=some (.int .i64 (m.fail - 1)):=MemX.c6 H.out;have hfp:0<m.fail:=by omega
  clear h e h0 h1 hm
  generalize m.life=l at *
  generalize m.fail=f at *
  go_enter Tryz.func190,Tryz.ntmps190
  go_wp2;go_ret
  exact ⟨rfl,H.out,((Only.refl _ _ _).set hcb 4 _).set hcb 6 _⟩
 by_cases hf:m.fail<0
 ·have e:callF m.life m.fail=(0,m.life,m.fail):=by unfold callF;rw [if_neg h0,if_neg h1,if_pos hf,if_neg hp]
  rw [e];have H:Hid (CP w lo hi cb L { m with life:=m.life,fail:=m.fail }):=h;clear h e h0 h1;go_enter Tryz.func190,Tryz.ntmps190
  go_wp2;go_ret
  exact ⟨rfl,H.out,Only.refl _ _ _⟩
 by_cases hfz:m.fail=0
 ·have e:callF m.life m.fail=(1,m.life,-1):=by unfold callF;rw [if_neg h0,if_neg h1,if_neg hf,if_pos hfz,if_neg hp]
  rw [e];have H:Hid (CP (w.setCell ⟨cb,6,none⟩ (.int .i64 (-1))) lo hi cb L { m with life:=m.life,fail:=-1 }):=(MemX.field h 6 (-1) _ _ _ _ rfl).re _ rfl rfl rfl rfl rfl;have hs:m.fail - 1 = -1:=by omega
  have cfx:(w.setCell ⟨cb,6,none⟩ (.int .i64 (-1))).cell? ⟨cb,6,none⟩=some (.int .i64 (-1)):=MemX.c6 H.out;clear h e h0 h1
  generalize m.life=l at *
  generalize m.fail=f at *
  go_enter Tryz.func190,Tryz.ntmps190
  go_wp2;go_ret
  exact ⟨rfl,H.out,(Only.refl _ _ _).set hcb 6 _⟩
 have e:callF m.life m.fail=(0,m.life,m.fail - 1):=by unfold callF;rw [if_neg h0,if_neg h1,if_neg hf,if_neg hfz,if_neg hp]
 rw [e];have H:Hid (CP (w.setCell ⟨cb,6,none⟩ (.int .i64 (m.fail - 1))) lo hi cb L { m with life:=m.life,fail:=m.fail - 1 }):=(MemX.field h 6 (m.fail - 1) _ _ _ _ rfl).re _ rfl rfl rfl rfl rfl;have cfx:(w.setCell ⟨cb,6,none⟩ (.int .i64 (m.fail - 1))).cell? ⟨cb,6,none⟩=some (.int .i64 (m.fail - 1)):=MemX.c6 H.out;have hfp:0<m.fail:=by omega
 clear h e h0 h1
 generalize m.life=l at *
 generalize m.fail=f at *
 go_enter Tryz.func190,Tryz.ntmps190
 go_wp2;go_ret
 exact ⟨rfl,H.out,(Only.refl _ _ _).set hcb 6 _⟩
def readF (m:M) (b p:Int):Option (List UInt8):=
 if m.life≠0∧hasB m b=true∧0≤p∧p<(m.np:Int) then some (pad (m.pg b.toNat p.toNat)) else none
def ansR:Option (List UInt8)→Ending
 | none=>.returned (.tuple #[.string ⟨#[]⟩,.bool false])
 | some l=>.returned (.tuple #[.string (txt l),.bool true])
theorem qkE (w:World) (lo hi cb:Nat) (L:Loc) (m:M) (b p:Int) (hw:WF m) (h:CP w lo hi cb L m):Calls Tryz.prog 132 #[.pointer (some ⟨cb,0,none⟩),.int .i64 b,.int .i64 p] w fun e w'=>e=ansR (readF m b p)∧Below w.heap.size w w':=by
 have Hhas:=hidI (qec w lo hi cb L m b h);have c0:=MemX.c0 h;have c1:=MemX.c1 h;have c4:=MemX.c4 h;by_cases h0:m.life=0
 ·have e:readF m b p=none:=by unfold readF;rw [if_neg (fun h=>h.1 h0)]
  rw [e];have hb:(m.life==0)=true:=by simpa using h0
  clear h e h0;go_enter Tryz.func132,Tryz.ntmps132
  go_wp2;go_ret2
  exact ⟨rfl,Below.refl _ _⟩
 have hb:(m.life==0)=false:=by simpa using h0
 cases hh:hasB m b with
 | false =>
   have e:readF m b p=none:=by unfold readF;rw [if_neg (fun h=>by rw [hh] at h;exact absurd h.2.1 (by decide))]
   rw [e];rw [hh] at Hhas;clear h e h0 hh;go_enter Tryz.func132,Tryz.ntmps132
   go_wp2_with fail;refine Hhas.out.mono ?_;rintro e w1 ⟨rfl,rfl⟩;go_wp2;go_ret2
   exact ⟨rfl,Below.refl _ _⟩
 | true =>
   rw [hh] at Hhas;by_cases hp:p<0
   ·have e:readF m b p=none:=by unfold readF;rw [if_neg (fun h=>by omega)]
    rw [e];have hd:decide (p<0)=true:=by simpa using hp
    clear h e h0 hh;go_enter Tryz.func132,Tryz.ntmps132
    go_wp2_with fail;refine Hhas.out.mono ?_;rintro e w1 ⟨rfl,rfl⟩;go_wp2;go_ret2
    exact ⟨rfl,Below.refl _ _⟩
   have hd:decide (p<0)=false:=by simpa using hp
   by_cases hp2:(m.np:Int)≤p
   ·have e:readF m b p=none:=by unfold readF;rw [if_neg (fun h=>by omega)]
    rw [e];have hd2:decide ((m.np:Int)≤p)=true:=by simpa using hp2
    clear h e h0 hh;go_enter Tryz.func132,Tryz.ntmps132
    go_wp2_with fail;refine Hhas.out.mono ?_;rintro e w1 ⟨rfl,rfl⟩;go_wp2;go_ret2
    exact ⟨rfl,Below.refl _ _⟩
   have hd2:decide ((m.np:Int)≤p)=false:=by simpa using hp2
   have e:readF m b p=some (pad (m.pg b.toNat p.toNat)):=by unfold readF;rw [if_pos ⟨h0,hh,by omega,by omega⟩]
   rw [e];obtain ⟨i,rfl⟩:=Int.eq_ofNat_of_zero_le (qbe hh).1;obtain ⟨q,rfl⟩:=Int.eq_ofNat_of_zero_le (by omega:0≤p);have hi:i<m.nb:=by have:=(qbe hh).2;omega
   have hq:q<m.np:=by omega
   have cd:=h.data.cell hi;have cp:=(h.page i hi).cell hq;have hpl:=hw.pg i q hi hq;have Hfl:=hidI (qhn (m.pg i q) hpl);clear h e h0 hh;simp only [id,Int.toNat_natCast] at cp ⊢
   generalize hX:txt (m.pg i q)=X at *
   go_enter Tryz.func132,Tryz.ntmps132
   go_wp2_with fail;refine Hhas.out.mono ?_;rintro e w1 ⟨rfl,rfl⟩;go_wp2_with fail;refine (Hfl.out _).mono ?_;rintro e w2 ⟨rfl,hb2⟩;go_wp2;go_ret2
   exact ⟨rfl,hb2⟩
def setP (m:M) (i p:Nat) (s:List UInt8):M:={ m with pg:=fun a b=>if a=i∧b=p then s else m.pg a b }
def setN (m:M) (i v:Nat):M:={ m with nx:=fun a=>if a=i then v else m.nx a }
def setB (m:M) (i:Nat) (v:Bool):M:={ m with bd:=fun a=>if a=i then v else m.bd a }
def mayP (m:M) (b p:Int) (s:List UInt8):Prop:=badB m b=false∧p=(m.nx b.toNat:Int)∧p<(m.np:Int)∧s.length=64
def tick (m:M):M:={ m with life:=(callF m.life m.fail).2.1,fail:=(callF m.life m.fail).2.2 }
def progF (m:M) (i p:Nat) (s:List UInt8):Bool × M:=
 if (callF m.life m.fail).1=0 then (true,setN (setP (tick m) i p s) i (p+1))
 else if (callF m.life m.fail).1=1 then (false,setN (setB (setP (tick m) i p (s.take m.part.toNat)) i true) i (p+1))
 else if (callF m.life m.fail).1=2 then (false,setN (setP (tick m) i p (s.take m.cut.toNat)) i (p+1))
 else (false,tick m)
theorem qj4 {m:M} (h:WF m):WF (tick m):=by
 have:=qjp m.life m.fail h.life1 h.life2 h.fail1 h.fail2
 exact ⟨h.nb1,h.nb2,h.np1,h.np2,h.nx,h.pg,this.2.2.1,this.2.2.2.1,this.2.2.2.2.1,this.2.2.2.2.2,h.cut1,h.cut2,h.part1,h.part2⟩
theorem qaZ (life fail:Int):(callF life fail).1=0∨(callF life fail).1=1∨(callF life fail).1=2∨(callF life fail).1=3:=by
 unfold callF
 repeat' split
 all_goals simp
theorem qeA {m:M} {b:Int} (h:badB m b=false):∃ i:Nat,b=(i:Int)∧i<m.nb∧m.bd i=false:=by
 unfold badB at h;rw [Bool.or_eq_false_iff] at h;have h1:=qbe (m:=m) (b:=b) (by simpa using h.1);obtain ⟨i,rfl⟩:=Int.eq_ofNat_of_zero_le h1.1;exact ⟨i,rfl,by omega,by simpa using h.2⟩
theorem qmT (w:World) (lo hi cb:Nat) (L:Loc) (m:M) (b p:Int) (s:List UInt8) (hs:s.length≤140737488351232) (h:CP w lo hi cb L m) (hm:¬mayP m b p s) :
 Calls Tryz.prog 242 #[.pointer (some ⟨cb,0,none⟩),.int .i64 b,.int .i64 p,.string (txt s)] w fun e w'=>e=.returned (.bool false)∧w'=w:=by
 have Hbad:=hidI (qdy w lo hi cb L m b h);have c0:=MemX.c0 h;have c2:=MemX.c2 h;have hsz:(txt s).size=s.length:=qaa s;cases hb:badB m b with
 | true =>
   rw [hb] at Hbad;clear h hm;go_enter Tryz.func242,Tryz.ntmps242
   go_wp2_with fail;refine Hbad.out.mono ?_;rintro e w1 ⟨rfl,rfl⟩;go_wp2;go_ret
   exact ⟨rfl,rfl⟩
 | false =>
   rw [hb] at Hbad;obtain ⟨i,rfl,hi',_⟩:=qeA hb;have cn:=h.next.cell hi';by_cases hp:p=(m.nx i:Int)
   ·have hd:(p != (m.nx i:Int))=false:=by rw [hp];simp
    by_cases hn:(m.np:Int)≤p
    ·have hd2:decide ((m.np:Int)≤p)=true:=by simpa using hn
     clear h hm hp;go_enter Tryz.func242,Tryz.ntmps242
     go_wp2_with fail;refine Hbad.out.mono ?_;rintro e w1 ⟨rfl,rfl⟩;go_wp2;go_ret
     exact ⟨rfl,rfl⟩
    have hd2:decide ((m.np:Int)≤p)=false:=by simpa using hn
    have hl:s.length≠64:=fun e=>hm ⟨hb,hp,by omega,e⟩
    have hd3:(((txt s).size:Int) != 64)=true:=by rw [hsz];simp;omega
    generalize txt s=t at *
    clear h hm hp;go_enter Tryz.func242,Tryz.ntmps242
    go_wp2_with fail;refine Hbad.out.mono ?_;rintro e w1 ⟨rfl,rfl⟩;go_wp2;go_ret
    exact ⟨rfl,rfl⟩
   have hd:(p != (m.nx i:Int))=true:=by simpa using hp
   clear h hm hp;go_enter Tryz.func242,Tryz.ntmps242
   go_wp2_with fail;refine Hbad.out.mono ?_;rintro e w1 ⟨rfl,rfl⟩;go_wp2;go_ret
   exact ⟨rfl,rfl⟩
theorem qkZ (w:World) (lo hi cb:Nat) (L:Loc) (m:M) (i q:Nat) (s:List UInt8) (hw:WF m) (hs:s.length=64) (h:CP w lo hi cb L m) (hb:badB m (i:Nat)=false) (hi':i<m.nb) (hq:q=m.nx i) (hqn:q<m.np) :
 Calls Tryz.prog 242 #[.pointer (some ⟨cb,0,none⟩),.int .i64 (i:Nat),.int .i64 (q:Nat),.string (txt s)] w fun e w'=>e=.returned (.bool (progF m i q s).1)∧CP w' lo hi cb L (progF m i q s).2∧Only lo hi w w':=by
 have Hbad:=hidI (qdy w lo hi cb L m (i:Nat) h);rw [hb] at Hbad;have Hcnt:=hidI (qbR w lo hi cb L m hw h);have c0:=MemX.c0 h;have c2:=MemX.c2 h;have cn:=h.next.cell hi';rw [←hq] at cn;have hsz:(txt s).size=64:=by rw [qaa];exact hs
 have htk:=fun n (hn:n≤64)=>(qae s 0 n:(txt s).extract 0 n=_)
 obtain ⟨t,ht⟩:∃ t,t=txt s:=⟨_,rfl⟩;have Ht:=hidI ht;rw [←ht] at hsz htk ⊢;have hd3:((t.size:Int) != 64)=false:=by rw [hsz];decide
 have ht1:t.size≤64:=by omega
 have ht2:64≤t.size:=by omega
 have Htk:=hidI htk;have hd:((q:Int) != (q:Int))=false:=by simp
 have hd2:decide ((m.np:Int)≤(q:Int))=false:=by simp;omega
 have hp1:=hw.part1;have hp2:=hw.part2;have hc1:=hw.cut1;have hc2:=hw.cut2;have Hq:=hidI hq;have hq16:q≤16:=by have:=hw.np2;omega
 clear ht htk hsz hb hq;rcases qaZ m.life m.fail with hk | hk | hk | hk
 ·have Hr:Hid (progF m i q s=(true,setN (setP (tick m) i q s) i (q+1))):=if_pos hk;rw [hk] at Hcnt;clear hk;go_enter Tryz.func242,Tryz.ntmps242
  go_wp2_with fail;refine Hbad.out.mono ?_;rintro e w1 ⟨rfl,rfl⟩;go_wp2_with fail;refine Hcnt.out.mono ?_;rintro e w2 ⟨rfl,hm2,ho2⟩;have d1:=MemX.c1 hm2;have d2:=MemX.c2 hm2;have dd:=hm2.data.cell hi';have dp:=(hm2.page i hi').cell hqn;have dz:=(hm2.page i hi').frozen q;have h3:CP (w2.setCell ⟨L.rw i,q,none⟩ (.string t)) lo hi cb L (setP (tick m) i q s):=by
   have:=MemX.setPage hm2 i q hi' hqn s
   rw [Ht.out];exact this
  have e2:=MemX.c2 h3;have en:=h3.next.cell hi';have ez:=h3.next.frozen i;have h4:CP ((w2.setCell ⟨L.rw i,q,none⟩ (.string t)).setCell ⟨L.nk,i,none⟩ (.int .i64 ((q+1:Nat):Int))) lo hi cb L (setN (setP (tick m) i q s) i (q+1)):=MemX.setNx h3 i (q+1);have ho4:Only lo hi w1 ((w2.setCell ⟨L.rw i,q,none⟩ (.string t)).setCell ⟨L.nk,i,none⟩ (.int .i64 ((q+1:Nat):Int))):=(ho2.set (h.hrw i hi') q _).set h.hnk i _;have en':(w2.setCell ⟨L.rw i,q,none⟩ (.string t)).cell? ⟨L.nk,i,none⟩=some (.int .i64 (q:Nat)):=by rw [en];show some (Value.int .i64 ((m.nx i:Nat):Int))=_;rw [←Hq.out]
  have H4:=hidI h4;have Ho4:=hidI ho4;clear h h3 hm2 ho2 h4 ho4 en cn c0 c2;simp only [id,tick,setP] at d1 d2 dd dp e2;rw [show ((q+1:Nat):Int)=(q:Int)+1 by omega] at H4 Ho4;go_wp2;go_ret
  refine ⟨qah (by rw [Hr.out]),?_,Ho4.out⟩;rw [Hr.out];exact H4.out
 ·have Hr:Hid (progF m i q s=(false,setN (setB (setP (tick m) i q (s.take m.part.toNat)) i true) i (q+1))):=by unfold progF;rw [hk];exact rfl
  rw [hk] at Hcnt;clear hk;go_enter Tryz.func242,Tryz.ntmps242
  go_wp2_with fail;refine Hbad.out.mono ?_;rintro e w1 ⟨rfl,rfl⟩;go_wp2_with fail;refine Hcnt.out.mono ?_;rintro e w2 ⟨rfl,hm2,ho2⟩;obtain ⟨pn,hpn⟩:∃ n:Nat,m.part=(n:Int):=Int.eq_ofNat_of_zero_le hp1;have hpn64:pn≤63:=by omega
  have d1:=MemX.c1 hm2;have d7:=MemX.c7 hm2;have dd:=hm2.data.cell hi';have dp:=(hm2.page i hi').cell hqn;have dz:=(hm2.page i hi').frozen q;have h3:CP (w2.setCell ⟨L.rw i,q,none⟩ (.string (t.extract 0 pn))) lo hi cb L (setP (tick m) i q (s.take pn)):=by
   have:=MemX.setPage hm2 i q hi' hqn (s.take pn)
   rw [Htk.out pn (by omega)];exact this
  have e3:=MemX.c3 h3;have eb:=h3.bad.cell hi';have ez:=h3.bad.frozen i;have h4:CP ((w2.setCell ⟨L.rw i,q,none⟩ (.string (t.extract 0 pn))).setCell ⟨L.bk,i,none⟩ (.bool true)) lo hi cb L (setB (setP (tick m) i q (s.take pn)) i true):=MemX.setBd h3 i true;have f2:=MemX.c2 h4;have fn:=h4.next.cell hi';have fz:=h4.next.frozen i;have h5:CP (((w2.setCell ⟨L.rw i,q,none⟩ (.string (t.extract 0 pn))).setCell ⟨L.bk,i,none⟩ (.bool true)).setCell ⟨L.nk,i,none⟩ (.int .i64 ((q+1:Nat):Int))) lo hi cb L (setN (setB (setP (tick m) i q (s.take pn)) i true) i (q+1)):=MemX.setNx h4 i (q+1);have ho5:Only lo hi w1 (((w2.setCell ⟨L.rw i,q,none⟩ (.string (t.extract 0 pn))).setCell ⟨L.bk,i,none⟩ (.bool true)).setCell ⟨L.nk,i,none⟩ (.int .i64 ((q+1:Nat):Int))):=((ho2.set (h.hrw i hi') q _).set h.hbk i _).set h.hnk i _
  have fn':((w2.setCell ⟨L.rw i,q,none⟩ (.string (t.extract 0 pn))).setCell ⟨L.bk,i,none⟩ (.bool true)).cell? ⟨L.nk,i,none⟩=some (.int .i64 (q:Nat)):=by rw [fn];show some (Value.int .i64 ((m.nx i:Nat):Int))=_;rw [←Hq.out]
  have H5:=hidI h5;have Ho5:=hidI ho5;have Hpn:=hidI hpn;clear h h3 hm2 ho2 h4 h5 ho5 fn cn c0 c2 hp1 hp2 hc1 hc2;simp only [id,tick,setP,setB] at d1 d7 dd dp e3 eb f2;rw [Hpn.out] at d7;rw [show ((q+1:Nat):Int)=(q:Int)+1 by omega] at H5 Ho5;have hile:(pn:Int)≤(t.size:Int):=by omega
  go_wp2;go_region;go_wp2;go_ret
  refine ⟨qah (by rw [Hr.out]),?_,Ho5.out.drew⟩;rw [Hr.out,Hpn.out];exact MemX.drew H5.out
 ·have Hr:Hid (progF m i q s=(false,setN (setP (tick m) i q (s.take m.cut.toNat)) i (q+1))):=by unfold progF;rw [hk];exact rfl
  rw [hk] at Hcnt;clear hk;go_enter Tryz.func242,Tryz.ntmps242
  go_wp2_with fail;refine Hbad.out.mono ?_;rintro e w1 ⟨rfl,rfl⟩;go_wp2_with fail;refine Hcnt.out.mono ?_;rintro e w2 ⟨rfl,hm2,ho2⟩;obtain ⟨pn,hpn⟩:∃ n:Nat,m.cut=(n:Int):=Int.eq_ofNat_of_zero_le hc1;have hpn64:pn≤63:=by omega
  have d1:=MemX.c1 hm2;have d5:=MemX.c5 hm2;have dd:=hm2.data.cell hi';have dp:=(hm2.page i hi').cell hqn;have dz:=(hm2.page i hi').frozen q;have h3:CP (w2.setCell ⟨L.rw i,q,none⟩ (.string (t.extract 0 pn))) lo hi cb L (setP (tick m) i q (s.take pn)):=by
   have:=MemX.setPage hm2 i q hi' hqn (s.take pn)
   rw [Htk.out pn (by omega)];exact this
  have f2:=MemX.c2 h3;have fn:=h3.next.cell hi';have fz:=h3.next.frozen i;have h5:CP ((w2.setCell ⟨L.rw i,q,none⟩ (.string (t.extract 0 pn))).setCell ⟨L.nk,i,none⟩ (.int .i64 ((q+1:Nat):Int))) lo hi cb L (setN (setP (tick m) i q (s.take pn)) i (q+1)):=MemX.setNx h3 i (q+1);have ho5:Only lo hi w1 ((w2.setCell ⟨L.rw i,q,none⟩ (.string (t.extract 0 pn))).setCell ⟨L.nk,i,none⟩ (.int .i64 ((q+1:Nat):Int))):=(ho2.set (h.hrw i hi') q _).set h.hnk i _;have fn':(w2.setCell ⟨L.rw i,q,none⟩ (.string (t.extract 0 pn))).cell? ⟨L.nk,i,none⟩=some (.int .i64 (q:Nat)):=by rw [fn];show some (Value.int .i64 ((m.nx i:Nat):Int))=_;rw [←Hq.out]
  have H5:=hidI h5;have Ho5:=hidI ho5;have Hpn:=hidI hpn;clear h h3 hm2 ho2 h5 ho5 fn cn c0 c2 hp1 hp2 hc1 hc2;simp only [id,tick,setP] at d1 d5 dd dp f2;rw [Hpn.out] at d5;rw [show ((q+1:Nat):Int)=(q:Int)+1 by omega] at H5 Ho5;have hile:(pn:Int)≤(t.size:Int):=by omega
  go_wp2;go_region;go_wp2;go_ret
  refine ⟨qah (by rw [Hr.out]),?_,Ho5.out.drew⟩;rw [Hr.out,Hpn.out];exact MemX.drew H5.out
 have Hr:Hid (progF m i q s=(false,tick m)):=by unfold progF;rw [hk];exact rfl
 rw [hk] at Hcnt;clear hk;go_enter Tryz.func242,Tryz.ntmps242
 go_wp2_with fail;refine Hbad.out.mono ?_;rintro e w1 ⟨rfl,rfl⟩;go_wp2_with fail;refine Hcnt.out.mono ?_;rintro e w2 ⟨rfl,hm2,ho2⟩;have H2:=hidI hm2;clear hm2 h;go_wp2;go_ret
 refine ⟨qah (by rw [Hr.out]),?_,ho2⟩;rw [Hr.out];exact H2.out
def setE (m:M) (i n:Nat):M:={ m with pg:=fun a b=>if a=i∧b<n then [] else m.pg a b }
theorem qe0 (m:M) (i:Nat):setE m i 0=m:=by
 unfold setE
 have:(fun a b=>if a=i∧b<0 then [] else m.pg a b)=m.pg:=by
  funext a b;rw [if_neg (by omega)]
 rw [this]
theorem qeQ (m:M) (i k:Nat):setP (setE m i k) i k []=setE m i (k+1):=by
 unfold setP setE
 have:(fun a b=>if a=i∧b=k then [] else if a=i∧b<k then [] else m.pg a b)=(fun a b=>if a=i∧b<k+1 then [] else m.pg a b):=by
  funext a b
  by_cases e:a=i
  ·by_cases e2:b=k
   ·rw [if_pos ⟨e,e2⟩,if_pos ⟨e,by omega⟩]
   rw [if_neg (fun h=>e2 h.2)];by_cases e3:b<k
   ·rw [if_pos ⟨e,e3⟩,if_pos ⟨e,by omega⟩]
   rw [if_neg (fun h=>e3 h.2),if_neg (fun h=>e3 (by omega))]
  rw [if_neg (fun h=>e h.1),if_neg (fun h=>e h.1),if_neg (fun h=>e h.1)]
 show ({ m with pg:=_ }:M)=_;rw [←this]
theorem qhv (m:M) (i a b:Nat):setN (setN m i a) i b=setN m i b:=by
 unfold setN
 have:(fun x=>if x=i then b else if x=i then a else m.nx x)=fun x=>if x=i then b else m.nx x:=by
  funext x
  by_cases e:x=i
  ·rw [if_pos e,if_pos e]
  rw [if_neg e,if_neg e,if_neg e]
 show ({ m with nx:=_ }:M)=_;rw [←this]
def eraF (m:M) (i:Nat):Bool × M:=
 if (callF m.life m.fail).1=0 then (true,setN (setE (tick m) i m.np) i 0)
 else if (callF m.life m.fail).1=1 then (false,setB (tick m) i true)
 else if (callF m.life m.fail).1=2 then (false,setN (setE (tick m) i (m.cut.toNat%m.np)) i m.np)
 else (false,tick m)
theorem qiL:txt []={ data:=#[] }:=rfl
theorem qmC (w:World) (lo hi cb:Nat) (L:Loc) (m:M) (i:Nat) (hw:WF m) (h:CP w lo hi cb L m) (hb:badB m (i:Nat)=false) (hi':i<m.nb) (hsz':hi≤w.heap.size) :
 Calls Tryz.prog 125 #[.pointer (some ⟨cb,0,none⟩),.int .i64 (i:Nat)] w fun e w'=>e=.returned (.bool (eraF m i).1)∧CP w' lo hi cb L (eraF m i).2∧Only lo hi w w':=by
 have Hbad:=hidI (qdy w lo hi cb L m (i:Nat) h);rw [hb] at Hbad;have Hcnt:=hidI (qbR w lo hi cb L m hw h);have hc1:=hw.cut1;have hc2:=hw.cut2;have hp1:=hw.np1;have hp2:=hw.np2;have Hh:=hidI h;clear hb h;rcases qaZ m.life m.fail with hk | hk | hk | hk
 ·have Hr:Hid (eraF m i=(true,setN (setE (tick m) i m.np) i 0)):=if_pos hk;rw [hk] at Hcnt;clear hk;go_enter Tryz.func125,Tryz.ntmps125
  go_wp2_with fail;refine Hbad.out.mono ?_;rintro e w1 ⟨rfl,rfl⟩;go_wp2_with fail;refine Hcnt.out.mono ?_;rintro e w2 ⟨rfl,hm2,ho2⟩;have hs2:=ho2.size;have hsh:hi≤w2.heap.size:=Nat.le_trans hsz' hs2;have d0:=MemX.c0 hm2;have Hm2:=hidI hm2;clear hm2;simp only [tick] at d0;go_wp2
  go_loopw [7] (fun j wr=>∃ k:Nat,k≤m.np∧j=.int .i64 k∧CP wr lo hi cb L (setE (tick m) i k)∧Only lo hi w1 wr) (fun j _=>m.np - (intOf j).toNat)
  case atStart=>exact ⟨0,by omega,rfl,by rw [qe0];exact Hm2.out,ho2⟩
  clear ho2;obtain ⟨k,hk,rfl,hmr,hor⟩:=hrel;by_cases hlt:k<m.np
  ·have d1:=MemX.c1 hmr;have dd:=hmr.data.cell hi';have dp:=(hmr.page i hi').cell (show k<m.np by omega);have dz:=(hmr.page i hi').frozen k;have hkn:k<m.np:=by omega
   have hnx:CP (wr.setCell ⟨L.rw i,k,none⟩ (.string (txt (id [])))) lo hi cb L (setE (tick m) i (k+1)):=by
    have:=MemX.setPage hmr i k hi' (by omega:k<m.np) []
    rw [←qeQ];exact this
   have hon:=hor.set (Hh.out.hrw i hi') k (.string (txt (id [])));have Hnx:=hidI hnx;have Hon:=hidI hon;clear hmr hor hnx hon;simp only [setE,tick] at d1 dd dp
   try rw [qiL] at Hnx Hon
   go_wp2;go_roundw
   case rel=>exact ⟨k+1,by omega,by go_num,Hnx.out,Hon.out⟩
   case measure=>simp [intOf];omega
  have hke:m.np=k:=by omega
  subst hke;have d2:=MemX.c2 hmr;have dn:=hmr.next.cell hi';have df:=hmr.next.frozen i;have h3:CP (wr.setCell ⟨L.nk,i,none⟩ (.int .i64 ((0:Nat):Int))) lo hi cb L (setN (setE (tick m) i m.np) i 0):=MemX.setNx hmr i 0;have ho3:=hor.set Hh.out.hnk i (.int .i64 ((0:Nat):Int));have H3:=hidI h3;have Ho3:=hidI ho3;clear h3 ho3 hmr hor;simp only [setE,tick] at d2 dn;rw [show ((0:Nat):Int)=0 from rfl] at H3 Ho3;go_wp2;go_ret
  refine ⟨qah (by rw [Hr.out]),?_,Ho3.out⟩;rw [Hr.out];exact H3.out
 ·have Hr:Hid (eraF m i=(false,setB (tick m) i true)):=by unfold eraF;rw [hk];exact rfl
  rw [hk] at Hcnt;clear hk;go_enter Tryz.func125,Tryz.ntmps125
  go_wp2_with fail;refine Hbad.out.mono ?_;rintro e w1 ⟨rfl,rfl⟩;go_wp2_with fail;refine Hcnt.out.mono ?_;rintro e w2 ⟨rfl,hm2,ho2⟩;have hs2:=ho2.size;have hsh:hi≤w2.heap.size:=Nat.le_trans hsz' hs2;have d0:=MemX.c0 hm2;have Hm2:=hidI hm2;clear hm2;simp only [tick] at d0;have d3:=MemX.c3 Hm2.out;have db:=Hm2.out.bad.cell hi';have df:=Hm2.out.bad.frozen i;have H3:=hidI (MemX.setBd Hm2.out i true);have Ho3:=hidI (ho2.set Hh.out.hbk i (.bool true));clear ho2;simp only [tick] at d3 db;go_wp2;go_ret
  refine ⟨qah (by rw [Hr.out]),?_,Ho3.out⟩;rw [Hr.out];exact H3.out
 ·have Hr:Hid (eraF m i=(false,setN (setE (tick m) i (m.cut.toNat%m.np)) i m.np)):=by unfold eraF;rw [hk];exact rfl
  rw [hk] at Hcnt;clear hk;go_enter Tryz.func125,Tryz.ntmps125
  go_wp2_with fail;refine Hbad.out.mono ?_;rintro e w1 ⟨rfl,rfl⟩;go_wp2_with fail;refine Hcnt.out.mono ?_;rintro e w2 ⟨rfl,hm2,ho2⟩;have hs2:=ho2.size;have hsh:hi≤w2.heap.size:=Nat.le_trans hsz' hs2;have d0:=MemX.c0 hm2;have Hm2:=hidI hm2;clear hm2;simp only [tick] at d0;obtain ⟨cn,hcn⟩:∃ n:Nat,m.cut=(n:Int):=Int.eq_ofNat_of_zero_le hc1;have d5:=MemX.c5 Hm2.out;simp only [tick] at d5;rw [hcn] at d5 Hr;simp only [Int.toNat_natCast] at Hr;clear hc1 hc2;have hnp0:(m.np:Int)≠0:=by omega
  have hnpb:((m.np:Int)==0)=false:=by simp;omega
  have hlt:cn%m.np<m.np:=Nat.mod_lt _ (by omega);have Hrem:Hid ((cn:Int)%(m.np:Int)=((cn%m.np:Nat):Int)):=rfl;have Hcn:=hidI hcn;clear hcn;go_wp2;go_region;go_wp2;rw [Hrem.out]
  generalize hN:cn%m.np=N at *
  have HN:=hidI hN;clear hN;have Hm3:=hidI (MemX.drew Hm2.out);have ho3:=ho2.drew;clear Hm2 ho2
  go_loopw [7] (fun j wr=>∃ k:Nat,k≤N∧j=.int .i64 k∧CP wr lo hi cb L (setE (tick m) i k)∧Only lo hi w1 wr) (fun j _=>N - (intOf j).toNat)
  case atStart=>exact ⟨0,by omega,rfl,by rw [qe0];exact Hm3.out,ho3⟩
  clear ho3;obtain ⟨k,hk,rfl,hmr,hor⟩:=hrel;by_cases hlt:k<N
  ·have d1:=MemX.c1 hmr;have dd:=hmr.data.cell hi';have dp:=(hmr.page i hi').cell (show k<m.np by omega);have dz:=(hmr.page i hi').frozen k;have hkn:k<m.np:=by omega
   have hnx:CP (wr.setCell ⟨L.rw i,k,none⟩ (.string (txt (id [])))) lo hi cb L (setE (tick m) i (k+1)):=by
    have:=MemX.setPage hmr i k hi' (by omega:k<m.np) []
    rw [←qeQ];exact this
   have hon:=hor.set (Hh.out.hrw i hi') k (.string (txt (id [])));have Hnx:=hidI hnx;have Hon:=hidI hon;clear hmr hor hnx hon;simp only [setE,tick] at d1 dd dp
   try rw [qiL] at Hnx Hon
   go_wp2;go_roundw
   case rel=>exact ⟨k+1,by omega,by go_num,Hnx.out,Hon.out⟩
   case measure=>simp [intOf];omega
  have hke:N=k:=by omega
  subst hke;have d2:=MemX.c2 hmr;have dn:=hmr.next.cell hi';have df:=hmr.next.frozen i;have h3:CP (wr.setCell ⟨L.nk,i,none⟩ (.int .i64 ((0:Nat):Int))) lo hi cb L (setN (setE (tick m) i N) i 0):=MemX.setNx hmr i 0;have ho3:=hor.set Hh.out.hnk i (.int .i64 ((0:Nat):Int));have z2:=MemX.c2 h3;have z0:=MemX.c0 h3;have zn:=h3.next.cell hi';have zf:=h3.next.frozen i;have h4:=MemX.setNx h3 i m.np;have ho4:=ho3.set Hh.out.hnk i (.int .i64 ((m.np:Nat):Int));have H4:=hidI h4;have Ho4:=hidI ho4;clear h3 ho3 hmr hor h4 ho4;simp only [setE,setN,tick] at d2 dn z0 z2 zn;rw [show ((0:Nat):Int)=0 from rfl] at H4 Ho4 z2 z0 zn zf;go_wp2;go_region;go_wp2;go_ret
  refine ⟨qah (by rw [Hr.out]),?_,Ho4.out.drew⟩;rw [Hr.out,←qhv _ i 0 m.np];exact MemX.drew H4.out
 have Hr:Hid (eraF m i=(false,tick m)):=by unfold eraF;rw [hk];exact rfl
 rw [hk] at Hcnt;clear hk;go_enter Tryz.func125,Tryz.ntmps125
 go_wp2_with fail;refine Hbad.out.mono ?_;rintro e w1 ⟨rfl,rfl⟩;go_wp2_with fail;refine Hcnt.out.mono ?_;rintro e w2 ⟨rfl,hm2,ho2⟩;have hs2:=ho2.size;have hsh:hi≤w2.heap.size:=Nat.le_trans hsz' hs2;have d0:=MemX.c0 hm2;have Hm2:=hidI hm2;clear hm2;simp only [tick] at d0;go_wp2;go_ret
 refine ⟨qah (by rw [Hr.out]),?_,ho2⟩;rw [Hr.out];exact Hm2.out
end Go.Proofs.YtodmdkhdbfbfgaaGreatDoor.S1
