/- Lemmas. -/
import Derived.Lib.BufferWrite
import Derived.Deep.RegionWith
import Derived.Test.YtodmdkhdbfbfgaaGreatDoorM00
set_option linter.unusedVariables false
set_option linter.unusedSimpArgs false
set_option maxRecDepth 100000
set_option maxHeartbeats 8000000
open Go.Proofs.Tryz
abbrev Go.Co:=@Go.World.rowIs_made
abbrev Go.Cz:=@Go.run_make_row'
namespace Go.Proofs.YtodmdkhdbfbfgaaGreatDoor.S1
open Go.RowKit Pk
variable {s:D8} {z:Nat->Int} {R:Option (D8 × Nat)} {i:Nat}
theorem NL{B:Nat}{w w':D7}{q:Nat}(h:Below B (w.drewN q) w'):Below B w w':=(below_drewN (AM _ _) q).trans h
def GO(s:D8)(z:Nat->Int)(size:Nat)(R:Option (D8 × Nat))(out:D8)(pos:Nat):Prop:=
 out.length<=size/\pos<=8*s.length/\∃f,size<=out.length+f/\EX s z 288 size f out pos=R
theorem jJ{size:Nat}{out:D8}{pos:Nat}(h:GO s z size R out pos)(hl:out.length<size)(hs:Gw s z pos 288=none):R=none:=by
 obtain⟨_,_,f,hf,hR⟩:=h;rw[<-hR,kN s z 288 size f out pos hl hs]
theorem fe{size:Nat}{out:D8}{pos:Nat}(h:GO s z size R out pos)(hl:out.length<size)(hh:hit s z pos i=true)(hi:i<256) :
 GO s z size R (out++[UInt8.ofNat i]) (pos+(z i).toNat):=by
 obtain⟨_,_,f,hf,hR⟩:=h;obtain⟨g,rfl⟩:∃g,f=g+1:=⟨f - 1,by omega⟩;have h2:=(Ob s z pos i).1 hh;refine⟨by simp;omega,h2.2.1,g,by simp;omega,?_⟩;rw[<-hR,Wh s z 288 size g out pos i hl (Rl s z pos i (by omega) hh) hi]
theorem nF{size:Nat}{out:D8}{pos:Nat}(h:GO s z size R out pos)(hl:out.length<size)(hi8:i<288)(hh:hit s z pos i=true)(hi:¬i<256)
 (h2:8*s.length<pos+(z i).toNat+12):R=none:=by
 obtain⟨_,_,f,hf,hR⟩:=h;obtain⟨g,rfl⟩:∃g,f=g+1:=⟨f - 1,by omega⟩;rw[<-hR,nh s z 288 size g out pos i hl (Rl s z pos i hi8 hh) hi h2]
theorem ou{size:Nat}{out:D8}{pos:Nat}(h:GO s z size R out pos)(hl:out.length<size)(hi8:i<288)(hh:hit s z pos i=true)(hi:¬i<256)
 (h2:¬8*s.length<pos+(z i).toNat+12) (h3:out.length<val s (pos+(z i).toNat) 12+1\/size<out.length+(i - 253)):R=none:=by
 obtain⟨_,_,f,hf,hR⟩:=h;obtain⟨g,rfl⟩:∃g,f=g+1:=⟨f - 1,by omega⟩;rw[<-hR,j7 s z 288 size g out pos i hl (Rl s z pos i hi8 hh) hi h2 h3]
theorem qg{size:Nat}{out:D8}{pos:Nat}(h:GO s z size R out pos)(hl:out.length<size)(hi8:i<288)(hh:hit s z pos i=true)(hi:¬i<256)
 (h2:¬8*s.length<pos+(z i).toNat+12) (h3:¬(out.length<val s (pos+(z i).toNat) 12+1\/size<out.length+(i - 253))) :
 GO s z size R (Li out (val s (pos+(z i).toNat) 12+1) (i - 253)) (pos+(z i).toNat+12):=by
 obtain⟨_,_,f,hf,hR⟩:=h;obtain⟨g,rfl⟩:∃g,f=g+1:=⟨f - 1,by omega⟩;refine⟨by rw[Tp];omega,by omega,g,by rw[Tp];omega,?_⟩;rw[<-hR,Yb s z 288 size g out pos i hl (Rl s z pos i hi8 hh) hi h2 h3]
theorem fq{size:Nat}{out:D8}{pos:Nat}(h:GO s z size R out pos)(hl:¬out.length<size):R=some (out,pos):=by
 obtain⟨_,_,f,hf,hR⟩:=h;rw[<-hR,Xw s z 288 size f out pos (by omega)]
theorem nu(i:Nat)(h:i<256):(UInt8.ofNat i).toNat=i:=by simp[Bw];omega
variable {w a b:D7} {rb:Nat} {s:D8}
theorem Wi(x y:Int)(hx0:0<=x)(hx1:x<4611686018427387904)(hy0:0<=y)(hy1:y<2)(hx:x%2=0):bits .or .i64 x y=x+y:=
 bits_join .i64 62 (by decide) (λn h0 h1=>by rw[Av];omega) 1 x y hx0 (by simpa using hx) (by omega) hy0 (by omega) (by omega)
theorem sP(x:Int)(h0:0<=x)(h1:x<256):bits .and .u8 x 1=x%2:=bits_mask .u8 8 (by decide) wraps_u8 1 (by decide) x h0 h1
def Rd(w:D7)(rb:Nat)(s:D8)(pos:Nat):Prop:=w.heap[rb]? = some (.cells #[.string (D9 s),.int .i64 pos] 295 (0,0))
theorem Rd.cell0{pos:Nat}(h:Rd w rb s pos):w.cell? ⟨rb,0,none⟩=some (.string (D9 s)):=by
 rw[AG w rb 0 _ 295 (0,0) h];rfl
theorem Rd.cell1{pos:Nat}(h:Rd w rb s pos):w.cell? ⟨rb,1,none⟩=some (.int .i64 pos):=by
 rw[AG w rb 1 _ 295 (0,0) h];rfl
theorem Rd.O3{pos:Nat}(h:Rd w rb s pos):w.frozen? ⟨rb,1,none⟩=false:=Al w rb 1 _ 295 h
theorem Rd.drewN{pos:Nat}(h:Rd w rb s pos)(q:Nat):Rd (w.drewN q) rb s pos:=by unfold Rd at *;simpa using h
theorem Rd.put{pos:Nat}(h:Rd w rb s pos)(p:Nat):Rd (w.setCell ⟨rb,1,none⟩ (.int .i64 p)) rb s p:=by
 unfold Rd at *
 have:=AK w rb 1 _ 295 (.int .i64 p) h
 simpa using this
theorem Rd.lt{pos:Nat}(h:Rd w rb s pos):rb<w.heap.size:=lt_of_heap h
theorem Mk{c:D7}{row:Option Nat}(h:a.grownBy b row)(k:b.grownBy c row):a.grownBy c row:=
 ⟨k.os.trans h.os,k.tape.trans h.tape,k.output.trans h.output,AF h.size k.size,λi hi hr=>(k.block i (AR hi h.size) hr).trans (h.block i hi hr)⟩
theorem oR{g o:Nat}(h:a.grownBy b (some g))(v:Value):a.grownBy (b.setCell ⟨g,o,none⟩ v) (some g):=
 Mk h ⟨rfl,rfl,rfl,by simp,λk _ hk=>AH b ⟨g,o,none⟩ v k (λe=>hk (by simp[e]))⟩
theorem Ou(w:D7)(q:Nat)(row:Option Nat):w.grownBy (w.drewN q) row:=⟨rfl,rfl,rfl,AB _,λ_ _ _=>rfl⟩
theorem RL(rb:Nat)(s:D8)(pos:Nat)(w:D7)(hs:s.length<=140737488351232)(hp:pos<=8*s.length)(hr:Rd w rb s pos) :
 Calls prog 295 #[.pointer (some ⟨rb,0,none⟩)] w λe w'=>e=.returned (.int .i64 (8*s.length - pos:Nat))/\∃q,w'=w.drewN q:=by
 have h0:=hr.cell0;have h1:=hr.cell1;have a0:(D9 s).size=s.length:=Dd s;obtain⟨t,ht⟩:=Jq (D9 s);rw[<-ht]at h0 a0;have a2:t.size<=s.length:=by omega
 have a1:s.length<=t.size:=by omega
 have Hs:=Jy a0;clear ht a0;go_enter func295,ntmps295
 go_wp2
 go_quiet (fail)
 go_wp2;go_ret
 exact⟨KH (by rw[Hs.o];omega),_,rfl⟩
theorem TX(rb:Nat)(s:D8)(pos d:Nat)(w:D7)(hs:s.length<=140737488351232)(hp:pos<=8*s.length)(hr:Rd w rb s pos)(hd:d<=12)(h:8*s.length<pos+d) :
 Calls prog 293 #[.pointer (some ⟨rb,0,none⟩),.int .i64 d] w λe w'=>e=.returned (.tuple #[.int .i64 0,.bool false])/\∃q,w'=w.drewN q:=by
 go_enter func293,ntmps293
 go_wp2_with (go_at_call 295;refine(RL rb s pos _ hs hp hr).mono ?_;rintro e w' ⟨rfl,q,rfl⟩);go_ret2
 exact⟨rfl,_,rfl⟩
theorem Rx(rb:Nat)(s:D8)(pos d:Nat)(w:D7)(hs:s.length<=140737488351232)(hr:Rd w rb s pos)(hd:d<=12)(h:pos+d<=8*s.length) :
 Calls prog 293 #[.pointer (some ⟨rb,0,none⟩),.int .i64 d] w λe w'=>e=.returned (.tuple #[.int .i64 (val s pos d:Nat),.bool true])/\Rd w' rb s (pos+d)/\w.grownBy w' (some rb):=by
 have a6:(D9 s).size=s.length:=Dd s;have a2:∀k (h:k<(D9 s).size),((D9 s)[k]'h).toNat=(s.getD k 0).toNat:=λk h=>by rw[MP]
 go_enter func293,ntmps293
 go_wp2_with (go_at_call 295;refine(RL rb s pos _ hs (by omega) hr).mono ?_;rintro e w' ⟨rfl,q,rfl⟩)
 go_loopw [6,13] (λv i wr=>∃k P:Nat,k<=d/\P<=pos+k/\pos+k<=P/\i=.int .i64 k/\v=.int .i64 (val s pos k:Nat)/\Rd wr rb s P/\w.grownBy wr (some rb)) (λ_ i _=>d - (intOf i).toNat)
 case atStart =>
  refine⟨0,pos,by omega,by omega,by omega,rfl,rfl,hr.drewN _,?_⟩;exact Ou _ _ _
 case round =>
  obtain⟨k,P,hk,ac,ah,rfl,rfl,a0,hg⟩:=hrel;by_cases af:k<d
  ·have h0:=a0.cell0;have h1:=a0.cell1;have hf:=a0.O3;have a3:=λq=>(a0.drewN q).put (P+1)
   obtain⟨t,ht⟩:=Jq (D9 s);rw[<-ht]at h0 a2 a6;have hidx:P/8<t.size:=by omega
   obtain⟨m,hm⟩:=Jq ((s.getD (P/8) 0).toNat);have hx:(t[P/8]'hidx).toNat=m:=by rw[hm,a2]
   have a5:m<256:=by rw[hm];exact(s.getD (P/8) 0).toNat_lt
   have ag:(0:Int)<=(P:Int)/8:=by omega
   have aj:(P:Int)/8<(t.size:Int):=by omega
   have ad:t.size<=140737488351232:=by omega
   have hv:val s pos k<4096:=AR (Qb s pos k) (BD (by omega) (by omega:k<=12));have Hm:=Jy hm;clear hm ht a2 a6
   generalize hvv:val s pos k=vv at *
   have aa:=Jy hvv;clear hvv;obtain⟨bb,a1⟩:∃b,b=bt s P:=⟨_,rfl⟩;have ai:bb<2:=by rw[a1];exact TM s P
   have a8:bits BinOp.and IntKind.u8 ((m:Int)/2^(7 - P%8)) 1=(bb:Int):=by
    have e1:((m:Int)/2^(7 - P%8))=((m/2^(7 - P%8):Nat):Int):=by simp
    have e2:m/2^(7 - P%8)<=m:=Nat.div_le_self _ _;have e3:bb=m/2^(7 - P%8)%2:=by rw[a1];unfold bt;rw[<-Hm.o]
    rw[e1]
    generalize m/2^(7 - P%8)=mq at *
    rw[sP _ (by omega) (by omega),e3];omega
   have ae:bits BinOp.or IntKind.i64 ((vv:Int)*2) (bb:Int)=((2*vv+bb:Nat):Int):=by
    rw[Wi _ _ (by omega) (by omega) (by omega) (by omega) (by omega)];omega
   have a9:=Jy a1;clear a1;go_wp2
   go_quiet (fail)
   go_wp2;go_roundw
   case rel =>
    refine⟨k+1,P+1,by omega,by omega,by omega,by go_num,?_,a3 _,?_⟩
    ·rw[Me,aa.o,show pos+k=P by omega,<-a9.o];go_num
    exact oR (Mk hg (Ou _ _ _)) _
   case measure=>simp[intOf];omega
  have a7:k=d:=by omega
  have a4:P=pos+d:=by omega
  have HP:=Jy a4;subst a7;clear a4;go_wp2;go_ret2
  exact⟨rfl,HP.o ▸ a0,hg⟩
theorem Xs(rb:Nat)(s:D8)(pos:Nat)(w:D7)(hs:s.length<=140737488351232)(hr:Rd w rb s pos)(hp:pos<=8*s.length)(h8:8*s.length - pos<8) :
 Calls prog 262 #[.pointer (some ⟨rb,0,none⟩)] w λe w'=>e=.returned (.bool (decide (val s pos (8*s.length - pos)=0)))/\w.grownBy w' (some rb):=by
 go_enter func262,ntmps262
 go_wp2_with fail;refine(RL rb s pos _ hs hp hr).mono ?_;rintro e w1 ⟨rfl,q1,rfl⟩;have a1:=hr.drewN q1
 generalize hl:8*s.length - pos=l at *
 have Hl:=Jy hl;have a3:pos+l<=8*s.length:=by omega
 have a4:l<=8*s.length - pos:=by omega
 clear hl;go_wp2_with fail;refine(RL rb s pos _ hs hp a1).mono ?_;rintro e w2 ⟨rfl,q2,rfl⟩;rw[Hl.o];have a2:=hr.drewN (q1+q2);go_wp2_with fail;refine(Rx rb s pos l _ hs a2 (by omega) a3).mono ?_;rintro e w3 ⟨rfl,_,hg⟩;have a0:w.grownBy w3 (some rb):=Mk (Ou _ _ _) hg;by_cases hv:val s pos l=0
 ·have Hd:Hid (true=decide (val s pos l=0)):=(by simpa using hv:true=decide (val s pos l=0));rw[hv];go_wp2;go_ret
  exact⟨Ir (by rw[Hl.o];exact Hd.o),a0⟩
 have a5:((val s pos l:Int)==0)=false:=by simp;omega
 have Hd:Hid (false=decide (val s pos l=0)):=(by simpa using hv:false=decide (val s pos l=0));go_wp2;go_ret
 exact⟨Ir (by rw[Hl.o];exact Hd.o),a0⟩
theorem p7(rb:Nat)(s:D8)(pos:Nat)(w:D7)(hs:s.length<=140737488351232)(hr:Rd w rb s pos)(hp:pos<=8*s.length)(h8:¬8*s.length - pos<8) :
 Calls prog 262 #[.pointer (some ⟨rb,0,none⟩)] w λe w'=>e=.returned (.bool false)/\w.grownBy w' (some rb):=by
 go_enter func262,ntmps262
 go_wp2_with fail;refine(RL rb s pos _ hs hp hr).mono ?_;rintro e w1 ⟨rfl,q1,rfl⟩;go_wp2;go_ret
 exact⟨rfl,Ou _ _ _⟩
def KF(n lo hi:Int):Int:=if n<lo then lo else if hi<n then hi else n
theorem Oj(n lo hi:Int)(h:lo<=hi):lo<=KF n lo hi/\KF n lo hi<=hi:=by unfold KF;split<;>(try split)<;>omega
theorem TP(n lo hi:Int)(h:lo<=hi)(w:D7):Calls prog 36 #[.int .i64 n,.int .i64 lo,.int .i64 hi] w λe w'=>e=.returned (.int .i64 (KF n lo hi))/\w'=w:=by
 by_cases h1:n<lo
 ·have Hb:Hid (KF n lo hi=lo):=AE h1;go_enter func36,ntmps36
  go_wp2
  all_goals go_ret
  all_goals exact⟨KH (by rw[Hb.o]<;>omega),rfl⟩
 by_cases h2:hi<n
 ·have Hb:Hid (KF n lo hi=hi):=by unfold KF;rw[AC h1,AE h2];exact rfl
  go_enter func36,ntmps36
  go_wp2
  all_goals go_ret
  all_goals exact⟨KH (by rw[Hb.o]<;>omega),rfl⟩
 have Hb:Hid (KF n lo hi=n):=by unfold KF;rw[AC h1,AC h2];exact rfl
 go_enter func36,ntmps36
 go_wp2
 all_goals go_ret
 all_goals exact⟨KH (by rw[Hb.o]<;>omega),rfl⟩
def Mp(n:Int):Int:=if n<0 then(-(n+1))%64 else n%64
theorem ZD(n:Int):0<=Mp n/\Mp n<=63:=by unfold Mp;split<;>omega
theorem oc(n:Int)(h:n<0):-((n+1).tmod 64)=(-(n+1))%64:=by
 rw[<-Int.neg_tmod,Int.tmod_eq_emod_of_nonneg (by omega)]
theorem ZI(n:Int)(h1:-9223372036854775808<=n)(h2:n<=9223372036854775807)(w:D7):Calls prog 53 #[.int .i64 n] w λe w'=>e=.returned (.int .i64 (Mp n))/\w'=w:=by
 by_cases hn:n<0
 ·have Hp:Hid (Mp n=(-(n+1))%64):=AE hn;have Hm:=Jy (oc n hn);go_enter func53,ntmps53
  go_wp2;go_ret
  exact⟨KH (by rw[Hp.o];first | exact Hm.o | rfl),rfl⟩
 have Hp:Hid (Mp n=n%64):=AC hn;go_enter func53,ntmps53
 go_wp2;go_ret
 exact⟨KH (by rw[Hp.o]),rfl⟩
theorem P5:∃M:Array Value,(∀W:D7,(Instr.makeSlice 111 (.int .i64 64) (.int .i64 64)).run prog W=.ok (.slice (some ⟨W.heap.size,0,none⟩) 64 64) (W.alloc (.cells M 5)))/\∀W:D7,(W.alloc (.cells M 5)).rowIs W.heap.size 5 64 (λ_=>.int .u8 0):=
 ⟨madeCells #[Value.int .u8 0] 64,λW=>Cz (P:=prog) 111 5 (.int .u8 0) 1 underlying111 Fz rfl .i64 .i64 64 (by omega) (by omega) W,λW=>Co W (.int .u8 0) 64 5⟩
theorem gE{w:D7}{b n c:Nat}{l:D8}(h:w.rowIs b 5 n (λj=>.int .u8 ((l.getD j 0).toNat:Nat)))(hl:l.length=n):(convert 111 9 (.slice (some ⟨b,0,none⟩) n c)).run prog w=.ok (.string (D9 l)) w:=by
 have hc:=run_convert_bytes_arg (P:=prog) w 111 5 underlying111 underlying5 b 0 n c (l.map λb=>(b.toNat:Int)) (by simpa using hl) (λi hi=>by
  rw[Ao,h.cell hi]
  have:i<l.length:=by omega
  simp[List.getD,this]) 9 underlying9
 rw[strOfNums_bytes]at hc;exact hc
theorem su(l:D8)(h:l.length<=64):(pad l).length=64:=by unfold pad;simp;omega
theorem jc(l:D8)(h:l.length<=64)(j:Nat)(hj:j<64):(pad l).getD j 0=if j<l.length then l.getD j 0 else 255:=by
 unfold pad;simp only[List.getD];by_cases e:j<l.length
 ·rw[AE e,Ax e]
 rw[AC e,Ad (by omega)]
 have:j - l.length<64 - l.length:=by omega
 simp[this]
theorem jj{w:D7}{g:Nat}{cur:Array Value}{t:TypeId}{Y:Array Value}{f:Nat->Value}{n:Nat}(hg:w.heap[g]? = some (.cells cur t (0,0)))(hn:Y.size=n)(hY:∀i,i<n->Y[i]? = some (f i)):(w.setRow g Y).rowIs g t n f:=
 ⟨Y,setRow_heap w g cur Y t (0,0) hg,hn,hY⟩
theorem sU(s:D8)(hs:s.length<=64)(w:D7) :
 Calls prog 196 #[.string (D9 s)] w λe w'=>e=.returned (.string (D9 (pad s)))/\Below w.heap.size w w':=by
 obtain⟨M,aj,hM⟩:=P5;have h0:=hM w;have ac:Below w.heap.size w (w.alloc (.cells M 5)):=(AM _ _).alloc (AB _) _;clear hM;have a2:(prog.info? 5).map (·.size)=some 1:=by kernel_rfl
 have a4:(D9 s).size=s.length:=Dd s;have a6:(D9 s).data.toList=s:=rfl;obtain⟨t,ht⟩:=Jq (D9 s);rw[<-ht]at a4 a6 ⊢;have am:t.size<=64:=by omega
 have aa:=Jy a4;have a9:=Jy a6;obtain⟨x,hx⟩:=Jq (D9 (pad s));have Hx:=Jy hx;rw[<-hx];clear hx ht a4 a6;go_enter func196,ntmps196
 go_wp2;clear aj
 go_loopw [4] (λi wr=>∃k:Nat,k<=64/\i=.int .i64 k/\wr.rowIs w.heap.size 5 64 (λj=>if j<k then .int .u8 255 else .int .u8 0)/\Below w.heap.size w wr) (λi _=>64 - (intOf i).toNat)
 case atStart=>exact⟨0,by omega,rfl,by simpa using h0,ac⟩
 case round =>
  clear h0 ac;obtain⟨k,hk,rfl,a0,hb⟩:=hrel;by_cases af:k<64
  ·have hc:=a0.cell af;have hf:=a0.frozen k;have a1:(wr.setCell ⟨w.heap.size,k,none⟩ (.int .u8 255)).rowIs w.heap.size 5 64 (λj=>if j<k+1 then .int .u8 255 else .int .u8 0):=(a0.set k _).congr λj hj=>by
    by_cases e:j=k
    ·rw[AE e,AE (by omega)]
    rw[AC e];by_cases e2:j<k
    ·rw[AE e2,AE (by omega)]
    rw[AC e2,AC (by omega)]
   rw[AC (by omega)]at hc;have ai:=hb.setCell (p:=⟨w.heap.size,k,none⟩) (AB _) (.int .u8 255);clear a0 hb;go_wp2;go_roundw
   case rel=>exact⟨k+1,by omega,by go_num,a1,ai⟩
   case measure=>simp[intOf];omega
  have a5:k=64:=by omega
  subst a5;obtain⟨a3,hg,ah,a7⟩:=a0;have ag:=Lib.run_copy_row_string (P:=prog) wr 111 9 3 5 w.heap.size 0 64 64 t a3 5 underlying111 a2 hg (by omega) (by omega);obtain⟨Y,hY⟩:=Jq ((a3.toList.take 0++Lib.byteCells t.data.toList++a3.toList.drop (0+t.size)).toArray);rw[<-hY]at ag;have ae:(wr.setRow w.heap.size Y).rowIs w.heap.size 5 64 (λj=>.int .u8 (((pad s).getD j 0).toNat:Nat)):=by
   have a8:(Lib.byteCells t.data.toList).length=s.length:=by rw[Lib.byteCells_length,a9.o]
   have an:a3.toList.length=64:=by rw[Cl];exact ah
   refine jj hg ?_ λi hi => ?_
   ·rw[hY,BK,List.take_zero,BH,AN,Bo,a8,an,aa.o];omega
   rw[hY,List.getElem?_toArray,List.take_zero,BH,jc s hs i hi];by_cases e:i<s.length
   ·rw[AE e,Ax (by omega)];unfold Lib.byteCells;rw[a9.o];simp[List.getD,e]
   rw[AC e,Ad (by omega),a8,C7,aa.o,show 0+s.length+(i - s.length)=i by omega,Bv,a7 i hi];show some (if i<64 then Value.int .u8 255 else .int .u8 0)=_;rw[AE hi];rfl
  have ad:=gE (c:=64) ae (su s hs);rw[<-Hx.o]at ad;have hB:Below w.heap.size w (wr.setRow w.heap.size Y):=below_setRow hb (AB _) Y;clear hY a7;go_wp2;go_ret
  exact⟨rfl,hB⟩
def hasB(m:M)(b:Int):Bool:=decide (0<=b)&&decide (b<(m.nb:Int))
def Fe(m:M)(b:Int):Bool:=!(hasB m b)||m.bd b.toNat
theorem P9{m:M}{b:Int}(h:hasB m b=true):0<=b/\b<(m.nb:Int):=by simpa[hasB]using h
theorem Em(w:D7)(lo hi cb:Nat)(L:Loc)(m:M)(h:CP w lo hi cb L m):Calls prog 76 #[.pointer (some ⟨cb,0,none⟩)] w λe w'=>e=.returned (.int .i64 m.nb)/\w'=w:=by
 have h1:=Db.c1 h;clear h;go_enter func76,ntmps76
 go_wp2;go_ret
 exact⟨rfl,rfl⟩
theorem Er(w:D7)(lo hi cb:Nat)(L:Loc)(m:M)(h:CP w lo hi cb L m):Calls prog 77 #[.pointer (some ⟨cb,0,none⟩)] w λe w'=>e=.returned (.int .i64 m.np)/\w'=w:=by
 have h1:=Db.c0 h;clear h;go_enter func77,ntmps77
 go_wp2;go_ret
 exact⟨rfl,rfl⟩
theorem EW(w:D7)(lo hi cb:Nat)(L:Loc)(m:M)(h:CP w lo hi cb L m):Calls prog 25 #[.pointer (some ⟨cb,0,none⟩)] w λe w'=>e=.returned (.bool (m.Da==0))/\w'=w:=by
 have h1:=Db.c4 h;clear h;go_enter func25,ntmps25
 go_wp2;go_ret
 exact⟨rfl,rfl⟩
theorem K0(w:D7)(lo hi cb:Nat)(L:Loc)(m:M)(h:CP w lo hi cb L m)(hw:WF m):Calls prog 28 #[.pointer (some ⟨cb,0,none⟩)] w λe w'=>e=.returned (.tuple #[])/\CP w' lo hi cb L { m with Da:=-1 }/\Dr lo hi w w':=by
 have h1:=Db.c4 h;have hf:=Db.fz h 4;have h2:CP (w.setCell ⟨cb,4,none⟩ (.int .i64 (-1))) lo hi cb L { m with Da:=-1 }:=(Db.field h 4 (-1) _ _ _ _ rfl).re _ rfl rfl rfl rfl rfl;have ho:Dr lo hi w (w.setCell ⟨cb,4,none⟩ (.int .i64 (-1))):=(Dr.refl _ _ _).set (Db.Fg h) 4 _;clear h;go_enter func28,ntmps28
 go_wp2;go_end0
 exact⟨rfl,h2,ho⟩
theorem OZ(w:D7)(lo hi cb:Nat)(L:Loc)(m:M)(a c:Int)(h1:-9223372036854775808<=c)(h2:c<=9223372036854775807)(h:CP w lo hi cb L m):Calls prog 27 #[.pointer (some ⟨cb,0,none⟩),.int .i64 a,.int .i64 c] w λe w'=>e=.returned (.tuple #[])/\CP w' lo hi cb L { m with Da:=KF a 0 1073741824+1,cut:=Mp c }/\Dr lo hi w w':=by
 have hb:=Oj a 0 1073741824 (by omega);have a1:=Jy (TP a 0 1073741824 (by omega));have a2:=Jy (ZI c h1 h2);obtain⟨B,hB⟩:=Jq (KF a 0 1073741824);rw[<-hB]at hb a1 ⊢;clear hB
 generalize Mp c=pc at *
 have h4:=Db.c4 h;have a4:=Db.fz h 4;have a0:Db (w.setCell ⟨cb,4,none⟩ (.int .i64 (B+1))) lo hi cb 74 L m id (B+1) m.cut m.fail m.part:=Db.field h 4 (B+1) _ _ _ _ rfl;have h5:=Db.c5 a0;have a5:=Db.fz a0 5;have a3:CP ((w.setCell ⟨cb,4,none⟩ (.int .i64 (B+1))).setCell ⟨cb,5,none⟩ (.int .i64 pc)) lo hi cb L { m with Da:=B+1,cut:=pc }:=(Db.field a0 5 pc _ _ _ _ rfl).re _ rfl rfl rfl rfl rfl;have ho:Dr lo hi w ((w.setCell ⟨cb,4,none⟩ (.int .i64 (B+1))).setCell ⟨cb,5,none⟩ (.int .i64 pc)):=((Dr.refl _ _ _).set (Db.Fg h) 4 _).set (Db.Fg h) 5 _;clear h a0;go_enter func27,ntmps27
 go_wp2_with fail;refine(a1.o _).mono ?_;rintro e w1 ⟨rfl,rfl⟩;go_wp2_with fail;refine(a2.o _).mono ?_;rintro e w2 ⟨rfl,rfl⟩;go_wp2;go_end0
 exact⟨rfl,a3,ho⟩
theorem Ms(w:D7)(lo hi cb:Nat)(L:Loc)(m:M)(a c:Int)(h1:-9223372036854775808<=c)(h2:c<=9223372036854775807)(h:CP w lo hi cb L m):Calls prog 101 #[.pointer (some ⟨cb,0,none⟩),.int .i64 a,.int .i64 c] w λe w'=>e=.returned (.tuple #[])/\CP w' lo hi cb L { m with fail:=KF a 0 1073741824,part:=Mp c }/\Dr lo hi w w':=by
 have hb:=Oj a 0 1073741824 (by omega);have a1:=Jy (TP a 0 1073741824 (by omega));have a2:=Jy (ZI c h1 h2);obtain⟨B,hB⟩:=Jq (KF a 0 1073741824);rw[<-hB]at hb a1 ⊢;clear hB
 generalize Mp c=pc at *
 have h4:=Db.c6 h;have a4:=Db.fz h 6;have a0:Db (w.setCell ⟨cb,6,none⟩ (.int .i64 B)) lo hi cb 74 L m id m.Da m.cut B m.part:=Db.field h 6 B _ _ _ _ rfl;have h5:=Db.c7 a0;have a5:=Db.fz a0 7;have a3:CP ((w.setCell ⟨cb,6,none⟩ (.int .i64 B)).setCell ⟨cb,7,none⟩ (.int .i64 pc)) lo hi cb L { m with fail:=B,part:=pc }:=(Db.field a0 7 pc _ _ _ _ rfl).re _ rfl rfl rfl rfl rfl;have ho:Dr lo hi w ((w.setCell ⟨cb,6,none⟩ (.int .i64 B)).setCell ⟨cb,7,none⟩ (.int .i64 pc)):=((Dr.refl _ _ _).set (Db.Fg h) 6 _).set (Db.Fg h) 7 _;clear h a0;go_enter func101,ntmps101
 go_wp2_with fail;refine(a1.o _).mono ?_;rintro e w1 ⟨rfl,rfl⟩;go_wp2_with fail;refine(a2.o _).mono ?_;rintro e w2 ⟨rfl,rfl⟩;go_wp2;go_end0
 exact⟨rfl,a3,ho⟩
theorem TI(w:D7)(lo hi cb:Nat)(L:Loc)(m:M)(b:Int)(h:CP w lo hi cb L m):Calls prog 44 #[.pointer (some ⟨cb,0,none⟩),.int .i64 b] w λe w'=>e=.returned (.bool (hasB m b))/\w'=w:=by
 have h1:=Db.c1 h;clear h;by_cases hb:0<=b
 ·have hd:decide (0<=b)=true:=by simpa using hb
  by_cases a0:b<(m.nb:Int)
  ·have Hh:Hid (true=hasB m b):=by simp[hasB,hb,a0,Hid]
   go_enter func44,ntmps44
   go_wp2;go_ret
   exact⟨Ir Hh.o,rfl⟩
  have Hh:Hid (false=hasB m b):=by simp[hasB,a0,Hid]
  go_enter func44,ntmps44
  go_wp2;go_ret
  exact⟨Ir Hh.o,rfl⟩
 have hd:decide (0<=b)=false:=by simpa using hb
 have Hh:Hid (false=hasB m b):=by simp[hasB,hb,Hid]
 go_enter func44,ntmps44
 go_wp2;go_ret
 exact⟨Ir Hh.o,rfl⟩
theorem H9(w:D7)(lo hi cb:Nat)(L:Loc)(m:M)(b:Int)(h:CP w lo hi cb L m):Calls prog 94 #[.pointer (some ⟨cb,0,none⟩),.int .i64 b] w λe w'=>e=.returned (.bool (Fe m b))/\w'=w:=by
 have a0:=Jy (TI w lo hi cb L m b h);have h3:=Db.c3 h;have a1:=h.bad;clear h;cases hh:hasB m b with
 | true =>
   obtain⟨n,rfl⟩:=Ay (P9 hh).1;have hn:n<m.nb:=by have:=(P9 hh).2;omega
   have hc:=a1.cell hn;have Hr:Hid (m.bd n=Fe m (n:Nat)):=by simp[Fe,hh,Hid]
   rw[hh]at a0;clear hh a1
   generalize m.bd n=x at *
   go_enter func94,ntmps94
   go_wp2_with fail;refine a0.o.mono ?_;rintro e w1 ⟨rfl,rfl⟩;go_wp2;go_ret
   exact⟨Ir Hr.o,rfl⟩
 | false =>
   have Hr:Hid (true=Fe m b):=by simp[Fe,hh,Hid]
   rw[hh]at a0;clear hh a1;go_enter func94,ntmps94
   go_wp2_with fail;refine a0.o.mono ?_;rintro e w1 ⟨rfl,rfl⟩;go_wp2;go_ret
   exact⟨Ir Hr.o,rfl⟩
def Dl(Da fail:Int):Int × Int × Int:=
 if Da=0 then(3,Da,fail)
 else if Da=1 then(2,0,fail)
 else if fail<0 then(0,if 0<Da then Da - 1 else Da,fail)
 else if fail=0 then(1,if 0<Da then Da - 1 else Da,-1)
 else(0,if 0<Da then Da - 1 else Da,fail - 1)
theorem oE(Da fail:Int)(h1:-1<=Da)(h2:Da<=1073741825)(h3:-1<=fail)(h4:fail<=1073741824) :
 0<=(Dl Da fail).1/\(Dl Da fail).1<=3 /\ -1<=(Dl Da fail).2.1/\(Dl Da fail).2.1<=1073741825 /\ -1<=(Dl Da fail).2.2/\(Dl Da fail).2.2<=1073741824:=by
 unfold Dl
 repeat' split
 all_goals simp
 all_goals omega
theorem SH(w:D7)(lo hi cb:Nat)(L:Loc)(m:M)(hw:WF m)(h:CP w lo hi cb L m):Calls prog 190 #[.pointer (some ⟨cb,0,none⟩)] w λe w'=>e=.returned (.int .i64 (Dl m.Da m.fail).1)/\CP w' lo hi cb L { m with Da:=(Dl m.Da m.fail).2.1,fail:=(Dl m.Da m.fail).2.2 }/\Dr lo hi w w':=by
 have a4:=hw.KA;have a3:=hw.Js;have a8:=hw.Ia;have a6:=hw.Ic;have c4:=Db.c4 h;have cf:=Db.c6 h;have z4:=Db.fz h 4;have zf:=Db.fz h 6;have Fg:=Db.Fg h;by_cases h0:m.Da=0
 ·have e:Dl m.Da m.fail=(3,m.Da,m.fail):=by unfold Dl;rw[AE h0]
  rw[e];have hb:(m.Da==0)=true:=by simpa using h0
  have H:=Jy h;clear h e h0;go_enter func190,ntmps190
  go_wp2;go_ret
  exact⟨rfl,H.o,Dr.refl _ _ _⟩
 have hb:(m.Da==0)=false:=by simpa using h0
 by_cases h1:m.Da=1
 ·have e:Dl m.Da m.fail=(2,0,m.fail):=by unfold Dl;rw[AC h0,AE h1]
  rw[e];have H:Hid (CP (w.setCell ⟨cb,4,none⟩ (.int .i64 0)) lo hi cb L { m with Da:=0,fail:=m.fail }):=(Db.field h 4 0 _ _ _ _ rfl).re _ rfl rfl rfl rfl rfl;have hs:m.Da - 1=0:=by omega
  have hp:0<m.Da:=by omega
  clear h e h0 h1
  generalize m.Da=l at *
  generalize m.fail=f at *
  go_enter func190,ntmps190
  go_wp2;go_ret
  exact⟨rfl,H.o,(Dr.refl _ _ _).set Fg 4 _⟩
 by_cases hp:0<m.Da
 ·have a7:(m.Da - 1==0)=false:=by simp;omega
  have hm:Db (w.setCell ⟨cb,4,none⟩ (.int .i64 (m.Da - 1))) lo hi cb 74 L m id (m.Da - 1) m.cut m.fail m.part:=Db.field h 4 (m.Da - 1) _ _ _ _ rfl;have a5:=Db.c6 hm;have a9:=Db.fz hm 6;by_cases hf:m.fail<0
  ·have e:Dl m.Da m.fail=(0,m.Da - 1,m.fail):=by unfold Dl;rw[AC h0,AC h1,AE hf,AE hp]
   rw[e];have H:Hid (CP (w.setCell ⟨cb,4,none⟩ (.int .i64 (m.Da - 1))) lo hi cb L { m with Da:=m.Da - 1,fail:=m.fail }):=hm.re _ rfl rfl rfl rfl rfl;clear h e h0 h1 hm
   generalize m.Da=l at *
   generalize m.fail=f at *
   go_enter func190,ntmps190
   go_wp2;go_ret
   exact⟨rfl,H.o,(Dr.refl _ _ _).set Fg 4 _⟩
  by_cases a0:m.fail=0
  ·have e:Dl m.Da m.fail=(1,m.Da - 1,-1):=by unfold Dl;rw[AC h0,AC h1,AC hf,AE a0,AE hp]
   rw[e];have H:Hid (CP ((w.setCell ⟨cb,4,none⟩ (.int .i64 (m.Da - 1))).setCell ⟨cb,6,none⟩ (.int .i64 (-1))) lo hi cb L { m with Da:=m.Da - 1,fail:=-1 }):=(Db.field hm 6 (-1) _ _ _ _ rfl).re _ rfl rfl rfl rfl rfl;have hs:m.fail - 1 = -1:=by omega
   have a1:((w.setCell ⟨cb,4,none⟩ (.int .i64 (m.Da - 1))).setCell ⟨cb,6,none⟩ (.int .i64 (-1))).cell? ⟨cb,6,none⟩=some (.int .i64 (-1)):=Db.c6 H.o;clear h e h0 h1 hm
   generalize m.Da=l at *
   generalize m.fail=f at *
   go_enter func190,ntmps190
   go_wp2;go_ret
   exact⟨rfl,H.o,((Dr.refl _ _ _).set Fg 4 _).set Fg 6 _⟩
  have e:Dl m.Da m.fail=(0,m.Da - 1,m.fail - 1):=by unfold Dl;rw[AC h0,AC h1,AC hf,AC a0,AE hp]
  rw[e];have H:Hid (CP ((w.setCell ⟨cb,4,none⟩ (.int .i64 (m.Da - 1))).setCell ⟨cb,6,none⟩ (.int .i64 (m.fail - 1))) lo hi cb L { m with Da:=m.Da - 1,fail:=m.fail - 1 }):=(Db.field hm 6 (m.fail - 1) _ _ _ _ rfl).re _ rfl rfl rfl rfl rfl;have a1:((w.setCell ⟨cb,4,none⟩ (.int .i64 (m.Da - 1))).setCell ⟨cb,6,none⟩ (.int .i64 (m.fail - 1))).cell? ⟨cb,6,none⟩=some (.int .i64 (m.fail - 1)):=Db.c6 H.o;have a2:0<m.fail:=by omega
  clear h e h0 h1 hm
  generalize m.Da=l at *
  generalize m.fail=f at *
  go_enter func190,ntmps190
  go_wp2;go_ret
  exact⟨rfl,H.o,((Dr.refl _ _ _).set Fg 4 _).set Fg 6 _⟩
 by_cases hf:m.fail<0
 ·have e:Dl m.Da m.fail=(0,m.Da,m.fail):=by unfold Dl;rw[AC h0,AC h1,AE hf,AC hp]
  rw[e];have H:Hid (CP w lo hi cb L { m with Da:=m.Da,fail:=m.fail }):=h;clear h e h0 h1;go_enter func190,ntmps190
  go_wp2;go_ret
  exact⟨rfl,H.o,Dr.refl _ _ _⟩
 by_cases a0:m.fail=0
 ·have e:Dl m.Da m.fail=(1,m.Da,-1):=by unfold Dl;rw[AC h0,AC h1,AC hf,AE a0,AC hp]
  rw[e];have H:Hid (CP (w.setCell ⟨cb,6,none⟩ (.int .i64 (-1))) lo hi cb L { m with Da:=m.Da,fail:=-1 }):=(Db.field h 6 (-1) _ _ _ _ rfl).re _ rfl rfl rfl rfl rfl;have hs:m.fail - 1 = -1:=by omega
  have a1:(w.setCell ⟨cb,6,none⟩ (.int .i64 (-1))).cell? ⟨cb,6,none⟩=some (.int .i64 (-1)):=Db.c6 H.o;clear h e h0 h1
  generalize m.Da=l at *
  generalize m.fail=f at *
  go_enter func190,ntmps190
  go_wp2;go_ret
  exact⟨rfl,H.o,(Dr.refl _ _ _).set Fg 6 _⟩
 have e:Dl m.Da m.fail=(0,m.Da,m.fail - 1):=by unfold Dl;rw[AC h0,AC h1,AC hf,AC a0,AC hp]
 rw[e];have H:Hid (CP (w.setCell ⟨cb,6,none⟩ (.int .i64 (m.fail - 1))) lo hi cb L { m with Da:=m.Da,fail:=m.fail - 1 }):=(Db.field h 6 (m.fail - 1) _ _ _ _ rfl).re _ rfl rfl rfl rfl rfl;have a1:(w.setCell ⟨cb,6,none⟩ (.int .i64 (m.fail - 1))).cell? ⟨cb,6,none⟩=some (.int .i64 (m.fail - 1)):=Db.c6 H.o;have a2:0<m.fail:=by omega
 clear h e h0 h1
 generalize m.Da=l at *
 generalize m.fail=f at *
 go_enter func190,ntmps190
 go_wp2;go_ret
 exact⟨rfl,H.o,(Dr.refl _ _ _).set Fg 6 _⟩
def GX(m:M)(b p:Int):Option D8:=
 if m.Da≠0/\hasB m b=true/\0<=p/\p<(m.np:Int)then some (pad (m.pg b.toNat p.toNat))else none
def Vb:Option D8->Ending
 | none=>.returned (.tuple #[.string ⟨#[]⟩,.bool false])
 | some l=>.returned (.tuple #[.string (D9 l),.bool true])
theorem jr(w:D7)(lo hi cb:Nat)(L:Loc)(m:M)(b p:Int)(hw:WF m)(h:CP w lo hi cb L m):Calls prog 132 #[.pointer (some ⟨cb,0,none⟩),.int .i64 b,.int .i64 p] w λe w'=>e=Vb (GX m b p)/\Below w.heap.size w w':=by
 have a0:=Jy (TI w lo hi cb L m b h);have c0:=Db.c0 h;have c1:=Db.c1 h;have c4:=Db.c4 h;by_cases h0:m.Da=0
 ·have e:GX m b p=none:=by unfold GX;rw[AC (λh=>h.1 h0)]
  rw[e];have hb:(m.Da==0)=true:=by simpa using h0
  clear h e h0;go_enter func132,ntmps132
  go_wp2;go_ret2
  exact⟨rfl,AM _ _⟩
 have hb:(m.Da==0)=false:=by simpa using h0
 cases hh:hasB m b with
 | false =>
   have e:GX m b p=none:=by unfold GX;rw[AC (λh=>by rw[hh]at h;exact absurd h.2.1 (by decide))]
   rw[e];rw[hh]at a0;clear h e h0 hh;go_enter func132,ntmps132
   go_wp2_with fail;refine a0.o.mono ?_;rintro e w1 ⟨rfl,rfl⟩;go_wp2;go_ret2
   exact⟨rfl,AM _ _⟩
 | true =>
   rw[hh]at a0;by_cases hp:p<0
   ·have e:GX m b p=none:=by unfold GX;rw[AC (λh=>by omega)]
    rw[e];have hd:decide (p<0)=true:=by simpa using hp
    clear h e h0 hh;go_enter func132,ntmps132
    go_wp2_with fail;refine a0.o.mono ?_;rintro e w1 ⟨rfl,rfl⟩;go_wp2;go_ret2
    exact⟨rfl,AM _ _⟩
   have hd:decide (p<0)=false:=by simpa using hp
   by_cases a1:(m.np:Int)<=p
   ·have e:GX m b p=none:=by unfold GX;rw[AC (λh=>by omega)]
    rw[e];have a2:decide ((m.np:Int)<=p)=true:=by simpa using a1
    clear h e h0 hh;go_enter func132,ntmps132
    go_wp2_with fail;refine a0.o.mono ?_;rintro e w1 ⟨rfl,rfl⟩;go_wp2;go_ret2
    exact⟨rfl,AM _ _⟩
   have a2:decide ((m.np:Int)<=p)=false:=by simpa using a1
   have e:GX m b p=some (pad (m.pg b.toNat p.toNat)):=by unfold GX;rw[AE ⟨h0,hh,by omega,by omega⟩]
   rw[e];obtain⟨i,rfl⟩:=Ay (P9 hh).1;obtain⟨q,rfl⟩:=Ay (by omega:0<=p);have hi:i<m.nb:=by have:=(P9 hh).2;omega
   have hq:q<m.np:=by omega
   have cd:=h.data.cell hi;have cp:=(h.Ey i hi).cell hq;have a5:=hw.pg i q hi hq;have a4:=Jy (sU (m.pg i q) a5);clear h e h0 hh;simp only[id,Bd]at cp ⊢
   generalize hX:D9 (m.pg i q)=X at *
   go_enter func132,ntmps132
   go_wp2_with fail;refine a0.o.mono ?_;rintro e w1 ⟨rfl,rfl⟩;go_wp2_with fail;refine(a4.o _).mono ?_;rintro e w2 ⟨rfl,a3⟩;go_wp2;go_ret2
   exact⟨rfl,a3⟩
def FD(m:M)(i p:Nat)(s:D8):M:={ m with pg:=λa b=>if a=i/\b=p then s else m.pg a b }
def FA(m:M)(i v:Nat):M:={ m with nx:=λa=>if a=i then v else m.nx a }
def JY(m:M)(i:Nat)(v:Bool):M:={ m with bd:=λa=>if a=i then v else m.bd a }
def JA(m:M)(b p:Int)(s:D8):Prop:=Fe m b=false/\p=(m.nx b.toNat:Int)/\p<(m.np:Int)/\s.length=64
def tick(m:M):M:={ m with Da:=(Dl m.Da m.fail).2.1,fail:=(Dl m.Da m.fail).2.2 }
def FR(m:M)(i p:Nat)(s:D8):Bool × M:=
 if(Dl m.Da m.fail).1=0 then(true,FA (FD (tick m) i p s) i (p+1))
 else if(Dl m.Da m.fail).1=1 then(false,FA (JY (FD (tick m) i p (s.take m.part.toNat)) i true) i (p+1))
 else if(Dl m.Da m.fail).1=2 then(false,FA (FD (tick m) i p (s.take m.cut.toNat)) i (p+1))
 else(false,tick m)
theorem X0{m:M}(h:WF m):WF (tick m):=by
 have:=oE m.Da m.fail h.KA h.Js h.Ia h.Ic
 exact⟨h.KZ,h.Iu,h.Md,h.Jv,h.nx,h.pg,this.2.2.1,this.2.2.2.1,this.2.2.2.2.1,this.2.2.2.2.2,h.KM,h.KV,h.I8,h.Io⟩
theorem QR(Da fail:Int):(Dl Da fail).1=0\/(Dl Da fail).1=1\/(Dl Da fail).1=2\/(Dl Da fail).1=3:=by
 unfold Dl
 repeat' split
 all_goals simp
theorem Qw{m:M}{b:Int}(h:Fe m b=false):∃i:Nat,b=(i:Int)/\i<m.nb/\m.bd i=false:=by
 unfold Fe at h;rw[Bool.or_eq_false_iff]at h;have h1:=P9 (m:=m) (b:=b) (by simpa using h.1);obtain⟨i,rfl⟩:=Ay h1.1;exact⟨i,rfl,by omega,by simpa using h.2⟩
theorem rj(w:D7)(lo hi cb:Nat)(L:Loc)(m:M)(b p:Int)(s:D8)(hs:s.length<=140737488351232)(h:CP w lo hi cb L m)(hm:¬JA m b p s) :
 Calls prog 242 #[.pointer (some ⟨cb,0,none⟩),.int .i64 b,.int .i64 p,.string (D9 s)] w λe w'=>e=.returned (.bool false)/\w'=w:=by
 have a0:=Jy (H9 w lo hi cb L m b h);have c0:=Db.c0 h;have c2:=Db.c2 h;have a2:(D9 s).size=s.length:=Dd s;cases hb:Fe m b with
 | true =>
   rw[hb]at a0;clear h hm;go_enter func242,ntmps242
   go_wp2_with fail;refine a0.o.mono ?_;rintro e w1 ⟨rfl,rfl⟩;go_wp2;go_ret
   exact⟨rfl,rfl⟩
 | false =>
   rw[hb]at a0;obtain⟨i,rfl,a3,_⟩:=Qw hb;have cn:=h.next.cell a3;by_cases hp:p=(m.nx i:Int)
   ·have hd:(p != (m.nx i:Int))=false:=by rw[hp];simp
    by_cases hn:(m.np:Int)<=p
    ·have a1:decide ((m.np:Int)<=p)=true:=by simpa using hn
     clear h hm hp;go_enter func242,ntmps242
     go_wp2_with fail;refine a0.o.mono ?_;rintro e w1 ⟨rfl,rfl⟩;go_wp2;go_ret
     exact⟨rfl,rfl⟩
    have a1:decide ((m.np:Int)<=p)=false:=by simpa using hn
    have hl:s.length≠64:=λe=>hm ⟨hb,hp,by omega,e⟩
    have a4:(((D9 s).size:Int) != 64)=true:=by rw[a2];simp;omega
    generalize D9 s=t at *
    clear h hm hp;go_enter func242,ntmps242
    go_wp2_with fail;refine a0.o.mono ?_;rintro e w1 ⟨rfl,rfl⟩;go_wp2;go_ret
    exact⟨rfl,rfl⟩
   have hd:(p != (m.nx i:Int))=true:=by simpa using hp
   clear h hm hp;go_enter func242,ntmps242
   go_wp2_with fail;refine a0.o.mono ?_;rintro e w1 ⟨rfl,rfl⟩;go_wp2;go_ret
   exact⟨rfl,rfl⟩
theorem rM(w:D7)(lo hi cb:Nat)(L:Loc)(m:M)(i q:Nat)(s:D8)(hw:WF m)(hs:s.length=64)(h:CP w lo hi cb L m)(hb:Fe m (i:Nat)=false)(hi':i<m.nb)(hq:q=m.nx i)(hqn:q<m.np) :
 Calls prog 242 #[.pointer (some ⟨cb,0,none⟩),.int .i64 i,.int .i64 q,.string (D9 s)] w λe w'=>e=.returned (.bool (FR m i q s).1)/\CP w' lo hi cb L (FR m i q s).2/\Dr lo hi w w':=by
 have a2:=Jy (H9 w lo hi cb L m (i:Nat) h);rw[hb]at a2;have a1:=Jy (SH w lo hi cb L m hw h);have c0:=Db.c0 h;have c2:=Db.c2 h;have cn:=h.next.cell hi';rw[<-hq]at cn;have ad:(D9 s).size=64:=by rw[Dd];exact hs
 have ac:=λn (hn:n<=64)=>(Jb s 0 n:(D9 s).extract 0 n=_)
 obtain⟨t,ht⟩:=Jq (D9 s);have Ht:=Jy ht;rw[<-ht]at ad ac ⊢;have av:((t.size:Int) != 64)=false:=by rw[ad];decide
 have aw:t.size<=64:=by omega
 have ar:64<=t.size:=by omega
 have ah:=Jy ac;have hd:((q:Int) != (q:Int))=false:=by simp
 have ao:decide ((m.np:Int)<=(q:Int))=false:=by simp;omega
 have aa:=hw.I8;have ag:=hw.Io;have a9:=hw.KM;have af:=hw.KV;have Hq:=Jy hq;have am:q<=16:=by have:=hw.Jv;omega
 clear ht ac ad hb hq;rcases QR m.Da m.fail with hk | hk | hk | hk
 ·have Hr:Hid (FR m i q s=(true,FA (FD (tick m) i q s) i (q+1))):=AE hk;rw[hk]at a1;clear hk;go_enter func242,ntmps242
  go_wp2_with fail;refine a2.o.mono ?_;rintro e w1 ⟨rfl,rfl⟩;go_wp2_with fail;refine a1.o.mono ?_;rintro e w2 ⟨rfl,a0,a3⟩;have d1:=Db.c1 a0;have d2:=Db.c2 a0;have dd:=a0.data.cell hi';have dp:=(a0.Ey i hi').cell hqn;have dz:=(a0.Ey i hi').frozen q;have h3:CP (w2.setCell ⟨L.rw i,q,none⟩ (.string t)) lo hi cb L (FD (tick m) i q s):=by
   have:=Db.ID a0 i q hi' hqn s
   rw[Ht.o];exact this
  have e2:=Db.c2 h3;have en:=h3.next.cell hi';have ez:=h3.next.frozen i;have h4:CP ((w2.setCell ⟨L.rw i,q,none⟩ (.string t)).setCell ⟨L.nk,i,none⟩ (.int .i64 ((q+1:Nat):Int))) lo hi cb L (FA (FD (tick m) i q s) i (q+1)):=Db.IQ h3 i (q+1);have aj:Dr lo hi w1 ((w2.setCell ⟨L.rw i,q,none⟩ (.string t)).setCell ⟨L.nk,i,none⟩ (.int .i64 ((q+1:Nat):Int))):=(a3.set (h.Kq i hi') q _).set h.I0 i _;have au:(w2.setCell ⟨L.rw i,q,none⟩ (.string t)).cell? ⟨L.nk,i,none⟩=some (.int .i64 q):=by rw[en];show some (Value.int .i64 ((m.nx i:Nat):Int))=_;rw[<-Hq.o]
  have H4:=Jy h4;have ai:=Jy aj;clear h h3 a0 a3 h4 aj en cn c0 c2;simp only[id,tick,FD]at d1 d2 dd dp e2;rw[show((q+1:Nat):Int)=(q:Int)+1 by omega]at H4 ai;go_wp2;go_ret
  refine⟨Ir (by rw[Hr.o]),?_,ai.o⟩;rw[Hr.o];exact H4.o
 ·have Hr:Hid (FR m i q s=(false,FA (JY (FD (tick m) i q (s.take m.part.toNat)) i true) i (q+1))):=by unfold FR;rw[hk];exact rfl
  rw[hk]at a1;clear hk;go_enter func242,ntmps242
  go_wp2_with fail;refine a2.o.mono ?_;rintro e w1 ⟨rfl,rfl⟩;go_wp2_with fail;refine a1.o.mono ?_;rintro e w2 ⟨rfl,a0,a3⟩;obtain⟨pn,ae⟩:∃n:Nat,m.part=(n:Int):=Ay aa;have a6:pn<=63:=by omega
  have d1:=Db.c1 a0;have d7:=Db.c7 a0;have dd:=a0.data.cell hi';have dp:=(a0.Ey i hi').cell hqn;have dz:=(a0.Ey i hi').frozen q;have h3:CP (w2.setCell ⟨L.rw i,q,none⟩ (.string (t.extract 0 pn))) lo hi cb L (FD (tick m) i q (s.take pn)):=by
   have:=Db.ID a0 i q hi' hqn (s.take pn)
   rw[ah.o pn (by omega)];exact this
  have e3:=Db.c3 h3;have eb:=h3.bad.cell hi';have ez:=h3.bad.frozen i;have h4:CP ((w2.setCell ⟨L.rw i,q,none⟩ (.string (t.extract 0 pn))).setCell ⟨L.bk,i,none⟩ (.bool true)) lo hi cb L (JY (FD (tick m) i q (s.take pn)) i true):=Db.Nh h3 i true;have f2:=Db.c2 h4;have fn:=h4.next.cell hi';have fz:=h4.next.frozen i;have h5:CP (((w2.setCell ⟨L.rw i,q,none⟩ (.string (t.extract 0 pn))).setCell ⟨L.bk,i,none⟩ (.bool true)).setCell ⟨L.nk,i,none⟩ (.int .i64 ((q+1:Nat):Int))) lo hi cb L (FA (JY (FD (tick m) i q (s.take pn)) i true) i (q+1)):=Db.IQ h4 i (q+1);have a4:Dr lo hi w1 (((w2.setCell ⟨L.rw i,q,none⟩ (.string (t.extract 0 pn))).setCell ⟨L.bk,i,none⟩ (.bool true)).setCell ⟨L.nk,i,none⟩ (.int .i64 ((q+1:Nat):Int))):=((a3.set (h.Kq i hi') q _).set h.GW i _).set h.I0 i _
  have an:((w2.setCell ⟨L.rw i,q,none⟩ (.string (t.extract 0 pn))).setCell ⟨L.bk,i,none⟩ (.bool true)).cell? ⟨L.nk,i,none⟩=some (.int .i64 q):=by rw[fn];show some (Value.int .i64 ((m.nx i:Nat):Int))=_;rw[<-Hq.o]
  have H5:=Jy h5;have a5:=Jy a4;have a7:=Jy ae;clear h h3 a0 a3 h4 h5 a4 fn cn c0 c2 aa ag a9 af;simp only[id,tick,FD,JY]at d1 d7 dd dp e3 eb f2;rw[a7.o]at d7;rw[show((q+1:Nat):Int)=(q:Int)+1 by omega]at H5 a5;have a8:(pn:Int)<=(t.size:Int):=by omega
  go_wp2;go_region;go_wp2;go_ret
  refine⟨Ir (by rw[Hr.o]),?_,a5.o.drew⟩;rw[Hr.o,a7.o];exact Db.drew H5.o
 ·have Hr:Hid (FR m i q s=(false,FA (FD (tick m) i q (s.take m.cut.toNat)) i (q+1))):=by unfold FR;rw[hk];exact rfl
  rw[hk]at a1;clear hk;go_enter func242,ntmps242
  go_wp2_with fail;refine a2.o.mono ?_;rintro e w1 ⟨rfl,rfl⟩;go_wp2_with fail;refine a1.o.mono ?_;rintro e w2 ⟨rfl,a0,a3⟩;obtain⟨pn,ae⟩:∃n:Nat,m.cut=(n:Int):=Ay a9;have a6:pn<=63:=by omega
  have d1:=Db.c1 a0;have d5:=Db.c5 a0;have dd:=a0.data.cell hi';have dp:=(a0.Ey i hi').cell hqn;have dz:=(a0.Ey i hi').frozen q;have h3:CP (w2.setCell ⟨L.rw i,q,none⟩ (.string (t.extract 0 pn))) lo hi cb L (FD (tick m) i q (s.take pn)):=by
   have:=Db.ID a0 i q hi' hqn (s.take pn)
   rw[ah.o pn (by omega)];exact this
  have f2:=Db.c2 h3;have fn:=h3.next.cell hi';have fz:=h3.next.frozen i;have h5:CP ((w2.setCell ⟨L.rw i,q,none⟩ (.string (t.extract 0 pn))).setCell ⟨L.nk,i,none⟩ (.int .i64 ((q+1:Nat):Int))) lo hi cb L (FA (FD (tick m) i q (s.take pn)) i (q+1)):=Db.IQ h3 i (q+1);have a4:Dr lo hi w1 ((w2.setCell ⟨L.rw i,q,none⟩ (.string (t.extract 0 pn))).setCell ⟨L.nk,i,none⟩ (.int .i64 ((q+1:Nat):Int))):=(a3.set (h.Kq i hi') q _).set h.I0 i _;have an:(w2.setCell ⟨L.rw i,q,none⟩ (.string (t.extract 0 pn))).cell? ⟨L.nk,i,none⟩=some (.int .i64 q):=by rw[fn];show some (Value.int .i64 ((m.nx i:Nat):Int))=_;rw[<-Hq.o]
  have H5:=Jy h5;have a5:=Jy a4;have a7:=Jy ae;clear h h3 a0 a3 h5 a4 fn cn c0 c2 aa ag a9 af;simp only[id,tick,FD]at d1 d5 dd dp f2;rw[a7.o]at d5;rw[show((q+1:Nat):Int)=(q:Int)+1 by omega]at H5 a5;have a8:(pn:Int)<=(t.size:Int):=by omega
  go_wp2;go_region;go_wp2;go_ret
  refine⟨Ir (by rw[Hr.o]),?_,a5.o.drew⟩;rw[Hr.o,a7.o];exact Db.drew H5.o
 have Hr:Hid (FR m i q s=(false,tick m)):=by unfold FR;rw[hk];exact rfl
 rw[hk]at a1;clear hk;go_enter func242,ntmps242
 go_wp2_with fail;refine a2.o.mono ?_;rintro e w1 ⟨rfl,rfl⟩;go_wp2_with fail;refine a1.o.mono ?_;rintro e w2 ⟨rfl,a0,a3⟩;have H2:=Jy a0;clear a0 h;go_wp2;go_ret
 refine⟨Ir (by rw[Hr.o]),?_,a3⟩;rw[Hr.o];exact H2.o
def Fw(m:M)(i n:Nat):M:={ m with pg:=λa b=>if a=i/\b<n then[]else m.pg a b }
theorem Zw(m:M)(i:Nat):Fw m i 0=m:=by
 unfold Fw
 have:(λa b=>if a=i/\b<0 then[]else m.pg a b)=m.pg:=by
  funext a b;rw[AC (by omega)]
 rw[this]
theorem XO(m:M)(i k:Nat):FD (Fw m i k) i k []=Fw m i (k+1):=by
 unfold FD Fw
 have:(λa b=>if a=i/\b=k then[]else if a=i/\b<k then[]else m.pg a b)=(λa b=>if a=i/\b<k+1 then[]else m.pg a b):=by
  funext a b
  by_cases e:a=i
  ·by_cases e2:b=k
   ·rw[AE ⟨e,e2⟩,AE ⟨e,by omega⟩]
   rw[AC (λh=>e2 h.2)];by_cases e3:b<k
   ·rw[AE ⟨e,e3⟩,AE ⟨e,by omega⟩]
   rw[AC (λh=>e3 h.2),AC (λh=>e3 (by omega))]
  rw[AC (λh=>e h.1),AC (λh=>e h.1),AC (λh=>e h.1)]
 show({ m with pg:=_ }:M)=_;rw[<-this]
theorem gC(m:M)(i a b:Nat):FA (FA m i a) i b=FA m i b:=by
 unfold FA
 have:(λx=>if x=i then b else if x=i then a else m.nx x)=λx=>if x=i then b else m.nx x:=by
  funext x
  by_cases e:x=i
  ·rw[AE e,AE e]
  rw[AC e,AC e,AC e]
 show({ m with nx:=_ }:M)=_;rw[<-this]
def Gp(m:M)(i:Nat):Bool × M:=
 if(Dl m.Da m.fail).1=0 then(true,FA (Fw (tick m) i m.np) i 0)
 else if(Dl m.Da m.fail).1=1 then(false,JY (tick m) i true)
 else if(Dl m.Da m.fail).1=2 then(false,FA (Fw (tick m) i (m.cut.toNat%m.np)) i m.np)
 else(false,tick m)
theorem Z6:D9 []={ data:=#[] }:=rfl
theorem iw(w:D7)(lo hi cb:Nat)(L:Loc)(m:M)(i:Nat)(hw:WF m)(h:CP w lo hi cb L m)(hb:Fe m (i:Nat)=false)(hi':i<m.nb)(hsz':hi<=w.heap.size) :
 Calls prog 125 #[.pointer (some ⟨cb,0,none⟩),.int .i64 i] w λe w'=>e=.returned (.bool (Gp m i).1)/\CP w' lo hi cb L (Gp m i).2/\Dr lo hi w w':=by
 have a5:=Jy (H9 w lo hi cb L m (i:Nat) h);rw[hb]at a5;have a1:=Jy (SH w lo hi cb L m hw h);have an:=hw.KM;have av:=hw.KV;have aA:=hw.Md;have ay:=hw.Jv;have Hh:=Jy h;clear hb h;rcases QR m.Da m.fail with hk | hk | hk | hk
 ·have Hr:Hid (Gp m i=(true,FA (Fw (tick m) i m.np) i 0)):=AE hk;rw[hk]at a1;clear hk;go_enter func125,ntmps125
  go_wp2_with fail;refine a5.o.mono ?_;rintro e w1 ⟨rfl,rfl⟩;go_wp2_with fail;refine a1.o.mono ?_;rintro e w2 ⟨rfl,a2,a3⟩;have a8:=a3.size;have ai:hi<=w2.heap.size:=AF hsz' a8;have d0:=Db.c0 a2;have a4:=Jy a2;clear a2;simp only[tick]at d0;go_wp2
  go_loopw [7] (λj wr=>∃k:Nat,k<=m.np/\j=.int .i64 k/\CP wr lo hi cb L (Fw (tick m) i k)/\Dr lo hi w1 wr) (λj _=>m.np - (intOf j).toNat)
  case atStart=>exact⟨0,by omega,rfl,by rw[Zw];exact a4.o,a3⟩
  clear a3;obtain⟨k,hk,rfl,a0,a6⟩:=hrel;by_cases aj:k<m.np
  ·have d1:=Db.c1 a0;have dd:=a0.data.cell hi';have dp:=(a0.Ey i hi').cell (show k<m.np by omega);have dz:=(a0.Ey i hi').frozen k;have ar:k<m.np:=by omega
   have aa:CP (wr.setCell ⟨L.rw i,k,none⟩ (.string (D9 (id [])))) lo hi cb L (Fw (tick m) i (k+1)):=by
    have:=Db.ID a0 i k hi' (by omega:k<m.np) []
    rw[<-XO];exact this
   have a9:=a6.set (Hh.o.Kq i hi') k (.string (D9 (id [])));have ad:=Jy aa;have ac:=Jy a9;clear a0 a6 aa a9;simp only[Fw,tick]at d1 dd dp
   try rw[Z6]at ad ac
   go_wp2;go_roundw
   case rel=>exact⟨k+1,by omega,by go_num,ad.o,ac.o⟩
   case measure=>simp[intOf];omega
  have af:m.np=k:=by omega
  subst af;have d2:=Db.c2 a0;have dn:=a0.next.cell hi';have df:=a0.next.frozen i;have h3:CP (wr.setCell ⟨L.nk,i,none⟩ (.int .i64 ((0:Nat):Int))) lo hi cb L (FA (Fw (tick m) i m.np) i 0):=Db.IQ a0 i 0;have a7:=a6.set Hh.o.I0 i (.int .i64 ((0:Nat):Int));have H3:=Jy h3;have ae:=Jy a7;clear h3 a7 a0 a6;simp only[Fw,tick]at d2 dn;rw[show((0:Nat):Int)=0 from rfl]at H3 ae;go_wp2;go_ret
  refine⟨Ir (by rw[Hr.o]),?_,ae.o⟩;rw[Hr.o];exact H3.o
 ·have Hr:Hid (Gp m i=(false,JY (tick m) i true)):=by unfold Gp;rw[hk];exact rfl
  rw[hk]at a1;clear hk;go_enter func125,ntmps125
  go_wp2_with fail;refine a5.o.mono ?_;rintro e w1 ⟨rfl,rfl⟩;go_wp2_with fail;refine a1.o.mono ?_;rintro e w2 ⟨rfl,a2,a3⟩;have a8:=a3.size;have ai:hi<=w2.heap.size:=AF hsz' a8;have d0:=Db.c0 a2;have a4:=Jy a2;clear a2;simp only[tick]at d0;have d3:=Db.c3 a4.o;have db:=a4.o.bad.cell hi';have df:=a4.o.bad.frozen i;have H3:=Jy (Db.Nh a4.o i true);have ae:=Jy (a3.set Hh.o.GW i (.bool true));clear a3;simp only[tick]at d3 db;go_wp2;go_ret
  refine⟨Ir (by rw[Hr.o]),?_,ae.o⟩;rw[Hr.o];exact H3.o
 ·have Hr:Hid (Gp m i=(false,FA (Fw (tick m) i (m.cut.toNat%m.np)) i m.np)):=by unfold Gp;rw[hk];exact rfl
  rw[hk]at a1;clear hk;go_enter func125,ntmps125
  go_wp2_with fail;refine a5.o.mono ?_;rintro e w1 ⟨rfl,rfl⟩;go_wp2_with fail;refine a1.o.mono ?_;rintro e w2 ⟨rfl,a2,a3⟩;have a8:=a3.size;have ai:hi<=w2.heap.size:=AF hsz' a8;have d0:=Db.c0 a2;have a4:=Jy a2;clear a2;simp only[tick]at d0;obtain⟨cn,ag⟩:∃n:Nat,m.cut=(n:Int):=Ay an;have d5:=Db.c5 a4.o;simp only[tick]at d5;rw[ag]at d5 Hr;simp only[Bd]at Hr;clear an av;have au:(m.np:Int)≠0:=by omega
  have ax:((m.np:Int)==0)=false:=by simp;omega
  have aj:cn%m.np<m.np:=BM _ (by omega);have ah:Hid ((cn:Int)%(m.np:Int)=((cn%m.np:Nat):Int)):=rfl;have az:=Jy ag;clear ag;go_wp2;go_region;go_wp2;rw[ah.o]
  generalize hN:cn%m.np=N at *
  have HN:=Jy hN;clear hN;have aw:=Jy (Db.drew a4.o);have a7:=a3.drew;clear a4 a3
  go_loopw [7] (λj wr=>∃k:Nat,k<=N/\j=.int .i64 k/\CP wr lo hi cb L (Fw (tick m) i k)/\Dr lo hi w1 wr) (λj _=>N - (intOf j).toNat)
  case atStart=>exact⟨0,by omega,rfl,by rw[Zw];exact aw.o,a7⟩
  clear a7;obtain⟨k,hk,rfl,a0,a6⟩:=hrel;by_cases aj:k<N
  ·have d1:=Db.c1 a0;have dd:=a0.data.cell hi';have dp:=(a0.Ey i hi').cell (show k<m.np by omega);have dz:=(a0.Ey i hi').frozen k;have ar:k<m.np:=by omega
   have aa:CP (wr.setCell ⟨L.rw i,k,none⟩ (.string (D9 (id [])))) lo hi cb L (Fw (tick m) i (k+1)):=by
    have:=Db.ID a0 i k hi' (by omega:k<m.np) []
    rw[<-XO];exact this
   have a9:=a6.set (Hh.o.Kq i hi') k (.string (D9 (id [])));have ad:=Jy aa;have ac:=Jy a9;clear a0 a6 aa a9;simp only[Fw,tick]at d1 dd dp
   try rw[Z6]at ad ac
   go_wp2;go_roundw
   case rel=>exact⟨k+1,by omega,by go_num,ad.o,ac.o⟩
   case measure=>simp[intOf];omega
  have af:N=k:=by omega
  subst af;have d2:=Db.c2 a0;have dn:=a0.next.cell hi';have df:=a0.next.frozen i;have h3:CP (wr.setCell ⟨L.nk,i,none⟩ (.int .i64 ((0:Nat):Int))) lo hi cb L (FA (Fw (tick m) i N) i 0):=Db.IQ a0 i 0;have a7:=a6.set Hh.o.I0 i (.int .i64 ((0:Nat):Int));have z2:=Db.c2 h3;have z0:=Db.c0 h3;have zn:=h3.next.cell hi';have zf:=h3.next.frozen i;have h4:=Db.IQ h3 i m.np;have ao:=a7.set Hh.o.I0 i (.int .i64 (m.np:Int));have H4:=Jy h4;have am:=Jy ao;clear h3 a7 a0 a6 h4 ao;simp only[Fw,FA,tick]at d2 dn z0 z2 zn;rw[show((0:Nat):Int)=0 from rfl]at H4 am z2 z0 zn zf;go_wp2;go_region;go_wp2;go_ret
  refine⟨Ir (by rw[Hr.o]),?_,am.o.drew⟩;rw[Hr.o,<-gC _ i 0 m.np];exact Db.drew H4.o
 have Hr:Hid (Gp m i=(false,tick m)):=by unfold Gp;rw[hk];exact rfl
 rw[hk]at a1;clear hk;go_enter func125,ntmps125
 go_wp2_with fail;refine a5.o.mono ?_;rintro e w1 ⟨rfl,rfl⟩;go_wp2_with fail;refine a1.o.mono ?_;rintro e w2 ⟨rfl,a2,a3⟩;have a8:=a3.size;have ai:hi<=w2.heap.size:=AF hsz' a8;have d0:=Db.c0 a2;have a4:=Jy a2;clear a2;simp only[tick]at d0;go_wp2;go_ret
 refine⟨Ir (by rw[Hr.o]),?_,a3⟩;rw[Hr.o];exact a4.o
end Go.Proofs.YtodmdkhdbfbfgaaGreatDoor.S1
