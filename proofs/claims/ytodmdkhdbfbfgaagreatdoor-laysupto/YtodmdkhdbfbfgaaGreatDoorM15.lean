/- Lemmas. -/
import Derived.Laws.StructEq
import Derived.Laws.AppendOwnNone
import Derived.Sort.KeysCollected
import Derived.Test.YtodmdkhdbfbfgaaGreatDoorM14
set_option linter.unusedVariables false
set_option linter.unusedSimpArgs false
set_option maxRecDepth 100000
set_option maxHeartbeats 8000000
open Go.Proofs.Tryz
namespace Go.Proofs.YtodmdkhdbfbfgaaGreatDoor
namespace S1
open Go.RowKit Pk
open Go.Nt (Fp Dp JZ M0 FG FH Ls Ei KG GF ZH TR Xm Zd)
theorem Gk.NO{w w':D7}{g n b:Nat}{P:Nat->Nat->Nat->Option Fp}(h:Gk w g n P)(hk:Kn b w w')(hne:g≠b):Gk w' g n P:=by
 obtain⟨D,⟨es,a0,h1,h2⟩,hh⟩:=h;exact⟨D,⟨es,a0,hk.2.2.2.2 g _ h1 hne rfl,h2⟩,hh⟩
theorem EK.NO{w w':D7}{g n b:Nat}{S:Nat->Bool}(h:EK w g n S)(hk:Kn b w w')(hne:g≠b):EK w' g n S:=by
 obtain⟨D,⟨es,a0,h1,h2⟩,hh⟩:=h;exact⟨D,⟨es,a0,hk.2.2.2.2 g _ h1 hne rfl,h2⟩,hh⟩
theorem UJ(W:D7)(a b c d e f:Value):(Instr.field 187 (.agg #[a,b,c,d,e,f]) 0).run prog W=.ok (.agg #[a,b,c,d,e]) W:=by
 simp[Instr.field,Cb underlying187,asAgg,go_sem]
theorem UT(W:D7)(a b c d e:Value):(Instr.field 182 (.agg #[a,b,c,d,e]) 2).run prog W=.ok d W:=by
 simp[Instr.field,Cb underlying182,asAgg,go_sem]
def Kw(w:D7)(rb ib:Nat)(X:ByteArray)(b r e:Nat):Prop:=w.heap[rb]? = some (.cells #[.string X,.int .i64 b,.int .u32 r,.map (some ib),.int .i64 e] 94 (0,0))
def RH(l:List Fp)(b r:Nat)(w:D7)(e:Ending)(w':D7):Prop:=
 Below w.heap.size w w' /\
 ((∃ps ib n,FG l b r=some ps/\e=.returned (.tuple #[.agg #[.string (D9 (Ei ps)),.int .i64 b,.int .u32 r,.map (some ib),.int .i64 (GF ps:Nat)],.bool true])/\w.heap.size<=ib/\n<=100000/\EK w' ib n (KG ps)) \/
  (FG l b r=none/\∃X y z q k,e=.returned (.tuple #[.agg #[.string X,.int .i64 y,.int .u32 z,.map q,.int .i64 k],.bool false])))
theorem ky(w:D7)(g n:Nat)(l:List Fp)(b r:Nat)(hF:Gk w g n (Dp l))(hok:∀f∈l,JZ f/\f.Dg<1000)(hb:b<=1000000)(hr:r<=4294967295) :
 Calls prog 82 #[.map (some g),lv b r] w λe w'=>RH l b r w e w':=by
 have aS:=hF.lt;obtain⟨z0,a3⟩:=Jq w.heap.size
 -- the blocks that are laid ahead of the loop
 obtain⟨W1,ah⟩:=Jq (w.alloc (.cells #[.int .i64 b,.int .u32 r] 90));obtain⟨W2,a5⟩:=Jq (W1.alloc (.cells #[.string ⟨#[]⟩,.int .i64 0,.int .u32 0,.map none,.int .i64 0] 94));obtain⟨W3,a4⟩:=Jq (W2.alloc (.map #[] 0));obtain⟨W4,a8⟩:=Jq (W3.alloc (.cells #[.string ⟨#[]⟩,.int .i64 b,.int .u32 r,.map (some (z0+2)),.int .i64 0] 94));obtain⟨W5,a7⟩:=Jq (W4.alloc (.cells #[.pointer none,.slice none 0 0] 193));have s1:=L0 ah a3.symm;have s2:W2.heap.size=z0+2:=by rw[a5];simp[s1]
 have s3:W3.heap.size=z0+3:=by rw[a4];simp[s2]
 have s4:W4.heap.size=z0+4:=by rw[a8];simp[s3]
 have s5:W5.heap.size=z0+5:=by rw[a7];simp[s4]
 have b1:=KD ah;have b5:Below w.heap.size w W5:=by rw[a7,a8,a4,a5];exact(((b1.zA).zA).zA).zA
 have e1:=K5 ah a3.symm;have aw:∀k,k<z0+1->W2.heap[k]? = W1.heap[k]? := λk hk=>by rw[a5];exact Lh
 have aH:∀k,k<z0+2->W3.heap[k]? = W2.heap[k]? := λk hk=>by rw[a4];exact Lh
 have ar:∀k,k<z0+3->W4.heap[k]? = W3.heap[k]? := λk hk=>by rw[a8];exact Lh
 have af:∀k,k<z0+4->W5.heap[k]? = W4.heap[k]? := λk hk=>by rw[a7];exact Lh
 have f1:W5.heap[z0]? = some (.cells #[.int .i64 b,.int .u32 r] 90 (0,0)):=by rw[af z0 (by omega),ar z0 (by omega),aH z0 (by omega),aw z0 (by omega)];exact e1
 have f2:W5.heap[z0+1]? = some (.cells #[.string ⟨#[]⟩,.int .i64 0,.int .u32 0,.map none,.int .i64 0] 94 (0,0)):=by rw[af _ (by omega),ar _ (by omega),aH _ (by omega),a5,<-s1];exact AQ _ _
 have f3:EK W5 (z0+2) 0 (λ_=>false):=by
  have h3:=WR W2;rw[<-a4,s2]at h3;exact(h3.of_block (ar _ (by omega))).of_block (af _ (by omega))
 have f4:Kw W5 (z0+3) (z0+2) ⟨#[]⟩ b r 0:=by
  unfold Kw;rw[af _ (by omega),a8,<-s3];exact AQ _ _
 have f5:JV W5 (z0+4) []:=⟨.pointer none,.slice none 0 0,by rw[a7,<-s4];exact AQ _ _,.inl rfl,AZ _ _ _ _⟩;have f6:Gk W5 g n (Dp l):=hF.of_block (b5.block g aS);have b4:W2.cell? ⟨z0,0,none⟩=some (.int .i64 b):=by rw[AJ (aw z0 (by omega)),AG W1 z0 0 _ 90 (0,0) e1];rfl
 have bf:W2.cell? ⟨z0,1,none⟩=some (.int .u32 r):=by rw[AJ (aw z0 (by omega)),AG W1 z0 1 _ 90 (0,0) e1];rfl
 have b8:=Dv 0 f1;have bp:=Dv 1 f1;have aY:=MF W2;rw[<-a4,s2]at aY;have a1:=(f6.look (a:=0) hb hr (by omega)).2;unfold pv fv at a1;rw[show((0:Nat):Int)=0 from rfl]at a1;obtain⟨o,ho⟩:=Jq (Ls l b r);have aK:((Dp l b r 0).getD P1).JW=o:=by rw[ho];unfold Ls;cases Dp l b r 0<;>rfl
 have bO:o<65536:=by
  rw[ho];unfold Ls;cases hx:Dp l b r 0 with
  | none=>show 0<65536;decide
  | some f=>exact(hok f (M0 hx).1).1.o
 obtain⟨q0,aQ⟩:=Jq ((Dp l b r 0).getD P1);rw[<-aQ]at a1 aK;rw[aK]at a1;have Ho:=Jy ho;have bs:=Jy ah;have aZ:=Jy a5;have bI:=Jy a4;have br:=Jy a8;have bj:=Jy a7;have bu:=Jy s1;have bD:=Jy s2;have bh:=Jy s3;have b0:=Jy s4;have b6:=Jy a3;have F1:=Jy f1;have F2:=Jy f2;have F3:=Jy f3;have F4:=Jy f4;have F5:=Jy f5;have F6:=Jy f6;rw[a3.symm]at b5;have B5:=Jy b5;have bA:=Jy hok;unfold RH;rw[<-a3];rw[<-a3]at aS;clear hF a3 ah a5 a4 a8 a7 s1 s2 s3 s4 s5 b1 b5 e1 aw aH ar af f1 f2 f3 f4 f5 f6 ho aQ hok aK;unfold lv;have aM:=UJ W5 (.int .i64 q0.bad) (.int .u32 q0.num) (.int .i64 q0.at_) (.int .i64 o) (.string (D9 q0.text)) (.int .i64 q0.Dg)
 have aL:=UT W5 (.int .i64 q0.bad) (.int .u32 q0.num) (.int .i64 q0.at_) (.int .i64 o) (.string (D9 q0.text));go_enter func82,ntmps82
 go_wp2_with (first | (rw[<-bs.o,<-b6.o]) | (rw[<-aZ.o,bu.o]) | (rw[<-br.o,bh.o]) | (rw[<-bj.o,b0.o]) | fail);clear b4 bf b8 bp aY a1 aM aL
 go_loopw [22] (λi wr=>∃(k n':Nat) (ps:List Fp),k<=o/\i=.int .i64 k/\n'<=k/\Hid (FH l b r o k=some ps)/\Hid (wr.heap[z0]? = some (.cells #[.int .i64 b,.int .u32 r] 90 (0,0)))/\Hid (wr.heap[z0+1]? = some (.cells #[.string ⟨#[]⟩,.int .i64 0,.int .u32 0,.map none,.int .i64 0] 94 (0,0)))/\Hid (EK wr (z0+2) n' (KG ps))/\Hid (Kw wr (z0+3) (z0+2) ⟨#[]⟩ b r (GF ps))/\Hid (JV wr (z0+4) (Ei ps))/\Hid (Gk wr g n (Dp l))/\Hid (Below z0 w wr)/\Hid ((Ei ps).length=k*51)) (λi _=>o - (intOf i).toNat)
 case atStart=>exact⟨0,0,[],AU _,rfl,AB _,Jy rfl,F1,F2,F3,F4,F5,F6,B5,Jy rfl⟩
 case round =>
  clear F1 F2 F3 F4 F5 F6 B5;obtain⟨k,n',ps,hk,rfl,bE,HP,F1,F2,F3,F4,F5,F6,HB,aX⟩:=hrel;have bN:z0+4<wr.heap.size:=by obtain⟨_,_,b7,_⟩:=F5.o;exact lt_of_heap b7
  by_cases bB:k<o
  ·have c0:=Dv 0 F1.o;have c1:=Dv 1 F1.o;have au:=(F6.o.look (a:=k) hb hr (by omega)).1;unfold pv fv at au;obtain⟨q,hq⟩:=Jq ((Dp l b r k).getD P1);obtain⟨zz,aD⟩:=Jq ((Dp l b r k).isSome);rw[<-hq,<-aD]at au;obtain⟨V1,ax⟩:=Jq (wr.alloc (.cells #[.int .i64 q.bad,.int .u32 q.num,.int .i64 q.at_,.int .i64 q.JW,.string (D9 q.text),.int .i64 q.Dg] 187));obtain⟨pb,aJ⟩:=Jq wr.heap.size;have az:=K5 ax aJ.symm;have aG:=KD ax;have GW:∀j,j<wr.heap.size->V1.heap[j]? = wr.heap[j]? := λj hj=>aG.block j hj
   have p3:=Dv 3 az;have p4:=Dv 4 az;have G1:=Jy ((GW z0 (by omega)).trans F1.o);have G2:=Jy ((GW (z0+1) (by omega)).trans F2.o);have G3:=Jy (F3.o.of_block (GW (z0+2) (by omega)));have G4:Hid (Kw V1 (z0+3) (z0+2) ⟨#[]⟩ b r (GF ps)):=Jy ((GW (z0+3) (by omega)).trans F4.o);have G5:=Jy (F5.o.Dn (w':=V1) (.inr GW));have G6:=Jy (F6.o.of_block (GW g (by have:=F6.o.lt;exact this)));have G7:Hid (Below z0 w V1):=Jy (HB.o.trans (aG.zM));have Hq:=Jy hq;have aV:=Jy aD;have av:=Jy ax;have aN:=Jy aJ;have aF:=Jy az;have bJ:z0+4<pb:=by omega
   clear hq aD ax aJ az aG GW F1 F2 F3 F4 F5 F6 HB;by_cases a0:zz=true/\q.JW=o
   ·obtain⟨bn,aA⟩:=a0;subst bn;obtain⟨f,hf⟩:∃f,Dp l b r k=some f:=CC.1 aV.o.symm;have aC:q=f:=by rw[Hq.o,hf];rfl
    subst aC;have an:=bA.o q (M0 hf).1;have bg:=an.1.t;have bl:=an.2;have be:Hid (FH l b r o (k+1)=some (ps++[q])):=Jy (by rw[FH,HP.o,hf];simp[aA]);have A:=Jy (tG (z0+4) (Ei ps) q.text V1 G5.o (by rw[aX.o];omega) (by omega));rw[show Go.Proofs.YtodmdkhdbfbfgaaGreatDoor.D9 q.text=D9 q.text from rfl]at A;rw[aA]at av aF p3 au;have bG:=Jy aA;clear hf aA;go_wp2_with (first | (rw[<-av.o,<-aN.o]) | fail);refine A.o.mono ?_;rintro e V2 ⟨⟨rv,rfl⟩,aU,aB,a2⟩;have K2:=aB.2.2.2.2;have I1:=Jy (K2 z0 _ G1.o (by omega) rfl);have I2:=Jy (K2 (z0+1) _ G2.o (by omega) rfl);have I3:=Jy (G3.o.NO aB (by omega));have I4:Hid (Kw V2 (z0+3) (z0+2) ⟨#[]⟩ b r (GF ps)):=Jy (K2 (z0+3) _ G4.o (by omega) rfl);have I6:=Jy (G6.o.NO aB (by omega));have Ip:=Jy (K2 pb _ aF.o (by omega) rfl)
    have I7:Hid (Below z0 w V2):=Jy (G7.o.trans (a2.zM));have I5:=Jy aU;have r3:=Dv 3 I4.o;have p5:=Dv 5 Ip.o;have A2:=Jy (Up (z0+2) n' q.Dg (KG ps) V2 I3.o (by omega) (by omega));clear A aU aB a2 K2 G1 G2 G3 G4 G5 G6 G7 p3 p4 c0 c1 au aF;go_wp2_with fail;refine A2.o.mono ?_;rintro e V3 ⟨rfl,aR,a6⟩;have ek:∀j,j<V2.heap.size->j≠z0+2->V3.heap[j]? = V2.heap[j]? := λj hj bb=>a6.grown.block j hj (λe=>by cases e;exact bb rfl)
    have bq:=lt_of_heap Ip.o;have J1:=Jy ((ek z0 (lt_of_heap I1.o) (by omega)).trans I1.o);have J2:=Jy ((ek (z0+1) (lt_of_heap I2.o) (by omega)).trans I2.o);have J4:Hid (Kw V3 (z0+3) (z0+2) ⟨#[]⟩ b r (GF ps)):=Jy ((ek (z0+3) (lt_of_heap I4.o) (by omega)).trans I4.o);have J6:=Jy (I6.o.of_block (ek g I6.o.lt (by omega)));have Jp:=Jy ((ek pb bq (by omega)).trans Ip.o);have J5:Hid (JV V3 (z0+4) (Ei ps++q.text)):=Jy (by
     obtain⟨p9,v9,ay,aE,ag⟩:=I5.o;refine⟨p9,v9,(ek (z0+4) (lt_of_heap ay) (by omega)).trans ay,aE,ag.1,?_⟩;rcases ag.2 with h94 | ⟨g9,cap,cur,e9,hg9,h95,h96⟩
     ·exact .inl h94
     exact .inr ⟨g9,cap,cur,e9,hg9,(ek g9 (lt_of_heap h95) (by omega)).trans h95,h96⟩)
    have J3:Hid (EK V3 (z0+2) (n'+1) (KG (ps++[q]))):=Jy (aR.congr λi=>(Xm ps q i).symm);have J7:Hid (Below z0 w V3):=Jy (I7.o.trans ⟨a6.grown.os,a6.grown.tape,a6.grown.output,a6.grown.size,λj hj=>ek j (by omega) (by omega)⟩);have bH:=Dv 5 Jp.o;have r4:=Dv 4 J4.o;have bM:=FU 4 J4.o;obtain⟨V4,a9⟩:=Jq (V3.setCell ⟨z0+3,4,none⟩ (.int .i64 q.Dg));have eo:∀j,j≠z0+3->V4.heap[j]? = V3.heap[j]? := λj hj=>by rw[a9];exact AH V3 ⟨z0+3,4,none⟩ _ j hj
    have L1:=Jy ((eo z0 (by omega)).trans J1.o);have L2:=Jy ((eo (z0+1) (by omega)).trans J2.o);have L3:=Jy (J3.o.of_block (eo (z0+2) (by omega)));have L4:Hid (Kw V4 (z0+3) (z0+2) ⟨#[]⟩ b r (GF (ps++[q]))):=Jy (by rw[Zd,a9];exact AK V3 (z0+3) 4 _ 94 _ J4.o);have L5:Hid (JV V4 (z0+4) (Ei (ps++[q]))):=Jy (by
     rw[TR];obtain⟨p9,v9,ay,aE,ag⟩:=J5.o;refine⟨p9,v9,(eo (z0+4) (by omega)).trans ay,aE,ag.1,?_⟩;rcases ag.2 with h94 | ⟨g9,cap,cur,e9,hg9,h95,h96⟩
     ·exact .inl h94
     exact .inr ⟨g9,cap,cur,e9,hg9,(eo g9 (by omega)).trans h95,h96⟩)
    have L6:=Jy (J6.o.of_block (eo g (by omega)));have L7:Hid (Below z0 w V4):=Jy (by rw[a9];exact J7.o.setCell (by simp<;>omega) _);have bm:Hid ((Ei (ps++[q])).length=(k+1)*51):=Jy (by rw[TR,AN,aX.o,bg];omega);have bc:=Jy a9;clear A2 aR a6 ek I1 I2 I3 I4 I5 I6 I7 Ip J1 J2 J3 J4 J5 J6 J7 Jp eo a9 r3 p5;go_wp2_with (first | (rw[<-bc.o]) | fail);go_roundw
    case rel=>exact⟨k+1,n'+1,ps++[q],by omega,by go_num,by omega,be,L1,L2,L3,L4,L5,L6,L7,bm⟩
    case measure=>simp[intOf];omega
   have HR:Hid (FG l b r=none):=Jy (by
    have h1:FH l b r o (k+1)=none:=by
     rw[FH,HP.o];cases hf:Dp l b r k with
     | none=>rfl
     | some f =>
       have aC:q=f:=by rw[Hq.o,hf];rfl
       have bz:zz=true:=by rw[aV.o,hf];rfl
       have:f.JW≠o:=λe=>a0 ⟨bz,by rw[aC];exact e⟩
       simp[this]
    unfold FG;rw[<-Ho.o]
    split
    ·rfl
    exact ZH (by omega) h1)
   have ao:=Dv 0 G2.o;have aj:=Dv 1 G2.o;have aa:=Dv 2 G2.o;have ad:=Dv 3 G2.o;have ae:=Dv 4 G2.o;have y0:=FU 0 G2.o;have y1:=FU 1 G2.o;have y2:=FU 2 G2.o;have y3:=FU 3 G2.o;have y4:=FU 4 G2.o;have am:∀(e:Ending) (V:D7),Below z0 w V->e=.returned (.tuple #[.agg #[.string ⟨#[]⟩,.int .i64 0,.int .u32 0,.map none,.int .i64 0],.bool false])->(Below z0 w V/\((∃ps ib n,FG l b r=some ps/\e=.returned (.tuple #[.agg #[.string (D9 (Ei ps)),.int .i64 b,.int .u32 r,.map (some ib),.int .i64 (GF ps:Nat)],.bool true])/\z0<=ib/\n<=100000/\EK V ib n (KG ps))\/(FG l b r=none/\∃X y z q k,e=.returned (.tuple #[.agg #[.string X,.int .i64 y,.int .u32 z,.map q,.int .i64 k],.bool false])))):=λe V h1 h2=>⟨h1,.inr ⟨HR.o,_,_,_,_,_,h2⟩⟩
   have ac:=Jy am;clear am;cases zz with
   | false =>
     clear a0;go_wp2_with (first | (rw[<-av.o,<-aN.o]) | fail);refine Au (v:=.tuple #[.agg #[.string ⟨#[]⟩,.int .i64 0,.int .u32 0,.map none,.int .i64 0],.bool false]) ?_ rfl (ac.o _ _ ?_ rfl)
     ·simp[results,go_sem,ao,aj,aa,ad,ae]
     exact((((G7.o.setCell (by simp<;>omega) _).setCell (by simp<;>omega) _).setCell (by simp<;>omega) _).setCell (by simp<;>omega) _).setCell (by simp<;>omega) _
   | true =>
     have bL:¬q.JW=o:=λe=>a0 ⟨rfl,e⟩
     have bC:¬(q.JW:Int)=(o:Int):=by omega
     clear a0;go_wp2_with (first | (rw[<-av.o,<-aN.o]) | fail);refine Au (v:=.tuple #[.agg #[.string ⟨#[]⟩,.int .i64 0,.int .u32 0,.map none,.int .i64 0],.bool false]) ?_ rfl (ac.o _ _ ?_ rfl)
     ·simp[results,go_sem,ao,aj,aa,ad,ae]
     exact((((G7.o.setCell (by simp<;>omega) _).setCell (by simp<;>omega) _).setCell (by simp<;>omega) _).setCell (by simp<;>omega) _).setCell (by simp<;>omega) _
  have b3:k=o:=by omega
  subst b3;have A:=Jy (Builder_String_any_k (z0+4) (z0+4) (Ei ps) wr F5.o.iH (by omega));rw[show(⟨(Ei ps).toArray⟩:ByteArray)=D9 (Ei ps)from rfl]at A;obtain⟨X,hX⟩:=Jq (D9 (Ei ps));rw[<-hX]at A;have HX:=Jy hX;clear hX;go_wp2_with fail;refine A.o.mono ?_;rintro e V2 ⟨rfl,_,a2,_⟩;have I2:=(a2.zK (z0+1)).trans F2.o;have I3:=F3.o.of_block (a2.zK (z0+2));have I4:Kw V2 (z0+3) (z0+2) ⟨#[]⟩ b r (GF ps):=(a2.zK (z0+3)).trans F4.o;have I7:Below z0 w V2:=HB.o.trans (a2.zM);have r0:=Dv 0 I4;have bF:=FU 0 I4;obtain⟨V3,ai⟩:=Jq (V2.setCell ⟨z0+3,0,none⟩ (.string X));have eo:∀j,j≠z0+3->V3.heap[j]? = V2.heap[j]? := λj hj=>by rw[ai];exact AH V2 ⟨z0+3,0,none⟩ _ j hj
  have J4:Kw V3 (z0+3) (z0+2) X b r (GF ps):=by rw[ai];exact AK V2 (z0+3) 0 _ 94 _ I4
  have J2:=(eo (z0+1) (by omega)).trans I2;have J3:=I3.of_block (eo (z0+2) (by omega));have J7:Below z0 w V3:=by rw[ai];exact I7.setCell (by simp<;>omega) _
  obtain⟨ee,aI⟩:=Jq (GF ps);rw[<-aI]at J4;have bx:=Jy aI;have t0:=Dv 0 J4;have t1:=Dv 1 J4;have t2:=Dv 2 J4;have t3:=Dv 3 J4;have t4:=Dv 4 J4;have ao:=Dv 0 J2;have aj:=Dv 1 J2;have aa:=Dv 2 J2;have ad:=Dv 3 J2;have ae:=Dv 4 J2;have y0:=FU 0 J2;have y1:=FU 1 J2;have y2:=FU 2 J2;have y3:=FU 3 J2;have y4:=FU 4 J2;have b9:=Jy J3;have aP:=Jy J7;have aO:=Jy ai;have aW:k=0\/FG l b r=some ps:=by
   rcases DJ k with h0 | h0
   ·exact .inl h0
   right
   unfold FG;rw[<-Ho.o,AC (by omega)];exact HP.o
  have bi:=Jy aW;have H0:Hid (k=0->FG l b r=none):=Jy (λh0=>by unfold FG;rw[<-Ho.o,AE h0]);clear A a2 I2 I3 I4 I7 eo ai J2 J3 J4 J7 aI aW;by_cases aT:k=0
  ·subst aT;go_wp2_with (first | (rw[<-aO.o]) | fail);refine Au (v:=.tuple #[.agg #[.string X,.int .i64 b,.int .u32 r,.map (some (z0+2)),.int .i64 ee],.bool false]) ?_ rfl ⟨?_,.inr ⟨H0.o trivial,_,_,_,_,_,rfl⟩⟩
   ·simp[results,go_sem,ao,aj,aa,ad,ae]
   exact((((aP.o.setCell (by simp<;>omega) _).setCell (by simp<;>omega) _).setCell (by simp<;>omega) _).setCell (by simp<;>omega) _).setCell (by simp<;>omega) _
  have bK:(0:Int)<(k:Int):=by omega
  go_wp2_with (first | (rw[<-aO.o]) | fail);refine Au (v:=.tuple #[.agg #[.string X,.int .i64 b,.int .u32 r,.map (some (z0+2)),.int .i64 ee],.bool true]) ?_ rfl ⟨?_,.inl ⟨ps,z0+2,n',bi.o.resolve_left aT,?_,by omega,by omega,?_⟩⟩
  ·simp[results,go_sem,ao,aj,aa,ad,ae];omega
  ·exact((((aP.o.setCell (by simp<;>omega) _).setCell (by simp<;>omega) _).setCell (by simp<;>omega) _).setCell (by simp<;>omega) _).setCell (by simp<;>omega) _
  ·rw[<-bx.o,<-HX.o]
  exact b9.o.of_block (by
   refine(AH _ ⟨z0+1,4,none⟩ _ _ (by simp<;>omega)).trans ?_;refine(AH _ ⟨z0+1,3,none⟩ _ _ (by simp<;>omega)).trans ?_;refine(AH _ ⟨z0+1,2,none⟩ _ _ (by simp<;>omega)).trans ?_;refine(AH _ ⟨z0+1,1,none⟩ _ _ (by simp<;>omega)).trans ?_;exact AH _ ⟨z0+1,0,none⟩ _ _ (by simp<;>omega))
end S1
namespace S1
open Go.RowKit Pk Go.Shelf
open Go.Nt (Fp Dp FJ E0 JZ M0 EB FG Ei KG GF)
attribute [local go_sem] Oper.semAt_some
def rv(ps:List Fp)(b r ib:Nat):Value:=.agg #[.string (D9 (Ei ps)),.int .i64 b,.int .u32 r,.map (some ib),.int .i64 (GF ps:Nat)]
def Mi(ps:List Fp)(b r ib:Nat):List Value:=[.string (D9 (Ei ps)),.int .i64 b,.int .u32 r,.map (some ib),.int .i64 (GF ps:Nat)]
theorem QJ:(prog.info? 94).map (λi=>(i.zero,i.size,i.bytes))=some (some (.agg #[.string ⟨#[]⟩,.int .i64 0,.int .u32 0,.map none,.int .i64 0]),5,48):=by kernel_rfl
theorem OM{F:Fence}{n:Nat}{P:Program}{ops:Array Oper}{o:Oper}{a:Act}{w:D7}{K:Act->D7->Prop}{Q:Exit->Act->D7->Prop}{E:Prop}(hgd:o.guard=none)(s x:Operand)(t:TypeId)
 (ho:o.op=.call { callee:=.builtin .append,args:=#[s,x],argTypes:=#[t,t] }) (vs vx:Value) (hs:a.eval s=vs) (hx:a.eval x=vx)
 (v':Value) (w':D7) (hr:(Builtin.append_ #[t,t] o.type #[vs,vx]).run P w=.ok v' w') (h:K (a.put o.dst v') w') :
 if Region.wanted o (yielded ops a.tmps)=true then Oper.wpIn F n P o a w K Q else E:=by
 have hw:Region.wanted o (yielded ops a.tmps)=true:=by simp[Region.wanted,hgd]
 rw[AE hw];unfold Oper.wpIn;refine⟨by simp[Oper.about,ho,resolve,Target.leads,Sem.run_pure],?_⟩;rw[Oper.semAt_plain F _ _ (by rw[ho];intro c a0;cases a0)];simp[execOp,ho,resolve,invoke,builtin,hs,hx,hr,Result.andThen];exact h
end S1
namespace S1
open Go.RowKit Pk Go.Shelf
open Go.Nt (Fp Dp FJ E0 JZ M0 EB FG Ei KG GF)
variable {w:D7} {gm z n b r:Nat} {l:List Fp} {D:DataW Value} {S:Nat->Nat->Bool} {ib nb:Nat->Nat->Nat}
def FQ(l:List Fp)(b r:Nat):List Fp:=(FG l b r).getD []
structure WM (w:D7) (z gm n:Nat) (l:List Fp) (D:DataW Value) (S:Nat->Nat->Bool) (ib nb:Nat->Nat->Nat):Prop where
 own:w.ownsMap prog 90 Iq gm n D
 has:∀b r,b<=1000000->r<=4294967295->Maps.has D (lk b r)=S b r
 keys:∀kl,Maps.has D kl=true->∃b r,b<=1000000/\r<=4294967295/\kl=lk b r
 Lo:∀b r,S b r=true->b<=1000000/\r<=4294967295/\FG l b r=some (FQ l b r)/\(∀zd,D.atKey (lk b r) zd=.held (rv (FQ l b r) b r (ib b r)))/\z<=ib b r/\nb b r<=100000/\EK w (ib b r) (nb b r) (KG (FQ l b r))
theorem WM.made(l:List Fp)(h:w.ownsMap prog 90 Iq gm 0 (.map [])):WM w z gm 0 l (.map []) (λ_ _=>false) (λ_ _=>0) (λ_ _=>0):=
 ⟨h,λb r _ _=>rfl,λkl h=>by simp[Maps.has]at h,λb r h=>by cases h⟩
theorem WM.kept{w':D7}(h:WM w z gm n l D S ib nb)(hk:∀k,k=gm\/z<=k->k<w.heap.size->w'.heap[k]? = w.heap[k]?):WM w' z gm n l D S ib nb:=
 ⟨Rf h.own (hk gm (.inl rfl) h.own.lt),h.has,h.keys,λb r hs=>by
  obtain⟨h1,h2,h3,h4,h5,h6,h7⟩:=h.Lo b r hs;exact⟨h1,h2,h3,h4,h5,h6,h7.of_block (hk _ (.inr h5) h7.lt)⟩⟩
theorem WM.store(h:WM w z gm n l D S ib nb){i k:Nat}(hb:b<=1000000)(hr:r<=4294967295){ps:List Fp}(hps:FG l b r=some ps)(hi:z<=i)(hk:k<=100000)(hB:EK w i k (KG ps))(hn:n<=1000000)(hz:gm<z) :
 ∃w' D' ib' nb',(Instr.mapUpdate 137 (.map (some gm)) (lv b r) (rv ps b r i)).run prog w=.ok () w'/\WM w' z gm (n+1) l D' (λx y=>(x==b&&y==r)||S x y) ib' nb'/\w.mapTurned w' gm:=by
 obtain⟨w',h1,h2,h3⟩:=h.own.store Gl underlying137 (by unfold maxLen;omega) (JR hb hr) (show Iq (rv ps b r i)=some (.held (rv ps b r i),[])from rfl);have a1:FQ l b r=ps:=by unfold FQ;rw[hps];rfl
 have hM:=h.own.isMap;have hg:=h3.grown;have a2:∀q,z<=q->q<w.heap.size->w'.heap[q]? = w.heap[q]? := λq hq hl=>hg.block q hl (λe=>by cases e;omega)
 refine⟨w',_,λx y=>if x=b/\y=r then i else ib x y,λx y=>if x=b/\y=r then k else nb x y,h1,⟨h2,λx y hx hy => ?_,λkl a3 => ?_,λx y hs => ?_⟩,h3⟩
 ·by_cases e:x=b/\y=r
  ·obtain⟨rfl,rfl⟩:=e;rw[Cj hM (k:=lk x y) (by unfold lk;trivial)];simp
  have a0:lk x y≠lk b r:=λh'=>e (Qc hx hy hb hr h')
  rw[Bk a0,h.has x y hx hy]
  have:(x==b&&y==r)=false:=by simpa using λh1 h2=>e ⟨h1,h2⟩
  rw[this];simp
 ·by_cases e:kl=lk b r
  ·exact⟨b,r,hb,hr,e⟩
  rw[Bk e]at a3;exact h.keys kl a3
 by_cases e:x=b/\y=r
 ·obtain⟨rfl,rfl⟩:=e;simp only[and_self,if_true];refine⟨hb,hr,by rw[a1];exact hps,λzd => ?_,hi,hk,?_⟩
  ·rw[DG hM (k:=lk x y) (by unfold lk;trivial),a1]
  rw[a1];exact hB.of_block (a2 i hi hB.lt)
 have a4:S x y=true:=by
  have:(x==b&&y==r)=false:=by simpa using λh1 h2=>e ⟨h1,h2⟩
  simpa[this]using hs
 obtain⟨g1,g2,g3,g4,g5,g6,g7⟩:=h.Lo x y a4;have a0:lk x y≠lk b r:=λh'=>e (Qc g1 g2 hb hr h')
 simp only[AC e];exact⟨g1,g2,g3,λzd=>by rw[DD a0];exact g4 zd,g5,g6,g7.of_block (a2 _ g5 g7.lt)⟩
theorem WM.look(h:WM w z gm n l D S ib nb)(hs:S b r=true):(Instr.lookup 137 (.map (some gm)) (lv b r) false).run prog w=.ok (rv (FQ l b r) b r (ib b r)) w:=by
 obtain⟨g1,g2,g3,g4,g5,g6,g7⟩:=h.Lo b r hs;obtain⟨v',a0,h3,h4⟩:=h.own.lookup Gl underlying137 (PV w) (show Iq Py=some (.held Py,[])from rfl) (JR g1 g2);rw[g4]at h4;rw[lS h4]at h3;exact h3
variable {l:List Fp} {w:D7} {gm n:Nat} {D:DataW Value} {S:Nat->Nat->Bool} {ib nb:Nat->Nat->Nat}
attribute [local go_sem] Oper.semAt_some
def Eh(l:List Fp)(b r:Nat):Bool:=FJ l b r&&(FG l b r).isSome
def F9(l:List Fp)(ord:List (Nat × Nat)):Prop:=∃(ls:List (Nat × Nat)) (ks:List Nat) (rs:Nat->List Nat),ls.Nodup/\(∀x,x∈ls↔(x.1<=1000000/\x.2<=4294967295/\Eh l x.1 x.2=true))/\Asc ks/\ks.Nodup/\(∀b,b∈ks↔numsOf ls b≠[]) /\
 (∀b∈ks,∃ys,ys.Perm (numsOf ls b)/\Asc ys/\rs b=ys.drop (Eu ys)++ys.take (Eu ys))/\ord=ks.flatMap (λb=>FX b (rs b))
theorem F9.mem{ord:List (Nat × Nat)}(h:F9 l ord){x:Nat × Nat}(hx:x∈ord):x.1<=1000000/\x.2<=4294967295/\Eh l x.1 x.2=true:=by
 obtain⟨ls,ks,rs,h1,h2,h3,h4,h5,h6,rfl⟩:=h;obtain⟨b,hb,a1⟩:=List.mem_flatMap.1 hx;obtain⟨y,hy,rfl⟩:=Am.1 a1;obtain⟨ys,hp,_,e⟩:=h6 b hb;rw[e]at hy;have a0:y∈ys:=by
  rcases An.1 hy with h | h
  ·exact List.mem_of_mem_drop h
  exact List.mem_of_mem_take h
 have hn:=hp.mem_iff.1 a0;unfold numsOf at hn;obtain⟨z,hz,rfl⟩:=Am.1 hn
 have:=BC.1 hz
 have e2:z.1=b:=by simpa using this.2
 subst e2;exact(h2 z).1 this.1
def Mg(l:List Fp)(ib:Nat->Nat->Nat)(xs:List (Nat × Nat)):List Value:=xs.flatMap (λx=>Mi (FQ l x.1 x.2) x.1 x.2 (ib x.1 x.2))
theorem rm(l:List Fp)(ib:Nat->Nat->Nat)(xs:List (Nat × Nat))(x:Nat × Nat):Mg l ib (xs++[x])=Mg l ib xs++Mi (FQ l x.1 x.2) x.1 x.2 (ib x.1 x.2):=by simp[Mg]
theorem WM.KX{w':D7}{z q:Nat}(h:WM w z gm n l D S ib nb)(hq:∀b r,S b r=true->ib b r<q)(hk:∀k,k=gm\/(z<=k/\k<q)->k<w.heap.size->w'.heap[k]? = w.heap[k]?):WM w' z gm n l D S ib nb:=
 ⟨Rf h.own (hk gm (.inl rfl) h.own.lt),h.has,h.keys,λb r hs=>by
  obtain⟨h1,h2,h3,h4,h5,h6,h7⟩:=h.Lo b r hs;exact⟨h1,h2,h3,h4,h5,h6,h7.of_block (hk _ (.inr ⟨h5,hq b r hs⟩) h7.lt)⟩⟩
structure OS (w:D7) (z0 gm q7 zz zr n:Nat) (l:List Fp) (D:DataW Value) (S:Nat->Nat->Bool) (ib nb:Nat->Nat->Nat) (pre:List (Nat × (Nat × Nat))) (W:D7):Prop where
 box:∃v,W.heap[q7]? = some (.cells #[v] 86 (0,0))/\W.ownsRow zr 94 5 v pre.length (Mg l ib (pre.map (·.2)))
 wm:WM W zz gm n l D S ib nb
 lo:∀b r,S b r=true->ib b r<q7
 mb:W.heap[gm+1]? = some (.cells #[.map (some gm)] 137 (0,0))
 be:Below z0 w W
theorem OS.grown{z0 q7 zz zr:Nat}{pre:List (Nat × (Nat × Nat))}{W W':D7}{row:Option Nat}{B:Nat}(h:OS w z0 gm q7 zz zr n l D S ib nb pre W)(h1:z0<=B)(h2:gm+1<B)(h3:q7<B)(h5:z0<=W.heap.size)(hg:W.grownBy W' row)(hr:∀r,row=some r->B<=r/\∃o:Obj,W.heap[r]? = some o/\o.isCells=false):OS w z0 gm q7 zz zr n l D S ib nb pre W':=by
 have a0:∀k,k<B->k<W.heap.size->W'.heap[k]? = W.heap[k]? := λk hk hl=>hg.block k hl (λe=>by have:=(hr k e.symm).1;omega)
 obtain⟨⟨v,a4,a2⟩,a5,a3,a1,a6⟩:=h;refine⟨⟨v,(a0 q7 h3 (lt_of_heap a4)).trans a4,?_⟩,a5.KX a3 (λk hk hl=>a0 k (by omega) hl),a3,(a0 _ h2 (lt_of_heap a1)).trans a1,a6.grown hg h5 (λk e=>by have:=(hr k e).1;omega)⟩;refine⟨a2.1,?_⟩;rcases a2.2 with h5 | ⟨g,cap,cur,e,h5,h6,h7⟩
 ·exact .inl h5
 exact .inr ⟨g,cap,cur,e,h5,(hg.block g (lt_of_heap h6) (λe'=>by
  obtain⟨_,o,ho,hc⟩:=hr g e'.symm;rw[h6]at ho;cases ho
  cases hc)).trans h6,h7⟩
def Vl(w:D7)(left:Lit->Bool)(zz gm n:Nat)(l:List Fp)(ho:Lit->Bool):Prop:=∃D S ib nb,WM w zz gm n l D S ib nb/\∀b r,b<=1000000->r<=4294967295->S b r=(ho (lk b r) && !left (lk b r)&&(FG l b r).isSome)
theorem Jg{α:Type}(l:List α):∀(l':List α),l.Nodup->(∀x∈l,x∈l')->l.length<=l'.length:=by
 classical
 induction l with
 | nil=>intro _ _ _;exact AU _
 | cons a l ih =>
   intro l' hn hs;have ha:=hs a (by simp);have a0:=List.nodup_cons.1 hn
   have:=ih (l'.erase a) a0.2 (λx hx=>(List.mem_erase_of_ne (λe=>a0.1 (by rw[<-e];exact hx))).2 (hs x (by simp[hx])))
   rw[List.length_erase_of_mem ha]at this;have hp:0<l'.length:=List.length_pos_of_mem ha;simp only[AY];omega
theorem lq{α β:Type}(ks:List α)(f:α->List β)(c:Nat)(h:∀b∈ks,(f b).length<=c):(ks.flatMap f).length<=ks.length*c:=by
 induction ks with
 | nil=>simp
 | cons a l ih =>
   rw[List.flatMap_cons,AN,AY,Nat.succ_mul]
   have:=ih (λb hb=>h b (by simp[hb]))
   have:=h a (by simp)
   omega
theorem m7(ho:w.ownsMap prog 90 Iq gm n D){xs:List (Nat × Nat)}(hn:xs.Nodup)(hok:∀x∈xs,M5 x)(hm:∀x∈xs,Maps.has D (lk x.1 x.2)=true):xs.length<=n:=by
 obtain⟨es,hD,a0,_⟩:=ho.entries Gl;have h1:(xs.map (λx=>lk x.1 x.2)).Nodup:=CT.2 (hn.imp_of_mem λ{x y} hx hy hne e=>hne (by
  have:=Qc (hok x hx).1 (hok x hx).2 (hok y hy).1 (hok y hy).2 e
  exact Prod.ext this.1 this.2))
 have h2:=Jg _ (es.map (·.1)) h1 (λk hk=>by
  obtain⟨x,hx,rfl⟩:=Am.1 hk
  have:=hm x hx
  rw[hD,Maps.has_eq,Bq]at this;obtain⟨p,hp,hs⟩:=this;refine Am.2 ⟨p,hp,?_⟩;by_cases e:p.1=lk x.1 x.2
  ·exact e
  rw[DL e]at hs;cases hs)
 have h3:=ho.size_le;rw[hD,Maps.size_eq]at h3;simp only[Bn]at h2;omega
end S1
section
open Go.RowKit Go.Nt
theorem Ti(p:Bs)(w:D7)(hp:p.length<=1048576) :
 Calls prog 153 #[.string (D9 p)] w λe w'=>e=.returned (.string (D9 (par p)))/\w'=w:=by
 obtain⟨X,hX⟩:=Jq (D9 p);have Sx:X.size=p.length:=by rw[hX,Dd]
 have gx:Hid (∀k (h:k<X.size),X[k]'h=p.getD k 0):=λk h=>by subst hX;exact MP p k h
 have ex:Hid (∀b,X.extract 0 b=D9 (p.take b)):=λb=>by subst hX;rw[Jb];simp
 rw[<-hX];have Hx:=Jy Sx;have a3:X.size<=1048576:=by omega
 clear hX Sx hp;go_enter func153,ntmps153
 go_wp2
 go_loopw [3] (λi wr=>∃k:Nat,k<=X.size/\i=.int .i64 ((k:Int) - 1)/\wr=w/\Hid (∀j,k<=j->j<p.length->p.getD j 0≠47)) (λi _=>(intOf i+1).toNat)
 case atStart=>exact⟨X.size,AB _,rfl,rfl,Jy (λj h1 h2=>absurd h1 (by have:=Hx.o;omega))⟩
 case round =>
  obtain⟨k,hk,rfl,rfl,Hn⟩:=hrel;cases k with
  | zero =>
    have hr:par p=[]:=TN λi hi=>Hn.o i (AU _) hi
    have Hr:=Jy hr;clear hr;go_wp2;go_ret
    rw[Hr.o];exact⟨rfl,rfl⟩
  | succ k =>
    have e1:(((k+1:Nat):Int) - 1)=(k:Int):=by omega
    rw[e1];have hl:k<X.size:=by omega
    have hg:=gx.o k hl;by_cases a0:X[k]'hl=47
    ·have a1:(((X[k]'hl).toNat:Int)==47)=true:=by rw[a0];rfl
     have Hr:Hid (par p=p.take k):=Qe (by rw[<-hg];exact a0) (λi h1 h2=>Hn.o i h1 h2);have He:=Jy (ex.o k);clear hg a0;go_wp2;go_ret
     rw[Hr.o,<-He.o];exact⟨rfl,rfl⟩
    have a1:(((X[k]'hl).toNat:Int)==47)=false:=BI.2 λh=>a0 (BL.1 (by have:(47:UInt8).toNat=47:=rfl;omega))
    have a2:Hid (∀j,k<=j->j<p.length->p.getD j 0≠47):=λj h1 h2=>by
     by_cases e:j=k
     ·rw[e,<-hg];exact a0
     exact Hn.o j (by omega) h2
    clear hg a0;go_wp2;go_roundw
    case rel=>exact⟨k,by omega,by go_num,trivial,a2⟩
    case measure=>simp[intOf]
def Gm(l:List It)(p:Bs):Int:=match l.findIdx? (λx=>decide (x.path=p))with
 | some i=>(i:Int)
 | none => -1
theorem lY{l:List It}{p:Bs}{k:Nat}{x:It}(hx:l[k]? = some x)(e:x.path=p)(hn:∀j y,j<k->l[j]? = some y->y.path≠p):Gm l p=(k:Int):=by
 obtain⟨hk,rfl⟩:=AP.1 hx
 have:l.findIdx? (λx=>decide (x.path=p))=some k:=by
  rw[List.findIdx?_eq_some_iff_getElem];refine⟨hk,by simpa using e,λj hj => ?_⟩
  have:=hn j l[j] hj (AD (by omega))
  simpa using this
 unfold Gm;rw[this]
theorem XB{l:List It}{p:Bs}(hn:∀x∈l,x.path≠p):Gm l p = -1:=by
 have:l.findIdx? (λx=>decide (x.path=p))=none:=by
  rw[List.findIdx?_eq_none_iff];intro x hx;simpa using hn x hx
 unfold Gm;rw[this]
theorem Tj(l:List It)(p:Bs):(Gm l p = -1/\∀x∈l,x.path≠p)\/∃k x,Gm l p=(k:Nat)/\l[k]? = some x/\x.path=p/\∀j y,j<k->l[j]? = some y->y.path≠p:=by
 cases h:l.findIdx? (λx=>decide (x.path=p))with
 | none =>
   rw[List.findIdx?_eq_none_iff]at h;exact .inl ⟨XB λx hx=>by simpa using h x hx,λx hx=>by simpa using h x hx⟩
 | some k =>
   have h':=h;rw[List.findIdx?_eq_some_iff_getElem]at h;obtain⟨hk,h1,h2⟩:=h;refine .inr ⟨k,l[k],by unfold Gm;rw[h'],AD hk,by simpa using h1,λj y hj hy => ?_⟩;obtain⟨a0,rfl⟩:=AP.1 hy;simpa using h2 j hj
theorem O9(a:Option Addr)(c:Nat)(l:List It)(p:Bs)(w:D7)(hl:Dz w a l)(hn:l.length<=1048576) :
 Calls prog 154 #[.slice a l.length c,.string (D9 p)] w λe w'=>e=.returned (.int .i64 (Gm l p))/\w'=w:=by
 obtain⟨P,hP⟩:=Jq (D9 p);rw[<-hP];have HP:=Jy hP;clear hP;go_enter func154,ntmps154
 go_wp2
 go_loopw [5] (λi wr=>∃k:Nat,k<=l.length/\i=.int .i64 k/\wr=w/\Hid (∀j x,j<k->l[j]? = some x->x.path≠p)) (λi _=>l.length - (intOf i).toNat)
 case atStart=>exact⟨0,AU _,rfl,rfl,Jy (λj x h=>absurd h (by omega))⟩
 case round =>
  obtain⟨k,hk,rfl,rfl,Hn⟩:=hrel;by_cases a0:k<l.length
  ·obtain⟨b,off,rfl,hc⟩:=hl (λh=>by rw[h]at a0;simp at a0);obtain⟨x,hx⟩:∃x,l[k]? = some x:=⟨_,AD a0⟩;have hi:=hc k x hx;have c0:=hi.1;clear hc hi;have Hx:=Jy hx;by_cases e:x.path=p
   ·have e':((D9 x.path).toList==P.toList)=true:=by rw[HP.o,O8];simpa using e
    have Hr:Hid (Gm l p=(k:Int)):=lY Hx.o e Hn.o;clear hx e;go_wp2;go_ret
    exact⟨KH Hr.o.symm,rfl⟩
   have e':((D9 x.path).toList==P.toList)=false:=by rw[HP.o,O8];simpa using e
   have a1:Hid (∀j x,j<k+1->l[j]? = some x->x.path≠p):=λj y hj hy=>by
    by_cases h:j=k
    ·subst h;rw[hx]at hy;cases hy;exact e
    exact Hn.o j y (by omega) hy
   clear hx e;go_wp2;go_roundw
   case rel=>exact⟨k+1,by omega,by go_num,trivial,a1⟩
   case measure=>simp[intOf];omega
  have Hr:Hid (Gm l p = -1):=XB λx hx=>by
   obtain⟨j,hj,he⟩:=Bl hx;exact Hn.o j x (by omega) (by rw[AD hj,he])
  go_wp2;go_ret
  exact⟨KH Hr.o.symm,rfl⟩
def JB(x:It):Value:=.agg #[.string (D9 x.path),.bool x.dir,.string (D9 x.data),.int .i64 x.mode,.int .i64 x.time]
theorem Vn(op:BinOp)(x y:Operand)(xs ys:Array Value)(w:D7):(eqGuard op 39 x y (.agg xs) (.agg ys)).run prog w=.ok () w:=run_eqGuard_agg w op 39 x y xs ys (by kernel_rfl)
theorem qS(x y:It):(if(D9 x.path).toList==(D9 y.path).toList then if x.dir==y.dir then if(D9 x.data).toList==(D9 y.data).toList then if x.mode==y.mode then x.time==y.time else false else false else false else false)=decide (x=y):=by
 rw[O8,O8];obtain⟨a1,a2,a3,a4,a5⟩:=x;obtain⟨b1,b2,b3,b4,b5⟩:=y;simp only[It.mk.injEq];by_cases h1:a1=b1<;>by_cases h2:a2=b2<;>by_cases h3:a3=b3<;>by_cases h4:a4=b4<;>by_cases h5:a5=b5<;>simp[h1,h2,h3,h4,h5]
theorem Zs(x y:It)(w:D7):(Op.equalIn 10000 39 (JB x) (JB y)).run prog w=.ok (decide (x=y)) w:=by
 unfold JB;rw[run_equalIn_agg w 9999 39 _ _ (by kernel_rfl) (by kernel_rfl)];rw[show prog.fieldsOf 39=_ from by unfold Program.fieldsOf;rw[underlying39]];rw[<-qS];simp[Op.eqFields,part,go_sem,underlying9,underlying4,underlying3];by_cases h1:(D9 x.path).toList=(D9 y.path).toList<;>by_cases h2:x.dir=y.dir<;>by_cases h3:(D9 x.data).toList=(D9 y.data).toList<;>by_cases h4:x.mode=y.mode<;>by_cases h5:x.time=y.time<;>simp[h1,h2,h3,h4,h5]
theorem Yr(x y:It)(w:D7):(binOp .neq 39 (JB x) (JB y)).run prog w=.ok (.bool (!decide (x=y))) w:=by
 have h:=Zs x y w;unfold JB at *;rw[run_neq_struct,h];rfl
theorem GD(a b:Option Addr)(c d:Nat)(l m:List It)(w:D7)(ha:Dz w a l)(hb:Dz w b m)(hn:l.length<=1048576)(hm:m.length<=1048576) :
 Calls prog 54 #[.slice a l.length c,.slice b m.length d] w λe w'=>e=.returned (.bool (decide (l=m)))/\∃q,w'=w.drewN q:=by
 by_cases a0:l.length=m.length
 ·obtain⟨N,hN⟩:=Jq m.length;rw[a0,<-hN];have Hl:=Jy (a0.trans hN.symm);have Hm:=Jy hN.symm;have a8:N<=1048576:=by omega
  clear a0 hN hn hm;go_enter func54,ntmps54
  go_wp2
  go_loopw [5] (λi wr=>∃k:Nat,k<=N/\i=.int .i64 k/\(∃q,wr=w.drewN q)/\Hid (l.take k=m.take k)) (λi _=>N - (intOf i).toNat)
  case atStart=>exact⟨0,AU _,rfl,⟨0,rfl⟩,Jy (by simp)⟩
  obtain⟨k,hk,rfl,⟨q,rfl⟩,Hn⟩:=hrel;by_cases a6:k<N
  ·have a3:k<l.length:=by have:=Hl.o;omega
   have a2:k<m.length:=by have:=Hm.o;omega
   obtain⟨b1,o1,rfl,h1⟩:=ha (λh=>by rw[h]at a3;simp at a3);obtain⟨b2,o2,rfl,h2⟩:=hb (λh=>by rw[h]at a2;simp at a2);obtain⟨x,hx⟩:∃x,l[k]? = some x:=⟨_,AD a3⟩;obtain⟨y,hy⟩:∃y,m[k]? = some y:=⟨_,AD a2⟩;obtain⟨x0,x1,x2,x3,x4⟩:=h1 k x hx;obtain⟨y0,y1,y2,y3,y4⟩:=h2 k y hy;have Hx:=Jy hx;have Hy:=Jy hy;have a1:=λw=>Yr x y w
   unfold JB at a1;have a7:=Vn;clear h1 h2 ha hb hx hy a3 a2;by_cases e:x=y
   ·have ed:(!decide (x=y))=false:=by simp[e]
    rw[ed]at a1;have a5:Hid (l.take (k+1)=m.take (k+1)):=by
     show l.take (k+1)=m.take (k+1);rw[Ah,Ah,Hn.o,Hx.o,Hy.o,e]
    clear e ed;go_wp2
    go_quiet (fail)
    go_wp2;go_roundw
    case rel=>exact⟨k+1,by omega,by go_num,⟨_,rfl⟩,a5⟩
    case measure=>simp[intOf];omega
   have ed:(!decide (x=y))=true:=by simp[e]
   rw[ed]at a1;have Hr:Hid (decide (l=m)=false):=Bc λh=>by
    have h1:=Hx.o;have h2:=Hy.o;rw[h,h2]at h1;cases h1
    exact e rfl
   clear e ed;go_wp2
   go_quiet (fail)
   go_wp2;go_ret
   exact⟨Ir Hr.o.symm,Ox _ _ _⟩
  have Hr:Hid (decide (l=m)=true):=Cm (by
   have h1:=Hn.o;have h2:=Hl.o;have h3:=Hm.o;rw[AT (by omega),AT (by omega)]at h1;exact h1)
  go_wp2;go_ret
  exact⟨Ir Hr.o.symm,q,rfl⟩
 have Hr:Hid (decide (l=m)=false):=Bc λh=>a0 (by rw[h])
 have a4:((l.length:Int) != (m.length:Int))=true:=bne_iff_ne.2 (by omega);go_enter func54,ntmps54
 go_wp2;go_ret
 exact⟨Ir Hr.o.symm,0,rfl⟩
variable {l:List It} {w:D7} {b o B:Nat} {x:It} {v:Value}
theorem Iw:(prog.info? 39).map (λi=>(i.zero,i.size,i.bytes))=some (some (.agg #[.string ByteArray.empty,.bool false,.string ByteArray.empty,.int .i64 0,.int .i64 0]),5,56):=by kernel_rfl
def IU(x:It):List Value:=[.string (D9 x.path),.bool x.dir,.string (D9 x.data),.int .i64 x.mode,.int .i64 x.time]
def E9(l:List It):List Value:=l.flatMap IU
theorem oK:E9 []=[]:=rfl
theorem Pw(x:It)(l:List It):E9 (x :: l)=IU x++E9 l:=rfl
theorem Oq(l m:List It):E9 (l++m)=E9 l++E9 m:=by simp[E9]
theorem OA(x:It):E9 [x]=IU x:=by simp[E9]
theorem Mm(l:List It):(E9 l).length=l.length*5:=by
 induction l with
 | nil=>rfl
 | cons x l ih=>rw[Pw,AN,ih];simp[IU];omega
theorem MB:∀{l:List It} {k:Nat} {x:It},l[k]? = some x->∀j,j<5->(E9 l)[k*5+j]? = (IU x)[j]?
 | [],k,x,h,_,_=>by simp at h
 | y :: l,0,x,h,j,hj=>by
   simp at h;subst h;rw[Pw,Nat.zero_mul,Ao,Ax (by simp[IU];omega)]
 | y :: l,k+1,x,h,j,hj=>by
   have h':l[k]? = some x:=by simpa using h
   rw[Pw,Ad (by simp[IU];omega)]
   have:(k+1)*5+j - (IU y).length=k*5+j:=by simp[IU];omega
   rw[this];exact MB h' j hj
theorem N3:∀u∈E9 l,u.oneCell'=true:=by
 intro u hu;obtain⟨x,_,hx⟩:=List.mem_flatMap.1 hu;simp only[IU,As,List.not_mem_nil,or_false]at hx;rcases hx with rfl | rfl | rfl | rfl | rfl<;>rfl
theorem addr_add(b o j:Nat):(⟨b,o,none⟩:Addr).add j=⟨b,o+j,none⟩:=by unfold Addr.add;split<;>simp_all
theorem E4.of_cells(h:∀j u,(IU x)[j]? = some u->w.cell? ⟨b,o+j,none⟩=some u):E4 w b o x:=
 ⟨h 0 _ rfl,h 1 _ rfl,h 2 _ rfl,h 3 _ rfl,h 4 _ rfl⟩
theorem E4.cell(h:E4 w b o x){j:Nat}{u:Value}(hu:(IU x)[j]? = some u):w.cell? ⟨b,o+j,none⟩=some u:=by
 obtain⟨h0,h1,h2,h3,h4⟩:=h
 match j,hu with
 | 0,hu=>simp[IU]at hu;subst hu;exact h0
 | 1,hu=>simp[IU]at hu;subst hu;exact h1
 | 2,hu=>simp[IU]at hu;subst hu;exact h2
 | 3,hu=>simp[IU]at hu;subst hu;exact h3
 | 4,hu=>simp[IU]at hu;subst hu;exact h4
 | j+5,hu=>simp[IU]at hu
theorem RZ(h:∀k (x:It),l[k]? = some x->E4 w b (o+k*5) x):∀j u,(E9 l)[j]? = some u->w.cell? ((⟨b,o,none⟩:Addr).add j)=some u:=by
 intro j u hu;have hj:j<l.length*5:=by
  have:=(AP.1 hu).1
  rw[Mm]at this;exact this
 have hk:j/5<l.length:=by omega
 have hx:=AD hk;have e:j=j/5*5+j%5:=by omega
 rw[e,MB hx (j%5) (by omega)]at hu;rw[addr_add]
 have:=(h (j/5) _ hx).cell hu
 rw[show o+j/5*5+j%5=o+j by omega]at this;exact this
theorem Vm(h:w.ownsRow B 39 5 v l.length (E9 l)):(v=.slice none 0 0/\l=[])\/∃g cap,v=.slice (some ⟨g,0,none⟩) l.length cap/\B<=g/\g<w.heap.size/\l.length<=cap/\cap<=maxLen/\∀k (x:It),l[k]? = some x->E4 w g (0+k*5) x:=by
 rcases h.2 with⟨rfl,h0⟩ | ⟨g,cap,cur,rfl,hb,hh,h1,h2,h3,h4⟩
 ·exact .inl ⟨rfl,Bf h0⟩
 refine .inr ⟨g,cap,rfl,hb,lt_of_heap hh,h1,h2,λk x hx=>E4.of_cells λj u hu => ?_⟩;have hk:k<l.length:=(AP.1 hx).1;have hj:j<5:=by have:=(AP.1 hu).1;simpa[IU]using this
 have:=MB hx j hj
 rw[hu,<-h4,Ak (by omega)]at this;rw[AG w g _ cur 39 (0,0) hh,Ao];simpa using this
theorem OY(h:w.ownsRow B 39 5 v l.length (E9 l)):∃a c,v=.slice a l.length c/\Dz w a l:=by
 rcases Vm h with⟨rfl,rfl⟩ | ⟨g,cap,rfl,_,_,_,_,hc⟩
 ·exact⟨none,0,rfl,λhn=>absurd rfl hn⟩
 exact⟨_,cap,rfl,λ_=>⟨g,0,rfl,hc⟩⟩
def ins(l:List It)(x:It):List It:=l.takeWhile (λy=>less y.path x.path)++x :: l.dropWhile (λy=>less y.path x.path)
theorem Xk{k:Nat}(hk:k<=l.length)(h1:∀j y,j<k->l[j]? = some y->less y.path x.path=true)(h2:∀y,l[k]? = some y->less y.path x.path=false):ins l x=l.take k++x :: l.drop k:=by
 induction l generalizing k with
 | nil=>simp at hk;subst hk;rfl
 | cons y l ih =>
   cases k with
   | zero =>
     have:=h2 y rfl
     simp[ins,this]
   | succ k =>
     have h0:=h1 0 y (by omega) rfl
     have:=ih (k:=k) (by simpa using hk) (λj z hj hz=>h1 (j+1) z (by omega) (by simpa using hz)) (λz hz=>h2 z (by simpa using hz))
     unfold ins at this ⊢;simp only[List.takeWhile_cons,List.dropWhile_cons,h0,if_true,BR,this,List.take_succ_cons,List.drop_succ_cons]
structure Nd where
 dir:Bool
 data:Bs
 mode:Int
 time:Int
deriving DecidableEq,Inhabited
def nd(x:It):Nd:=⟨x.dir,x.data,x.mode,x.time⟩
def JX(n:Nd):Value:=.agg #[.bool n.dir,.string (D9 n.data),.int .i64 n.mode,.int .i64 n.time]
def IJ:Value->Option (DataW Nd × List MemPlace)
 | .agg cs=>match cs.toList with
   | [.bool d,.string s,.int .i64 m,.int .i64 t]=>some (.held ⟨d,s.data.toList,m,t⟩,[])
   | _=>none
 | _=>none
theorem RN(n:Nd):IJ (JX n)=some (.held n,[]):=rfl
theorem Td{v:Value}{n:Nd}{ps:List MemPlace}(h:IJ v=some (.held n,ps)):v=JX n:=by
 unfold IJ at h
 split at h
 ·rename_i cs
  split at h
  ·rename_i d s m t hc;simp at h;obtain⟨rfl,_⟩:=h
   have:cs=#[.bool d,.string s,.int .i64 m,.int .i64 t]:=by
    apply Array.toList_inj.1
    exact hc
   rw[this];unfold JX;rw[<-ZW]
  cases h
 cases h
def at?(l:List It)(p:Bs):Option It:=l.find? λx=>decide (x.path=p)
theorem Ml{l:List It}{p:Bs}{x:It}(h:at? l p=some x):x∈l/\x.path=p:=⟨List.mem_of_find?_eq_some h,by simpa using List.find?_some h⟩
theorem Ge{l:List It}{p:Bs}:at? l p=none↔∀x∈l,x.path≠p:=by simp[at?]
theorem at_mem{l:List It}(hn:(l.map (·.path)).Nodup){x:It}(hx:x∈l):at? l x.path=some x:=by
 induction l with
 | nil=>simp at hx
 | cons y l ih =>
   unfold at?;rw[List.find?_cons];by_cases e:y.path=x.path
   ·simp[e];simp at hn hx;rcases hx with rfl | hx
    ·rfl
    exact absurd e.symm (λe'=>hn.1 x hx e')
   simp[e];simp at hn hx;rcases hx with rfl | hx
   ·exact absurd rfl e
   exact ih hn.2 hx
theorem mP{l:List It}(hn:(l.map (·.path)).Nodup)(p:Bs):El l p=(match at? l p with | some x=>x.dir | none=>false):=by
 cases h:at? l p with
 | none =>
   have h':=Ge.1 h;unfold El;simp only[List.any_eq_false];intro x hx;simp[h' x hx]
 | some x =>
   obtain⟨hx,rfl⟩:=Ml h;obtain⟨k,hk,rfl⟩:=Bl hx;show El l _=l[k].dir;unfold El;cases hd:l[k].dir with
   | true=>exact Bq.2 ⟨_,hx,by simp[hd]⟩
   | false =>
     rw[List.any_eq_false];intro y hy;by_cases e:y.path=l[k].path
     ·have h1:=at_mem hn hy;have h2:=at_mem hn hx;rw[e,h2]at h1;cases h1
      simp[hd]
     simp[e]
def Has(D:DataW Nd)(l:List It):Prop:=
 ∀p,Maps.has D (.string p)=(at? l p).isSome/\∀x,at? l p=some x->∀z,D.atKey (.string p) z=.held (nd x)
def Dk(w:D7)(b:Nat)(l:List It):Prop:=
 ∃D:DataW Nd,w.ownsMap prog 9 IJ b (Maps.size D) D/\Has D l
theorem J0:Maps.Keyed prog 9:=Maps.string_keyed underlying9
theorem Kd(w:D7):(zeroValue 117).run prog w=.ok (JX ⟨false,[],0,0⟩) w:=by kernel_rfl
theorem tight{w:D7}{b n:Nat}{D:DataW Nd}(h:w.ownsMap prog 9 IJ b n D):w.ownsMap prog 9 IJ b (Maps.size D) D:=by
 obtain⟨es,a0,hb,F,hs,rfl⟩:=h;exact⟨es,a0,hb,F,by simp[Maps.size,length_sorted],rfl⟩
theorem Dk.lt{w:D7}{b:Nat}{l:List It}(h:Dk w b l):b<w.heap.size:=by
 obtain⟨D,h,_⟩:=h;exact h.lt
theorem Dk.of_block{w w':D7}{b:Nat}{l:List It}(h:Dk w b l)(hb:w'.heap[b]? = w.heap[b]?):Dk w' b l:=by
 obtain⟨D,⟨es,a0,h1,h2⟩,hh⟩:=h;exact⟨D,⟨es,a0,hb.trans h1,h2⟩,hh⟩
theorem Dk.below{w w':D7}{B b:Nat}{l:List It}(h:Dk w b l)(hb:Below B w w')(hlt:b<B):Dk w' b l:=h.of_block (hb.block b hlt)
theorem lL(w:D7):Dk (w.alloc (.map #[] 0)) w.heap.size []:=
 ⟨.map [],Cw w _ _ _,λp=>⟨rfl,λx hx=>by simp[at?]at hx⟩⟩
theorem NZ{p:Bs}(h:p.length<=maxLen):keyOf prog 9 (.string (D9 p))=some (.string p):=WideMaps.keyOf_string_mk underlying9 (by rw[Dd];exact h)
theorem Dk.H7{w:D7}{b:Nat}{l:List It}{p:Bs}{x:It}(h:Dk w b l)(hp:p.length<=maxLen)(hx:at? l p=some x) :
 (Instr.lookup 77 (.map (some b)) (.string (D9 p)) true).run prog w=.ok (.tuple #[JX (nd x),.bool true]) w/\(Instr.lookup 77 (.map (some b)) (.string (D9 p)) false).run prog w=.ok (JX (nd x)) w:=by
 obtain⟨D,ho,hh⟩:=h;obtain⟨v,ps,h1,h2⟩:=ho.look_ok J0 underlying77 (Kd w) (RN _) (NZ hp);obtain⟨v',a0,h3,h4⟩:=ho.lookup J0 underlying77 (Kd w) (RN _) (NZ hp);rw[(hh p).2 x hx]at h2 h4;rw[Td h2,(hh p).1,hx]at h1;rw[Td h4]at h3;exact⟨h1,h3⟩
theorem Dk.Iy{w:D7}{b:Nat}{l:List It}{p:Bs}(h:Dk w b l)(hp:p.length<=maxLen)(hx:at? l p=none) :
 (Instr.lookup 77 (.map (some b)) (.string (D9 p)) true).run prog w=.ok (.tuple #[JX ⟨false,[],0,0⟩,.bool false]) w/\(Instr.lookup 77 (.map (some b)) (.string (D9 p)) false).run prog w=.ok (JX ⟨false,[],0,0⟩) w:=by
 obtain⟨D,ho,hh⟩:=h;have a0:Maps.has D (.string p)=false:=by rw[(hh p).1,hx];rfl
 obtain⟨v,ps,h1,h2⟩:=ho.look_ok J0 underlying77 (Kd w) (RN _) (NZ hp);obtain⟨v',a1,h3,h4⟩:=ho.lookup J0 underlying77 (Kd w) (RN _) (NZ hp);rw[Maps.atKey_of_not_has a0]at h2 h4;rw[Td h2,a0]at h1;rw[Td h4]at h3;exact⟨h1,h3⟩
theorem keys_perm{w:D7}{b n:Nat}{l:List It}{D:DataW Nd}(ho:w.ownsMap prog 9 IJ b n D)(hh:Has D l)(hn:(l.map (·.path)).Nodup):(l.map (·.path)).Perm (strKeys D):=by
 obtain⟨es,rfl,hp⟩:=ho.tidy J0;obtain⟨a0,e,hk⟩:=ho.keysOf;cases e
 refine perm_strKeys hp (λp h => ?_) hn (λx => ?_)
 ·obtain⟨v,hv⟩:=hk p h;obtain⟨x,_,hx,_⟩:=Maps.keyOf_str underlying9 hv;exact⟨x,hx⟩
 rw[(hh x).1]
 constructor
 ·intro h;obtain⟨y,hy,rfl⟩:=Am.1 h;rw[at_mem hn hy];rfl
 intro h;obtain⟨y,hy⟩:=CC.1 h;obtain⟨h1,rfl⟩:=Ml hy;exact Am.2 ⟨y,h1,rfl⟩
theorem sW(D:DataW Nd)(h:Maps.IsMap D):(strKeys D).length=Maps.size D:=by
 obtain⟨es,rfl⟩:=h;simp[strKeys,Maps.size]
theorem Ry{w:D7}{b n:Nat}{l:List It}{D:DataW Nd}(ho:w.ownsMap prog 9 IJ b n D)(hh:Has D l)(hn:(l.map (·.path)).Nodup):Maps.size D=l.length:=by
 have h:=(keys_perm ho hh hn).length_eq;rw[sW D ho.isMap]at h;simpa using h.symm
theorem Dk.len{w:D7}{b:Nat}{l:List It}(h:Dk w b l)(hn:(l.map (·.path)).Nodup)(ty:TypeId):(Builtin.len_ #[77] ty #[.map (some b)]).run prog w=.ok (.int .i64 l.length) w:=by
 obtain⟨D,ho,hh⟩:=h
 have:=ho.len underlying77 ty
 rw[Ry ho hh hn]at this;exact this
def Ie(l:List It)(x:It):List It:=l.filter (λy=>decide (y.path≠x.path))++[x]
theorem Ww(l m:List It)(p:Bs):at? (l++m) p=(at? l p).or (at? m p):=by simp[at?,List.find?_append]
theorem j6{l:List It}{p q:Bs}(h:p≠q):at? (l.filter (λy=>decide (y.path≠q))) p=at? l p:=by
 induction l with
 | nil=>rfl
 | cons y l ih =>
   unfold at? at ih ⊢;by_cases e:y.path=q
   ·have:y.path≠p:=λe'=>h (e'.symm.trans e)
    rw[List.filter_cons_of_neg (by simp[e]),List.find?_cons_of_neg (by simp[this]),ih]
   rw[List.filter_cons_of_pos (by simp[e]),List.find?_cons,List.find?_cons,ih]
theorem ft(l:List It)(q:Bs):at? (l.filter (λy=>decide (y.path≠q))) q=none:=by
 rw[Ge];intro x hx;simpa using(BC.1 hx).2
theorem YL(l:List It)(x:It):at? (Ie l x) x.path=some x:=by
 rw[Ie,Ww,ft];simp[at?]
theorem YB{l:List It}{x:It}{p:Bs}(h:p≠x.path):at? (Ie l x) p=at? l p:=by
 rw[Ie,Ww,j6 h]
 have:at? [x] p=none:=by rw[Ge];intro y hy;simp at hy;subst hy;exact λe=>h e.symm
 rw[this];cases at? l p<;>rfl
theorem Has.put{D:DataW Nd}{l:List It}(h:Has D l)(hm:Maps.IsMap D)(x:It):Has (D.put (.string x.path) (.held (nd x))) (Ie l x):=by
 intro p;by_cases e:p=x.path
 ·subst e;rw[YL,Cj hm (k:=.string x.path) trivial];refine⟨rfl,λy hy z => ?_⟩;cases hy
  exact DG hm (k:=.string x.path) trivial _ _
 have a0:(Lit.string p)≠.string x.path:=λh=>e (by cases h;rfl)
 rw[YB e,Bk a0];exact⟨(h p).1,λy hy z=>by rw[DD a0];exact(h p).2 y hy z⟩
theorem Has.same{D:DataW Nd}{l m:List It}(h:Has D l)(e:∀p,at? l p=at? m p):Has D m:=λp=>by rw[<-e p];exact h p
theorem kH{l:List It}{x:It}(h:∀y∈l,y.path≠x.path):Ie l x=l++[x]:=by
 unfold Ie;rw[List.filter_eq_self.2 (λy hy=>by simpa using h y hy)]
theorem Dk.store{w:D7}{b:Nat}{l:List It}(h:Dk w b l)(hn:(l.map (·.path)).Nodup)(hl:l.length<maxLen)(x:It)(hp:x.path.length<=maxLen) :
 ∃w',(Instr.mapUpdate 77 (.map (some b)) (.string (D9 x.path)) (JX (nd x))).run prog w=.ok () w'/\Dk w' b (Ie l x)/\w.mapTurned w' b:=by
 obtain⟨D,ho,hh⟩:=h;obtain⟨w',h1,h2,h3⟩:=ho.store J0 underlying77 (by rw[Ry ho hh hn];exact hl) (NZ hp) (RN (nd x));exact⟨w',h1,⟨_,tight h2,hh.put ho.isMap x⟩,h3⟩
theorem ig(n:Int)(w:D7):(Instr.makeMap 77 (some (.int .i64 n))).run prog w=.ok (.map (some w.heap.size)) (w.alloc (.map #[] 0)):=by
 simp[Instr.makeMap,Cb underlying77,asInt,asIntOf,Result.andThen]
def GV(l:List It)(p:Bs):Nat->Nat->Int
 | 0,_=>0
 | n+1,k=>if p.getD k 0=47 then
    match at? l (p.take k)with
    | none=>4
    | some x=>if x.dir then GV l p n (k+1)else 6
   else GV l p n (k+1)
def ER(l:List It)(p:Bs):Int:=GV l p p.length 0
theorem Vi(l:List It)(p:Bs)(hn:(l.map (·.path)).Nodup):∀n k,GV l p n k=0↔∀i,k<=i->i<k+n->p.getD i 0=47->El l (p.take i)=true
 | 0,k=>by simp[GV];intro i h1 h2;omega
 | n+1,k=>by
   unfold GV;by_cases h:p.getD k 0=47
   ·rw[AE h];have hd:=mP hn (p.take k);cases ha:at? l (p.take k)with
    | none =>
      rw[ha]at hd;simp only
      constructor
      ·intro h';cases h'
      intro h'
      have:=h' k (AB _) (by omega) h
      rw[hd]at this;cases this
    | some x =>
      rw[ha]at hd;simp only;simp only at hd;by_cases hx:x.dir=true
      ·rw[AE hx,Vi l p hn n (k+1)]
       constructor
       ·intro h' i h1 h2 h3;by_cases e:i=k
        ·subst e;rw[hd,hx]
        exact h' i (by omega) (by omega) h3
       exact λh' i h1 h2 h3=>h' i (by omega) (by omega) h3
      rw[AC hx]
      constructor
      ·intro h';cases h'
      intro h'
      have:=h' k (AB _) (by omega) h
      rw[hd]at this;exact absurd this hx
   rw[AC h,Vi l p hn n (k+1)]
   constructor
   ·intro h' i h1 h2 h3;by_cases e:i=k
    ·subst e;exact absurd h3 h
    exact h' i (by omega) (by omega) h3
   exact λh' i h1 h2 h3=>h' i (by omega) (by omega) h3
theorem YG(l:List It)(p:Bs)(hn:(l.map (·.path)).Nodup):Nx l p=decide (ER l p=0):=by
 unfold Nx ER;rw[Bool.eq_iff_iff,decide_eq_true_iff,Vi l p hn,BB]
 constructor
 ·intro h i _ h2 h3
  have:=h i (CH.2 (by omega))
  rw[h3]at this;simpa using this
 intro h i hi;have a0:=CH.1 hi;by_cases e:p.getD i 0=47
 ·have:=h i (AU _) (by omega) e
  simp[this]
 have e':decide (p.getD i 0≠47)=true:=by simpa using e
 rw[e'];rfl
theorem Zt(b:Nat)(l:List It)(p:Bs)(w:D7)(hT:Dk w b l)(hp:p.length<=1048576) :
 Calls prog 73 #[.map (some b),.string (D9 p)] w λe w'=>Below w.heap.size w w'/\e=.returned (.int .i64 (ER l p)):=by
 obtain⟨X,hX⟩:=Jq (D9 p);have Sx:X.size=p.length:=by rw[hX,Dd]
 have gx:Hid (∀k (h:k<X.size),X[k]'h=p.getD k 0):=λk h=>by subst hX;exact MP p k h
 have ex:Hid (∀b,X.extract 0 b=D9 (p.take b)):=λb=>by subst hX;rw[Jb];simp
 rw[<-hX];have Hx:=Jy Sx;have HT:=Jy hT;have a7:X.size<=1048576:=by omega
 clear hX Sx hp hT;go_enter func73,ntmps73
 go_wp2
 go_loopw [10] (λi wr=>∃k:Nat,k<=X.size/\i=.int .i64 k/\Hid (Below w.heap.size w wr)/\Hid (ER l p=GV l p (X.size - k) k)) (λi _=>X.size - (intOf i).toNat)
 case atStart=>exact⟨0,AU _,rfl,Jy (AM _ _),by have:=Hx.o;exact Jy (by rw[this];rfl)⟩
 case round =>
  obtain⟨k,hk,rfl,Hb,He⟩:=hrel;by_cases hlt:k<X.size
  ·have hg:=gx.o k hlt;have hs:X.size - k=(X.size - (k+1))+1:=by omega
   have a0:=He.o;rw[hs]at a0;by_cases a1:X[k]'hlt=47
   ·have a4:(((X[k]'hlt).toNat:Int) != 47)=false:=by rw[a1];rfl
    have a2:=HT.o.below Hb.o HT.o.lt;have a6:(p.take k).length<=maxLen:=by rw[Ae];unfold maxLen;have:=Hx.o;omega
    have hu:GV l p (X.size - (k+1)+1) k=match at? l (p.take k)with | none=>4 | some x=>if x.dir then GV l p (X.size - (k+1)) (k+1)else 6:=by
     show(if p.getD k 0=47 then _ else _)=_;rw[AE (by rw[<-hg];exact a1)]
    rw[hu]at a0;have a3:=Hb.o.size;cases ha:at? l (p.take k)with
    | none =>
      rw[ha]at a0;have hl:=(a2.Iy a6 ha).1;rw[<-ex.o]at hl;have HE:=Jy a0;unfold JX at hl;clear a0 hu hg a1 hs ha a2;go_wp2;go_ret
      exact⟨Hb.o.alloc a3 _,KH HE.o.symm⟩
    | some x =>
      rw[ha]at a0;have hl:=(a2.H7 a6 ha).1;rw[<-ex.o]at hl;unfold JX nd at hl;obtain⟨xd,a5⟩:∃o,o=x.dir:=⟨_,rfl⟩;simp only at a0 hl;rw[<-a5]at a0 hl;clear hu hg a1 hs ha a2 a5;cases xd with
      | true =>
        have HE:Hid (ER l p=GV l p (X.size - (k+1)) (k+1)):=Jy (by simpa using a0);clear a0;go_wp2;go_roundw
        case rel=>exact⟨k+1,by omega,by go_num,Jy (Hb.o.alloc a3 _),HE⟩
        case measure=>simp[intOf];omega
      | false =>
        have HE:Hid (ER l p=6):=Jy (by simpa using a0);clear a0;go_wp2;go_ret
        exact⟨Hb.o.alloc a3 _,KH HE.o.symm⟩
   have a4:(((X[k]'hlt).toNat:Int) != 47)=true:=bne_iff_ne.2 λh=>a1 (BL.1 (by have:(47:UInt8).toNat=47:=rfl;omega))
   have HE:Hid (ER l p=GV l p (X.size - (k+1)) (k+1)):=by
    refine a0.trans ?_;show(if p.getD k 0=47 then _ else _)=_;rw[AC (by rw[<-hg];exact a1)]
   clear a0 hg a1 hs;go_wp2;go_roundw
   case rel=>exact⟨k+1,by omega,by go_num,Hb,HE⟩
   case measure=>simp[intOf];omega
  have HE:Hid (ER l p=0):=by
   have:=He.o
   rw[show X.size - k=0 by omega]at this;exact this
  go_wp2;go_ret
  exact⟨Hb.o,KH HE.o.symm⟩
end
end Go.Proofs.YtodmdkhdbfbfgaaGreatDoor
