/- Lemmas. -/
import Derived.DeepKeys4
import Derived.Maps.AppendAt
import Derived.Test.YtodmdkhdbfbfgaaGreatDoorM04
set_option linter.unusedVariables false
set_option linter.unusedSimpArgs false
set_option maxRecDepth 100000
set_option maxHeartbeats 8000000
open Go.Proofs.Tryz
abbrev Go.AZ:=@Go.World.ownsRow_nil
abbrev Go.Ar:=@Go.wpList_append_own
abbrev Go.Bg:=@Go.cell_one_new
abbrev Go.DD:=@Go.Maps.atKey_put_other
abbrev Go.DG:=@Go.Maps.atKey_put_same
namespace Go.Proofs.YtodmdkhdbfbfgaaGreatDoor
namespace S1
open Go.RowKit Pk
theorem XZ(K:Nat->Bool)(s:LS):(EF K s).m.nb=s.m.nb/\(EF K s).m.np=s.m.np/\(EF K s).left.length<=s.left.length/\(EF K s).p<=s.m.np/\(EF K s).b=(s.b+1)%s.m.nb:=by
 obtain⟨k1,k2,k3⟩:=OW s.m K s.Q s.b;unfold EF
 split
 ·obtain⟨q1,q2,q3,q4⟩:=MW ((s.b+1)%s.m.nb) s.left (Di s.m K s.Q s.b).2.1 (Di s.m K s.Q s.b).2.2.2 s.S;exact⟨q1.trans k1,q2.trans k2,q3,by have:=q4 (by rw[k2];exact k3);rw[k2]at this;exact this,rfl⟩
 exact⟨k1,k2,AB _,k3,rfl⟩
theorem YV(s:LS):s.prog.m.nb=s.m.nb/\s.prog.m.np=s.m.np/\s.prog.left.length<=s.left.length/\(s.p<=s.m.np->s.prog.p<=s.m.np):=MW s.b s.left s.m s.p s.S
theorem Vw(b:Nat):∀(l:List D8) (m:M) (p:Nat) (S:Nat->Bool),∀x∈(Df b l m p S).1,x∈l
 | [],m,p,S,x,h=>h
 | y :: ys,m,p,S,x,h=>by
   rw[Df]at h
   split at h
   ·split at h
    ·exact CF _ (Vw b ys _ _ _ x h)
    exact h
   exact h
def VB(w:D7)(lo hi cb lb:Nat)(L:Loc)(lv:Lv)(kv qv:Option Nat)(nk nq:Nat)(K:Nat->Bool)(ib ni:Nat)(s t:LS)(e:Ending)(w':D7):Prop:=
 e=.returned (.bool t.left.isEmpty)/\EO w' lo hi cb lb L lv kv qv nk nq t.m K t.Q t.b t.p/\EK w' ib (ni+40*s.left.length) t.S/\Fm (λk=>Ew lo hi lb kv qv k\/k=ib) w w'
theorem rq(w:D7)(lo hi cb lb:Nat)(L:Loc)(lv:Lv)(kv qv:Option Nat)(nk nq:Nat)(K:Nat->Bool)(s:LS)(ib ni g o c:Nat)
 (h:EO w lo hi cb lb L lv kv qv nk nq s.m K s.Q s.b s.p) (hb:s.b<1000) (hp:s.p<=s.m.np) (hS:EK w ib ni s.S) (hni:ni+40*s.left.length<=900000) (ha:Aside lo hi lb kv qv ib g) (ht:Ff w g o s.left) (hlen:∀x∈s.left,x.length<=64) (hlc:s.left.length<=c) (hc:c<=20000) :
 Calls prog 128 #[.pointer (some ⟨lb,0,none⟩),.slice (some ⟨g,o,none⟩) s.left.length c,.map (some ib)] w λe w'=>VB w lo hi cb lb L lv kv qv nk nq K ib ni s (E7 K s) e w':=by
 have aB:=h.wf.Jv;have aw:=h.wf.Iu;have aV:=h.wf.KZ;have bh:=Jy (λ(V:D7) (m':M) (hV:CP V lo hi cb L m')=>Er V lo hi cb L m' hV);have bb:=Jy (λ(V:D7) (m':M) (hV:CP V lo hi cb L m')=>Em V lo hi cb L m' hV);have bj:=Jy (λ(V:D7) (m':M) (hV:CP V lo hi cb L m')=>EW V lo hi cb L m' hV);have bp:=Jy (λ(V:D7) (s':LS) (hV:EO V lo hi cb lb L lv kv qv nk nq s'.m K s'.Q s'.b s'.p) (hb':s'.b<1000000)=>o0 V lo hi cb lb L lv kv qv nk nq s'.m K s'.Q s'.b s'.p hV hb')
 have b0:=Jy (λ(V:D7) (s':LS) (n' o' c':Nat) (hV:EO V lo hi cb lb L lv kv qv nk nq s'.m K s'.Q s'.b s'.p) (h1:s'.b<1000000) (h2:s'.p<1000000) (h3:EK V ib n' s'.S) (h4:n'+s'.left.length<=1000000) (h5:Ff V g o' s'.left) (h6:∀x∈s'.left,x.length<=64) (h7:s'.left.length<=c') (h8:c'<=1000000)=>km V lo hi cb lb L lv kv qv nk nq s'.m K s'.Q s'.b s'.p ib n' g o' c' s'.S s'.left hV h1 h2 h3 h4 ha h5 h6 h7 h8);obtain⟨n,hn⟩:=Jq s.left.length;obtain⟨nb,aR⟩:=Jq s.m.nb;obtain⟨np,aS⟩:=Jq s.m.np;have A0:=Jy (bh.o w.drew s.m h.E2.drew);unfold VB;rw[<-hn]at hni hlc ⊢;rw[<-aS]at hp aB A0;rw[<-aR]at aw aV;have c0:=h.log.c0;have c5:=h.log.c5;have H0:=Jy h;have aJ:=Jy hS;have aE:=Jy ht;have a7:=Jy hlen;have Hn:=Jy hn;have aL:=Jy aR;have an:=Jy aS;obtain⟨p0,aW⟩:=Jq s.p;rw[<-aW]at hp c5
 have ax:=Jy aW;clear h hS ht hlen hn aR aS aW;have bB:=zW (x:=((np:Int) - (p0:Int)));by_cases aA:n+p0<=np
 focus
  have b5:(n:Int)<=(np:Int) - (p0:Int):=by omega
  have ay:Hid (E7 K s=EV K nb s.prog):=Jy (by unfold E7 FW;rw[AE (by rw[<-Hn.o,<-ax.o,<-an.o];exact aA),<-aL.o]);obtain⟨j1,j2,j3,j4⟩:=YV s;have ad:=Jy (j1.trans aL.o.symm);have aa:=Jy (j2.trans an.o.symm);have aF:s.prog.left.length<=n:=by rw[Hn.o];exact j3
  have aO:s.prog.p<=16:=by have:=j4 (by rw[<-ax.o,<-an.o];exact hp);rw[<-an.o]at this;omega
  have aH:s.prog.b<1000:=hb;have B4:=Jy (b0.o w.drew s ni o c H0.o.drew (by omega) (by rw[<-ax.o];omega) (aJ.o.of_block rfl) (by rw[<-Hn.o];omega) (aE.o.of_block rfl) a7.o (by rw[<-Hn.o];omega) (by omega));rw[<-Hn.o]at B4;clear j1 j2 j3 j4
 rotate_left
 focus
  have b5:¬(n:Int)<=(np:Int) - (p0:Int):=by omega
  have bg:(np:Int) - (p0:Int)<(n:Int):=by omega
  have ay:Hid (E7 K s=EV K nb s):=Jy (by unfold E7 FW;rw[AC (by rw[<-Hn.o,<-ax.o,<-an.o];exact aA),<-aL.o]);have a5:Hid (EO w.drew lo hi cb lb L lv kv qv nk nq s.m K s.Q s.b s.p):=Jy H0.o.drew;have a6:Hid (EK w.drew ib ni s.S):=Jy (aJ.o.of_block rfl);have a9:Hid (Ff w.drew g o s.left):=Jy (aE.o.of_block rfl);have ag:Hid (Fm (λk=>Ew lo hi lb kv qv k\/k=ib) w w.drew):=Jy (Fm.refl _ w).drew;have ad:Hid (s.m.nb=nb):=Jy aL.o.symm;have aa:Hid (s.m.np=np):=Jy an.o.symm;have bm:s.p<=16:=by rw[<-ax.o];omega
 rotate_left
 all_goals
  go_enter func128,ntmps128
  go_wp2_with fail;have aM:w.drew.cell? ⟨lb,0,none⟩=some (.pointer (some ⟨cb,0,none⟩)):=c0;have aI:w.drew.cell? ⟨lb,7,none⟩=some (.int .i64 p0):=c5;refine BE (S:=λV=>V.cell? ⟨lb,0,none⟩=some (.pointer (some ⟨cb,0,none⟩))/\V.cell? ⟨lb,7,none⟩=some (.int .i64 p0)) (by kernel_rfl) ⟨aM,aI⟩ (λhHeld => ?_);refine tk 0 ⟨some 8,.move (.tmp 1),_,_,_,none⟩ (.slice (some ⟨g,o,none⟩) n c) rfl (λw h=>by go_simp) hHeld ?_;simp only[zP,List.set];refine tk 1 ⟨some 9,.call { callee:=Callee.builtin Builtin.len,args:=#[.tmp 8],argTypes:=#[40] },_,_,_,none⟩ (.int .i64 n) rfl (λw h=>by go_simp) hHeld ?_;simp only[zP,List.set]
  refine tk 2 ⟨some 10,.move (.tmp 0),_,_,_,none⟩ (.pointer (some ⟨lb,0,none⟩)) rfl (λw h=>by go_simp) hHeld ?_;simp only[zP,List.set];refine tk 3 ⟨some 11,.nilCheck (.tmp 10),_,_,_,none⟩ (.pointer (some ⟨lb,0,none⟩)) rfl (λw h=>by go_simp) hHeld ?_;simp only[zP,List.set];refine tk 4 ⟨some 12,.fieldAddr 132 (.tmp 11) 0,_,_,_,none⟩ (.pointer (some ⟨lb,0,none⟩)) rfl (λw h=>by go_simp) hHeld ?_;simp only[zP,List.set];refine tk 5 ⟨some 13,.load 28 (.tmp 12),_,_,_,none⟩ (.pointer (some ⟨cb,0,none⟩)) rfl (λw h=>by go_simp) hHeld ?_;simp only[zP,List.set]
  refine tk 7 ⟨some 15,.move (.tmp 0),_,_,_,none⟩ (.pointer (some ⟨lb,0,none⟩)) rfl (λw h=>by go_simp) hHeld ?_;simp only[zP,List.set];refine tk 8 ⟨some 16,.nilCheck (.tmp 15),_,_,_,none⟩ (.pointer (some ⟨lb,0,none⟩)) rfl (λw h=>by go_simp) hHeld ?_;simp only[zP,List.set];refine tk 9 ⟨some 17,.fieldAddr 132 (.tmp 16) 6,_,_,_,none⟩ (.pointer (some ⟨lb,7,none⟩)) rfl (λw h=>by go_simp) hHeld ?_;simp only[zP,List.set];refine tk 10 ⟨some 18,.load 3 (.tmp 17),_,_,_,none⟩ (.int .i64 p0) rfl (λw h=>by go_simp) hHeld ?_;simp only[zP,List.set]
  refine rd 6 rfl (λK hK => ?_);go_simp;refine Jj A0.o ?_;refine hK.o _ _ ⟨aM,aI⟩ (λhHeld => ?_);clear hK K;refine tk 11 ⟨some 19,.binOp .sub 3 (.tmp 14) (.tmp 18) 3,_,_,_,none⟩ (.int .i64 ((np:Int) - (p0:Int))) rfl (λw h=>by go_simp) hHeld ?_;simp only[zP,List.set]
 focus
  refine tk 12 ⟨some 20,.binOp .leq 3 (.tmp 9) (.tmp 19) 3,_,_,_,none⟩ (.bool true) rfl (λw h=>by go_simp) hHeld ?_;simp only[zP,List.set];refine BT (by kernel_rfl) ?_ _;clear hHeld;go_wp2_with fail;refine B4.o.mono ?_;rintro e W3 ⟨o3,c3,rfl,ae,aQ,av,au,az,ar⟩;have aN:Hid ((Df s.b s.left s.m s.p s.S).1.length=s.prog.left.length):=Jy rfl;rw[aN.o]at ae ⊢;have a9:Hid (Ff W3 g o3 s.prog.left):=Jy av;have a5:Hid (EO W3 lo hi cb lb L lv kv qv nk nq s.prog.m K s.prog.Q s.prog.b s.prog.p):=Jy au;have a6:Hid (EK W3 ib (ni+n) s.prog.S):=Jy (by rw[Hn.o];exact az);have ag:Hid (Fm (λk=>Ew lo hi lb kv qv k\/k=ib) w W3):=Jy ((Fm.refl _ w).drew.trans ar);have a1:Hid (∀x∈s.prog.left,x.length<=64):=Jy (λx hx=>a7.o x (Vw _ _ _ _ _ x hx))
  obtain⟨n3,af⟩:=Jq s.prog.left.length;rw[<-af]at aF ae ⊢;have am:=Jy af;clear av au az ar B4 H0 aJ aE af c0 c5 aM aI A0 a7;go_wp2_with fail
  go_loopw [1,7] (λv i wr=>∃(k:Nat) (t:LS) (n' o' c' a3:Nat),k<=nb/\i=.int .i64 k/\v=.slice (some ⟨g,o',none⟩) n' c'/\n'<=c'/\c'<=20000/\n'<=n/\a3+0<=ni+(k+1)*n/\t.b<1000/\t.p<=16/\Hid (n'=t.left.length)/\Hid (t.m.nb=nb)/\Hid (t.m.np=np)/\Hid (∀x∈t.left,x.length<=64)/\Hid (E7 K s=EV K (nb - k) t)/\Hid (EO wr lo hi cb lb L lv kv qv nk nq t.m K t.Q t.b t.p)/\Hid (EK wr ib a3 t.S)/\Hid (Ff wr g o' t.left)/\Hid (Fm (λk=>Ew lo hi lb kv qv k\/k=ib) w wr)) (λ_ i _=>nb - (intOf i).toNat)
  case atStart=>exact⟨0,s.prog,n3,o3,c3,ni+n,AU _,rfl,rfl,ae,by omega,aF,by omega,aH,aO,am,ad,aa,a1,Jy (by rw[Cq];exact ay.o),a5,a6,a9,ag⟩
  clear a9 a5 a6 ag a1 am ad aa ay aN
 rotate_left
 focus
  refine tk 12 ⟨some 20,.binOp .leq 3 (.tmp 9) (.tmp 19) 3,_,_,_,none⟩ (.bool false) rfl (λw h=>by go_simp) hHeld ?_;simp only[zP,List.set];refine BT (by kernel_rfl) ?_ _;clear hHeld;clear H0 aJ aE c0 c5 aM aI A0;go_wp2_with fail
  go_loopw [1,7] (λv i wr=>∃(k:Nat) (t:LS) (n' o' c' a3:Nat),k<=nb/\i=.int .i64 k/\v=.slice (some ⟨g,o',none⟩) n' c'/\n'<=c'/\c'<=20000/\n'<=n/\a3+0<=ni+(k+1)*n/\t.b<1000/\t.p<=16/\Hid (n'=t.left.length)/\Hid (t.m.nb=nb)/\Hid (t.m.np=np)/\Hid (∀x∈t.left,x.length<=64)/\Hid (E7 K s=EV K (nb - k) t)/\Hid (EO wr lo hi cb lb L lv kv qv nk nq t.m K t.Q t.b t.p)/\Hid (EK wr ib a3 t.S)/\Hid (Ff wr g o' t.left)/\Hid (Fm (λk=>Ew lo hi lb kv qv k\/k=ib) w wr)) (λ_ i _=>nb - (intOf i).toNat)
  case atStart=>exact⟨0,s,n,o,c,ni,AU _,rfl,rfl,hlc,hc,AB _,by omega,hb,bm,Hn,ad,aa,a7,Jy (by rw[Cq];exact ay.o),a5,a6,a9,ag⟩
  clear a9 a5 a6 ag ad aa ay
 rotate_left
 all_goals
  obtain⟨k,t,n',o',c',a3,hk,rfl,rfl,be,bn,b7,b9,bx,bu,ac,a8,ai,a4,HE,H1,ah,aT,aj⟩:=hrel;have br:(k+1)*n<=33*n:=Ba _ (by omega);have d0:=H1.o.log.c0;have B1:=Jy (bb.o wr t.m H1.o.E2);rw[a8.o]at B1;have B2:=Jy (bj.o wr t.m H1.o.E2);by_cases bq:k<nb
  ·have bl:(k:Int)<(nb:Int):=by omega
   cases hlf:t.left with
   | nil =>
     have bc:n'=0:=by rw[ac.o,hlf];rfl
     subst bc;have HR:Hid (E7 K s=t):=Jy (by rw[HE.o];exact Sq K (.inl hlf) _);have ao:Hid ((E7 K s).left.isEmpty=true):=Jy (by rw[HR.o,hlf];rfl);clear hlf;go_wp2_with (first | (go_at_call 76;refine Jj B1.o ?_) | fail);go_ret
     exact⟨by rw[ao.o];rfl,by rw[HR.o];exact H1.o,by rw[HR.o];exact ah.o.mono (by omega),aj.o⟩
   | cons x0 xs0 =>
     have bA:0<n':=by rw[ac.o,hlf];simp
     have b6:(0:Int)<(n':Int):=by omega
     have aY:Hid (t.left≠[]):=Jy (by rw[hlf];simp);have ao:Hid (t.left.isEmpty=false):=Jy (by rw[hlf];rfl);clear hlf;by_cases hd:t.m.Da=0
     ·have Kp:(t.m.Da==0)=true:=DI.2 hd;rw[Kp]at B2;have HR:Hid (E7 K s=t):=Jy (by rw[HE.o];exact Sq K (.inr hd) _);go_wp2_with (first | (go_at_call 76;refine Jj B1.o ?_) | (go_at_call 25;refine Jj B2.o ?_) | fail);go_ret
      have bs:((n':Int)==0)=false:=by simp;omega
      refine⟨?_,by rw[HR.o];exact H1.o,by rw[HR.o];exact ah.o.mono (by omega),aj.o⟩;rw[HR.o,ao.o]
      first | rfl | (simp;omega)
     have Kp:(t.m.Da==0)=false:=BI.2 hd;rw[Kp]at B2;have b3:Hid (E7 K s=EV K (nb - (k+1)) (EF K t)):=Jy (by
      rw[HE.o,show nb - k=nb - (k+1)+1 by omega,EV,AC];rintro(h | h)
      ·exact aY.o h
      exact hd h)
     have B3:=Jy (bp.o wr t H1.o (by omega));obtain⟨j1,j2,j3,j4,j5⟩:=XZ K t;have ad:=Jy (j1.trans a8.o);have aa:=Jy (j2.trans ai.o);have aF:(EF K t).left.length<=n':=by rw[ac.o];exact j3
     have aO:(EF K t).p<=16:=by have:=ai.o;omega
     have aH:(EF K t).b<1000:=by rw[j5,a8.o];have:=BM (t.b+1) (show 0<nb by omega);omega
     clear j1 j2 j3 j4 j5;go_wp2_with (first | (go_at_call 76;refine Jj B1.o ?_) | (go_at_call 25;refine Jj B2.o ?_) | fail);refine B3.o.mono ?_;rintro e W2 ⟨rfl,aZ,aC⟩;have LK:=ha.LK;have b8:=ha.hg;have aG:=Jy (ah.o.of_block (aC.block ib ah.o.lt LK));have b4:g<wr.heap.size\/t.left=[]:=by
      cases ht9:t.left with
      | nil=>exact .inr rfl
      | cons y ys=>exact .inl (Aj wr _ (aT.o 0 y (by rw[ht9];rfl)))
     have aD:Hid (Ff W2 g o' t.left):=Jy (aT.o.of_block (aC.block g (b4.resolve_right aY.o) b8));have aP:=Jy (aj.o.trans (aC.mono λk _ h=>.inl h));have aK:Hid (EO W2 lo hi cb lb L lv kv qv nk nq (t.IM K).m K (t.IM K).Q (t.IM K).b (t.IM K).p):=Jy aZ;obtain⟨r,hr⟩:=Jq ((Di t.m K t.Q t.b).1);rw[<-hr];have Hr:=Jy hr;clear aZ aC b4 hr B1 B2 B3 H1 ah aT aj d0;cases r with
     | true =>
       have a0:Hid (EF K t=(t.IM K).prog):=Jy (by unfold EF;rw[<-Hr.o,AE rfl]);have bi:(t.IM K).b<1000000:=by show(t.b+1)%t.m.nb<_;rw[a8.o];have:=BM (t.b+1) (show 0<nb by omega);omega
       have bf:(t.IM K).p<1000000:=by have:=(OW t.m K t.Q t.b).2.2;have h9:=ai.o;show(Di t.m K t.Q t.b).2.2.2<_;omega
       have B4:=Jy (b0.o W2 (t.IM K) a3 o' c' aK.o bi bf aG.o (by show a3+t.left.length<=_;rw[<-ac.o];omega) aD.o a4.o (by show t.left.length<=_;rw[<-ac.o];omega) (by omega));have aU:(t.IM K).left.length=n':=ac.o.symm;rw[aU]at B4;go_wp2_with fail;refine B4.o.mono ?_;rintro e W3 ⟨o3,c3,rfl,ae,aQ,av,au,az,ar⟩;have aN:Hid ((Df (t.IM K).b (t.IM K).left (t.IM K).m (t.IM K).p (t.IM K).S).1.length=(EF K t).left.length):=Jy (by rw[a0.o];rfl);rw[aN.o]at ae ⊢;have a9:Hid (Ff W3 g o3 (EF K t).left):=Jy (by rw[a0.o];exact av);have a5:Hid (EO W3 lo hi cb lb L lv kv qv nk nq (EF K t).m K (EF K t).Q (EF K t).b (EF K t).p):=Jy (by rw[a0.o];exact au);have a6:Hid (EK W3 ib (a3+n') (EF K t).S):=Jy (by rw[a0.o,<-aU];exact az);have ag:=Jy (aP.o.trans ar)
       have a1:Hid (∀x∈(EF K t).left,x.length<=64):=Jy (by rw[a0.o];exact λx hx=>a4.o x (Vw _ _ _ _ _ x hx));obtain⟨n3,af⟩:=Jq ((EF K t).left.length);rw[<-af]at aF ae ⊢;have am:=Jy af;clear av au az ar B4 aK aG aD aP af aU;go_wp2_with fail;go_roundw
       case rel=>exact⟨k+1,EF K t,n3,o3,c3,a3+n',by omega,by go_num,rfl,ae,by omega,by omega,by rw[Nat.succ_mul (k+1)];omega,aH,aO,am,ad,aa,a1,b3,a5,a6,a9,ag⟩
       case measure=>simp[intOf];omega
     | false =>
       have a0:Hid (EF K t=t.IM K):=Jy (by unfold EF;rw[<-Hr.o];rfl);have a9:Hid (Ff W2 g o' (EF K t).left):=Jy (by rw[a0.o];exact aD.o);have a5:Hid (EO W2 lo hi cb lb L lv kv qv nk nq (EF K t).m K (EF K t).Q (EF K t).b (EF K t).p):=Jy (by rw[a0.o];exact aK.o);have a6:Hid (EK W2 ib a3 (EF K t).S):=Jy (by rw[a0.o];exact aG.o);have am:Hid (n'=(EF K t).left.length):=Jy (by rw[a0.o];exact ac.o);have a1:Hid (∀x∈(EF K t).left,x.length<=64):=Jy (by rw[a0.o];exact a4.o);clear aK aG aD;go_wp2_with fail;go_roundw
       case rel=>exact⟨k+1,EF K t,n',o',c',a3,by omega,by go_num,rfl,be,bn,b7,by rw[Nat.succ_mul (k+1)];omega,aH,aO,am,ad,aa,a1,b3,a5,a6,a9,aP⟩
       case measure=>simp[intOf];omega
  have aX:k=nb:=by omega
  subst aX;have HR:Hid (E7 K s=t):=Jy (by rw[HE.o,D5];rfl);have ao:Hid ((E7 K s).left.isEmpty=decide (n'=0)):=Jy (by
   rw[HR.o,ac.o];cases t.left<;>simp)
  by_cases hz:n'=0
  ·subst hz;go_wp2_with (first | (go_at_call 76;refine Jj B1.o ?_) | fail);go_ret
   exact⟨by rw[ao.o];rfl,by rw[HR.o];exact H1.o,by rw[HR.o];exact ah.o.mono (by omega),aj.o⟩
  have bz:¬(n':Int)=0:=by omega
  go_wp2_with (first | (go_at_call 76;refine Jj B1.o ?_) | fail);go_ret
  refine⟨?_,by rw[HR.o];exact H1.o,by rw[HR.o];exact ah.o.mono (by omega),aj.o⟩;rw[ao.o,Bc hz]
  first | rfl | (simp;omega)
end S1
namespace S1
open Go.RowKit Pk
open Go.Nt (Fp)
theorem laidOut:laidOutB prog=true:=by kernel_rfl
theorem QC:(189:TypeId)<prog.types.size:=CR (by kernel_rfl)
theorem NT:(90:TypeId)<prog.types.size:=CR (by kernel_rfl)
theorem kT:(match prog.underlying 189 with | some (.array _ _) | some (.struct _)=>true | _=>false)=true:=by kernel_rfl
theorem Pd:(match prog.underlying 90 with | some (.array _ _) | some (.struct _)=>true | _=>false)=true:=by kernel_rfl
theorem IV:Maps.Keyed prog 189:=Maps.Keyed.of_law (deep_law_laid laidOut (m:=4) (by omega) QC (by kernel_rfl) kT)
theorem Gl:Maps.Keyed prog 90:=Maps.Keyed.of_law (deep_law_laid laidOut (m:=4) (by omega) NT (by kernel_rfl) Pd)
def pk(b n a:Nat):Lit:=.string (keyBytes [.int .i64 b,.int .u32 n,.int .i64 a])
def pv(b n a:Nat):Value:=.agg #[.int .i64 b,.int .u32 n,.int .i64 a]
def lk(b n:Nat):Lit:=.string (keyBytes [.int .i64 b,.int .u32 n])
def lv(b n:Nat):Value:=.agg #[.int .i64 b,.int .u32 n]
theorem kL:prog.keyType 189=true:=by kernel_rfl
theorem qL:prog.keyType 90=true:=by kernel_rfl
theorem Ze:prog.cellsOf 189=3:=by kernel_rfl
theorem UA:prog.cellsOf 90=2:=by kernel_rfl
theorem XV:prog.cellsOf 88=1:=by kernel_rfl
theorem cells3:prog.cellsOf 3=1:=by kernel_rfl
theorem JR{b n:Nat}(hb:b<=1000000)(hn:n<=4294967295):keyOf prog 90 (lv b n)=some (lk b n):=by
 have h1:(Lit.int .i64 b).wf=true:=by simp[Lit.wf,IntKind.min,IntKind.max,IntKind.signed,IntKind.bits];omega
 have h2:(Lit.int .u32 n).wf=true:=by simp[Lit.wf,IntKind.min,IntKind.max,IntKind.signed,IntKind.bits];omega
 obtain⟨d,hd⟩:∃d,prog.types.size+1=d+3:=⟨prog.types.size - 2,by have h:(90:Nat)<prog.types.size:=NT;omega⟩;unfold keyOf lv lk;rw[underlying90,hd];simp only[qL,Value.formed,underlying90,UA,Value.cells];simp[Program.keyLits,underlying90,underlying88,underlying3,UA,XV,cells3,h1,h2]
theorem Iz{b n a:Nat}(hb:b<=1000000)(hn:n<=4294967295)(ha:a<=1000000):keyOf prog 189 (pv b n a)=some (pk b n a):=by
 have h1:(Lit.int .i64 b).wf=true:=by simp[Lit.wf,IntKind.min,IntKind.max,IntKind.signed,IntKind.bits];omega
 have h2:(Lit.int .u32 n).wf=true:=by simp[Lit.wf,IntKind.min,IntKind.max,IntKind.signed,IntKind.bits];omega
 have h3:(Lit.int .i64 a).wf=true:=by simp[Lit.wf,IntKind.min,IntKind.max,IntKind.signed,IntKind.bits];omega
 obtain⟨d,hd⟩:∃d,prog.types.size+1=d+3:=⟨prog.types.size - 2,by have h:(90:Nat)<prog.types.size:=NT;omega⟩;unfold keyOf pv pk;rw[underlying189,hd];simp only[kL,Value.formed,underlying189,Ze,Value.cells];simp[Program.keyLits,underlying189,underlying90,underlying88,underlying3,Ze,UA,XV,cells3,h1,h2,h3];rw[AE]
 ·rfl
 intro i hi
 have:i=0\/i=1:=by omega
 rcases this with rfl | rfl<;>simp
theorem Yi{b n a b' n' a':Nat}(hb:b<=1000000)(hn:n<=4294967295)(ha:a<=1000000)(hb':b'<=1000000)(hn':n'<=4294967295)(ha':a'<=1000000)(h:pk b n a=pk b' n' a'):b=b'/\n=n'/\a=a':=by
 have e:=IV.inj (Iz hb hn ha) (by rw[h];exact Iz hb' hn' ha');unfold pv at e;simp at e;omega
theorem Qc{b n b' n':Nat}(hb:b<=1000000)(hn:n<=4294967295)(hb':b'<=1000000)(hn':n'<=4294967295)(h:lk b n=lk b' n'):b=b'/\n=n':=by
 have e:=Gl.inj (JR hb hn) (by rw[h];exact JR hb' hn');unfold lv at e;simp at e;omega
def fv(f:Fp):Value:=.agg #[.int .i64 f.bad,.int .u32 f.num,.int .i64 f.at_,.int .i64 f.JW,.string (D9 f.text),.int .i64 f.Dg]
def KW:Value->Option (DataW Fp × List MemPlace)
 | .agg cs=>match cs.toList with
   | [.int .i64 b,.int .u32 r,.int .i64 a,.int .i64 o,.string t,.int .i64 k]=>if 0<=b/\0<=r/\0<=a/\0<=o/\0<=k then some (.held ⟨b.toNat,r.toNat,a.toNat,o.toNat,t.data.toList,k.toNat⟩,[])else none
   | _=>none
 | _=>none
theorem UM(f:Fp):KW (fv f)=some (.held f,[]):=by
 unfold KW fv;simp;rfl
theorem Sk{v:Value}{f:Fp}{ps:List MemPlace}(h:KW v=some (.held f,ps)):v=fv f:=by
 unfold KW at h
 split at h
 ·rename_i cs
  split at h
  ·rename_i b r a o t k hc
   split at h
   ·rename_i hr;simp at h;obtain⟨rfl,_⟩:=h
    have:cs=#[.int .i64 b,.int .u32 r,.int .i64 a,.int .i64 o,.string t,.int .i64 k]:=Array.toList_inj.1 hc
    rw[this];unfold fv;obtain⟨h0,h1,h2,h3,h4⟩:=hr;simp[Bz h0,Bz h1,Bz h2,Bz h3,Bz h4];rfl
   cases h
  cases h
 cases h
def P1:Fp:=⟨0,0,0,0,[],0⟩
theorem X9(w:D7):(zeroValue 187).run prog w=.ok (fv P1) w:=by kernel_rfl
def Gk(w:D7)(g:Nat)(n:Nat)(P:Nat->Nat->Nat->Option Fp):Prop:=
 ∃D:DataW Fp,w.ownsMap prog 189 KW g n D/\(∀b r a,b<=1000000->r<=4294967295->a<=1000000->Maps.has D (pk b r a)=(P b r a).isSome/\∀f,P b r a=some f->∀z,D.atKey (pk b r a) z=.held f)/\(∀kl,Maps.has D kl=true->∃b r a,b<=1000000/\r<=4294967295/\a<=1000000/\kl=pk b r a)
section
variable {w w':D7} {g n:Nat} {P:Nat->Nat->Nat->Option Fp}
theorem Gk.lt(h:Gk w g n P):g<w.heap.size:=by obtain⟨D,h,_⟩:=h;exact h.lt
theorem Gk.of_block(h:Gk w g n P)(hb:w'.heap[g]? = w.heap[g]?):Gk w' g n P:=by
 obtain⟨D,⟨es,a0,h1,h2⟩,hh⟩:=h;exact⟨D,⟨es,a0,hb.trans h1,h2⟩,hh⟩
theorem Gk.mono{n':Nat}(h:Gk w g n P)(hn:n<=n'):Gk w g n' P:=by
 obtain⟨D,h1,hh⟩:=h;exact⟨D,h1.mono hn,hh⟩
theorem Gk.congr{P':Nat->Nat->Nat->Option Fp}(h:Gk w g n P)(e:∀b r a,P b r a=P' b r a):Gk w g n P':=by
 have:P=P':=funext λb=>funext λr=>funext λa=>e b r a
 rw[<-this];exact h
theorem lN(w:D7):Gk (w.alloc (.map #[] 0)) w.heap.size 0 (λ_ _ _=>none):=⟨.map [],Cw w _ _ _,λb r a _ _ _=>⟨rfl,λf hf=>by cases hf⟩,λkl h=>by simp[Maps.has]at h⟩
theorem Gk.look(h:Gk w g n P){b r a:Nat}(hb:b<=1000000)(hr:r<=4294967295)(ha:a<=1000000) :
 (Instr.lookup 135 (.map (some g)) (pv b r a) true).run prog w=.ok (.tuple #[fv ((P b r a).getD P1),.bool (P b r a).isSome]) w/\(Instr.lookup 135 (.map (some g)) (pv b r a) false).run prog w=.ok (fv ((P b r a).getD P1)) w:=by
 obtain⟨D,ho,hh,_⟩:=h;obtain⟨v,ps,h1,h2⟩:=ho.look_ok IV underlying135 (X9 w) (UM _) (Iz hb hr ha);obtain⟨v',a0,h3,h4⟩:=ho.lookup IV underlying135 (X9 w) (UM _) (Iz hb hr ha);obtain⟨k1,k2⟩:=hh b r a hb hr ha;cases hp:P b r a with
 | none =>
   rw[hp]at k1;rw[Maps.atKey_of_not_has k1]at h2 h4;rw[Sk h2,k1]at h1;rw[Sk h4]at h3;exact⟨h1,h3⟩
 | some f =>
   rw[hp]at k1;rw[k2 f hp]at h2 h4;rw[Sk h2,k1]at h1;rw[Sk h4]at h3;exact⟨h1,h3⟩
def NP(P:Nat->Nat->Nat->Option Fp)(b r a:Nat)(f:Fp):Nat->Nat->Nat->Option Fp:=λx y z=>if x=b/\y=r/\z=a then some f else P x y z
theorem Gk.store(h:Gk w g n P){b r a:Nat}(hb:b<=1000000)(hr:r<=4294967295)(ha:a<=1000000)(hn:n<=1000000)(f:Fp) :
 ∃w',(Instr.mapUpdate 135 (.map (some g)) (pv b r a) (fv f)).run prog w=.ok () w'/\Gk w' g (n+1) (NP P b r a f)/\w.mapTurned w' g:=by
 obtain⟨D,ho,hh,hk⟩:=h;obtain⟨w',h1,h2,h3⟩:=ho.store IV underlying135 (by unfold maxLen;omega) (Iz hb hr ha) (UM f);refine⟨w',h1,⟨_,h2,λx y z hx hy hz => ?_,λkl hl => ?_⟩,h3⟩
 ·unfold NP;by_cases e:x=b/\y=r/\z=a
  ·obtain⟨rfl,rfl,rfl⟩:=e;rw[AE ⟨rfl,rfl,rfl⟩,Cj ho.isMap (k:=pk x y z) trivial];exact⟨rfl,λg hg z'=>by cases hg;exact DG ho.isMap (k:=pk x y z) trivial _ _⟩
  rw[AC e];have a0:pk x y z≠pk b r a:=λh=>e (Yi hx hy hz hb hr ha h)
  rw[Bk a0];exact⟨(hh x y z hx hy hz).1,λg hg z'=>by rw[DD a0];exact(hh x y z hx hy hz).2 g hg z'⟩
 by_cases e:kl=pk b r a
 ·exact⟨b,r,a,hb,hr,ha,e⟩
 rw[Bk e]at hl;exact hk kl hl
end
def FK(w:D7)(g:Nat)(n:Nat)(S:Nat->Nat->Bool):Prop:=
 ∃D:DataW Unit,w.ownsMap prog 90 unitElem g n D/\(∀b r,b<=1000000->r<=4294967295->Maps.has D (lk b r)=S b r)/\(∀kl,Maps.has D kl=true->∃b r,b<=1000000/\r<=4294967295/\kl=lk b r)
section
variable {w w':D7} {g n:Nat} {S:Nat->Nat->Bool}
theorem FK.lt(h:FK w g n S):g<w.heap.size:=by obtain⟨D,h,_⟩:=h;exact h.lt
theorem FK.of_block(h:FK w g n S)(hb:w'.heap[g]? = w.heap[g]?):FK w' g n S:=by
 obtain⟨D,⟨es,a0,h1,h2⟩,hh⟩:=h;exact⟨D,⟨es,a0,hb.trans h1,h2⟩,hh⟩
theorem FK.mono{n':Nat}(h:FK w g n S)(hn:n<=n'):FK w g n' S:=by
 obtain⟨D,h1,hh⟩:=h;exact⟨D,h1.mono hn,hh⟩
theorem FK.congr{T:Nat->Nat->Bool}(h:FK w g n S)(e:∀b r,S b r=T b r):FK w g n T:=by
 have:S=T:=funext λb=>funext λr=>e b r
 rw[<-this];exact h
theorem oA(w:D7):FK (w.alloc (.map #[] 0)) w.heap.size 0 (λ_ _=>false):=⟨.map [],Cw w _ _ _,λb r _ _=>rfl,λkl h=>by simp[Maps.has]at h⟩
theorem FK.look(h:FK w g n S){b r:Nat}(hb:b<=1000000)(hr:r<=4294967295):(Instr.lookup 130 (.map (some g)) (lv b r) true).run prog w=.ok (.tuple #[.agg #[],.bool (S b r)]) w:=by
 obtain⟨D,ho,hh,_⟩:=h;obtain⟨v,ps,h1,h2⟩:=ho.look_ok Gl underlying130 (Vg w) unitElem_mk (JR hb hr);rw[hh b r hb hr,(unitElem_inv h2).1]at h1;exact h1
theorem FK.store(h:FK w g n S){b r:Nat}(hb:b<=1000000)(hr:r<=4294967295)(hn:n<=1000000) :
 ∃w',(Instr.mapUpdate 130 (.map (some g)) (lv b r) (.agg #[])).run prog w=.ok () w'/\FK w' g (n+1) (λx y=>(x==b&&y==r)||S x y)/\w.mapTurned w' g:=by
 obtain⟨D,ho,hh,hk⟩:=h;obtain⟨w',h1,h2,h3⟩:=ho.store Gl underlying130 (by unfold maxLen;omega) (JR hb hr) unitElem_mk;refine⟨w',h1,⟨_,h2,λx y hx hy => ?_,λkl hl => ?_⟩,h3⟩
 ·by_cases e:x=b/\y=r
  ·obtain⟨rfl,rfl⟩:=e;rw[Cj ho.isMap (k:=lk x y) trivial];simp
  have a0:lk x y≠lk b r:=λh=>e (Qc hx hy hb hr h)
  rw[Bk a0,hh x y hx hy]
  have:(x==b&&y==r)=false:=by
   cases h1:(x==b&&y==r)with
   | false=>rfl
   | true=>simp at h1;exact absurd h1 e
  show S x y=((x==b&&y==r)||S x y);rw[this];rfl
 by_cases e:kl=lk b r
 ·exact⟨b,r,hb,hr,e⟩
 rw[Bk e]at hl;exact hk kl hl
end
end S1
section
open Go.RowKit Go.Nt
variable {a:Option Addr} {b o:Nat} {w w':D7} {x:It} {l:List It}
theorem Jy{p:Prop}(h:p):Hid p:=h
def D9(l:D8):ByteArray:=⟨l.toArray⟩
theorem Dd(l:D8):(D9 l).size=l.length:=by simp[D9,ByteArray.size]
theorem fV(l:D8):(D9 l).data.toList=l:=rfl
theorem ZW(s:ByteArray):s=D9 s.data.toList:=(Lib.mk_data s).symm
theorem MP(s:D8)(k:Nat)(h:k<(D9 s).size):(D9 s)[k]'h=s.getD k 0:=by
 have h':k<s.length:=by rw[Dd]at h;exact h
 show s.toArray[k]=_;simp[List.getD,h']
theorem Jb(l:D8)(a b:Nat):(D9 l).extract a b=D9 ((l.drop a).take (b - a)):=by
 rw[Lib.extract_eq];rfl
theorem LC(l:D8):(D9 l).toList=l:=by rw[Lib.toList_data];rfl
theorem O8(a b:D8):((D9 a).toList==(D9 b).toList)=decide (a=b):=by
 rw[LC,LC];by_cases h:a=b<;>simp[h]
theorem KH{k:IntKind}{a b:Int}(h:a=b):Ending.returned (.int k a)=.returned (.int k b):=by rw[h]
theorem Ir{a b:Bool}(h:a=b):Ending.returned (.bool a)=.returned (.bool b):=by rw[h]
theorem lt_of_heap{g:Nat}{o:Obj}(h:w.heap[g]? = some o):g<w.heap.size:=(Az.1 h).1
theorem Ox(w:D7)(p q:Nat):∃r,(w.drewN p).drewN q=w.drewN r:=⟨p+q,by simp⟩
def E4(w:D7)(b o:Nat)(x:It):Prop:=
 w.cell? ⟨b,o,none⟩=some (.string (D9 x.path))/\w.cell? ⟨b,o+1,none⟩=some (.bool x.dir)/\w.cell? ⟨b,o+2,none⟩=some (.string (D9 x.data)) /\
 w.cell? ⟨b,o+3,none⟩=some (.int .i64 x.mode)/\w.cell? ⟨b,o+4,none⟩=some (.int .i64 x.time)
theorem E4.lt(h:E4 w b o x):b<w.heap.size:=Aj w _ h.1
theorem E4.of_block(h:E4 w b o x)(hb:w'.heap[b]? = w.heap[b]?):E4 w' b o x:=
 ⟨(AJ hb).trans h.1,(AJ hb).trans h.2.1,(AJ hb).trans h.2.2.1,(AJ hb).trans h.2.2.2.1,(AJ hb).trans h.2.2.2.2⟩
theorem E4.below{B:Nat}(h:E4 w b o x)(hb:Below B w w')(hlt:b<B):E4 w' b o x:=h.of_block (hb.block b hlt)
theorem E4.drewN(h:E4 w b o x)(q:Nat):E4 (w.drewN q) b o x:=h.of_block (by simp)
def Dz(w:D7)(a:Option Addr)(l:List It):Prop:=
 l≠[]->∃b off,a=some ⟨b,off,none⟩/\∀k (x:It),l[k]? = some x->E4 w b (off+k*5) x
theorem Dz.below(h:Dz w a l)(hb:Below w.heap.size w w'):Dz w' a l:=by
 intro hn;obtain⟨b,off,rfl,hc⟩:=h hn;exact⟨b,off,rfl,λk x hk=>(hc k x hk).below hb (hc k x hk).lt⟩
theorem Dz.drewN(h:Dz w a l)(q:Nat):Dz (w.drewN q) a l:=by
 intro hn;obtain⟨b,off,rfl,hc⟩:=h hn;exact⟨b,off,rfl,λk x hk=>(hc k x hk).drewN q⟩
variable {a b:Bs} {k:Nat}
theorem NR(w:D7)(p q r:Nat):∃n,((w.drewN p).drewN q).drewN r=w.drewN n:=⟨p+q+r,by simp⟩
theorem ly(h1:k<a.length)(h2:k<b.length)(e:a.getD k 0=b.getD k 0):less (a.drop k) (b.drop k)=less (a.drop (k+1)) (b.drop (k+1)):=by
 rw[AX h1,AX h2]
 have:a[k]=b[k]:=by simpa[List.getD,h1,h2]using e
 simp[less,this]
theorem nT(h1:k<a.length)(h2:k<b.length)(e:a.getD k 0≠b.getD k 0):less (a.drop k) (b.drop k)=decide (key (a.getD k 0)<key (b.getD k 0)):=by
 rw[AX h1,AX h2];have h3:a.getD k 0=a[k]:=by simp[List.getD,h1]
 have h4:b.getD k 0=b[k]:=by simp[List.getD,h2]
 rw[h3,h4]at e ⊢;simp[less,e]
theorem gJ(h1:k=a.length)(h2:k<=b.length):less (a.drop k) (b.drop k)=decide (a.length<b.length):=by
 subst h1;rw[List.drop_length];rcases CM a.length b.length with h | h
 ·rw[AX h];simp[less,h]
 rw[CX h];simp[less];omega
theorem lP(h1:k<a.length)(h2:k=b.length):less (a.drop k) (b.drop k)=decide (a.length<b.length):=by
 subst h2;rw[List.drop_length,AX h1];simp[less];omega
theorem oU(a b:Bs)(w:D7)(ha:a.length<=4611686018427387904)(hb:b.length<=4611686018427387904) :
 Calls prog 209 #[.string (D9 a),.string (D9 b)] w λe w'=>e=.returned (.bool (less a b))/\∃q,w'=w.drewN q:=by
 obtain⟨A,hA⟩:=Jq (D9 a);obtain⟨B,hB⟩:=Jq (D9 b);have Sa:A.size=a.length:=by rw[hA,Dd]
 have Sb:B.size=b.length:=by rw[hB,Dd]
 have ga:Hid (∀k (h:k<A.size),A[k]'h=a.getD k 0):=λk h=>by subst hA;exact MP a k h
 have gb:Hid (∀k (h:k<B.size),B[k]'h=b.getD k 0):=λk h=>by subst hB;exact MP b k h
 rw[<-hA,<-hB];have La:A.size<=4611686018427387904:=by omega
 have Lb:B.size<=4611686018427387904:=by omega
 have a5:=Jy Sa;have a4:=Jy Sb;clear hA hB Sa Sb ha hb;go_enter func209,ntmps209
 go_wp2
 go_loopw [5] (λi wr=>∃k:Nat,k<=A.size/\k<=B.size/\i=.int .i64 k/\(∃q,wr=w.drewN q)/\Hid (less a b=less (a.drop k) (b.drop k))) (λi _=>A.size - (intOf i).toNat)
 case atStart=>exact⟨0,AU _,AU _,rfl,⟨0,rfl⟩,(rfl:less a b=less (a.drop 0) (b.drop 0))⟩
 case round =>
  obtain⟨k,hk,a8,rfl,⟨q,rfl⟩,Hl⟩:=hrel;by_cases h1:k<A.size
  ·have a6:decide ((k:Int)<(A.size:Int))=true:=by simpa using h1
   by_cases h2:k<B.size
   ·have a7:decide ((k:Int)<(B.size:Int))=true:=by simpa using h2
    have a1:=ga.o k h1;have a2:=gb.o k h2;by_cases e:A[k]'h1=B[k]'h2
    ·have Hn:Hid (less a b=less (a.drop (k+1)) (b.drop (k+1))):=Hl.o.trans (ly (by have:=a5.o;omega) (by have:=a4.o;omega) (by rw[<-a1,<-a2];exact e));have e':((A[k]'h1).toNat:Int)=((B[k]'h2).toNat:Int):=by rw[e]
     clear a1 a2 e;go_wp2
     go_quiet (fail)
     go_wp2;go_roundw
     case rel=>exact⟨k+1,by omega,by omega,by go_num,⟨_,rfl⟩,Hn⟩
     case measure=>simp[intOf];omega
    have Hn:Hid (less a b=decide (key (A[k]'h1)<key (B[k]'h2))):=Hl.o.trans (by rw[nT (by have:=a5.o;omega) (by have:=a4.o;omega) (by rw[<-a1,<-a2];exact e),<-a1,<-a2]);have e':((A[k]'h1).toNat:Int)≠((B[k]'h2).toNat:Int):=λh=>e (BL.1 (by omega))
    clear a1 a2;go_wp2
    go_quiet (fail)
    go_wp2;by_cases a0:A[k]'h1=47
    ·have x':(((A[k]'h1).toNat:Int)==47)=true:=by rw[a0];rfl
     have Hr:Hid (less a b=true):=Hn.o.trans (by
      have:B[k]'h2≠47:=λh=>e (a0.trans h.symm)
      simp[key,a0,this])
     clear Hn e
     go_quiet (fail)
     go_wp2;go_ret
     exact⟨Ir Hr.o.symm,NR _ _ _ _⟩
    have x':(((A[k]'h1).toNat:Int)==47)=false:=BI.2 λh=>a0 (BL.1 (by have:(47:UInt8).toNat=47:=rfl;omega))
    by_cases a3:B[k]'h2=47
    ·have y':(((B[k]'h2).toNat:Int) != 47)=false:=by rw[a3];rfl
     have Hr:Hid (less a b=false):=Hn.o.trans (by simp[key,a0,a3]);clear Hn e
     go_quiet (fail)
     go_wp2;go_ret
     exact⟨Ir Hr.o.symm,NR _ _ _ _⟩
    have y':(((B[k]'h2).toNat:Int) != 47)=true:=bne_iff_ne.2 λh=>a3 (BL.1 (by have:(47:UInt8).toNat=47:=rfl;omega))
    have Hr:Hid (less a b=decide ((A[k]'h1).toNat<(B[k]'h2).toNat)):=Hn.o.trans (by
     simp only[key,AC a0,AC a3]
     congr 1
     apply propext
     omega)
    clear Hn e
    go_quiet (fail)
    go_wp2;go_ret
    exact⟨Ir Hr.o.symm,NR _ _ _ _⟩
   have a7:decide ((k:Int)<(B.size:Int))=false:=by simpa using h2
   have Hn:Hid (less a b=decide (A.size<B.size)):=Hl.o.trans (by have h3:=a5.o;have h4:=a4.o;rw[lP (by omega) (by omega)];simp[h3,h4]);go_wp2;go_ret
   exact⟨Ir Hn.o.symm,q,rfl⟩
  have a6:decide ((k:Int)<(A.size:Int))=false:=by simpa using h1
  have Hn:Hid (less a b=decide (A.size<B.size)):=Hl.o.trans (by have h3:=a5.o;have h4:=a4.o;rw[gJ (by omega) (by omega)];simp[h3,h4]);go_wp2;go_ret
  exact⟨Ir Hn.o.symm,q,rfl⟩
variable {p n:Bs} {f k:Nat}
def glue(c:Bs):List Bs->List Bs
 | []=>[c]
 | n :: ns=>(c++n) :: ns
theorem X5(p:Bs):glue [] (split p)=split p:=by
 obtain⟨n,ns,e⟩:=M8 p;rw[e];rfl
theorem Xc(c r:Bs):glue c (split (47 :: r))=c :: split r:=by rw[Ln];simp[glue]
theorem kk(c r:Bs){x:UInt8}(h:x≠47):glue c (split (x :: r))=glue (c++[x]) (split r):=by
 obtain⟨n,ns,e⟩:=M8 r;rw[Ll h e,e];simp[glue]
theorem iW(c r:Bs):∃n ns,glue c (split (0 :: r))=n :: ns/\n.contains 0=true:=by
 obtain⟨n,ns,e⟩:=M8 r;rw[Ll (by decide) e];exact⟨_,_,rfl,by simp⟩
structure Fo (p:Bs) (done:List Bs) (f k:Nat):Prop where
 hf:f<=k
 hk:k<=p.length
 sp:split p=done++glue ((p.drop f).take (k - f)) (split (p.drop k))
 z:(0:UInt8)∉(p.drop f).take (k - f)
 ok:done.all E3=true
 len:done.length<=k
theorem Fo.start(p:Bs):Fo p [] 0 0:=⟨AB _,AU _,by simp[X5],by simp,rfl,AU _⟩
theorem Uu{done:List Bs}{ns:List Bs}(h:split p=done++n :: ns)(hn:E3 n=false):Du p=false:=by
 unfold Du;rw[h];simp[hn]
theorem Fo.zero{done:List Bs}(h:Fo p done f k)(hl:k<p.length)(e:p.getD k 0=0):Du p=false:=by
 have hd:p.drop k=0 :: p.drop (k+1):=by
  rw[AX hl]
  have:p[k]=0:=by simpa[List.getD,hl]using e
  rw[this]
 have:=h.sp
 rw[hd]at this;obtain⟨n,ns,e1,e2⟩:=iW ((p.drop f).take (k - f)) (p.drop (k+1));rw[e1]at this;exact Uu this (by simp only[E3,e2];simp)
theorem Yq(hf:f<=k)(hl:k<p.length):(p.drop f).take (k+1 - f)=(p.drop f).take (k - f)++[p.getD k 0]:=by
 have:k+1 - f=(k - f)+1:=by omega
 rw[this,Ah]
 congr 1
 rw[C7];have e:f+(k - f)=k:=by omega
 rw[e];simp[List.getD,hl]
theorem Fo.other{done:List Bs}(h:Fo p done f k)(hl:k<p.length)(h0:p.getD k 0≠0)(h47:p.getD k 0≠47):Fo p done f (k+1):=by
 have hd:p.drop k=p.getD k 0 :: p.drop (k+1):=by
  rw[AX hl];simp[List.getD,hl]
 refine⟨by have:=h.hf;omega,by omega,?_,?_,h.ok,by have:=h.len;omega⟩
 ·rw[Yq h.hf hl,<-kk _ _ h47,<-hd];exact h.sp
 rw[Yq h.hf hl]
 have:=h.z
 simp only[An,List.mem_singleton];intro hh;rcases hh with hh | hh
 ·exact this hh
 exact h0 hh.symm
theorem Fo.Mb{done:List Bs}(h:Fo p done f k)(hl:k<p.length)(h47:p.getD k 0=47)(hb:E3 ((p.drop f).take (k - f))=false):Du p=false:=by
 have hd:p.drop k=47 :: p.drop (k+1):=by
  rw[AX hl]
  have:p[k]=47:=by simpa[List.getD,hl]using h47
  rw[this]
 have:=h.sp
 rw[hd,Xc]at this;exact Uu this hb
theorem Fo.slash{done:List Bs}(h:Fo p done f k)(hl:k<p.length)(h47:p.getD k 0=47)(hb:E3 ((p.drop f).take (k - f))=true):Fo p (done++[(p.drop f).take (k - f)]) (k+1) (k+1):=by
 have hd:p.drop k=47 :: p.drop (k+1):=by
  rw[AX hl]
  have:p[k]=47:=by simpa[List.getD,hl]using h47
  rw[this]
 refine⟨AB _,by omega,?_,by simp,by simp[h.ok,hb],by simp;have:=h.len;omega⟩
 have:=h.sp
 rw[hd,Xc]at this;rw[this];simp[X5]
theorem Fo.last{done:List Bs}(h:Fo p done f p.length):split p=done++[(p.drop f).take (p.length - f)]:=by
 have:=h.sp
 rw[List.drop_length]at this;simpa[split,glue]using this
theorem Fo.NI{done:List Bs}(h:Fo p done f p.length)(hb:E3 ((p.drop f).take (p.length - f))=false):Du p=false:=Uu h.last hb
theorem gd(hz:(0:UInt8)∉n):E3 n=(n≠[]&&n≠[46]&&n≠[46,46]&&decide (n.length<=20)):=by
 unfold E3
 have:n.contains 0=false:=by
  cases h:n.contains 0 with
  | false=>rfl
  | true=>exact absurd (Bu.1 h) hz
 rw[this];simp
theorem JK:(prog.info? 9).map (λi=>(i.zero,i.size,i.bytes))=some (some (.string ByteArray.empty),1,16):=by kernel_rfl
def J8(l:List Bs):List Value:=l.map λn=>.string (D9 n)
theorem Yy(l:List Bs)(n:Bs):J8 l++[.string (D9 n)]=J8 (l++[n]):=by simp[J8]
theorem Fo.OP{p:Bs}{done:List Bs}{f:Nat}(h:Fo p done f p.length)(hb:E3 ((p.drop f).take (p.length - f))=true):split p=done++[(p.drop f).take (p.length - f)]/\Du p=decide (done.length+1<=6):=by
 refine⟨h.last,?_⟩;unfold Du;rw[h.last]
 have:=h.ok
 rw[List.all_append,this];simp[hb]
theorem PZ{w:D7}{base:Nat}{e:TypeId}{size:Nat}{v:Value}{n:Nat}{xs:List Value}(h:w.ownsRow base e size v (n+1) xs):∃g cap,v=.slice (some ⟨g,0,none⟩) (n+1) cap:=by
 rcases h.2 with⟨_,h0⟩ | ⟨g,cap,cur,rfl,_⟩
 ·exact absurd h0 (by omega)
 exact⟨g,cap,rfl⟩
theorem ZM{n:Bs}(hz:(0:UInt8)∉n)(x:ByteArray)(hx:x=D9 n) :
 (E3 n=false/\((x.toList==[])=true\/((x.toList==[])=false/\(x.toList==[46])=true)\/((x.toList==[])=false/\(x.toList==[46])=false/\(x.toList==[46,46])=true)\/((x.toList==[])=false/\(x.toList==[46])=false/\(x.toList==[46,46])=false/\20<n.length))) \/
 (E3 n=true/\(x.toList==[])=false/\(x.toList==[46])=false/\(x.toList==[46,46])=false/\n.length<=20):=by
 rw[gd hz];subst hx;rw[LC];by_cases h1:n=[]
 ·subst h1;exact .inl ⟨by simp,.inl (by simp)⟩
 by_cases h2:n=[46]
 ·subst h2;exact .inl ⟨by simp,.inr (.inl (by simp))⟩
 by_cases h3:n=[46,46]
 ·subst h3;exact .inl ⟨by simp,.inr (.inr (.inl (by simp)))⟩
 by_cases h4:n.length<=20
 ·exact .inr ⟨by simp[h1,h2,h3,h4],by simpa using h1,by simpa using h2,by simpa using h3,h4⟩
 exact .inl ⟨by simp[h4],.inr (.inr (.inr ⟨by simpa using h1,by simpa using h2,by simpa using h3,by omega⟩))⟩
theorem SG(p:Bs)(w:D7)(hp:p.length<=1048576) :
 Calls prog 152 #[.string (D9 p)] w λe w'=>Below w.heap.size w w'/\∃v,e=.returned (.tuple #[v,.bool (Du p)]) /\
  (Du p=true->w'.ownsRow w.heap.size 9 1 v (split p).length (J8 (split p))):=by
 obtain⟨X,hX⟩:=Jq (D9 p);have Sx:X.size=p.length:=by rw[hX,Dd]
 have gx:Hid (∀k (h:k<X.size),X[k]'h=p.getD k 0):=λk h=>by subst hX;exact MP p k h
 have ex:Hid (∀a b,X.extract a b=D9 ((p.drop a).take (b - a))):=λa b=>by subst hX;exact Jb p a b
 rw[<-hX];have Hx:=Jy Sx;have ax:X.size<=1048576:=by omega
 obtain⟨i0,hi,ai,an,ah⟩:=Ai JK;clear hX Sx hp;go_enter func152,ntmps152
 go_wp2
 go_loopw [4,5,6] (λv f i wr=>∃(done:List Bs) (ff k:Nat) (a':Option Addr) (c':Nat),v=.slice a' done.length c'/\f=.int .i64 ff/\i=.int .i64 k/\Hid ((k<=X.size/\Fo p done ff k)\/(k=X.size+1/\split p=done/\Du p=decide (done.length<=6)))/\k<=X.size+1/\ff<=k/\done.length<=k/\wr.ownsRow w.heap.size 9 1 v done.length (J8 done)/\Below w.heap.size w wr) (λ_ _ i _=>X.size+1 - (intOf i).toNat)
 case atStart=>exact⟨[],0,0,none,0,rfl,rfl,rfl,Jy (.inl ⟨AU _,Fo.start p⟩),by omega,AB _,AB _,AZ _ _ _ _,AM _ _⟩
 case round =>
  obtain⟨done,ff,k,a',c',rfl,rfl,rfl,Hs,az,aw,av,a2,a1⟩:=hrel;have ay:=a1.size;by_cases hk:k<=X.size
  ·have Hn:Hid (Fo p done ff k):=by
    rcases Hs.o with h | h
    ·exact h.2
    exact absurd h.1 (by omega)
   clear Hs;by_cases hl:k<X.size
   ·have au:decide ((k:Int)<(X.size:Int))=true:=by simpa using hl
    have ao:((k:Int)==(X.size:Int))=false:=BI.2 (by omega);have hg:=gx.o k hl;by_cases h0:X[k]'hl=0
    ·have ar:(((X[k]'hl).toNat:Int)==0)=true:=by rw[h0];rfl
     have HR:Hid (Du p=false):=Hn.o.zero (by have:=Hx.o;omega) (by rw[<-hg];exact h0);clear hg h0;go_wp2;go_ret2
     rw[HR.o];exact⟨a1,_,rfl,λh=>by cases h⟩
    have ar:(((X[k]'hl).toNat:Int)==0)=false:=BI.2 λh=>h0 (BL.1 (by have:(0:UInt8).toNat=0:=rfl;omega))
    by_cases a8:X[k]'hl=47
    ·have ag:(((X[k]'hl).toNat:Int)==47)=true:=by rw[a8];rfl
     have aj:Hid (p.getD k 0=47):=by rw[<-hg];exact a8
     have hx:=ex.o ff k;have ac:((p.drop ff).take (k - ff)).length=k - ff:=by have:=Hx.o;rw[Ae,Bo];omega
     rcases ZM Hn.o.z _ hx with⟨hno,hc⟩ | ⟨hyes,c1,c2,c3,c4⟩
     ·have HR:Hid (Du p=false):=Hn.o.Mb (by have:=Hx.o;omega) aj.o hno;clear hx hno hg h0 a8;rw[ac]at hc;rcases hc with c1 | ⟨c1,c2⟩ | ⟨c1,c2,c3⟩ | ⟨c1,c2,c3,c4⟩
      all_goals
       go_wp2;go_ret2
       rw[HR.o];exact⟨a1,_,rfl,λh=>by cases h⟩
     have a7:Hid (Fo p (done++[(p.drop ff).take (k - ff)]) (k+1) (k+1)):=Hn.o.slash (by have:=Hx.o;omega) aj.o hyes;have ad:=Jy (Yy done ((p.drop ff).take (k - ff)));rw[ac]at c4;have aa:=Jy hx;clear hx hyes hg;have HY:Hid (X.extract ff k=D9 ((p.drop ff).take (k - ff))):=aa;go_wp2_with (at_builtin;refine Ar _ rfl (.tmp 53) (.tmp 55) 40 rfl w.heap.size 9 i0 (.string ByteArray.empty) 1 16 underlying40 hi ai an ah rfl (by decide) _ _ _ rfl (a2.alloc _) ⟨wr.heap.size,0,none⟩ 1 1 [.string (X.extract ff k)] rfl rfl ?c1 ?c2 ?c3 ?c4 ?c5 ?_)
     case c1=>exact Bg _ _ _
     case c2=>intro u hu;simp at hu;subst hu;rfl
     case c3=>unfold maxLen;omega
     case c4=>omega
     case c5=>simp;omega
     intro v3 w3 a0 a3 _;have a5:Below w.heap.size w w3:=(a1.alloc (by omega) _).grown a3 (by simp;omega) (λq hq=>(a2.lt q hq).1);obtain⟨g3,a6,rfl⟩:=PZ a0;have a4:w3.ownsRow w.heap.size 9 1 (.slice (some ⟨g3,0,none⟩) (done.length+1) a6) (done.length+1) (J8 (done++[(p.drop ff).take (k - ff)])):=by
      rw[<-ad.o,<-aa.o];exact a0
     clear a2 a3 a1 a0;go_wp2;go_roundw
     case rel=>exact⟨done++[(p.drop ff).take (k - ff)],k+1,k+1,some ⟨g3,0,none⟩,a6,by simp,by go_num,by go_num,Jy (.inl ⟨by omega,a7.o⟩),by omega,by omega,by simp;omega,by simpa using a4,a5⟩
     case measure=>simp[intOf];omega
    have ag:(((X[k]'hl).toNat:Int)==47)=false:=BI.2 λh=>a8 (BL.1 (by have:(47:UInt8).toNat=47:=rfl;omega))
    have a7:Hid (Fo p done ff (k+1)):=Hn.o.other (by have:=Hx.o;omega) (by rw[<-hg];exact h0) (by rw[<-hg];exact a8);clear hg h0 a8;go_wp2;go_roundw
    case rel=>exact⟨done,ff,k+1,a',c',rfl,rfl,by go_num,Jy (.inl ⟨by omega,a7.o⟩),by omega,by omega,by omega,a2,a1⟩
    case measure=>simp[intOf];omega
   have au:decide ((k:Int)<(X.size:Int))=false:=by simpa using hl
   have a9:k=X.size:=by omega
   have ao:((k:Int)==(X.size:Int))=true:=by rw[a9];simp
   have am:Hid (Fo p done ff p.length):=by have h1:=Hn.o;have h2:=Hx.o;rw[a9,h2]at h1;exact h1
   have ae:Hid (k=p.length):=by have h2:=Hx.o;exact a9.trans h2
   have hx:=ex.o ff k;have hg:True:=trivial;have ac:((p.drop ff).take (k - ff)).length=k - ff:=by have:=Hx.o;rw[Ae,Bo];omega
   rcases ZM Hn.o.z _ hx with⟨hno,hc⟩ | ⟨hyes,c1,c2,c3,c4⟩
   ·have HR:Hid (Du p=false):=am.o.NI (by have h:=hno;rw[ae.o]at h;exact h);clear hx hno hg a9;rw[ac]at hc;rcases hc with c1 | ⟨c1,c2⟩ | ⟨c1,c2,c3⟩ | ⟨c1,c2,c3,c4⟩
    all_goals
     go_wp2;go_ret2
     rw[HR.o];exact⟨a1,_,rfl,λh=>by cases h⟩
   have a7:Hid (split p=done++[(p.drop ff).take (k - ff)]/\Du p=decide (done.length+1<=6)):=by have h:=hyes;have h2:=ae.o;rw[h2]at h ⊢;exact am.o.OP h
   have ad:=Jy (Yy done ((p.drop ff).take (k - ff)));rw[ac]at c4;have aa:=Jy hx;clear hx hyes hg a9;have HY:Hid (X.extract ff k=D9 ((p.drop ff).take (k - ff))):=aa;go_wp2_with (at_builtin;refine Ar _ rfl (.tmp 53) (.tmp 55) 40 rfl w.heap.size 9 i0 (.string ByteArray.empty) 1 16 underlying40 hi ai an ah rfl (by decide) _ _ _ rfl (a2.alloc _) ⟨wr.heap.size,0,none⟩ 1 1 [.string (X.extract ff k)] rfl rfl ?c1 ?c2 ?c3 ?c4 ?c5 ?_)
   case c1=>exact Bg _ _ _
   case c2=>intro u hu;simp at hu;subst hu;rfl
   case c3=>unfold maxLen;omega
   case c4=>omega
   case c5=>simp;omega
   intro v3 w3 a0 a3 _;have a5:Below w.heap.size w w3:=(a1.alloc (by omega) _).grown a3 (by simp;omega) (λq hq=>(a2.lt q hq).1);obtain⟨g3,a6,rfl⟩:=PZ a0;have a4:w3.ownsRow w.heap.size 9 1 (.slice (some ⟨g3,0,none⟩) (done.length+1) a6) (done.length+1) (J8 (done++[(p.drop ff).take (k - ff)])):=by
    rw[<-ad.o,<-aa.o];exact a0
   clear a2 a3 a1 a0;go_wp2;go_roundw
   case rel=>exact⟨done++[(p.drop ff).take (k - ff)],k+1,k+1,some ⟨g3,0,none⟩,a6,by simp,by go_num,by go_num,Jy (.inr ⟨by have h3:=ae.o;have h4:=Hx.o;omega,a7.o.1,by simpa using a7.o.2⟩),by omega,by omega,by simp;omega,by simpa using a4,a5⟩
   case measure=>simp[intOf];omega
  have Hf:Hid (split p=done/\Du p=decide (done.length<=6)):=by
   rcases Hs.o with h | h
   ·exact absurd h.1 hk
   exact h.2
  clear Hs;go_wp2;go_ret2
  obtain⟨h1,h2⟩:=Hf.o;subst h1;refine⟨a1,_,?_,λ_=>a2⟩;have af:decide (((split p).length:Int)<=6)=decide ((split p).length<=6):=decide_eq_decide.2 (by omega);rw[h2,<-af];rfl
end
section
open Go.RowKit Go.Nt
def Na(t:TypeId):Obj->Bool
 | .cells _ t' _=>t'==t
 | _=>false
structure Gc (t:TypeId) (w w':D7):Prop where
 size:w.heap.size<=w'.heap.size
 block:∀(k:Nat) (o:Obj),w.heap[k]? = some o->Na t o=false->w'.heap[k]? = some o
namespace Gc
variable {t:TypeId} {a b c:D7}
theorem refl(t:TypeId)(w:D7):Gc t w w:=⟨AB _,λ_ _ h _=>h⟩
theorem trans(h:Gc t a b)(k:Gc t b c):Gc t a c:=⟨AF h.size k.size,λi o e n=>k.block i o (h.block i o e n) n⟩
theorem alloc(h:Gc t a b)(o:Obj):Gc t a (b.alloc o):=h.trans ⟨by simp,λk _ e _=>(AO b o k (lt_of_heap e)).trans e⟩
theorem below(h:Gc t a b)(hb:Below b.heap.size b c):Gc t a c:=h.trans ⟨hb.size,λk _ e _=>(hb.block k (lt_of_heap e)).trans e⟩
theorem grown(h:Gc t a b){base n s:Nat}{v:Value}{xs:List Value}(hown:b.ownsRow base t s v n xs)(hg:b.grownBy c v.ownBlock):Gc t a c:=by
 refine h.trans ⟨hg.size,λk o e hn=>(hg.block k (lt_of_heap e) (λhe => ?_)).trans e⟩;rcases hown.2 with⟨rfl,_⟩ | ⟨g,cap,cur,rfl,_,hh,_⟩
 ·simp[Value.ownBlock]at he
 simp[Value.ownBlock]at he;subst he;rw[hh]at e;cases e
 simp[Na]at hn
theorem cells(h:Gc t a b){k:Nat}{x:Array Value}{t':TypeId}{f:Nat × Nat}(e:a.heap[k]? = some (.cells x t' f))(hne:t'≠t):b.heap[k]? = some (.cells x t' f):=
 h.block k _ e (by simp[Na,hne])
end Gc
end
section
open Go.RowKit Go.Nt
def bv(l:Bs):List Value:=l.map λb=>Value.int .u8 b.toNat
theorem Ov(l:Bs):(bv l).length=l.length:=by simp[bv]
theorem OV(a b:Bs):bv (a++b)=bv a++bv b:=by simp[bv]
theorem RG(l:Bs):Lib.strCells (D9 l)=bv l:=rfl
theorem Fz:(prog.info? 5).map (λi=>(i.zero,i.size,i.bytes))=some (some (.int .u8 0),1,1):=by kernel_rfl
theorem Sp(n:Int)(h₀:0<=n)(h₁:n<2^62):IntKind.i64.wrap n=n:=by rw[Av];omega
theorem Tw(n:Int)(h0:0<=n)(h1:n<=4095):bits .or .i64 n 32768=n+32768:=by
 obtain⟨k,rfl⟩:=Ay h0;rw[show(32768:Int)=((32768:Nat):Int)from rfl,(bits_nat .i64 62 (by decide) Sp k 32768 (by omega) (by omega)).2]
 have:k ||| 32768=k+32768:=by
  rw[Nat.or_comm,show(32768:Nat)=2^15*1 from rfl,<-Nat.two_pow_add_eq_or_of_lt (by omega:k<2^15) 1];omega
 rw[this];rfl
theorem qD(n:Nat)(b:Nat)(hn:n<1099511627776)(hb:b<256):bits .or .i64 ((n:Int)*256) (b:Int)=((n*256+b:Nat):Int):=by
 rw[bits_join .i64 62 (by decide) Sp 8 _ _ (by omega) (by omega) (by omega) (by omega) (by omega) (by omega)];simp
def Bytes(w:D7)(B:Nat)(v:Value)(l:Bs):Prop:=w.ownsRow B 5 1 v l.length (bv l)
theorem Bytes.slice{w:D7}{B:Nat}{v:Value}{l:Bs}(h:Bytes w B v l):∃a c,v=.slice a l.length c:=by
 rcases h.2 with⟨rfl,h0⟩ | ⟨g,cap,cur,rfl,_⟩
 ·exact⟨none,0,by rw[h0]⟩
 exact⟨_,_,rfl⟩
theorem YC(k j n:Nat)(h:j<k):enc (j+1) (n/256^(k - (j+1)))=enc j (n/256^(k - j))++[UInt8.ofNat (n/256^(k - (j+1)))]:=by
 rw[enc,Cr,<-By,show(k - (j+1)).succ=k - j by omega]
theorem Pa(B:Nat)(v:Value)(l:Bs)(k n:Nat)(w:D7)(hB:B<=w.heap.size)(hv:Bytes w B v l)(hk:k<=4)(hl:l.length<=1000000)(hn:n<1099511627776) :
 Calls prog 130 #[v,.int .i64 k,.int .i64 n] w λe w'=>∃v',e=.returned v'/\Bytes w' B v' (l++enc k n)/\Below B w w'/\Gc 5 w w':=by
 obtain⟨i0,hi,a9,aa,a8⟩:=Ai Fz;have Hv:=Jy hv;clear hv;go_enter func130,ntmps130
 go_wp2
 go_loopw [0,7] (λb i wr=>∃j:Nat,j<=k/\i=.int .i64 ((k:Int) - j - 1)/\Hid (Bytes wr B b (l++enc j (n/256^(k - j))))/\Hid (Below B w wr)/\Hid (Gc 5 w wr)) (λ_ i _=>((intOf i)+1).toNat)
 case atStart=>exact⟨0,AU _,by go_num,Jy (by simpa[enc]using Hv.o),Jy (AM _ _),Jy (Gc.refl _ _)⟩
 case round =>
  obtain⟨j,hj,rfl,Hb,a1,a2⟩:=hrel;rcases CM j k with hlt | hge
  ·obtain⟨m,hm⟩:=Jq (k - (j+1));have a6:(k:Int) - j - 1=(m:Nat):=by omega
   have ae:m<=3:=by omega
   have Hs:=Jy (YC k j n hlt);rw[<-hm]at Hs;have Hj:=Jy a6;have Hm:=Jy hm;rw[a6];clear a6 hm;obtain⟨a,c,rfl⟩:=Hb.o.slice;obtain⟨L,hL⟩:=Jq ((l++enc j (n/256^(k - j))).length);have af:L<=1000004:=by rw[hL,AN,IE];omega
   rw[<-hL]at Hb ⊢;have HL:=Jy hL;have Ho:Hid (wr.ownsRow B 5 1 (.slice a L c) L (bv (l++enc j (n/256^(k - j))))):=Jy (by have:=Hb.o;unfold Bytes at this;rwa[<-hL]at this);have ad:=a1.o.size;clear hL;go_wp2_with (at_builtin;refine Ar _ rfl (.tmp 14) (.tmp 20) 111 rfl B 5 i0 _ 1 1 underlying111 hi a9 aa a8 rfl (by decide) _ _ _ rfl (Ho.o.alloc _) ⟨wr.heap.size,0,none⟩ 1 1 [.int .u8 ((n:Int)/2^(8*m)%256)] rfl rfl ?c1 ?c2 ?c3 ?c4 ?c5 ?_)
   case c1=>exact Bg _ _ _
   case c2=>intro u hu;simp at hu;subst hu;rfl
   case c3=>unfold maxLen;omega
   case c4=>omega
   case c5=>simp;omega
   intro v3 w3 a5 a0 _;have a4:Below B w w3:=(a1.o.alloc (by omega) _).grown a0 (by simp;omega) (λq hq=>(Ho.o.lt q hq).1);have a3:Gc 5 w w3:=(a2.o.alloc _).grown (Ho.o.alloc _) a0;have ac:Hid (Bytes w3 B v3 (l++enc (j+1) (n/256^(k - (j+1))))):=by
    have h1:=HL.o;have h2:=Hs.o;have h3:=Hm.o;refine Jy ?_;unfold Bytes;rw[<-h3,h2,<-Ap,OV,AN,<-h1];have h4:bv [UInt8.ofNat (n/256^m)]=[.int .u8 ((n:Int)/2^(8*m)%256)]:=by
     simp only[bv,Bb,Ct,Bw];rw[show(256:Nat)=2^8 from rfl,<-Nat.pow_mul]
     congr 2
    rw[h4];exact a5
   go_wp2;go_roundw
   case rel=>exact⟨j+1,by omega,by have:=Hj.o;go_num,ac,Jy a4,Jy a3⟩
   case measure=>simp[intOf]
  have a7:j=k:=by omega
  subst a7;have e1:(j:Int) - j - 1 = -1:=by omega
  rw[e1];go_wp2;go_ret
  refine⟨_,rfl,?_,a1.o,a2.o⟩
  have:=Hb.o
  simpa using this
end
end Go.Proofs.YtodmdkhdbfbfgaaGreatDoor
