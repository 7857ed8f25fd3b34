/- Lemmas. -/
import Derived.Test.YtodmdkhdbfbfgaaGreatDoorM03
set_option linter.unusedVariables false
set_option linter.unusedSimpArgs false
set_option maxRecDepth 100000
set_option maxHeartbeats 8000000
open Go.Proofs.Tryz
namespace Go.Proofs.YtodmdkhdbfbfgaaGreatDoor.S1
open Go.RowKit Pk
structure Aside (lo hi lb:Nat) (kv qv:Option Nat) (ib g:Nat):Prop where
 LK:¬Ew lo hi lb kv qv ib
 hg:¬Ew lo hi lb kv qv g
 Sj:g≠ib
theorem Aside.fS{lo hi lb:Nat}{kv qv:Option Nat}{ib g:Nat}(h:Aside lo hi lb kv qv ib g):ib≠lb:=λe=>h.LK (.inr (.inl e))
def G8:Value->Nat
 | .slice _ n _=>n
 | _=>0
def RX(w:D7)(lo hi cb lb:Nat)(L:Loc)(lv:Lv)(kv qv:Option Nat)(nk nq:Nat)(m:M)(K Q:Nat->Bool)(b p ib ni g o c:Nat)(S:Nat->Bool)(l:List D8)(e:Ending)(w':D7):Prop:=
 ∃o' c',e=.returned (.slice (some ⟨g,o',none⟩) (Df b l m p S).1.length c')/\(Df b l m p S).1.length<=c'/\c'<=c/\Ff w' g o' (Df b l m p S).1/\EO w' lo hi cb lb L lv kv qv nk nq (Df b l m p S).2.1 K Q b (Df b l m p S).2.2.1/\EK w' ib (ni+l.length) (Df b l m p S).2.2.2/\Fm (λk=>Ew lo hi lb kv qv k\/k=ib) w w'
theorem jV{w w':D7}{lo hi cb lb:Nat}{L:Loc}{lv:Lv}{kv qv:Option Nat}{nk nq:Nat}{m:M}{K Q:Nat->Bool}{b p ib:Nat}(h:EO w lo hi cb lb L lv kv qv nk nq m K Q b p)(hi':¬Ew lo hi lb kv qv ib)(hm:w.mapTurned w' ib):EO w' lo hi cb lb L lv kv qv nk nq m K Q b p:=
 h.Dn (AF h.sz hm.grown.size) λk hk hl=>hm.grown.block k hl (λe=>by cases e;exact hi' hk)
theorem km(w:D7)(lo hi cb lb:Nat)(L:Loc)(lv:Lv)(kv qv:Option Nat)(nk nq:Nat)(m:M)(K Q:Nat->Bool)(b p ib ni g o c:Nat)(S:Nat->Bool)(l:List D8)
 (h:EO w lo hi cb lb L lv kv qv nk nq m K Q b p) (hb:b<1000000) (hp:p<1000000) (hS:EK w ib ni S) (hni:ni+l.length<=1000000) (ha:Aside lo hi lb kv qv ib g) (ht:Ff w g o l) (hlen:∀x∈l,x.length<=64) (hlc:l.length<=c) (hc:c<=1000000) :
 Calls prog 192 #[.pointer (some ⟨lb,0,none⟩),.slice (some ⟨g,o,none⟩) l.length c,.map (some ib)] w λe w'=>RX w lo hi cb lb L lv kv qv nk nq m K Q b p ib ni g o c S l e w':=by
 obtain⟨n,hn⟩:=Jq l.length;rw[<-hn]at hni hlc ⊢;have H0:=Jy h;have HS0:=Jy hS;have HT0:=Jy ht;have Hlen:=Jy hlen;have HA:=Jy ha;have Hn:=Jy hn;have hnp0:m.np<=16:=h.wf.Jv;clear h hS ht hlen ha hn;go_enter func192,ntmps192
 go_wp2_with fail
 go_loopw [1] (λv wr=>∃(l':List D8) (m':M) (p' o' n' c' ni':Nat) (S':Nat->Bool),v=.slice (some ⟨g,o',none⟩) n' c'/\n'<=c'/\c'<=c/\p'<1000000/\ni'+n'<=ni+n/\m'.np<=16/\Hid (n'=l'.length)/\Hid (∀x∈l',x.length<=64)/\Hid (Df b l m p S=Df b l' m' p' S')/\Hid (EO wr lo hi cb lb L lv kv qv nk nq m' K Q b p')/\Hid (EK wr ib ni' S')/\Hid (Ff wr g o' l')/\Hid (Fm (λk=>Ew lo hi lb kv qv k\/k=ib) w wr)) (λv _=>G8 v)
 case atStart=>exact⟨l,m,p,o,n,c,ni,S,rfl,hlc,AB _,hp,AB _,hnp0,Hn,Hlen,Jy rfl,H0,HS0,HT0,Jy (Fm.refl _ _)⟩
 case round =>
  clear H0 HS0 HT0 Hlen;obtain⟨l',m',p',o',n',c',ni',S',rfl,hnc,hcc,hp',hni',hnp,Hn',Hlen',HE,H1,HS1,HT1,HF1⟩:=hrel;have c0:=H1.o.log.c0;have c5:=H1.o.log.c5;have c0d:wr.drew.cell? ⟨lb,0,none⟩=some (.pointer (some ⟨cb,0,none⟩)):=c0;have c5d:wr.drew.cell? ⟨lb,7,none⟩=some (.int .i64 p'):=c5;cases l' with
  | nil =>
    have hn0:n'=0:=Hn'.o;subst hn0;have HR:Hid (Df b l m p S=([],m',p',S')):=Jy HE.o;go_wp2_with fail;refine BE (S:=λV=>V.cell? ⟨lb,0,none⟩=some (.pointer (some ⟨cb,0,none⟩))/\V.cell? ⟨lb,7,none⟩=some (.int .i64 p')) (by kernel_rfl) ⟨c0d,c5d⟩ (λhHeld => ?_);refine tk 0 ⟨some 7,.move (.tmp 1),_,_,_,none⟩ (.slice (some ⟨g,o',none⟩) 0 c') rfl (λw h=>by go_simp) hHeld ?_;simp only[zP,List.set];refine tk 1 ⟨some 8,.call { callee:=Callee.builtin Builtin.len,args:=#[.tmp 7],argTypes:=#[40] },_,_,_,none⟩ (.int .i64 ((0:Nat):Int)) rfl (λw h=>by go_simp) hHeld ?_;simp only[zP,List.set]
    refine tk 2 ⟨some 9,.binOp .gtr 3 (.tmp 8) (.const (.int .i64 0)) 3,_,_,_,none⟩ (.bool false) rfl (λw h=>by go_simp) hHeld ?_;simp only[zP,List.set];refine tk 3 ⟨some 10,.move (.tmp 9),_,_,_,none⟩ (.bool false) rfl (λw h=>by go_simp) hHeld ?_;simp only[zP,List.set];refine Bh (i:=4) (oi:=⟨some 11,.move (.tmp 0),_,_,_,some (3,true)⟩) (v:=undef) rfl (by kernel_rfl) (by kernel_rfl) (by kernel_rfl) (λ_ _ _ h=>h) (Or.inr ⟨by kernel_rfl,rfl⟩) hHeld ?_;simp only[zP,List.set]
    refine Bh (i:=5) (oi:=⟨some 12,.nilCheck (.tmp 11),0, "log.go:89",#[⟨4,.data⟩,⟨3,.guard⟩],some (3,true)⟩) (v:=undef) rfl (by kernel_rfl) (by kernel_rfl) (by kernel_rfl) (λ_ _ _ h=>h) (Or.inr ⟨by kernel_rfl,rfl⟩) hHeld ?_;simp only[zP,List.set];refine Bh (i:=6) (oi:=⟨some 13,.fieldAddr 132 (.tmp 12) 6,0, "log.go:89",#[⟨5,.data⟩,⟨3,.guard⟩],some (3,true)⟩) (v:=undef) rfl (by kernel_rfl) (by kernel_rfl) (by kernel_rfl) (λ_ _ _ h=>h) (Or.inr ⟨by kernel_rfl,rfl⟩) hHeld ?_;simp only[zP,List.set];refine Bh (i:=7) (oi:=⟨some 14,.load 3 (.tmp 13),3, "log.go:89",#[⟨6,.data⟩,⟨3,.guard⟩],some (3,true)⟩) (v:=undef) rfl (by kernel_rfl) (by kernel_rfl) (by kernel_rfl) (λ_ _ _ h=>h) (Or.inr ⟨by kernel_rfl,rfl⟩) hHeld ?_;simp only[zP,List.set]
    refine Bh (i:=8) (oi:=⟨some 15,.move (.tmp 0),75, "log.go:89",#[⟨3,.guard⟩],some (3,true)⟩) (v:=undef) rfl (by kernel_rfl) (by kernel_rfl) (by kernel_rfl) (λ_ _ _ h=>h) (Or.inr ⟨by kernel_rfl,rfl⟩) hHeld ?_;simp only[zP,List.set];refine Bh (i:=9) (oi:=⟨some 16,.nilCheck (.tmp 15),0, "log.go:89",#[⟨8,.data⟩,⟨3,.guard⟩],some (3,true)⟩) (v:=undef) rfl (by kernel_rfl) (by kernel_rfl) (by kernel_rfl) (λ_ _ _ h=>h) (Or.inr ⟨by kernel_rfl,rfl⟩) hHeld ?_;simp only[zP,List.set];refine Bh (i:=10) (oi:=⟨some 17,.fieldAddr 132 (.tmp 16) 0,0, "log.go:89",#[⟨9,.data⟩,⟨3,.guard⟩],some (3,true)⟩) (v:=undef) rfl (by kernel_rfl) (by kernel_rfl) (by kernel_rfl) (λ_ _ _ h=>h) (Or.inr ⟨by kernel_rfl,rfl⟩) hHeld ?_;simp only[zP,List.set]
    refine Bh (i:=11) (oi:=⟨some 18,.load 28 (.tmp 17),28, "log.go:89",#[⟨10,.data⟩,⟨3,.guard⟩],some (3,true)⟩) (v:=undef) rfl (by kernel_rfl) (by kernel_rfl) (by kernel_rfl) (λ_ _ _ h=>h) (Or.inr ⟨by kernel_rfl,rfl⟩) hHeld ?_;simp only[zP,List.set];refine Bh (i:=12) (oi:=⟨some 19,.call { callee:=Callee.value (Operand.func 77),args:=#[.tmp 18],argTypes:=#[28] },3, "log.go:89",#[⟨11,.data⟩,⟨3,.chain⟩,⟨3,.guard⟩],some (3,true)⟩) (v:=undef) rfl (by kernel_rfl) (by kernel_rfl) (by kernel_rfl) (λ_ _ _ h=>h) (Or.inr ⟨by kernel_rfl,rfl⟩) hHeld ?_;simp only[zP,List.set];refine Bh (i:=13) (oi:=⟨some 20,.binOp .lss 3 (.tmp 14) (.tmp 19) 3,4, "log.go:89",#[⟨7,.data⟩,⟨12,.data⟩,⟨3,.guard⟩],some (3,true)⟩) (v:=undef) rfl (by kernel_rfl) (by kernel_rfl) (by kernel_rfl) (λ_ _ _ h=>h) (Or.inr ⟨by kernel_rfl,rfl⟩) hHeld ?_;simp only[zP,List.set]
    refine tk 14 ⟨some 21,.pick (.tmp 10) (.tmp 20) (.const (.bool false)),_,_,_,none⟩ (.bool false) rfl (λw h=>by go_simp) hHeld ?_;simp only[zP,List.set];refine BT (by kernel_rfl) ?_ _;clear hHeld;go_wp2;go_ret
    exact⟨o',c',by rw[HR.o];rfl,by rw[HR.o];exact AU _,hcc,by rw[HR.o];exact λk y hy=>by simp at hy,by rw[HR.o];exact H1.o.drew,by rw[HR.o];exact HS1.o.mono (by have:=Hn.o;omega),HF1.o.drew⟩
  | cons x xs =>
    obtain⟨n1,rfl⟩:∃n1,n'=n1+1:=⟨xs.length,Hn'.o⟩;have hx64:=Hlen'.o x (by simp);have Hxs:Hid (∀y∈xs,y.length<=64):=Jy (λy hy=>Hlen'.o y (by simp[hy]));have Hn1:Hid (n1=xs.length):=Jy (by have:=Hn'.o;simpa using this);have cg:wr.cell? ⟨g,o',none⟩=some (.string (D9 x)):=by have:=HT1.o 0 x rfl;simpa using this
    have HPg:=Jy (Er wr.drew lo hi cb L m' H1.o.drew.E2);obtain⟨np,hnpe⟩:=Jq m'.np;rw[<-hnpe]at hnp HPg;have Hnp:=Jy hnpe;have hgt:((n1+1:Nat):Int) > 0:=by omega
    have hgt':(0:Int)<(n1:Int)+1:=by omega
    have hwr:g<wr.heap.size:=Aj wr _ cg;clear hnpe;go_wp2_with fail;refine BE (S:=λV=>V.cell? ⟨lb,0,none⟩=some (.pointer (some ⟨cb,0,none⟩))/\V.cell? ⟨lb,7,none⟩=some (.int .i64 p')) (by kernel_rfl) ⟨c0d,c5d⟩ (λhHeld => ?_);refine tk 0 ⟨some 7,.move (.tmp 1),_,_,_,none⟩ (.slice (some ⟨g,o',none⟩) (n1+1) c') rfl (λw h=>by go_simp) hHeld ?_;simp only[zP,List.set];refine tk 1 ⟨some 8,.call { callee:=Callee.builtin Builtin.len,args:=#[.tmp 7],argTypes:=#[40] },_,_,_,none⟩ (.int .i64 ((n1+1:Nat):Int)) rfl (λw h=>by go_simp) hHeld ?_;simp only[zP,List.set]
    refine tk 2 ⟨some 9,.binOp .gtr 3 (.tmp 8) (.const (.int .i64 0)) 3,_,_,_,none⟩ (.bool true) rfl (λw h=>by go_simp) hHeld ?_;simp only[zP,List.set];refine tk 3 ⟨some 10,.move (.tmp 9),_,_,_,none⟩ (.bool true) rfl (λw h=>by go_simp) hHeld ?_;simp only[zP,List.set];refine tk 4 ⟨some 11,.move (.tmp 0),_,_,_,some (3,true)⟩ (.pointer (some ⟨lb,0,none⟩)) rfl (λw h=>by go_simp) hHeld ?_;simp only[zP,List.set];refine tk 5 ⟨some 12,.nilCheck (.tmp 11),_,_,_,some (3,true)⟩ (.pointer (some ⟨lb,0,none⟩)) rfl (λw h=>by go_simp) hHeld ?_;simp only[zP,List.set]
    refine tk 6 ⟨some 13,.fieldAddr 132 (.tmp 12) 6,_,_,_,some (3,true)⟩ (.pointer (some ⟨lb,7,none⟩)) rfl (λw h=>by go_simp) hHeld ?_;simp only[zP,List.set];refine tk 7 ⟨some 14,.load 3 (.tmp 13),_,_,_,some (3,true)⟩ (.int .i64 p') rfl (λw h=>by go_simp) hHeld ?_;simp only[zP,List.set];refine tk 8 ⟨some 15,.move (.tmp 0),_,_,_,some (3,true)⟩ (.pointer (some ⟨lb,0,none⟩)) rfl (λw h=>by go_simp) hHeld ?_;simp only[zP,List.set]
    refine tk 9 ⟨some 16,.nilCheck (.tmp 15),_,_,_,some (3,true)⟩ (.pointer (some ⟨lb,0,none⟩)) rfl (λw h=>by go_simp) hHeld ?_;simp only[zP,List.set];refine tk 10 ⟨some 17,.fieldAddr 132 (.tmp 16) 0,_,_,_,some (3,true)⟩ (.pointer (some ⟨lb,0,none⟩)) rfl (λw h=>by go_simp) hHeld ?_;simp only[zP,List.set];refine tk 11 ⟨some 18,.load 28 (.tmp 17),_,_,_,some (3,true)⟩ (.pointer (some ⟨cb,0,none⟩)) rfl (λw h=>by go_simp) hHeld ?_;simp only[zP,List.set];refine rd 12 rfl (λK hK => ?_);go_simp;refine Jj HPg.o ?_
    refine hK.o _ _ ⟨c0d,c5d⟩ (λhHeld => ?_);by_cases hpl:p'<np
    ·have hpl':(p':Int)<(np:Int):=by omega
     refine tk 13 ⟨some 20,.binOp .lss 3 (.tmp 14) (.tmp 19) 3,_,_,_,some (3,true)⟩ (.bool true) rfl (λw h=>by go_simp) hHeld ?_;simp only[zP,List.set];refine tk 14 ⟨some 21,.pick (.tmp 10) (.tmp 20) (.const (.bool false)),_,_,_,none⟩ (.bool true) rfl (λw h=>by go_simp) hHeld ?_;simp only[zP,List.set];refine BT (by kernel_rfl) ?_ _;clear hHeld hK;have W1d:=H1.o.drew;have W1:=Jy (H1.o.drew.drew);have A:=Jy (qZ wr.drew.drew lo hi cb L m' (b:Nat) (p':Nat) x W1.o.wf (by omega) W1.o.E2);have HWf:=Jy (Mx W1.o.wf (b:Nat) (p':Nat) x);have HNp:=Jy (S8 m' (b:Nat) (p':Nat) x);obtain⟨m2,hm2⟩:=Jq ((Dy m' (b:Nat) (p':Nat) x).2)
     obtain⟨r,hr⟩:=Jq ((Dy m' (b:Nat) (p':Nat) x).1);have HR:Hid (Df b l m p S=if r then Df b xs m2 (p'+1) (λj=>j==b||S' j)else(x :: xs,m2,np,S')):=Jy (by rw[HE.o,Df,<-Hnp.o,AE hpl,hr,hm2]);rw[<-hr,<-hm2]at A;rw[<-hm2]at HWf HNp;have hnp2:m2.np<=16:=by rw[HNp.o,<-Hnp.o];exact hnp
     have e0:wr.drew.drew.cell? ⟨lb,0,none⟩=some (.pointer (some ⟨cb,0,none⟩)):=c0;have e4:wr.drew.drew.cell? ⟨lb,6,none⟩=some (.int .i64 b):=H1.o.log.c4;have e5:wr.drew.drew.cell? ⟨lb,7,none⟩=some (.int .i64 p'):=c5;have eg:wr.drew.drew.cell? ⟨g,o',none⟩=some (.string (D9 x)):=cg;obtain⟨X,hX⟩:=Jq (D9 x);rw[<-hX]at A eg;clear hr hm2 W1d hX cg;go_wp2_with fail;refine BE (S:=λV=>V.cell? ⟨lb,0,none⟩=some (.pointer (some ⟨cb,0,none⟩))/\V.cell? ⟨lb,6,none⟩=some (.int .i64 b)/\V.cell? ⟨lb,7,none⟩=some (.int .i64 p')/\V.cell? ⟨g,o',none⟩=some (.string X)) (by kernel_rfl) ⟨e0,e4,e5,eg⟩ (λhHeld => ?_);refine tk 0 ⟨some 22,.move (.tmp 0),_,_,_,none⟩ (.pointer (some ⟨lb,0,none⟩)) rfl (λw h=>by go_simp) hHeld ?_;simp only[zP,List.set]
     refine tk 1 ⟨some 23,.nilCheck (.tmp 22),_,_,_,none⟩ (.pointer (some ⟨lb,0,none⟩)) rfl (λw h=>by go_simp) hHeld ?_;simp only[zP,List.set];refine tk 2 ⟨some 24,.fieldAddr 132 (.tmp 23) 0,_,_,_,none⟩ (.pointer (some ⟨lb,0,none⟩)) rfl (λw h=>by go_simp) hHeld ?_;simp only[zP,List.set];refine tk 3 ⟨some 25,.load 28 (.tmp 24),_,_,_,none⟩ (.pointer (some ⟨cb,0,none⟩)) rfl (λw h=>by go_simp) hHeld ?_;simp only[zP,List.set];refine tk 4 ⟨some 26,.move (.tmp 0),_,_,_,none⟩ (.pointer (some ⟨lb,0,none⟩)) rfl (λw h=>by go_simp) hHeld ?_;simp only[zP,List.set]
     refine tk 5 ⟨some 27,.nilCheck (.tmp 26),_,_,_,none⟩ (.pointer (some ⟨lb,0,none⟩)) rfl (λw h=>by go_simp) hHeld ?_;simp only[zP,List.set];refine tk 6 ⟨some 28,.fieldAddr 132 (.tmp 27) 5,_,_,_,none⟩ (.pointer (some ⟨lb,6,none⟩)) rfl (λw h=>by go_simp) hHeld ?_;simp only[zP,List.set];refine tk 7 ⟨some 29,.load 3 (.tmp 28),_,_,_,none⟩ (.int .i64 b) rfl (λw h=>by go_simp) hHeld ?_;simp only[zP,List.set];refine tk 8 ⟨some 30,.move (.tmp 0),_,_,_,none⟩ (.pointer (some ⟨lb,0,none⟩)) rfl (λw h=>by go_simp) hHeld ?_;simp only[zP,List.set]
     refine tk 9 ⟨some 31,.nilCheck (.tmp 30),_,_,_,none⟩ (.pointer (some ⟨lb,0,none⟩)) rfl (λw h=>by go_simp) hHeld ?_;simp only[zP,List.set];refine tk 10 ⟨some 32,.fieldAddr 132 (.tmp 31) 6,_,_,_,none⟩ (.pointer (some ⟨lb,7,none⟩)) rfl (λw h=>by go_simp) hHeld ?_;simp only[zP,List.set];refine tk 11 ⟨some 33,.load 3 (.tmp 32),_,_,_,none⟩ (.int .i64 p') rfl (λw h=>by go_simp) hHeld ?_;simp only[zP,List.set];refine tk 12 ⟨some 34,.move (.tmp 1),_,_,_,none⟩ (.slice (some ⟨g,o',none⟩) (n1+1) c') rfl (λw h=>by go_simp) hHeld ?_;simp only[zP,List.set]
     refine tk 13 ⟨some 35,.indexAddr 40 (.tmp 34) (.const (.int .i64 0)),_,_,_,none⟩ (.pointer (some ⟨g,o',none⟩)) rfl (λw h=>by go_simp) hHeld ?_;simp only[zP,List.set];refine tk 14 ⟨some 36,.load 9 (.tmp 35),_,_,_,none⟩ (.string X) rfl (λw h=>by go_simp) hHeld ?_;simp only[zP,List.set];refine rd 15 rfl (λK hK => ?_);go_simp;refine A.o.mono ?_;rintro e W2 ⟨rfl,hC2,hO2⟩;have H2:=Jy (W1.o.turn hC2 HWf.o hO2);have HF2:=Jy (HF1.o.drew.drew.trans (Fm.Kv hO2 λk h1 h2=>.inl (.inl ⟨h1,h2⟩)));have hT2:Ff W2 g o' (x :: xs):=(HT1.o.of_block (w':=wr.drew.drew) rfl).of_block (hO2.block g hwr (λe=>HA.o.hg (.inl e)))
     have hS2:EK W2 ib ni' S':=(HS1.o.of_block (w':=wr.drew.drew) rfl).of_block (hO2.block ib HS1.o.lt (λe=>HA.o.LK (.inl e)));have HT2:=Jy hT2;have HS2:=Jy hS2;have f0:=H2.o.log.c0;have f4:=H2.o.log.c4;have f5:=H2.o.log.c5;have fg:W2.cell? ⟨g,o',none⟩=some (.string X):=by rw[AJ (hO2.block g hwr (λe=>HA.o.hg (.inl e)))];exact eg
     clear hC2 hO2 hT2 hS2;refine hK.o _ _ ⟨f0,f4,f5,fg⟩ (λhHeld => ?_);cases r with
     | true =>
       refine tk 16 ⟨some 38,.unOp .not 4 (.tmp 37),_,_,_,none⟩ (.bool false) rfl (λw h=>by go_simp) hHeld ?_;simp only[zP,List.set];refine BT (by kernel_rfl) ?_ _;clear hHeld hK A;have A2:=Jy (Up ib ni' b _ W2 HS2.o (by omega) (by omega));go_wp2_with fail;refine A2.o.mono ?_;rintro e W3 ⟨rfl,hS3,hm3⟩;clear A2;have H3:=Jy (jV H2.o HA.o.LK hm3);have HF3:=Jy (HF2.o.map (λ_=>.inr rfl) hm3);have HT3:Hid (Ff W3 g o' (x :: xs)):=Jy (HT2.o.of_block (hm3.grown.block g (Aj W2 _ fg) (λe=>by cases e;exact HA.o.Sj rfl)));have g4:=H3.o.log.c4;have g5:=H3.o.log.c5;have gz:=H3.o.log.fz 7;have HS3:=Jy hS3;have H4:=Jy (H3.o.JF (p'+1))
       have HF4:=Jy (HF3.o.set (g:=lb) (λ_=>.inl (.inr (.inl rfl))) 7 (.int .i64 ((p'+1:Nat):Int)));have HT4:Hid (Ff (W3.setCell ⟨lb,7,none⟩ (.int .i64 ((p'+1:Nat):Int))) g (o'+1) xs):=Jy (Ff.tail (HT3.o.of_block (AH W3 ⟨lb,7,none⟩ _ g (λe=>HA.o.hg (.inr (.inl e))))));have HS4:Hid (EK (W3.setCell ⟨lb,7,none⟩ (.int .i64 ((p'+1:Nat):Int))) ib (ni'+1) (λj=>j==b||S' j)):=Jy (HS3.o.of_block (AH W3 ⟨lb,7,none⟩ _ ib HA.o.fS));have h1c:(1:Int)<=(n1:Int)+1:=by omega
       have h1d:(n1:Int)+1<=(c':Int):=by omega
       rw[show((p'+1:Nat):Int)=(p':Int)+1 by omega]at H4 HF4 HT4 HS4;clear hS3 hm3 H2 HF2 HT2 HS2 f0 f5 fg e0 e4 e5 eg c0 c5 c0d c5d;go_wp2;have HRt:Hid (Df b l m p S=Df b xs m2 (p'+1) (λj=>j==b||S' j)):=Jy (by rw[HR.o];rfl);have hTx:Ff (W3.setCell ⟨lb,7,none⟩ (.int .i64 ((p':Int)+1))) g (if c'=1 then o' else o'+1) xs:=by
        by_cases e:c'=1
        ·have:xs=[]:=Bf (by have:=Hn1.o;omega)
         subst this;exact λk y hy=>by simp at hy
        rw[AC e];exact HT4.o
       refine⟨⟨xs,m2,p'+1,if c'=1 then o' else o'+1,n1,c' - 1,ni'+1,λj=>j==b||S' j,?_,by omega,by omega,by omega,by omega,hnp2,Hn1,Hxs,HRt,H4,HS4,Jy hTx,HF4⟩,by simp[G8]⟩;by_cases e:c'=1
       ·rw[AE e,AE e]
       rw[AC e,AC e]
     | false =>
       refine tk 16 ⟨some 38,.unOp .not 4 (.tmp 37),_,_,_,none⟩ (.bool true) rfl (λw h=>by go_simp) hHeld ?_;simp only[zP,List.set];refine BT (by kernel_rfl) ?_ _;clear hHeld hK A;have HPg2:=Jy (Er W2 lo hi cb L m2 H2.o.E2);rw[HNp.o,<-Hnp.o]at HPg2;have f5z:=H2.o.log.fz 7;have H3:=Jy (H2.o.JF np);have HF3:=Jy (HF2.o.set (g:=lb) (λ_=>.inl (.inr (.inl rfl))) 7 (.int .i64 np));have HT3:Hid (Ff (W2.setCell ⟨lb,7,none⟩ (.int .i64 np)) g o' (x :: xs)):=Jy (HT2.o.of_block (AH W2 ⟨lb,7,none⟩ _ g (λe=>HA.o.hg (.inr (.inl e)))));have HS3:Hid (EK (W2.setCell ⟨lb,7,none⟩ (.int .i64 np)) ib ni' S'):=Jy (HS2.o.of_block (AH W2 ⟨lb,7,none⟩ _ ib HA.o.fS))
       have HRf:Hid (Df b l m p S=(x :: xs,m2,np,S')):=Jy (by rw[HR.o];rfl);clear HR e0 e4 e5 eg c0 c5 c0d c5d;go_wp2_with fail;refine Jj HPg2.o ?_;go_wp2;go_ret
       exact⟨o',c',by rw[HRf.o];show _=Ending.returned (.slice _ (xs.length+1) _);rw[<-Hn1.o];rfl,by rw[HRf.o];show xs.length+1<=c';rw[<-Hn1.o];exact hnc,hcc,by rw[HRf.o];exact HT3.o,by rw[HRf.o];exact H3.o,by rw[HRf.o];exact HS3.o.mono (by have:=Hn.o;omega),HF3.o⟩
    have hpl':¬(p':Int)<(np:Int):=by omega
    have HR:Hid (Df b l m p S=(x :: xs,m',p',S')):=Jy (by rw[HE.o,Df,<-Hnp.o,AC hpl]);refine tk 13 ⟨some 20,.binOp .lss 3 (.tmp 14) (.tmp 19) 3,_,_,_,some (3,true)⟩ (.bool false) rfl (λw h=>by go_simp) hHeld ?_;simp only[zP,List.set];refine tk 14 ⟨some 21,.pick (.tmp 10) (.tmp 20) (.const (.bool false)),_,_,_,none⟩ (.bool false) rfl (λw h=>by go_simp) hHeld ?_;simp only[zP,List.set];refine BT (by kernel_rfl) ?_ _;clear hHeld hK;go_wp2;go_ret
    exact⟨o',c',by rw[HR.o];show _=Ending.returned (.slice _ (xs.length+1) _);rw[<-Hn1.o];rfl,by rw[HR.o];show xs.length+1<=c';rw[<-Hn1.o];exact hnc,hcc,by rw[HR.o];exact HT1.o,by rw[HR.o];exact H1.o.drew,by rw[HR.o];exact HS1.o.mono (by have:=Hn.o;omega),HF1.o.drew⟩
theorem Od(m:M)(b p:Nat)(x:D8)(hw:WF m) :
 ((Dy m (b:Nat) (p:Nat) x).1=true/\b<m.nb/\m.bd b=false/\p=m.nx b/\p<m.np/\x.length=64/\m.Da≠0/\(Dy m (b:Nat) (p:Nat) x).2=FA (FD (tick m) b p x) b (p+1)) \/
 ((Dy m (b:Nat) (p:Nat) x).1=false/\((Dy m (b:Nat) (p:Nat) x).2=m\/(Dy m (b:Nat) (p:Nat) x).2=tick m/\m.Da=0\/(b<m.nb/\m.bd b=false/\p=m.nx b/\p<m.np/\x.length=64/\∃c,c<64/\((Dy m (b:Nat) (p:Nat) x).2=FA (FD (tick m) b p (x.take c)) b (p+1)/\(tick m).Da=0\/(Dy m (b:Nat) (p:Nat) x).2=FA (JY (FD (tick m) b p (x.take c)) b true) b (p+1)/\0<=m.fail)))):=by
 unfold Dy;by_cases hm:JA m (b:Nat) (p:Nat) x
 ·rw[AE hm];obtain⟨i,q,e1,e2,hi,hb,hq,hp,hl⟩:=Ql hm;have a3:i=b:=by omega
  have a2:q=p:=by omega
  subst a3 a2;simp only[Bd];have c1:=hw.KM;have c2:=hw.KV;have p1:=hw.I8;have p2:=hw.Io;have a1:m.cut.toNat<64:=by omega
  have a0:m.part.toNat<64:=by omega
  unfold FR;rcases QR m.Da m.fail with hk | hk | hk | hk
  ·rw[AE hk];refine .inl ⟨rfl,hi,hb,hq,hp,hl,?_,rfl⟩;intro h0;unfold Dl at hk;rw[AE h0]at hk;simp at hk
  ·rw[AC (by rw[hk];decide),AE hk];refine .inr ⟨rfl,.inr (.inr ⟨hi,hb,hq,hp,hl,m.part.toNat,a0,.inr ⟨rfl,?_⟩⟩)⟩;unfold Dl at hk
   repeat' split at hk
   all_goals simp at hk
   all_goals omega
  ·rw[AC (by rw[hk];decide),AC (by rw[hk];decide),AE hk];refine .inr ⟨rfl,.inr (.inr ⟨hi,hb,hq,hp,hl,m.cut.toNat,a1,.inl ⟨rfl,?_⟩⟩)⟩;unfold tick;show(Dl m.Da m.fail).2.1=0;unfold Dl at hk ⊢
   repeat' split at hk
   all_goals simp at hk
   rename_i h0 h1;rw[AC h0,AE h1]
  rw[AC (by rw[hk];decide),AC (by rw[hk];decide),AC (by rw[hk];decide)];refine .inr ⟨rfl,.inr (.inl ⟨rfl,?_⟩)⟩;unfold Dl at hk
  repeat' split at hk
  all_goals simp at hk
  all_goals assumption
 rw[AC hm];exact .inr ⟨rfl,.inl rfl⟩
theorem QY(m:M)(b:Nat) :
 ((EJ m (b:Nat)).1=true/\b<m.nb/\m.bd b=false/\m.Da≠0/\(EJ m (b:Nat)).2=FA (Fw (tick m) b m.np) b 0) \/
 ((EJ m (b:Nat)).1=false/\((EJ m (b:Nat)).2=m/\(m.nb<=b\/m.bd b=true)\/(EJ m (b:Nat)).2=tick m/\m.Da=0\/(b<m.nb/\m.bd b=false/\((EJ m (b:Nat)).2=JY (tick m) b true/\0<=m.fail\/(∃k,(EJ m (b:Nat)).2=FA (Fw (tick m) b k) b m.np)/\(tick m).Da=0)))):=by
 unfold EJ;by_cases hm:Fe m (b:Nat)=false
 ·rw[AE hm];obtain⟨i,e1,hi,hb⟩:=Qw hm;have a1:i=b:=by omega
  subst a1;simp only[Bd];unfold Gp;rcases QR m.Da m.fail with hk | hk | hk | hk
  ·rw[AE hk];refine .inl ⟨rfl,hi,hb,?_,rfl⟩;intro h0;unfold Dl at hk;rw[AE h0]at hk;simp at hk
  ·rw[AC (by rw[hk];decide),AE hk];refine .inr ⟨rfl,.inr (.inr ⟨hi,hb,.inl ⟨rfl,?_⟩⟩)⟩;unfold Dl at hk
   repeat' split at hk
   all_goals simp at hk
   all_goals omega
  ·rw[AC (by rw[hk];decide),AC (by rw[hk];decide),AE hk];refine .inr ⟨rfl,.inr (.inr ⟨hi,hb,.inr ⟨⟨_,rfl⟩,?_⟩⟩)⟩;unfold tick;show(Dl m.Da m.fail).2.1=0;unfold Dl at hk ⊢
   repeat' split at hk
   all_goals simp at hk
   rename_i h0 h1;rw[AC h0,AE h1]
  rw[AC (by rw[hk];decide),AC (by rw[hk];decide),AC (by rw[hk];decide)];refine .inr ⟨rfl,.inr (.inl ⟨rfl,?_⟩)⟩;unfold Dl at hk
  repeat' split at hk
  all_goals simp at hk
  all_goals assumption
 rw[AC hm];refine .inr ⟨rfl,.inl ⟨rfl,?_⟩⟩;have a0:Fe m (b:Nat)=true:=by simpa using hm
 unfold Fe hasB at a0;simp at a0;rcases a0 with h | h
 ·exact .inl (by omega)
 exact .inr h
structure Et (m0:M) (K:Nat->Bool) (xs:List D8) (m:M) (S:Nat->Bool) (ps:List (Nat × Nat)) (left:List D8):Prop where
 wf:WF m
 nb:m.nb=m0.nb
 np:m.np=m0.np
 le:ps.length<=xs.length
 part:left=xs.drop ps.length
 J9:∀(k i q:Nat),ps[k]? = some (i,q)->i<m.nb/\q<m.np/\q<m.nx i/\xs[k]? = some (m.pg i q)/\S i=true
 Rz:∀i,S i=true->∃(k q:Nat),ps[k]? = some (i,q)
 nd:ps.Nodup
 Ey:∀(i q:Nat),i<m.nb->q<m.np->(i,q)∈ps\/(∃x,x∈xs/\∃c:Nat,c<64/\m.pg i q=x.take c)\/m.pg i q=[]\/m.pg i q=m0.pg i q
 Jn:∀i,K i=true->m0.nx i<=m.nx i
 kept:∀i q,K i=true->q<m0.nx i->m.pg i q=m0.pg i q
 bad:∀i,m0.bd i=true->m.bd i=true
theorem Et.start{m:M}(h:WF m)(K:Nat->Bool)(xs:List D8):Et m K xs m (λ_=>false) [] xs:=
 ⟨h,rfl,rfl,AU _,by simp,by simp,by simp,by simp,λi q _ _=>.inr (.inr (.inr rfl)),λ_ _=>AB _,λ_ _ _ _=>rfl,λ_ h=>h⟩
theorem Et.x{m0:M}{K:Nat->Bool}{xs:List D8}{m:M}{S:Nat->Bool}{ps:List (Nat × Nat)}{x:D8}{l:List D8}(h:Et m0 K xs m S ps (x :: l)):xs[ps.length]? = some x/\l=xs.drop (ps.length+1)/\x∈xs:=by
 have e:=h.part;have h1:xs[ps.length]? = some x:=by
  have:=AV (λl:List D8=>l[0]?) e
  simpa using this.symm
 refine⟨h1,?_,Ab h1⟩
 have:=AV List.tail e
 simpa using this
theorem Et.new{m0:M}{K:Nat->Bool}{xs:List D8}{m:M}{S:Nat->Bool}{ps:List (Nat × Nat)}{l:List D8}(h:Et m0 K xs m S ps l)(b:Nat):(b,m.nx b)∉ps:=by
 intro hm;obtain⟨k,hk⟩:=List.getElem?_of_mem hm
 have:=(h.J9 k b _ hk).2.2.1
 omega
theorem Et.prog{m0:M}{K:Nat->Bool}{xs:List D8}{m:M}{S:Nat->Bool}{ps:List (Nat × Nat)}{x:D8}{l:List D8}(h:Et m0 K xs m S ps (x :: l))(b p:Nat)(hr:(Dy m (b:Nat) (p:Nat) x).1=true) :
 Et m0 K xs (Dy m (b:Nat) (p:Nat) x).2 (λj=>j==b||S j) (ps++[(b,p)]) l:=by
 have a7:=Mx h.wf (b:Nat) (p:Nat) x;rcases Od m b p x h.wf with⟨_,hb,hbd,hp,hpn,hx,hl,e⟩ | ⟨hf,_⟩
 ·rw[e]at a7 ⊢;obtain⟨a6,a9,af⟩:=h.x;have aa:ps.length<xs.length:=(AP.1 a6).1;have a0:=h.new b;rw[<-hp]at a0;refine⟨a7,h.nb,h.np,by simp;omega,by simp[a9],?_,?_,?_,?_,?_,?_,h.bad⟩
  ·intro k i q hk;rw[List.getElem?_append]at hk
   split at hk
   ·rename_i ae;obtain⟨a1,a2,a3,a4,a5⟩:=h.J9 k i q hk;have a8:¬(i=b/\q=p):=λhe=>a0 (by rw[<-he.1,<-he.2];exact Ab hk)
    refine⟨a1,a2,?_,?_,by simp[a5]⟩
    ·show q<if i=b then p+1 else m.nx i;by_cases e:i=b
     ·subst e;rw[AE rfl];omega
     rw[AC e];exact a3
    show xs[k]? = some (if i=b/\q=p then x else m.pg i q);rw[AC a8];exact a4
   rename_i ag;have ac:k - ps.length=0:=by
    rcases DJ (k - ps.length)with h0 | h0
    ·exact h0
    rw[Aw (by simp;omega)]at hk;cases hk
   rw[ac]at hk;simp at hk;obtain⟨rfl,rfl⟩:=hk;have ad:k=ps.length:=by omega
   refine⟨hb,hpn,?_,?_,by simp⟩
   ·show p<if b=b then p+1 else m.nx b;rw[AE rfl];omega
   show xs[k]? = some (if b=b/\p=p then x else m.pg b p);rw[AE ⟨rfl,rfl⟩,ad];exact a6
  ·intro i hi;simp only[DH,DI]at hi;rcases hi with rfl | hi
   ·exact⟨ps.length,p,by simp⟩
   obtain⟨k,q,hk⟩:=h.Rz i hi;exact⟨k,q,by rw[Ax (AP.1 hk).1];exact hk⟩
  ·rw[CG];refine⟨h.nd,by simp,λa ha c hc => ?_⟩;simp at hc;subst hc;rintro rfl;exact a0 ha
  ·intro i q hi hq;by_cases e:i=b/\q=p
   ·left;rw[e.1,e.2];simp
   have:(FA (FD (tick m) b p x) b (p+1)).pg i q=m.pg i q:=AC e
   rw[this];rcases h.Ey i q hi hq with h1 | h1
   ·exact .inl (List.mem_append_left _ h1)
   exact .inr h1
  ·intro i hi
   have:=h.Jn i hi
   show m0.nx i<=if i=b then p+1 else m.nx i;by_cases e:i=b
   ·subst e;rw[AE rfl];omega
   rw[AC e];exact this
  intro i q hi hq;have h1:=h.Jn i hi;have h2:=h.kept i q hi hq;show(if i=b/\q=p then x else m.pg i q)=_;rw[AC (by rintro⟨rfl,rfl⟩;omega)];exact h2
 rw[hr]at hf;cases hf
theorem Et.Um{m0:M}{K:Nat->Bool}{xs:List D8}{m:M}{S:Nat->Bool}{ps:List (Nat × Nat)}{x:D8}{l:List D8}(h:Et m0 K xs m S ps (x :: l))(b p:Nat)(hr:(Dy m (b:Nat) (p:Nat) x).1=false) :
 Et m0 K xs (Dy m (b:Nat) (p:Nat) x).2 S ps (x :: l):=by
 have a0:=Mx h.wf (b:Nat) (p:Nat) x;obtain⟨aa,a9,a8⟩:=h.x;have key:∀(m':M),WF m'->m'.nb=m.nb->m'.np=m.np->p=m.nx b->(∀i q,m'.pg i q=if i=b/\q=p then(m'.pg b p)else m.pg i q)->(∃c,c<64/\m'.pg b p=x.take c)->(∀i,m'.nx i=if i=b then p+1 else m.nx i)->(∀i,m.bd i=true->m'.bd i=true)->Et m0 K xs m' S ps (x :: l):=by
  intro m' w1 w2 w3 hp w4 w5 w6 w7;have a6:=h.new b;rw[<-hp]at a6;refine⟨w1,w2.trans h.nb,w3.trans h.np,h.le,h.part,?_,h.Rz,h.nd,?_,?_,?_,λi hi=>w7 i (h.bad i hi)⟩
  ·intro k i q hk;obtain⟨a1,a2,a3,a4,a5⟩:=h.J9 k i q hk;have a7:¬(i=b/\q=p):=λhe=>a6 (by rw[<-he.1,<-he.2];exact Ab hk)
   refine⟨by rw[w2];exact a1,by rw[w3];exact a2,?_,by rw[w4,AC a7];exact a4,a5⟩;rw[w6];by_cases e:i=b
   ·subst e;rw[AE rfl];omega
   rw[AC e];exact a3
  ·intro i q hi hq;rw[w2]at hi;rw[w3]at hq;by_cases e:i=b/\q=p
   ·obtain⟨rfl,rfl⟩:=e;obtain⟨c,hc,he⟩:=w5;exact .inr (.inl ⟨x,a8,c,hc,he⟩)
   rw[w4,AC e];exact h.Ey i q hi hq
  ·intro i hi
   have:=h.Jn i hi
   rw[w6];by_cases e:i=b
   ·subst e;rw[AE rfl];omega
   rw[AC e];exact this
  intro i q hi hq;have h1:=h.Jn i hi;have h2:=h.kept i q hi hq;rw[w4,AC (by rintro⟨rfl,rfl⟩;omega)];exact h2
 rcases Od m b p x h.wf with⟨ht,_⟩ | ⟨_,e | ⟨e,_⟩ | ⟨hb,hbd,hp,hpn,hx,c,hc,⟨e,_⟩ | ⟨e,_⟩⟩⟩
 ·rw[hr]at ht;cases ht
 ·rw[e];exact h
 ·rw[e]at a0 ⊢;exact⟨a0,h.nb,h.np,h.le,h.part,h.J9,h.Rz,h.nd,h.Ey,h.Jn,h.kept,h.bad⟩
 ·rw[e]at a0 ⊢;refine key _ a0 rfl rfl hp (λi q => ?_) ⟨c,hc,AE ⟨rfl,rfl⟩⟩ (λi=>rfl) (λi hi=>hi);show(if i=b/\q=p then x.take c else m.pg i q)=if i=b/\q=p then(if b=b/\p=p then x.take c else m.pg b p)else m.pg i q;rw[AE (⟨rfl,rfl⟩:b=b/\p=p)]
 rw[e]at a0 ⊢;refine key _ a0 rfl rfl hp (λi q => ?_) ⟨c,hc,AE ⟨rfl,rfl⟩⟩ (λi=>rfl) (λi hi => ?_)
 ·show(if i=b/\q=p then x.take c else m.pg i q)=if i=b/\q=p then(if b=b/\p=p then x.take c else m.pg b p)else m.pg i q;rw[AE (⟨rfl,rfl⟩:b=b/\p=p)]
 show(if i=b then true else m.bd i)=true;by_cases e:i=b
 ·rw[AE e]
 rw[AC e];exact hi
theorem Et.era{m0:M}{K:Nat->Bool}{xs:List D8}{m:M}{S:Nat->Bool}{ps:List (Nat × Nat)}{l:List D8}(h:Et m0 K xs m S ps l)(b:Nat)(hK:K b=false)(hS:S b=false\/m.bd b=true) :
 Et m0 K xs (EJ m (b:Nat)).2 S ps l:=by
 have a0:=R8 h.wf (b:Nat);have key:∀(m':M),WF m'->m'.nb=m.nb->m'.np=m.np->S b=false->(∀i q,m'.pg i q=m.pg i q\/(i=b/\m'.pg i q=[]))->(∀i,i≠b->m'.nx i=m.nx i)->(∀i,m.bd i=true->m'.bd i=true)->Et m0 K xs m' S ps l:=by
  intro m' w1 w2 w3 hs w4 w6 w7;have a7:∀{k i q:Nat},ps[k]? = some (i,q)->i≠b:=λ{k i q} hk he=>by
   have:=(h.J9 k i q hk).2.2.2.2
   rw[he,hs]at this;cases this
  have I0:∀{i:Nat},K i=true->i≠b:=λ{i} hk he=>by rw[he,hK]at hk;cases hk
  have a8:∀{i q:Nat},i≠b->m'.pg i q=m.pg i q:=λ{i q} hi=>by
   rcases w4 i q with e | e
   ·exact e
   exact absurd e.1 hi
  refine⟨w1,w2.trans h.nb,w3.trans h.np,h.le,h.part,?_,h.Rz,h.nd,?_,?_,?_,λi hi=>w7 i (h.bad i hi)⟩
  ·intro k i q hk;obtain⟨a1,a2,a3,a4,a5⟩:=h.J9 k i q hk;refine⟨by rw[w2];exact a1,by rw[w3];exact a2,by rw[w6 i (a7 hk)];exact a3,by rw[a8 (a7 hk)];exact a4,a5⟩
  ·intro i q hi hq;rw[w2]at hi;rw[w3]at hq;rcases w4 i q with e | e
   ·rw[e];exact h.Ey i q hi hq
   exact .inr (.inr (.inl e.2))
  ·intro i hi;rw[w6 i (I0 hi)];exact h.Jn i hi
  intro i q hi hq;rw[a8 (I0 hi)];exact h.kept i q hi hq
 have a6:m.bd b=false->S b=false:=λhb=>hS.resolve_right (by rw[hb];decide)
 rcases QY m b with⟨_,hb,hbd,_,e⟩ | ⟨_,⟨e,_⟩ | ⟨e,_⟩ | ⟨hb,hbd,⟨e,_⟩ | ⟨⟨k,e⟩,_⟩⟩⟩
 ·rw[e]at a0 ⊢;refine key _ a0 rfl rfl (a6 hbd) (λi q => ?_) (λi hi=>AC hi) (λi hi=>hi);show(if i=b/\q<m.np then[]else m.pg i q)=m.pg i q\/(i=b/\(if i=b/\q<m.np then[]else m.pg i q)=[]);by_cases e:i=b/\q<m.np
  ·rw[AE e];exact .inr ⟨e.1,rfl⟩
  rw[AC e];exact .inl rfl
 ·rw[e];exact h
 ·rw[e]at a0 ⊢;exact⟨a0,h.nb,h.np,h.le,h.part,h.J9,h.Rz,h.nd,h.Ey,h.Jn,h.kept,h.bad⟩
 ·rw[e]at a0 ⊢;refine key _ a0 rfl rfl (a6 hbd) (λi q=>.inl rfl) (λi hi=>rfl) (λi hi => ?_);show(if i=b then true else m.bd i)=true;by_cases e:i=b
  ·rw[AE e]
  rw[AC e];exact hi
 rw[e]at a0 ⊢;refine key _ a0 rfl rfl (a6 hbd) (λi q => ?_) (λi hi=>AC hi) (λi hi=>hi);show(if i=b/\q<k then[]else m.pg i q)=m.pg i q\/(i=b/\(if i=b/\q<k then[]else m.pg i q)=[]);by_cases e:i=b/\q<k
 ·rw[AE e];exact .inr ⟨e.1,rfl⟩
 rw[AC e];exact .inl rfl
variable {m m0:M} {K:Nat->Bool} {xs:List D8} {ps:List (Nat × Nat)} {b v:Nat}
structure LS where
 left:List D8
 m:M
 Q:Nat->Bool
 b:Nat
 p:Nat
 S:Nat->Bool
def LS.prog(s:LS):LS:=
 ⟨(Df s.b s.left s.m s.p s.S).1,(Df s.b s.left s.m s.p s.S).2.1,s.Q,s.b,(Df s.b s.left s.m s.p s.S).2.2.1,(Df s.b s.left s.m s.p s.S).2.2.2⟩
def LS.IM(K:Nat->Bool)(s:LS):LS:=⟨s.left,(Di s.m K s.Q s.b).2.1,(Di s.m K s.Q s.b).2.2.1,(s.b+1)%s.m.nb,(Di s.m K s.Q s.b).2.2.2,s.S⟩
def EF(K:Nat->Bool)(s:LS):LS:=if(Di s.m K s.Q s.b).1 then(s.IM K).prog else s.IM K
def EV(K:Nat->Bool):Nat->LS->LS
 | 0,s=>s
 | k+1,s=>if s.left=[]\/s.m.Da=0 then s else EV K k (EF K s)
def FW(s:LS):LS:=if s.left.length+s.p<=s.m.np then s.prog else s
def E7(K:Nat->Bool)(s:LS):LS:=EV K s.m.nb (FW s)
theorem Sq(K:Nat->Bool){s:LS}(h:s.left=[]\/s.m.Da=0):∀k,EV K k s=s
 | 0=>rfl
 | k+1=>by rw[EV,AE h]
theorem MW(b:Nat):∀(l:List D8) (m:M) (p:Nat) (S:Nat->Bool),(Df b l m p S).2.1.nb=m.nb/\(Df b l m p S).2.1.np=m.np/\(Df b l m p S).1.length<=l.length/\(p<=m.np->(Df b l m p S).2.2.1<=m.np)
 | [],m,p,S=>⟨rfl,rfl,AB _,λh=>h⟩
 | x :: xs,m,p,S=>by
   rw[Df]
   split
   ·rename_i hp
    split
    ·obtain⟨h1,h2,h3,h4⟩:=MW b xs (Dy m (b:Nat) (p:Nat) x).2 (p+1) (λj=>j==b||S j);rw[V9]at h1;rw[S8]at h2 h4;exact⟨h1,h2,by simp;omega,λ_=>h4 (by omega)⟩
    exact⟨V9 _ _ _ _,S8 _ _ _ _,AB _,λ_=>AB _⟩
   exact⟨rfl,rfl,AB _,λh=>h⟩
theorem Mq(b:Nat):∀(l:List D8) (m:M) (p:Nat) (S:Nat->Bool),WF m->WF (Df b l m p S).2.1
 | [],m,p,S,h=>h
 | x :: xs,m,p,S,h=>by
   rw[Df]
   split
   ·split
    ·exact Mq b xs _ _ _ (Mx h _ _ _)
    exact Mx h _ _ _
   exact h
theorem OW(m:M)(K Q:Nat->Bool)(b:Nat):(Di m K Q b).2.1.nb=m.nb/\(Di m K Q b).2.1.np=m.np/\(Di m K Q b).2.2.2<=m.np:=by
 unfold Di
 repeat' split
 all_goals simp[UC,Wd]
theorem Nq(h:WF m)(K Q:Nat->Bool)(b:Nat):WF (Di m K Q b).2.1:=by
 unfold Di
 repeat' split
 all_goals first | exact h | exact R8 h _
theorem Et.Df{m0:M}{K:Nat->Bool}{xs:List D8}(b:Nat):∀(l:List D8) (m:M) (p:Nat) (S:Nat->Bool) (ps:List (Nat × Nat)),Et m0 K xs m S ps l ->
 ∃ps',Et m0 K xs (Df b l m p S).2.1 (Df b l m p S).2.2.2 ps' (Df b l m p S).1/\(∀i,(Df b l m p S).2.2.2 i=true->i=b\/S i=true)
 | [],m,p,S,ps,h=>⟨ps,h,λi hi=>.inr hi⟩
 | x :: xs',m,p,S,ps,h=>by
   rw[S1.Df]
   split
   ·split
    ·rename_i hr;obtain⟨ps',h1,h2⟩:=Et.Df b xs' _ (p+1) _ _ (h.prog b p hr);refine⟨ps',h1,λi hi => ?_⟩;rcases h2 i hi with e | e
     ·exact .inl e
     simp only[DH,DI]at e;exact e
    rename_i hr;exact⟨ps,h.Um b p (by simpa using hr),λi hi=>.inr hi⟩
   exact⟨ps,h,λi hi=>.inr hi⟩
structure JD (m0:M) (K:Nat->Bool) (xs:List D8) (b0 v:Nat) (s:LS) (ps:List (Nat × Nat)):Prop where
 lay:Et m0 K xs s.m s.S ps s.left
 b:s.b=(b0+v)%m0.nb
 seen:∀i,s.S i=true->(∃u,1<=u/\u<=v/\i=(b0+u)%m0.nb)\/(i=b0/\(s.left=[]\/s.m.Da=0\/s.m.bd b0=true))
 p:s.p<=m0.np
theorem qV{S:Nat->Bool}{l:List D8}(h:Et m0 K xs m S ps l)(Q:Nat->Bool)(b:Nat)(hS:S ((b+1)%m.nb)=false\/m.bd ((b+1)%m.nb)=true) :
 Et m0 K xs (Di m K Q b).2.1 S ps l:=by
 unfold Di
 split
 ·exact h
 rename_i hK
 split
 ·exact h
 split
 ·exact h.era _ (by simpa using hK) hS
 exact h.era _ (by simpa using hK) hS
theorem gP(i:Nat)(h:m.bd i=true):(EJ m (b:Nat)).2.bd i=true:=by
 rcases QY m b with⟨_,_,_,_,e⟩ | ⟨_,⟨e,_⟩ | ⟨e,_⟩ | ⟨_,_,⟨e,_⟩ | ⟨⟨k,e⟩,_⟩⟩⟩
 all_goals rw[e]
 ·exact h
 ·exact h
 ·exact h
 ·show(if i=b then true else m.bd i)=true;by_cases e:i=b
  ·rw[AE e]
  rw[AC e];exact h
 exact h
theorem Qf(K Q:Nat->Bool)(b i:Nat)(h:m.bd i=true):(Di m K Q b).2.1.bd i=true:=by
 unfold Di
 repeat' split
 all_goals first | exact h | exact gP i h
theorem TQ(hw:WF m){p:Nat}{x:D8}(i:Nat)(h:m.bd i=true):(Dy m (b:Nat) (p:Nat) x).2.bd i=true:=by
 rcases Od m b p x hw with⟨_,_,_,_,_,_,_,e⟩ | ⟨_,e | ⟨e,_⟩ | ⟨_,_,_,_,_,c,_,⟨e,_⟩ | ⟨e,_⟩⟩⟩
 all_goals rw[e]
 ·exact h
 ·exact h
 ·exact h
 ·exact h
 show(if i=b then true else m.bd i)=true;by_cases e:i=b
 ·rw[AE e]
 rw[AC e];exact h
theorem Ow(b i:Nat):∀(l:List D8) (m:M) (p:Nat) (S:Nat->Bool),WF m->m.bd i=true->(Df b l m p S).2.1.bd i=true
 | [],m,p,S,_,h=>h
 | x :: xs,m,p,S,hw,h=>by
   rw[Df]
   split
   ·split
    ·exact Ow b i xs _ _ _ (Mx hw _ _ _) (TQ hw i h)
    exact TQ hw i h
   exact h
theorem qi{a u n:Nat}(h1:1<=u)(h2:u<=v)(h3:v+1<=n):(a+v+1)%n≠(a+u)%n:=by
 intro e;have h:=Nat.sub_mod_eq_zero_of_mod_eq e;rw[show a+v+1 - (a+u)=v+1 - u by omega,Bi (by omega)]at h;omega
theorem JD.round{b0:Nat}{s:LS}(h:JD m0 K xs b0 v s ps)(hb0:b0<m0.nb)(hv:v<m0.nb)(hl:s.left≠[])(hd:s.m.Da≠0):∃ps',JD m0 K xs b0 (v+1) (EF K s) ps':=by
 have a6:=h.lay.nb;have a5:(s.b+1)%s.m.nb=(b0+(v+1))%m0.nb:=by
  rw[a6,h.b,Nat.add_mod,Nat.mod_mod,<-Nat.add_mod,Cx]
 have a4:s.S ((s.b+1)%s.m.nb)=false\/s.m.bd ((s.b+1)%s.m.nb)=true:=by
  cases hs:s.S ((s.b+1)%s.m.nb)with
  | false=>exact .inl rfl
  | true =>
    rcases h.seen _ hs with⟨u,h1,h2,h3⟩ | ⟨h1,h2⟩
    ·rw[a5]at h3;exact absurd h3 (by rw[<-Cx];exact qi h1 h2 (by omega))
    right
    rw[h1];rcases h2 with h2 | h2 | h2
    ·exact absurd h2 hl
    ·exact absurd h2 hd
    exact h2
 have a0:=qV h.lay s.Q s.b a4;obtain⟨k1,k2,k3⟩:=OW s.m K s.Q s.b;unfold EF
 split
 ·obtain⟨ps',h1,h2⟩:=Et.Df ((s.b+1)%s.m.nb) s.left (Di s.m K s.Q s.b).2.1 (Di s.m K s.Q s.b).2.2.2 s.S ps a0;obtain⟨_,q2,_,q4⟩:=MW ((s.b+1)%s.m.nb) s.left (Di s.m K s.Q s.b).2.1 (Di s.m K s.Q s.b).2.2.2 s.S;refine⟨ps',h1,a5,λi hi => ?_,?_⟩
  ·rcases h2 i hi with e | e
   ·exact .inl ⟨v+1,by omega,AB _,e.trans a5⟩
   rcases h.seen i e with⟨u,a1,a2,a3⟩ | ⟨a1,a2⟩
   ·exact .inl ⟨u,a1,by omega,a3⟩
   refine .inr ⟨a1,.inr (.inr ?_)⟩
   have:s.m.bd b0=true:=by
    rcases a2 with a2 | a2 | a2
    ·exact absurd a2 hl
    ·exact absurd a2 hd
    exact a2
   exact Ow _ _ _ _ _ _ a0.wf (Qf K s.Q s.b b0 this)
  show(S1.Df _ _ _ _ _).2.2.1<=m0.np
  have:=q4 (by rw[k2];exact k3)
  rw[k2,h.lay.np]at this;exact this
 refine⟨ps,a0,a5,λi hi => ?_,?_⟩
 ·rcases h.seen i hi with⟨u,a1,a2,a3⟩ | ⟨a1,a2⟩
  ·exact .inl ⟨u,a1,by omega,a3⟩
  refine .inr ⟨a1,.inr (.inr ?_)⟩
  have:s.m.bd b0=true:=by
   rcases a2 with a2 | a2 | a2
   ·exact absurd a2 hl
   ·exact absurd a2 hd
   exact a2
  exact Qf K s.Q s.b b0 this
 show(Di s.m K s.Q s.b).2.2.2<=m0.np;rw[<-h.lay.np];exact k3
theorem JD.rounds{m0:M}{K:Nat->Bool}{xs:List D8}{b0:Nat}(hb0:b0<m0.nb):∀(k v:Nat) (s:LS) (ps:List (Nat × Nat)),JD m0 K xs b0 v s ps->v+k<=m0.nb->∃v' ps',v'<=m0.nb/\JD m0 K xs b0 v' (EV K k s) ps'
 | 0,v,s,ps,h,hv=>⟨v,ps,by omega,h⟩
 | k+1,v,s,ps,h,hv=>by
   rw[EV]
   split
   ·exact⟨v,ps,by omega,h⟩
   rename_i hc;obtain⟨ps',h'⟩:=h.round hb0 (by omega) (λe=>hc (.inl e)) (λe=>hc (.inr e));exact JD.rounds hb0 k (v+1) _ _ h' (by omega)
end Go.Proofs.YtodmdkhdbfbfgaaGreatDoor.S1
