/- Lemmas. -/
import Derived.Test.YtodmdkhdbfbfgaaGreatDoorM28
set_option linter.unusedVariables false
set_option linter.unusedSimpArgs false
set_option maxRecDepth 100000
set_option maxHeartbeats 8000000
open Go.Proofs.Tryz
namespace Go.Proofs.YtodmdkhdbfbfgaaGreatDoor
namespace S1
open Go.RowKit Pk
structure PI (d:D8) (mp:D8->Option Nat) (bf:Nat->Int) (a:Nat):Prop where
 lt:∀s v,mp s=some v->v<a/\v+3<=d.length/\Dq d v=s
 ch:∀v,v<a->v+3<=d.length->bf v = -1\/∃u:Nat,bf v=(u:Int)/\u<v/\Dq d u=Dq d v
 all:∀v,v<a->v+3<=d.length->∃u,mp (Dq d v)=some u
theorem rp(d:D8)(u a j:Nat)(h:Dq d u=Dq d a)(hj:j<3)(hu:u+3<=d.length)(ha:a+3<=d.length):d.getD (u+j) 0=d.getD (a+j) 0:=by
 have h1:=AV (λl=>l.getD j 0) h;unfold Dq at h1;simp only[AI,Ak hj,C7]at h1;simpa[AI]using h1
theorem Uz(d:D8)(a:Nat):(Dq d a).length<=3:=by unfold Dq;rw[Ae];omega
structure Good (d:D8) (a len bk:Nat):Prop where
 lo:3<=len
 hi:len<=34
 b1:1<=bk
 b2:bk<=a
 fit:a+len<=d.length
 same:∀j,j<len->d.getD (a+j) 0=d.getD (a+j - bk) 0
theorem pw(w:D7)(B pb mb bb m a:Nat)(d:D8)(mp:D8->Option Nat)(bf:Nat->Int)(hd:d.length<=4000)(ha:a<=d.length)(h3:d.length<a+3)(h:PM w B pb mb bb d m mp bf) :
 Calls prog 277 #[.pointer (some ⟨pb,0,none⟩),.int .i64 a] w λe w'=>e=.returned (.tuple #[.int .i64 0,.int .i64 0])/\w'=w:=by
 have a0:=Jy (ZF w pb a d _ _ hd (by omega) h3 h.st);clear h;go_enter func277,ntmps277
 go_wp2_with (go_at_call 307;refine a0.o.mono ?_;rintro e w' ⟨rfl,rfl⟩);go_ret2
 exact⟨rfl,rfl⟩
def Qq(d:D8)(a:Nat)(mp:D8->Option Nat)(w:D7)(e:Ending)(w':D7):Prop:=
 ∃len bk q:Nat,e=.returned (.tuple #[.int .i64 len,.int .i64 bk])/\w'=w.drewN q/\((len=0/\bk=0)\/Good d a len bk)/\(∀v,mp (Dq d a)=some v->(∀j,a+j<d.length->d.getD (v+j) 0=d.getD (a+j) 0)->min 34 (d.length - a)<=len)
theorem sk(w:D7)(B pb mb bb m a:Nat)(d:D8)(mp:D8->Option Nat)(bf:Nat->Int)(hd:d.length<=4000)(h3:a+3<=d.length)(h:PM w B pb mb bb d m mp bf)(hpi:PI d mp bf a) :
 Calls prog 277 #[.pointer (some ⟨pb,0,none⟩),.int .i64 a] w λe w'=>Qq d a mp w e w':=by
 have ao:=Jy (X6 w pb a d _ _ hd h3 h.st);have aa:=Jy (Zm w B pb mb bb m d (Dq d a) mp bf (by have:=Uz d a;omega) h);have aF:Hid (∀f q,f<a->Calls prog 309 #[.pointer (some ⟨pb,0,none⟩),.int .i64 (f:Nat),.int .i64 a] (w.drewN q) _):=λf q hf=>jY (w.drewN q) pb a f d _ _ hd hf (by omega) h.st
 have x2:∀q,(w.drewN q).cell? ⟨pb,2,none⟩=some (.slice (some ⟨bb,0,none⟩) d.length d.length):=λq=>by
  show w.cell? _=_;rw[AG w pb 2 _ 337 (0,0) h.st];rfl
 have aJ:=Jy h.bo;have av:=Jy hpi;have aA:max (0:Int) ((a:Int) - 4096)=0:=by omega
 clear h hpi;obtain⟨tp,a5⟩:∃tp:Int,tp=NQ (mp (Dq d a)):=⟨_,rfl⟩;rw[<-a5]at aa;have ah:Hid (tp = -1\/∃u:Nat,tp=(u:Int)/\u<a/\Dq d u=Dq d a):=by
  cases hm:mp (Dq d a)with
  | none=>rw[hm]at a5;exact .inl a5
  | some v=>rw[hm]at a5;have:=av.o.lt _ _ hm;exact .inr ⟨v,a5,this.1,this.2.2⟩
 have Hv:Hid (∀v,mp (Dq d a)=some v->tp=(v:Int)):=λv hm=>by rw[hm]at a5;exact a5
 clear a5;go_enter func277,ntmps277
 go_wp2_with (first | (go_at_call 307;refine Jj ao.o ?_) | (go_at_call 308;refine Jj aa.o ?_))
 go_loopw [8,4,5] (λf l b wr=>∃fr:Int,∃len bk q:Nat,f=.int .i64 fr/\l=.int .i64 len/\b=.int .i64 bk/\wr=w.drewN q/\len<=34 /\ -1<=fr/\fr<=4000/\Hid (fr = -1\/∃u:Nat,fr=(u:Int)/\u<a/\Dq d u=Dq d a)/\Hid ((len=0/\bk=0)\/Good d a len bk)/\Hid ((fr=tp/\len=0)\/(∀v,mp (Dq d a)=some v->(∀j,a+j<d.length->d.getD (v+j) 0=d.getD (a+j) 0)->min 34 (d.length - a)<=len))) (λf _ _ _=>(intOf f+1).toNat)
 case atStart=>exact⟨tp,0,0,0,rfl,rfl,rfl,rfl,by omega,by rcases ah.o with h | ⟨u,h,_⟩<;>omega,by rcases ah.o with h | ⟨u,h,h2,_⟩<;>omega,ah,.inl ⟨rfl,rfl⟩,.inl ⟨rfl,rfl⟩⟩
 case round =>
  clear ao aa;obtain⟨fr,len,bk,q,rfl,rfl,rfl,rfl,aH,az,aB,aw,ac,a9⟩:=hrel;by_cases ag:fr = -1
  ·subst ag;have af:Hid (∀v,mp (Dq d a)=some v->(∀j,a+j<d.length->d.getD (v+j) 0=d.getD (a+j) 0)->min 34 (d.length - a)<=len):=λv hv a0=>by
    rcases a9.o with⟨h1,h2⟩ | h1
    ·have:=Hv.o v hv;omega
    exact h1 v hv a0
   go_wp2;go_ret2
   exact⟨len,bk,q,rfl,rfl,ac.o,af.o⟩
  obtain⟨u,hu,ar,au⟩:∃u:Nat,fr=(u:Int)/\u<a/\Dq d u=Dq d a:=by
   rcases aw.o with h | h
   ·exact absurd h ag
   exact h
  have a2:Hid (((u:Int)=tp/\len=0)\/(∀v,mp (Dq d a)=some v->(∀j,a+j<d.length->d.getD (v+j) 0=d.getD (a+j) 0)->min 34 (d.length - a)<=len)):=by
   rw[<-hu];exact a9
  subst hu;have ax:=Jy au;have ae:=av.o.ch u ar (by omega);have y2:=x2 q;have ay:u<d.length:=by omega
  clear a9 aw au az aB ag;go_wp2_with fail;refine(aF.o u q ar).mono ?_;rintro e w2 ⟨k,q2,rfl,rfl,an,aC,a6,a3⟩;have aD:3<=k:=by
   by_cases e0:3<=k
   ·exact e0
   exfalso
   rcases a3 with h | h | h
   ·omega
   ·omega
   exact h (rp d u a k ax.o (by omega) (by omega) h3)
  have a8:Hid (Good d a k (a - u)):=⟨aD,an,by omega,by omega,aC,λj hj=>by
   rw[show a+j - (a - u)=u+j by omega];exact(a6 j hj).symm⟩
  have a4:Hid (∀v,mp (Dq d a)=some v->(u:Int)=tp->(∀j,a+j<d.length->d.getD (v+j) 0=d.getD (a+j) 0)->min 34 (d.length - a)<=k):=λv hv a5 a0=>by
   have:=Hv.o v hv
   have aG:v=u:=by omega
   subst aG;rcases a3 with h | h | h
   ·omega
   ·omega
   by_cases e:a+k<d.length
   ·exact absurd (a0 k e) h
   omega
  have aE:(a:Int) - (u:Int)=((a - u:Nat):Int):=by omega
  have z0:∀q',(w.drewN q').cell? ⟨bb,u,none⟩=some (.int .i64 (bf u)):=λq'=>aJ.o.cell (i:=u) ay
  have aK:=x2 (q+q2);have aM:=z0 (q+q2);have a7:Hid (bf u = -1\/∃u2:Nat,bf u=(u2:Int)/\u2<a/\Dq d u2=Dq d a):=by
   rcases ae with h | ⟨u2,h1,h2,h4⟩
   ·exact .inl h
   exact .inr ⟨u2,h1,by omega,h4.trans ax.o⟩
  have aN:-1<=bf u/\bf u<u:=by rcases ae with h | ⟨u2,h1,h2,_⟩<;>omega
  have aI:(u:Int)<(d.length:Int):=by omega
  rw[DN]
  generalize bf u=fn at *
  clear a6 a3 ae z0 x2 y2;by_cases aL:len<k
  ·have am:decide ((len:Int)<(k:Int))=true:=by simp;omega
   have a1:Hid (∀v,mp (Dq d a)=some v->(∀j,a+j<d.length->d.getD (v+j) 0=d.getD (a+j) 0)->min 34 (d.length - a)<=k):=λv hv a0=>by
    rcases a2.o with⟨h1,h2⟩ | h1
    ·exact a4.o v hv h1 a0
    have:=h1 v hv a0;omega
   clear a2 a4 ac;by_cases ad:k=34
   ·subst ad;go_wp2;go_ret2
    exact⟨34,a - u,q+q2,rfl,rfl,.inr a8.o,a1.o⟩
   have ai:((k:Int)==34)=false:=by simp;omega
   go_wp2;go_roundw
   case rel=>exact⟨fn,k,a - u,q+q2,rfl,rfl,rfl,by first | rfl | trivial,by omega,by omega,by omega,a7,.inr a8.o,.inr a1.o⟩
   case measure=>simp[intOf];omega
  have am:decide ((len:Int)<(k:Int))=false:=by simp;omega
  have a1:Hid (∀v,mp (Dq d a)=some v->(∀j,a+j<d.length->d.getD (v+j) 0=d.getD (a+j) 0)->min 34 (d.length - a)<=len):=λv hv a0=>by
   rcases a2.o with⟨h1,h2⟩ | h1
   ·omega
   exact h1 v hv a0
  clear a2 a4;by_cases ad:len=34
  ·subst ad;go_wp2;go_ret2
   exact⟨34,bk,q+q2,rfl,rfl,ac.o,a1.o⟩
  have ai:((len:Int)==34)=false:=by simp;omega
  go_wp2;go_roundw
  case rel=>exact⟨fn,len,bk,q+q2,rfl,rfl,rfl,by first | rfl | trivial,by omega,by omega,by omega,a7,ac,.inr a1.o⟩
  case measure=>simp[intOf];omega
variable {w:D7} {B pb mb bb m a:Nat} {d:D8} {mp:D8->Option Nat} {bf:Nat->Int}
structure QD (B:Nat) (w w':D7):Prop where
 Gr:Below B w w'
 steps:Dm 282 w w'
theorem QD.refl(B:Nat)(w:D7):QD B w w:=⟨AM _ _,Dm.refl _ _⟩
theorem wf_i64(a:Nat)(h:a<=4000):(Lit.int .i64 a).wf=true:=by
 have h1:IntKind.i64.min = -9223372036854775808:=by decide
 have h2:IntKind.i64.max=9223372036854775807:=by decide
 simp only[Lit.wf,h1,h2,Af,BJ];omega
theorem PM.drewN(h:PM w B pb mb bb d m mp bf)(q:Nat):PM (w.drewN q) B pb mb bb d m mp bf:=⟨h.hp,h.hm,h.hb,h.st,h.mo,h.bo⟩
theorem PM.drew(h:PM w B pb mb bb d m mp bf):PM w.drew B pb mb bb d m mp bf:=⟨h.hp,h.hm,h.hb,h.st,h.mo,h.bo⟩
theorem PM.apart(h:PM w B pb mb bb d m mp bf):pb≠bb/\mb≠bb/\pb≠mb:=by
 obtain⟨c,a0,_⟩:=h.bo;obtain⟨D,⟨es,ck,a1,_⟩,_⟩:=h.mo;have a2:=h.st;refine⟨?_,?_,?_⟩
 ·intro e;subst e;rw[a2]at a0;simp at a0
 ·intro e;subst e;rw[a1]at a0;simp at a0
 intro e;subst e;rw[a2]at a1;simp at a1
theorem PM.before(h:PM w B pb mb bb d m mp bf)(a:Nat)(x:Int):PM (w.setCell ⟨bb,a,none⟩ (.int .i64 x)) B pb mb bb d m mp (λj=>if j=a then x else bf j):=by
 obtain⟨h1,h2,h3⟩:=h.apart;obtain⟨D,hD,hM⟩:=h.mo;refine⟨h.hp,h.hm,h.hb,(AH w ⟨bb,a,none⟩ _ pb h1).trans h.st,⟨D,hD.setCell h2 _,hM⟩,?_⟩;refine(h.bo.set a (.int .i64 x)).congr λj _ => ?_
 split<;>rfl
theorem PM.kept{w':D7}(h:PM w B pb mb bb d m mp bf){row:Option Nat}(hg:w.grownBy w' row)(h1:row≠some pb)(h2:row≠some mb)(h3:row≠some bb):PM w' B pb mb bb d m mp bf:=by
 obtain⟨D,hD,hM⟩:=h.mo;exact⟨h.hp,h.hm,h.hb,(hg.block pb (lt_of_heap h.st) (λe=>h1 e.symm)).trans h.st,⟨D,hD.kept hg (λe=>h2 e.symm),hM⟩,h.bo.of_block (hg.block bb h.bo.lt (λe=>h3 e.symm))⟩
theorem mj(w:D7)(B pb mb bb m a:Nat)(d:D8)(mp:D8->Option Nat)(bf:Nat->Int)(hd:d.length<=4000)(ha:a<=d.length)(h3:d.length<a+3)(h:PM w B pb mb bb d m mp bf) :
 Calls prog 278 #[.pointer (some ⟨pb,0,none⟩),.int .i64 a] w λe w'=>e=.returned (.tuple #[])/\w'=w:=by
 have a0:=Jy (ZF w pb a d _ _ hd (by omega) h3 h.st);clear h;go_enter func278,ntmps278
 go_wp2_with (go_at_call 307;refine a0.o.mono ?_;rintro e w' ⟨rfl,rfl⟩)
 ((try simp only[Exit.inBlock,Exit.then]);refine Au (CJ rfl _ _ _) rfl ?_)
 exact⟨rfl,rfl⟩
theorem mC(w:D7)(B pb mb bb m a:Nat)(d:D8)(mp:D8->Option Nat)(bf:Nat->Int)(hd:d.length<=4000)(h3:a+3<=d.length)(hm:m<=1000000)(h:PM w B pb mb bb d m mp bf) :
 Calls prog 278 #[.pointer (some ⟨pb,0,none⟩),.int .i64 a] w λe w'=>e=.returned (.tuple #[])/\PM w' B pb mb bb d (m+1) (λs=>if s=Dq d a then some a else mp s) (λj=>if j=a then NQ (mp (Dq d a))else bf j)/\QD B w w':=by
 have ac:=Jy (X6 w pb a d _ _ hd h3 h.st);have a3:Hid (∀V,PM V B pb mb bb d m mp bf->Calls prog 308 #[.pointer (some ⟨pb,0,none⟩),.string (D9 (Dq d a))] V _):=λV hV=>Zm V B pb mb bb m d (Dq d a) mp bf (by have:=Uz d a;omega) hV
 have x1:w.cell? ⟨pb,1,none⟩=some (.map (some mb)):=by rw[AG w pb 1 _ 337 (0,0) h.st];rfl
 have x2:w.cell? ⟨pb,2,none⟩=some (.slice (some ⟨bb,0,none⟩) d.length d.length):=by rw[AG w pb 2 _ 337 (0,0) h.st];rfl
 have y0:=h.bo.cell (i:=a) (by omega);have yf:=h.bo.frozen a;have an:a<d.length:=by omega
 have a5:=Jy h;clear h;obtain⟨tv,af⟩:=Jq (NQ (mp (Dq d a)));simp only[<-af]at a3 ⊢;clear af;go_enter func278,ntmps278
 go_wp2_with (go_at_call 307;refine Jj ac.o ?_);go_region_with (go_at_call 308;refine(a3.o _ a5.o.drew).mono ?_;rintro e w' ⟨rfl,hw⟩;have a9:=hw.symm;subst a9)
 rotate_left
 rotate_left
 all_goals
  have a2:=(a5.o.before a tv).drew;have ae:=a2.apart;have a7:QD B w (w.setCell ⟨bb,a,none⟩ (.int .i64 tv)).drew:=by
   obtain⟨c,ah,_⟩:=a5.o.bo;exact⟨((AM B w).setCell (p:=⟨bb,a,none⟩) a5.o.hb _).drew,((Dm.refl 282 w).set ah (by decide)).drew⟩
  clear x1 x2 y0 yf ac a3 a5
  generalize (w.setCell ⟨bb,a,none⟩ (.int .i64 tv)).drew=W at *
  have x1:W.cell? ⟨pb,1,none⟩=some (.map (some mb)):=by rw[AG W pb 1 _ 337 (0,0) a2.st];rfl
  obtain⟨D,hD,ad⟩:=a2.mo;have ai:=Uz d a;have aa:keyOf prog 9 (.string (D9 (Dq d a)))=some (.string (Dq d a)):=WideMaps.keyOf_string_mk underlying9 (by rw[Dd];unfold maxLen;omega);have a8:plainElem (H:=Unit) prog 3 (.int .i64 a)=some (.lit (.int .i64 a),[]):=plainElem_int underlying3 (wf_i64 a (by omega));have a0:=Jy a2;have a6:=Jy a7;have ag:=Jy ae;have am:=Jy (ad.put (Dq d a) a);clear a2 a7 ad ae
  generalize D9 (Dq d a)=tk at *
  go_wp2_with (at_mapUpdate;refine wpList_mapUpdate_own _ rfl _ _ _ 335 rfl 9 3 MH underlying335 (plainElem prog 3) mb m D rfl hD (by unfold maxLen;omega) _ _ (.string (Dq d a)) rfl rfl aa (.lit (.int .i64 a)) [] a8 ?_;intro w2 a4 a1);go_end0
  refine⟨rfl,⟨a0.o.hp,a0.o.hm,a0.o.hb,(a1.block pb (lt_of_heap a0.o.st) (by simp;exact ag.o.2.2)).trans a0.o.st,⟨_,a4,am.o⟩,a0.o.bo.of_block (a1.block bb a0.o.bo.lt (by simp;exact λe=>ag.o.2.1 e.symm))⟩,?_⟩
 rotate_left
 rotate_left
 all_goals
  refine⟨a6.o.Gr.trans ((AM B W).grown a1 ?_ (λk hk=>by simp at hk;subst hk;exact a0.o.hm)),a6.o.steps.trans λk x f e=>a1.block k (lt_of_heap e) ?_⟩
  ·exact AF a0.o.hp (CN (lt_of_heap a0.o.st))
  intro hk;simp at hk;subst hk;obtain⟨D2,⟨es,ck,aj,_⟩,_⟩:=a0.o.mo;rw[aj]at e;simp at e
theorem PI.add(h:PI d mp bf a)(h3:a+3<=d.length):PI d (λs=>if s=Dq d a then some a else mp s) (λj=>if j=a then NQ (mp (Dq d a))else bf j) (a+1):=by
 refine⟨λs v hv => ?_,λv h1 h2 => ?_,λv h1 h2 => ?_⟩
 ·by_cases e:s=Dq d a
  ·rw[AE e]at hv;cases hv;exact⟨by omega,h3,e.symm⟩
  rw[AC e]at hv;have:=h.lt s v hv;exact⟨by omega,this.2⟩
 ·by_cases e:v=a
  ·subst e;simp only[AE];cases hm:mp (Dq d v)with
   | none=>exact .inl rfl
   | some u=>have:=h.lt _ _ hm;exact .inr ⟨u,rfl,this.1,this.2.2⟩
  simp only[AC e];exact h.ch v (by omega) h2
 by_cases e:Dq d v=Dq d a
 ·exact⟨a,AE e⟩
 simp only[AC e];exact h.all v (by
  by_cases e2:v=a
  ·subst e2;exact absurd rfl e
  omega) h2
theorem PI.skip(h:PI d mp bf a)(h3:d.length<a+3):PI d mp bf (a+1):=
 ⟨λs v hv=>by have:=h.lt s v hv;exact⟨by omega,this.2⟩,λv h1 h2=>h.ch v (by omega) h2,λv h1 h2=>h.all v (by omega) h2⟩
theorem PI.start(d:D8)(bf:Nat->Int):PI d (λ_=>none) bf 0:=⟨λs v hv=>(by cases hv),λv h1=>(by omega),λv h1=>(by omega)⟩
theorem tF(w:D7)(d:D8)(h0:0<d.length)(hd:d.length<=4000) :
 Calls prog 276 #[.string (D9 d)] w λe w'=>∃pb mb bb,e=.returned (.pointer (some ⟨pb,0,none⟩))/\PM w' w.heap.size pb mb bb d 0 (λ_=>none) (λ_=>0)/\QD w.heap.size w w':=by
 obtain⟨n,hn⟩:=Jq d.length;obtain⟨M,hM⟩:=Jq (madeCells #[Value.int .i64 0] n);have a3:∀W:D7,(Instr.makeSlice 22 (.int .i64 n) (.int .i64 n)).run prog W=.ok (.slice (some ⟨W.heap.size,0,none⟩) n n) (W.alloc (.cells M 3)):=λW=>by
  rw[hM];exact Cz (P:=prog) 22 3 (.int .i64 0) 8 underlying22 JQ rfl .i64 .i64 n (by omega) (by omega) W
 have hs:(D9 d).size=n:=by rw[Dd,hn]
 have HM:=Jy hM;have Hn:=Jy hn;have Ht:Hid (D9 d=D9 d):=rfl
 generalize htd:D9 d=t at *
 have a1:=Jy htd;clear hM hn htd;have a2:=@run_makeMap prog;go_enter func276,ntmps276
 go_wp2;go_ret
 obtain⟨o3,a0⟩:∃o,o=Obj.cells #[.string t,.map (some w.heap.size),.slice (some ⟨w.heap.size+1,0,none⟩) n n] 337:=⟨_,rfl⟩;have h3:(((w.alloc (.map #[] 0)).alloc (.cells M 3)).alloc o3).heap[w.heap.size+1+1]? = some o3:=by
  have:=AQ ((w.alloc (.map #[] 0)).alloc (.cells M 3)) o3
  simp only[BF]at this;exact this
 have h1:(((w.alloc (.map #[] 0)).alloc (.cells M 3)).alloc o3).ownsMap (H:=Unit) prog 9 (plainElem prog 3) w.heap.size 0 (.map []):=((Cw w _ _ _).alloc _).alloc _;have h2:(((w.alloc (.map #[] 0)).alloc (.cells M 3)).alloc o3).rowIs (w.heap.size+1) 3 n (λ_=>.int .i64 0):=by
  have:=Co (w.alloc (.map #[] 0)) (.int .i64 0) n 3
  rw[<-HM.o]at this;simp only[BF]at this;exact this.alloc _
 rw[<-a0];refine⟨w.heap.size+1+1,rfl,⟨w.heap.size,w.heap.size+1,⟨by omega,by omega,by omega,?_,⟨_,h1,MD.nil⟩,?_⟩⟩,?_⟩
 ·rw[h3,a0,<-Hn.o,a1.o]
 ·rw[<-Hn.o];exact h2
 exact⟨(((AM _ w).alloc (AB _) _).alloc (by simp) _).alloc (by simp;omega) _,(((Dm.refl 282 w).alloc _).alloc _).alloc _⟩
end S1
namespace S1.Pk
open Go
def EG{α:Type}(f:α->Nat):List α->Nat
 | []=>0
 | x :: l=>f x+EG f l
theorem PC{α:Type}(f:α->Nat)(a b:List α):EG f (a++b)=EG f a+EG f b:=by
 induction a with
 | nil=>simp[EG]
 | cons x a ih=>simp[EG,ih];omega
theorem Ym{α:Type}(f:α->Nat){a b:List α}(h:List.Perm a b):EG f a=EG f b:=by
 induction h with
 | nil=>rfl
 | cons x _ ih=>simp[EG,ih]
 | swap x y l=>simp[EG];omega
 | trans _ _ ih1 ih2=>exact ih1.trans ih2
theorem SP{α:Type}{f g:α->Nat}{l:List α}(h:∀x∈l,f x=g x):EG f l=EG g l:=by
 induction l with
 | nil=>rfl
 | cons x l ih=>simp only[EG];rw[h x (by simp),ih (λy hy=>h y (by simp[hy]))]
theorem kD{α:Type}{f g:α->Nat}{l:List α}(h:∀x∈l,f x<=g x):EG f l<=EG g l:=by
 induction l with
 | nil=>exact AB _
 | cons x l ih=>simp only[EG];have:=h x (by simp);have:=ih (λy hy=>h y (by simp[hy]));omega
theorem Wc{α:Type}(f:α->Nat)(k:Nat)(l:List α):EG (λx=>k*f x) l=k*EG f l:=by
 induction l with
 | nil=>simp[EG]
 | cons x l ih=>simp only[EG];rw[ih,Nat.mul_add]
def Fb:Nat->Nat
 | 0=>1
 | 1=>2
 | n+2=>Fb (n+1)+Fb n
theorem Va(d:Nat):Fb (d+1)=Fb d+Fb (d - 1):=by
 cases d with
 | zero=>rfl
 | succ d=>rfl
theorem o6(d:Nat):Fb d<=Fb (d+1):=by rw[Va];omega
theorem Y9{a b:Nat}(h:a<=b):Fb a<=Fb b:=by
 induction b with
 | zero=>rw[show a=0 by omega];exact AB _
 | succ b ih =>
   by_cases e:a=b+1
   ·rw[e];exact AB _
   exact AF (ih (by omega)) (o6 b)
theorem rW:Fb 13=610:=by decide
structure JI (K:Nat) (es:List Eo) (G:Nat->List Nat) (D:Nat->Nat) (ln:Nat->Nat) (S:List Nat) (W:Nat):Prop where
 sym:List.Perm ((es.map λe=>G e.b).flatten) S
 len:∀e∈es,∀i∈G e.b,ln i+1<=(G e.b).length
 kr:∀e∈es,EG (λi=>2^(K - ln i)) (G e.b)=2^K
 Rr:∀e∈es,∀i∈G e.b,ln i<=D e.b
 PT:∀e∈es,Fb (D e.b)<=e.wt
 MV:∀e∈es,∀e'∈es,Fb (D e.b - 1)<=e'.wt
 sum:EG (λe=>e.wt) es=W
 zero:∀i,i∉S->ln i=0
theorem JI.perm{K:Nat}{es es':List Eo}{G:Nat->List Nat}{D ln:Nat->Nat}{S:List Nat}{W:Nat}(h:JI K es G D ln S W)(p:List.Perm es' es):JI K es' G D ln S W:=
 ⟨((p.map _).flatten).trans h.sym,λe he=>h.len e (p.mem_iff.1 he),λe he=>h.kr e (p.mem_iff.1 he),λe he=>h.Rr e (p.mem_iff.1 he),λe he=>h.PT e (p.mem_iff.1 he),λe he e' he'=>h.MV e (p.mem_iff.1 he) e' (p.mem_iff.1 he'),(Ym _ p).trans h.sum,h.zero⟩
theorem N4{K:Nat}{es:List Eo}{G:Nat->List Nat}{D ln:Nat->Nat}{S:List Nat}{W:Nat}(h:JI K es G D ln S W){e:Eo}(he:e∈es):(G e.b).length<=S.length:=by
 rw[<-h.sym.length_eq];clear h
 induction es with
 | nil=>simp at he
 | cons x es ih =>
   simp only[Bb,CU,AN];rcases As.1 he with rfl | he
   ·omega
   have:=ih he;omega
theorem JI.start(K:Nat)(G:Nat->List Nat):JI K [] G (λ_=>0) (λ_=>0) [] 0:=
 ⟨by simp,by simp,by simp,by simp,by simp,by simp,rfl,by simp⟩
theorem JI.one{K:Nat}{es:List Eo}{G:Nat->List Nat}{S:List Nat}{W:Nat}(h:JI K es G (λ_=>0) (λ_=>0) S W)(c:Eo)(i:Nat)(hw:0<c.wt)(hc:∀e∈es,e.b≠c.b) :
 JI K (c :: es) (λb=>if b=c.b then[i]else G b) (λ_=>0) (λ_=>0) (S++[i]) (W+c.wt):=by
 have hG:∀e∈es,(λb=>if b=c.b then[i]else G b) e.b=G e.b:=λe he=>AC (hc e he)
 have hm:es.map (λe=>(λb=>if b=c.b then[i]else G b) e.b)=es.map λe=>G e.b:=BU hG
 refine⟨?_,?_,?_,λ_ _ _ _=>AU _,?_,?_,?_,λ_ _=>rfl⟩
 ·rw[Bb,hm];simp only[AE,CU];exact(List.perm_append_comm).trans (h.sym.append_right _)
 ·intro e he j hj;rcases As.1 he with rfl | he
  ·simp
  simp only[hG e he]at hj ⊢;exact h.len e he j hj
 ·intro e he;rcases As.1 he with rfl | he
  ·simp[EG]
  simp only[hG e he];exact h.kr e he
 ·intro e he;rcases As.1 he with rfl | he
  ·simp[Fb];omega
  exact h.PT e he
 ·intro e he e' a0;rcases As.1 a0 with rfl | k'
  ·simp[Fb];omega
  rcases As.1 he with rfl | k
  ·have:=h.PT e' k';simp[Fb]at this ⊢;omega
  exact h.MV e k e' k'
 simp only[EG];rw[h.sum];omega
theorem ZZ(K a:Nat)(h:a+1<=K):2*2^(K - (a+1))=2^(K - a):=by
 rw[<-Nat.pow_succ'];congr 1;omega
theorem JI.join{K:Nat}{r:List Eo}{e1 e2:Eo}{G:Nat->List Nat}{D ln:Nat->Nat}{S:List Nat}{W:Nat}(h:JI K (e1 :: e2 :: r) G D ln S W)(hS:S.Nodup)(hK:S.length<=K)(h12:e1.wt<=e2.wt)(hr:∀e∈r,e2.wt<=e.wt)
 (c:Eo) (hw:c.wt=e1.wt+e2.wt) (hc:∀e∈r,e.b≠c.b) (ln':Nat->Nat) (hl1:∀i,i∈G e1.b++G e2.b->ln' i=ln i+1) (hl2:∀i,i∉G e1.b++G e2.b->ln' i=ln i) :
 JI K (c :: r) (λb=>if b=c.b then G e1.b++G e2.b else G b) (λb=>if b=c.b then max (D e1.b) (D e2.b)+1 else D b) ln' S W:=by
 have m1:e1∈e1 :: e2 :: r:=by simp
 have m2:e2∈e1 :: e2 :: r:=by simp
 have mr:∀e∈r,e∈e1 :: e2 :: r:=λe he=>by simp[he]
 have a0:=h.sym;simp only[Bb,CU]at a0;have a5:=a0.symm.nodup hS;rw[<-Ap]at a5;have a4:∀i,i∈G e1.b++G e2.b->∀e∈r,i∉G e.b:=by
  intro i hi e he a7;exact(CG.1 a5).2.2 i hi i (List.mem_flatten.2 ⟨G e.b,Am.2 ⟨e,he,rfl⟩,a7⟩) rfl
 have a3:∀e∈r,∀i∈G e.b,ln' i=ln i:=λe he i hi=>hl2 i λhm=>a4 i hm e he hi
 have a2:∀i∈G e1.b,ln i+1<=K:=λi hi=>by
  have a:=h.len e1 m1 i hi;have b:=N4 h m1;omega
 have a1:∀i∈G e2.b,ln i+1<=K:=λi hi=>by
  have a:=h.len e2 m2 i hi;have b:=N4 h m2;omega
 have hG:∀e∈r,(if e.b=c.b then G e1.b++G e2.b else G e.b)=G e.b:=λe he=>AC (hc e he)
 have hD:∀e∈r,(if e.b=c.b then max (D e1.b) (D e2.b)+1 else D e.b)=D e.b:=λe he=>AC (hc e he)
 have ae:=h.PT e1 m1;have ac:=h.PT e2 m2;have aa:=h.MV e1 m1 e2 m2;have a8:=h.MV e2 m2 e1 m1;have a9:Fb (max (D e1.b) (D e2.b)+1)<=c.wt:=by
  rw[hw];rcases Nat.le_total (D e1.b) (D e2.b)with hle | hle
  ·rw[Nat.max_eq_right hle,Va];omega
  rw[DY hle,Va];omega
 have ad:Fb (max (D e1.b) (D e2.b))<=e2.wt:=by
  rcases Nat.le_total (D e1.b) (D e2.b)with hle | hle
  ·rw[Nat.max_eq_right hle];exact ac
  rw[DY hle];omega
 refine⟨?_,?_,?_,?_,?_,?_,?_,?_⟩
 ·have hm:r.map (λe=>if e.b=c.b then G e1.b++G e2.b else G e.b)=r.map λe=>G e.b:=BU hG
  rw[Bb,hm];simp only[AE,CU];rw[Ap];exact a0
 ·intro e he i hi;rcases As.1 he with rfl | he
  ·simp only[AE]at hi ⊢;rw[hl1 i hi];rw[AN];rcases An.1 hi with hi | hi
   ·have:=h.len e1 m1 i hi
    have:0<(G e2.b).length:=by
     have hk:=h.kr e2 m2;cases hg:G e2.b with
     | nil=>rw[hg]at hk;simp only[EG]at hk;have:=DA (n:=K) (show 0<2 by omega);omega
     | cons x l=>simp
    omega
   have:=h.len e2 m2 i hi
   have:0<(G e1.b).length:=by
    have hk:=h.kr e1 m1;cases hg:G e1.b with
    | nil=>rw[hg]at hk;simp only[EG]at hk;have:=DA (n:=K) (show 0<2 by omega);omega
    | cons x l=>simp
   omega
  simp only[hG e he]at hi ⊢;rw[a3 e he i hi];exact h.len e (mr e he) i hi
 ·intro e he;rcases As.1 he with rfl | he
  ·simp only[AE];rw[PC];have k1:2*EG (λi=>2^(K - ln' i)) (G e1.b)=2^K:=by
    rw[<-Wc,<-h.kr e1 m1];refine SP λi hi => ?_
    rw[hl1 i (An.2 (.inl hi))];exact ZZ K _ (a2 i hi)
   have k2:2*EG (λi=>2^(K - ln' i)) (G e2.b)=2^K:=by
    rw[<-Wc,<-h.kr e2 m2];refine SP λi hi => ?_
    rw[hl1 i (An.2 (.inr hi))];exact ZZ K _ (a1 i hi)
   omega
  simp only[hG e he];rw[<-h.kr e (mr e he)];exact SP λi hi=>by rw[a3 e he i hi]
 ·intro e he i hi;rcases As.1 he with rfl | he
  ·simp only[AE]at hi ⊢;rw[hl1 i hi];rcases An.1 hi with hi | hi
   ·have:=h.Rr e1 m1 i hi;omega
   have:=h.Rr e2 m2 i hi;omega
  simp only[hG e he]at hi;simp only[hD e he];rw[a3 e he i hi];exact h.Rr e (mr e he) i hi
 ·intro e he;rcases As.1 he with rfl | he
  ·simp only[AE];exact a9
  simp only[hD e he];exact h.PT e (mr e he)
 ·intro e he e' a6;rcases As.1 he with rfl | k
  ·simp only[AE,Cs];rcases As.1 a6 with rfl | k'
   ·omega
   have:=hr e' k';omega
  simp only[hD e k];rcases As.1 a6 with rfl | k'
  ·have:=h.MV e (mr e k) e1 m1;omega
  exact h.MV e (mr e k) e' (mr e' k')
 ·have:=h.sum
  simp only[EG]at this ⊢;omega
 intro i hi;have h1:i∉G e1.b++G e2.b:=λhm=>hi (a0.mem_iff.1 (by rw[<-Ap];exact An.2 (.inl hm)))
 rw[hl2 i h1];exact h.zero i hi
end S1.Pk
namespace S1
open Go.RowKit Pk
variable {l:List (Nat × Nat)} {a n c:Nat}
theorem OO:(prog.info? 282).map (λi=>(i.zero,i.size,i.bytes))=some (some (.agg #[.int .i64 0,.int .i64 0]),2,16):=by kernel_rfl
def Kr:List (Nat × Nat)->List Value
 | []=>[]
 | s :: l=>.int .i64 s.1 :: .int .i64 s.2 :: Kr l
theorem Wq(a b:List (Nat × Nat)):Kr (a++b)=Kr a++Kr b:=by
 induction a with
 | nil=>rfl
 | cons x a ih=>simp[Kr,ih]
theorem fY(l:List (Nat × Nat))(i:Nat)(h:i<l.length):(Kr l)[2*i]? = some (.int .i64 ((l.getD i (0,0)).1:Nat))/\(Kr l)[2*i+1]? = some (.int .i64 ((l.getD i (0,0)).2:Nat)):=by
 induction l generalizing i with
 | nil=>simp at h
 | cons x l ih =>
   cases i with
   | zero=>simp[Kr]
   | succ i =>
     have:=ih i (by simpa using h)
     rw[show 2*(i+1)=2*i+1+1 by omega,show 2*i+1+1+1=(2*i+1)+1+1 by omega];simpa[Kr]using this
def Gv(l:List (Nat × Nat))(k:Nat):Nat:=EG Pk.G8 (l.take k)
theorem rC(l:List (Nat × Nat))(s:Nat × Nat)(k:Nat)(h:k<=l.length):Gv (l++[s]) k=Gv l k:=by
 unfold Gv;rw[List.take_append_of_le_length h]
theorem iy(l:List (Nat × Nat))(s:Nat × Nat):Gv (l++[s]) (l.length+1)=Gv l l.length+Pk.G8 s:=by
 unfold Gv;rw[AT (by simp),AT (AB _),PC];simp[EG]
theorem VT(l:List (Nat × Nat))(k:Nat)(h:k<l.length):Gv l (k+1)=Gv l k+Pk.G8 (l.getD k (0,0)):=by
 unfold Gv;rw[Ah,AD h,PC,AI,AD h];simp[EG]
structure Mn (d:D8) (l:List (Nat × Nat)) (a:Nat):Prop where
 ok:∀k,k<l.length->N6 d (Gv l k) (l.getD k (0,0))
 fin:Gv l l.length=a
theorem Mn.snoc{d:D8}(h:Mn d l a)(s:Nat × Nat)(hs:N6 d a s):Mn d (l++[s]) (a+Pk.G8 s):=by
 refine⟨λk hk => ?_,?_⟩
 ·simp at hk;rw[rC l s k (by omega)];by_cases e:k=l.length
  ·subst e;rw[h.fin,AI,Ad (AB _)];simpa using hs
  rw[AI,Ax (by omega),<-AI];exact h.ok k (by omega)
 rw[AN,List.length_singleton,iy,h.fin]
def L8(l:List (Nat × Nat)):Nat:=EG (λs=>if s.1<256 then 1 else 0) l
def Ot(l:List (Nat × Nat)):Nat:=EG (λs=>if s.1<256 then 0 else 1) l
theorem fB(l:List (Nat × Nat))(s:Nat × Nat):L8 (l++[s])=L8 l+if s.1<256 then 1 else 0:=by unfold L8;rw[PC];simp[EG]
theorem ZT(l:List (Nat × Nat))(s:Nat × Nat):Ot (l++[s])=Ot l+if s.1<256 then 0 else 1:=by unfold Ot;rw[PC];simp[EG]
inductive AS (n c a:Nat) (l:List (Nat × Nat)):Prop
 | start:a=0->l=[]->AS n c a l
 | run:1<=a->L8 l=1->34*Ot l+1=a->(∀s∈l,s.1=c\/s.1=287)->AS n c a l
 | rest (x:Nat):n<a+3->L8 l+(n - a)<=3->34*Ot l<=a+33->(∀s∈l,s.1=c\/s.1=287\/s.1=x)->AS n c a l
theorem AS.lit(h:AS n c a l)(hc:c<256)(ha:a<n)(h3:n<a+3\/a=0):AS n c (a+1) (l++[(c,0)]):=by
 have e1:=fB l (c,0);have e2:=ZT l (c,0);rw[AE hc]at e1 e2;cases h with
 | start h1 h2 =>
   subst h1;subst h2;refine .run (by omega) (by rw[e1];rfl) (by rw[e2];rfl) (λs hs => ?_);simp at hs;subst hs;exact .inl rfl
 | run h1 h2 h4 h5 =>
   refine .rest c (by omega) (by omega) (by omega) (λs hs => ?_);rcases An.1 hs with hs | hs
   ·rcases h5 s hs with h | h
    ·exact .inl h
    exact .inr (.inl h)
   simp at hs;subst hs;exact .inl rfl
 | rest x h1 h2 h4 h5 =>
   refine .rest x (by omega) (by omega) (by omega) (λs hs => ?_);rcases An.1 hs with hs | hs
   ·exact h5 s hs
   simp at hs;subst hs;exact .inl rfl
theorem AS.cp{len bk:Nat}(h:AS n c a l)(h3:a+3<=n)(ha:1<=a)(hl:len=min 34 (n - a)):AS n c (a+len) (l++[(len+253,bk)]):=by
 have e1:=fB l (len+253,bk);have e2:=ZT l (len+253,bk);rw[AC (by simp;omega)]at e1 e2;cases h with
 | start h1 h2=>omega
 | run h1 h2 h4 h5 =>
   by_cases e:len=34
   ·refine .run (by omega) (by omega) (by omega) (λs hs => ?_);rcases An.1 hs with hs | hs
    ·exact h5 s hs
    simp at hs;subst hs;right;simp;omega
   refine .rest (len+253) (by omega) (by omega) (by omega) (λs hs => ?_);rcases An.1 hs with hs | hs
   ·rcases h5 s hs with h | h
    ·exact .inl h
    exact .inr (.inl h)
   simp at hs;subst hs;right;right;rfl
 | rest x h1 h2 h4 h5=>omega
theorem Dm.Rj{t:TypeId}{w w':D7}(h:Dm t w w'){base size:Nat}{v:Value}{xs:List Value}(o:w.ownsRow base t size v n xs):w'.ownsRow base t size v n xs:=by
 refine⟨o.1,?_⟩;rcases o.2 with h1 | ⟨g,cap,cur,h1,h2,h3,h4⟩
 ·exact .inl h1
 exact .inr ⟨g,cap,cur,h1,h2,h.block h3,h4⟩
variable {w:D7} {B n:Nat} {v:Value} {xs:List Value}
structure SS (w0 w:D7) (B pb mb bb:Nat) (d:D8) (a m:Nat) (v:Value) (l:List (Nat × Nat)) (mp:D8->Option Nat) (bf:Nat->Int):Prop where
 pm:PM w B pb mb bb d m mp bf
 pi:PI d mp bf a
 own:w.ownsRow B 282 2 v l.length (Kr l)
 Gr:Below B w0 w
theorem jW(h:w.ownsRow B 282 2 v n xs){pb mb bb m:Nat}{d:D8}{mp:D8->Option Nat}{bf:Nat->Int}(p:PM w B pb mb bb d m mp bf):v.ownBlock≠some pb/\v.ownBlock≠some mb/\v.ownBlock≠some bb:=by
 obtain⟨c,a0,_⟩:=p.bo;obtain⟨D,⟨es,ck,a2,_⟩,_⟩:=p.mo;have a1:=p.st;refine⟨?_,?_,?_⟩
 ·intro e;obtain⟨_,_,hk⟩:=Lib.ownsRow_kind h pb e;rw[a1]at hk;simp at hk
 ·intro e;obtain⟨_,_,hk⟩:=Lib.ownsRow_kind h mb e;rw[a2]at hk;simp at hk
 intro e;obtain⟨_,_,hk⟩:=Lib.ownsRow_kind h bb e;rw[a0]at hk;simp at hk
theorem ZA(w:D7)(a b:Value)(t:TypeId):∀j u,[a,b][j]? = some u->(w.alloc (.cells #[a,b] t)).cell? ((⟨w.heap.size,0,none⟩:Addr).add j)=some u:=
 World.news_of_block (cs:=#[a,b]) (AQ _ _)
theorem slice_form{e:TypeId}{size:Nat}(h:w.ownsRow B e size v n xs):∃a c,v=.slice a n c:=by
 rcases h.2 with⟨rfl,h0⟩ | ⟨g,cap,cur,rfl,_⟩
 ·rw[h0];exact⟨_,_,rfl⟩
 exact⟨_,_,rfl⟩
theorem kZ(d:D8)(c:Nat)(h:∀i,i<d.length->(d.getD i 0).toNat=c)(u a:Nat)(hu:u+3<=d.length)(ha:a+3<=d.length):Dq d u=Dq d a:=by
 have key:∀v,v+3<=d.length->Dq d v=[d.getD v 0,d.getD (v+1) 0,d.getD (v+2) 0]:=λv hv=>by
  unfold Dq
  apply Cy
  intro j;by_cases hj:j<3
  ·rw[Ak hj,C7,AD (by omega)];have h3:j=0\/j=1\/j=2:=by omega
   rcases h3 with rfl | rfl | rfl<;>simp[AI,AD (show v<d.length by omega),AD (show v+1<d.length by omega),AD (show v+2<d.length by omega)]
  rw[Aw (by rw[Ae];omega),Aw (by simp;omega)]
 have e:∀i j,i<d.length->j<d.length->d.getD i 0=d.getD j 0:=λi j hi hj=>BL.1 ((h i hi).trans (h j hj).symm)
 rw[key u hu,key a ha,e u a (by omega) (by omega),e (u+1) (a+1) (by omega) (by omega),e (u+2) (a+2) (by omega) (by omega)]
def UK(w:D7)(B pb mb bb m a:Nat)(d:D8)(e:Ending)(w':D7):Prop:=e=.returned (.tuple #[])/\∃m2 mp2 bf2,m2<=m+1/\PM w' B pb mb bb d m2 mp2 bf2/\PI d mp2 bf2 (a+1)/\QD B w w'
theorem fE(w:D7)(B pb mb bb m a:Nat)(d:D8)(mp:D8->Option Nat)(bf:Nat->Int)(hd:d.length<=4000)(ha:a<=d.length)(hm:m<=1000000)(h:PM w B pb mb bb d m mp bf)(hp:PI d mp bf a) :
 Calls prog 278 #[.pointer (some ⟨pb,0,none⟩),.int .i64 a] w λe w'=>UK w B pb mb bb m a d e w':=by
 by_cases h3:a+3<=d.length
 ·refine(mC w B pb mb bb m a d mp bf hd h3 hm h).mono ?_;rintro e w' ⟨rfl,h1,h2⟩;exact⟨rfl,_,_,_,AB _,h1,hp.add h3,h2⟩
 refine(mj w B pb mb bb m a d mp bf hd ha (by omega) h).mono ?_;rintro e w' ⟨rfl,rfl⟩;exact⟨rfl,_,_,_,by omega,h,hp.skip (by omega),QD.refl _ _⟩
theorem fR(len bk:Nat)(h:3<=len):Pk.G8 (len+253,bk)=len:=by
 unfold Pk.G8;rw[AC (by simp;omega)];simp
def Ks(d:D8)(w:D7)(e:Ending)(w':D7):Prop:=∃l v,e=.returned v/\w'.ownsRow w.heap.size 282 2 v l.length (Kr l)/\Mn d l d.length/\(∀c,(∀i,i<d.length->(d.getD i 0).toNat=c)->AS d.length c d.length l)/\Below w.heap.size w w'
theorem TK(w:D7)(d:D8)(h0:0<d.length)(hd:d.length<=4000):Calls prog 245 #[.string (D9 d)] w λe w'=>Ks d w e w':=by
 obtain⟨i0,hi,b5,be,b7⟩:=Ai OO;have aC:=Jy (tF w d h0 hd);obtain⟨t,ht⟩:=Jq (D9 d);have hs:t.size=d.length:=by rw[ht,Dd]
 have b6:∀k (h:k<t.size),(t[k]'h).toNat=(d.getD k 0).toNat:=λk h=>by subst ht;rw[MP]
 rw[<-ht]at aC ⊢;have Hs:=Jy hs;have bm:=Jy b6;clear ht hs b6;go_enter func245,ntmps245
 go_wp2_with fail;refine aC.o.mono ?_;rintro e w1 ⟨pb,mb,bb,rfl,b4,b8⟩;have aQ:Hid (SS w w1 w.heap.size pb mb bb d 0 0 (.slice none 0 0) [] (λ_=>none) (λ_=>0)):=⟨b4,PI.start _ _,AZ _ _ _ _,b8.Gr⟩;clear b4 b8 aC;go_wp2
 go_loopw [5,3] (λi v wr=>∃a m:Nat,∃l mp bf,i=.int .i64 a/\a<=d.length/\m<=a/\l.length<=a/\Hid (SS w wr w.heap.size pb mb bb d a m v l mp bf)/\Hid (Mn d l a)/\Hid (∀c,(∀i,i<d.length->(d.getD i 0).toNat=c)->AS d.length c a l)) (λi _ _=>d.length - (intOf i).toNat)
 case atStart=>exact⟨0,0,[],_,_,rfl,by omega,by omega,by simp,aQ,⟨λk hk=>by simp at hk,rfl⟩,λc _=>.start rfl rfl⟩
 case round =>
  clear aQ;obtain⟨a,m,l,mp,bf,rfl,bu,br,bs,am,aY,Has⟩:=hrel;have aT:=Hs.o;by_cases b3:a<d.length
  ·have g1:a<t.size:=by omega
   have e1:=bm.o a g1;obtain⟨c,hc⟩:=Jq ((d.getD a 0).toNat);have ah:c<256:=by rw[hc];exact UInt8.toNat_lt _
   rw[<-hc]at e1;have Hc:=Jy hc;have bx:t.size<=4000:=by omega
   have bp:=Jy aT;clear aT hc
   -- what longest answers,in any case
   have aA:Hid (Calls prog 277 #[.pointer (some ⟨pb,0,none⟩),.int .i64 a] wr λe w'=>∃len bk q:Nat,e=.returned (.tuple #[.int .i64 len,.int .i64 bk])/\w'=wr.drewN q/\((len=0/\bk=0/\∀c,(∀i,i<d.length->(d.getD i 0).toNat=c)->d.length<a+3\/a=0)\/(Good d a len bk/\∀c,(∀i,i<d.length->(d.getD i 0).toNat=c)->len=min 34 (d.length - a)))):=by
    by_cases h3:a+3<=d.length
    ·refine(sk wr w.heap.size pb mb bb m a d mp bf hd h3 am.o.pm am.o.pi).mono ?_;rintro e w' ⟨len,bk,q,rfl,rfl,hg,aU⟩;have aR:∀c,(∀i,i<d.length->(d.getD i 0).toNat=c)->0<a->min 34 (d.length - a)<=len:=λc hc ha=>by
      obtain⟨u,hu⟩:=am.o.pi.all (a - 1) (by omega) (by omega);have hk:Dq d (a - 1)=Dq d a:=kZ d c hc (a - 1) a (by omega) h3;rw[hk]at hu;have bq:=am.o.pi.lt _ _ hu;exact aU u hu λj hj=>BL.1 ((hc _ (by omega)).trans (hc _ hj).symm)
     refine⟨len,bk,q,rfl,rfl,?_⟩;rcases hg with⟨g1,g2⟩ | g
     ·refine .inl ⟨g1,g2,λc hc => ?_⟩;by_cases e0:a=0
      ·exact .inr e0
      have:=aR c hc (by omega);omega
     refine .inr ⟨g,λc hc => ?_⟩;have h1:=aR c hc (by have:=g.b1;have:=g.b2;omega);have h2:=g.hi;have h4:=g.fit;omega
    refine(pw wr w.heap.size pb mb bb m a d mp bf hd (by omega) (by omega) am.o.pm).mono ?_;rintro e w' ⟨rfl,rfl⟩;exact⟨0,0,0,rfl,rfl,.inl ⟨rfl,rfl,λ_ _=>.inl (by omega)⟩⟩
   go_wp2_with fail;refine aA.o.mono ?_;rintro e w2 ⟨len,bk,q,rfl,rfl,aX⟩;have aO:=am.o.pm.drewN q;have ag:=am.o.own;obtain⟨va,vc,hv⟩:=slice_form ag;subst hv;have a9:=Jy (jW ag am.o.pm);have ax:=Jy aO;have aw:=Jy am.o.pi;have a3:Hid ((wr.drewN q).ownsRow w.heap.size 282 2 (.slice va l.length vc) l.length (Kr l)):=ag;have aa:=Jy (below_drewN am.o.Gr q);have aM:w.heap.size<=(wr.drewN q).heap.size:=aa.o.size;clear aO ag aA am
   generalize wr.drewN q=W at *
   rcases aX with⟨rfl,rfl,hlit⟩ | ⟨hgood,hcp⟩
   ·have aZ:=Jy hlit;clear hlit;have bl:l.length+1<=4001:=by omega
    go_wp2_with (at_builtin;refine wpList_append_lies _ rfl _ _ 271 rfl w.heap.size 282 i0 _ 2 16 underlying271 hi b5 be b7 rfl (by decide) (.slice va l.length vc) l.length (Kr l) rfl (a3.o.alloc _) ⟨W.heap.size,0,none⟩ 1 1 [.int .i64 c,.int .i64 0] rfl rfl (ZA W _ _ _) (by intro u hu;simp at hu;rcases hu with rfl | rfl<;>rfl) (by omega) (by unfold maxLen;omega) (by omega) (by simp;omega) (W.heap.size+1) (by simp) ?_);intro g2 ae w3 a7 a1 aI aE;have ac:=ax.o.kept (BV W (.cells #[.int .i64 c,.int .i64 0] 282) none) (by simp) (by simp) (by simp);have av:=Jy (ac.kept a1 a9.o.1 a9.o.2.1 a9.o.2.2);have a8:Hid (Below w.heap.size w w3):=(aa.o.alloc aM _).grown a1 (by simp;omega) (λk hk=>(a3.o.lt k hk).1)
    have a6:Hid (w3.ownsRow w.heap.size 282 2 (.slice (some ⟨g2,0,none⟩) (l.length+1) ae) (l.length+1) (Kr (l++[(c,0)]))):=by
     show w3.ownsRow _ _ _ _ _ _;rw[Wq];exact a7
    have aB:Hid (Mn d (l++[(c,0)]) (a+1)):=aY.o.snoc (c,0) ⟨by simp;omega,by simp[Pk.G8,ah];omega,λ_=>Hc.o.symm,λh=>absurd ah h⟩ |> λh=>by
     have:Pk.G8 (c,0)=1:=by simp[Pk.G8,ah]
     rw[this]at h;exact h
    have aF:Hid (∀c2,(∀i,i<d.length->(d.getD i 0).toNat=c2)->AS d.length c2 (a+1) (l++[(c,0)])):=λc2 aL=>by
     have e:c=c2:=Hc.o.trans (aL a b3);subst e;exact(Has.o c aL).lit ah b3 (aZ.o c aL)
    have aW:a+1<=d.length/\1<=34/\1<=1:=by omega
    clear ac a7 a1 aI aE a3 ax aa a9;go_wp2
    go_loopw [38,5] (λi j wq=>∃k m2:Nat,∃aj ai,i=.int .i64 k/\j=.int .i64 ((a:Int)+(k:Int))/\k<=1/\m2<=a+k/\Hid (PM wq w.heap.size pb mb bb d m2 aj ai)/\Hid (PI d aj ai (a+k))/\Hid (wq.ownsRow w.heap.size 282 2 (.slice (some ⟨g2,0,none⟩) (l.length+1) ae) (l.length+1) (Kr (l++[(c,0)])))/\Hid (Below w.heap.size w wq)) (λi _ _=>1 - (intOf i).toNat)
    case atStart=>exact⟨0,m,mp,bf,rfl,by go_num,by omega,by omega,av,aw,a6,a8⟩
    clear av aw a6 a8;obtain⟨k,m2,aj,ai,rfl,rfl,hk,bh,ay,az,a4,a5⟩:=hrel;by_cases bg:k<1
    ·have a2:=fE wr w.heap.size pb mb bb m2 (a+k) d aj ai hd (by omega) (by omega) ay.o az.o;rw[show((a+k:Nat):Int)=(a:Int)+(k:Int) by omega]at a2;have ad:=Jy a2;clear a2;go_wp2_with fail;refine ad.o.mono ?_;rintro e w4 ⟨rfl,m3,aP,aN,bi,ar,an,af⟩;have aG:=Jy ar;have aK:Hid (PI d aP aN (a+(k+1))):=an;have au:=Jy (af.steps.Rj a4.o);have ao:=Jy (a5.o.trans af.Gr);clear ar an af ad ay az a4 a5;go_wp2;go_roundw
     case rel=>exact⟨k+1,m3,aP,aN,by go_num,by go_num,by omega,by omega,aG,aK,au,ao⟩
     case measure=>simp[intOf];omega
    have aS:k=1:=by omega
    have aD:Hid (SS w wr w.heap.size pb mb bb d (a+k) m2 (.slice (some ⟨g2,0,none⟩) (l.length+1) ae) (l++[(c,0)]) aj ai):=⟨ay.o,az.o,by rw[AN];exact a4.o,a5.o⟩;have aJ:Hid (Mn d (l++[(c,0)]) (a+k)):=by rw[aS];exact aB
    have aH:Hid (∀c2,(∀i,i<d.length->(d.getD i 0).toNat=c2)->AS d.length c2 (a+k) (l++[(c,0)])):=by rw[aS];exact aF
    clear ay az a4 a5;go_wp2;go_roundw
    case rel=>exact⟨a+k,m2,_,aj,ai,by go_num,by omega,by omega,by simp;omega,aD,aJ,aH⟩
    case measure=>simp[intOf];omega
   have b9:((len:Int)==0)=false:=by have:=hgood.lo;simp;omega
   have aV:len<=34:=hgood.hi;have bj:bk<=4000:=by have:=hgood.b2;omega
   have a0:=Jy hgood;have bn:=Jy hcp;clear hgood hcp;have bl:l.length+1<=4001:=by omega
   go_wp2_with (at_builtin;refine wpList_append_lies _ rfl _ _ 271 rfl w.heap.size 282 i0 _ 2 16 underlying271 hi b5 be b7 rfl (by decide) (.slice va l.length vc) l.length (Kr l) rfl (a3.o.alloc _) ⟨W.heap.size,0,none⟩ 1 1 [.int .i64 ((len:Int)+253),.int .i64 bk] rfl rfl (ZA W _ _ _) (by intro u hu;simp at hu;rcases hu with rfl | rfl<;>rfl) (by omega) (by unfold maxLen;omega) (by omega) (by simp;omega) (W.heap.size+1) (by simp) ?_);intro g2 ae w3 a7 a1 aI aE;have ac:=ax.o.kept (BV W (.cells #[.int .i64 ((len:Int)+253),.int .i64 bk] 282) none) (by simp) (by simp) (by simp);have av:=Jy (ac.kept a1 a9.o.1 a9.o.2.1 a9.o.2.2);have a8:Hid (Below w.heap.size w w3):=(aa.o.alloc aM _).grown a1 (by simp;omega) (λk hk=>(a3.o.lt k hk).1)
   have a6:Hid (w3.ownsRow w.heap.size 282 2 (.slice (some ⟨g2,0,none⟩) (l.length+1) ae) (l.length+1) (Kr (l++[(len+253,bk)]))):=by
    show w3.ownsRow _ _ _ _ _ _;rw[Wq];exact a7
   have aB:Hid (Mn d (l++[(len+253,bk)]) (a+len)):=aY.o.snoc (len+253,bk) ⟨by have:=a0.o.hi;simp;omega,by rw[fR len bk a0.o.lo];exact a0.o.fit,λh=>by have:=a0.o.lo;simp at h;omega,λ_=>⟨a0.o.b1,by have:=a0.o.b2;simp;omega,a0.o.b2,λi hi=>a0.o.same i (by simpa using hi)⟩⟩ |> λh=>by
    have:Pk.G8 (len+253,bk)=len:=fR len bk a0.o.lo
    rw[this]at h;exact h
   have aF:Hid (∀c2,(∀i,i<d.length->(d.getD i 0).toNat=c2)->AS d.length c2 (a+len) (l++[(len+253,bk)])):=λc2 aL=>(Has.o c2 aL).cp (by have:=a0.o.fit;have:=a0.o.lo;omega) (by have:=a0.o.b1;have:=a0.o.b2;omega) (bn.o c2 aL)
   have aW:a+len<=d.length/\len<=34/\1<=len:=by have:=a0.o.fit;have:=a0.o.hi;have:=a0.o.lo;omega
   clear ac a7 a1 aI aE a3 ax aa a9;go_wp2
   go_loopw [38,5] (λi j wq=>∃k m2:Nat,∃aj ai,i=.int .i64 k/\j=.int .i64 ((a:Int)+(k:Int))/\k<=len/\m2<=a+k/\Hid (PM wq w.heap.size pb mb bb d m2 aj ai)/\Hid (PI d aj ai (a+k))/\Hid (wq.ownsRow w.heap.size 282 2 (.slice (some ⟨g2,0,none⟩) (l.length+1) ae) (l.length+1) (Kr (l++[(len+253,bk)])))/\Hid (Below w.heap.size w wq)) (λi _ _=>len - (intOf i).toNat)
   case atStart=>exact⟨0,m,mp,bf,rfl,by go_num,by omega,by omega,av,aw,a6,a8⟩
   clear av aw a6 a8;obtain⟨k,m2,aj,ai,rfl,rfl,hk,bh,ay,az,a4,a5⟩:=hrel;by_cases bg:k<len
   ·have a2:=fE wr w.heap.size pb mb bb m2 (a+k) d aj ai hd (by omega) (by omega) ay.o az.o;rw[show((a+k:Nat):Int)=(a:Int)+(k:Int) by omega]at a2;have ad:=Jy a2;clear a2;go_wp2_with fail;refine ad.o.mono ?_;rintro e w4 ⟨rfl,m3,aP,aN,bi,ar,an,af⟩;have aG:=Jy ar;have aK:Hid (PI d aP aN (a+(k+1))):=an;have au:=Jy (af.steps.Rj a4.o);have ao:=Jy (a5.o.trans af.Gr);clear ar an af ad ay az a4 a5;go_wp2;go_roundw
    case rel=>exact⟨k+1,m3,aP,aN,by go_num,by go_num,by omega,by omega,aG,aK,au,ao⟩
    case measure=>simp[intOf];omega
   have aS:k=len:=by omega
   have aD:Hid (SS w wr w.heap.size pb mb bb d (a+k) m2 (.slice (some ⟨g2,0,none⟩) (l.length+1) ae) (l++[(len+253,bk)]) aj ai):=⟨ay.o,az.o,by rw[AN];exact a4.o,a5.o⟩;have aJ:Hid (Mn d (l++[(len+253,bk)]) (a+k)):=by rw[aS];exact aB
   have aH:Hid (∀c2,(∀i,i<d.length->(d.getD i 0).toNat=c2)->AS d.length c2 (a+k) (l++[(len+253,bk)])):=by rw[aS];exact aF
   clear ay az a4 a5;go_wp2;go_roundw
   case rel=>exact⟨a+k,m2,_,aj,ai,by go_num,by omega,by omega,by simp;omega,aD,aJ,aH⟩
   case measure=>simp[intOf];omega
  have bc:a=d.length:=by omega
  have g1:¬a<t.size:=by omega
  have bp:=Jy aT;have b0:=Jy bc;clear aT bc;go_wp2;go_ret
  refine⟨l,_,rfl,am.o.own,?_,?_,am.o.Gr⟩
  ·rw[<-b0.o];exact aY.o
  intro c hc
  have:=Has.o c hc
  rw[b0.o]at this;exact this
variable {w w':D7} {B K c qb pu n b:Nat} {G:Nat->List Nat} {e:TypeId} {l:List Nat} {v:Value} {xs:List Value}
def EI(wv:Nat->Nat)(k:Nat):List Nat:=(List.range k).filter λi=>decide (0<wv i)
def E6(wv:Nat->Nat):Nat->Nat
 | 0=>0
 | k+1=>E6 wv k+wv k
theorem VV(wv:Nat->Nat)(k:Nat)(h:0<wv k):EI wv (k+1)=EI wv k++[k]:=by
 unfold EI;rw[B0,Cu];simp[h]
theorem Vu(wv:Nat->Nat)(k:Nat)(h:wv k=0):EI wv (k+1)=EI wv k:=by
 unfold EI;rw[B0,Cu];simp[h]
theorem fU(wv:Nat->Nat)(k:Nat):(EI wv k).Nodup:=List.Pairwise.filter _ List.nodup_range
theorem ic(wv:Nat->Nat)(k:Nat):(EI wv k).length<=k:=by
 have:=DO (λi=>decide (0<wv i)) (List.range k)
 simpa[EI]using this
theorem YE(wv:Nat->Nat)(k i:Nat):i∈EI wv k↔i<k/\0<wv i:=by
 unfold EI;simp
def GM(w:D7)(B:Nat)(es:List Eo)(G:Nat->List Nat):Prop:=∀e∈es,w.ownsRow B 3 1 (.slice (some ⟨e.b,0,none⟩) e.n e.c) e.n (ES (G e.b))
theorem GM.fr{es:List Eo}(h:GM w B es G)(hf:Dm 3 w w'):GM w' B es G:=λe he=>hf.own (h e he)
theorem GM.perm{es es':List Eo}(h:GM w B es G)(p:List.Perm es' es):GM w B es' G:=λe he=>h e (p.mem_iff.1 he)
theorem GM.lt{es:List Eo}(h:GM w B es G){e:Eo}(he:e∈es):e.b<w.heap.size:=((h e he).lt e.b rfl).2
theorem GM.cons{es:List Eo}(h:GM w B es G){c:Eo}(hc:w.ownsRow B 3 1 (.slice (some ⟨c.b,0,none⟩) c.n c.c) c.n (ES l))(hne:∀e∈es,e.b≠c.b):GM w B (c :: es) (λb=>if b=c.b then l else G b):=by
 intro e he;rcases As.1 he with rfl | k
 ·simp only[AE];exact hc
 simp only[AC (hne e k)];exact h e k
def LR(w:D7)(qb:Nat):Nat:=match w.cell? ⟨qb,0,none⟩with | some (.slice _ n _)=>n | _=>0
theorem QM.LR{es:List Eo}(h:QM w B qb es pu):LR w qb=es.length:=by
 obtain⟨a,c,hx⟩:=h.len rfl;unfold S1.LR;rw[hx]
structure JS (K:Nat) (w:D7) (B qb:Nat) (es:List Eo) (pu:Nat) (G:Nat->List Nat) (D ln:Nat->Nat) (S:List Nat) (W:Nat):Prop where
 q:QM w B qb es pu
 h:Pk.JE es
 g:GM w B es G
 j:JI K es G D ln S W
theorem tD(w:D7)(B k:Nat)(hB:B<=w.heap.size):(w.alloc (.cells #[.int .i64 k] 3)).ownsRow B 3 1 (.slice (some ⟨w.heap.size,0,none⟩) 1 1) 1 (ES [k]):=
 ⟨rfl,.inr ⟨_,1,_,rfl,hB,AQ _ _,AB _,by unfold maxLen;omega,rfl,rfl⟩⟩
theorem YI{size:Nat}(h:w.ownsRow B e size v n xs):w.ownsRow 0 e size v n xs:=by
 refine⟨h.1,?_⟩;rcases h.2 with h1 | ⟨g,cap,cur,h1,h2,h3⟩
 ·exact .inl h1
 exact .inr ⟨g,cap,cur,h1,AU _,h3⟩
theorem TG{size:Nat}(h:w.ownsRow B e size v n xs)(hb:∀k,B<=k->w'.heap[k]? = w.heap[k]?):w'.ownsRow B e size v n xs:=by
 refine⟨h.1,?_⟩;rcases h.2 with h1 | ⟨g,cap,cur,h1,h2,h3,h4⟩
 ·exact .inl h1
 exact .inr ⟨g,cap,cur,h1,h2,(hb g h2).trans h3,h4⟩
theorem QM.high{es:List Eo}(h:QM w B qb es pu)(hb:∀k,B<=k->w'.heap[k]? = w.heap[k]?):QM w' B qb es pu:=by
 obtain⟨v,h1,h2⟩:=h.st;exact⟨h.hB,v,(hb qb h.hB).trans h1,TG h2 hb⟩
theorem GM.high{es:List Eo}(h:GM w B es G)(hb:∀k,B<=k->w'.heap[k]? = w.heap[k]?):GM w' B es G:=λe he=>TG (h e he) hb
theorem Ro{k:Nat}(h:w.ownsRow B 3 1 (.slice (some ⟨b,0,none⟩) n c) n (ES l))(hk:k<n):w.cell? ⟨b,k,none⟩=some (.int .i64 (l.getD k 0:Nat)):=by
 have hl:l.length=n:=by have:=h.1;unfold ES at this;simpa using this
 rw[h.cellAt k (by omega)];unfold ES;rw[BQ,AI,AD (by omega)];rfl
theorem Sn(h:w.ownsRow B 3 1 (.slice (some ⟨b,0,none⟩) n c) n (ES l)):l.length=n:=by
 have:=h.1;unfold ES at this;simpa using this
theorem QM.Ps{es:List Eo}(h:QM w B qb es pu)(k:Nat)(hk:w.heap.size<=k):∀n cap,w.cell? ⟨qb,0,none⟩≠some (.slice (some ⟨k,0,none⟩) n cap):=by
 intro n cap hc;obtain⟨v,h1,h2⟩:=h.st;have hx:w.cell? ⟨qb,0,none⟩=some v:=by rw[AG w qb 0 _ 341 (0,0) h1];rfl
 rw[hx]at hc;simp at hc;subst hc
 have:=(h2.lt k rfl).2
 omega
theorem X4{es:List Eo}(h:Pk.JE es){x:Eo}(hx:x∈es):wa es 0<=x.wt:=by
 obtain⟨i,hi,rfl⟩:=DB.1 hx
 have:=fo h i hi
 unfold wa at this ⊢;rw[AI (l:=es) (i:=i),AD hi]at this;exact this
theorem Xg(w:D7)(lb o:Nat)(v:Value):∀k,lb+1<=k->(w.setCell ⟨lb,o,none⟩ v).heap[k]? = w.heap[k]? := λk hk=>AH w ⟨lb,o,none⟩ v k (by simp;omega)
theorem XW(l:List Nat)(k j:Nat)(hk:k<l.length):j∈l.take (k+1)↔j∈l.take k\/j=l.getD k 0:=by
 rw[Ah,An,AI,AD hk];simp
theorem Xq(l:List Nat)(k:Nat)(hk:k<l.length):l.getD k 0∈l:=by
 rw[AI,AD hk];exact Bp hk
theorem nL(l:List Nat)(k:Nat)(hn:l.Nodup)(hk:k<l.length):l.getD k 0∉l.take k:=by
 intro h
 have:l=l.take k++l.drop k:=(Ca k l).symm
 rw[this]at hn;refine(CG.1 hn).2.2 _ h (l.getD k 0) ?_ rfl;have hv:l.getD k 0=l[k]:=by rw[AI,AD hk];rfl
 rw[hv,AX hk];exact List.mem_cons_self
theorem JI.last{e1:Eo}{D ln:Nat->Nat}{S:List Nat}{W:Nat}(h:JI K [e1] G D ln S W)(wv:Nat->Nat)(hm:∀i,i∈S↔i<288/\0<wv i)(ln':Nat->Nat)(h1:∀i,i∈G e1.b->ln' i=max (ln i) 1)(h2:∀i,i∉G e1.b->ln' i=ln i) :
 (∀i,i<288->(0<ln' i↔0<wv i))/\(∀i,288<=i->ln' i=0)/\(∀i,ln' i<=1\/(Fb (ln' i)<=W/\ln' i+1<=S.length))/\EG (λi=>2^(K - ln' i)) S<=2^K:=by
 have hp:=h.sym;simp only[Bb,Ct,CU,List.flatten_nil,CD]at hp;have m1:e1∈[e1]:=by simp
 have hw:e1.wt=W:=by have:=h.sum;simpa[EG]using this
 refine⟨λi hi => ?_,λi hi => ?_,λi => ?_,?_⟩
 ·by_cases hg:i∈G e1.b
  ·rw[h1 i hg]
   have:=(hm i).1 (hp.mem_iff.1 hg)
   omega
  rw[h2 i hg];have hs:i∉S:=λhs=>hg (hp.mem_iff.2 hs)
  rw[h.zero i hs]
  have:¬0<wv i:=λhv=>hs ((hm i).2 ⟨hi,hv⟩)
  omega
 ·have hs:i∉S:=λhs=>by have:=((hm i).1 hs).1;omega
  rw[h2 i λhg=>hs (hp.mem_iff.1 hg),h.zero i hs]
 ·by_cases hg:i∈G e1.b
  ·rw[h1 i hg];by_cases hl:ln i<=1
   ·left;omega
   right
   rw[DY (by omega)];have a:=h.len e1 m1 i hg;rw[hp.length_eq]at a;exact⟨AF (Y9 (h.Rr e1 m1 i hg)) (by rw[<-hw];exact h.PT e1 m1),a⟩
  rw[h2 i hg,h.zero i λhs=>hg (hp.mem_iff.2 hs)]
  left;omega
 rw[<-Ym _ hp,<-h.kr e1 m1];refine kD λi hi => ?_
 rw[h1 i hi];exact BD (by omega) (by omega)
end S1
end Go.Proofs.YtodmdkhdbfbfgaaGreatDoor
