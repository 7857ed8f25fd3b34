/- nandlaw.Does returns true for every two ints, list of ints and script of bulk at most 1048576, and what came in reads afterwards as it did; the listed tables of the library start as the program's text does them. -/
import Derived.Test.YtodmdkhdbfbfgaaGreatDoorTie
import Derived.Deep.DeepHandedRow
import Derived.Lib.LaidTab
import Derived.Shelf.Vars
import Derived.Test.YtodmdkhdbfbfgaaGreatDoorM12
set_option linter.unusedVariables false
set_option linter.unusedSimpArgs false
set_option maxRecDepth 100000
set_option maxHeartbeats 8000000
namespace Go.Proofs.YtodmdkhdbfbfgaaGreatDoor
namespace does
open Go.ChangeShapes Go.WideShapes Go.ChangeAt Go.RowKit Go.Nt
theorem own:ownKnob Tryz.prog.godebug=none:=by kernel_rfl
theorem laidOut:laidOutB Tryz.prog=true:=by kernel_rfl
theorem TM{W:Z}(h:W.ShapedOpen Tryz.prog):ML W:=
 cell_of_shapedOpen_int (g:=0) (t:=3) (zero:=#[.int .i64 0]) (k:=.i64) h (by decide +kernel) (by kernel_rfl) I (by kernel_rfl) (by kernel_rfl) Tryz.underlying3
theorem yC{H:Type}(a:List Int):a.length<=Rows.uptoBulkAll (lits (H:=H) .i64 a):=by have:=length_le (lits (H:=H) .i64 a);simpa[lits]using this
theorem xW{H:Type}{enc:TypeId×Value->H}{W:Z}{a:Option Addr}{e cap:Nat}{d:DataW H}{p:List MemPlace}(h:∃fuel,DataW.trod enc Tryz.prog W 0 (λ_=>true) true fuel 22 (Value.slice a e cap).cells.toList=some (d,p))(o:Rows.uptoBulk d<=1048576):∃z,e<=1048576/\Y.IntsIn W a e z:=by
 obtain⟨fuel,t⟩:=h;rcases open_ints Tryz.underlying22 Tryz.underlying3 (by kernel_rfl) t with⟨g,_⟩|⟨x,l,c,j,g,_,_,_,v,u,f,_⟩
 .simp[Value.cells]at g;obtain⟨rfl,rfl,rfl⟩:=g;exact⟨λ_=>0,by omega,λh=>absurd h (by omega)⟩
 simp[Value.cells]at g;obtain⟨rfl,rfl,rfl⟩:=g;have w:j.length=cap:=by simpa using v
 have s:d=.slice (lits .i64 (j.take e)) (lits .i64 (j.drop e)):=(Prod.mk.inj u).1;have m:=yC (H:=H) (j.take e);rw[Ac]at m;rw[s]at o;simp only[Rows.uptoBulk]at o;refine⟨λk=>j.getD k 0,by omega,λ_=>?_⟩;obtain⟨b,n,i⟩:=x;have r:=f 0 (by omega);have q:i=none:=by simpa[Addr.add]using World.cell?_spot r
 subst q;refine⟨b,n,I,λk _=>?_⟩;have m:=f k (by omega);rw[Uo]at m;exact m
theorem oX(H:Type)(enc:TypeId×Value->H)(W:Z)(base:Nat)(args:Array Value)(ds n:List (DataW H))(b:List MemPlace) (a:∀(j:Nat) t v,Tryz.f4.params[j]?=some t->args[j]?=some v->Value.okWide Tryz.prog W .any base t v) (y:DataW.Whole enc Tryz.prog Tryz.f4.params.toList Rows.doesSpec.vars false W args.toList ds n b) (A:Rows.uptoSmall H (ds++n)=true) (f:W.ShapedOpen Tryz.prog):Calls Tryz.prog 4 args W λe g=>∃v,e=.returned v/\Rows.doesSpec.post enc Tryz.prog Tryz.f4 false true false false W args v g:=by
 have l:=y;obtain⟨p,q,k,hV,rfl,_,_⟩:=y;have w:DataW.TrodAll enc Tryz.prog W 0 (λ_=>true) true Tryz.f4.params.toList args.toList ds p:=k;rw[Tryz.params4]at w a;obtain⟨C,_,d0,_,p0,q0,_,rfl,rfl,o,r0⟩:=trodAll_cons w;obtain⟨D,_,d1,_,p1,q1,L,rfl,rfl,r,r1⟩:=trodAll_cons r0;obtain⟨F,_,d2,_,p2,q2,N,rfl,rfl,s,r2⟩:=trodAll_cons r1;obtain⟨G,_,d3,_,B,q3,M,rfl,rfl,u,r3⟩:=trodAll_cons r2;obtain⟨rfl,rfl,rfl⟩:=trodAll_nil r3;subst L N M;obtain rfl:args=#[C,D,F,G]:=by cases args;simp_all
 obtain⟨rfl,rfl⟩:=trodVars_none hV;obtain⟨K,P,Q,rfl⟩:=okWide_slice Tryz.underlying22 (a 2 22 F I I);obtain⟨_,_,_,rfl⟩:=okWide_slice Tryz.underlying23 (a 3 23 G I I);have k0:=o;have k1:=r;have k2:=s;have k3:=u;have av:∀x∈p0,x.block<W.heap.size:=by obtain⟨m,c⟩:=k0;exact DataW.trod_lt m _ _ _ c
 have au:∀x∈p1,x.block<W.heap.size:=by obtain⟨m,c⟩:=k1;exact DataW.trod_lt m _ _ _ c
 have V:∀x∈p2,x.block<W.heap.size:=by obtain⟨m,c⟩:=k2;exact DataW.trod_lt m _ _ _ c
 have ai:∀x∈B,x.block<W.heap.size:=by obtain⟨m,c⟩:=k3;exact DataW.trod_lt m _ _ _ c
 obtain⟨n0,rfl,_,_,_⟩:=open_int Tryz.underlying3 (a 0 3 C I I) o;obtain⟨n1,rfl,_,_,_⟩:=open_int Tryz.underlying3 (a 1 3 D I I) r;clear k;simp only[Br]at l A;have i:Rows.uptoBulk d2<=1048576/\Rows.uptoBulk d3<=1048576:=by have h:=Ca A;simp only[Rows.uptoBulkAll]at h;constructor<;>omega
 obtain⟨z,_,ar⟩:=xW s i.1;obtain⟨_,hf⟩:=u;obtain⟨_,_,_,T,ls,hv,S,R,ah⟩:=rH (x:=(d3,B)) (by simpa[Value.cells]using hf) i.2;cases hv;refine(sX VR W (TM f) n0 n1 K P Q z (by omega) ar _ _ _ T ls S R ah).mono λe g ⟨he,d⟩=>?_;subst he;exact⟨_,I,_,_,_,[],_,[],l,trodAll_mk1 (shut_bool Tryz.underlying4 _),(trodAll_cons_mk (Below.trod laidOut (by kernel_rfl) (Ca (by kernel_rfl)) k0 d av) (trodAll_cons_mk (Below.trod laidOut (by kernel_rfl) (Ca (by kernel_rfl)) k1 d au) (trodAll_cons_mk (Below.trod laidOut (by kernel_rfl) (Ca (by kernel_rfl)) k2 d V) (trodAll_cons_mk (Below.trod laidOut (by kernel_rfl) (Ca (by kernel_rfl)) k3 d ai) trodAll_mk0)))),I,d.frame _,λh=>by cases h⟩
def holds(vs:List Value):Obj->Obj
 | .cells _ t frozen=>.cells vs.toArray t frozen
 | o=>o
def ranges:List Int:=[128,191,160,191,128,159,144,191,128,143,0,0,0,0,0,0,0,0,0,0,0,0,0,0,0,0,0,0,0,0,0,0]
noncomputable def Z6(os:Os):Z:=
 {World.holding Tryz.prog os ⟨#[],#[],[]⟩with heap:=((World.holding Tryz.prog os ⟨#[],#[],[]⟩).heap.modify 1 (holds (Go.Pinned.utf8FirstZ.map λz:Nat=>Value.int .u8 (z:Int)))).modify 2 (holds (ranges.map λz=>Value.int .u8 z))}
theorem qo(os:Os):laidMet Tryz.prog Rows.doesUptoRow.laid ((Z6 os).forCall (λ_ _=>0) ⟨#[],#[.int .i64 0,.int .i64 0,.slice none 0 0,.slice none 0 0],[]⟩).memory:=
 laidMet_of_run' 8 (by kernel_rfl) (by kernel_rfl)
theorem reads(os:Os){H:Type}(enc:TypeId×Value->H):∃a,DataW.whole enc Tryz.prog ((Z6 os).forCall (λ_ _=>0) ⟨#[],#[.int .i64 0,.int .i64 0,.slice none 0 0,.slice none 0 0],[]⟩).memory Tryz.f4.params.toList Rows.doesSpec.vars false #[Value.int .i64 0,Value.int .i64 0,Value.slice none 0 0,Value.slice none 0 0].toList 8=some ([.lit (.int .i64 0),.lit (.int .i64 0),.nil,.nil],[],a):=
 ⟨[],by kernel_rfl⟩
theorem xA(os:Os)(a:os.Started)(H:Type)(enc:TypeId×Value->H)(F:Stop.Interp):ReturnsInHanded {} Tryz.checked os 4 .any ((Rows.OpenSpec.upto Rows.doesSpec).preRow enc Tryz.prog Tryz.f4 Rows.doesUptoRow.domain false Rows.doesUptoRow.laid) (((Rows.OpenSpec.upto Rows.doesSpec).at F).post enc Tryz.prog Tryz.f4 false true false false):=by
 obtain⟨_,l⟩:=reads os enc;refine returnsInHanded_of_row (C:=Tryz.checked) (s:=Rows.OpenSpec.upto Rows.doesSpec) own a (by kernel_rfl) Tryz.func4
  (witness_row_at (enc:=enc) (C:=Tryz.checked) false (Z6 os) #[.int .i64 0,.int .i64 0,.slice none 0 0,.slice none 0 0] I (by kernel_rfl) (by kernel_rfl) (by kernel_rfl)
   (OpenSpec.preRow_of_cond 8 l (by kernel_rfl) (λ_ k=>by cases k;kernel_rfl) (by kernel_rfl) (qo os))) ?_
 intro W d c h i b f j _ e _ _ g _;exact oX H enc W d c h i b f j (e _ I) g
theorem uB:Rows.DoesUptoSaid:=
 OpenClaim.holds_of_cond 4 Tryz.f4 I I I I I I I ⟨I,I,I,I,I⟩ I I I I I (by kernel_rfl) Tryz.func4 closed
  (Ca (by kernel_rfl)) (by unfold Func.isWrapper;first|(rw[AD (by decide +kernel)];kernel_rfl)|(rw[AC (by decide +kernel)];exact⟨I,I⟩))
  (λb a H enc _ F=>by rw[OpenClaim.pre_eq_preRow];exact xA b a H enc F)
theorem plain(f:FuncId)(a:Func)(d:Tryz.pinned.checked.prog.funcNamed "nand/nandlaw.Does" = some f)(b:Tryz.pinned.checked.prog.funcs[f]?=some a):true=Tryz.pinned.checked.prog.looks []/\∀(j:Nat) t,a.params[j]?=some t->Tryz.pinned.checked.prog.wantsStandIn t=false:=by
 obtain rfl:f=4:=Cs ((show Tryz.prog.funcNamed "nand/nandlaw.Does" = some 4 by kernel_rfl).symm.trans d) |>.symm;obtain rfl:a=Tryz.f4:=(Cs (Tryz.func4.symm.trans b)).symm;refine⟨by kernel_rfl,λj t c=>?_⟩;rw[Tryz.params4]at c;have e:t=3\/t=3\/t=22\/t=23:=by simpa using Array.mem_of_getElem? c
 rcases e with rfl|rfl|rfl|rfl
 .exact(show Tryz.prog.wantsStandIn 3=false by kernel_rfl)
 .exact(show Tryz.prog.wantsStandIn 3=false by kernel_rfl)
 .exact(show Tryz.prog.wantsStandIn 22=false by kernel_rfl)
 exact(show Tryz.prog.wantsStandIn 23=false by kernel_rfl)
theorem QD:Rows.DoesUptoCardSaid:=
 Claim7.holds_tied_plain_at .later [] _ _ _ _ uB (λ_ h=>by cases h) (by kernel_rfl) (λ_ h=>by cases h) doesUpto_row_tie I ⟨I,I⟩ (by kernel_rfl) I plain (by kernel_rfl)
end does
section
theorem does_holds:Rows.DoesUptoCardSaid:=does.QD
end
end Go.Proofs.YtodmdkhdbfbfgaaGreatDoor
