/- nandlaw.Lays returns true for every two ints, list of ints and script of bulk at most 1048576, and what came in reads afterwards as it did; the listed tables of the library start as the program's text lays them. -/
import Derived.Test.YtodmdkhdbfbfgaaGreatDoorTie
import Derived.Deep.DeepHandedRow
import Derived.Lib.LaidTab
import Derived.Shelf.Vars
import Derived.Test.YtodmdkhdbfbfgaaGreatDoorM32
set_option linter.unusedVariables false
set_option linter.unusedSimpArgs false
set_option maxRecDepth 100000
set_option maxHeartbeats 8000000
namespace Go.Proofs.YtodmdkhdbfbfgaaGreatDoor
namespace lays
open Go.ChangeShapes Go.WideShapes Go.ChangeAt Go.RowKit Go.Nt
theorem own:ownKnob Tryz.prog.godebug=none:=by kernel_rfl
theorem laidOut:laidOutB Tryz.prog=true:=by kernel_rfl
theorem PK{W:D7}(h:W.ShapedOpen Tryz.prog):ML W:=
 cell_of_shapedOpen_int (g:=0) (t:=3) (zero:=#[.int .i64 0]) (k:=.i64) h (by decide +kernel) (by kernel_rfl) rfl (by kernel_rfl) (by kernel_rfl) Tryz.underlying3
theorem og{H:Type}(zs:List Int):zs.length<=Rows.uptoBulkAll (lits (H:=H) .i64 zs):=by
 have:=length_le (lits (H:=H) .i64 zs)
 simpa[lits]using this
theorem qW{H:Type}{enc:TypeId × Value->H}{W:D7}{a:Option Addr}{len cap:Nat}{d:DataW H}{p:List MemPlace}(h:∃fuel,DataW.trod enc Tryz.prog W 0 (λ_=>true) true fuel 22 (Value.slice a len cap).cells.toList=some (d,p))(hb:Rows.uptoBulk d<=1048576):∃z,len<=1048576/\S1.IntsIn W a len z:=by
 obtain⟨fuel,hf⟩:=h;rcases open_ints Tryz.underlying22 Tryz.underlying3 (by kernel_rfl) hf with⟨hcs,_⟩ | ⟨x,l,c,zs,hcs,_,hl,hm,hz,hx,hcell,hwz⟩
 ·simp[Value.cells]at hcs;obtain⟨rfl,rfl,rfl⟩:=hcs;exact⟨λ_=>0,by omega,λh=>absurd h (by omega)⟩
 simp[Value.cells]at hcs;obtain⟨rfl,rfl,rfl⟩:=hcs;have a1:zs.length=cap:=by simpa using hz
 have hd:d=.slice (lits .i64 (zs.take len)) (lits .i64 (zs.drop len)):=(Prod.mk.inj hx).1;have h1:=og (H:=H) (zs.take len);rw[Ae]at h1;rw[hd]at hb;simp only[Rows.uptoBulk]at hb;refine⟨λk=>zs.getD k 0,by omega,λh0 => ?_⟩;obtain⟨b,off,spot⟩:=x;have hc:=hcell 0 (by omega);have a0:spot=none:=by simpa[Addr.add]using World.cell?_spot hc
 subst a0;refine⟨b,off,rfl,λk hk => ?_⟩;have h1:=hcell k (by omega);rw[Qv]at h1;exact h1
theorem qU(H:Type)(enc:TypeId × Value->H)(W:D7)(base:Nat)(args:Array Value)(ds gs:List (DataW H))(before:List MemPlace)
 (hval:∀(j:Nat) t v,Tryz.f3.params[j]? = some t->args[j]? = some v->Value.okWide Tryz.prog W .any base t v)
 (hW:DataW.Whole enc Tryz.prog Tryz.f3.params.toList Rows.laysSpec.vars false W args.toList ds gs before) (hk:Rows.uptoSmall H (ds++gs)=true) (hsh:W.ShapedOpen Tryz.prog) :
 Calls Tryz.prog 3 args W λe W'=>∃v,e=.returned v/\Rows.laysSpec.post enc Tryz.prog Tryz.f3 false true false false W args v W':=by
 have a9:=hW;obtain⟨p,q,aa,hV,rfl,aA,av⟩:=hW;have hA:DataW.TrodAll enc Tryz.prog W 0 (λ_=>true) true Tryz.f3.params.toList args.toList ds p:=aa;rw[Tryz.params3]at hA hval;obtain⟨v0,aB,d0,aC,p0,q0,ac,rfl,rfl,h0,r0⟩:=trodAll_cons hA;obtain⟨v1,ax,d1,aw,p1,q1,a5,rfl,rfl,h1,r1⟩:=trodAll_cons r0;obtain⟨v2,az,d2,ay,p2,q2,a1,rfl,rfl,h2,r2⟩:=trodAll_cons r1;obtain⟨v3,aD,d3,aE,p3,q3,a4,rfl,rfl,h3,r3⟩:=trodAll_cons r2;obtain⟨rfl,rfl,rfl⟩:=trodAll_nil r3;subst a5 a1 a4;obtain rfl:args=#[v0,v1,v2,v3]:=by cases args;simp_all
 obtain⟨rfl,rfl⟩:=trodVars_none hV;obtain⟨a2,a7,a6,rfl⟩:=okWide_slice Tryz.underlying22 (hval 2 22 v2 rfl rfl);obtain⟨a3,ag,ah,rfl⟩:=okWide_slice Tryz.underlying23 (hval 3 23 v3 rfl rfl);have k0:=h0;have k1:=h1;have k2:=h2;have k3:=h3;have ae:∀x∈p0,x.block<W.heap.size:=by obtain⟨m,hm⟩:=k0;exact DataW.trod_lt m _ _ _ hm
 have an:∀x∈p1,x.block<W.heap.size:=by obtain⟨m,hm⟩:=k1;exact DataW.trod_lt m _ _ _ hm
 have ar:∀x∈p2,x.block<W.heap.size:=by obtain⟨m,hm⟩:=k2;exact DataW.trod_lt m _ _ _ hm
 have ad:∀x∈p3,x.block<W.heap.size:=by obtain⟨m,hm⟩:=k3;exact DataW.trod_lt m _ _ _ hm
 obtain⟨n0,rfl,_,_,_⟩:=open_int Tryz.underlying3 (hval 0 3 v0 rfl rfl) h0;obtain⟨n1,rfl,_,_,_⟩:=open_int Tryz.underlying3 (hval 1 3 v1 rfl rfl) h1;clear aa;simp only[CD]at a9 hk;have a0:Rows.uptoBulk d2<=1048576/\Rows.uptoBulk d3<=1048576:=by
  have h:=CR hk;simp only[Rows.uptoBulkAll]at h
  constructor<;>omega
 obtain⟨z,hz,ai⟩:=qW h2 a0.1;obtain⟨am,hf⟩:=h3;obtain⟨sa,sn,af,ao,ls,hv,au,a8,aj⟩:=qq (x:=(d3,p3)) (by simpa[Value.cells]using hf) a0.2;cases hv
 refine(rF R9 W (PK hsh) n0 n1 a2 a7 a6 z (by omega) ai _ _ _ ao ls au a8 aj).mono λe W' ⟨he,Gr⟩ => ?_
 subst he;exact⟨_,rfl,_,_,_,[],_,[],a9,trodAll_mk1 (shut_bool Tryz.underlying4 _),(trodAll_cons_mk (Below.trod laidOut (by kernel_rfl) (CR (by kernel_rfl)) k0 Gr ae) (trodAll_cons_mk (Below.trod laidOut (by kernel_rfl) (CR (by kernel_rfl)) k1 Gr an) (trodAll_cons_mk (Below.trod laidOut (by kernel_rfl) (CR (by kernel_rfl)) k2 Gr ar) (trodAll_cons_mk (Below.trod laidOut (by kernel_rfl) (CR (by kernel_rfl)) k3 Gr ad) trodAll_mk0)))),rfl,Gr.frame _,λh=>by cases h⟩
def holds(vs:List Value):Obj->Obj
 | .cells _ t frozen=>.cells vs.toArray t frozen
 | o=>o
def ranges:List Int:=[128,191,160,191,128,159,144,191,128,143,0,0,0,0,0,0,0,0,0,0,0,0,0,0,0,0,0,0,0,0,0,0]
noncomputable def UP(os:Os):D7:=
 { World.holding Tryz.prog os ⟨#[],#[],[]⟩with heap:=((World.holding Tryz.prog os ⟨#[],#[],[]⟩).heap.modify 1 (holds (Go.Pinned.utf8FirstZ.map λz:Nat=>Value.int .u8 (z:Int)))).modify 2 (holds (ranges.map λz=>Value.int .u8 z)) }
theorem o9(os:Os):laidMet Tryz.prog Rows.laysUptoRow.laid ((UP os).forCall (λ_ _=>0) ⟨#[],#[.int .i64 0,.int .i64 0,.slice none 0 0,.slice none 0 0],[]⟩).memory:=
 laidMet_of_run' 8 (by kernel_rfl) (by kernel_rfl)
theorem reads(os:Os){H:Type}(enc:TypeId × Value->H):∃places,DataW.whole enc Tryz.prog ((UP os).forCall (λ_ _=>0) ⟨#[],#[.int .i64 0,.int .i64 0,.slice none 0 0,.slice none 0 0],[]⟩).memory Tryz.f3.params.toList Rows.laysSpec.vars false #[Value.int .i64 0,Value.int .i64 0,Value.slice none 0 0,Value.slice none 0 0].toList 8=some ([.lit (.int .i64 0),.lit (.int .i64 0),.nil,.nil],[],places):=
 ⟨[],by kernel_rfl⟩
theorem kp(os:Os)(started:os.Started)(H:Type)(enc:TypeId × Value->H)(F:Stop.Interp) :
 ReturnsInHanded {} Tryz.checked os 3 .any ((Rows.OpenSpec.upto Rows.laysSpec).preRow enc Tryz.prog Tryz.f3 Rows.laysUptoRow.domain false Rows.laysUptoRow.laid) (((Rows.OpenSpec.upto Rows.laysSpec).at F).post enc Tryz.prog Tryz.f3 false true false false):=by
 obtain⟨a1,hx⟩:=reads os enc;refine returnsInHanded_of_row (C:=Tryz.checked) (s:=Rows.OpenSpec.upto Rows.laysSpec) own started (by kernel_rfl) Tryz.func3
  (witness_row_at (enc:=enc) (C:=Tryz.checked) false (UP os) #[.int .i64 0,.int .i64 0,.slice none 0 0,.slice none 0 0] rfl (by kernel_rfl) (by kernel_rfl) (by kernel_rfl)
    (OpenSpec.preRow_of_cond 8 hx (by kernel_rfl) (λk hk=>by cases hk;kernel_rfl) (by kernel_rfl) (o9 os))) ?_
 intro W base args ds gs before a2 hW _ a0 _ _ a3 _;exact qU H enc W base args ds gs before a2 hW (a0 _ rfl) a3
theorem ox:Rows.LaysUptoSaid:=
 OpenClaim.holds_of_cond 3 Tryz.f3 rfl rfl rfl rfl rfl rfl rfl ⟨rfl,rfl,rfl,rfl,rfl⟩ rfl rfl rfl rfl rfl (by kernel_rfl) Tryz.func3 closed
  (CR (by kernel_rfl)) (by unfold Func.isWrapper;first | (rw[AE (by decide +kernel)];kernel_rfl) | (rw[AC (by decide +kernel)];exact⟨rfl,rfl⟩))
  (λos started H enc _ F=>by rw[OpenClaim.pre_eq_preRow];exact kp os started H enc F)
theorem plain(f:FuncId)(fn:Func)(hf:Tryz.pinned.checked.prog.funcNamed "nand/nandlaw.Lays" = some f)(hfn:Tryz.pinned.checked.prog.funcs[f]? = some fn) :
 true=Tryz.pinned.checked.prog.looks []/\∀(j:Nat) t,fn.params[j]? = some t->Tryz.pinned.checked.prog.wantsStandIn t=false:=by
 obtain rfl:f=3:=DX ((show Tryz.prog.funcNamed "nand/nandlaw.Lays" = some 3 by kernel_rfl).symm.trans hf) |>.symm
 obtain rfl:fn=Tryz.f3:=(DX (Tryz.func3.symm.trans hfn)).symm;refine⟨by kernel_rfl,λj t ht => ?_⟩;rw[Tryz.params3]at ht;have hm:t=3\/t=3\/t=22\/t=23:=by simpa using Array.mem_of_getElem? ht
 rcases hm with rfl | rfl | rfl | rfl
 ·exact(show Tryz.prog.wantsStandIn 3=false by kernel_rfl)
 ·exact(show Tryz.prog.wantsStandIn 3=false by kernel_rfl)
 ·exact(show Tryz.prog.wantsStandIn 22=false by kernel_rfl)
 exact(show Tryz.prog.wantsStandIn 23=false by kernel_rfl)
theorem Nc:Rows.LaysUptoCardSaid:=
 Claim7.holds_tied_plain_at .later [] _ _ _ _ ox (λ_ h=>by cases h) (by kernel_rfl) (λ_ h=>by cases h) laysUpto_row_tie rfl ⟨rfl,rfl⟩ (by kernel_rfl) rfl plain (by kernel_rfl)
end lays
section
theorem lays_holds:Rows.LaysUptoCardSaid:=lays.Nc
end
end Go.Proofs.YtodmdkhdbfbfgaaGreatDoor
