/- Lemmas. -/
import Derived.Maps.GroupsBeside
import Derived.Ground.Names2Prog
import Derived.Ground.SlgnProg
import Derived.Shelf.Strings.BuilderK
import Derived.Test.YtodmdkhdbfbfgaaGreatDoorM13
set_option linter.unusedVariables false
set_option linter.unusedSimpArgs false
set_option maxRecDepth 100000
set_option maxHeartbeats 8000000
open Go.Proofs.Tryz
namespace Go.Proofs.YtodmdkhdbfbfgaaGreatDoor
namespace S1
open Go.RowKit Pk Go.Maps Go.Sort Go.ChangeShapes
variable {w w':D7} {z g n B:Nat} {xs:List Nat} {N:Nat->List Nat}
def nd:List Nat->DataW Value
 | []=>.nil
 | x :: xs=>.slice (lits .u32 ((x :: xs).map (λx:Nat=>(x:Int)))) []
def KE(w:D7)(z g n:Nat)(N:Nat->List Nat):Prop:=∃D:DataW Value,w.ownsGroups prog 3 z 88 .u32 g n D/\(∀b:Nat,b<=1000000->D.atKey (.int .i64 (b:Int)) .nil=nd (N b)/\(Maps.has D (.int .i64 (b:Int))=true↔N b≠[]))/\(∀kl,Maps.has D kl=true->∃b:Nat,b<=1000000/\kl=.int .i64 (b:Int))
theorem ZV{D:DataW Value}(h:w.ownsGroups prog 3 z 88 .u32 g n D):w.ownsMap prog 3 (rowElem (H:=Value) w z 88 .u32) g n D:=by
 obtain⟨es,a0,h1,h2,h3,h4,_⟩:=h;exact⟨es,a0,h1,h2,h3,h4⟩
theorem qE{zs:List Int}(h:(lits .u32 zs:List (DataW Value))=lits .u32 (xs.map (λx:Nat=>(x:Int)))):zs=xs.map (λx:Nat=>(x:Int)):=by
 unfold lits at h;exact(List.map_inj_right (λa b e=>by cases e;rfl)).1 h
theorem Xi(xs:List Nat):(xs.map (λx:Nat=>(x:Int))).map (Value.int .u32)=xs.map E5:=by simp[E5,Function.comp_def]
theorem kC{v:Value}(h:w.ownsRow z 88 1 v xs.length (xs.map E5))(hx:xs≠[]):rowDatum (H:=Value) .u32 v (xs.map (λx:Nat=>(x:Int)))=nd xs:=by
 cases xs with
 | nil=>exact absurd rfl hx
 | cons x xs =>
   rcases h.2 with⟨_,h0⟩ | ⟨g,cap,cur,rfl,_⟩
   ·simp at h0
   rfl
theorem wf_u32{x:Nat}(h:x<=4294967295):(Lit.int .u32 x).wf=true:=by simp[Lit.wf,IntKind.min,IntKind.max,IntKind.signed,IntKind.bits];omega
def Ol(w:D7)(z g n b:Nat)(N:Nat->List Nat)(v:Value):Prop:=∀(w1:D7) (v':Value) (xs':List Nat),w.grownBy w1 v.ownBlock->w1.ownsRow z 88 1 v' xs'.length (xs'.map E5)->xs'≠[]->(∀x∈xs',x<=4294967295)->xs'.length<=n+1->(v'.ownBlock=v.ownBlock\/∃g',v'.ownBlock=some g'/\w.heap.size<=g') ->
 ∃w2,(Instr.mapUpdate 200 (.map (some g)) (.int .i64 (b:Int)) v').run prog w1=.ok () w2/\KE w2 z g (n+1) (λc=>if c=b then xs' else N c)/\w1.grownBy w2 (some g)
theorem KE.look(h:KE w z g n N){b:Nat}(hb:b<=1000000)(hn:n<=1000000) :
 ∃v,(Instr.lookup 200 (.map (some g)) (.int .i64 (b:Int)) false).run prog w=.ok v w/\w.ownsRow z 88 1 v (N b).length ((N b).map E5)/\(N b).length<=n/\Ol w z g n b N v:=by
 obtain⟨D,ho,hD,hk⟩:=h;obtain⟨v,zs,a6,a0,a8,ae,a2⟩:=ho.at Lr underlying200 (rH w) (by unfold maxLen;omega) (Mf hb);have a9:zs=(N b).map (λx:Nat=>(x:Int)):=by
  rw[(hD b hb).1]at a0;cases hN:N b with
  | nil =>
    rw[hN]at a0;rcases a8.1.2 with⟨rfl,h0⟩ | ⟨g',cap,cur,rfl,_⟩
    ·exact BN.1 h0
    simp[nd,rowDatum]at a0
  | cons x xs =>
    rw[hN]at a0;rcases a8.1.2 with⟨rfl,h0⟩ | ⟨g',cap,cur,rfl,_⟩
    ·simp[nd,rowDatum]at a0
    have a4:(DataW.slice (lits .u32 ((x :: xs).map (λx:Nat=>(x:Int)))) []:DataW Value)=.slice (lits .u32 zs) []:=a0;exact qE (DataW.slice.inj a4).1.symm
 have a3:zs.length=(N b).length:=by rw[a9];simp
 have a7:w.ownsRow z 88 1 v (N b).length ((N b).map E5):=by
  have:=a8.1
  rw[a3,a9,Xi]at this;exact this
 refine⟨v,a6,a7,by omega,λw1 v' ac hg a1 hx hr hl a5 => ?_⟩;obtain⟨w2,h1,h2,h3⟩:=a2 w1 v' (ac.map (λx:Nat=>(x:Int))) hg ⟨by rw[Bn,Xi];exact a1,λz hz=>by obtain⟨x,ad,rfl⟩:=Am.1 hz;exact wf_u32 (hr x ad)⟩ (by simpa using hl) a5;refine⟨w2,h1,⟨_,h2,λc hc => ?_,λkl aa => ?_⟩,h3⟩
 ·have hM:=(ZV ho).isMap;dsimp only;by_cases e:c=b
  ·subst e;rw[DG hM (k:=.int .i64 (c:Int)) trivial,Cj hM (k:=.int .i64 (c:Int)) trivial,AE rfl];exact⟨kC a1 hx,by simp[hx]⟩
  rw[DD (int_ne e),Bk (int_ne e),AC e];exact hD c hc
 by_cases e:kl=.int .i64 (b:Int)
 ·exact⟨b,hb,e⟩
 rw[Bk e]at aa;exact hk kl aa
theorem KE.made(w:D7):KE (w.alloc (.map #[] 0)) (w.heap.size+1) w.heap.size 0 (λ_=>[]):=⟨.map [],World.ownsGroups_made w _ _ _ _,λb hb=>⟨rfl,by simp[Maps.has]⟩,λkl h=>by simp[Maps.has]at h⟩
theorem below_grown(h:Below B w w')(hB:w.heap.size<=B):w.grownBy w' none:=⟨h.os,h.tape,h.output,h.size,λk hk _=>h.block k (by omega)⟩
theorem KE.below(h:KE w z g n N)(hb:Below B w w')(hB:w.heap.size<=B):KE w' z g n N:=by
 obtain⟨D,ho,hD,hk⟩:=h;refine⟨D,ho.kept (below_grown hb hB) (by simp) (λes a0 _ x _ => ?_),hD,hk⟩;cases x.val.ownBlock<;>simp
def Tx(w:D7)(n:Nat)(N:Nat->List Nat)(e:Ending)(w':D7):Prop:=∃(v:Value) (ks:List Nat),e=.returned v/\Asc ks/\ks.Nodup/\(∀b,b∈ks↔N b≠[])/\ks.length<=n/\w'.ownsRow w.heap.size 3 1 v ks.length (ks.map (λk:Nat=>Value.int .i64 (k:Int)))/\Below w.heap.size w w'
theorem KE.keys{Bm:Nat}(h:KE w z g n N)(hN:∀b,N b≠[]->b<=1000000)(hn:n<=100000)(hBm:Bm<w.heap.size)(hm:w.cell? ⟨Bm,0,none⟩=some (.map (some g))) :
 Calls prog 139 #[.func (.func 202) #[] #[.pointer (some ⟨Bm,0,none⟩)]] w λe w'=>Tx w n N e w':=by
 obtain⟨D,ho,hD,hk⟩:=h;have hM:=ZV ho;refine(pF w Bm g n D hBm hm hM (AF hM.size_le hn)).mono ?_;rintro e w' ⟨v,ss,rfl,a4,a1,-,hb⟩;obtain⟨es,a6,ad,_⟩:=hM.entries Lr;obtain⟨af,a9,a7⟩:=hM.keysOf;obtain rfl:es=af:=by rw[a6]at a9;simpa using a9
 have a0:∀x:Int,Maps.has D (.int .i64 x)=true↔x∈intKeys D:=λx=>by
  rw[a6,Maps.has_eq,Bq];show _↔x∈es.map λp=>Go.intOf p.1
  rw[Am]
  constructor
  ·rintro⟨p,hp,hs⟩;obtain⟨v,hv⟩:=a7 p hp;obtain⟨y,_,hy,_⟩:=Maps.keyOf_i64 underlying3 hv;rw[hy]at hs;exact⟨p,hp,by rw[hy];simpa[Lit.sameKey,Go.intOf]using hs⟩
  rintro⟨p,hp,rfl⟩;obtain⟨v,hv⟩:=a7 p hp;obtain⟨y,_,hy,_⟩:=Maps.keyOf_i64 underlying3 hv;exact⟨p,hp,by rw[hy];simp[Lit.sameKey,Go.intOf]⟩
 have aa:(intKeys D).Nodup:=by
  rw[a6];show(es.map λp=>Go.intOf p.1).Nodup;refine CT.2 (ad.imp_of_mem λ{p q} hp hq hne e=>hne ?_);obtain⟨v,hv⟩:=a7 p hp;obtain⟨u,hu⟩:=a7 q hq;obtain⟨x,_,hx,_⟩:=Maps.keyOf_i64 underlying3 hv;obtain⟨y,_,hy,_⟩:=Maps.keyOf_i64 underlying3 hu;rw[hx,hy]at e ⊢;exact AV _ e
 have a8:∀x∈intKeys D,∃b:Nat,b<=1000000/\x=(b:Int):=λx hx=>by
  obtain⟨b,hb,e⟩:=hk _ ((a0 x).2 hx);exact⟨b,hb,by cases e;rfl⟩
 obtain⟨S,hS⟩:=Jq (ss.mergeSort (λx y=>decide (x<=y)));have a3:S.Perm (intKeys D):=by rw[hS];exact(CI _ _).trans a4
 have ae:S.Pairwise (λa b=>a<=b):=by
  have:=CE (le:=λx y:Int=>decide (x<=y)) (λa b c h1 h2=>by simp only[BJ]at *;omega) (λa b=>by simp;omega) ss
  rw[<-hS]at this;exact this.imp (λh=>by simpa using h)
 have a2:∀x∈S,∃b:Nat,b<=1000000/\x=(b:Int):=λx hx=>a8 x (a3.mem_iff.1 hx)
 have ac:S=(S.map Int.toNat).map (λk:Nat=>(k:Int)):=by
  rw[Ch]
  conv=>lhs;rw[<-List.map_id S]
  refine BU (λx hx => ?_);obtain⟨b,_,rfl⟩:=a2 x hx;simp
 refine⟨v,S.map Int.toNat,rfl,?_,?_,λb => ?_,?_,?_,hb⟩
 ·refine CT.2 (ae.imp_of_mem λ{x y} hx hy h => ?_);obtain⟨b,_,rfl⟩:=a2 x hx;obtain⟨c,_,rfl⟩:=a2 y hy;simpa using h
 ·refine CT.2 ((a3.symm.nodup aa).imp_of_mem λ{x y} hx hy h e=>h ?_);obtain⟨b,_,rfl⟩:=a2 x hx;obtain⟨c,_,rfl⟩:=a2 y hy
  have:b=c:=by simpa using e
  rw[this]
 ·constructor
  ·intro a5;obtain⟨x,hx,rfl⟩:=Am.1 a5;obtain⟨c,hc,rfl⟩:=a2 x hx;exact(hD c hc).2.1 ((a0 _).2 (a3.mem_iff.1 hx))
  intro a5
  have:=(a0 _).1 ((hD b (hN b a5)).2.2 a5)
  exact Am.2 ⟨(b:Int),a3.mem_iff.2 this,by simp⟩
 ·have h1:=hM.size_le;have h2:=a3.length_eq;rw[a6]at h1 h2;have h3:(intKeys (DataW.map es)).length=es.length:=by show(es.map _).length=_;simp
  rw[Bn,h2,h3];exact h1
 have hl:ss.length=(S.map Int.toNat).length:=by rw[Bn,hS];exact(List.length_mergeSort _).symm
 rw[<-hS,hl]at a1
 have:S.map encZ=(S.map Int.toNat).map (λk:Nat=>Value.int .i64 (k:Int)):=by
  conv=>lhs;rw[ac]
  rw[Ch];rfl
 rw[this]at a1;exact a1
end S1
namespace S1
open Go.RowKit Pk Go.Shelf Go.Sort Go.Maps
def numsOf(ls:List (Nat × Nat))(b:Nat):List Nat:=(ls.filter (λx=>x.1==b)).map (·.2)
theorem rS(ls:List (Nat × Nat))(x:Nat × Nat)(c:Nat):numsOf (ls++[x]) c=if c=x.1 then numsOf ls x.1++[x.2]else numsOf ls c:=by
 unfold numsOf;rw[Cu,Aq];by_cases h:c=x.1
 ·subst h;simp
 have:(x.1==c)=false:=by simpa using λe=>h e.symm
 simp[this,h]
theorem eX(ls:List (Nat × Nat)){i:Nat}(h:i<ls.length):(Ji ls)[i*2]? = some (.int .i64 (ls[i].1:Nat))/\(Ji ls)[i*2+1]? = some (.int .u32 (ls[i].2:Nat)):=by
 induction ls generalizing i with
 | nil=>simp at h
 | cons x l ih =>
   have e:Ji (x :: l)=.int .i64 x.1 :: .int .u32 x.2 :: Ji l:=by simp[Ji]
   rw[e];cases i with
   | zero=>exact⟨rfl,rfl⟩
   | succ i =>
     have:=ih (i:=i) (by simpa using h)
     rw[show(i+1)*2=i*2+1+1 by omega];simpa using this
theorem eO(ls:List (Nat × Nat))(b:Nat):(numsOf ls b).length<=ls.length:=by
 unfold numsOf;rw[Bn];exact DO _ _
def FX(b:Nat)(ys:List Nat):List (Nat × Nat):=ys.map (λy=>(b,y))
def Oy(w:D7)(ls:List (Nat × Nat))(e:Ending)(w':D7):Prop:=∃(v:Value) (ks:List Nat) (rs:Nat->List Nat),e=.returned v/\Asc ks/\ks.Nodup/\(∀b,b∈ks↔numsOf ls b≠[]) /\
 (∀b∈ks,∃ys,ys.Perm (numsOf ls b)/\Asc ys/\rs b=ys.drop (Eu ys)++ys.take (Eu ys))/\w'.ownsRow w.heap.size 90 2 v (ks.flatMap (λb=>FX b (rs b))).length (Ji (ks.flatMap (λb=>FX b (rs b))))/\Below w.heap.size w w'
def VQ(W:D7)(z g n b:Nat)(N:Nat->List Nat)(v:Value):Prop:=W.ownsRow z 88 1 v (N b).length ((N b).map E5)/\∀(w1:D7) (g' cap x:Nat),W.grownBy w1 v.ownBlock->w1.ownsRow z 88 1 (.slice (some ⟨g',0,none⟩) ((N b).length+1) cap) ((N b).length+1) ((N b).map E5++[.int .u32 x])->(∀y∈N b,y<=4294967295)->x<=4294967295->(N b).length<=n->(v.ownBlock=some g'\/g'=W.heap.size) ->
 ∃w2,(Instr.mapUpdate 200 (.map (some g)) (.int .i64 (b:Int)) (.slice (some ⟨g',0,none⟩) ((N b).length+1) cap)).run prog w1=.ok () w2/\KE w2 z g (n+1) (λc=>if c=b then N b++[x]else N c)/\w1.grownBy w2 (some g)
theorem YY{w W:D7}{z g n b:Nat}{N:Nat->List Nat}{v:Value}(hrow:w.ownsRow z 88 1 v (N b).length ((N b).map E5))(hb:Ol w z g n b N v)(hg:w.grownBy W none):VQ W z g n b N v:=by
 have a0:w.grownBy W v.ownBlock:=⟨hg.os,hg.tape,hg.output,hg.size,λk hk _=>hg.block k hk (by simp)⟩;refine⟨hrow.kept hg (by cases v.ownBlock<;>simp),λw1 g' a1 x h1 h2 h3 h4 h5 h6 => ?_⟩;refine hb w1 _ (N b++[x]) (a0.trans h1) (by simpa[E5]using h2) (by simp) (λy hy => ?_) (by simp;omega) ?_
 ·rcases An.1 hy with h | h
  ·exact h3 y h
  simp at h;omega
 rcases h6 with h | h
 ·exact Or.inl h.symm
 exact Or.inr ⟨g',rfl,by have:=hg.size;omega⟩
theorem py(w:D7)(g0 cap:Nat)(cur:Array Value)(ls:List (Nat × Nat))(hg0:w.heap[g0]? = some (.cells cur 90 (0,0)))(hcur:cur.toList.take (ls.length*2)=Ji ls)(hne:ls≠[])(hbig:ls.length<=100000)(hok:∀x∈ls,x.1<=1000000/\x.2<=4294967295) :
 Calls prog 84 #[.slice (some ⟨g0,0,none⟩) ls.length cap] w λe w'=>Oy w ls e w':=by
 obtain⟨i0,hi,bO,cz,ca⟩:=Ai Kt;obtain⟨j0,hj,cw,bN,cm⟩:=Ai N7;have cM:=lt_of_heap hg0;obtain⟨z0,hz⟩:=Jq w.heap.size;obtain⟨W1,ar⟩:=Jq (w.alloc (.map #[] 0));have s1:=L0 ar hz.symm;have b1:Below z0 w W1:=by rw[ar,hz];exact Nu
 have bH:=Za w;rw[<-ar,<-hz]at bH;have bB:Hid (KE W1 (z0+1) z0 0 (λ_=>[])):=Jy (by rw[ar,hz];exact KE.made w);obtain⟨nl,b6⟩:=Jq ls.length;have bK:nl<=100000:=by omega
 have aO:Hid (∀W,Below z0 w W->∀i,(h:i<ls.length)->W.cell? ⟨g0,i*2,none⟩=some (.int .i64 (ls[i].1:Nat))/\W.cell? ⟨g0,i*2+1,none⟩=some (.int .u32 (ls[i].2:Nat))):=Jy (λW hb i h=>by
  have hr:=(hb.zK g0).trans hg0;have e:∀k,k<ls.length*2->cur[k]? = (Ji ls)[k]? := λk hk=>by
   rw[<-hcur,Ak hk,Bv]
  rw[AG W g0 _ _ 90 (0,0) hr,AG W g0 _ _ 90 (0,0) hr,e _ (by omega),e _ (by omega)];exact eX ls h)
 have co:=Jy ar;have Hz:=Jy hz;have cx:=Jy s1;have bL:=Jy b1;have b5:=Jy b6;have aC:=Jy hok;rw[<-b6];clear hg0 ar hz s1 b1 b6 hcur hbig hok;go_enter func84,ntmps84
 go_wp2_with (first | (rw[<-co.o,<-Hz.o]) | fail)
 go_loopg [14] nl (λk bY wr=>∃(i n:Nat),bY=.int .i64 i/\i<=nl/\nl - i<=k/\n<=i/\Hid (KE wr (z0+1) z0 n (numsOf (ls.take i)))/\Hid (Below z0 w wr)/\z0+1<=wr.heap.size)
 case atStart=>exact⟨0,0,rfl,by omega,by omega,by omega,bB,bL,by have:=cx.o;omega⟩
 case round =>
  clear bH;obtain⟨i,n,rfl,cG,hk,cJ,HN,HB,cH⟩:=hrel;by_cases cF:i<nl
  ·have be:(i:Int)<(nl:Nat):=by omega
   have a8:i<ls.length:=by have:=b5.o;omega
   obtain⟨b,a7⟩:=Jq ((ls[i]).1);obtain⟨r,aJ⟩:=Jq ((ls[i]).2);have hb:b<=1000000:=by rw[a7];exact(aC.o _ (Bp a8)).1
   have hr:r<=4294967295:=by rw[aJ];exact(aC.o _ (Bp a8)).2
   obtain⟨c0,c1⟩:=aO.o wr HB.o i a8;rw[<-a7]at c0;rw[<-aJ]at c1;have HT:Hid (ls.take (i+1)=ls.take i++[(b,r)]):=Jy (by rw[Ah,AD a8,a7,aJ];rfl);clear a7 aJ;obtain⟨q,hq⟩:=Jq wr.heap.size;obtain⟨W2,af⟩:=Jq (wr.alloc (.cells #[.int .i64 b,.int .u32 r] 90));have s2:W2.heap.size=q+1:=by rw[af,hq];simp
   have b2:Below z0 w W2:=by rw[af];exact HB.o.zA
   have cv:wr.grownBy W2 none:=by rw[af];exact BV wr _ none
   have an:=K5 af hq.symm;have k0:=Zx 0 an;have k1:=Zx 1 an;have bs:Hid (KE W2.drew (z0+1) z0 n (numsOf (ls.take i))):=Jy (HN.o.below (B:=wr.heap.size) (by rw[af];exact(Nu).drew) (AB _));obtain⟨W3,ag⟩:=Jq ((W2.alloc (.cells #[.int .u32 r] 88)).drew);have s3:W3.heap.size=q+2:=by rw[ag];show(W2.alloc _).heap.size=_;simp[s2]
   have b3:Below z0 w W3:=by rw[ag];exact(b2.zA).drew
   have br:W3.heap[q+1]? = some (.cells #[.int .u32 r] 88 (0,0)):=by rw[ag,<-s2];exact AQ _ _
   have aL:∀k,k<q+1->W3.heap[k]? = W2.heap[k]? := λk hk=>by rw[ag];exact Lh
   have ah:W2.drew.grownBy W3 none:=by rw[ag];exact⟨rfl,rfl,rfl,by simp,λk hk _=>AO W2 _ k (by simpa using hk)⟩
   have m0:=Dv 0 ((aL _ (by omega)).trans an);have m1:=Dv 1 ((aL _ (by omega)).trans an);have cA:Hid (KE W3 (z0+1) z0 n (numsOf (ls.take i))):=Jy (bs.o.below (B:=W2.drew.heap.size) ⟨ah.os,ah.tape,ah.output,ah.size,λk hk=>ah.block k hk (by simp)⟩ (AB _));have b0:Hid (W3.heap[q]? = some (.cells #[.int .i64 b,.int .u32 r] 90 (0,0))):=Jy ((aL _ (by omega)).trans an);have bJ:=Jy af;have aN:=Jy ag;have bA:=Jy s2;have aM:=Jy s3;have bV:=Jy b3;have bQ:=Jy br;have bc:=Jy ah;have ci:=Jy hq;have bW:Hid (∀y∈numsOf (ls.take i) b,y<=4294967295):=Jy (λy hy=>by
    unfold numsOf at hy;obtain⟨x,hx,rfl⟩:=Am.1 hy;exact(aC.o x (List.mem_of_mem_take (BC.1 hx).1)).2)
   have cL:z0+1<=q:=by omega
   clear af ag s2 s3 b2 b3 an br aL ah cv hq;go_wp2_with (first | (rw[<-bJ.o,<-ci.o]) | fail);refine BE (S:=λV=>V.cell? ⟨q,0,none⟩=some (.int .i64 b)/\V.cell? ⟨q,1,none⟩=some (.int .u32 r)) (by kernel_rfl) ⟨k0,k1⟩ (λhHeld => ?_);refine tk 0 ⟨some 18,.move (.tmp 3),_,_,_,none⟩ (.map (some z0)) rfl (λw h=>by go_simp) hHeld ?_;simp only[zP,List.set];refine tk 1 ⟨some 19,.fieldAddr 90 (.tmp 5) 0,_,_,_,none⟩ (.pointer (some ⟨q,0,none⟩)) rfl (λw h=>by go_simp) hHeld ?_;simp only[zP,List.set];refine tk 2 ⟨some 20,.load 3 (.tmp 19),_,_,_,none⟩ (.int .i64 b) rfl (λw h=>by go_simp) hHeld ?_;simp only[zP,List.set]
   refine tk 3 ⟨some 21,.move (.tmp 3),_,_,_,none⟩ (.map (some z0)) rfl (λw h=>by go_simp) hHeld ?_;simp only[zP,List.set];refine tk 4 ⟨some 22,.fieldAddr 90 (.tmp 5) 0,_,_,_,none⟩ (.pointer (some ⟨q,0,none⟩)) rfl (λw h=>by go_simp) hHeld ?_;simp only[zP,List.set];refine tk 5 ⟨some 23,.load 3 (.tmp 22),_,_,_,none⟩ (.int .i64 b) rfl (λw h=>by go_simp) hHeld ?_;simp only[zP,List.set];refine tk 7 ⟨some 25,.fieldAddr 90 (.tmp 5) 1,_,_,_,none⟩ (.pointer (some ⟨q,1,none⟩)) rfl (λw h=>by go_simp) hHeld ?_;simp only[zP,List.set]
   refine tk 8 ⟨some 26,.load 88 (.tmp 25),_,_,_,none⟩ (.int .u32 r) rfl (λw h=>by go_simp) hHeld ?_;simp only[zP,List.set];refine wpAnyH_ready (rs:=[6,9]) (by kernel_rfl) (by simp) ?_;refine CK rfl (λK hK => ?_) (CK rfl (λK hK => ?_) DZ)
   case' refine_1 =>
    obtain⟨v,ao,a2,aF,a1⟩:=bs.o.look hb (by omega);have HL:Hid (VQ W3 (z0+1) z0 n b (numsOf (ls.take i)) v):=Jy (YY a2 a1 bc.o);go_simp;refine hK.o _ _ ⟨k0,k1⟩ (λhHeld => ?_);clear hK K ao a1 a2;refine rd 9 rfl (λK hK => ?_);go_simp;refine hK.o _ _ (by rw[<-aN.o];exact⟨m0,m1⟩) (λhHeld => ?_);rw[<-aN.o]at hHeld ⊢;simp only[bA.o];clear hK K
   case' refine_2 =>
    obtain⟨v,ao,a2,aF,a1⟩:=cA.o.look hb (by omega);have HL:Hid (VQ W3 (z0+1) z0 n b (numsOf (ls.take i)) v):=Jy (YY a2 a1 ⟨rfl,rfl,rfl,AB _,λ_ _ _=>rfl⟩);go_simp;refine hK.o _ _ (by rw[<-aN.o];exact⟨m0,m1⟩) (λhHeld => ?_);rw[<-aN.o]at hHeld ⊢;simp only[bA.o];clear hK K;refine rd 6 rfl (λK hK => ?_);go_simp;refine hK.o _ _ ⟨m0,m1⟩ (λhHeld => ?_);clear hK K ao a1 a2
   all_goals
    refine rd 10 rfl (λK hK => ?_);refine step_append_lies _ rfl _ _ 201 rfl (z0+1) 88 i0 (.int .u32 0) 1 4 underlying201 hi bO cz ca rfl (by decide) v _ _ rfl HL.o.1 ⟨q+1,0,none⟩ 1 1 [.int .u32 r] rfl rfl ?q1 ?q2 (by omega) (by unfold maxLen;omega) (by omega) (by rw[aM.o];omega) _ rfl ?_
    case q1=>exact World.news_of_block (cs:=#[.int .u32 r]) bQ.o
    case q2=>simp[Value.oneCell']
    intro g4 am w4 ay aK aP bP;obtain⟨w5,hu,o5,aG⟩:=HL.o.2 w4 g4 am r aK ay bW.o hr aF (aP.imp id (λh=>h));have bg:∀k,v.ownBlock=some k->z0+1<=k/\k≠q:=λk e=>⟨(HL.o.1.lt k e).1,λe'=>by
     rcases HL.o.1.2 with⟨e2,_⟩ | ⟨g',cap',cur',e2,_,e3,_⟩
     ·rw[e2]at e;cases e
     rw[e2]at e;cases e;dsimp only at e';rw[e',b0.o]at e3;cases e3⟩
    have bh:w4.heap[q]? = W3.heap[q]? := aK.block q (by rw[aM.o];omega) (λe=>(bg q e.symm).2 rfl);have n0:w4.cell? ⟨q,0,none⟩=some (.int .i64 b):=(AJ bh).trans m0;have n1:w4.cell? ⟨q,1,none⟩=some (.int .u32 r):=(AJ bh).trans m1;refine hK.o _ _ ⟨n0,n1⟩ (λhHeld => ?_);clear hK K;simp only[Act.put];refine rd 11 rfl (λK hK => ?_);go_simp;have s4:=aK.size;have cN:q+2<=w4.heap.size:=by rw[aM.o]at s4;exact s4
    have p0:w5.cell? ⟨q,0,none⟩=some (.int .i64 b):=(AJ (aG.block q (by omega) (λe=>by simp at e;omega))).trans n0;have p1:w5.cell? ⟨q,1,none⟩=some (.int .u32 r):=(AJ (aG.block q (by omega) (λe=>by simp at e;omega))).trans n1;have cD:Hid (Below z0 w w5):=Jy ((bV.o.grown aK (by rw[aM.o];omega) (λk e=>by have:=(bg k e).1;omega)).grown aG (by omega) (λk e=>by cases e;exact AB _));have bM:Hid (KE w5 (z0+1) z0 (n+1) (numsOf (ls.take (i+1)))):=Jy (by
     rw[HT.o];have e:numsOf (ls.take i++[(b,r)])=λc=>if c=b then numsOf (ls.take i) b++[r]else numsOf (ls.take i) c:=by funext c;exact rS _ _ c
     rw[e];exact o5)
    have cj:z0+1<=w5.heap.size:=by have:=aG.size;omega
    refine hK.o _ _ ⟨p0,p1⟩ (λhHeld => ?_);clear hK K hHeld;refine BT (by kernel_rfl) ?_ _;go_wp2_with fail;go_roundg (nl - (i+1))
    case measure=>omega
    case rel=>exact⟨i+1,n+1,by go_num,by omega,by omega,by omega,bM,cD,cj⟩
  have be:¬(i:Int)<(nl:Nat):=by omega
  have bq:Hid (KE wr (z0+1) z0 n (numsOf ls)):=Jy (by have:=HN.o;rw[AT (by have:=b5.o;omega)]at this;exact this);clear HN bB;go_wp2_with fail;refine(eS (some z0) wr).mono ?_;rintro e w6 ⟨rfl,aD⟩;have c9:=L0 aD;have bf:=KD aD;have bF:w6.cell? ⟨wr.heap.size,0,none⟩=some (.map (some z0)):=by rw[aD];simp
  have aU:Hid (KE w6 (z0+1) z0 n (numsOf ls)):=Jy (bq.o.below bf (AB _));have bb:∀b,numsOf ls b≠[]->b<=1000000:=λb h=>by
   obtain⟨x,hx⟩:=Cd _ h;unfold numsOf at hx;obtain⟨y,hy,rfl⟩:=Am.1 hx
   have:=BC.1 hy
   have e:y.1=b:=by simpa using this.2
   rw[<-e];exact(aC.o y this.1).1
  have B6:=Jy (aU.o.keys (Bm:=wr.heap.size) bb (by omega) (by omega) bF);have bI:Hid (Below z0 w w6):=Jy (HB.o.trans (bf.zM));obtain⟨z5,ai⟩:=Jq wr.heap.size;rw[<-ai]at B6;simp only[<-ai];have cc:=Jy bb;have bu:Hid (z0+1<=w6.heap.size):=Jy (by omega);clear bf bF aD c9 ai bb;go_wp2_with fail;refine B6.o.mono ?_;rintro e w7 ⟨v7,ks,rfl,az,bp,ae,cI,ac,aI⟩;have bn:ks≠[]:=λe=>by
   obtain⟨x,hx⟩:=Cd _ hne
   have:x.1∈ks:=(ae x.1).2 (λe=>by
    have:x.2∈numsOf ls x.1:=Am.2 ⟨x,BC.2 ⟨hx,by simp⟩,rfl⟩
    rw[e]at this;cases this)
   rw[e]at this;cases this
  rcases ac.2 with⟨_,h0⟩ | ⟨g7,cap7,cur7,rfl,q1,q2,q3,q4,q5,q6⟩
  ·exact absurd (BN.1 h0) bn
  rw[DT]at q6;obtain⟨nk,I0⟩:=Jq ks.length;obtain⟨z7,aS⟩:=Jq w7.heap.size;have cb:g7<z7:=by rw[aS];exact lt_of_heap q2
  have cu:Hid (Below z0 w w7):=Jy (bI.o.trans (aI.mono (by have:=bu.o;omega)));have cC:Hid (KE w7 (z0+1) z0 n (numsOf ls)):=Jy (aU.o.below aI (AB _));have cq:z0+1<=z7:=by have:=bu.o;have:=aI.size;omega
  have cg:Hid (∀W,Below z7 w7 W->∀j,(h:j<ks.length)->W.cell? ⟨g7,j,none⟩=some (.int .i64 (ks[j]:Nat))):=Jy (λW hb j h=>by
   rw[AG W g7 j _ 3 (0,0) ((hb.block g7 cb).trans q2),<-Bv]
   have:(cur7.toList.take ks.length)[j]? = (ks.map (λk:Nat=>Value.int .i64 (k:Int)))[j]? := by rw[q6]
   rw[Ak h]at this;rw[this];simp[h])
  have cB:nk<=100000:=by omega
  have bE:=Jy bp;have aw:=Jy ae;have bC:=Jy I0;have aW:=Jy aS;have aZ:=Jy az;rw[<-I0];clear ac aI q1 q2 q3 q4 q5 q6 B6 bp ae I0 aS az bn aU bI bq HB;go_wp2_with fail
  go_loopg [6,34] nk (λk s6 bZ wx=>∃(j:Nat) (rs:Nat->List Nat) (v:Value),v=s6/\bZ=.int .i64 j/\j<=nk/\nk - j<=k/\Hid (∀b∈ks.take j,∃ys,ys.Perm (numsOf ls b)/\Asc ys/\rs b=ys.drop (Eu ys)++ys.take (Eu ys)) /\
   Hid (wx.ownsRow z7 90 2 v ((ks.take j).flatMap (λb=>FX b (rs b))).length (Ji ((ks.take j).flatMap (λb=>FX b (rs b)))))/\Hid (Below z7 w7 wx)/\((ks.take j).flatMap (λb=>FX b (rs b))).length<=j*100000)
  case atStart=>exact⟨0,λ_=>[],_,rfl,rfl,by omega,by omega,Jy (by simp),Jy (by simpa[Ji]using AZ w7 z7 90 2),Jy (AM _ _),by simp⟩
  obtain⟨j,rs,v6,rfl,rfl,cK,hk,HR,HO,aB,cy⟩:=hrel;by_cases bT:j<nk
  ·have au:(j:Int)<(nk:Nat):=by omega
   have aE:j<ks.length:=by have:=bC.o;omega
   obtain⟨b,a7⟩:=Jq (ks[j]);have ck:=cg.o wr aB.o j aE;rw[<-a7]at ck;have GW:b∈ks:=by rw[a7];exact Bp aE
   have a5:=(aw.o b).1 GW;have hb:b<=1000000:=cc.o b a5;have c8:b∉ks.take j:=λh=>by
    rw[List.mem_take_iff_getElem]at h;obtain⟨i',cP,e⟩:=h;exact CL.1 bE.o i' j (by omega) aE (by omega) (e.trans a7)
   have bm:Hid (ks.take (j+1)=ks.take j++[b]):=Jy (by rw[Ah,AD aE,a7];rfl);have bj:=cC.o.below aB.o (by rw[aW.o];exact AB _);obtain⟨vb,ao,a2,aF,-⟩:=bj.look hb (by omega);rcases a2.2 with⟨_,h0⟩ | ⟨g4,am,cur4,rfl,p1,p2,p3,p4,p5,p6⟩
   ·exact absurd (BN.1 h0) a5
   rw[DT]at p6;have bl:(numsOf ls b).length<=100000:=by have:=eO ls b;have:=b5.o;omega
   have A7:=Jy (Pe wr g4 am cur4 (numsOf ls b) p2 p6 a5 bl (λy hy=>by
    unfold numsOf at hy;obtain⟨x,hx,rfl⟩:=Am.1 hy;exact(aC.o x (BC.1 hx).1).2))
   obtain⟨m,hm⟩:=Jq ((numsOf ls b).length);rw[<-hm]at ao A7;have Hm:Hid (m=(numsOf ls b).length/\m<=100000/\0<m):=Jy ⟨hm,by omega,by rw[hm];exact Bt.2 a5⟩;have aY:z7<=wr.heap.size:=by rw[aW.o];exact aB.o.size
   obtain⟨a3,aj⟩:=Jq ((ks.take j).flatMap (λb=>FX b (rs b)));rw[<-aj]at HO cy;have aR:=Jy aj;clear a2 p1 p2 p3 p4 p5 p6 hm a7 aF bl aj bj a5;go_wp2_with fail;refine A7.o.mono ?_;rintro e w8 ⟨v8,ys,rfl,a4,ad,a6,aV⟩;obtain⟨a0,a9⟩:=Jq (ys.drop (Eu ys)++ys.take (Eu ys));rw[<-a9]at a6;have b7:a0.length=ys.length:=by rw[a9];simp;omega
   have bU:ys.length=m:=by rw[a4.length_eq,Hm.o.1]
   have cO:=Hm.o.2;rcases a6.2 with⟨_,h0⟩ | ⟨g8,cap8,cur8,rfl,q1,q2,q3,q4,q5,q6⟩
   ·omega
   rw[DT]at q6;have bX:Hid (∀W:D7,W.heap[g8]? = some (.cells cur8 88 (0,0))->∀t,t<m->W.cell? ⟨g8,t,none⟩=some (.int .u32 (a0[t]! : Nat))):=Jy (λW hb t h=>by
    rw[AG W g8 t _ 88 (0,0) hb,<-Bv]
    have:(cur8.toList.take ys.length)[t]? = (a0.map E5)[t]? := by rw[q6]
    rw[Ak (by omega)]at this;rw[this,Bx a0 t (by omega)];simp[show t<a0.length by omega,E5])
   have bD:Hid (Below z7 w7 w8):=Jy (aB.o.trans (aV.mono aY));have bi:Hid (w8.ownsRow z7 90 2 v6 (a3++FX b (a0.take 0)).length (Ji (a3++FX b (a0.take 0)))):=Jy (by
    have:=HO.o.kept (below_grown aV (AB _)) (by cases v6.ownBlock<;>simp)
    simpa[FX]using this)
   have bx:=Jy q2;have HY:Hid (∃ys,ys.Perm (numsOf ls b)/\Asc ys/\a0=ys.drop (Eu ys)++ys.take (Eu ys)):=Jy ⟨ys,a4,ad,a9⟩;rw[bU]at b7 ⊢;have aT:=Jy b7;clear a6 aV q1 q2 q3 q4 q5 q6 ao ck A7 a4 ad a9 b7 HO;go_wp2_with fail
   go_loopg [6,43] m (λk s6 bS wx=>∃(t:Nat) (v:Value),v=s6/\bS=.int .i64 t/\t<=m/\m - t<=k/\Hid (wx.ownsRow z7 90 2 v (a3++FX b (a0.take t)).length (Ji (a3++FX b (a0.take t))))/\Hid (Below z7 w7 wx)/\Hid (wx.heap[g8]? = some (.cells cur8 88 (0,0))))
   case atStart=>exact⟨0,v6,rfl,rfl,by omega,by omega,bi,bD,bx⟩
   clear bi bD bx;obtain⟨t,v,rfl,rfl,cE,cQ,ax,b8,aH⟩:=hrel;by_cases b4:t<m
   ·have av:(t:Int)<(m:Nat):=by omega
    have ct:=bX.o wr aH.o t b4;obtain⟨y,hy⟩:∃y,y=a0[t]! := ⟨_,rfl⟩;rw[<-hy]at ct;have bG:Hid (a3++FX b (a0.take (t+1))=(a3++FX b (a0.take t))++[(b,y)]):=Jy (by
     have:=aT.o
     have h:t<a0.length:=by omega
     have e:a0.take (t+1)=a0.take t++[y]:=by rw[Ah,AD h,hy,Bx a0 t h];rfl
     rw[e];simp[FX])
    obtain⟨ot,b9⟩:=Jq (a3++FX b (a0.take t));rw[<-b9]at ax bG;have ce:ot.length<=100000*100000+100000:=by
     have:(FX b (a0.take t)).length<=t:=by simp[FX];omega
     have h2:j*100000<=100000*100000:=Ba _ (by omega);rw[b9,AN];omega
    have aX:z7<=wr.heap.size:=by rw[aW.o];exact b8.o.size
    clear hy b9;go_wp2_with (at_builtin;refine Ar _ rfl _ _ 144 rfl z7 90 j0 (.agg #[.int .i64 0,.int .u32 0]) 2 16 underlying144 hj cw bN cm rfl (by decide) _ _ _ rfl (ax.o.alloc _) ⟨wr.heap.size,0,none⟩ 1 1 [.int .i64 b,.int .u32 y] rfl rfl ?q1 ?q2 ?q3 ?q4 ?q5 ?_)
    case q1=>exact World.news_of_block (cs:=#[.int .i64 b,.int .u32 y]) (AQ _ _)
    case q2=>simp[Value.oneCell']
    case q3=>unfold maxLen;omega
    case q4=>omega
    case q5=>simp;omega
    intro v9 w9 aa aQ aA;have bR:Hid (Below z7 w7 w9):=Jy ((b8.o.alloc aX _).grown aQ (by simp;omega) (λk e=>(ax.o.lt k e).1));have bz:Hid (w9.ownsRow z7 90 2 v9 (ot++[(b,y)]).length (Ji (ot++[(b,y)]))):=Jy (by rw[Y8];simpa using aa);have cf:Hid (w9.heap[g8]? = some (.cells cur8 88 (0,0))):=Jy (by
     have h8:=lt_of_heap aH.o;refine(aQ.block g8 (by simp;omega) (λe => ?_)).trans ((AO wr _ g8 h8).trans aH.o);rcases ax.o.2 with⟨e2,_⟩ | ⟨g',cap',cur',e2,_,e3,_⟩
     ·rw[e2]at e;cases e
     rw[e2]at e;cases e;rw[aH.o]at e3;cases e3)
    rw[<-bG.o]at bz;clear aa aQ aA;go_wp2_with fail;go_roundg (m - (t+1))
    case measure=>omega
    case rel=>exact⟨t+1,v9,rfl,by go_num,by omega,by omega,bz,bR,cf⟩
   have av:¬(t:Int)<(m:Nat):=by omega
   have cl:Hid (wr.ownsRow z7 90 2 v (a3++FX b a0).length (Ji (a3++FX b a0))):=Jy (by
    have:=ax.o
    rw[AT (by have:=aT.o;omega)]at this;exact this)
   go_wp2_with fail;go_roundg (nk - (j+1))
   case measure=>omega
   have e:(ks.take (j+1)).flatMap (λc=>FX c (if c=b then a0 else rs c))=a3++FX b a0:=by
    rw[bm.o,List.flatMap_append,aR.o]
    congr 1
    ·rw[List.flatMap_def,List.flatMap_def]
     congr 1
     exact BU (λc hc=>by rw[AC (λe=>c8 (by rw[<-e];exact hc))])
    simp
   refine⟨j+1,λc=>if c=b then a0 else rs c,v,rfl,by go_num,by omega,by omega,Jy (λc hc => ?_),Jy (by rw[e];exact cl.o),b8,?_⟩
   ·by_cases Fg:c=b
    ·subst Fg;dsimp only;rw[AE rfl];exact HY.o
    rw[bm.o]at hc;dsimp only;rw[AC Fg];rcases An.1 hc with h | h
    ·exact HR.o c h
    simp at h;exact absurd h Fg
   rw[e,AN]
   have:(FX b a0).length=m:=by simp[FX,aT.o]
   have h2:(j+1)*100000=j*100000+100000:=by omega
   omega
  have au:¬(j:Int)<(nk:Nat):=by omega
  have HE:Hid (ks.take j=ks):=Jy (AT (by have:=bC.o;omega));rw[HE.o]at HR HO;go_wp2_with fail;go_ret
  unfold Oy;rw[<-Hz.o];refine⟨v6,ks,rs,rfl,aZ.o,bE.o,aw.o,HR.o,?_,cu.o.trans (aB.o.zM)⟩;exact ownsRow_base_a HO.o (by omega)
end S1
namespace S1
open Go.RowKit Pk Go.Shelf
def bw(ls:List (Nat × Nat)):List (Nat × (Nat × Nat)):=(List.range ls.length).map (λk=>(ls.length - 1 - k,ls[ls.length - 1 - k]!))
theorem TT(ls:List (Nat × Nat)):(bw ls).length=ls.length:=by simp[bw]
theorem Zc(ls:List (Nat × Nat)){k:Nat}(h:k<(bw ls).length):(bw ls)[k]=(ls.length - 1 - k,ls[ls.length - 1 - k]!):=by simp[bw]
theorem YQ(ls:List (Nat × Nat)):(bw ls).map (·.2)=ls.reverse:=by
 apply List.ext_getElem
 ·simp[bw]
 intro k h1 h2;simp[bw]at h1;rw[List.getElem_map,Zc,List.getElem_reverse];simp only;rw[Bx ls _ (by omega)]
theorem kP(n:Nat)(hn:1<=n)(w:D7)(B g cap:Nat)(ls:List (Nat × Nat))(n₀:Nat)(S:Nat->Prop)(hB:B<n₀)(hg:g<n₀)(hSB:S B)(hSg:S g)(hlen:ls.length<=100000*100000)(hb:w.cell? ⟨B,0,none⟩=some (.slice (some ⟨g,0,none⟩) ls.length cap))(cur:Array Value)(hrow:w.heap[g]? = some (.cells cur 90 (0,0)))(hc:cur.toList.take (ls.length*2)=Ji ls) :
 Fy Fence.wide n prog 138 #[.pointer (some ⟨B,0,none⟩)] Le (bw ls) n₀ S w:=by
 intro l J W hW hY h0;have a3:W.cell? ⟨B,0,none⟩=some (.slice (some ⟨g,0,none⟩) ls.length cap):=by rw[hW.cell (p:=⟨B,0,none⟩) hB];exact hb
 have a0:W.heap[g]? = some (.cells cur 90 (0,0)):=(hW.block g hg).trans hrow;have a2:Hid (∀V:D7,V.heap[g]? = some (.cells cur 90 (0,0))->∀i,(h:i<ls.length)->V.cell? ⟨g,i*2,none⟩=some (.int .i64 (ls[i].1:Nat))/\V.cell? ⟨g,i*2+1,none⟩=some (.int .u32 (ls[i].2:Nat))):=Jy (λV hr i h=>by
  have e:∀k,k<ls.length*2->cur[k]? = (Ji ls)[k]? := λk hk=>by
   rw[<-hc,Ak hk,Bv]
  rw[AG V g _ _ 90 (0,0) hr,AG V g _ _ 90 (0,0) hr,e _ (by omega),e _ (by omega)];exact eX ls h)
 obtain⟨m,hm⟩:=Jq ls.length;have Hm:=Jy hm;have aj:m<=100000*100000:=by omega
 rw[<-hm]at a3;have ag:=Jy a0;have aa:Hid (∀V:D7,IW S W V->V.cell? ⟨B,0,none⟩=some (.slice (some ⟨g,0,none⟩) m cap)):=Jy (λV hV=>by rw[AJ (hV B hSB)];exact a3);clear hb hrow hc hm a0;refine Ck func138 rfl trivial ?_ rfl;simp only[ntmps138,BK,AY,B7,Nat.reduceAdd,Nat.reduceSub,BZ,BY,Bj,B9,BH,BR];gi_wp2
 gi_loopw [3] (λi wr=>∃p:Nat,p<=m/\i=.int .i64 ((p:Nat) - 1)/\J ((bw ls).take (m - p)) wr/\Hid (IW S W wr)) (λi _=>(intOf i+1).toNat)
 case atStart=>exact⟨m,AB _,rfl,by simpa using h0,Jy (λ_ _=>rfl)⟩
 case round =>
  clear a3;obtain⟨p1,ai,rfl,hJ,HK⟩:=hrel;by_cases ah:0<p1
  ·obtain⟨p,hp⟩:∃p,p1=p+1:=⟨p1 - 1,by omega⟩;subst hp;have ep:(((p+1:Nat):Int) - 1)=(p:Nat):=by omega
   rw[ep];have a5:p<ls.length:=by have:=Hm.o;omega
   obtain⟨c0,c1⟩:=a2.o wr ((HK.o g hSg).trans ag.o) p a5;obtain⟨b,hb⟩:=Jq ((ls[p]).1);obtain⟨r,hr⟩:=Jq ((ls[p]).2);have ac:=aa.o wr HK.o;have a4:m - (p+1)<(bw ls).length:=by have:=Hm.o;rw[TT];omega
   have a1:(bw ls)[m - (p+1)]=(p,(b,r)):=by
    have hm:=Hm.o;rw[Zc];have e:ls.length - 1 - (m - (p+1))=p:=by omega
    rw[e,Bx ls p a5,hb,hr]
   obtain⟨fn,tmps,assign,ae,a6,hR⟩:=hY ((bw ls).take (m - (p+1))) (p,(b,r)) wr hJ (by rw[<-a1,DF a4];exact List.take_prefix _ _);unfold Le at a6;have HR:=Jy hR;have HT:Hid ((bw ls).take (m - p)=(bw ls).take (m - (p+1))++[(p,(b,r))]):=Jy (by
    rw[<-a1,DF a4]
    congr 1
    omega)
   rw[<-hb]at c0;rw[<-hr]at c1;have i1:(p:Int)<(m:Nat):=by omega
   have i2:(0:Int)<=(p:Nat):=by omega
   clear hR hJ a1 hb hr ep;gi_wp2_with gi_in;refine HR.o.mono ?_;rintro e W4 ⟨rfl,a7,a8⟩;have a9:=Jy (HK.o.trans a8);have ad:=Jy a7;clear a7 a8 HR a6 c0 c1 ac;gi_wp2;go_roundw
   case rel=>exact⟨p,by omega,rfl,by rw[HT.o];exact ad.o,a9⟩
   case measure=>simp[intOf]
  have af:p1=0:=by omega
  subst af;have HJ:=Jy hJ;clear hJ;gi_wp2;go_end0
  exact⟨⟨_,rfl⟩,by
   have:=HJ.o
   rw[Cq,AT (by rw[TT,<-Hm.o];exact AB _)]at this;exact this⟩
end S1
end Go.Proofs.YtodmdkhdbfbfgaaGreatDoor
namespace Go.Proofs
open Go.Shelf
def JN:Go.Shelf.Ren:=⟨fun | 169=>137 | n=>n,fun | 70=>191 | 9=>9 | 0=>0 | 72=>193 | 37=>111 | 127=>242 | 3=>3 | 5=>5 | n=>n,fun | n=>n⟩
theorem OI:Go.Proofs.Lays.n169 prog JN:={
 mixed:=by kernel_rfl
 f169:=func137.trans (AV some (by kernel_rfl))
 t0:=underlying0
 a0:=isAgg0
 z0:=sizeOf0
 v0:=zeroValue0
 t3:=underlying3
 a3:=isAgg3
 z3:=sizeOf3
 v3:=zeroValue3
 t9:=underlying9
 a9:=isAgg9
 z9:=sizeOf9
 v9:=zeroValue9
 t37:=underlying111
 a37:=isAgg111
 z37:=sizeOf111
 v37:=zeroValue111
 t70:=underlying191
 a70:=isAgg191
 z70:=sizeOf191
 v70:=zeroValue191
 t72:=underlying193
 a72:=isAgg193
 z72:=sizeOf193
 v72:=zeroValue193
 t127:=underlying242
 a127:=isAgg242
 z127:=sizeOf242
 v127:=zeroValue242 }
theorem Ik:Builder.Extra prog JN:={
 sizeBuilder:=by kernel_rfl
 liesBuilder:=by kernel_rfl
 t5:=underlying5
 a5:=isAgg5
 z5:=sizeOf5
 v5:=zeroValue5
 infoByte:=by kernel_rfl
 cellsByte:=by kernel_rfl
 sizeByte:=by kernel_rfl
 neB5:=by decide }
open Go.RowKit in
theorem Builder_String_any_k(B b:Nat)(l:D8)(w:D7)(h:Lib.IsBuilderF 193 5 B b (Lib.byteCells l) w)(hBw:B<=w.heap.size) :
 Calls prog 137 #[.pointer (some ⟨b,0,none⟩)] w λe w'=>e=.returned (.string ⟨l.toArray⟩)/\(Lib.IsBuilderF 193 5 B b (Lib.byteCells l) w'/\Below B w w'/\Lib.OthersKept 5 (some b) w w'):=Any.Builder_String_any_k OI Ik B b l w h hBw
end Go.Proofs
namespace Go.Proofs.YtodmdkhdbfbfgaaGreatDoor
open Go.RowKit Go.Nt
theorem Om:(prog.info? 193).map (·.size)=some 2:=by kernel_rfl
theorem RJ:liesAt prog prog.depth 193 (2/prog.cellsOf 193) 0 193 1=true:=by kernel_rfl
theorem lg(b:Nat)(w:D7)(h0:w.cell? ⟨b,0,none⟩=some (.pointer none))(hf:w.frozen? ⟨b,0,none⟩=false)(hsh:w.shape? b=some (193,2)) :
 Calls prog 199 #[.pointer (some ⟨b,0,none⟩)] w λe w'=>e=.returned (.tuple #[])/\w'=w.setCell ⟨b,0,none⟩ (.pointer (some ⟨b,0,none⟩)):=by
 obtain⟨j,hj,a0⟩:=Option.map_eq_some_iff.1 Om;have k1:=Lib.run_to_unsafe (P:=prog) w ⟨b,0,none⟩ underlying191 underlying285 hj (by rw[a0];decide) hsh (Nat.zero_lt_succ 1);have k2:=Lib.run_from_unsafe (P:=prog) w ⟨b,0,none⟩ underlying285 underlying191 hj hsh RJ;clear hj a0;go_enter func199,ntmps199
 go_wp2;rw[run_callFunc_extern func251 (by kernel_rfl) (by kernel_rfl) (by kernel_rfl) (e:=Extern.AbiNoEscape.same) (by kernel_rfl)];rw[Lib.run_noEscape];simp only[Result.andThen];rw[Oper.upon_value];go_wp2;go_end0
 exact⟨rfl,rfl⟩
theorem rG(b:Nat)(w:D7)(h0:w.cell? ⟨b,0,none⟩=some (.pointer (some ⟨b,0,none⟩))) :
 Calls prog 199 #[.pointer (some ⟨b,0,none⟩)] w λe w'=>e=.returned (.tuple #[])/\w'=w:=by
 obtain⟨j,hj,a0⟩:=Option.map_eq_some_iff.1 Om;have k1:=Lib.run_neq_ptr_same (P:=prog) w ⟨b,0,none⟩ underlying191 hj;clear hj a0;go_enter func199,ntmps199
 go_wp2;go_end0
 exact⟨rfl,rfl⟩
def JV(w:D7)(b:Nat)(l:Bs):Prop:=∃p v,w.heap[b]? = some (.cells #[p,v] 193 (0,0))/\(p=.pointer none\/p=.pointer (some ⟨b,0,none⟩))/\Bytes w (b+1) v l
theorem JV.iH{w:D7}{b:Nat}{l:Bs}(h:JV w b l):Lib.IsBuilderF 193 5 b b (Lib.byteCells l) w:=by
 obtain⟨p,v,hb,hp,hv⟩:=h;have a0:w.ownsRow b 5 1 v (bv l).length (bv l):=by
  have h1:=hv;unfold Bytes at h1;rw[Ov];refine⟨h1.1,?_⟩;rcases h1.2 with h2 | ⟨g,cap,cur,e,hg,h3⟩
  ·exact .inl h2
  exact .inr ⟨g,cap,cur,e,by omega,h3⟩
 have a1:v.ownBlock≠some b:=by
  intro e
  have:=(DV hv b e).1
  omega
 have hB:Lib.byteCells l=bv l:=rfl;rw[hB];rcases hp with rfl | rfl
 ·exact .inl ⟨AB _,v,hb,World.ownsRowF_of a0,a1⟩
 exact .inr ⟨AB _,v,hb,World.ownsRowF_of a0,a1⟩
theorem JV.Dn{w w':D7}{b:Nat}{l:Bs}(h:JV w b l)(hk:Gc 90 w w'\/∀k,k<w.heap.size->w'.heap[k]? = w.heap[k]?):JV w' b l:=by
 obtain⟨p,v,hb,hp,hv⟩:=h;rcases hk with hk | hk
 ·refine⟨p,v,hk.cells hb (by decide),hp,hv.1,?_⟩;rcases hv.2 with h2 | ⟨g,cap,cur,e,hg,h3,h4⟩
  ·exact .inl h2
  exact .inr ⟨g,cap,cur,e,hg,hk.cells h3 (by decide),h4⟩
 refine⟨p,v,(hk b (lt_of_heap hb)).trans hb,hp,hv.1,?_⟩;rcases hv.2 with h2 | ⟨g,cap,cur,e,hg,h3,h4⟩
 ·exact .inl h2
 exact .inr ⟨g,cap,cur,e,hg,(hk g (lt_of_heap h3)).trans h3,h4⟩
def Kn(b:Nat)(w w':D7):Prop:=w'.os=w.os/\w'.tape=w.tape/\w'.output=w.output/\w.heap.size<=w'.heap.size/\∀(k:Nat) (o:Obj),w.heap[k]? = some o->k≠b->Na 5 o=false->w'.heap[k]? = some o
theorem tG(b:Nat)(l:Bs)(s:Bs)(w:D7)(h:JV w b l)(hl:l.length<=100000000)(hs:s.length<=100000000) :
 Calls prog 136 #[.pointer (some ⟨b,0,none⟩),.string (D9 s)] w λe w'=>(∃v,e=.returned v)/\JV w' b (l++s)/\Kn b w w'/\Below b w w':=by
 obtain⟨i0,hi,au,aw,ar⟩:=Ai Fz;obtain⟨p,v,hb,hp,hv⟩:=h;have aB:=lt_of_heap hb;obtain⟨X,hX⟩:=Jq (D9 s);have Sx:X.size=s.length:=by rw[hX,Dd]
 rw[<-hX];have HX:=Jy hX;have HS:=Jy Sx;have aC:X.size<=100000000:=by omega
 have A:Hid (Calls prog 199 #[.pointer (some ⟨b,0,none⟩)] w λe w'=>e=.returned (.tuple #[])/\w'.heap[b]? = some (.cells #[.pointer (some ⟨b,0,none⟩),v] 193 (0,0))/\(∀k,k≠b->w'.heap[k]? = w.heap[k]?)/\w'.heap.size=w.heap.size/\w'.os=w.os/\w'.tape=w.tape/\w'.output=w.output):=by
  refine Jy ?_;rcases hp with rfl | rfl
  ·refine(lg b w (by rw[AG w b 0 _ 193 (0,0) hb];rfl) (Al w b 0 _ 193 hb) (by simp[World.shape?,hb])).mono ?_;rintro e w' ⟨rfl,rfl⟩;exact⟨rfl,AK w b 0 _ 193 _ hb,λk hk=>AH w ⟨b,0,none⟩ _ k hk,by simp,rfl,rfl,rfl⟩
  refine(rG b w (by rw[AG w b 0 _ 193 (0,0) hb];rfl)).mono ?_;rintro e w' ⟨rfl,rfl⟩;exact⟨rfl,hb,λ_ _=>rfl,rfl,rfl,rfl,rfl⟩
 obtain⟨n,hn⟩:=Jq l.length;have Hn:=Jy hn;have Hv:=Jy hv;have aA:n<=100000000:=by omega
 clear hb hp hv hX Sx hn;go_enter func136,ntmps136
 go_wp2_with fail;refine A.o.mono ?_;rintro e W1 ⟨rfl,ae,a4,ai,an,ao,aj⟩;have ac:W1.ownsRow (b+1) 5 1 v n (bv l):=by
  have h1:=Hv.o;unfold Bytes at h1;rw[<-Hn.o]at h1;refine⟨h1.1,?_⟩;rcases h1.2 with h2 | ⟨g,cap,cur,e,hg,h3,h4⟩
  ·exact .inl h2
  exact .inr ⟨g,cap,cur,e,hg,(a4 g (by omega)).trans h3,h4⟩
 have c1:W1.cell? ⟨b,1,none⟩=some v:=by rw[AG W1 b 1 _ 193 (0,0) ae];rfl
 have Ho:=Jy ac;have ad:=Jy ae;obtain⟨a9,c9,rfl⟩:=Bytes.slice (w:=W1) (B:=b+1) (v:=v) (l:=l) (by unfold Bytes;rw[<-Hn.o];exact ac);rw[<-Hn.o]at Ho c1 ad;have ah:=Jy (And.intro a4 (And.intro ai (And.intro an (And.intro ao aj))));clear A a4 ae ac ai an ao aj;go_wp2_with (at_builtin;refine CW _ rfl (.tmp 12) (.tmp 13) 111 9 rfl (b+1) 5 i0 underlying111 underlying9 hi au aw ar _ _ _ rfl Ho.o X rfl ?c3 ?c4 ?c5 ?_)
 case c3=>unfold maxLen;omega
 case c4=>omega
 case c5=>have:=ah.o.2.1;omega
 intro v2 W2 a1 a0 _;have aa:b<W1.heap.size:=lt_of_heap ad.o;have az:b≠b+1:=by omega
 have a8:W2.heap[b]? = some (.cells #[.pointer (some ⟨b,0,none⟩),.slice a9 n c9] 193 (0,0)):=(a0.block b aa (λe=>by have:=(DV Ho.o b e.symm).1;omega)).trans ad.o;have a6:Bytes W2 (b+1) v2 (l++s):=by
  unfold Bytes;have h1:=HX.o;have h2:=Hn.o;have h3:=HS.o;rw[OV,AN,<-h2,<-h3,<-RG s,<-h1];exact a1
 obtain⟨a2,c2,rfl⟩:=a6.slice;have d1:W2.cell? ⟨b,1,none⟩=some (.slice a9 n c9):=by rw[AG W2 b 1 _ 193 (0,0) a8];rfl
 have f1:=Al W2 b 1 _ 193 a8;obtain⟨ns,af⟩:=Jq ((l++s).length);rw[<-af]at a6;rw[show(l++s).length=ns from af.symm]at a1 ⊢;obtain⟨W3,a3⟩:=Jq (W2.setCell ⟨b,1,none⟩ (.slice a2 ns c2));have am:W3.heap[b]? = some (.cells #[.pointer (some ⟨b,0,none⟩),.slice a2 ns c2] 193 (0,0)):=by rw[a3];exact AK _ b 1 _ 193 _ a8
 have eo:∀k,k≠b->W3.heap[k]? = W2.heap[k]? := λk hk=>by rw[a3];exact AH W2 ⟨b,1,none⟩ _ k hk
 have ax:Hid (JV W3 b (l++s)):=Jy ⟨_,_,am,.inr rfl,a6.1,by
  rcases a6.2 with h2 | ⟨g,cap,cur,e,hg,h3,h4⟩
  ·exact .inl h2
  exact .inr ⟨g,cap,cur,e,hg,(eo g (by omega)).trans h3,h4⟩⟩
 obtain⟨q1,q2,q3,q4,q5⟩:=ah.o;have a5:w.heap.size<=W3.heap.size:=by rw[a3];have:=a0.size;simp;omega
 have a7:Hid (Kn b w W3):=Jy ⟨by rw[a3];exact a0.os.trans q3,by rw[a3];exact a0.tape.trans q4,by rw[a3];exact a0.output.trans q5,a5,λk o hk ag ho=>by
  rw[eo k ag];have a4:=(q1 k ag).trans hk;refine(a0.block k (lt_of_heap a4) (λe => ?_)).trans a4;rcases Ho.o.2 with⟨hv,_⟩ | ⟨g,cap,cur,hv,_,hh,_⟩
  ·cases hv;cases e
  cases hv
  cases e
  rw[hh]at a4;cases a4
  simp[Na]at ho⟩
 have av:Hid (Below b w W3):=Jy ⟨a7.o.1,a7.o.2.1,a7.o.2.2.1,a5,λk hk=>by
  rw[eo k (by omega)];refine(a0.block k (by omega) (λe => ?_)).trans (q1 k (by omega))
  have:=(DV Ho.o k e.symm).1
  omega⟩
 have ay:=Jy a3;clear a1 a0 a6 a8 am eo q1 q2 q3 q4 q5 a3 a5 af;go_wp2_with (first | (rw[<-ay.o]) | fail);go_ret2
 exact⟨⟨_,rfl⟩,ax.o,a7.o,av.o⟩
end Go.Proofs.YtodmdkhdbfbfgaaGreatDoor
