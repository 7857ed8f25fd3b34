/- Lemmas. -/
import Derived.Maps.OwnSet
import Derived.Maps.OwnOps
import Derived.Maps.Keyed
import Derived.Maps.AppendAt
import Derived.Laws.StructEq
import Derived.Laws.AppendOwnNone
import Derived.Laws.OwnMore
import Derived.Sort.KeysCollected
import Derived.Test.YtodmdkhdbfbfgaaGreatDoorM00
set_option linter.unusedVariables false
set_option linter.unusedSimpArgs false
set_option maxRecDepth 100000
set_option maxHeartbeats 8000000
open Go.Proofs.Tryz
abbrev Go.AE:=@List.getElem?_eq_getElem
abbrev Go.AT:=@List.take_of_length_le
abbrev Go.Ac:=@List.length_take
abbrev Go.Ae:=@List.length_cons
abbrev Go.Aj:=@List.mem_append
abbrev Go.Al:=@List.take_add_one
abbrev Go.Ap:=@List.any_eq_true
abbrev Go.Aw:=@List.append_assoc
abbrev Go.Ay:=@List.getElem?_eq_none
abbrev Go.BD:=@List.all_eq_true
abbrev Go.BE:=@Go.bodyPost_ret
abbrev Go.BH:=@Bool.false_eq_true
abbrev Go.BJ:=@decide_eq_true_eq
abbrev Go.BR:=@UInt8.toNat_inj
abbrev Go.BS:=@List.map_cons
abbrev Go.BY:=@List.getElem_of_mem
abbrev Go.Ba:=@Int.tdiv_eq_ediv_of_nonneg
abbrev Go.Be:=@List.range_succ
abbrev Go.Bf:=@List.length_nil
abbrev Go.Bk:=@List.contains_iff_mem
abbrev Go.Bn:=@List.getElem_mem
abbrev Go.Bp:=@Go.Maps.has_put_other
abbrev Go.Br:=@List.append_nil
abbrev Go.Bt:=@Nat.mul_le_mul_right
abbrev Go.Bv:=@List.mem_range
abbrev Go.Bz:=@Nat.min_eq_left
abbrev Go.CB:=@Bool.eq_iff_iff
abbrev Go.CR:=@if_false
abbrev Go.CW:=@Go.results_none
abbrev Go.CZ:=@List.take_append_drop
abbrev Go.Cc:=@List.flatten_cons
abbrev Go.Co:=@Nat.mul_le_mul
abbrev Go.Cx:=@Go.Maps.has_put_same
abbrev Go.DC:=@Nat.sub_zero
abbrev Go.DF:=@List.map_nil
abbrev Go.DJ:=@Go.World.ownsMap_made
abbrev Go.D8:=@List.getElem?_take
abbrev Go.Do:=@Nat.max_eq_left
abbrev Go.Dq:=@Nat.mul_le_mul_left
abbrev Go.AN:=@List.getElem?_eq_some_iff
abbrev Go.AZ:=@List.mem_map
abbrev Go.Af:=@Go.World.ownsRow_nil
abbrev Go.Ah:=@List.drop_eq_getElem_cons
abbrev Go.Aq:=@List.getElem?_take_of_lt
abbrev Go.Av:=@Go.wpList_append_own
abbrev Go.Ax:=@List.mem_cons
abbrev Go.Az:=@List.cons_append
abbrev Go.BN:=@beq_eq_false_iff_ne
abbrev Go.BZ:=@decide_eq_false
abbrev Go.B9:=@Go.cell_one_new
abbrev Go.Bj:=@decide_eq_true
abbrev Go.CI:=@List.nodup_append
abbrev Go.CN:=@List.mem_singleton
abbrev Go.CQ:=@List.pairwise_mergeSort
abbrev Go.CT:=@List.pairwise_map
abbrev Go.CU:=@List.drop_eq_nil_of_le
abbrev Go.CV:=@List.mergeSort_perm
abbrev Go.CY:=@List.pairwise_iff_getElem
abbrev Go.Cl:=@List.take_length
abbrev Go.Cu:=@beq_iff_eq
abbrev Go.Cv:=@List.Perm.eq_of_pairwise
abbrev Go.D7:=@List.pairwise_cons
abbrev Go.Di:=@bne_iff_ne
abbrev Go.Dr:=@if_true
abbrev Go.AY:=@List.mem_of_getElem?
abbrev Go.Ad:=@List.mem_filter
abbrev Go.BT:=@decide_eq_true_iff
abbrev Go.Bi:=@Option.isSome_iff_exists
abbrev Go.CK:=@List.set_append_right
abbrev Go.CL:=@List.set_cons_zero
abbrev Go.CM:=@List.set_cons_succ
abbrev Go.C7:=@Go.run_underlying
abbrev Go.Ce:=@Bool.or_eq_true
abbrev Go.Cg:=@List.filter_eq_self
abbrev Go.DP:=@List.mem_of_mem_take
abbrev Go.DU:=@Go.Maps.atKey_put_other
abbrev Go.D5:=@Go.Maps.atKey_put_same
abbrev Go.Da:=@List.filter_cons_of_pos
abbrev Go.Db:=@List.filter_cons_of_neg
abbrev Go.Dd:=@List.any_eq_false
namespace Go.Proofs.YtodmdkhdbfbfgaaGreatDoor
namespace Y
open Go.RowKit Pk
def KG(m:M)(i q:Nat)(s:Du):M:=GX (G8 m i q (s.take 64)) i (max (m.g i) (q+1))
def Tz(m:M)(b p:Int):Prop:=hasB m b=true/\0<=p/\p<(m.d:Int)
theorem tA(w:Z)(i f d:Nat)(L:Loc)(m:M)(b p:Int)(s:Du)(h:CP w i f d L m)(n:¬Tz m b p):Calls prog 17 #[.c d,.a b,.a p,.string (X s)] w λe w'=>e=.a (.tuple #[])/\w'=w:=by
 have a:=J (XB w i f d L m b h);have c0:=EM.c0 h;have c1:=EM.c1 h;generalize X s=t;cases c:hasB m b with
 |false=>rw[c]at a;go_enter func17,ntmps17;go_wp2_with fail;refine a.o.l ?_;rintro e j ⟨rfl,rfl⟩;go_wp2;((try simp only[Exit.inBlock,Exit.then]);refine BE (CW I _ _ _) I ?_);exact⟨I,I⟩
 |true=>
  have u:=SP c;have q:decide (b<0)=false:=EL;have o:decide ((m.a:Int)<=b)=false:=EL;rw[c]at a;by_cases g:p<0
  .have l:decide (p<0)=true:=EU g;go_enter func17,ntmps17;go_wp2_with fail;refine a.o.l ?_;rintro e j ⟨rfl,rfl⟩;go_wp2;((try simp only[Exit.inBlock,Exit.then]);refine BE (CW I _ _ _) I ?_);exact⟨I,I⟩
  have l:decide (p<0)=false:=EU g;have k:=Int.not_lt.mp (λe=>n ⟨c,by omega,e⟩);have r:decide ((m.d:Int)<=p)=true:=EU k;go_enter func17,ntmps17;go_wp2_with fail;refine a.o.l ?_;rintro e j ⟨rfl,rfl⟩;go_wp2;((try simp only[Exit.inBlock,Exit.then]);refine BE (CW I _ _ _) I ?_);exact⟨I,I⟩
theorem ua(w:Z)(z y C:Nat)(L:Loc)(m:M)(i q:Nat)(s:Du)(V:WF m)(a:s.length<=140737488351232)(h:CP w z y C L m)(b:i<m.a)(F:q<m.d):Calls prog 17 #[.c C,.a i,.a q,.string (X s)] w λe w'=>e=.a (.tuple #[])/\CP w' z y C L (KG m i q s)/\Ed z y w w':=by
 have A:=J (XB w z y C L m (i:Nat) h);have a:hasB m (i:Nat)=true:=by simp[hasB];omega
 rw[a]at A;have c0:=EM.c0 h;have c1:=EM.c1 h;have cd:=h.data.cell b;have R:=(h.e i b).cell F;have cf:=(h.e i b).frozen q;have p:decide ((q:Int)<0)=false:=EJ;have f:decide ((m.d:Int)<=(q:Int))=false:=EL;have N:(X s).size=s.length:=EF s;have l:q<=16:=Dz V.b;have ad:m.g i<=16:=by have:=V.g i b;exact Dz V.b
 obtain⟨n,T⟩:=E (min s.length 64);have l:(X s).extract 0 n=X (s.take 64):=by
  rw[Ka,T];congr 1;simp only[List.drop_zero,DC];by_cases e:s.length<=64
  .rw[Bz e,AT e,AT (AB _)]
  rw[Nat.min_eq_right U]
 obtain⟨r,S⟩:=E (X (s.take 64));have v:CP (w.setCell ⟨L.rw i,q,none⟩ (.string r)) z y C L (G8 m i q (s.take 64)):=by have:=EM.KE h i q b F (s.take 64);rw[S];exact this
 have u:Ed z y w (w.setCell ⟨L.rw i,q,none⟩ (.string r)):=(Ed.refl _ _ _).set (h.k i b) q _;have G:=h.h;rw[<-S]at l;obtain⟨t,f⟩:=E (X s);rw[<-f]at l N |-;change Hid _ at l;have c:n<=t.size:=U;have p:(n:Int)<=(t.size:Int):=U;have K:t.size<=140737488351232:=U;change Hid _ at v u;simp only[id]at R;clear h a f S;by_cases S:s.length<=64
 .have H:(t.size:Int)=(n:Int):=U;change Hid _ at H;have z:decide ((t.size:Int)<=64)=true:=EL;have P:t.size=n:=U;change Hid _ at P;have y:t.size<=64:=U;clear T S N;have a:t.extract 0 n=t:=by rw[<-P.o];exact ByteArray.extract_zero_size
  have K:=l.o.A.i a;subst K;clear a l P H c p;go_enter func17,ntmps17;go_wp2_with fail;refine A.o.l ?_;rintro e P ⟨rfl,rfl⟩;go_wp2;go_region;have a:=EM.drew v;have f:=u.o.drew;generalize (P.setCell ⟨L.rw i,q,none⟩ (.string r)).drew=W at a f |-;clear v u c0 c1 cd R cf A;have d2:=EM.c2 a;have D:=a.next.cell b;have df:=a.next.frozen i;simp only[G8]at d2 D;by_cases p:m.g i<=q+1
  .have d:=EM.p a i (q+1);have c:=f.set G i (.a ((q+1:Nat):Int));have g:Hid (KG m i q s=GX (G8 m i q (s.take 64)) i (q+1)):=(by show KG m i q s=_;unfold KG;rw[Nat.max_eq_right p]);change Hid _ at d c;clear a f;rw[show((q+1:Nat):Int)=(q:Int)+1 by omega]at d c;have k:(m.g i:Int)<=(q:Int)+1:=U;have B:decide ((m.g i:Int)<=(q:Int)+1)=true:=EU k;by_cases o:m.g i=q+1
   .have j:(m.g i:Int)=(q:Int)+1:=U;have V:=J j;rw[j]at D;clear p k B o j ad;go_wp2;go_region;go_end0;refine⟨I,?_,c.o.drew⟩;rw[g.o];exact EM.drew d
   have C:m.g i<q+1:=U;have Q:(m.g i:Int)<(q:Int)+1:=U;have F:decide ((m.g i:Int)<(q:Int)+1)=true:=EU Q;have r:decide ((q:Int)+1<(m.g i:Int))=false:=EL;generalize m.g i=x at *;clear p o;go_wp2;go_region;go_end0;refine⟨I,?_,c.o.drew⟩;rw[g.o];exact EM.drew d
  have g:Hid (KG m i q s=GX (G8 m i q (s.take 64)) i (m.g i)):=(by show KG m i q s=_;unfold KG;rw[Do U]);have d:=EM.p a i (m.g i);have c:=f.set G i (.a ((m.g i:Nat):Int));change Hid _ at d c;clear a f;have k:(q:Int)+1<(m.g i:Int):=U;have B:decide ((m.g i:Int)<=(q:Int)+1)=false:=EL;have o:decide ((m.g i:Int)<(q:Int)+1)=false:=EL;have j:decide ((q:Int)+1<(m.g i:Int))=true:=EU k;go_wp2;go_region;go_end0;refine⟨I,?_,c.o.drew⟩;rw[g.o];exact EM.drew d
 .have H:n=64:=U;subst H;have z:decide ((t.size:Int)<=64)=false:=EL;have y:64<t.size:=U;clear T S N;have K:=l;rw[<-K]at v u;clear K l;go_enter func17,ntmps17;go_wp2_with fail;refine A.o.l ?_;rintro e P ⟨rfl,rfl⟩;go_wp2;go_region;have a:=EM.drew v;have f:=u.o.drew;generalize (P.setCell ⟨L.rw i,q,none⟩ (.string (t.extract 0 64))).drew=W at a f |-;clear v u c0 c1 cd R cf A;have d2:=EM.c2 a;have D:=a.next.cell b;have df:=a.next.frozen i;simp only[G8]at d2 D;by_cases p:m.g i<=q+1
  .have d:=EM.p a i (q+1);have c:=f.set G i (.a ((q+1:Nat):Int));have g:Hid (KG m i q s=GX (G8 m i q (s.take 64)) i (q+1)):=(by show KG m i q s=_;unfold KG;rw[Nat.max_eq_right p]);change Hid _ at d c;clear a f;rw[show((q+1:Nat):Int)=(q:Int)+1 by omega]at d c;have k:(m.g i:Int)<=(q:Int)+1:=U;have B:decide ((m.g i:Int)<=(q:Int)+1)=true:=EU k;by_cases o:m.g i=q+1
   .have j:(m.g i:Int)=(q:Int)+1:=U;have V:=J j;rw[j]at D;clear p k B o j ad;go_wp2;go_region;go_end0;refine⟨I,?_,c.o.drew⟩;rw[g.o];exact EM.drew d
   have C:m.g i<q+1:=U;have Q:(m.g i:Int)<(q:Int)+1:=U;have F:decide ((m.g i:Int)<(q:Int)+1)=true:=EU Q;have r:decide ((q:Int)+1<(m.g i:Int))=false:=EL;generalize m.g i=x at *;clear p o;go_wp2;go_region;go_end0;refine⟨I,?_,c.o.drew⟩;rw[g.o];exact EM.drew d
  have g:Hid (KG m i q s=GX (G8 m i q (s.take 64)) i (m.g i)):=(by show KG m i q s=_;unfold KG;rw[Do U]);have d:=EM.p a i (m.g i);have c:=f.set G i (.a ((m.g i:Nat):Int));change Hid _ at d c;clear a f;have k:(q:Int)+1<(m.g i:Int):=U;have B:decide ((m.g i:Int)<=(q:Int)+1)=false:=EL;have o:decide ((m.g i:Int)<(q:Int)+1)=false:=EL;have j:decide ((q:Int)+1<(m.g i:Int))=true:=EU k;go_wp2;go_region;go_end0;refine⟨I,?_,c.o.drew⟩;rw[g.o];exact EM.drew d
variable {m:M} {b p:Int}
instance (m:M) (b p:Int) (s:Du):Decidable (LL m b p s):=by unfold LL;infer_instance
instance (m:M) (b p:Int):Decidable (Tz m b p):=by unfold Tz;infer_instance
def El(m:M)(b p:Int)(s:Du):Bool×M:=if LL m b p s then Gk m b.toNat p.toNat s else(false,m)
def FC(m:M)(b:Int):Bool×M:=if IE m b=false then Jc m b.toNat else(false,m)
def OV(m:M)(b p:Int)(s:Du):M:=if Tz m b p then KG m b.toNat p.toNat s else m
theorem Uv{s:Du}(h:LL m b p s):∃i q:Nat,b=(i:Int)/\p=(q:Int)/\i<m.a/\m.e i=false/\q=m.g i/\q<m.d/\s.length=64:=by obtain⟨c,a,_,d⟩:=h;obtain⟨i,rfl,f,e⟩:=Uw c;refine⟨i,m.g i,I,by simpa using a,f,e,I,?_,d⟩;have:p=(m.g i:Int):=EU a;omega
theorem zT(w:Z)(f c a:Nat)(L:Loc)(m:M)(b p:Int)(s:Du)(u:WF m)(t:s.length<=140737488351232)(h:CP w f c a L m):Calls prog 242 #[.c a,.a b,.a p,.string (X s)] w λe w'=>e=.a (.bool (El m b p s).1)/\CP w' f c a L (El m b p s).2/\Ed f c w w':=by
 by_cases d:LL m b p s
 .have o:=d.1;obtain⟨i,q,rfl,rfl,k,_,r,j,l⟩:=Uv d;have e:El m (i:Nat) (q:Nat) s=Gk m i q s:=AD d;rw[e];exact ue w f c a L m i q s u l h o k r j
 have e:El m b p s=(false,m):=AC d;rw[e];exact(qN w f c a L m b p s t h d).l λe w' ⟨n,g⟩=>⟨n,by rw[g];exact h,by rw[g];exact Ed.refl _ _ _⟩
theorem pE(w:Z)(f d a:Nat)(L:Loc)(m:M)(b:Int)(h:CP w f d a L m)(g:IE m b=true):Calls prog 125 #[.c a,.a b] w λe w'=>e=.a (.bool false)/\w'=w:=by have c:=J (KA w f d a L m b h);rw[g]at c;clear h;go_enter func125,ntmps125;go_wp2_with fail;refine c.o.l ?_;rintro e _ ⟨rfl,rfl⟩;go_wp2;go_ret;exact⟨I,I⟩
theorem fq(w:Z)(f a c:Nat)(L:Loc)(m:M)(b:Int)(n:WF m)(h:CP w f a c L m)(g:a<=w.heap.size):Calls prog 125 #[.c c,.a b] w λe w'=>e=.a (.bool (FC m b).1)/\CP w' f a c L (FC m b).2/\Ed f a w w':=by
 cases d:IE m b with
 |false=>obtain⟨i,rfl,k,_⟩:=Uw d;have e:FC m (i:Nat)=Jc m i:=AD d;rw[e];exact vJ w f a c L m i n h d k g
 |true=>have e:FC m b=(false,m):=AC (by rw[d];decide);rw[e];exact(pE w f a c L m b h d).l λe w' ⟨l,j⟩=>⟨l,by rw[j];exact h,by rw[j];exact Ed.refl _ _ _⟩
theorem j9(h:Tz m b p):∃i q:Nat,b=(i:Int)/\p=(q:Int)/\i<m.a/\q<m.d:=by obtain⟨a,_,_⟩:=h;have c:=SP a;exact⟨b.toNat,p.toNat,by omega,by omega,by omega,by omega⟩
theorem RQ(w:Z)(d c a:Nat)(L:Loc)(m:M)(b p:Int)(s:Du)(o:WF m)(n:s.length<=140737488351232)(h:CP w d c a L m):Calls prog 17 #[.c a,.a b,.a p,.string (X s)] w λe w'=>e=.a (.tuple #[])/\CP w' d c a L (OV m b p s)/\Ed d c w w':=by
 by_cases f:Tz m b p
 .obtain⟨i,q,rfl,rfl,k,j⟩:=j9 f;have e:OV m (i:Nat) (q:Nat) s=KG m i q s:=AD f;rw[e];exact ua w d c a L m i q s o n h k j
 have e:OV m b p s=m:=AC f;rw[e];exact(tA w d c a L m b p s h f).l λe w' ⟨l,g⟩=>⟨l,by rw[g];exact h,by rw[g];exact Ed.refl _ _ _⟩
/-! ### They stay well formed. -/
theorem WR(h:WF m)(i q:Nat)(s:Du)(e:s.length<=64):WF (G8 m i q s):=
 ⟨h.d,h.a,h.e,h.b,h.g,λa b c d=>by
  show(if a=i/\b=q then s else m.c a b).length<=64;split
  .exact e
  exact h.c a b c d,h.MH,h.Ln,h.n,h.o,h.h,h.f,h.j,h.k⟩
theorem iq(h:WF m)(i n:Nat):WF (Is m i n):=
 ⟨h.d,h.a,h.e,h.b,h.g,λa b c d=>by
  show(if a=i/\b<n then[]else m.c a b).length<=64;split
  .exact AW _
  exact h.c a b c d,h.MH,h.Ln,h.n,h.o,h.h,h.f,h.j,h.k⟩
theorem UE(h:WF m)(i v:Nat)(c:v<=m.d):WF (GX m i v):=
 ⟨h.d,h.a,h.e,h.b,λa b=>by
  show(if a=i then v else m.g a)<=m.d;split
  .exact c
  exact h.g a b,h.c,h.MH,h.Ln,h.n,h.o,h.h,h.f,h.j,h.k⟩
theorem kA(h:WF m)(i:Nat)(v:Bool):WF (Lc m i v):=
 ⟨h.d,h.a,h.e,h.b,h.g,h.c,h.MH,h.Ln,h.n,h.o,h.h,h.f,h.j,h.k⟩
theorem QC(h:WF m)(b p:Int)(s:Du):WF (El m b p s).2:=by
 unfold El;split
 .rename_i e;obtain⟨i,q,rfl,rfl,g,f,k,c,j⟩:=Uv e;simp only[Int.toNat_natCast];have a:=jU h;have d:∀n,(s.take n).length<=64:=λn=>by rw[Ac];omega
  unfold Gk;repeat' split
  .exact UE (WR a i q s U) i (q+1) c
  .exact UE (kA (WR a i q _ (d _)) i true) i (q+1) c
  .exact UE (WR a i q _ (d _)) i (q+1) c
  exact a
 exact h
theorem Ve(h:WF m)(b:Int):WF (FC m b).2:=by
 unfold FC;have a:=jU h;split
 .unfold Jc;repeat' split
  .exact UE (iq a _ _) _ _ (AW _)
  .exact kA a _ _
  .exact UE (iq a _ _) _ _ (AB _)
  exact a
 exact h
theorem Qr(h:WF m)(b p:Int)(s:Du):WF (OV m b p s):=by
 unfold OV;split
 .rename_i c;obtain⟨i,q,rfl,rfl,a,d⟩:=j9 c;simp only[Int.toNat_natCast];unfold KG;refine UE (WR h i q _ (by rw[Ac];omega)) i _ ?_;have:=h.g i a;show max (m.g i) (q+1)<=m.d;omega
 exact h
theorem SQ(h:WF m)(a c:Int):WF {m with b:=MU a 0 1073741824+1,cut:=PR c}:=by have d:=Rj a 0 1073741824 U;have b:=gG c;exact⟨h.d,h.a,h.e,h.b,h.g,h.c,by show -1<=MU a 0 1073741824+1;omega,by show MU a 0 1073741824+1<=_;omega,h.n,h.o,b.1,b.2,h.j,h.k⟩
theorem RH(h:WF m)(a c:Int):WF {m with fail:=MU a 0 1073741824,part:=PR c}:=by have d:=Rj a 0 1073741824 U;have b:=gG c;exact⟨h.d,h.a,h.e,h.b,h.g,h.c,h.MH,h.Ln,by show -1<=MU a 0 1073741824;omega,d.2,h.h,h.f,b.1,b.2⟩
theorem Nj(h:WF m):WF {m with b:=-1}:=
 ⟨h.d,h.a,h.e,h.b,h.g,h.c,by show(-1:Int) <= -1;omega,by show(-1:Int)<=_;omega,h.n,h.o,h.h,h.f,h.j,h.k⟩
end Y
end Go.Proofs.YtodmdkhdbfbfgaaGreatDoor
namespace Go.Nt
abbrev Bs:=Du
structure It where
 c:Bs
 d:Bool
 data:Bs
 a:Int
 b:Int
deriving DecidableEq,Inhabited
def split:Bs->List Bs
 | []=>[[]]
 | c::cs=>if c=47 then[]::split cs else
   match split cs with
   | []=>[[c]]
   | n::ns=>(c::n)::ns
theorem Wi(p:Bs):split p≠[]:=by
 cases p with
 |nil=>simp[split]
 |cons c a=>
  unfold split;split
  .simp
  split<;>simp
theorem Oc(p:Bs):∃n a,split p=n::a:=by
 cases h:split p with
 |nil=>exact absurd h (Wi p)
 |cons n a=>exact⟨n,a,I⟩
def key(c:UInt8):Nat:=if c=47 then 0 else c.toNat+1
theorem key_inj{a b:UInt8}(h:key a=key b):a=b:=by
 unfold key at h;split at h<;>split at h
 .simp_all
 .omega
 .omega
 exact BR.1 U
def less:Bs->Bs->Bool
 | [],[]=>false
 | [],_::_=>true
 | _::_,[]=>false
 | a::as1,b::bs=>if a=b then less as1 bs else decide (key a<key b)
theorem X4:∀a,less a a=false
 | []=>rfl
 |a::as1=>by simp[less,X4 as1]
theorem Qf:∀a b,less a b=false->less b a=false->a=b
 | [],[],_,_=>rfl
 | [],_::_,h,_=>by simp[less]at h
 |_::_,[],_,h=>by simp[less]at h
 | a::as1,b::bs,h,h'=>by
   unfold less at h h';by_cases e:a=b
   .subst e;simp at h h';rw[Qf as1 bs h h']
   rw[AC e]at h;rw[AC (λx=>e x.A)]at h';simp at h h';exact absurd (key_inj U) e
theorem Rm:∀a b c,less a b=true->less b c=true->less a c=true
 | [],[],_,h,_=>by simp[less]at h
 | [],_::_,[],_,h=>by simp[less]at h
 | [],_::_,_::_,_,_=>by simp[less]
 |_::_,[],_,h,_=>by simp[less]at h
 |_::_,_::_,[],_,h=>by simp[less]at h
 | a::as1,b::bs,c::cs,h,h'=>by
   unfold less at h h' |-;by_cases e:a=b
   .subst e;rw[AD I]at h;by_cases e2:a=c
    .subst e2;rw[AD I]at h' |-;exact Rm as1 bs cs h h'
    rw[AC e2]at h' |-;exact h'
   rw[AC e]at h;by_cases e2:b=c
   .subst e2;rw[AC e];exact h
   rw[AC e2]at h';simp at h h'
   have:a≠c:=λx=>by subst x;omega
   rw[AC this];simp;omega
theorem XD{a b:Bs}(h:less a b=true):less b a=false:=by
 cases c:less b a with
 |false=>rfl
 |true=>have:=Rm a b a h c;rw[X4]at this;cases this
def Mw:Bs->Bs->Bool
 | [],[]=>false
 | [],_::_=>true
 | _::_,[]=>false
 | a::as1,b::bs=>if a=b then Mw as1 bs else decide (a.toNat<b.toNat)
def IA(a b:Bs):Int:=if Mw a b then -1 else if Mw b a then 1 else 0
def Gb:List Bs->List Bs->Int
 | [],[]=>0
 | [],_::_=>-1
 | _::_,[]=>1
 | a::as1,b::bs=>if IA a b=0 then Gb as1 bs else IA a b
theorem XR:IA [] []=0:=by simp[IA,Mw]
theorem jE(c:UInt8)(n:Bs):IA [] (c::n) = -1:=by simp[IA,Mw]
theorem fM(c:UInt8)(n:Bs):IA (c::n) []=1:=by simp[IA,Mw]
theorem yu(c:UInt8)(n m:Bs):IA (c::n) (c::m)=IA n m:=by simp[IA,Mw]
theorem rY{x y:UInt8}(h:x≠y)(n m:Bs):IA (x::n) (y::m)=if x.toNat<y.toNat then -1 else 1:=by
 have b:y≠x:=λe=>h e.A;have c:x.toNat≠y.toNat:=λe=>h (BR.1 e);simp only[IA,Mw,AC h,AC b];by_cases a:x.toNat<y.toNat
 .simp[a]
 have:y.toNat<x.toNat:=U;simp[a,this]
theorem NU(cs:Bs):split (47::cs)=[]::split cs:=by simp[split]
theorem NT{c:UInt8}(h:c≠47){cs:Bs}{n:Bs}{a:List Bs}(e:split cs=n::a):split (c::cs)=(c::n)::a:=by simp[split,h,e]
theorem Xo:∀a b:Bs,decide (Gb (split a) (split b)<0)=less a b
 | [],[]=>by simp[split,Gb,XR,less]
 | [],c::cs=>by
   obtain⟨n,i,e⟩:=Oc cs;by_cases h:c=47
   .subst h;rw[NU,e];simp[split,Gb,XR,less]
   rw[NT h e];simp[split,Gb,jE,less]
 | c::cs,[]=>by
   obtain⟨n,i,e⟩:=Oc cs;by_cases h:c=47
   .subst h;rw[NU,e];simp[split,Gb,XR,less]
   rw[NT h e];simp[split,Gb,fM,less]
 | x::as1,y::bs=>by
   obtain⟨n,i,e1⟩:=Oc as1;obtain⟨_,_,e2⟩:=Oc bs;by_cases f:x=47
   .by_cases d:y=47
    .subst f;subst d;rw[NU,NU]
     have:=Xo as1 bs
     simp only[Gb,XR,AD,less];exact this
    subst f;rw[NU,NT d e2];have j:(47:UInt8)≠y:=λe=>d e.A
    simp[Gb,jE,less,j,key,d]
   by_cases d:y=47
   .subst d;rw[NU,NT f e1];simp[Gb,fM,less,f,key]
   rw[NT f e1,NT d e2];by_cases e:x=y
   .subst e
    have:=Xo as1 bs
    rw[e1,e2]at this;simp only[Gb,yu,less,AD]at this |-;exact this
   simp only[Gb,rY e,less,AC e,key,AC f,AC d];by_cases g:x.toNat<y.toNat
   .simp[g]
   simp[g]
def FZ(n:Bs):Bool:=n≠[]&&n≠[46]&&n≠[46,46]&&decide (n.length<=20) && !n.contains 0
def EO(p:Bs):Bool:=decide ((split p).length<=6)&&(split p).all FZ
def par:Bs->Bs
 | []=>[]
 | c::cs=>if cs.contains 47 then c::par cs else[]
theorem UG{p:Bs}(h:∀i,i<p.length->p.getD i 0≠47):par p=[]:=by
 cases p with
 |nil=>rfl
 |cons c e=>unfold par;rw[AC];intro a;obtain⟨i,d,b⟩:=BY (Bk.1 a);have:=h (i+1) EL;simp[List.getD,d]at this;exact this b
theorem Sc:∀{p:Bs} {j:Nat},p.getD j 0=47->(∀i,j<i->i<p.length->p.getD i 0≠47)->par p=p.take j
 | [],j,h,_=>by simp at h
 | c::cs,0,_,h2=>by
   unfold par;rw[AC]
   .rfl
   intro b;obtain⟨i,d,f⟩:=BY (Bk.1 b)
   have:=h2 (i+1) U EL
   simp[List.getD,d]at this;exact this f
 | c::cs,j+1,h1,h2=>by
   unfold par;have a:cs.getD j 0=47:=by simpa[List.getD]using h1
   have e:j<cs.length:=by
    rcases CS j cs.length with h|h
    .exact h
    rw[List.getD,Ay h]at a;cases a
   have b:cs.contains 47=true:=by
    rw[Bk]
    have:cs[j]=47:=by simpa[List.getD,e]using a
    exact this ▸ Bn e
   rw[AD b,Sc a (λi d _=>?_)]
   .rfl
   have:=h2 (i+1) U EL
   simpa[List.getD]using this
def Es(x:It):Bool:=
 EO x.c&&decide (x.data.length<=4000)&&(!x.d||x.data.isEmpty)&&decide (0<=x.a)&&decide (x.a<=4095)&&decide (0<=x.b)&&decide (x.b<=2147483647)
def FW(l:List It)(p:Bs):Bool:=l.any λy=>decide (y.c=p)&&y.d
def Ek(l:List It):Bool:=
 decide (l.length<=60)&&l.all Es&&decide ((l.map (·.c)).Nodup)&&l.all λx=>decide (par x.c=[])||FW l (par x.c)
def Eg(l:List It):List It:=l.mergeSort λx y=>!less y.c x.c
def OX(l:List It)(p:Bs):Bool:=(List.range p.length).all λi=>decide (p.getD i 0≠47)||FW l (p.take i)
theorem getD_take{p:Bs}{i j:Nat}(h:i<j):(p.take j).getD i 0=p.getD i 0:=by simp only[List.getD,D8];rw[AD h]
theorem Vs(p:Bs):(∀i,i<p.length->p.getD i 0≠47)\/∃j,j<p.length/\p.getD j 0=47/\∀i,j<i->i<p.length->p.getD i 0≠47:=by
 have:∀n,n<=p.length->(∀i,i<n->p.getD i 0≠47)\/∃j,j<n/\p.getD j 0=47/\∀i,j<i->i<n->p.getD i 0≠47:=by
  intro n;induction n with
  |zero=>exact λ_=>.w λi h=>absurd h (Nat.not_lt_zero _)
  |succ n k=>
   intro _;by_cases e:p.getD n 0=47
   .exact .s ⟨n,Nat.lt_succ_self n,e,λi b f=>absurd b U⟩
   rcases k (by omega)with h|⟨j,_,c,d⟩
   .refine .w λi g=>?_;rcases Nat.lt_succ_iff_lt_or_eq.1 g with a|rfl
    .exact h i a
    exact e
   refine .s ⟨j,by omega,c,λi b f=>?_⟩;rcases Nat.lt_succ_iff_lt_or_eq.1 f with a|rfl
   .exact d i b a
   exact e
 exact this p.length (AB _)
theorem yY{p:Bs}(h:EO p=true):p.getD 0 0≠47:=by
 intro e;cases p with
 |nil=>simp at e
 |cons c a=>simp[List.getD]at e;subst e;unfold EO at h;rw[NU]at h;simp[FZ]at h
theorem gI(l:List It)(p:l.all Es=true):(l.all λx=>decide (par x.c=[])||FW l (par x.c))=l.all λx=>OX l x.c:=by
 rw[CB];constructor
 .intro h;have f:∀n (x:It),x∈l->x.c.length=n->OX l x.c=true:=by
   intro n;induction n using Nat.strongRecOn with
   |ind n G=>
    intro x d _;unfold OX;rw[BD];intro i D;have q:i<x.c.length:=Bv.1 D;by_cases e:x.c.getD i 0=47
    .rcases Vs x.c with c|⟨j,t,a,b⟩
     .exact absurd e (c i q)
     have k:=Sc a b;have H:j≠0:=by intro C;subst C;have:=BD.1 p x d;unfold Es at this;simp only[AV]at this;exact yY this.1.1.1.1.1.1 a
     have g:=BD.1 h x d;have v:par x.c≠[]:=by rw[k];intro u;have:=AX List.length u;rw[Ac,Bf]at this;omega
     have o:FW l (par x.c)=true:=by simpa[v]using g
     by_cases A:i=j
     .subst A;rw[<-k];simp[o]
     have w:i<j:=by
      rcases CS i j with s|s
      .exact s
      exact absurd e (b i U q)
     unfold FW at o;obtain⟨y,F,m⟩:=Ap.1 o;simp at m;have z:y.c.length=j:=by rw[m.1,k,Ac];omega
     have r:=G j U y F z;unfold OX at r;have:=BD.1 r i (Bv.2 U);rw[m.1,k,getD_take w,List.take_take,Bz U]at this;exact this
    have B:¬(x.c[i]?.getD 0=47):=by simpa[List.getD]using e
    simp[B]
  rw[BD];exact λx d=>f _ x d I
 intro h;rw[BD];intro x d;have g:=BD.1 h x d;rcases Vs x.c with c|⟨j,t,a,b⟩
 .rw[UG c];simp
 rw[Sc a b];unfold OX at g;have:=BD.1 g j (Bv.2 t);rw[a]at this;simp at this;simp[this]
variable {u:Bs->Option Bs} {x:It} {e t:Bs} {l:List It}
def num:Bs->Nat
 | b=>b.foldl (λn x=>n*256+x.toNat) 0
def enc:Nat->Nat->Bs
 | 0,_=>[]
 | k+1,n=>enc k (n/256)++[UInt8.ofNat n]
theorem KC:∀k n,(enc k n).length=k
 |0,_=>rfl
 |k+1,n=>by simp[enc,KC k]
theorem Yj(b:Bs)(x:UInt8):num (b++[x])=num b*256+x.toNat:=by simp[num]
theorem UK:∀k n,n<256^k->num (enc k n)=n
 |0,n,h=>by simp at h;subst h;rfl
 | k+1,n,h=>by
   rw[enc,Yj,UK k (n/256) (by rw[CF]at h;omega),Bx];omega
theorem Tu:∀(b:Bs),num b<256^b.length:=by
 intro b;have h:∀(l:Bs) (a:Nat),l.foldl (λn x=>n*256+x.toNat) a<(a+1)*256^l.length:=by
  intro l;induction l with
  |nil=>intro a;simp
  |cons x d c=>intro a;have:=c (a*256+x.toNat);simp only[List.foldl_cons,Ae];refine AQ this ?_;rw[CF,BQ (256^d.length) 256,<-Ck];refine Bt _ ?_;exact Dz x.toNat_lt
 have:=h b 0;simpa[num]using this
abbrev Rd:=Bs×Bool
def tk(n:Nat)(r:Rd):Bs×Rd:=if r.1.length<n then([],([],false))else(r.1.take n,(r.1.drop n,r.2))
def GR(n:Nat)(r:Rd):Nat×Rd:=(num (tk n r).1,(tk n r).2)
def GK(u:Bs->Option Bs)(r:Rd):It×Rd:=
 let k:=GR 2 r
 let t:=GR 4 k.2
 let n:=GR 1 t.2
 let p:=tk n.1 n.2
 if 32768<=k.1 then(⟨p.1,true,[],(k.1%32768:Nat),(t.1:Nat)⟩,p.2)
 else
  let z:=GR 2 p.2
  let b:=tk z.1 z.2
  (⟨p.1,false,(u b.1).getD [],(k.1%32768:Nat),(t.1:Nat)⟩,(b.2.1,b.2.2&&(u b.1).isSome))
def On(u:Bs->Option Bs):Nat->Rd->List It->List It×Rd
 | 0,r,a=>(a,r)
 | k+1,r,a=>if r.2 then On u k (GK u r).2 (a++[(GK u r).1])else(a,r)
def parse(u:Bs->Option Bs)(t:Bs):Option (List It):=
 let n:=GR 1 (t,true)
 let r:=On u n.1 n.2 []
 if r.2.2 then some r.1 else none
def Ik(u:Bs->Option Bs)(x:It)(e:Bs):Prop:=
 if x.d then e=enc 2 (x.a.toNat+32768)++enc 4 x.b.toNat++enc 1 x.c.length++x.c
 else ∃t,u t=some x.data/\t.length<=x.data.length+1/\e=enc 2 x.a.toNat++enc 4 x.b.toNat++enc 1 x.c.length++x.c++enc 2 t.length++t
def QL(u:Bs->Option Bs):List It->Bs->Prop
 | [],e=>e=[]
 | x::l,e=>∃a b,Ik u x a/\QL u l b/\e=a++b
theorem gT{u:Bs->Option Bs}:∀{l:List It} {e:Bs} {x:It} {a:Bs},QL u l e->Ik u x a->QL u (l++[x]) (e++a)
 | [],e,x,a,h,d=>by
   simp only[QL]at h;subst h;exact⟨a,[],d,I,by simp⟩
 | y::l,e,x,a,h,d=>by
   obtain⟨b,c,f,g,rfl⟩:=h;exact⟨b,c++a,f,gT g d,by simp⟩
def Fu(u:Bs->Option Bs)(l:List It)(t:Bs):Prop:=∃e,QL u l e/\t=enc 1 l.length++e
theorem XJ(a b:Bs)(f:Bool):tk a.length (a++b,f)=(a,(b,f)):=by unfold tk;rw[AC EJ];simp
theorem mf{n:Nat}{a b:Bs}{f:Bool}(h:n=a.length):tk n (a++b,f)=(a,(b,f)):=by subst h;exact XJ a b f
theorem Rh(k n:Nat)(b:Bs)(f:Bool)(h:n<256^k):GR k (enc k n++b,f)=(n,(b,f)):=by unfold GR;rw[mf (KC k n).A];simp[UK k n h]
structure Fit (x:It):Prop where
 m0:0<=x.a
 m1:x.a<=4095
 t0:0<=x.b
 t1:x.b<=2147483647
 p:x.c.length<=255
 d:x.data.length<=4000
 e:x.d=true->x.data=[]
theorem yE(h:Ik u x e)(i:Fit x)(r:Bs):GK u (e++r,true)=(x,(r,true)):=by
 obtain⟨c,_,k,_,_,_,g⟩:=i;have b:(x.b.toNat:Int)=x.b:=CH k;unfold Ik at h;cases a:x.d with
 |true=>rw[a,AD I]at h;subst h;unfold GK;simp only[Aw];rw[Rh 2 _ _ _ U];simp only[];rw[Rh 4 _ _ _ U];simp only[];rw[Rh 1 _ _ _ U];simp only[];rw[XJ,AD U];obtain⟨p,d,f,m,t⟩:=x;simp only at *;subst a;rw[g I,b];have:((m.toNat+32768)%32768:Nat)=m.toNat:=U;rw[this,CH c]
 |false=>rw[a]at h;simp only[BH,CR]at h;obtain⟨t,j,_,rfl⟩:=h;unfold GK;simp only[Aw];rw[Rh 2 _ _ _ U];simp only[];rw[Rh 4 _ _ _ U];simp only[];rw[Rh 1 _ _ _ U];simp only[];rw[XJ,AC U];simp only[];rw[Rh 2 _ _ _ U];simp only[];rw[XJ];simp only[j];obtain⟨p,d,f,m,_⟩:=x;simp only at *;subst a;rw[b];have:(m.toNat%32768:Nat)=m.toNat:=U;rw[this,CH c];rfl
theorem jJ{u:Bs->Option Bs}:∀{l:List It} {e:Bs} (h:QL u l e) (d:∀x∈l,Fit x) (r:Bs) (a:List It),On u l.length (e++r,true) a=(a++l,(r,true))
 | [],e,h,_,r,a=>by simp only[QL]at h;subst h;simp[On]
 | x::l,e,h,d,r,a=>by
   obtain⟨b,c,f,g,rfl⟩:=h;rw[Ae,On,AD I,Aw,yE f (d x EJ)];simp only[];rw[jJ g (λy i=>d y (by simp[i]))];simp
theorem iw(h:Fu u l t)(b:∀x∈l,Fit x)(c:l.length<=255)(r:Bs):parse u (t++r)=some l:=by obtain⟨e,a,rfl⟩:=h;unfold parse;rw[Aw,Rh 1 _ _ _ U];simp only[];rw[jJ a b];simp
def GF(l:List It):Nat:=(l.map λx=>16+x.c.length+x.data.length).sum
theorem qL(h:Ik u x e):e.length<=10+x.c.length+x.data.length:=by
 unfold Ik at h;split at h
 .subst h;simp[KC];omega
 obtain⟨t,_,_,rfl⟩:=h;simp[KC];omega
theorem YL{u:Bs->Option Bs}:∀{l:List It} {e:Bs},QL u l e->e.length+6*l.length<=GF l
 | [],e,h=>by simp only[QL]at h;subst h;simp[GF]
 | x::l,e,h=>by
   obtain⟨a,b,d,f,rfl⟩:=h;have g:=qL d;have c:=YL f;simp only[GF,BS,List.sum_cons,AM,Ae]at c |-;omega
theorem UZ(h:Fu u l t):t.length<=GF l+1:=by obtain⟨e,a,rfl⟩:=h;have:=YL a;simp[KC];omega
theorem VO(h:Fu u l t):0<t.length:=by obtain⟨e,_,rfl⟩:=h;simp[KC];omega
theorem kx:∀p:Bs,((split p).map (λn=>n.length+1)).sum=p.length+1
 | []=>by simp[split]
 | c::cs=>by
   obtain⟨n,_,e⟩:=Oc cs;have a:=kx cs;by_cases h:c=47
   .subst h;rw[NU];simp only[BS,List.sum_cons,Bf,Ae];omega
   rw[NT h e];rw[e]at a;simp only[BS,List.sum_cons,Ae]at a |-;omega
theorem Xl{α:Type}(f:α->Nat)(k:Nat):∀l:List α,(∀x∈l,f x<=k)->(l.map f).sum<=k*l.length
 | [],_=>by simp
 | x::l,h=>by
   have b:=h x EJ;have c:=Xl f k l (λy a=>h y (by simp[a]));simp only[BS,List.sum_cons,Ae,Nat.mul_succ];omega
theorem VX{p:Bs}(h:EO p=true):p.length<=125:=by
 unfold EO at h;simp only[AV,BJ,BD]at h;have b:=kx p;have c:=Xl (λn:Bs=>n.length+1) 21 (split p) (λn a=>by have:=h.2 n a;unfold FZ at this;simp only[AV,BJ]at this;omega)
 have d:21*(split p).length<=21*6:=Dq _ h.1;omega
theorem NR(h:Es x=true):Fit x:=by unfold Es at h;simp only[AV,BJ]at h;obtain⟨⟨⟨⟨⟨⟨b,c⟩,a⟩,d⟩,e⟩,f⟩,g⟩:=h;refine⟨d,e,f,g,by have:=VX b;omega,c,λi=>?_⟩;rw[i]at a;simpa using a
theorem o6(h:Ek l=true):(∀x∈l,Fit x)/\l.length<=60:=by unfold Ek at h;simp only[AV,BJ,BD]at h;exact⟨λx a=>NR (h.1.1.2 x a),h.1.1.1⟩
def QE(n:Nat)(b:UInt8):Nat:=(n ^^^ b.toNat)*16777619%4294967296
def Ts(l:Bs):Nat:=l.foldl QE 2166136261
def MI(n:Nat):Nat:=n/256*256+n%128
def LK(l:Bs):Nat:=MI (Ts l)
theorem nP(n:Nat)(b:UInt8):QE n b<4294967296:=BU _ EB
theorem ja(l:Bs):Ts l<4294967296:=by
 have h:∀(l:Bs) (a:Nat),a<4294967296->l.foldl QE a<4294967296:=by
  intro l;induction l with
  |nil=>intro a h;exact h
  |cons x c b=>intro a _;exact b _ (nP a x)
 exact h l _ EB
theorem fD{α:Type}(f:α->UInt8->α)(a:α){l:Bs}{i:Nat}(h:i<l.length):(l.take (i+1)).foldl f a=f ((l.take i).foldl f a) (l.getD i 0):=by rw[Al,AE h];grind
theorem pz{l:Bs}{i:Nat}(h:i<l.length):Ts (l.take (i+1))=QE (Ts (l.take i)) (l.getD i 0):=fD QE _ h
theorem iv(l:Bs):LK l<4294967296:=by have:=ja l;unfold LK MI;omega
theorem ui(l:Bs):LK l%256<128:=by unfold LK MI;omega
structure Pg where
 b:Nat
 num:Nat
 at_:Nat
 c:Nat
 a:Bs
deriving DecidableEq,Inhabited
def JF(p:Pg):Bs:=enc 1 p.b++enc 4 p.num++enc 2 p.at_++enc 2 p.c++p.a++List.replicate (51-p.a.length) 0
def Fo(p:Pg):Bs:=JF p++enc 4 (LK (JF p))
theorem Ux(p:Pg)(h:p.a.length<=51):(JF p).length=60:=by unfold JF;simp only[AM,KC,List.length_replicate];omega
theorem GW(p:Pg)(h:p.a.length<=51):(Fo p).length=64:=by unfold Fo;rw[AM,Ux p h,KC]
def JB(s:Bs):Pg:=⟨(s.getD 0 0).toNat,num ((s.drop 1).take 4),num ((s.drop 5).take 2),num ((s.drop 7).take 2),(s.take 60).drop 9⟩
def SB(s:Bs):Bool:=decide (s.length=64)&&decide (num (s.drop 60)=LK (s.take 60))
def FJ(s:Bs):Option Pg:=if SB s&&decide ((JB s).at_<(JB s).c)then some (JB s)else none
structure Sn (p:Pg):Prop where
 b:p.b<256
 n:p.num<4294967296
 a:p.at_<p.c
 o:p.c<65536
 t:p.a.length<=51
theorem Vn{a b:Bs}{n:Nat}(h:n=a.length):(a++b).take n=a:=by grind
theorem Vh{a b:Bs}{n:Nat}(h:n=a.length):(a++b).drop n=b:=by grind
theorem wD{b:Nat}(h:b<256)(r:Bs):((enc 1 b++r).getD 0 0).toNat=b:=by simp[enc,List.getD];omega
theorem nM{p:Pg}(h:Sn p):JB (Fo p)={p with a:=p.a++List.replicate (51-p.a.length) 0}:=by
 obtain⟨f,_,_,_,g⟩:=h;obtain⟨b,n,a,o,t⟩:=p;simp only at *;have c:(Fo ⟨b,n,a,o,t⟩).take 60=JF ⟨b,n,a,o,t⟩:=Vn (Ux _ g).A;unfold JB;rw[c];unfold Fo JF;simp only[Aw];generalize i:t++(List.replicate (51-t.length) 0++enc 4 (LK (enc 1 b++(enc 4 n++(enc 2 a++(enc 2 o++(t++List.replicate (51-t.length) 0)))))))=R;have d1:(enc 1 b++(enc 4 n++(enc 2 a++(enc 2 o++R)))).drop 1=enc 4 n++(enc 2 a++(enc 2 o++R)):=Vh (KC _ _).A;have d5:(enc 1 b++(enc 4 n++(enc 2 a++(enc 2 o++R)))).drop 5=enc 2 a++(enc 2 o++R):=by rw[<-Aw];exact Vh (by simp[KC])
 have d:(enc 1 b++(enc 4 n++(enc 2 a++(enc 2 o++R)))).drop 7=enc 2 o++R:=by rw[<-Aw,<-Aw];exact Vh (by simp[KC])
 have e:(enc 1 b++(enc 4 n++(enc 2 a++(enc 2 o++(t++List.replicate (51-t.length) 0))))).drop 9=t++List.replicate (51-t.length) 0:=by rw[<-Aw,<-Aw,<-Aw];exact Vh (by simp[KC])
 rw[d1,d5,d,e,wD f,Vn (KC _ _).A,Vn (KC _ _).A,Vn (KC _ _).A,UK 4 n U,UK 2 a U,UK 2 o U]
theorem wO{p:Pg}(h:p.a.length<=51):SB (Fo p)=true:=by unfold SB;rw[GW p h];have a:(Fo p).take 60=JF p:=Vn (Ux _ h).A;have b:(Fo p).drop 60=enc 4 (LK (JF p)):=Vh (Ux _ h).A;rw[a,b,UK 4 _ (iv _)];simp
theorem Wy{p:Pg}(h:Sn p):FJ (Fo p)=some {p with a:=p.a++List.replicate (51-p.a.length) 0}:=by unfold FJ;rw[wO h.t,nM h];simp[h.a]
theorem l6{s:Bs}(h:s.getD 63 0=255):FJ s=none:=by
 unfold FJ SB;by_cases a:s.length=64
 .have e:s.drop 60=(s.drop 60).take 3++[s.getD 63 0]:=by
   have f:(s.drop 60).length=4:=by simp[a]
   have:=Al (l:=s.drop 60) (i:=3);rw[AT U]at this;refine this.i ?_;congr 1;simp[List.getD];rw[AE U];simp
  have c:num (s.drop 60)≠LK (s.take 60):=by rw[e,Yj,h];intro b;have:=ui (s.take 60);rw[<-b]at this;have d:(255:UInt8).toNat=255:=I;omega
  simp[c]
 simp[a]
theorem MP{s:Bs}{p:Pg}(h:FJ s=some p):s.length=64/\p=JB s/\p.at_<p.c:=by
 unfold FJ at h;split at h
 .rename_i a;simp only[SB,AV,BJ]at a;cases h;exact⟨a.1.1,I,a.2⟩
 cases h
theorem Vk{b:Bs}{k:Nat}(h:b.length<=k):num b<256^k:=AQ (Tu b) (BK EB h)
theorem Nl(s:Bs):(JB s).b<256/\(JB s).num<4294967296/\(JB s).at_<65536/\(JB s).c<65536:=by
 refine⟨UInt8.toNat_lt _,?_,?_,?_⟩
 .exact Vk (k:=4) EL
 .exact Vk (k:=2) EL
 exact Vk (k:=2) EL
theorem nu{s:Bs}(h:s.length=64):(JB s).a.length=51:=by unfold JB;simp[h]
def EK(n:Nat):Nat:=(n+50)/51
def IJ(b n:Nat)(t:Bs)(k:Nat):Pg:=⟨b,n,k,EK t.length,(t.drop (k*51)).take 51⟩
def Ej(b n:Nat)(t:Bs):List Bs:=(List.range (EK t.length)).map λk=>Fo (IJ b n t k)
theorem Ec(b n:Nat)(t:Bs):(Ej b n t).length=EK t.length:=by simp[Ej]
theorem Vm{b n:Nat}{t:Bs}{k:Nat}(a:b<256)(d:n<4294967296)(c:k<EK t.length)(e:EK t.length<65536):Sn (IJ b n t k):=
 ⟨a,d,c,e,by simp[IJ];omega⟩
theorem uo(t:Bs):∀k,k<=EK t.length->((List.range k).map λi=>(t.drop (i*51)).take 51++List.replicate (51-((t.drop (i*51)).take 51).length) (0:UInt8)).flatten=(t++List.replicate (k*51-t.length) 0).take (k*51):=by
 intro k;induction k with
 |zero=>intro _;simp
 |succ k d=>
  intro b;rw[Be,Au,List.flatten_append,d U];simp only[BS,DF,Cc,List.flatten_nil,Br];have e:k*51<t.length:=by unfold EK at b;omega
  have a:k*51-t.length=0:=U;rw[a];simp only[List.replicate_zero,Br];have c:((t.drop (k*51)).take 51).length=min 51 (t.length-k*51):=EJ;rw[c];by_cases h:(k+1)*51<=t.length
  .have e1:51-min 51 (t.length-k*51)=0:=U;have e2:(k+1)*51-t.length=0:=U;rw[e1,e2];simp only[List.replicate_zero,Br];rw[show(k+1)*51=k*51+51 by omega,List.take_add]
  have e1:51-min 51 (t.length-k*51)=(k+1)*51-t.length:=U;rw[e1];rw[AT (l:=t++_) EL];rw[<-Aw];congr 1;rw[AT (l:=t.drop (k*51)) EL];exact CZ _ _
theorem tV(t:Bs):∃z,((List.range (EK t.length)).map λi=>(t.drop (i*51)).take 51++List.replicate (51-((t.drop (i*51)).take 51).length) (0:UInt8)).flatten=t++z:=by refine⟨List.replicate (EK t.length*51-t.length) 0,?_⟩;rw[uo t _ (AB _)];refine AT ?_;simp[EK];omega
structure Fp where
 b:Nat
 num:Nat
 at_:Nat
 c:Nat
 a:Bs
 d:Nat
deriving DecidableEq,Inhabited
def Fp.mk'(p:Pg)(i:Nat):Fp:=⟨p.b,p.num,p.at_,p.c,p.a,i⟩
def N2(g:Nat->Nat->Bs)(i p:Nat):List Fp:=((FJ (g i p)).map λq=>Fp.mk' q i).toList
def J0(g:Nat->Nat->Bs)(i:Nat):Nat->List Fp
 | 0=>[]
 | k+1=>J0 g i k++N2 g i k
def FD(g:Nat->Nat->Bs)(np:Nat):Nat->List Fp
 | 0=>[]
 | k+1=>FD g np k++J0 g k np
theorem vX(g:Nat->Nat->Bs)(i p:Nat):(N2 g i p).length<=1:=by unfold N2;cases FJ (g i p)<;>simp
theorem gy(g:Nat->Nat->Bs)(i:Nat):∀k,(J0 g i k).length<=k
 |0=>by simp[J0]
 | k+1=>by
   have a:=gy g i k;have b:=vX g i k;simp only[J0,AM];omega
theorem KB(g:Nat->Nat->Bs)(a:Nat):∀k,(FD g a k).length<=k*a
 |0=>by simp[FD]
 | k+1=>by
   have b:=KB g a k;have c:=gy g k a;simp only[FD,AM,Nat.succ_mul];omega
theorem nC{g:Nat->Nat->Bs}{i p:Nat}{f:Fp}:f∈N2 g i p↔∃q,FJ (g i p)=some q/\f=Fp.mk' q i:=by
 unfold N2;cases h:FJ (g i p)with
 |none=>simp
 |some q=>simp
theorem lX{g:Nat->Nat->Bs}{i:Nat}{f:Fp}:∀{k},f∈J0 g i k↔∃p q,p<k/\FJ (g i p)=some q/\f=Fp.mk' q i
 |0=>by simp[J0]
 | k+1=>by
   rw[J0,Aj,lX,nC]
   constructor
   .rintro(⟨p,q,a,h⟩|⟨q,h⟩)
    .exact⟨p,q,by omega,h⟩
    exact⟨k,q,by omega,h⟩
   rintro⟨p,q,a,h⟩;by_cases e:p=k
   .subst e;exact .s ⟨q,h⟩
   exact .w ⟨p,q,by omega,h⟩
theorem GV{g:Nat->Nat->Bs}{a:Nat}{f:Fp}:∀{k},f∈FD g a k↔∃i p q,i<k/\p<a/\FJ (g i p)=some q/\f=Fp.mk' q i
 |0=>by simp[FD]
 | k+1=>by
   rw[FD,Aj,GV,lX]
   constructor
   .rintro(⟨i,p,q,b,h⟩|⟨p,q,h⟩)
    .exact⟨i,p,q,by omega,h⟩
    exact⟨k,p,q,by omega,h⟩
   rintro⟨i,p,q,b,h⟩;by_cases e:i=k
   .subst e;exact .s ⟨p,q,h⟩
   exact .w ⟨i,p,q,by omega,h⟩
structure Le (f:Fp):Prop where
 b:f.b<256
 n:f.num<4294967296
 a:f.at_<f.c
 o:f.c<65536
 t:f.a.length=51
theorem IK{g:Nat->Nat->Bs}{e k:Nat}{f:Fp}(h:f∈FD g e k):Le f/\f.d<k:=by obtain⟨i,p,q,c,_,d,rfl⟩:=GV.1 h;obtain⟨a,rfl,b⟩:=MP d;have:=Nl (g i p);exact⟨⟨this.1,this.2.1,b,this.2.2.2,nu a⟩,c⟩
def MK(b n a:Nat)(f:Fp):Bool:=f.b==b&&f.num==n&&f.at_==a
theorem JN{b n a:Nat}{f:Fp}:MK b n a f=true↔f.b=b/\f.num=n/\f.at_=a:=by simp[MK,and_assoc]
def Ea(l:List Fp)(b n a:Nat):Option Fp:=l.find? (MK b n a)
theorem fy(l:List Fp)(f:Fp)(b n a:Nat):Ea (l++[f]) b n a=if(Ea l b n a).isSome then Ea l b n a else if MK b n a f then some f else none:=by
 unfold Ea;rw[List.find?_append];cases h:l.find? (MK b n a)with
 |some x=>simp
 |none=>cases c:MK b n a f<;>simp[List.find?,c]
theorem Oa{l:List Fp}{b n a:Nat}{f:Fp}(h:Ea l b n a=some f):f∈l/\f.b=b/\f.num=n/\f.at_=a:=
 ⟨List.mem_of_find?_eq_some h,JN.1 (List.find?_some h)⟩
theorem eX{l:List Fp}{f:Fp}(h:f∈l)(g:∀x∈l,x.b=f.b->x.num=f.num->x.at_=f.at_->x=f):Ea l f.b f.num f.at_=some f:=by
 cases a:Ea l f.b f.num f.at_ with
 |some x=>obtain⟨b,c,d,e⟩:=Oa a;rw[g x b c d e]
 |none=>unfold Ea at a;have:=List.find?_eq_none.1 a f h;simp[MK]at this
theorem MM{l:List Fp}{b n a:Nat}:Ea l b n a=none↔∀f∈l,¬(f.b=b/\f.num=n/\f.at_=a):=by
 unfold Ea;rw[List.find?_eq_none];constructor
 .intro h f d c;exact h f d (JN.2 c)
 intro h f d c;exact h f d (JN.1 c)
def Fc(l:List Fp)(b n:Nat):Bool:=l.any λf=>f.b==b&&f.num==n
theorem FE{l:List Fp}{b n:Nat}:Fc l b n=true↔∃f∈l,f.b=b/\f.num=n:=by simp[Fc]
def M5(l:List Fp)(b n:Nat):Nat:=((Ea l b n 0).map Fp.c).getD 0
def Fz(l:List Fp)(b n o:Nat):Nat->Option (List Fp)
 | 0=>some []
 | k+1=>match Fz l b n o k,Ea l b n k with
   | some ps,some f=>if f.c=o then some (ps++[f])else none
   | _,_=>none
def GO(l:List Fp)(b n:Nat):Option (List Fp):=if M5 l b n=0 then none else Fz l b n (M5 l b n) (M5 l b n)
theorem Xg{l:List Fp}{b n o:Nat}:∀{k j:Nat},k<=j->Fz l b n o k=none->Fz l b n o j=none:=by
 intro k j _ h;induction j with
 | zero=>have:k=0:=U
         subst this;exact h
 |succ j a=>
   by_cases e:k=j+1
   .subst e;exact h
   rw[Fz,a U]
def Fi(ps:List Fp):Bs:=(ps.map Fp.a).flatten
def LG(ps:List Fp)(j:Nat):Bool:=ps.any λf=>f.d==j
def IW(ps:List Fp):Nat:=(ps.getLast?.map Fp.d).getD 0
theorem WN(a:List Fp)(f:Fp):Fi (a++[f])=Fi a++f.a:=by simp[Fi]
theorem gw(a:List Fp)(f:Fp)(j:Nat):LG (a++[f]) j=(j==f.d||LG a j):=by simp[LG,Bool.or_comm,BEq.comm (a:=f.d)]
theorem ly(a:List Fp)(f:Fp):IW (a++[f])=f.d:=by simp[IW]
def Md(b n:Nat)(t:Bs)(k i:Nat):Fp:=⟨b,n,k,EK t.length,(t.drop (k*51)).take 51++List.replicate (51-((t.drop (k*51)).take 51).length) 0,i⟩
theorem iJ{l:List Fp}{b n:Nat}{t:Bs}{a:Nat->Nat}(h:∀k,k<EK t.length->Ea l b n k=some (Md b n t k (a k))):∀k,k<=EK t.length->Fz l b n (EK t.length) k=some ((List.range k).map λj=>Md b n t j (a j))
 |0,_=>rfl
 | k+1,c=>by
   rw[Fz,iJ h k U,h k U,Be];simp[Md]
theorem kj{l:List Fp}{b n:Nat}{t:Bs}{a:Nat->Nat}(e:0<t.length)(h:∀k,k<EK t.length->Ea l b n k=some (Md b n t k (a k))):GO l b n=some ((List.range (EK t.length)).map λj=>Md b n t j (a j)):=by
 have d:0<EK t.length:=by unfold EK;omega
 have c:M5 l b n=EK t.length:=by unfold M5;rw[h 0 d];rfl
 unfold GO;rw[c,AC U];exact iJ h _ (AB _)
theorem mQ(b n:Nat)(t:Bs)(a:Nat->Nat):∃z,Fi ((List.range (EK t.length)).map λj=>Md b n t j (a j))=t++z:=by obtain⟨z,c⟩:=tV t;refine⟨z,?_⟩;rw[<-c];unfold Fi;rw[Cj];rfl
end Go.Nt
namespace Go.Proofs.YtodmdkhdbfbfgaaGreatDoor
namespace Y
open Go.RowKit Pk
variable {i b n:Nat} {w:Z} {S:Nat->Bool}
theorem OP:Maps.Keyed prog 3:=Maps.int_keyed underlying3
theorem Oi(h:i<=1000000):keyOf prog 3 (.int .i64 i)=some (.int .i64 i):=Maps.keyOf_int_mk underlying3 (by simp[Lit.wf,IntKind.min,IntKind.max,IntKind.signed,IntKind.bits];omega)
theorem Zt(w:Z):(zeroValue 243).run prog w=.ok (.agg #[]) w:=EG
def FI(w:Z)(b:Nat)(n:Nat)(S:Nat->Bool):Prop:=
 ∃D:DataW Unit,w.ownsMap prog 3 unitElem b n D/\∀i:Nat,Maps.has D (.int .i64 i)=S i
def Ri(w:Z)(v:Option Nat)(n:Nat)(S:Nat->Bool):Prop:=(v=none/\∀i,S i=false)\/∃b,v=some b/\FI w b n S
theorem FI.lt(h:FI w b n S):b<w.heap.size:=by obtain⟨_,h,_⟩:=h;exact h.lt
theorem FI.y{w':Z}(h:FI w b n S)(f:w'.heap[b]?=w.heap[b]?):FI w' b n S:=by obtain⟨D,⟨c,a,d,e⟩,g⟩:=h;exact⟨D,⟨c,a,f.i d,e⟩,g⟩
theorem FI.l{n':Nat}(h:FI w b n S)(d:n<=n'):FI w b n' S:=by obtain⟨D,a,c⟩:=h;exact⟨D,a.l d,c⟩
theorem FI.congr{T:Nat->Bool}(h:FI w b n S)(e:∀i,S i=T i):FI w b n T:=by obtain⟨D,a,c⟩:=h;exact⟨D,a,λi=>(c i).i (e i)⟩
theorem YS(w:Z):FI (w.alloc (.map #[] 0)) w.heap.size 0 (λ_=>false):=⟨.map [],DJ w _ _ _,λi=>rfl⟩
theorem FI.look(h:FI w b n S)(e:i<=1000000):(Instr.lookup 92 (.e b) (.a i) true).run prog w=.ok (.tuple #[.agg #[],.bool (S i)]) w:=by obtain⟨_,f,d⟩:=h;obtain⟨_,_,a,c⟩:=f.look_ok OP underlying92 (Zt w) unitElem_mk (Oi e);rw[d i,(unitElem_inv c).1]at a;exact a
theorem oD(w:Z)(a:i<=1000000):(Instr.lookup 92 (.map none) (.a i) true).run prog w=.ok (.tuple #[.agg #[],.bool false]) w:=by have:=Maps.look_nil (w:=w) true OP underlying92 (Zt w) (Oi a);simpa using this
theorem Ri.look{v:Option Nat}(h:Ri w v n S)(a:i<=1000000):(Instr.lookup 92 (.map v) (.a i) true).run prog w=.ok (.tuple #[.agg #[],.bool (S i)]) w:=by
 rcases h with⟨rfl,h⟩|⟨b,rfl,h⟩
 .rw[h i];exact oD w a
 exact h.look a
theorem int_ne{j:Nat}(h:i≠j):Lit.int .i64 i≠.int .i64 j:=λe=>h (by cases e;rfl)
theorem FI.store(h:FI w b n S)(k:i<=1000000)(l:n<=1000000):∃w',(Instr.mapUpdate 92 (.e b) (.a i) (.agg #[])).run prog w=.ok () w'/\FI w' b (n+1) (λj=>j==i||S j)/\w.mapTurned w' b:=by
 obtain⟨_,a,g⟩:=h;obtain⟨w',c,d,f⟩:=a.store OP underlying92 Fs (Oi k) unitElem_mk;refine⟨w',c,⟨_,d,λj=>?_⟩,f⟩;by_cases e:j=i
 .subst e;rw[Cx a.isMap (k:=.int .i64 j) trivial];simp
 rw[Bp (int_ne e),g j];simp[e]
theorem FI.drop(h:FI w b n S)(k:i<=1000000)(a:TypeId):∃w',(Builtin.delete_ #[92,3] a #[.e b,.a i]).run prog w=.ok (.tuple #[]) w'/\FI w' b n (λj=>!(j==i)&&S j)/\w.mapTurned w' b:=by
 obtain⟨_,l,g⟩:=h;obtain⟨w',c,d,f⟩:=l.drop OP underlying92 (Oi k) a;refine⟨w',c,⟨_,d,λj=>?_⟩,f⟩;by_cases e:j=i
 .subst e;rw[Maps.has_del_same];simp
 rw[Maps.has_del_other (int_ne e),g j];simp[e]
theorem gL(v:Option Nat)(n i:Nat)(S:Nat->Bool)(w:Z)(h:Ri w v n S)(b:i<=1000000):Calls prog 243 #[.map v,.a i] w λe w'=>e=.a (.bool (S i))/\Below w.heap.size w w':=by have c:=h.look b;clear h;obtain⟨_,a⟩:=E (S i);rw[<-a]at c |-;clear a;go_enter func243,ntmps243;go_wp2;go_ret;exact⟨I,Iy⟩
theorem LV(t:Du)(w:Z)(k:t.length<=1000000000):Calls prog 123 #[.string (X t)] w λe w'=>e=.a (.a (Go.Nt.EK t.length:Nat))/\w'=w:=by
 have a:(X t).size=t.length:=EF t;obtain⟨b,d⟩:=E (X t);rw[<-d]at a |-;obtain⟨n,f⟩:=E t.length;rw[<-f]at k a |-;clear d f;have e:((n:Int)+51-1).tdiv 51=(Go.Nt.EK n:Nat):=by rw[Ba U];unfold Go.Nt.EK;omega
 obtain⟨q,g⟩:=E (Go.Nt.EK n);rw[<-g]at e |-;have l:b.size<=1000000000:=U;have i:=J a;have h:=J e;clear a g e;go_enter func123,ntmps123;go_wp2;go_ret;refine⟨Ma ?_,I⟩;have j:=i.o;have c:=h.o;rw[<-j]at c;rw[<-c];first|rfl|(rw[Ba U])
def ER(m:M):Nat:=(List.range m.a).countP λi=>m.e i
theorem FV(m:M):ER m<=m.a:=by have:=List.countP_le_length (p:=λi=>m.e i) (l:=List.range m.a);simpa[ER]using this
def FT(m:M):Nat:=m.a-ER m
theorem su(m:M):FT m<=m.a:=Nat.sub_le _ _
def F5(m:M):Nat:=FT m/2*m.d
theorem K7(m:M)(h:i<m.a):IE m (i:Nat)=m.e i:=by unfold IE hasB;simp[h]
theorem X7(w:Z)(l f a:Nat)(L:Loc)(m:M)(p:WF m)(h:CP w l f a L m):Calls prog 189 #[.c a] w λe w'=>e=.a (.a (ER m:Nat))/\w'=w:=by
 have q:=J (GC w l f a L m h);have r:=J (λi (j:i<m.a)=>by have:=KA w l f a L m (i:Nat) h;rw[K7 m j]at this;exact this);have y:=p.a;clear h p;go_enter func189,ntmps189;go_wp2_with fail;refine Jj q.o ?_;go_wp2_with fail;go_loopw [3,7] (λg i wr=>wr=w/\∃k c:Nat,k<=m.a/\i=.a k/\g=.a c/\c<=k/\Hid (c=(List.range k).countP λi=>m.e i)) (λ_ i _=>m.a-(intOf i).toNat)
 case atStart=>exact⟨I,0,0,AW _,I,I,AB _,J I⟩
 case round=>
  obtain⟨rfl,k,c,_,rfl,rfl,_,n⟩:=hrel;by_cases t:k<m.a
  .have A:=J (r.o k t);have d:Hid ((List.range (k+1)).countP (λi=>m.e i)=c+if m.e k then 1 else 0):=J (by rw[Be,List.countP_append,<-n.o];cases s:m.e k<;>simp[s])
   obtain⟨b,o⟩:=E (m.e k);rw[<-o]at A d;clear o;cases b with
   |true=>
    go_wp2_with (go_at_call 94;refine Jj A.o ?_);go_roundw
    case rel=>exact⟨trivial,k+1,c+1,by omega,by go_num,by go_num,by omega,J (by rw[d.o];simp)⟩
    case measure=>simp[intOf];omega
   |false=>
    go_wp2_with (go_at_call 94;refine Jj A.o ?_);go_roundw
    case rel=>exact⟨trivial,k+1,c,by omega,by go_num,I,by omega,J (by rw[d.o];simp)⟩
    case measure=>simp[intOf];omega
  have v:k=m.a:=U;subst v;go_wp2;go_ret;have u:ER m=c:=by have x:=n.o;unfold ER;exact x.A
  exact⟨by rw[u];rfl,I⟩
theorem xO(w:Z)(g d b:Nat)(L:Loc)(m:M)(f:WF m)(h:CP w g d b L m):Calls prog 124 #[.c b] w λe w'=>e=.a (.a (F5 m:Nat))/\w'=w:=by
 have l:=J (GC w g d b L m h);have o:=J (GH w g d b L m h);have n:=J (X7 w g d b L m f h);have x:=f.a;have r:=f.b;have s:=FV m;obtain⟨a,j⟩:=E (ER m);rw[<-j]at n s;obtain⟨c,k⟩:=E m.a;rw[<-k]at l x s;obtain⟨u,i⟩:=E m.d;rw[<-i]at o r;have p:Hid (F5 m=(c-a)/2*u):=J (by unfold F5 FT;rw[j,k,i]);have e2:((c:Int)-(a:Int)).tdiv 2=(((c-a)/2:Nat):Int):=by rw[Ba U];omega
 obtain⟨q,t⟩:=E ((c-a)/2);have v:q<=16:=U;have e3:((c:Int)-(a:Int))/2=(q:Nat):=U;rw[<-t]at e2 p;have y:q*u<=256:=Co v r;clear h f j k i t;go_enter func124,ntmps124;go_wp2_with (first|(go_at_call 76;refine Jj l.o ?_)|(go_at_call 77;refine Jj o.o ?_)|(go_at_call 189;refine Jj n.o ?_));go_ret;exact⟨by rw[p.o];simp,I⟩
theorem Xp(b n i:Nat)(S:Nat->Bool)(w:Z)(h:FI w b n S)(g:i<=1000000)(k:n<=1000000):Calls prog 126 #[.e b,.a i] w λe w'=>e=.a (.tuple #[])/\FI w' b (n+1) (λj=>j==i||S j)/\w.mapTurned w' b:=by obtain⟨_,_,a,c⟩:=h.store g k;have f:=J a;have d:=J c;clear h a c;go_enter func126,ntmps126;go_wp2;go_end0;exact⟨I,f.o,d.o⟩
end Y
namespace Y
open Go.RowKit Pk
structure Fm (S:Nat->Prop) (w w':Z):Prop where
 os:w'.os=w.os
 tape:w'.tape=w.tape
 output:w'.output=w.output
 size:w.heap.size<=w'.heap.size
 u:∀k,k<w.heap.size->¬S k->w'.heap[k]?=w.heap[k]?
namespace Fm
variable {S T:Nat->Prop} {a b c:Z}
theorem refl(S:Nat->Prop)(w:Z):Fm S w w:=⟨I,I,I,AB _,λ_ _ _=>rfl⟩
theorem i(h:Fm S a b)(k:Fm S b c):Fm S a c:=
 ⟨k.os.i h.os,k.tape.i h.tape,k.output.i h.output,AG h.size k.size,λi d e=>(k.u i (AQ d h.size) e).i (h.u i d e)⟩
theorem l(h:Fm S a b)(e:∀k,k<a.heap.size->S k->T k):Fm T a b:=⟨h.os,h.tape,h.output,h.size,λk c d=>h.u k c (λf=>d (e k c f))⟩
theorem of_below{B:Nat}(h:Below B a b)(d:∀k,B<=k->k<a.heap.size->S k):Fm S a b:=
 ⟨h.os,h.tape,h.output,h.size,λk e f=>h.u k (by
  rcases CS k B with c|c
  .exact c
  exact absurd (d k c e) f)⟩
theorem d(h:Below a.heap.size a b):Fm S a b:=of_below h λ_ c _=>absurd c U
theorem Mr{f c:Nat}(h:Ed f c a b)(e:∀k,f<=k->k<c->S k):Fm S a b:=
 ⟨h.os,h.tape,h.output,h.size,λk g i=>h.u k g (λd=>i (e k d.1 d.2))⟩
theorem only{f c:Nat}(h:Fm S a b)(e:∀k,k<a.heap.size->S k->f<=k/\k<c):Ed f c a b:=
 ⟨h.os,h.tape,h.output,h.size,λk d g=>h.u k d (λi=>g (e k d i))⟩
theorem f{B:Nat}(h:Fm S a b)(e:∀k,S k->B<=k)(d:B<=a.heap.size):Below B a b:=
 ⟨h.os,h.tape,h.output,h.size,λk _=>h.u k U (λc=>by exact Dz (e k c))⟩
theorem drew(h:Fm S a b):Fm S a b.drew:=h.i ⟨I,I,I,AB _,λ_ _ _=>rfl⟩
theorem alloc(h:Fm S a b)(o:Obj):Fm S a (b.alloc o):=h.i ⟨I,I,I,by simp,λk c _=>AO b o k c⟩
theorem set(h:Fm S a b){g:Nat}(i:g<a.heap.size->S g)(o:Nat)(v:Value):Fm S a (b.setCell (O g o) v):=
 ⟨h.os,h.tape,h.output,by have:=h.size;simpa using this,λk c d=>(AH b ⟨g,o,none⟩ v k (λe=>d (by have f:k=g:=e;subst f;exact i c))).i (h.u k c d)⟩
theorem map(h:Fm S a b){g:Nat}(j:g<a.heap.size->S g)(d:b.mapTurned c g):Fm S a c:=
 ⟨d.C.os.i h.os,d.C.tape.i h.tape,d.C.output.i h.output,AG h.size d.C.size,λk f i=>(d.C.u k (AQ f h.size) (λe=>by cases e;exact i (j f))).i (h.u k f i)⟩
end Fm
theorem ON(w:Z):(Instr.makeMap 92 none).run prog w=.ok (.e w.heap.size) (w.alloc (.map #[] 0)):=by simp[Instr.makeMap,Result.andThen]
def F3(m:M)(n:Nat):Int:=if m.b=0 then 10 else if F5 m<Go.Nt.EK n then 9 else 0
theorem eU(w:Z)(k i d:Nat)(L:Loc)(m:M)(t:Du)(j:WF m)(h:CP w k i d L m)(u:t.length<=1000000000):Calls prog 74 #[.c d,.string (X t)] w λe w'=>e=.a (.a (F3 m t.length))/\w'=w:=by
 have c:=J (Er w k i d L m h);have f:=J (LV t w u);have l:=J (xO w k i d L m j h);obtain⟨_,g⟩:=E (X t);rw[<-g]at f |-;by_cases a:m.b=0
 .have e:F3 m t.length=10:=by unfold F3;rw[AD a]
  have b:(m.b==0)=true:=Cu.2 a;rw[e];rw[b]at c;clear h j g e b a;go_enter func74,ntmps74;go_wp2_with (go_at_call 25;refine Jj c.o ?_);go_ret;exact⟨I,I⟩
 have b:(m.b==0)=false:=BN.2 a;rw[b]at c;have e:F3 m t.length=if F5 m<Go.Nt.EK t.length then 9 else 0:=by unfold F3;rw[AC a]
 rw[e];obtain⟨p,o⟩:=E (Go.Nt.EK t.length);obtain⟨r,q⟩:=E (F5 m);rw[<-o]at f |-;rw[<-q]at l |-;clear h j g e b a o q;by_cases n:r<p;focus
  have s:(r:Int)<(p:Int):=U;rw[AD n]
 rotate_left
 focus
  have s:¬(r:Int)<(p:Int):=U;rw[AC n]
 rotate_left
 all_goals
  go_enter func74,ntmps74;go_wp2_with (first|(go_at_call 25;refine Jj c.o ?_)|(go_at_call 123;refine Jj f.o ?_)|(go_at_call 124;refine Jj l.o ?_));go_ret;exact⟨I,I⟩
theorem Xv(m:M)(b:Int):(FC m b).2.a=m.a:=by
 unfold FC Jc
 repeat' split
 all_goals rfl
theorem YF(m:M)(b:Int):(FC m b).2.d=m.d:=by
 unfold FC Jc
 repeat' split
 all_goals rfl
theorem YQ(m:M)(b p:Int)(s:Du):(El m b p s).2.a=m.a:=by
 unfold El Gk
 repeat' split
 all_goals rfl
theorem Wz(m:M)(b p:Int)(s:Du):(El m b p s).2.d=m.d:=by
 unfold El Gk
 repeat' split
 all_goals rfl
def E4(m:M):Nat->M×(Nat->Bool)
 | 0=>(m,λ_=>false)
 | k+1=>((FC (E4 m k).1 (k:Nat)).2,if(FC (E4 m k).1 (k:Nat)).1 then(λj=>j==k||(E4 m k).2 j)else(E4 m k).2)
theorem lJ(m:M):∀k,(E4 m k).1.a=m.a
 |0=>rfl
 |k+1=>by rw[E4];exact(Xv _ _).i (lJ m k)
theorem WJ{m:M}(h:WF m):∀k,WF (E4 m k).1
 |0=>h
 |k+1=>by rw[E4];exact Ve (WJ h k) _
theorem xM(w:Z)(b a c:Nat)(L:Loc)(m:M)(P:WF m)(h:CP w b a c L m)(n:a<=w.heap.size):Calls prog 75 #[.c c] w λe w'=>e=.a (.e w.heap.size)/\CP w' b a c L (E4 m m.a).1/\FI w' w.heap.size m.a (E4 m m.a).2/\Ed b a w w':=by
 have Q:=P.a;obtain⟨p,l⟩:=E (w.alloc (.map #[] 0));have G:=JK l;have y:CP p b a c L m:=EM.f h n G;have R:FI p w.heap.size 0 (λ_=>false):=by rw[l];exact YS w
 have B:=J (GC p b a c L m y);have f:=J y;have D:=J R;have q:Hid (Ed b a w p):=J (Ed.of_below G);have S:=J l;have N:=J P;have T:=ON w;rw[<-l]at T;obtain⟨g,K⟩:=E w.heap.size;rw[<-K]at D n T |-;have n:=J K;obtain⟨s,F⟩:=E m.a;rw[<-F]at B Q |-;have W:=J F;clear h P G y R l F K;go_enter func75,ntmps75;go_wp2_with fail;refine Jj B.o ?_;go_wp2_with fail;go_loopw [8] (λi wr=>∃k:Nat,k<=s/\i=.a k/\Hid (CP wr b a c L (E4 m k).1)/\Hid (FI wr g k (E4 m k).2)/\Hid (Ed b a w wr)) (λi _=>s-(intOf i).toNat)
 case atStart=>exact⟨0,AW _,I,f,D,q⟩
 case round=>
  clear f D q S B;obtain⟨k,_,rfl,u,o,v⟩:=hrel;have f:g<wr.heap.size:=o.o.lt;by_cases F:k<s
  .have A:=J (fq wr b a c L (E4 m k).1 (k:Nat) (WJ N.o k) u.o U);obtain⟨r,N⟩:=E ((FC (E4 m k).1 (k:Nat)).1);have z:Hid (E4 m (k+1)=((FC (E4 m k).1 (k:Nat)).2,if r then(λj=>j==k||(E4 m k).2 j)else(E4 m k).2)):=J (by rw[N];rfl);rw[<-N]at A;clear N;go_wp2_with fail;refine A.o.l ?_;rintro e t ⟨rfl,l,q⟩;have W:FI t g k (E4 m k).2:=o.o.y (q.u g f U);have x:Hid (CP t b a c L (E4 m (k+1)).1):=J (by rw[z.o];exact l);have d:=J (v.o.i q);have G:=AQ f q.size;have C:=J W;clear A l q u o v W;cases r with
   |true=>
    have Q:=J (Xp g k k _ t C.o U U);go_wp2_with fail;refine Q.o.l ?_;rintro e V ⟨rfl,S,f⟩;have B:Hid (CP V b a c L (E4 m (k+1)).1):=J (EM.a x.o λj _ _=>f.C.u j U (λe=>by cases e;omega));have H:Hid (FI V g (k+1) (E4 m (k+1)).2):=J (by rw[z.o];exact S);have y:Hid (Ed b a w V):=J ⟨f.C.os.i d.o.os,f.C.tape.i d.o.tape,f.C.output.i d.o.output,AG d.o.size f.C.size,λj l D=>(f.C.u j (AQ l d.o.size) (λe=>by cases e;exact Dz n.o)).i (d.o.u j l D)⟩;clear S f C x d Q;go_wp2;go_roundw
    case rel=>exact⟨k+1,by omega,by go_num,B,H,y⟩
    case measure=>simp[intOf];omega
   |false=>
    have H:Hid (FI t g (k+1) (E4 m (k+1)).2):=J (by rw[z.o];exact C.o.l U);go_wp2;go_roundw
    case rel=>exact⟨k+1,by omega,by go_num,x,H,d⟩
    case measure=>simp[intOf];omega
  have q:k=s:=U;subst q;go_wp2;go_ret;exact⟨I,u.o,o.o,v.o⟩
end Y
section
open Go.RowKit Go.Nt
variable {a:Option Addr} {b o:Nat} {w w':Z} {x:It} {l:List It}
theorem J{p:Prop}(h:p):Hid p:=h
def X(l:Du):ByteArray:=⟨l.toArray⟩
theorem EF(l:Du):(X l).size=l.length:=by simp[X,ByteArray.size]
theorem lY(l:Du):(X l).data.toList=l:=rfl
theorem fW(s:ByteArray):s=X s.data.toList:=(Lib.mk_data s).A
theorem O0(s:Du)(k:Nat)(h:k<(X s).size):(X s)[k]'h=s.getD k 0:=by
 have a:k<s.length:=by rw[EF]at h;exact h
 show s.toArray[k]=_;simp[List.getD,a]
theorem Ka(l:Du)(a b:Nat):(X l).extract a b=X ((l.drop a).take (b-a)):=by rw[Lib.extract_eq];rfl
theorem Mn(l:Du):(X l).toList=l:=by rw[Lib.toList_data];rfl
theorem Of(a b:Du):((X a).toList==(X b).toList)=decide (a=b):=by rw[Mn,Mn];by_cases h:a=b<;>simp[h]
theorem Ma{k:IntKind}{a b:Int}(h:a=b):Ending.returned (.int k a)=.a (.int k b):=by rw[h]
theorem Ku{a b:Bool}(h:a=b):Ending.returned (.bool a)=.a (.bool b):=by rw[h]
theorem lt_of_heap{g:Nat}{o:Obj}(h:w.heap[g]?=some o):g<w.heap.size:=(BC.1 h).1
theorem Rp(w:Z)(p q:Nat):∃r,(w.drewN p).drewN q=w.drewN r:=⟨p+q,by simp⟩
def F6(w:Z)(b o:Nat)(x:It):Prop:=
 w.cell? (O b o)=some (.string (X x.c))/\w.cell? (O b (o+1))=some (.bool x.d)/\w.cell? (O b (o+2))=some (.string (X x.data)) /\
 w.cell? (O b (o+3))=some (.a x.a)/\w.cell? (O b (o+4))=some (.a x.b)
theorem F6.lt(h:F6 w b o x):b<w.heap.size:=Am w _ h.1
theorem F6.y(h:F6 w b o x)(a:w'.heap[b]?=w.heap[b]?):F6 w' b o x:=
 ⟨(AK a).i h.1,(AK a).i h.2.1,(AK a).i h.2.2.1,(AK a).i h.2.2.2.1,(AK a).i h.2.2.2.2⟩
theorem F6.f{B:Nat}(h:F6 w b o x)(c:Below B w w')(a:b<B):F6 w' b o x:=h.y (c.u b a)
theorem F6.drewN(h:F6 w b o x)(q:Nat):F6 (w.drewN q) b o x:=h.y EJ
def Eh(w:Z)(a:Option Addr)(l:List It):Prop:=
 l≠[]->∃b off,a=some (O b off)/\∀k (x:It),l[k]?=some x->F6 w b (off+k*5) x
theorem Eh.f(h:Eh w a l)(f:Below w.heap.size w w'):Eh w' a l:=by intro g;obtain⟨b,c,rfl,d⟩:=h g;exact⟨b,c,I,λk x e=>(d k x e).f f (d k x e).lt⟩
theorem Eh.drewN(h:Eh w a l)(q:Nat):Eh (w.drewN q) a l:=by intro f;obtain⟨b,c,rfl,d⟩:=h f;exact⟨b,c,I,λk x e=>(d k x e).drewN q⟩
variable {a b:Bs} {k:Nat}
theorem QF(w:Z)(p q r:Nat):∃n,((w.drewN p).drewN q).drewN r=w.drewN n:=⟨p+q+r,by simp⟩
theorem qT(c:k<a.length)(d:k<b.length)(e:a.getD k 0=b.getD k 0):less (a.drop k) (b.drop k)=less (a.drop (k+1)) (b.drop (k+1)):=by
 rw[Ah c,Ah d];have:a[k]=b[k]:=by simpa[List.getD,c,d]using e
 simp[less,this]
theorem mi(c:k<a.length)(d:k<b.length)(e:a.getD k 0≠b.getD k 0):less (a.drop k) (b.drop k)=decide (key (a.getD k 0)<key (b.getD k 0)):=by
 rw[Ah c,Ah d];have f:a.getD k 0=a[k]:=by simp[List.getD,c]
 have g:b.getD k 0=b[k]:=by simp[List.getD,d]
 rw[f,g]at e |-;simp[less,e]
theorem oV(c:k=a.length)(d:k<=b.length):less (a.drop k) (b.drop k)=decide (a.length<b.length):=by
 subst c;rw[List.drop_length];rcases CS a.length b.length with h|h
 .rw[Ah h];simp[less,h]
 rw[CU h];simp[less];omega
theorem wW(c:k<a.length)(d:k=b.length):less (a.drop k) (b.drop k)=decide (a.length<b.length):=by subst d;rw[List.drop_length,Ah c];simp[less];omega
theorem rA(a b:Bs)(w:Z)(H:a.length<=4611686018427387904)(K:b.length<=4611686018427387904):Calls prog 209 #[.string (X a),.string (X b)] w λe w'=>e=.a (.bool (less a b))/\∃q,w'=w.drewN q:=by
 obtain⟨A,s⟩:=E (X a);obtain⟨B,t⟩:=E (X b);have x:A.size=a.length:=by rw[s,EF]
 have y:B.size=b.length:=by rw[t,EF]
 have F:Hid (∀k (h:k<A.size),A[k]'h=a.getD k 0):=λk h=>by subst s;exact O0 a k h
 have G:Hid (∀k (h:k<B.size),B[k]'h=b.getD k 0):=λk h=>by subst t;exact O0 b k h
 rw[<-s,<-t];have N:A.size<=4611686018427387904:=U;have P:B.size<=4611686018427387904:=U;have r:=J x;have o:=J y;clear s t x y H K;go_enter func209,ntmps209;go_wp2;go_loopw [5] (λi wr=>∃k:Nat,k<=A.size/\k<=B.size/\i=.a k/\(∃q,wr=w.drewN q)/\Hid (less a b=less (a.drop k) (b.drop k))) (λi _=>A.size-(intOf i).toNat)
 case atStart=>exact⟨0,AW _,AW _,I,⟨0,I⟩,(rfl:less a b=less (a.drop 0) (b.drop 0))⟩
 case round=>
  obtain⟨k,_,_,rfl,⟨q,rfl⟩,n⟩:=hrel;by_cases f:k<A.size
  .have z:decide ((k:Int)<(A.size:Int))=true:=EU f;by_cases d:k<B.size
   .have C:decide ((k:Int)<(B.size:Int))=true:=EU d;have l:=F.o k f;have m:=G.o k d;by_cases e:A[k]'f=B[k]'d
    .have c:Hid (less a b=less (a.drop (k+1)) (b.drop (k+1))):=n.o.i (qT (Dz r.o) (Dz o.o) (by rw[<-l,<-m];exact e));have D:((A[k]'f).toNat:Int)=((B[k]'d).toNat:Int):=by rw[e]
     clear l m e;go_wp2;go_quiet (fail);go_wp2;go_roundw
     case rel=>exact⟨k+1,by omega,by omega,by go_num,⟨_,I⟩,c⟩
     case measure=>simp[intOf];omega
    have c:Hid (less a b=decide (key (A[k]'f)<key (B[k]'d))):=n.o.i (by rw[mi (Dz r.o) (Dz o.o) (by rw[<-l,<-m];exact e),<-l,<-m]);have D:((A[k]'f).toNat:Int)≠((B[k]'d).toNat:Int):=λh=>e (BR.1 U);clear l m;go_wp2;go_quiet (fail);go_wp2;by_cases g:A[k]'f=47
    .have L:(((A[k]'f).toNat:Int)==47)=true:=by rw[g];rfl
     have j:Hid (less a b=true):=c.o.i (by have:B[k]'d≠47:=λh=>e (g.i h.A);simp[key,g,this])
     clear c e;go_quiet (fail);go_wp2;go_ret;exact⟨Ku j.o.A,QF _ _ _ _⟩
    have L:(((A[k]'f).toNat:Int)==47)=false:=BN.2 λh=>g (BR.1 (by have:(47:UInt8).toNat=47:=I;omega));by_cases p:B[k]'d=47
    .have M:(((B[k]'d).toNat:Int) != 47)=false:=by rw[p];rfl
     have j:Hid (less a b=false):=c.o.i (by simp[key,g,p]);clear c e;go_quiet (fail);go_wp2;go_ret;exact⟨Ku j.o.A,QF _ _ _ _⟩
    have M:(((B[k]'d).toNat:Int) != 47)=true:=Di.2 λh=>p (BR.1 (by have:(47:UInt8).toNat=47:=I;omega));have j:Hid (less a b=decide ((A[k]'f).toNat<(B[k]'d).toNat)):=c.o.i (by simp only[key,AC g,AC p];congr 1;apply propext;omega)
    clear c e;go_quiet (fail);go_wp2;go_ret;exact⟨Ku j.o.A,QF _ _ _ _⟩
   have C:decide ((k:Int)<(B.size:Int))=false:=EU d;have c:Hid (less a b=decide (A.size<B.size)):=n.o.i (by have u:=r.o;have v:=o.o;rw[wW U U];simp[u,v]);go_wp2;go_ret;exact⟨Ku c.o.A,q,I⟩
  have z:decide ((k:Int)<(A.size:Int))=false:=EU f;have c:Hid (less a b=decide (A.size<B.size)):=n.o.i (by have u:=r.o;have v:=o.o;rw[oV U U];simp[u,v]);go_wp2;go_ret;exact⟨Ku c.o.A,q,I⟩
variable {p n:Bs} {f k:Nat}
def glue(c:Bs):List Bs->List Bs
 | []=>[c]
 | n::ns=>(c++n)::ns
theorem fB(p:Bs):glue [] (split p)=split p:=by obtain⟨_,_,e⟩:=Oc p;rw[e];rfl
theorem jm(c r:Bs):glue c (split (47::r))=c::split r:=by rw[NU];simp[glue]
theorem nL(c r:Bs){x:UInt8}(h:x≠47):glue c (split (x::r))=glue (c++[x]) (split r):=by obtain⟨_,_,e⟩:=Oc r;rw[NT h e,e];simp[glue]
theorem qq(c r:Bs):∃n a,glue c (split (0::r))=n::a/\n.contains 0=true:=by obtain⟨n,a,e⟩:=Oc r;rw[NT EB e];exact⟨_,_,I,by simp⟩
structure I9 (p:Bs) (done:List Bs) (f k:Nat):Prop where
 hf:f<=k
 hk:k<=p.length
 sp:split p=done++glue ((p.drop f).take (k-f)) (split (p.drop k))
 z:(0:UInt8)∉(p.drop f).take (k-f)
 ok:done.all FZ=true
 len:done.length<=k
theorem I9.start(p:Bs):I9 p [] 0 0:=⟨AB _,AW _,by simp[fB],by simp,I,AW _⟩
theorem Ym{done:List Bs}{b:List Bs}(h:split p=done++n::b)(a:FZ n=false):EO p=false:=by unfold EO;rw[h];simp[a]
theorem I9.zero{done:List Bs}(h:I9 p done f k)(a:k<p.length)(e:p.getD k 0=0):EO p=false:=by
 have b:p.drop k=0::p.drop (k+1):=by
  rw[Ah a];have:p[k]=0:=by simpa[List.getD,a]using e
  rw[this]
 have:=h.sp;rw[b]at this;obtain⟨_,_,e1,e2⟩:=qq ((p.drop f).take (k-f)) (p.drop (k+1));rw[e1]at this;exact Ym this (by simp only[FZ,e2];simp)
theorem jM(b:f<=k)(a:k<p.length):(p.drop f).take (k+1-f)=(p.drop f).take (k-f)++[p.getD k 0]:=by have:k+1-f=(k-f)+1:=U;rw[this,Al];congr 1;rw[C4];have e:f+(k-f)=k:=U;rw[e];simp[List.getD,a]
theorem I9.other{done:List Bs}(h:I9 p done f k)(b:k<p.length)(d:p.getD k 0≠0)(c:p.getD k 0≠47):I9 p done f (k+1):=by
 have e:p.drop k=p.getD k 0::p.drop (k+1):=by rw[Ah b];simp[List.getD,b]
 refine⟨by have:=h.hf;omega,by omega,?_,?_,h.ok,by exact Dz h.len⟩
 .rw[jM h.hf b,<-nL _ _ c,<-e];exact h.sp
 rw[jM h.hf b];have:=h.z;simp only[Aj,CN];intro a;rcases a with a|a
 .exact this a
 exact d a.A
theorem I9.Og{done:List Bs}(h:I9 p done f k)(b:k<p.length)(a:p.getD k 0=47)(c:FZ ((p.drop f).take (k-f))=false):EO p=false:=by
 have d:p.drop k=47::p.drop (k+1):=by
  rw[Ah b];have:p[k]=47:=by simpa[List.getD,b]using a
  rw[this]
 have:=h.sp;rw[d,jm]at this;exact Ym this c
theorem I9.slash{done:List Bs}(h:I9 p done f k)(b:k<p.length)(a:p.getD k 0=47)(c:FZ ((p.drop f).take (k-f))=true):I9 p (done++[(p.drop f).take (k-f)]) (k+1) (k+1):=by
 have d:p.drop k=47::p.drop (k+1):=by
  rw[Ah b];have:p[k]=47:=by simpa[List.getD,b]using a
  rw[this]
 refine⟨AB _,by omega,?_,by simp,by simp[h.ok,c],by simp;exact Dz h.len⟩;have:=h.sp;rw[d,jm]at this;rw[this];simp[fB]
theorem I9.last{done:List Bs}(h:I9 p done f p.length):split p=done++[(p.drop f).take (p.length-f)]:=by have:=h.sp;rw[List.drop_length]at this;simpa[split,glue]using this
theorem I9.Pm{done:List Bs}(h:I9 p done f p.length)(a:FZ ((p.drop f).take (p.length-f))=false):EO p=false:=Ym h.last a
theorem uJ(a:(0:UInt8)∉n):FZ n=(n≠[]&&n≠[46]&&n≠[46,46]&&decide (n.length<=20)):=by
 unfold FZ;have:n.contains 0=false:=by
  cases h:n.contains 0 with
  |false=>rfl
  |true=>exact absurd (Bk.1 h) a
 rw[this];simp
theorem Kq:(prog.info? 9).map (λi=>(i.zero,i.size,i.bytes))=some (some (.string ByteArray.empty),1,16):=EG
def Lf(l:List Bs):List Value:=l.map λn=>.string (X n)
theorem mB(l:List Bs)(n:Bs):Lf l++[.string (X n)]=Lf (l++[n]):=by simp[Lf]
theorem I9.R8{p:Bs}{done:List Bs}{f:Nat}(h:I9 p done f p.length)(a:FZ ((p.drop f).take (p.length-f))=true):split p=done++[(p.drop f).take (p.length-f)]/\EO p=decide (done.length+1<=6):=by refine⟨h.last,?_⟩;unfold EO;rw[h.last];have:=h.ok;rw[List.all_append,this];simp[a]
theorem Qa{w:Z}{base:Nat}{e:TypeId}{a:Nat}{v:Value}{n:Nat}{c:List Value}(h:w.ownsRow base e a v (n+1) c):∃g cap,v=.b g (n+1) cap:=by
 rcases h.2 with⟨_,b⟩|⟨g,cap,_,rfl,_⟩
 .exact absurd b U
 exact⟨g,cap,I⟩
theorem ft{n:Bs}(f:(0:UInt8)∉n)(x:ByteArray)(e:x=X n):(FZ n=false/\((x.toList==[])=true\/((x.toList==[])=false/\(x.toList==[46])=true)\/((x.toList==[])=false/\(x.toList==[46])=false/\(x.toList==[46,46])=true)\/((x.toList==[])=false/\(x.toList==[46])=false/\(x.toList==[46,46])=false/\20<n.length))) \/ (FZ n=true/\(x.toList==[])=false/\(x.toList==[46])=false/\(x.toList==[46,46])=false/\n.length<=20):=by
 rw[uJ f];subst e;rw[Mn];by_cases a:n=[]
 .subst a;exact .w ⟨by simp,.w EJ⟩
 by_cases b:n=[46]
 .subst b;exact .w ⟨by simp,.s (.w EJ)⟩
 by_cases c:n=[46,46]
 .subst c;exact .w ⟨by simp,.s (.s (.w EJ))⟩
 by_cases d:n.length<=20
 .exact .s ⟨by simp[a,b,c,d],by simpa using a,by simpa using b,by simpa using c,d⟩
 exact .w ⟨by simp[d],.s (.s (.s ⟨by simpa using a,by simpa using b,by simpa using c,by omega⟩))⟩
theorem SU(p:Bs)(w:Z)(D:p.length<=1048576):Calls prog 152 #[.string (X p)] w λe w'=>Below w.heap.size w w'/\∃v,e=.a (.tuple #[v,.bool (EO p)]) /\ (EO p=true->w'.ownsRow w.heap.size 9 1 v (split p).length (Lf (split p))):=by
 obtain⟨c,M⟩:=E (X p);have g:c.size=p.length:=by rw[M,EF]
 have r:Hid (∀k (h:k<c.size),c[k]'h=p.getD k 0):=λk h=>by subst M;exact O0 p k h
 have ex:Hid (∀a b,c.extract a b=X ((p.drop a).take (b-a))):=λa b=>by subst M;exact Ka p a b
 rw[<-M];have n:=J g;have R:c.size<=1048576:=U;obtain⟨i0,hi,aj,an,am⟩:=An Kq;clear M g D;go_enter func152,ntmps152;go_wp2;go_loopw [4,5,6] (λv f i wr=>∃(done:List Bs) (d k:Nat) (T:Option Addr) (H:Nat),v=.slice T done.length H/\f=.a d/\i=.a k/\Hid ((k<=c.size/\I9 p done d k)\/(k=c.size+1/\split p=done/\EO p=decide (done.length<=6)))/\k<=c.size+1/\d<=k/\done.length<=k/\wr.r w.heap.size 9 1 v done.length (Lf done)/\w.b wr) (λ_ _ i _=>c.size+1-(intOf i).toNat)
 case atStart=>exact⟨[],0,0,none,0,I,I,I,J (.w ⟨AW _,I9.start p⟩),by omega,AB _,AB _,Af _ _ _ _,AP _ _⟩
 case round=>
  obtain⟨done,d,k,T,H,rfl,rfl,rfl,R,_,_,_,s,m⟩:=hrel;have D:=m.size;by_cases hk:k<=c.size
  .have t:Hid (I9 p done d k):=by
    rcases R.o with h|h
    .exact h.2
    exact absurd h.1 U
   clear R;by_cases o:k<c.size
   .have av:decide ((k:Int)<(c.size:Int))=true:=EU o;have S:((k:Int)==(c.size:Int))=false:=BN.2 U;have j:=r.o k o;by_cases y:c[k]'o=0
    .have l:(((c[k]'o).toNat:Int)==0)=true:=by rw[y];rfl
     have C:Hid (EO p=false):=t.o.zero (Dz n.o) (by rw[<-j];exact y);clear j y;go_wp2;go_ret2;rw[C.o];exact⟨m,_,I,λh=>by cases h⟩
    have l:(((c[k]'o).toNat:Int)==0)=false:=BN.2 λh=>y (BR.1 (by have:(0:UInt8).toNat=0:=I;omega));by_cases A:c[k]'o=47
    .have z:(((c[k]'o).toNat:Int)==47)=true:=by rw[A];rfl
     have x:Hid (p.getD k 0=47):=by rw[<-j];exact A
     have r:=ex.o d k;have K:((p.drop d).take (k-d)).length=k-d:=by have:=n.o;rw[Ac,BX];omega
     rcases ft t.o.z _ r with⟨l,N⟩|⟨g,c1,c2,c3,c4⟩
     .have C:Hid (EO p=false):=t.o.Og (Dz n.o) x.o l;clear r l j y A;rw[K]at N;rcases N with c1|⟨c1,c2⟩|⟨c1,c2,c3⟩|⟨c1,c2,c3,c4⟩;all_goals
       go_wp2;go_ret2;rw[C.o];exact⟨m,_,I,λh=>by cases h⟩
     have B:Hid (I9 p (done++[(p.drop d).take (k-d)]) (k+1) (k+1)):=t.o.slash (Dz n.o) x.o g;have M:=J (mB done ((p.drop d).take (k-d)));rw[K]at c4;have G:=J r;clear r g j;have HY:Hid (c.extract d k=X ((p.drop d).take (k-d))):=G;go_wp2_with (at_builtin;refine Av _ I (.tmp 53) (.tmp 55) 40 I w.heap.size 9 i0 (.string ByteArray.empty) 1 16 underlying40 hi aj an am I EB _ _ _ I (s.alloc _) ⟨wr.heap.size,0,none⟩ 1 1 [.string (c.extract d k)] I I ?c1 ?c2 ?c3 ?c4 ?c5 ?_)
     case c1=>exact B9 _ _ _
     case c2=>intro u P;simp at P;subst P;rfl
     case c3=>unfold maxLen;omega
     case c4=>omega
     case c5=>simp;omega
     intro v3 Q x D _;have W:w.b Q:=(m.a).C D EL (λq hq=>(s.lt q hq).1);obtain⟨L,F,rfl⟩:=Qa x;have V:Q.r w.heap.size 9 1 (.b L (done.length+1) F) (done.length+1) (Lf (done++[(p.drop d).take (k-d)])):=by rw[<-M.o,<-G.o];exact x
     clear s D m x;go_wp2;go_roundw
     case rel=>exact⟨done++[(p.drop d).take (k-d)],k+1,k+1,FH L,F,by simp,by go_num,by go_num,J (.w ⟨by omega,B.o⟩),by omega,by omega,by simp;omega,by simpa using V,W⟩
     case measure=>simp[intOf];omega
    have z:(((c[k]'o).toNat:Int)==47)=false:=BN.2 λh=>A (BR.1 (by have:(47:UInt8).toNat=47:=I;omega));have B:Hid (I9 p done d (k+1)):=t.o.other (Dz n.o) (by rw[<-j];exact y) (by rw[<-j];exact A);clear j y A;go_wp2;go_roundw
    case rel=>exact⟨done,d,k+1,T,H,I,I,by go_num,J (.w ⟨by omega,B.o⟩),by omega,by omega,by omega,s,m⟩
    case measure=>simp[intOf];omega
   have av:decide ((k:Int)<(c.size:Int))=false:=EU o;have H:k=c.size:=U;have S:((k:Int)==(c.size:Int))=true:=by rw[H];simp
   have A:Hid (I9 p done d p.length):=by have S:=t.o;have z:=n.o;rw[H,z]at S;exact S
   have y:Hid (k=p.length):=by have z:=n.o;exact H.i z
   have r:=ex.o d k;have j:True:=trivial;have K:((p.drop d).take (k-d)).length=k-d:=by have:=n.o;rw[Ac,BX];omega
   rcases ft t.o.z _ r with⟨l,N⟩|⟨g,c1,c2,c3,c4⟩
   .have C:Hid (EO p=false):=A.o.Pm (by have h:=l;rw[y.o]at h;exact h);clear r l j H;rw[K]at N;rcases N with c1|⟨c1,c2⟩|⟨c1,c2,c3⟩|⟨c1,c2,c3,c4⟩;all_goals
     go_wp2;go_ret2;rw[C.o];exact⟨m,_,I,λh=>by cases h⟩
   have B:Hid (split p=done++[(p.drop d).take (k-d)]/\EO p=decide (done.length+1<=6)):=by have h:=g;have z:=y.o;rw[z]at h |-;exact A.o.R8 h
   have M:=J (mB done ((p.drop d).take (k-d)));rw[K]at c4;have G:=J r;clear r g j H;have HY:Hid (c.extract d k=X ((p.drop d).take (k-d))):=G;go_wp2_with (at_builtin;refine Av _ I (.tmp 53) (.tmp 55) 40 I w.heap.size 9 i0 (.string ByteArray.empty) 1 16 underlying40 hi aj an am I EB _ _ _ I (s.alloc _) ⟨wr.heap.size,0,none⟩ 1 1 [.string (c.extract d k)] I I ?c1 ?c2 ?c3 ?c4 ?c5 ?_)
   case c1=>exact B9 _ _ _
   case c2=>intro u P;simp at P;subst P;rfl
   case c3=>unfold maxLen;omega
   case c4=>omega
   case c5=>simp;omega
   intro v3 Q x D _;have W:w.b Q:=(m.a).C D EL (λq hq=>(s.lt q hq).1);obtain⟨L,F,rfl⟩:=Qa x;have V:Q.r w.heap.size 9 1 (.b L (done.length+1) F) (done.length+1) (Lf (done++[(p.drop d).take (k-d)])):=by rw[<-M.o,<-G.o];exact x
   clear s D m x;go_wp2;go_roundw
   case rel=>exact⟨done++[(p.drop d).take (k-d)],k+1,k+1,FH L,F,by simp,by go_num,by go_num,J (.s ⟨by have c:=y.o;have c:=n.o;omega,B.o.1,by simpa using B.o.2⟩),by omega,by omega,by simp;omega,by simpa using V,W⟩
   case measure=>simp[intOf];omega
  have g:Hid (split p=done/\EO p=decide (done.length<=6)):=by
   rcases R.o with h|h
   .exact absurd h.1 hk
   exact h.2
  clear R;go_wp2;go_ret2;obtain⟨S,z⟩:=g.o;subst S;refine⟨m,_,?_,λ_=>s⟩;have j:decide (((split p).length:Int)<=6)=decide ((split p).length<=6):=decide_eq_decide.2 U;rw[z,<-j];rfl
theorem V9(p:Bs)(w:Z)(A:p.length<=1048576):Calls prog 153 #[.string (X p)] w λe w'=>e=.a (.string (X (par p)))/\w'=w:=by
 obtain⟨a,d⟩:=E (X p);have q:a.size=p.length:=by rw[d,EF]
 have y:Hid (∀k (h:k<a.size),a[k]'h=p.getD k 0):=λk h=>by subst d;exact O0 p k h
 have x:Hid (∀b,a.extract 0 b=X (p.take b)):=λb=>by subst d;rw[Ka];simp
 rw[<-d];have t:=J q;have B:a.size<=1048576:=U;clear d q A;go_enter func153,ntmps153;go_wp2;go_loopw [3] (λi wr=>∃k:Nat,k<=a.size/\i=.a ((k:Int)-1)/\wr=w/\Hid (∀j,k<=j->j<p.length->p.getD j 0≠47)) (λi _=>(intOf i+1).toNat)
 case atStart=>exact⟨a.size,AB _,I,I,J (λj f g=>absurd f (Dz t.o))⟩
 case round=>
  obtain⟨k,_,rfl,rfl,n⟩:=hrel;cases k with
  |zero=>have r:par p=[]:=UG λi z=>n.o i (AW _) z;have o:=J r;clear r;go_wp2;go_ret;rw[o.o];exact⟨I,I⟩
  |succ k=>
   have e1:(((k+1:Nat):Int)-1)=(k:Int):=U;rw[e1];have m:k<a.size:=U;have l:=y.o k m;by_cases c:a[k]'m=47
   .have u:(((a[k]'m).toNat:Int)==47)=true:=by rw[c];rfl
    have o:Hid (par p=p.take k):=Sc (by rw[<-l];exact c) (λi f g=>n.o i f g);have s:=J (x.o k);clear l c;go_wp2;go_ret;rw[o.o,<-s.o];exact⟨I,I⟩
   have u:(((a[k]'m).toNat:Int)==47)=false:=BN.2 λh=>c (BR.1 (by have:(47:UInt8).toNat=47:=I;omega));have v:Hid (∀j,k<=j->j<p.length->p.getD j 0≠47):=λj f g=>by
    by_cases e:j=k
    .rw[e,<-l];exact c
    exact n.o j U g
   clear l c;go_wp2;go_roundw
   case rel=>exact⟨k,by omega,by go_num,trivial,v⟩
   case measure=>simp[intOf]
def JY(l:List It)(p:Bs):Int:=match l.findIdx? (λx=>decide (x.c=p))with
 | some i=>(i:Int)
 | none=>-1
theorem zH{l:List It}{p:Bs}{k:Nat}{x:It}(d:l[k]?=some x)(e:x.c=p)(c:∀j y,j<k->l[j]?=some y->y.c≠p):JY l p=(k:Int):=by
 obtain⟨b,rfl⟩:=AN.1 d;have:l.findIdx? (λx=>decide (x.c=p))=some k:=by rw[List.findIdx?_eq_some_iff_getElem];refine⟨b,by simpa using e,λj a=>?_⟩;have:=c j l[j] a (AE U);simpa using this
 unfold JY;rw[this]
theorem ix{l:List It}{p:Bs}(a:∀x∈l,x.c≠p):JY l p = -1:=by
 have:l.findIdx? (λx=>decide (x.c=p))=none:=by rw[List.findIdx?_eq_none_iff];intro x b;simpa using a x b
 unfold JY;rw[this]
theorem Xz(l:List It)(p:Bs):(JY l p = -1/\∀x∈l,x.c≠p)\/∃k x,JY l p=(k:Nat)/\l[k]?=some x/\x.c=p/\∀j y,j<k->l[j]?=some y->y.c≠p:=by
 cases h:l.findIdx? (λx=>decide (x.c=p))with
 |none=>rw[List.findIdx?_eq_none_iff]at h;exact .w ⟨ix λx a=>by simpa using h x a,λx a=>by simpa using h x a⟩
 |some k=>have b:=h;rw[List.findIdx?_eq_some_iff_getElem]at h;obtain⟨f,c,d⟩:=h;refine .s ⟨k,l[k],by unfold JY;rw[b],AE f,by simpa using c,λj y e g=>?_⟩;obtain⟨_,rfl⟩:=AN.1 g;simpa using d j e
theorem QY(a:Option Addr)(c:Nat)(l:List It)(p:Bs)(w:Z)(B:Eh w a l)(C:l.length<=1048576):Calls prog 154 #[.slice a l.length c,.string (X p)] w λe w'=>e=.a (.a (JY l p))/\w'=w:=by
 obtain⟨P,n⟩:=E (X p);rw[<-n];have q:=J n;clear n;go_enter func154,ntmps154;go_wp2;go_loopw [5] (λi wr=>∃k:Nat,k<=l.length/\i=.a k/\wr=w/\Hid (∀j x,j<k->l[j]?=some x->x.c≠p)) (λi _=>l.length-(intOf i).toNat)
 case atStart=>exact⟨0,AW _,I,I,J (λj x h=>absurd h U)⟩
 case round=>
  obtain⟨k,_,rfl,rfl,f⟩:=hrel;by_cases m:k<l.length
  .obtain⟨b,_,rfl,r⟩:=B (λh=>by rw[h]at m;simp at m);obtain⟨x,d⟩:∃x,l[k]?=some x:=⟨_,AE m⟩;have s:=r k x d;have c0:=s.1;clear r s;have u:=J d;by_cases e:x.c=p
   .have z:((X x.c).toList==P.toList)=true:=by rw[q.o,Of];simpa using e
    have g:Hid (JY l p=(k:Int)):=zH u.o e f.o;clear d e;go_wp2;go_ret;exact⟨Ma g.o.A,I⟩
   have z:((X x.c).toList==P.toList)=false:=by rw[q.o,Of];simpa using e
   have v:Hid (∀j x,j<k+1->l[j]?=some x->x.c≠p):=λj y t o=>by
    by_cases h:j=k
    .subst h;rw[d]at o;cases o;exact e
    exact f.o j y U o
   clear d e;go_wp2;go_roundw
   case rel=>exact⟨k+1,by omega,by go_num,trivial,v⟩
   case measure=>simp[intOf];omega
  have g:Hid (JY l p = -1):=ix λx d=>by obtain⟨j,t,A⟩:=BY d;exact f.o j x U (by rw[AE t,A])
  go_wp2;go_ret;exact⟨Ma g.o.A,I⟩
def Jg(x:It):Value:=.agg #[.string (X x.c),.bool x.d,.string (X x.data),.a x.a,.a x.b]
theorem YD(a:BinOp)(x y:Operand)(b c:Array Value)(w:Z):(eqGuard a 39 x y (.agg b) (.agg c)).run prog w=.ok () w:=run_eqGuard_agg w a 39 x y b c EG
theorem qg(x y:It):(if(X x.c).toList==(X y.c).toList then if x.d==y.d then if(X x.data).toList==(X y.data).toList then if x.a==y.a then x.b==y.b else false else false else false else false)=decide (x=y):=by rw[Of,Of];obtain⟨a,b,c,d,e⟩:=x;obtain⟨f,g,h,i,j⟩:=y;simp only[It.mk.injEq];by_cases k:a=f<;>by_cases l:b=g<;>by_cases m:c=h<;>by_cases n:d=i<;>by_cases o:e=j<;>simp[k,l,m,n,o]
theorem jQ(x y:It)(w:Z):(Op.equalIn 10000 39 (Jg x) (Jg y)).run prog w=.ok (decide (x=y)) w:=by unfold Jg;rw[run_equalIn_agg w 9999 39 _ _ EG EG];rw[show prog.fieldsOf 39=_ from by unfold Program.fieldsOf;rw[underlying39]];rw[<-qg];simp[Op.eqFields,part,go_sem,underlying9,underlying4,underlying3];by_cases a:(X x.c).toList=(X y.c).toList<;>by_cases b:x.d=y.d<;>by_cases c:(X x.data).toList=(X y.data).toList<;>by_cases d:x.a=y.a<;>by_cases e:x.b=y.b<;>simp[a,b,c,d,e]
theorem lq(x y:It)(w:Z):(binOp .neq 39 (Jg x) (Jg y)).run prog w=.ok (.bool (!decide (x=y))) w:=by have h:=jQ x y w;unfold Jg at *;rw[run_neq_struct,h];rfl
theorem Io(a b:Option Addr)(c d:Nat)(l m:List It)(w:Z)(C:Eh w a l)(D:Eh w b m)(H:l.length<=1048576)(G:m.length<=1048576):Calls prog 54 #[.slice a l.length c,.slice b m.length d] w λe w'=>e=.a (.bool (decide (l=m)))/\∃q,w'=w.drewN q:=by
 by_cases o:l.length=m.length
 .obtain⟨N,s⟩:=E m.length;rw[o,<-s];have z:=J (o.i s.A);have A:=J s.A;have M:N<=1048576:=U;clear o s H G;go_enter func54,ntmps54;go_wp2;go_loopw [5] (λi wr=>∃k:Nat,k<=N/\i=.a k/\(∃q,wr=w.drewN q)/\Hid (l.take k=m.take k)) (λi _=>N-(intOf i).toNat)
  .exact⟨0,AW _,I,⟨0,I⟩,J EJ⟩
  obtain⟨k,_,rfl,⟨q,rfl⟩,B⟩:=hrel;by_cases L:k<N
  .have r:k<l.length:=Dz z.o;have p:k<m.length:=Dz A.o;obtain⟨_,_,rfl,f⟩:=C (λh=>by rw[h]at r;simp at r);obtain⟨_,_,rfl,n⟩:=D (λh=>by rw[h]at p;simp at p);obtain⟨x,t⟩:∃x,l[k]?=some x:=⟨_,AE r⟩;obtain⟨y,u⟩:∃y,m[k]?=some y:=⟨_,AE p⟩;obtain⟨_,_,_,_,_⟩:=f k x t;obtain⟨_,_,_,_,_⟩:=n k y u;change Hid _ at t u;have v:=λw=>lq x y w;unfold Jg at v;have P:=YD;clear f n C D r p;by_cases e:x=y
   .have j:(!decide (x=y))=false:=by simp[e]
    rw[j]at v;have F:Hid (l.take (k+1)=m.take (k+1)):=by show l.take (k+1)=m.take (k+1);rw[Al,Al,B.o,t.o,u.o,e]
    clear e j;go_wp2;go_quiet (fail);go_wp2;go_roundw
    .exact⟨k+1,by omega,by go_num,⟨_,I⟩,F⟩
    .simp[intOf];omega
   have j:(!decide (x=y))=true:=by simp[e]
   rw[j]at v;have g:Hid (decide (l=m)=false):=BZ λh=>by have f:=t;have n:=u;rw[h,n]at f;cases f;exact e I
   clear e j;go_wp2;go_quiet (fail);go_wp2;go_ret;exact⟨Ku g.o.A,Rp _ _ _⟩
  have g:Hid (decide (l=m)=true):=Bj (by have f:=B;have n:=z.o;have Q:=A.o;rw[AT U,AT U]at f;exact f)
  go_wp2;go_ret;exact⟨Ku g.o.A,q,I⟩
 have g:Hid (decide (l=m)=false):=BZ λh=>o (by rw[h]);have K:=Di.2 U;go_enter func54,ntmps54;go_wp2;go_ret;exact⟨Ku g.o.A,0,I⟩
variable {l:List It} {w:Z} {b o B:Nat} {x:It} {v:Value}
theorem KS:(prog.info? 39).map (λi=>(i.zero,i.size,i.bytes))=some (some (.agg #[.string ByteArray.empty,.bool false,.string ByteArray.empty,.a 0,.a 0]),5,56):=EG
def KP(x:It):List Value:=[.string (X x.c),.bool x.d,.string (X x.data),.a x.a,.a x.b]
def FF(l:List It):List Value:=l.flatMap KP
theorem ud:FF []=[]:=rfl
theorem SN(x:It)(l:List It):FF (x::l)=KP x++FF l:=rfl
theorem RU(l m:List It):FF (l++m)=FF l++FF m:=by simp[FF]
theorem QX(x:It):FF [x]=KP x:=by simp[FF]
theorem N5(l:List It):(FF l).length=l.length*5:=by
 induction l with
 |nil=>rfl
 |cons x l a=>rw[SN,AM,a];simp[KP];omega
theorem OK:∀{l:List It} {k:Nat} {x:It},l[k]?=some x->∀j,j<5->(FF l)[k*5+j]?=(KP x)[j]?
 | [],k,x,h,_,_=>by simp at h
 | y::l,0,x,h,j,hj=>by
   simp at h;subst h;rw[SN,Nat.zero_mul,Ak,BG (by simp[KP];omega)]
 | y::l,k+1,x,h,j,hj=>by
   have a:l[k]?=some x:=EU h
   rw[SN,Ao (by simp[KP];omega)]
   have:(k+1)*5+j-(KP y).length=k*5+j:=by simp[KP];omega
   rw[this];exact OK a j hj
theorem O8:∀u∈FF l,u.oneCell'=true:=by intro u b;obtain⟨_,_,a⟩:=List.mem_flatMap.1 b;simp only[KP,Ax,List.not_mem_nil,or_false]at a;rcases a with rfl|rfl|rfl|rfl|rfl<;>rfl
theorem addr_add(b o j:Nat):(⟨b,o,none⟩:Addr).add j=⟨b,o+j,none⟩:=by unfold Addr.add;split<;>simp_all
theorem F6.of_cells(h:∀j u,(KP x)[j]?=some u->w.cell? (O b (o+j))=some u):F6 w b o x:=
 ⟨h 0 _ I,h 1 _ I,h 2 _ I,h 3 _ I,h 4 _ I⟩
theorem F6.cell(h:F6 w b o x){j:Nat}{u:Value}(a:(KP x)[j]?=some u):w.cell? (O b (o+j))=some u:=by
 obtain⟨c,d,e,f,g⟩:=h;match j,a with
 |0,a=>simp[KP]at a;subst a;exact c
 |1,a=>simp[KP]at a;subst a;exact d
 |2,a=>simp[KP]at a;subst a;exact e
 |3,a=>simp[KP]at a;subst a;exact f
 |4,a=>simp[KP]at a;subst a;exact g
 |j+5,a=>simp[KP]at a
theorem TB(h:∀k (x:It),l[k]?=some x->F6 w b (o+k*5) x):∀j u,(FF l)[j]?=some u->w.cell? ((⟨b,o,none⟩:Addr).add j)=some u:=by
 intro j u a;have f:j<l.length*5:=by have:=(AN.1 a).1;rw[N5]at this;exact this
 have d:j/5<l.length:=U;have c:=AE d;have e:j=j/5*5+j%5:=U;rw[e,OK c (j%5) U]at a;rw[addr_add];have:=(h (j/5) _ c).cell a;rw[show o+j/5*5+j%5=o+j by omega]at this;exact this
theorem PT(h:w.ownsRow B 39 5 v l.length (FF l)):(v=.g/\l=[])\/∃g cap,v=.b g l.length cap/\B<=g/\g<w.heap.size/\l.length<=cap/\cap<=maxLen/\∀k (x:It),l[k]?=some x->F6 w g (0+k*5) x:=by
 rcases h.2 with⟨rfl,e⟩|⟨g,cap,a,rfl,n,b,f,i,_,m⟩
 .exact .w ⟨I,Bu e⟩
 refine .s ⟨g,cap,I,n,lt_of_heap b,f,i,λk x d=>F6.of_cells λj u c=>?_⟩;have p:k<l.length:=(AN.1 d).1;have o:j<5:=by have:=(AN.1 c).1;simpa[KP]using this
 have:=OK d j o;rw[c,<-m,Aq U]at this;rw[AU w g _ a 39 (0,0) b,Ak];simpa using this
theorem Oq(h:w.ownsRow B 39 5 v l.length (FF l)):∃a c,v=.slice a l.length c/\Eh w a l:=by
 rcases PT h with⟨rfl,rfl⟩|⟨g,b,rfl,_,_,_,_,d⟩
 .exact⟨none,0,I,λe=>absurd I e⟩
 exact⟨_,b,I,λ_=>⟨g,0,I,d⟩⟩
def ins(l:List It)(x:It):List It:=l.takeWhile (λy=>less y.c x.c)++x::l.dropWhile (λy=>less y.c x.c)
theorem fN{k:Nat}(a:k<=l.length)(c:∀j y,j<k->l[j]?=some y->less y.c x.c=true)(d:∀y,l[k]?=some y->less y.c x.c=false):ins l x=l.take k++x::l.drop k:=by
 induction l generalizing k with
 |nil=>simp at a;subst a;rfl
 |cons y l f=>
  cases k with
  |zero=>have:=d y I;simp[ins,this]
  |succ k=>have e:=c 0 y U I;have:=f (k:=k) (EU a) (λj z _ b=>c (j+1) z U (EU b)) (λz b=>d z (EU b));unfold ins at this |-;simp only[List.takeWhile_cons,List.dropWhile_cons,e,Dr,Az,this,List.take_succ_cons,List.drop_succ_cons]
end
section
open Go.Nt
variable {l m:List It} {x:It} {k:Nat}
def QS(l:List It):Prop:=l.Pairwise λx y=>less x.c y.c=true
theorem Z9(l:List It)(x:It):(ins l x).Perm (x::l):=by unfold ins;have h:l.takeWhile (λy=>less y.c x.c)++l.dropWhile (λy=>less y.c x.c)=l:=List.takeWhile_append_dropWhile;have:(l.takeWhile (λy=>less y.c x.c)++x::l.dropWhile (λy=>less y.c x.c)).Perm (x::(l.takeWhile (λy=>less y.c x.c)++l.dropWhile (λy=>less y.c x.c))):=List.perm_middle;rw[h]at this;exact this
theorem iz(h:QS l)(f:∀y∈l,y.c≠x.c):QS (ins l x):=by
 induction l with
 |nil=>simp[ins,QS]
 |cons y l k=>
  have c:=D7.1 h;have j:QS l:=c.2;have g:=k j (λz b=>f z (by simp[b]));by_cases e:less y.c x.c=true
  .have e1:ins (y::l) x=y::ins l x:=by simp[ins,e]
   rw[e1];refine D7.2 ⟨λz b=>?_,g⟩;have:=(Z9 l x).mem_iff.1 b;rcases Ax.1 this with rfl|a
   .exact e
   exact c.1 z a
  have e1:ins (y::l) x=x::y::l:=by simp[ins,e]
  rw[e1];have d:less x.c y.c=true:=by
   cases i:less x.c y.c with
   |true=>rfl
   |false=>exact absurd (Qf _ _ (EU e) i) (f y EJ)
  refine D7.2 ⟨λz b=>?_,h⟩;rcases Ax.1 b with rfl|a
  .exact d
  exact Rm _ _ _ d (c.1 z a)
def Ep(l:List It):List It:=l.foldl ins []
theorem Wc(l:List It)(x:It):Ep (l++[x])=ins (Ep l) x:=by simp[Ep]
theorem j7:∀(l m:List It),(l.foldl ins m).Perm (m++l)
 | [],m=>by simp
 | x::l,m=>by
   rw[List.foldl_cons];refine(j7 l (ins m x)).i ?_;refine((Z9 m x).append_right l).i ?_;rw[Az];exact List.perm_middle.A
theorem XX(l:List It):(Ep l).Perm l:=by unfold Ep;simpa using j7 l []
theorem Vi(l:List It):(Ep l).length=l.length:=(XX l).length_eq
theorem Uc(l:List It)(x:It):x∈Ep l↔x∈l:=(XX l).mem_iff
theorem Z0(l:List It)(h:(l.map (·.c)).Nodup):QS (Ep l):=by
 have:∀k,k<=l.length->QS (Ep (l.take k)):=by
  intro k;induction k with
  |zero=>intro _;simp[Ep,QS]
  |succ k m=>
   intro _;have c:k<l.length:=U;rw[Al,AE c];simp only[Option.toList_some];rw[Wc];refine iz (m U) λy i f=>?_;have d:=(Uc _ _).1 i;obtain⟨j,g,a⟩:=BY d;have e:j<k:=by rw[Ac]at g;omega
   rw[List.getElem_take]at a;have b:=CY.1 h j k EL EL e;simp at b;exact b (by rw[a];exact f)
 have:=this l.length (AB _);rwa[Cl]at this
theorem UP(h:l.Perm m)(d:QS l)(c:QS m):l=m:=by refine Cv (le:=λx y:It=>less x.c y.c=true) (λa b _ _ d c=>?_) d c h;rw[XD d]at c;cases c
theorem kS(h:l.Perm m)(a:(l.map (·.c)).Nodup):(m.map (·.c)).Nodup:=(h.map _).nodup_iff.1 a
theorem gC(l:List It)(i:(l.map (·.c)).Nodup):Ep l=Eg l:=by
 have j:(Eg l).Perm l:=CV _ _;refine UP ((XX l).i j.A) (Z0 l i) ?_;have p:(Eg l).Pairwise λx y=>(!less y.c x.c)=true:=CQ
  (λa b c d f=>by
   simp at d f |-;cases h:less c.c a.c with
   |false=>rfl
   |true=>
    by_cases e:less b.c a.c=true
    .rw[d]at e;cases e
    by_cases e2:a.c=b.c
    .rw[e2]at h;rw[f]at h;cases h
    have n:less a.c b.c=true:=by
     cases g:less a.c b.c with
     |true=>rfl
     |false=>exact absurd (Qf _ _ g d) e2
    have:=Rm _ _ _ h n;rw[f]at this;cases this)
  (λa b=>by
   cases h:less b.c a.c with
   |false=>simp
   |true=>simp[XD h]) l
 have k:((Eg l).map (·.c)).Nodup:=kS j.A i;have m:(Eg l).Pairwise λx y=>x.c≠y.c:=CT.1 k;refine(p.and m).imp λ{a b} o=>?_;obtain⟨d,f⟩:=o;cases g:less a.c b.c with
 |true=>rfl
 |false=>exact absurd (Qf _ _ g (EU d)) f
theorem Rl(l:List It)(a:(l.map (·.c)).Nodup):QS (Eg l):=by rw[<-gC l a];exact Z0 l a
/-! ### What makes a list no tree -/
theorem X6(a:x∈l)(h:Es x=false):Ek l=false:=by
 have:l.all Es=false:=by
  cases e:l.all Es with
  |false=>rfl
  |true=>have:=BD.1 e x a;rw[h]at this;cases this
 unfold Ek;rw[this];simp
theorem gB(h:60<l.length):Ek l=false:=by unfold Ek;have:decide (l.length<=60)=false:=EL;rw[this];simp
theorem ZK(h:¬(l.map (·.c)).Nodup):Ek l=false:=by unfold Ek;simp[h]
theorem eW(b:x∈l)(h:par x.c≠[])(a:FW l (par x.c)=false):Ek l=false:=by
 have:(l.all λx=>decide (par x.c=[])||FW l (par x.c))=false:=by
  cases e:l.all λx=>decide (par x.c=[])||FW l (par x.c)with
  |false=>rfl
  |true=>have:=BD.1 e x b;simp[h,a]at this
 unfold Ek;rw[this];simp
theorem Wt{j:Nat}{y:It}(d:l[k]?=some x)(e:l[j]?=some y)(b:j<k)(h:y.c=x.c):¬(l.map (·.c)).Nodup:=by intro c;obtain⟨_,rfl⟩:=AN.1 d;obtain⟨_,rfl⟩:=AN.1 e;have a:=CY.1 c j k EL EL b;simp at a;exact a h
theorem yq(f:l[k]?=some x)(e:((l.take k).map (·.c)).Nodup)(h:∀y∈l.take k,y.c≠x.c):((l.take (k+1)).map (·.c)).Nodup:=by rw[Al,f];simp only[Option.toList_some,Au,BS,DF];rw[CI];refine⟨e,by simp,λa d b c=>?_⟩;obtain⟨y,g,rfl⟩:=AZ.1 d;simp at c;subst c;exact h y g
end
section
open Go.RowKit Go.Nt
theorem below_drewN{B:Nat}{w W:Z}(h:Below B w W)(q:Nat):Below B w (W.drewN q):=by
 induction q with
 |zero=>exact h
 |succ q a=>exact a.drew
def boxed(w:Z)(x:It):Z:=w.alloc (.cells #[.string (X x.c),.bool x.d,.string (X x.data),.a x.a,.a x.b] 39)
theorem P1(w:Z)(x:It):F6 (boxed w x) w.heap.size 0 x:=by refine F6.of_cells λj u a=>?_;rw[AU (boxed w x) w.s (0+j) _ 39 (0,0) (AR _ _)];simpa[KP]using a
theorem ou(g cap:Nat)(l:List It)(x:It)(w:Z)(hg:g<w.heap.size)(hlc:l.length<=cap)(hcm:cap<=9223372036854775807)(N:∀k (x:It),l[k]?=some x->F6 w g (0+k*5) x)(hn:l.length<=1000)(hp:x.c.length<=1048576)(H:∀y∈l,y.c.length<=1048576):Calls prog 155 #[.b g l.length cap,Jg x] w λe w'=>Below w.heap.size w w'/\∃v',e=.a v'/\w'.ownsRow w.heap.size 39 5 v' (l.length+1) (FF (ins l x)):=by
 obtain⟨s,r,n,p,o⟩:=An KS;unfold Jg;change Hid _ at N H;go_enter func155,ntmps155;go_wp2;go_loopw [6] (λi wr=>∃k:Nat,k<=l.length/\i=.a k/\Hid (∀j y,j<k->l[j]?=some y->less y.c x.c=true)/\∃q,wr=(boxed w x).drewN q) (λi _=>l.length-(intOf i).toNat)
 case atStart=>exact⟨0,AW _,I,J (λj y h=>absurd h U),0,I⟩
 case round=>
  obtain⟨k,hk,rfl,S,q,v⟩:=hrel;have aA:wr.heap.size=w.heap.size+1:=by rw[v];simp[boxed]
  have az:F6 wr w.heap.size 0 x:=by rw[v];exact(P1 w x).drewN q
  have M:∀k (y:It),l[k]?=some y->F6 wr g (0+k*5) y:=λk y a=>(N k y a).y (by rw[v];simp[boxed];exact AO w _ g hg);have an:Below w.heap.size w wr:=by rw[v];exact below_drewN (Iy) q
  change Hid _ at M;have aC:=J az;change Hid _ at v;obtain⟨x0,x1,x2,x3,x4⟩:=az;rw[Ak]at x1 x2 x3 x4;by_cases L:k<l.length
  .have ax:decide ((k:Int)<(l.length:Int))=true:=EU L;obtain⟨y,a⟩:∃y,l[k]?=some y:=⟨_,AE L⟩;obtain⟨y0,y1,y2,y3,y4⟩:=M k y a;rw[Ak]at y0;have aI:=H y (AY a);have Hy:=J a;have R:=J (λW=>rA y.c x.c W U U);generalize hb:less y.c x.c=bb at R;change Hid _ at hb;obtain⟨z0Y,hY⟩:=E (X y.c);obtain⟨z0X,hX⟩:=E (X x.c);rw[<-hX]at x0;rw[<-hY]at y0;rw[<-hX,<-hY]at R;change Hid _ at hX hY;have aH:=J (And.intro x1 (And.intro x2 (And.intro x3 x4)));go_wp2;go_region_held3 (λw'=>w'.cell? (O w.heap.size 0)=some (.string z0X)/\w'.cell? (O g (k*5))=some (.string z0Y)) (go_keep) (first|(go_at_call 209;refine(R _).l ?_;rintro e w' ⟨rfl,q3,rfl⟩));rename_i hHeld;have K:(wr.drewN (1+q3)).heap.size=w.heap.size+1:=EU aA;have t:Hid (∀k (y:It),l[k]?=some y->F6 (wr.drewN (1+q3)) g (0+k*5) y):=λk y a=>(M k y a).drewN _;have aw:Hid (F6 (wr.drewN (1+q3)) w.heap.size 0 x):=aC.o.drewN _;have av:Hid (Below w.heap.size w (wr.drewN (1+q3))):=below_drewN an _;have aG:Hid (∃q,wr.drewN (1+q3)=(boxed w x).drewN q):=by show ∃q,wr.drewN (1+q3)=(boxed w x).drewN q;rw[v.o];exact Rp _ _ _
   generalize wr.drewN (1+q3)=W at *;cases bb with
   |true=>
    have aF:Hid (∀j z,j<k+1->l[j]?=some z->less z.c x.c=true):=λj z P f=>by
     by_cases e:j=k
     .subst e;rw[Hy.o]at f;cases f;exact hb
     exact S j z U f
    go_wp2;go_roundw
    case rel=>exact⟨k+1,by omega,by go_num,aF,aG⟩
    case measure=>simp[intOf];omega
   |false=>
    have Q:Hid (ins l x=l.take k++x::l.drop k):=fN hk S (λz f=>by rw[Hy.o]at f;cases f;exact hb);have aB:=K;go_wp2_with (at_builtin;refine Av _ I (.tmp 23) (.tmp 26) 26 I w.heap.size 39 s _ 5 56 underlying26 r n p o I EB _ 0 [] I (Af _ _ _ _) ⟨g,0,none⟩ k cap (FF (l.take k)) I ?d1 ?d2 ?d3 ?d4 ?d5 ?d6 ?_)
    case d1=>rw[N5,Ac];omega
    case d2=>exact TB λj y a=>t j y (by rw[D8]at a;split at a<;>simp_all)
    case d3=>exact O8
    case d4=>unfold maxLen;omega
    case d5=>omega
    case d6=>omega
    intro v1 b D m _;have a9:=av.o.C m U (λq c=>by cases c);have aD:=m.size;have G:∀j,j<W.heap.size->b.heap[j]?=W.heap[j]? := λj P=>m.u j P (by simp[Value.ownBlock]);have aa:Hid (∀k (y:It),l[k]?=some y->F6 b g (0+k*5) y):=λk y a=>(t k y a).y (G g U);have au:=aw.o.y (G _ U);obtain⟨z0,z1,z2,z3,z4⟩:=au;rw[Ak]at z1 z2 z3 z4;go_wp2_with (at_builtin;refine Av _ I (.tmp 28) (.tmp 30) 26 I w.heap.size 39 s _ 5 56 underlying26 r n p o I EB _ _ _ I (D.alloc _) ⟨b.heap.size,0,none⟩ 1 1 (KP x) I ?e1 ?e2 ?e3 ?e4 ?e5 ?e6 ?_)
    case e1=>rfl
    case e2=>intro j u d;rw[addr_add];exact(P1 b x).cell d
    case e3=>intro u d;exact O8 (l:=[x]) u (by rw[QX];exact d)
    case e4=>unfold maxLen;omega
    case e5=>omega
    case e6=>simp;omega
    intro v2 A F B _;have C:=(a9.a).C B EL (λq c=>(D.lt q c).1);have aE:b.heap.size<=A.heap.size:=by have:=B.size;simp at this;omega
    have af:Hid (∀k (y:It),l[k]?=some y->F6 A g (0+k*5) y):=λk y a=>by have h1:=(aa k y a);have h2:=N k y a;exact h2.f C hg
    go_wp2_with (at_builtin;refine Av _ I (.tmp 32) (.tmp 35) 26 I w.heap.size 39 s _ 5 56 underlying26 r n p o I EB _ _ _ I F ⟨g,k*5,none⟩ (l.length-k) (cap-k) (FF (l.drop k)) ?f0 ?f1 ?f2 ?f3 ?f4 ?f5 ?f6 ?_)
    case f0=>rfl
    case f1=>rw[N5,BX]
    case f2=>refine TB λj y a=>?_;rw[C4]at a;have:=af _ y a;rw[show 0+(k+j)*5=k*5+j*5 by omega]at this;exact this
    case f3=>exact O8
    case f4=>unfold maxLen;omega
    case f5=>omega
    case f6=>omega
    intro v3 T ac V _;have ad:=C.C V U (λq c=>(F.lt q c).1);have a7:T.ownsRow w.heap.size 39 5 v3 (l.length+1) (FF (ins l x)):=by have h:=ac;rw[Q.o,RU,SN];rw[show k+1+(l.length-k)=l.length+1 by omega]at h;exact h
    go_wp2;go_ret;exact⟨ad,_,I,a7⟩
  have ax:decide ((k:Int)<(l.length:Int))=false:=EU L;have Q:Hid (ins l x=l.take k++x::l.drop k):=fN hk S (λz f=>absurd (AN.1 f).1 L);obtain rfl:k=l.length:=U;go_wp2;go_quiet (fail);have K:(wr.drewN nq).heap.size=w.heap.size+1:=EU aA;have t:Hid (∀k (y:It),l[k]?=some y->F6 (wr.drewN nq) g (0+k*5) y):=λk y a=>(M k y a).drewN _;have aw:Hid (F6 (wr.drewN nq) w.heap.size 0 x):=aC.o.drewN _;have av:Hid (Below w.heap.size w (wr.drewN nq)):=below_drewN an _;generalize wr.drewN nq=W at *;by_cases ay:cap=l.length;focus
   subst ay;have aB:=K;go_wp2_with (at_builtin;refine Av _ I (.tmp 23) (.tmp 26) 26 I w.heap.size 39 s _ 5 56 underlying26 r n p o I EB _ 0 [] I (Af _ _ _ _) ⟨g,0,none⟩ l.length l.length (FF (l.take l.length)) I ?d1 ?d2 ?d3 ?d4 ?d5 ?d6 ?_)
   case d1=>rw[N5,Ac];omega
   case d2=>exact TB λj y a=>t j y (by rw[D8]at a;split at a<;>simp_all)
   case d3=>exact O8
   case d4=>unfold maxLen;omega
   case d5=>omega
   case d6=>omega
  rotate_left
  focus
   skip;have aB:=K;go_wp2_with (at_builtin;refine Av _ I (.tmp 23) (.tmp 26) 26 I w.heap.size 39 s _ 5 56 underlying26 r n p o I EB _ 0 [] I (Af _ _ _ _) ⟨g,0,none⟩ l.length cap (FF (l.take l.length)) I ?d1 ?d2 ?d3 ?d4 ?d5 ?d6 ?_)
   case d1=>rw[N5,Ac];omega
   case d2=>exact TB λj y a=>t j y (by rw[D8]at a;split at a<;>simp_all)
   case d3=>exact O8
   case d4=>unfold maxLen;omega
   case d5=>omega
   case d6=>omega
  rotate_left
  all_goals
   intro v1 b D m _;have a9:=av.o.C m U (λq c=>by cases c);have aD:=m.size;have G:∀j,j<W.heap.size->b.heap[j]?=W.heap[j]? := λj P=>m.u j P (by simp[Value.ownBlock]);have aa:Hid (∀k (y:It),l[k]?=some y->F6 b g (0+k*5) y):=λk y a=>(t k y a).y (G g U);have au:=aw.o.y (G _ U);obtain⟨z0,z1,z2,z3,z4⟩:=au;rw[Ak]at z1 z2 z3 z4;go_wp2_with (at_builtin;refine Av _ I (.tmp 28) (.tmp 30) 26 I w.heap.size 39 s _ 5 56 underlying26 r n p o I EB _ _ _ I (D.alloc _) ⟨b.heap.size,0,none⟩ 1 1 (KP x) I ?e1 ?e2 ?e3 ?e4 ?e5 ?e6 ?_)
   case e1=>rfl
   case e2=>intro j u d;rw[addr_add];exact(P1 b x).cell d
   case e3=>intro u d;exact O8 (l:=[x]) u (by rw[QX];exact d)
   case e4=>unfold maxLen;omega
   case e5=>omega
   case e6=>simp;omega
   intro v2 A F B _;have C:=(a9.a).C B EL (λq c=>(D.lt q c).1);have aE:b.heap.size<=A.heap.size:=by have:=B.size;simp at this;omega
   have af:Hid (∀k (y:It),l[k]?=some y->F6 A g (0+k*5) y):=λk y a=>by have h1:=(aa k y a);have h2:=N k y a;exact h2.f C hg
   go_wp2_with (at_builtin;refine Av _ I (.tmp 32) (.tmp 35) 26 I w.heap.size 39 s _ 5 56 underlying26 r n p o I EB _ _ _ I F _ _ _ [] I ?_ ?_ EJ ?_ ?_ ?_ ?_);all_goals first
    | (simp;done)
    | (intro j u d;simp at d;done)
    | (unfold maxLen;omega)
    |omega
    |skip
   all_goals
    intro v3 T ac V _;have ad:=C.C V U (λq c=>(F.lt q c).1);have a7:T.ownsRow w.heap.size 39 5 v3 (l.length+1) (FF (ins l x)):=by have h:=ac;rw[Q.o,RU,SN];rw[CU (AB _),ud,Br,Cl];exact h
    go_wp2;go_ret;exact⟨ad,_,I,a7⟩
theorem qK(x:It)(w:Z):Calls prog 155 #[.g,Jg x] w λe w'=>Below w.heap.size w w'/\∃v',e=.a v'/\w'.ownsRow w.heap.size 39 5 v' 1 (FF [x]):=by
 obtain⟨f,c,s,r,m⟩:=An KS;unfold Jg;go_enter func155,ntmps155;go_wp2;go_loopw [6] (λi wr=>i=.a 0/\wr=boxed w x) (λi _=>0)
 case atStart=>exact⟨I,I⟩
 case round=>
  obtain⟨rfl,b⟩:=hrel;have n:wr.heap.size=w.heap.size+1:=by rw[b];simp[boxed]
  have t:Hid (F6 wr w.heap.size 0 x):=by rw[b];exact P1 w x
  have l:Hid (w.b wr):=by rw[b];exact(AP _ w).alloc (AB _) _
  go_wp2;go_quiet (fail);have k:(wr.drewN nq).heap.size=w.heap.size+1:=EU n;have p:Hid (F6 (wr.drewN nq) w.heap.size 0 x):=t.o.drewN _;have o:Hid (w.b (wr.drewN nq)):=below_drewN l _;generalize wr.drewN nq=W at *;have C:w.heap.size<=W.heap.size:=U;clear k;obtain⟨_,y,z,A,B⟩:=p;rw[Ak]at y z A B;go_wp2_with (first|(at_builtin;refine wpList_append_own_none I (.tmp 23) (.tmp 26) 26 I w.heap.size 39 f 5 underlying26 c _ 0 [] I (Af _ _ _ _) I ?_)|(at_builtin;refine Av _ I (.tmp 28) (.tmp 30) 26 I w.heap.size 39 f _ 5 56 underlying26 c s r m I EB _ 0 [] I (Af _ _ _ _) ⟨W.heap.size,0,none⟩ 1 1 (KP x) I ?e1 ?e2 ?e3 ?e4 ?e5 ?e6 ?_))
  case e1=>rfl
  case e2=>intro j u d;rw[addr_add];exact(P1 W x).cell d
  case e3=>intro u d;exact O8 (l:=[x]) u (by rw[QX];exact d)
  case e4=>unfold maxLen;omega
  case e5=>omega
  case e6=>simp;omega
  intro _ _ a g _;have h:=(o.o.a).C g EL (λq v=>by cases v);obtain⟨_,c2,rfl⟩:=Qa a;go_wp2_with (at_builtin;refine wpList_append_own_none I (.tmp 32) (.tmp 35) 26 I w.heap.size 39 f 5 underlying26 c _ _ _ I a I ?_);go_wp2;go_ret;exact⟨h,_,I,by rw[QX];exact a⟩
theorem IZ(v:Value)(l:List It)(x:It)(B:Nat)(w:Z)(k:w.ownsRow B 39 5 v l.length (FF l))(i:l.length<=1000)(j:x.c.length<=1048576)(d:∀y∈l,y.c.length<=1048576):Calls prog 155 #[v,Jg x] w λe w'=>Below w.heap.size w w'/\∃v',e=.a v'/\w'.ownsRow w.heap.size 39 5 v' (l.length+1) (FF (ins l x)):=by
 rcases PT k with⟨rfl,rfl⟩|⟨g,a,rfl,_,h,c,b,f⟩
 .exact qK x w
 exact ou g a l x w h c (by unfold maxLen at b;omega) f i j d
structure LO (l:List It) (k:Nat):Prop where
 ok:∀x∈l.take k,Es x=true
 nd:((l.take k).map (·.c)).Nodup
 pa:∀x∈l.take k,par x.c=[]\/FW l (par x.c)=true
theorem LO.next{l:List It}{k:Nat}{x:It}(h:LO l k)(b:l[k]?=some x)(c:Es x=true)(d:∀y∈l.take k,y.c≠x.c)(f:par x.c=[]\/FW l (par x.c)=true):LO l (k+1):=by
 have e:l.take (k+1)=l.take k++[x]:=by rw[Al,b];rfl
 refine⟨λy a=>?_,yq b h.nd d,λy a=>?_⟩
 .rw[e,Aj]at a;rcases a with a|a
  .exact h.ok y a
  simp at a;subst a;exact c
 rw[e,Aj]at a;rcases a with a|a
 .exact h.pa y a
 simp at a;subst a;exact f
theorem LO.all{l:List It}(h:LO l l.length)(d:l.length<=60):Ek l=true:=by obtain⟨a,b,c⟩:=h;rw[Cl]at a b c;unfold Ek;simp only[AV,BJ,BD,Ce];exact⟨⟨⟨d,a⟩,b⟩,c⟩
theorem qQ(x:It)(D:ByteArray)(k:D=X x.data)(i:Bool)(j:i=x.d)(l:EO x.c=true):(Es x=false/\(4000<D.size\/(D.size<=4000/\((i=true/\¬D.toList=[])\/((i=false\/(i=true/\D.toList=[]))/\(x.a<0\/(0<=x.a/\(4095<x.a\/(x.a<=4095/\(x.b<0\/(0<=x.b/\2147483647<x.b))))))))))) \/ (Es x=true/\D.size<=4000/\(i=false\/(i=true/\D.toList=[]))/\0<=x.a/\x.a<=4095/\0<=x.b/\x.b<=2147483647):=by
 subst j;subst k;rw[Mn,EF];unfold Es;rw[l];by_cases a:x.data.length<=4000
 .by_cases d:x.d=true
  .by_cases f:x.data=[]
   .by_cases b:0<=x.a
    .by_cases c:x.a<=4095
     .by_cases e:0<=x.b
      .by_cases g:x.b<=2147483647
       .exact .s ⟨by simp[d,f,b,c,e,g],a,.s ⟨d,by simp[f]⟩,b,c,e,g⟩
       exact .w ⟨by simp[g],.s ⟨a,.s ⟨.s ⟨d,by simp[f]⟩,.s ⟨b,.s ⟨c,.s ⟨e,by omega⟩⟩⟩⟩⟩⟩
      exact .w ⟨by simp[e],.s ⟨a,.s ⟨.s ⟨d,by simp[f]⟩,.s ⟨b,.s ⟨c,.w U⟩⟩⟩⟩⟩
     exact .w ⟨by simp[c],.s ⟨a,.s ⟨.s ⟨d,by simp[f]⟩,.s ⟨b,.w U⟩⟩⟩⟩
    exact .w ⟨by simp[b],.s ⟨a,.s ⟨.s ⟨d,by simp[f]⟩,.w U⟩⟩⟩
   exact .w ⟨by simp[d,f],.s ⟨a,.w ⟨d,by simp[f]⟩⟩⟩
  have h:x.d=false:=EU d;by_cases b:0<=x.a
  .by_cases c:x.a<=4095
   .by_cases e:0<=x.b
    .by_cases g:x.b<=2147483647
     .exact .s ⟨by simp[a,h,b,c,e,g],a,.w h,b,c,e,g⟩
     exact .w ⟨by simp[g],.s ⟨a,.s ⟨.w h,.s ⟨b,.s ⟨c,.s ⟨e,by omega⟩⟩⟩⟩⟩⟩
    exact .w ⟨by simp[e],.s ⟨a,.s ⟨.w h,.s ⟨b,.s ⟨c,.w U⟩⟩⟩⟩⟩
   exact .w ⟨by simp[c],.s ⟨a,.s ⟨.w h,.s ⟨b,.w U⟩⟩⟩⟩
  exact .w ⟨by simp[b],.s ⟨a,.s ⟨.w h,.w U⟩⟩⟩
 exact .w ⟨by simp[a],.w U⟩
theorem vU{l:List It}{p:Bs}{k:Nat}{x:It}(m:l[k]?=some x)(e:x.c=p)(i:(l.map (·.c)).Nodup):FW l p=x.d:=by
 cases d:x.d with
 |true=>unfold FW;rw[Ap];exact⟨x,AY m,by simp[e,d]⟩
 |false=>
  cases h:FW l p with
  |false=>rfl
  |true=>
   unfold FW at h;obtain⟨y,n,a⟩:=Ap.1 h;simp at a;obtain⟨j,f,rfl⟩:=BY n;obtain⟨g,rfl⟩:=AN.1 m;by_cases c:j=k
   .subst c;rw[d]at a;cases a.2
   exfalso;rcases Nat.lt_or_gt_of_ne c with b|b
   .exact Wt (AE g) (AE f) b (a.1.i e.A) i
   exact Wt (AE f) (AE g) b (e.i a.1.A) i
variable {w:Z} {e:TypeId} {v:Value} {n:Nat} {xs:List Value}
theorem NV{base a:Nat}{b:Nat}(h:w.ownsRow base e b v n xs)(l:a<=base):w.ownsRow a e b v n xs:=by
 refine⟨h.1,?_⟩;rcases h.2 with f|⟨g,c,d,rfl,i,j,k⟩
 .exact .w f
 exact .s ⟨g,c,d,I,AG l i,j,k⟩
theorem own_below{w':Z}{B N:Nat}{a:Nat}(h:w.ownsRow B e a v n xs)(l:Below N w w')(d:∀q,v.ownBlock=some q->q<N):w'.ownsRow B e a v n xs:=by
 refine⟨h.1,?_⟩;rcases h.2 with f|⟨g,b,c,rfl,i,j,k⟩
 .exact .w f
 exact .s ⟨g,b,c,I,i,(l.u g (d g I)).i j,k⟩
theorem ZP(a:Option Addr)(c:Nat)(l:List It)(w:Z)(g:Eh w a l)(F:l.length<=1048576)(s:∀x∈l,x.c.length<=1048576):Calls prog 96 #[.slice a l.length c] w λe w'=>Below w.heap.size w w' /\ ((Ek l=false/\e=.a (.tuple #[.g,.a 3]))\/(Ek l=true/\∃v,e=.a (.tuple #[v,.a 0])/\w'.ownsRow w.heap.size 39 5 v l.length (FF (Eg l)))):=by
 have r:=J g;have n:=J s;clear g s;by_cases b5:l.length<=60
 .go_enter func96,ntmps96;go_wp2;go_loopw [4,5] (λv i wr=>∃(k:Nat) (u:Option Addr) (B:Nat),v=.slice u k B/\k<=l.length/\i=.a k/\Hid (wr.ownsRow w.heap.size 39 5 v k (FF (Ep (l.take k))))/\Hid (LO l k)/\Hid (Below w.heap.size w wr)) (λ_ i _=>l.length-(intOf i).toNat)
  case atStart=>exact⟨0,none,0,I,AW _,I,J (Af _ _ _ _),J ⟨by simp,by simp,by simp⟩,J (AP _ _)⟩
  obtain⟨k,u,B,rfl,_,rfl,a8,a7,T⟩:=hrel;by_cases R:k<l.length
  .have d:decide ((k:Int)<(l.length:Int))=true:=EU R;obtain⟨x,g⟩:∃x,l[k]?=some x:=⟨_,AE R⟩;obtain⟨b,Q,rfl,p⟩:=(r.o.f T.o) (λh=>by rw[h]at R;simp at R);obtain⟨K,L,N,S,x4⟩:=p k x g;have G:=n.o x (AY g);have t:=J g;have d:=J p;have d:=J (λW=>SU x.c W G);clear g p;go_wp2_with fail;refine(d.o _).l ?_;rintro e W ⟨M,_,rfl,_⟩;have V:Below (wr.heap.size+1) (boxed wr x) W:=by have h:=M;simp at h;exact h
   have f:=T.o.size;have g:=V.size;have A:Hid (Below w.heap.size w W):=(T.o.alloc f _).i (V.b);have m:F6 W wr.heap.size 0 x:=(P1 wr x).f V U;have aM:Hid (Eh W (some (O b Q)) l):=r.o.f A.o;have aR:Hid (W.ownsRow w.heap.size 39 5 (.slice u k B) k (FF (Ep (l.take k)))):=by have C:=a8.o.alloc (.cells #[.string (X x.c),.bool x.d,.string (X x.data),.a x.a,.a x.b] 39);exact own_below C V (λq g=>by have:=(C.lt q g).2;simp at this;exact this)
   have H:Hid ((Ep (l.take k)).length=k):=by show(Ep (l.take k)).length=k;rw[Vi,Ac];omega
   have P:=J (V9 x.c W G);have g:=J (QY (some (O b Q)) c l (par x.c) W aM.o F);have s:Hid (Calls prog 154 #[.slice u k B,.string (X x.c)] W λe w'=>e=.a (.a (JY (Ep (l.take k)) x.c))/\w'=W):=by
    have p:W.ownsRow w.heap.size 39 5 (.slice u k B) (Ep (l.take k)).length (FF (Ep (l.take k))):=by rw[H.o];exact aR.o
    obtain⟨_,c2,e2,F⟩:=Oq p;rw[H.o]at e2;cases e2;have:=QY u B (Ep (l.take k)) x.c W F (by rw[H.o];omega);rw[H.o]at this;exact this
   obtain⟨y0,y1,y2,y3,y4⟩:=m;rw[Ak]at y1 y2 y3 y4;have m:True:=trivial;clear M V K L N S x4 f d a8 T;obtain⟨aZ,M⟩:∃o,o=EO x.c:=⟨_,I⟩;rw[<-M];have V:=J M;obtain⟨up,r⟩:∃o,o=X (par x.c):=⟨_,I⟩;rw[<-r]at P g;have aH:=J r;obtain⟨f1,L⟩:∃o,o=JY l (par x.c):=⟨_,I⟩;rw[<-L]at g;have aL:=J L;obtain⟨f2,K⟩:∃o,o=JY (Ep (l.take k)) x.c:=⟨_,I⟩;rw[<-K]at s;have aO:=J K;obtain⟨D,f⟩:∃o,o=X x.data:=⟨_,I⟩;rw[<-f]at y2;have m:=J f;obtain⟨xd,d⟩:∃o,o=x.d:=⟨_,I⟩;rw[<-d]at y1;have S:=J d;clear M r L K f d;go_wp2_with fail;refine Jj P.o ?_;go_wp2_with fail;refine Jj g.o ?_;go_wp2_with fail;refine Jj s.o ?_;clear P g s;have M:Hid (∀(j:Nat) y,l[j]?=some y->W.cell? (O b (Q+j*5+1))=some (.bool y.d)):=λj y N=>by obtain⟨_,_,P,g⟩:=aM.o (λh=>by rw[h]at R;simp at R);cases P;exact(g j y N).2.1
   have s:Hid (Calls prog 155 #[.slice u k B,.agg #[.string (X x.c),.bool xd,.string D,.a x.a,.a x.b]] W λe w'=>Below W.heap.size W w'/\∃Q,e=.a Q/\w'.ownsRow W.heap.size 39 5 Q (k+1) (FF (ins (Ep (l.take k)) x))):=by
    have p:W.ownsRow w.heap.size 39 5 (.slice u k B) (Ep (l.take k)).length (FF (Ep (l.take k))):=by rw[H.o];exact aR.o
    have:=IZ _ _ x _ W p (by rw[H.o];omega) G (λy N=>n.o y (DP ((Uc _ _).1 N)));rw[H.o]at this;unfold Jg at this;rw[<-m.o,<-S.o]at this;exact this
   have H:w.heap.size<=W.heap.size:=A.o.size;cases aZ with
   |false=>have f:Hid (Ek l=false):=X6 (AY t.o) (by unfold Es;rw[<-V.o];simp);clear s M;go_wp2;go_ret2;exact⟨A.o,.w ⟨f.o,I⟩⟩
   |true=>
    rcases Xz (Ep (l.take k)) x.c with⟨g,n⟩|⟨j,z,g,P,r,_⟩
    .have K:f2 = -1:=aO.o.i g;subst K;have aG:Hid (∀y∈l.take k,y.c≠x.c):=λy N=>n y ((Uc _ _).2 N);clear g n;rcases qQ x D m.o xd S.o V.o.A with⟨G,R⟩|⟨m,_,d,_,_,_,_⟩
     .have f:Hid (Ek l=false):=X6 (AY t.o) G;clear s M G;rcases R with C|⟨C,⟨F,C⟩|⟨F|⟨F,C⟩,C|⟨C,C|⟨C,C|⟨C,_⟩⟩⟩⟩⟩;all_goals(try subst F)
      all_goals
       go_wp2;go_ret2;exact⟨A.o,.w ⟨f.o,I⟩⟩
     have aa:=J m;clear m;by_cases C:par x.c=[]
     .have hu:up.toList.isEmpty=true:=by rw[aH.o,Mn,C];rfl
      have R:Hid (LO l (k+1)):=a7.o.next t.o aa.o aG.o (.w C);clear C M;rcases d with d|⟨d,g7⟩<;>subst d;all_goals
       go_wp2_with fail;refine s.o.l ?_;rintro e S ⟨G,Q,rfl,p⟩;obtain⟨V,m,rfl⟩:=Qa p;have ac:Hid (Below w.heap.size w S):=A.o.i (G.l H);have ay:Hid (S.ownsRow w.heap.size 39 5 (.b V (k+1) m) (k+1) (FF (Ep (l.take (k+1))))):=by
        have e:l.take (k+1)=l.take k++[x]:=by rw[Al,t.o];rfl
        rw[e,Wc];exact NV p H
       clear G p s y0 y1 y2 y3 y4;go_wp2;go_roundw
       case rel=>exact⟨k+1,FH V,m,I,by omega,by go_num,ay,R,ac⟩
       case measure=>simp[intOf];omega
     have hu:up.toList.isEmpty=false:=by rw[aH.o,Mn];simpa using C
     rcases Xz l (par x.c)with⟨g,n⟩|⟨j,z,g,P,r,_⟩
     .have L:f1 = -1:=aL.o.i g;subst L;have f:Hid (Ek l=false):=eW (AY t.o) C (by
       cases h:FW l (par x.c)with
       |false=>rfl
       |true=>unfold FW at h;obtain⟨y,N,aJ⟩:=Ap.1 h;simp at aJ;exact absurd aJ.1 (n y N))
      clear s M C n g;rcases d with d|⟨d,g7⟩<;>subst d;all_goals
       go_wp2;go_ret2;exact⟨A.o,.w ⟨f.o,I⟩⟩
     have L:f1=(j:Nat):=aL.o.i g;subst L;have n:j<l.length:=(AN.1 P).1;have aS:=M.o j z P;have L:=J P;have N:=J r;have aV:=J C;clear g P r C M;obtain⟨zd,n⟩:∃o,o=z.d:=⟨_,I⟩;rw[<-n]at aS;have C:=J n;clear n;cases zd with
     |false=>
      have f:Hid (Ek l=false):=by
       by_cases n:(l.map (·.c)).Nodup
       .exact eW (AY t.o) aV.o ((vU L.o N.o n).i C.o.A)
       exact ZK n
      clear s;rcases d with d|⟨d,g7⟩<;>subst d;all_goals
       go_wp2;go_ret2;exact⟨A.o,.w ⟨f.o,I⟩⟩
     |true=>
      have R:Hid (LO l (k+1)):=a7.o.next t.o aa.o aG.o (.s (by unfold FW;rw[Ap];exact⟨z,AY L.o,by simp[N.o,C.o.A]⟩))
      rcases d with d|⟨d,g7⟩<;>subst d;all_goals
       go_wp2_with fail;refine s.o.l ?_;rintro e S ⟨G,Q,rfl,p⟩;obtain⟨V,m,rfl⟩:=Qa p;have ac:Hid (Below w.heap.size w S):=A.o.i (G.l H);have ay:Hid (S.ownsRow w.heap.size 39 5 (.b V (k+1) m) (k+1) (FF (Ep (l.take (k+1))))):=by
        have e:l.take (k+1)=l.take k++[x]:=by rw[Al,t.o];rfl
        rw[e,Wc];exact NV p H
       clear G p s y0 y1 y2 y3 y4 aS;go_wp2;go_roundw
       case rel=>exact⟨k+1,FH V,m,I,by omega,by go_num,ay,R,ac⟩
       case measure=>simp[intOf];omega
    have K:f2=(j:Nat):=aO.o.i g;subst K;have f:Hid (Ek l=false):=by
     have m:=(Uc _ _).1 (AY P);obtain⟨C,d,p⟩:=BY m;have m:C<k:=by rw[Ac]at d;omega
     rw[List.getElem_take]at p;exact ZK (Wt t.o (AE U) m (by rw[p];exact r))
    clear s M g P r;go_wp2;go_ret2;exact⟨A.o,.w ⟨f.o,I⟩⟩
  have g:k=l.length:=U;have M:Hid (Ek l=true):=by have h:=a7.o;rw[g]at h;exact h.all b5
  have s:Hid (wr.ownsRow w.heap.size 39 5 (.slice u k B) l.length (FF (Eg l))):=by
   have h:=a8.o;have n:(l.map (·.c)).Nodup:=by have F:=a7.o.nd;rw[g,Cl]at F;exact F
   rw[<-gC l n];rw[g]at h |-;rw[Cl]at h;exact h
  clear g a8;go_wp2;go_ret2;exact⟨T.o,.s ⟨M.o,_,I,s.o⟩⟩
 have f:Hid (Ek l=false):=gB U;go_enter func96,ntmps96;go_wp2;go_ret2;exact⟨AP _ _,.w ⟨f.o,I⟩⟩
end
section
open Go.RowKit
theorem zR{P:Program}(w:Z)(base:Nat)(t G e:TypeId)(i:TypeInfo)(z:Value)(b h:Nat)(N:P.underlying t=some (.slice e))(L:P.info? e=some i)(S:i.zero=some z) (o:i.size=b) (B:i.bytes=h) (D:z.cells.size=b) (C:0<b) (v:Value) (n:Nat) (F:List Value) (d:w.ownsRow base e b v n F) (a:Addr) (m c:Nat) (f:List Value) (M:f.length=m*b) (l:∀j u,f[j]?=some u->w.cell? (a.add j)=some u) (Q:∀u∈f,u.oneCell'=true) (A:n+m<=maxLen) (p:(n+m)*h<=140737488355328) (q:base<=w.heap.size):∃v' w',(Builtin.append_ #[t,t] G #[v,.slice (some a) m c]).run P w=.ok v' w'/\w'.ownsRow base e b v' (n+m) (F++f)/\w.grownBy w' v.ownBlock /\ (∀g,v.ownBlock=some g->w'.heap[g]?=w.heap[g]? \/ v'.ownBlock=some g):=by
 have W:=d;rcases d.2 with⟨rfl,rfl⟩|⟨g,s,_,rfl,_,R,_,_,_,_⟩
 .obtain⟨v',w',x,y,r,_⟩:=run_append_own (P:=P) w base t G e i z b h N L S o B D C _ _ F d a m c f M l Q A p q;exact⟨v',w',x,y,r,λg R=>by simp[Value.ownBlock]at R⟩
 by_cases T:n+m<=s
 .obtain⟨w',x,y,r⟩:=run_append_fits (P:=P) w base t G e i b N L o g n s F d a m c f M l Q T;exact⟨_,w',x,y,r,λK H=>.s H⟩
 obtain⟨v',w',x,y,r⟩:=run_append_arg_grows (P:=P) w t G e i z b h N L S o B D C ⟨g,0,none⟩ n s F d.1 (d.cells (g:=g) I) a m c f M l U A p;refine⟨v',w',x,NV y q,⟨r.os,r.tape,r.output,r.size,λk V _=>r.u k V EJ⟩,λK H=>.w ?_⟩;refine r.u K ?_ EJ;exact(d.lt K H).2
theorem gq{P:Program}(w:Z){y:Array Oper}{rest:List Oper}{o:Oper}{a:Act}{Q:Exit->Act->Z->Prop}(D:o.guard=none)(s x:Operand)(t:TypeId) (V:o.op=.call {callee:=.builtin .append,args:=#[s,x],argTypes:=#[t,t]}) (base:Nat) (e:TypeId) (i:TypeInfo) (z:Value) (b f:Nat) (ht:P.underlying t=some (.slice e)) (S:P.info? e=some i) (hz:i.zero=some z) (q:i.size=b) (C:i.bytes=f) (G:z.cells.size=b) (F:0<b) (v:Value) (n:Nat) (H:List Value) (hs:a.eval s=v) (r:w.ownsRow base e b v n H) (A:Addr) (m c:Nat) (d:List Value) (hx:a.eval x=.slice (some A) m c) (T:d.length=m*b) (p:∀j u,d[j]?=some u->w.cell? (A.add j)=some u) (L:∀u∈d,u.oneCell'=true) (B:n+m<=maxLen) (k:(n+m)*f<=140737488355328) (l:base<=w.heap.size) (h:∀v' w',w'.ownsRow base e b v' (n+m) (H++d)->w.grownBy w' v.ownBlock->(∀g,v.ownBlock=some g->w'.heap[g]?=w.heap[g]? \/ v'.ownBlock=some g)->wpList P y Q rest (a.put o.dst v') w'):wpList P y Q (o::rest) a w:=by refine wpList_plain D λ_ K=>?_;obtain⟨v',w',W,M,N,R⟩:=zR (P:=P) w base t o.type e i z b f ht S hz q C G F v n H r A m c d T p L B k l;unfold Oper.wp execOp;simp only[V,resolve,invoke,builtin,Sem.run_bind,Sem.run_pure,Result.andThen_ok,List.map_toArray,BS,DF,hs,hx,W];exact K _ _ (h v' w' M N R)
end
section
open Go.RowKit Go.Nt
variable {n N B base:Nat} {w w':Z} {m:Int} {a:Option Addr} {e:TypeId} {v u:Value} {xs ys:List Value}
theorem QV:(prog.info? 26).map (λi=>(i.zero,i.size,i.bytes))=some (some (.g),1,24):=EG
def I5(m:Int):It:=⟨[],false,[],m,0⟩
def H9(n:Nat)(m:Int):List It:=List.replicate n (I5 m)
theorem Qd(n:Nat)(m:Int):(H9 n m).length=n:=by simp[H9]
theorem kO(n:Nat)(m:Int):H9 (n+1) m=H9 n m++[I5 m]:=by simp[H9,List.replicate_succ']
theorem om(h:n<=N)(m:Int):(FF (H9 N m)).take (n*5)=FF (H9 n m):=by
 have e:H9 N m=H9 n m++H9 (N-n) m:=by unfold H9;rw[List.replicate_append_replicate];congr 1;omega
 rw[e,RU,List.take_append_of_le_length (by rw[N5,Qd];exact AB _),AT (by rw[N5,Qd];exact AB _)]
def EZ(w:Z)(B:Nat)(m:Int)(a:Option Addr)(n:Nat):Prop:=
 0<n->∃g cur,a=FH g/\B<=g/\w.heap[g]?=some (.cells cur 39 (0,0))/\cur.toList.take (n*5)=FF (H9 n m)
theorem EZ.f(h:EZ w B m a n)(d:Below w.heap.size w w'):EZ w' B m a n:=by intro i;obtain⟨g,c,rfl,f,b,e⟩:=h i;exact⟨g,c,I,f,(d.u g (lt_of_heap b)).i b,e⟩
theorem EZ.C{row:Option Nat}(h:EZ w B m a n)(i:w.grownBy w' row)(c:∀g cur,row=some g->w.heap[g]? ≠ some (.cells cur 39 (0,0))):EZ w' B m a n:=by intro j;obtain⟨g,cur,rfl,d,b,f⟩:=h j;refine⟨g,cur,I,d,(i.u g (lt_of_heap b) (λe=>c g cur e.A b)).i b,f⟩
theorem EZ.cell(h:EZ w B m a n)(i:0<n):∃g,a=FH g/\∀j,j<n->F6 w g (j*5) (I5 m):=by
 obtain⟨g,c,rfl,_,e,d⟩:=h i;refine⟨g,I,λj f=>F6.of_cells λq u b=>?_⟩;have k:q<5:=by have:=(AN.1 b).1;simpa[KP]using this
 have l:(H9 n m)[j]?=some (I5 m):=by simp[H9,f]
 have:=OK l q k;rw[b,<-d,Aq U]at this;rw[AU w g _ c 39 (0,0) e];simpa using this
theorem PO{a:Nat}{g:Nat}(h:w.ownsRow base e a v n xs)(b:v.ownBlock=some g):∃cur cap,v=.b g n cap/\base<=g/\w.heap[g]?=some (.cells cur e (0,0))/\cur.toList.take (n*a)=xs:=by
 rcases h.2 with⟨rfl,_⟩|⟨_,cap,cur,rfl,d,f,_,_,_,c⟩
 .simp[Value.ownBlock]at b
 simp[Value.ownBlock]at b;subst b;exact⟨cur,cap,I,d,f,c⟩
theorem VB(h:w.ownsRow base 39 5 v n (FF (H9 n m))):∃a c,v=.slice a n c/\EZ w base m a n:=by
 rcases h.2 with⟨rfl,rfl⟩|⟨g,b,d,rfl,f,i,_,_,_,e⟩
 .exact⟨none,0,I,λh=>absurd h U⟩
 exact⟨_,b,I,λ_=>⟨g,d,I,f,i,e⟩⟩
theorem Zk{k:Value}(h:EZ w B m a n)(s:w.grownBy w' v.ownBlock)(r:n<=N) (b:w'.ownsRow B 39 5 k N (FF (H9 N m))) (t:∀g,v.ownBlock=some g->w'.heap[g]?=w.heap[g]? \/ k.ownBlock=some g):EZ w' B m a n:=by
 intro u;obtain⟨g,i,rfl,d,f,j⟩:=h u;by_cases e:v.ownBlock=some g
 .rcases t g e with c|c
  .exact⟨g,i,I,d,c.i f,j⟩
  obtain⟨l,_,rfl,_,p,q⟩:=PO b c;refine⟨g,l,I,d,p,?_⟩;rw[<-om r,<-q,List.take_take,Bz U]
 exact⟨g,i,I,d,(s.u g (lt_of_heap f) (λo=>e o.A)).i f,j⟩
theorem Uy{a b:Nat}{m:Nat}{f:TypeId}(h:w.ownsRow base e a v n xs)(l:w.ownsRow base f b u m ys)(d:e≠f)(k:w.grownBy w' u.ownBlock):w'.ownsRow base e a v n xs:=by
 refine h.kept k ?_;cases o:v.ownBlock with
 |none=>exact .w I
 |some g=>refine .s λj=>?_;obtain⟨c1,_,_,_,i,_⟩:=PO h o;obtain⟨c2,_,_,_,c,_⟩:=PO l j.A;rw[i]at c;simp at c;exact d c.2
theorem Zw{m:Nat}(d:w.ownsRow base 26 1 u m ys):∀g cur,u.ownBlock=some g->w.heap[g]? ≠ some (.cells cur 39 (0,0)):=by intro g cur b c;obtain⟨c2,_,_,_,a,_⟩:=PO d b;rw[c]at a;simp at a
theorem X8(k:Nat)(f:Nat->Value)(r:Value):(List.range k).map f++[r]=(List.range (k+1)).map (λj=>if j<k then f j else r):=by
 rw[Be,Au];congr 1
 .apply BO;intro j a;rw[AD (EU a)]
 simp
theorem Yl(p n:Nat)(A:Nat->Option Addr)(C:Nat->Nat)(a:Option Addr)(b:Nat):((List.range p).map λq=>Value.slice (A q) (n+q) (C q))++[.slice a (n+p) b]=(List.range (p+1)).map λq=>Value.slice (if q<p then A q else a) (n+q) (if q<p then C q else b):=by
 rw[X8];apply BO;intro q c;have:q<p+1:=EU c;by_cases e:q<p
 .rw[AD e,AD e,AD e]
 rw[AC e,AC e,AC e,show q=p by omega]
theorem Z1:∀(l:List It) (k:Nat) (x:It),k<l.length->(((((FF l).set (k*5) (.string (X x.c))).set (k*5+1) (.bool x.d)).set (k*5+2) (.string (X x.data))).set (k*5+3) (.a x.a)).set (k*5+4) (.a x.b)=FF (l.set k x)
 | [],_,_,h=>by simp at h
 |y::l,0,x,_=>by simp[SN,KP]
 | y::l,k+1,x,h=>by
   have a:=Z1 l k x (EU h);have e:(KP y).length=5:=I;simp only[CM,SN];rw[<-a];rw[CK _ _ (by rw[e];omega),CK _ _ (by rw[e];omega),CK _ _ (by rw[e];omega),CK _ _ (by rw[e];omega),CK _ _ (by rw[e];omega)];rw[e,show(k+1)*5-5=k*5 by omega,show(k+1)*5+1-5=k*5+1 by omega,show(k+1)*5+2-5=k*5+2 by omega,show(k+1)*5+3-5=k*5+3 by omega,show(k+1)*5+4-5=k*5+4 by omega]
theorem qy(l:List It)(k:Nat)(m:Int)(h:k<l.length):(H9 k m++l.drop k).set k (I5 m)=H9 (k+1) m++l.drop (k+1):=by rw[CK _ _ (by rw[Qd];exact AB _),Qd,Ds,Ah h,CL,kO,Aw];rfl
structure Nd where
 d:Bool
 data:Bs
 a:Int
 b:Int
deriving DecidableEq,Inhabited
def nd(x:It):Nd:=⟨x.d,x.data,x.a,x.b⟩
def Lw(p:Bs)(n:Nd):It:=⟨p,n.d,n.data,n.a,n.b⟩
theorem lL(x:It):Lw x.c (nd x)=x:=rfl
theorem vN(p:Bs)(n:Nd):nd (Lw p n)=n:=rfl
def Gm(n:Nd):Value:=.agg #[.bool n.d,.string (X n.data),.a n.a,.a n.b]
def JA:Value->Option (DataW Nd×List MemPlace)
 | .agg cs=>match cs.toList with
   | [.bool d,.string s,.a m,.a t]=>some (.held ⟨d,s.data.toList,m,t⟩,[])
   | _=>none
 | _=>none
theorem Us(n:Nd):JA (Gm n)=some (.held n,[]):=rfl
theorem VS{v:Value}{n:Nd}{c:List MemPlace}(h:JA v=some (.held n,c)):v=Gm n:=by
 unfold JA at h;split at h
 .rename_i a;split at h
  .rename_i d s m t b;simp at h;obtain⟨rfl,_⟩:=h;have:a=#[.bool d,.string s,.a m,.a t]:=by apply Array.toList_inj.1;exact b
   rw[this];unfold Gm;rw[<-fW]
  cases h
 cases h
def at?(l:List It)(p:Bs):Option It:=l.find? λx=>decide (x.c=p)
theorem Ji{l:List It}{p:Bs}{x:It}(h:at? l p=some x):x∈l/\x.c=p:=⟨List.mem_of_find?_eq_some h,by simpa using List.find?_some h⟩
theorem GN{l:List It}{p:Bs}:at? l p=none↔∀x∈l,x.c≠p:=by simp[at?]
theorem at_mem{l:List It}(b:(l.map (·.c)).Nodup){x:It}(a:x∈l):at? l x.c=some x:=by
 induction l with
 |nil=>simp at a
 |cons y l d=>
  unfold at?;rw[List.find?_cons];by_cases e:y.c=x.c
  .simp[e];simp at b a;rcases a with rfl|a
   .rfl
   exact absurd e.A (λc=>b.1 x a c)
  simp[e];simp at b a;rcases a with rfl|a
  .exact absurd I e
  exact d b.2 a
theorem sg{l:List It}(d:(l.map (·.c)).Nodup)(p:Bs):FW l p=(match at? l p with | some x=>x.d | none=>false):=by
 cases h:at? l p with
 |none=>have f:=GN.1 h;unfold FW;simp only[Dd];intro x a;simp[f x a]
 |some x=>
  obtain⟨a,rfl⟩:=Ji h;obtain⟨k,_,rfl⟩:=BY a;show FW l _=l[k].d;unfold FW;cases c:l[k].d with
  |true=>exact Ap.2 ⟨_,a,by simp[c]⟩
  |false=>
   rw[Dd];intro y i;by_cases e:y.c=l[k].c
   .have b:=at_mem d i;have g:=at_mem d a;rw[e,g]at b;cases b;simp[c]
   simp[e]
def Has(D:DataW Nd)(l:List It):Prop:=
 ∀p,Maps.has D (.string p)=(at? l p).isSome/\∀x,at? l p=some x->∀z,D.atKey (.string p) z=.held (nd x)
def EH(w:Z)(b:Nat)(l:List It):Prop:=
 ∃D:DataW Nd,w.ownsMap prog 9 JA b (Maps.size D) D/\Has D l
theorem Jr:Maps.Keyed prog 9:=Maps.string_keyed underlying9
theorem NN(w:Z):(zeroValue 117).run prog w=.ok (Gm ⟨false,[],0,0⟩) w:=EG
theorem tight{w:Z}{b n:Nat}{D:DataW Nd}(h:w.ownsMap prog 9 JA b n D):w.ownsMap prog 9 JA b (Maps.size D) D:=by obtain⟨c,a,d,F,_,rfl⟩:=h;exact⟨c,a,d,F,by simp[Maps.size,length_sorted],I⟩
theorem EH.lt{w:Z}{b:Nat}{l:List It}(h:EH w b l):b<w.heap.size:=by obtain⟨_,h,_⟩:=h;exact h.lt
theorem EH.y{w w':Z}{b:Nat}{l:List It}(h:EH w b l)(f:w'.heap[b]?=w.heap[b]?):EH w' b l:=by obtain⟨D,⟨c,a,d,e⟩,g⟩:=h;exact⟨D,⟨c,a,f.i d,e⟩,g⟩
theorem EH.f{w w':Z}{B b:Nat}{l:List It}(h:EH w b l)(c:Below B w w')(a:b<B):EH w' b l:=h.y (c.u b a)
theorem wX(w:Z):EH (w.alloc (.map #[] 0)) w.heap.size []:=
 ⟨.map [],DJ w _ _ _,λp=>⟨I,λ_ a=>by simp[at?]at a⟩⟩
theorem PG{p:Bs}(h:p.length<=maxLen):keyOf prog 9 (.string (X p))=some (.string p):=WideMaps.keyOf_string_mk underlying9 (by rw[EF];exact h)
theorem EH.b{w:Z}{b:Nat}{l:List It}{p:Bs}{x:It}(h:EH w b l)(i:p.length<=maxLen)(j:at? l p=some x):(Instr.lookup 77 (.e b) (.string (X p)) true).run prog w=.ok (.tuple #[Gm (nd x),.bool true]) w/\(Instr.lookup 77 (.e b) (.string (X p)) false).run prog w=.ok (Gm (nd x)) w:=by obtain⟨_,g,f⟩:=h;obtain⟨_,_,a,c⟩:=g.look_ok Jr underlying77 (NN w) (Us _) (PG i);obtain⟨_,_,d,e⟩:=g.lookup Jr underlying77 (NN w) (Us _) (PG i);rw[(f p).2 x j]at c e;rw[VS c,(f p).1,j]at a;rw[VS e]at d;exact⟨a,d⟩
theorem EH.c{w:Z}{b:Nat}{l:List It}{p:Bs}(h:EH w b l)(i:p.length<=maxLen)(k:at? l p=none):(Instr.lookup 77 (.e b) (.string (X p)) true).run prog w=.ok (.tuple #[Gm ⟨false,[],0,0⟩,.bool false]) w/\(Instr.lookup 77 (.e b) (.string (X p)) false).run prog w=.ok (Gm ⟨false,[],0,0⟩) w:=by
 obtain⟨D,g,j⟩:=h;have a:Maps.has D (.string p)=false:=by rw[(j p).1,k];rfl
 obtain⟨_,_,c,d⟩:=g.look_ok Jr underlying77 (NN w) (Us _) (PG i);obtain⟨_,_,e,f⟩:=g.lookup Jr underlying77 (NN w) (Us _) (PG i);rw[Maps.atKey_of_not_has a]at d f;rw[VS d,a]at c;rw[VS f]at e;exact⟨c,e⟩
theorem keys_perm{w:Z}{b n:Nat}{l:List It}{D:DataW Nd}(d:w.ownsMap prog 9 JA b n D)(g:Has D l)(c:(l.map (·.c)).Nodup):(l.map (·.c)).Perm (strKeys D):=by
 obtain⟨_,rfl,j⟩:=d.tidy Jr;obtain⟨_,e,i⟩:=d.keysOf;cases e;refine perm_strKeys j (λp h=>?_) c (λx=>?_)
 .obtain⟨_,k⟩:=i p h;obtain⟨x,_,m,_⟩:=Maps.keyOf_str underlying9 k;exact⟨x,m⟩
 rw[(g x).1];constructor
 .intro h;obtain⟨y,a,rfl⟩:=AZ.1 h;rw[at_mem c a];rfl
 intro h;obtain⟨y,a⟩:=Bi.1 h;obtain⟨f,rfl⟩:=Ji a;exact AZ.2 ⟨y,f,I⟩
theorem mg(D:DataW Nd)(h:Maps.IsMap D):(strKeys D).length=Maps.size D:=by obtain⟨_,rfl⟩:=h;simp[strKeys,Maps.size]
theorem To{w:Z}{b n:Nat}{l:List It}{D:DataW Nd}(a:w.ownsMap prog 9 JA b n D)(c:Has D l)(d:(l.map (·.c)).Nodup):Maps.size D=l.length:=by have h:=(keys_perm a c d).length_eq;rw[mg D a.isMap]at h;simpa using h.A
theorem EH.len{w:Z}{b:Nat}{l:List It}(h:EH w b l)(e:(l.map (·.c)).Nodup)(c:TypeId):(Builtin.len_ #[77] c #[.e b]).run prog w=.ok (.a l.length) w:=by obtain⟨_,a,d⟩:=h;have:=a.len underlying77 c;rw[To a d e]at this;exact this
def En(l:List It)(x:It):List It:=l.filter (λy=>decide (y.c≠x.c))++[x]
theorem eO(l m:List It)(p:Bs):at? (l++m) p=(at? l p).or (at? m p):=by simp[at?,List.find?_append]
theorem jP{l:List It}{p q:Bs}(h:p≠q):at? (l.filter (λy=>decide (y.c≠q))) p=at? l p:=by
 induction l with
 |nil=>rfl
 |cons y l a=>
  unfold at? at a |-;by_cases e:y.c=q
  .have:y.c≠p:=λb=>h (b.A.i e);rw[Db (by simp[e]),List.find?_cons_of_neg (by simp[this]),a]
  rw[Da (by simp[e]),List.find?_cons,List.find?_cons,a]
theorem iu(l:List It)(q:Bs):at? (l.filter (λy=>decide (y.c≠q))) q=none:=by rw[GN];intro _ a;simpa using(Ad.1 a).2
theorem WT(l:List It)(x:It):at? (En l x) x.c=some x:=by rw[En,eO,iu];simp[at?]
theorem Z5{l:List It}{x:It}{p:Bs}(h:p≠x.c):at? (En l x) p=at? l p:=by
 rw[En,eO,jP h];have:at? [x] p=none:=by rw[GN];intro y a;simp at a;subst a;exact λe=>h e.A
 rw[this];cases at? l p<;>rfl
theorem Has.put{D:DataW Nd}{l:List It}(h:Has D l)(c:Maps.IsMap D)(x:It):Has (D.put (.string x.c) (.held (nd x))) (En l x):=by
 intro p;by_cases e:p=x.c
 .subst e;rw[WT,Cx c (k:=.string x.c) trivial];refine⟨I,λy a z=>?_⟩;cases a;exact D5 c (k:=.string x.c) trivial _ _
 have b:(Lit.string p)≠.string x.c:=λh=>e (by cases h;rfl);rw[Z5 e,Bp b];exact⟨(h p).1,λy a z=>by rw[DU b];exact(h p).2 y a z⟩
theorem Has.del{D:DataW Nd}{l:List It}(h:Has D l)(q:Bs):Has (D.del (.string q)) (l.filter (λy=>decide (y.c≠q))):=by
 intro p;by_cases e:p=q
 .subst e;rw[iu,Maps.has_del_same];exact⟨I,λy a=>by cases a⟩
 have b:(Lit.string p)≠.string q:=λh=>e (by cases h;rfl);rw[jP e,Maps.has_del_other b];exact⟨(h p).1,λy a z=>by rw[Maps.atKey_del_other b];exact(h p).2 y a z⟩
theorem Has.same{D:DataW Nd}{l m:List It}(h:Has D l)(e:∀p,at? l p=at? m p):Has D m:=λp=>by rw[<-e p];exact h p
theorem xh{l:List It}{x:It}(h:∀y∈l,y.c≠x.c):En l x=l++[x]:=by unfold En;rw[Cg.2 (λy a=>by simpa using h y a)]
theorem EH.store{w:Z}{b:Nat}{l:List It}(h:EH w b l)(i:(l.map (·.c)).Nodup)(g:l.length<maxLen)(x:It)(j:x.c.length<=maxLen):∃w',(Instr.mapUpdate 77 (.e b) (.string (X x.c)) (Gm (nd x))).run prog w=.ok () w'/\EH w' b (En l x)/\w.mapTurned w' b:=by obtain⟨_,a,c⟩:=h;obtain⟨w',d,e,f⟩:=a.store Jr underlying77 (by rw[To a c i];exact g) (PG j) (Us (nd x));exact⟨w',d,⟨_,tight e,c.put a.isMap x⟩,f⟩
theorem EH.drop{w:Z}{b:Nat}{l:List It}(h:EH w b l)(p:Bs)(i:p.length<=maxLen)(a:TypeId):∃w',(Builtin.delete_ #[77,9] a #[.e b,.string (X p)]).run prog w=.ok (.tuple #[]) w'/\EH w' b (l.filter (λy=>decide (y.c≠p)))/\w.mapTurned w' b:=by obtain⟨_,g,f⟩:=h;obtain⟨w',c,d,e⟩:=g.drop Jr underlying77 (PG i) a;exact⟨w',c,⟨_,tight d,f.del p⟩,e⟩
theorem vt(n:Int)(w:Z):(Instr.makeMap 77 (some (.a n))).run prog w=.ok (.e w.heap.size) (w.alloc (.map #[] 0)):=by simp[Instr.makeMap,C7 underlying77,asInt,asIntOf,Result.andThen]
def JH(l:List It)(p:Bs):Nat->Nat->Int
 | 0,_=>0
 | n+1,k=>if p.getD k 0=47 then
    match at? l (p.take k)with
    | none=>4
    | some x=>if x.d then JH l p n (k+1)else 6
   else JH l p n (k+1)
def Ei(l:List It)(p:Bs):Int:=JH l p p.length 0
theorem Zx(l:List It)(p:Bs)(j:(l.map (·.c)).Nodup):∀n k,JH l p n k=0↔∀i,k<=i->i<k+n->p.getD i 0=47->FW l (p.take i)=true
 |0,k=>by simp[JH];intro i d f;omega
 | n+1,k=>by
   unfold JH;by_cases h:p.getD k 0=47
   .rw[AD h];have c:=sg j (p.take k);cases m:at? l (p.take k)with
    |none=>
      rw[m]at c;simp only
      constructor
      .intro a;cases a
      intro a
      have:=a k (AB _) U h
      rw[c]at this;cases this
    |some x=>
      rw[m]at c;simp only;simp only at c;by_cases g:x.d=true
      .rw[AD g,Zx l p j n (k+1)]
       constructor
       .intro a i d f b;by_cases e:i=k
        .subst e;rw[c,g]
        exact a i U U b
       exact λa i d f b=>a i U U b
      rw[AC g]
      constructor
      .intro a;cases a
      intro a
      have:=a k (AB _) U h
      rw[c]at this;exact absurd this g
   rw[AC h,Zx l p j n (k+1)]
   constructor
   .intro a i d f b;by_cases e:i=k
    .subst e;exact absurd b h
    exact a i U U b
   exact λa i d f b=>a i U U b
theorem Vl(l:List It)(p:Bs)(d:(l.map (·.c)).Nodup):OX l p=decide (Ei l p=0):=by
 unfold OX Ei;rw[CB,BT,Zx l p d,BD];constructor
 .intro h i _ _ b;have:=h i (Bv.2 U);rw[b]at this;simpa using this
 intro h i c;have f:=Bv.1 c;by_cases e:p.getD i 0=47
 .have:=h i (AW _) U e;simp[this]
 have a:decide (p.getD i 0≠47)=true:=EU e;rw[a];rfl
theorem Z8(b:Nat)(l:List It)(p:Bs)(w:Z)(G:EH w b l)(L:p.length<=1048576):Calls prog 73 #[.e b,.string (X p)] w λe w'=>Below w.heap.size w w'/\e=.a (.a (Ei l p)):=by
 obtain⟨a,q⟩:=E (X p);have B:a.size=p.length:=by rw[q,EF]
 have K:Hid (∀k (h:k<a.size),a[k]'h=p.getD k 0):=λk h=>by subst q;exact O0 p k h
 have F:Hid (∀b,a.extract 0 b=X (p.take b)):=λb=>by subst q;rw[Ka];simp
 rw[<-q];have A:=J B;have y:=J G;have N:a.size<=1048576:=U;clear q B L G;go_enter func73,ntmps73;go_wp2;go_loopw [10] (λi wr=>∃k:Nat,k<=a.size/\i=.a k/\Hid (w.b wr)/\Hid (Ei l p=JH l p (a.size-k) k)) (λi _=>a.size-(intOf i).toNat)
 .exact⟨0,AW _,I,J (AP _ _),by have:=A;exact J (by rw[this];rfl)⟩
 .obtain⟨k,_,rfl,g,z⟩:=hrel;by_cases d:k<a.size
  .have r:=K k d;have t:a.size-k=(a.size-(k+1))+1:=U;have c:=z.o;rw[t]at c;by_cases j:a[k]'d=47
   .have H:(((a[k]'d).toNat:Int) != 47)=false:=by rw[j];rfl
    have s:=y.o.f g.o y.o.lt;have D:(p.take k).length<=maxLen:=by rw[Ac];unfold maxLen;exact Dz A.o
    have v:JH l p (a.size-(k+1)+1) k=match at? l (p.take k)with|none=>4|some x=>if x.d then JH l p (a.size-(k+1)) (k+1)else 6:=by show(if p.getD k 0=47 then _ else _)=_;rw[AD (by rw[<-r];exact j)]
    rw[v]at c;have u:=g.o.size;cases n:at? l (p.take k)with
    |none=>rw[n]at c;have m:=(s.c D n).1;rw[<-F.o]at m;change Hid _ at c;unfold Gm at m;clear v r j t n s;go_wp2;go_ret;exact⟨g.o.alloc u _,Ma c.o.A⟩
    |some x=>
     rw[n]at c;have m:=(s.b D n).1;rw[<-F.o]at m;unfold Gm nd at m;obtain⟨M,C⟩:∃o,o=x.d:=⟨_,I⟩;simp only at c m;rw[<-C]at c m;clear v r j t n s C;cases M with
     |true=>
      have f:Hid (Ei l p=JH l p (a.size-(k+1)) (k+1)):=J (EU c);clear c;go_wp2;go_roundw
      .exact⟨k+1,by omega,by go_num,J (g.o.alloc u _),f⟩
      .simp[intOf];omega
     |false=>have f:Hid (Ei l p=6):=J (EU c);clear c;go_wp2;go_ret;exact⟨g.o.alloc u _,Ma f.o.A⟩
   have H:(((a[k]'d).toNat:Int) != 47)=true:=Di.2 λh=>j (BR.1 (by have:(47:UInt8).toNat=47:=I;omega));have f:Hid (Ei l p=JH l p (a.size-(k+1)) (k+1)):=by refine c.i ?_;show(if p.getD k 0=47 then _ else _)=_;rw[AC (by rw[<-r];exact j)]
   clear c r j t;go_wp2;go_roundw
   .exact⟨k+1,by omega,by go_num,g,f⟩
   .simp[intOf];omega
  have f:Hid (Ei l p=0):=by have:=z.o;rw[show a.size-k=0 by omega]at this;exact this
  go_wp2;go_ret;exact⟨g.o,Ma f.o.A⟩
end
end Go.Proofs.YtodmdkhdbfbfgaaGreatDoor
