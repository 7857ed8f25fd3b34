/- Lemmas. -/
import Derived.Test.YtodmdkhdbfbfgaaGreatDoorM29
set_option linter.unusedVariables false
set_option linter.unusedSimpArgs false
set_option maxRecDepth 100000
set_option maxHeartbeats 8000000
open Go.Proofs.Tryz
namespace Go.Proofs.YtodmdkhdbfbfgaaGreatDoor.S1
open Go.RowKit Pk
theorem M3{w:D7}{B C n:Nat}{e:TypeId}{size:Nat}{v:Value}{xs:List Value}(h:w.ownsRow B e size v n xs)(hC:C<=B):w.ownsRow C e size v n xs:=by
 refine⟨h.1,?_⟩;rcases h.2 with h1 | ⟨g,cap,cur,h1,h2,h3⟩
 ·exact .inl h1
 exact .inr ⟨g,cap,cur,h1,AF hC h2,h3⟩
theorem fj(w:D7)(wb c:Nat)(wv:Nat->Nat)(W:Nat)(hW:W=E6 wv 288)(hW2:W<=1000000)(hne:0<W)(hz:∀i,i<288->w.cell? ⟨wb,i,none⟩=some (.int .i64 (wv i:Nat))) :
 Calls prog 280 #[.slice (some ⟨wb,0,none⟩) 288 c] w λe w'=>∃ln:Nat->Nat,e=.returned (.slice (some ⟨w.heap.size,0,none⟩) 288 288)/\w'.rowIs w.heap.size 3 288 (λj=>.int .i64 (ln j:Nat))/\Below w.heap.size w w'/\(∀i,i<288->(0<ln i↔0<wv i))/\(∀i,288<=i->ln i=0)/\(∀i,ln i<=1\/(Fb (ln i)<=W/\ln i+1<=(EI wv 288).length))/\EG (λi=>2^(288 - ln i)) (EI wv 288)<=2^288:=by
 have dc:wb<w.heap.size:=Aj w _ (hz 0 (by omega));obtain⟨M,hM⟩:=Jq (madeCells #[Value.int .i64 0] 288);have dl:∀W:D7,(Instr.makeSlice 22 (.int .i64 288) (.int .i64 288)).run prog W=.ok (.slice (some ⟨W.heap.size,0,none⟩) 288 288) (W.alloc (.cells M 3)):=λW=>by
  rw[hM];exact Cz (P:=prog) 22 3 (.int .i64 0) 8 underlying22 JQ rfl .i64 .i64 288 (by omega) (by omega) W
 have aJ:(w.alloc (.cells M 3)).rowIs w.heap.size 3 288 (λj=>.int .i64 ((λ_=>0:Nat->Nat) j:Nat)):=by rw[hM];exact Co w (.int .i64 0) 288 3
 clear hM;have ct:Hid (QM ((w.alloc (.cells M 3)).alloc (.cells #[.slice none 0 0,.int .i64 0] 341)) (w.heap.size+1) (w.heap.size+1) [] 0):=QM.make (v:=.slice none 0 0) (n:=0) (AB _) (by
  have:=AQ (w.alloc (.cells M 3)) (.cells #[.slice none 0 0,.int .i64 0] 341)
  simp only[BF]at this;exact this) rfl (AZ _ _ _ _)
 have cD:=Jy (aJ.alloc (.cells #[.slice none 0 0,.int .i64 0] 341));have bU:Hid (Below w.heap.size w ((w.alloc (.cells M 3)).alloc (.cells #[.slice none 0 0,.int .i64 0] 341))):=(Nu).alloc (by simp) _;have cu:Hid (((w.alloc (.cells M 3)).alloc (.cells #[.slice none 0 0,.int .i64 0] 341)).heap.size=w.heap.size+2):=by
  show _=_;simp
 have Hz:=Jy hz;have HW:=Jy hW;clear aJ hz hW;go_enter func280,ntmps280
 go_wp2;clear dl
 generalize ((w.alloc (.cells M 3)).alloc (.cells #[.slice none 0 0,.int .i64 0] 341))=W0 at *
 have cC:Hid (∀V,Below (w.heap.size+1) W0 V->∀i,i<288->V.cell? ⟨wb,i,none⟩=some (.int .i64 (wv i:Nat))):=λV hV i hi=>by
  rw[hV.cell (p:=⟨wb,i,none⟩) (by simp;omega),bU.o.cell (p:=⟨wb,i,none⟩) (by simp;omega)];exact Hz.o i hi
 have bV:w.heap.size+1<=W0.heap.size:=by have:=cu.o;omega
 go_loopw [21] (λi wr=>∃k pu:Nat,∃es G,i=.int .i64 k/\k<=288/\pu<=k/\es.length<=k/\Hid (JS 288 wr (w.heap.size+1) (w.heap.size+1) es pu G (λ_=>0) (λ_=>0) (EI wv k) (E6 wv k))/\Hid (Fr (w.heap.size+1) W0 wr)) (λi _=>288 - (intOf i).toNat)
 case atStart=>exact⟨0,0,[],λ_=>[],rfl,by omega,by omega,by simp,⟨ct.o,by intro i h1 h2;simp at h2,by intro e he;simp at he,JI.start _ _⟩,Fr.refl _ _⟩
 case round =>
  clear ct;obtain⟨k,pu,es,G,rfl,hk,d1,d2,Hj,Hf⟩:=hrel;by_cases cT:k<288
  ·have x0:=cC.o _ Hf.o.Gr k cT;have cG:=Hf.o.size bV;by_cases h0:wv k=0
   ·have bL:Hid (JS 288 wr (w.heap.size+1) (w.heap.size+1) es pu G (λ_=>0) (λ_=>0) (EI wv (k+1)) (E6 wv (k+1))):=by
     have h:=Hj.o;rw[Vu wv k h0,E6,h0];exact h
    rw[h0]at x0;clear Hj h0;go_wp2;go_roundw
    case rel=>exact⟨k+1,pu,es,G,by go_num,by omega,by omega,by omega,bL,Hf⟩
    case measure=>simp[intOf];omega
   obtain⟨y,hy⟩:=Jq (wv k);have Hy:=Jy hy;rw[<-hy]at x0 h0;have du:(0:Int)<(y:Int):=by omega
   clear hy;have cO:=Hj.o.q.of (w':=wr.alloc (.cells #[.int .i64 k] 3)) (λj hj=>AO _ _ j hj);have cQ:=Hf.o.alloc cG (.cells #[.int .i64 k] 3);have au:=Jy (Z8 _ (w.heap.size+1) (w.heap.size+1) es pu y wr.heap.size 1 1 (by simp;omega) (by omega) (by omega) Hj.o.h cO);have cK:Hid (GM (wr.alloc (.cells #[.int .i64 k] 3)) (w.heap.size+1) es G):=Hj.o.g.fr ((Dm.refl 3 wr).alloc _);have cg:=Jy (tD wr (w.heap.size+1) k cG);have cm:=Jy cQ;have ad:Hid (∀e∈es,e.b≠wr.heap.size):=λe he=>Nat.ne_of_lt (Hj.o.g.lt he)
   have ci:=Jy Hj.o.j;clear cO cQ Hj;go_wp2_with fail;refine au.o.mono ?_;rintro e w2 ⟨rfl,aD,hp,hh,hq,hf⟩;have bL:Hid (JS 288 w2 (w.heap.size+1) (w.heap.size+1) aD (pu+1) (λb=>if b=wr.heap.size then[k]else G b) (λ_=>0) (λ_=>0) (EI wv (k+1)) (E6 wv (k+1))):=by
    rw[VV wv k (by have:=Hy.o;omega),E6,<-Hy.o];exact⟨hq,hh,(GM.cons (c:=⟨y,pu,wr.heap.size,1,1⟩) (cK.o.fr hf.ints) (hf.ints.own cg.o) ad.o).perm hp,(JI.one ci.o ⟨y,pu,wr.heap.size,1,1⟩ k (by omega) ad.o).perm hp⟩
   have dn:=Jy (cm.o.trans hf);have df:aD.length<=k+1:=by rw[hp.length_eq];simp;omega
   clear au cK cg cm ad ci hp hh hq hf x0;go_wp2;go_roundw
   case rel=>exact⟨k+1,pu+1,aD,_,by go_num,by omega,by omega,df,bL,dn⟩
   case measure=>simp[intOf];omega
  have bg:k=288:=by omega
  subst bg;go_wp2;have aT:=Jy (Mc cD.o Hf.o.Gr (by omega));have aN:=Jy (bU.o.trans (Hf.o.Gr.zM));have aV:=Hf.o.size bV;have bq:pu+es.length<=576:=by omega
  have HN:=Jy (fU wv 288);have HL:=Jy (ic wv 288);have aR:=Jy (YE wv 288);have cE:Hid (JS 288 wr (w.heap.size+1) (w.heap.size+1) es pu G (λ_=>0) (λ_=>0) (EI wv 288) W):=by
   rw[HW.o];exact Hj
  clear Hf Hj cD bU cC Hz cu bV HW d2 d1 dc
  generalize hSe:EI wv 288=S at *
  generalize hlb:w.heap.size=lb at *
  have cS:=Jy hSe;have d8:=Jy hlb;clear hSe hlb
  go_loopw [] (λwr=>∃pu:Nat,∃es G D ln,pu+es.length<=576/\lb+1<=wr.heap.size/\Hid (JS 288 wr (lb+1) (lb+1) es pu G D ln S W)/\Hid (wr.rowIs lb 3 288 (λj=>.int .i64 (ln j:Nat)))/\Hid (Below lb w wr)) (λwr=>LR wr (lb+1))
  case atStart=>exact⟨pu,es,G,_,_,bq,aV,cE,aT,aN⟩
  clear cE aT aN aV bq G pu es;obtain⟨pu,es,G,D,ln,bq,cj,Hj,Hl,Hb⟩:=hrel;cases es with
  | nil=>exfalso;have:=Hj.o.j.sum;simp[EG]at this;omega
  | cons e1 t =>
    have ht:t.length<=575:=by simp at bq;omega
    have aE:=Jy (ZP wr (lb+1) (lb+1) (e1 :: t) e1 pu t.length cj rfl (by omega) rfl Hj.o.h Hj.o.q);go_wp2_with fail;refine aE.o.mono ?_;rintro e w1 ⟨rfl,cF,cN,cv,bB,bj,b7⟩;have cP:List.Perm cF t:=cN.trans (Zf e1 t);have cB:GM w1 (lb+1) (e1 :: t) G:=Hj.o.g.fr bj.ints;have aV:lb+1<=w1.heap.size:=bj.size cj;obtain⟨F1,b3⟩:∃F,F=w1.heap.size:=⟨_,rfl⟩;have av:=bB.Ps F1 (by omega);have bm:=bB.lt;have aT:=Jy (Mc Hl.o bj.Gr (by omega));have aN:=Jy (Hb.o.trans (bj.Gr.zM));have aZ:=Jy cP;have bn:=Jy cB;have cc:=Jy bB;have cb:=Jy cv;have aB:=Jy Hj.o.j;have cU:=Jy Hj.o.h;have d6:Hid (LR wr (lb+1)=t.length+1):=Hj.o.q.LR;clear aE cN cv bB bj b7 cP cB Hj Hl Hb;cases cF with
    | nil =>
      have cZ:t=[]:=List.Perm.nil_eq aZ.o |>.symm
      subst cZ;have ar:QM (w1.alloc (.cells #[.int .i64 e1.wt,.int .i64 e1.tn,.slice (some ⟨e1.b,0,none⟩) e1.n e1.c] 344)) (lb+1) (lb+1) [] pu:=cc.o.of λk hk=>AO _ _ k hk
      have aE:=Jy (rO _ (lb+1) (lb+1) pu (by simp;omega) ar);have b6:=Jy (aT.o.alloc (.cells #[.int .i64 e1.wt,.int .i64 e1.tn,.slice (some ⟨e1.b,0,none⟩) e1.n e1.c] 344));have aI:=Jy (bn.o.fr ((Dm.refl 3 w1).alloc (.cells #[.int .i64 e1.wt,.int .i64 e1.tn,.slice (some ⟨e1.b,0,none⟩) e1.n e1.c] 344)));have bi:=Jy (aN.o.alloc (by omega) (.cells #[.int .i64 e1.wt,.int .i64 e1.tn,.slice (some ⟨e1.b,0,none⟩) e1.n e1.c] 344));have HF:Hid ((w1.alloc (.cells #[.int .i64 e1.wt,.int .i64 e1.tn,.slice (some ⟨e1.b,0,none⟩) e1.n e1.c] 344)).heap[F1]? = some (.cells #[.int .i64 e1.wt,.int .i64 e1.tn,.slice (some ⟨e1.b,0,none⟩) e1.n e1.c] 344 (0,0))):=by
       rw[b3];exact AQ _ _
      have b8:Hid (∀n a9,(w1.alloc (.cells #[.int .i64 e1.wt,.int .i64 e1.tn,.slice (some ⟨e1.b,0,none⟩) e1.n e1.c] 344)).cell? ⟨lb+1,0,none⟩≠some (.slice (some ⟨F1,0,none⟩) n a9)):=λn a9=>by
       rw[AJ (AO w1 _ (lb+1) bm)];exact av n a9
      have c9:F1≠lb+1:=by omega
      have bf:F1<(w1.alloc (.cells #[.int .i64 e1.wt,.int .i64 e1.tn,.slice (some ⟨e1.b,0,none⟩) e1.n e1.c] 344)).heap.size:=by simp;omega
      have dq:e1.b≠lb:=by
       have:=(bn.o e1 (by simp)).lt e1.b rfl
       omega
      have bI:=Jy b3;have di:lb+1<=F1:=by omega
      clear ar b3 aT bn aN av;go_wp2_with fail;rw[<-bI.o]
      generalize (w1.alloc (.cells #[.int .i64 e1.wt,.int .i64 e1.tn,.slice (some ⟨e1.b,0,none⟩) e1.n e1.c] 344))=V at *
      refine aE.o.mono ?_;rintro e w2 ⟨rfl,bC,aj,a6⟩;have aA:=(a6 F1 bf c9 b8.o).trans HF.o;have br:GM w2 (lb+1) [e1] G:=aI.o.fr aj.ints;have aK:=Jy ((Mc b6.o aj.Gr (by omega)).alloc (.cells #[.int .i64 0,.int .i64 0,.slice none 0 0] 344));have bz:=Jy ((bi.o.trans (aj.Gr.zM)).alloc (by have:=aj.Gr.size;omega) (.cells #[.int .i64 0,.int .i64 0,.slice none 0 0] 344));have aC:=Jy (br.fr ((Dm.refl 3 w2).alloc (.cells #[.int .i64 0,.int .i64 0,.slice none 0 0] 344)));have cl:=(AO w2 (.cells #[.int .i64 0,.int .i64 0,.slice none 0 0] 344) F1 (lt_of_heap aA)).trans aA;have f2:=Dv 2 cl;have bY:w2.heap.size≠F1:=Nat.ne_of_gt (lt_of_heap aA);clear aE b6 bi aI HF b8 aA cl br bC aj a6 bf;go_wp2;obtain⟨l,hl⟩:=Jq (G e1.b);have aY:=Jy hl;have ay:=aC.o e1 (by simp);rw[<-hl]at ay
      have cs:=Sn ay;have dh:Hid (∀i∈l,i<288):=λi hi=>((aR.o i).1 (aB.o.sym.mem_iff.1 (by rw[hl]at hi;simpa using hi))).1
      have bS:Hid (∀i,ln i<=300):=λi=>by
       by_cases hi:i∈S
       ·have h1:=aB.o.len e1 (by simp) i (by have:=aB.o.sym.mem_iff.2 hi;simpa using this);have h2:=N4 aB.o (e:=e1) (by simp)
        have:=HL.o;omega
       rw[aB.o.zero i hi];omega
      have ae:=Jy ay;have bp:=Jy cs;have ca:e1.n<=300:=by
       have h2:=N4 aB.o (e:=e1) (by simp)
       have:=HL.o
       rw[<-hl]at h2;omega
      clear hl ay cs f2 bY aC
      generalize w2.alloc (.cells #[.int .i64 0,.int .i64 0,.slice none 0 0] 344)=V0 at *
      go_loopw [46] (λi wq=>∃k:Nat,i=.int .i64 k/\k<=e1.n/\Hid (wq.ownsRow (lb+1) 3 1 (.slice (some ⟨e1.b,0,none⟩) e1.n e1.c) e1.n (ES l))/\Hid (wq.rowIs lb 3 288 (λj=>.int .i64 ((if j∈l.take k then max (ln j) 1 else ln j:Nat):Int)))/\Hid (Below lb w wq)) (λi _=>e1.n - (intOf i).toNat)
      case atStart=>exact⟨0,rfl,by omega,ae,by simpa using aK,bz⟩
      case round =>
       clear ae aK bz;obtain⟨k,rfl,hk,ae,ah,aH⟩:=hrel;by_cases bM:k<e1.n
       ·have y0:=Ro ae.o bM;have b0:k<l.length:=by have:=bp.o;omega
        have bc:l.getD k 0∈l:=Xq l k b0;have am:=dh.o _ bc;have aU:=bS.o (l.getD k 0);obtain⟨sy,ac⟩:=Jq (l.getD k 0);rw[<-ac]at y0 am aU;have y1:=ah.o.cell (i:=sy) am;have yf:=ah.o.frozen sy;obtain⟨x,hx⟩:∃x:Nat,x=if sy∈l.take k then max (ln sy) 1 else ln sy:=⟨_,rfl⟩;rw[<-hx]at y1;have cf:x<=300:=by rw[hx];split<;>omega
        have an:=ah.o.set sy (.int .i64 ((max x 1:Nat):Int));have a8:(wr.setCell ⟨lb,sy,none⟩ (.int .i64 ((max x 1:Nat):Int))).rowIs lb 3 288 (λj=>.int .i64 ((if j∈l.take (k+1)then max (ln j) 1 else ln j:Nat):Int)):=an.congr λj _=>by
         have aw:=XW l k j b0;rw[<-ac]at aw;by_cases e:j=sy
         ·subst e;rw[AE rfl,AE (aw.2 (.inr rfl)),hx]
          congr 1
          split<;>omega
         rw[AC e];by_cases h2:j∈l.take k
         ·rw[AE h2,AE (aw.2 (.inl h2))]
         rw[AC h2,AC (λh3=>(aw.1 h3).elim h2 e)]
        have a7:=Jy a8;have a5:=Jy (TG ae.o (Xg wr lb sy (.int .i64 ((max x 1:Nat):Int))));have ai:=Jy (aH.o.setCell (p:=⟨lb,sy,none⟩) (AB _) (.int .i64 ((max x 1:Nat):Int)));clear an a8 ac hx bc ae ah aH;have b5:((max x 1:Nat):Int)=max (x:Int) 1:=by omega
        rw[b5]at a7 a5 ai;clear b5;go_wp2;go_roundw
        case rel=>exact⟨k+1,by go_num,by omega,a5,a7,ai⟩
        case measure=>simp[intOf];omega
       have bH:k=e1.n:=by omega
       subst bH;go_wp2;go_ret
       have bA:l.take e1.n=l:=AT (by have:=bp.o;omega);have ag:=ah.o;rw[bA]at ag;have dg:=aB.o;rw[d8.o,cS.o];have aa:=JI.last dg wv aR.o (λj=>if j∈l then max (ln j) 1 else ln j) (λi hi=>by rw[<-aY.o]at hi;exact AE hi) (λi hi=>by rw[<-aY.o]at hi;exact AC hi);exact⟨λj=>if j∈l then max (ln j) 1 else ln j,rfl,ag,aH.o,aa.1,aa.2.1,aa.2.2.1,aa.2.2.2⟩
    | cons e2 r =>
      have ds:r.length+1=t.length:=by have:=aZ.o.length_eq;simpa using this
      have ar:QM (w1.alloc (.cells #[.int .i64 e1.wt,.int .i64 e1.tn,.slice (some ⟨e1.b,0,none⟩) e1.n e1.c] 344)) (lb+1) (lb+1) (e2 :: r) pu:=cc.o.of λk hk=>AO _ _ k hk
      have aE:=Jy (ZP _ (lb+1) (lb+1) (e2 :: r) e2 pu r.length (by simp;omega) rfl (by omega) rfl cb.o ar);have b6:=Jy (aT.o.alloc (.cells #[.int .i64 e1.wt,.int .i64 e1.tn,.slice (some ⟨e1.b,0,none⟩) e1.n e1.c] 344));have aI:=Jy (bn.o.fr ((Dm.refl 3 w1).alloc (.cells #[.int .i64 e1.wt,.int .i64 e1.tn,.slice (some ⟨e1.b,0,none⟩) e1.n e1.c] 344)));have bi:=Jy (aN.o.alloc (by omega) (.cells #[.int .i64 e1.wt,.int .i64 e1.tn,.slice (some ⟨e1.b,0,none⟩) e1.n e1.c] 344));have HF:Hid ((w1.alloc (.cells #[.int .i64 e1.wt,.int .i64 e1.tn,.slice (some ⟨e1.b,0,none⟩) e1.n e1.c] 344)).heap[F1]? = some (.cells #[.int .i64 e1.wt,.int .i64 e1.tn,.slice (some ⟨e1.b,0,none⟩) e1.n e1.c] 344 (0,0))):=by
       rw[b3];exact AQ _ _
      have b8:Hid (∀n a9,(w1.alloc (.cells #[.int .i64 e1.wt,.int .i64 e1.tn,.slice (some ⟨e1.b,0,none⟩) e1.n e1.c] 344)).cell? ⟨lb+1,0,none⟩≠some (.slice (some ⟨F1,0,none⟩) n a9)):=λn a9=>by
       rw[AJ (AO w1 _ (lb+1) bm)];exact av n a9
      have c9:F1≠lb+1:=by omega
      have bf:F1<(w1.alloc (.cells #[.int .i64 e1.wt,.int .i64 e1.tn,.slice (some ⟨e1.b,0,none⟩) e1.n e1.c] 344)).heap.size:=by simp;omega
      have bI:=Jy b3;have di:lb+1<=F1:=by omega
      have bX:lb+1<=(w1.alloc (.cells #[.int .i64 e1.wt,.int .i64 e1.tn,.slice (some ⟨e1.b,0,none⟩) e1.n e1.c] 344)).heap.size:=by simp;omega
      clear ar b3 aT bn aN av;go_wp2_with fail;rw[<-bI.o]
      generalize (w1.alloc (.cells #[.int .i64 e1.wt,.int .i64 e1.tn,.slice (some ⟨e1.b,0,none⟩) e1.n e1.c] 344))=V at *
      refine aE.o.mono ?_;rintro e w2 ⟨rfl,aD,cI,cM,bC,aj,a6⟩;have cR:List.Perm aD r:=cI.trans (Zf e2 r);have aA:=(a6 F1 bf c9 b8.o).trans HF.o;have br:GM w2 (lb+1) (e1 :: t) G:=aI.o.fr aj.ints;have de:lb+1<=w2.heap.size:=aj.size bX;obtain⟨F2,aM⟩:∃F,F=w2.heap.size:=⟨_,rfl⟩;have aK:=Jy (((Mc b6.o aj.Gr (by omega)).alloc (.cells #[.int .i64 e2.wt,.int .i64 e2.tn,.slice (some ⟨e2.b,0,none⟩) e2.n e2.c] 344)).alloc (.cells #[.slice (some ⟨e1.b,0,none⟩) e1.n e1.c,.slice (some ⟨e2.b,0,none⟩) e2.n e2.c] 22));have bz:=Jy (((bi.o.trans (aj.Gr.zM)).alloc (by omega) (.cells #[.int .i64 e2.wt,.int .i64 e2.tn,.slice (some ⟨e2.b,0,none⟩) e2.n e2.c] 344)).alloc (by simp;omega) (.cells #[.slice (some ⟨e1.b,0,none⟩) e1.n e1.c,.slice (some ⟨e2.b,0,none⟩) e2.n e2.c] 22))
      have aC:=Jy ((br.fr ((Dm.refl 3 w2).alloc (.cells #[.int .i64 e2.wt,.int .i64 e2.tn,.slice (some ⟨e2.b,0,none⟩) e2.n e2.c] 344))).fr ((Dm.refl 3 _).alloc (.cells #[.slice (some ⟨e1.b,0,none⟩) e1.n e1.c,.slice (some ⟨e2.b,0,none⟩) e2.n e2.c] 22)));have cy:=Jy ((bC.of (w':=w2.alloc (.cells #[.int .i64 e2.wt,.int .i64 e2.tn,.slice (some ⟨e2.b,0,none⟩) e2.n e2.c] 344)) λk hk=>AO _ _ k hk).of (w':=(w2.alloc (.cells #[.int .i64 e2.wt,.int .i64 e2.tn,.slice (some ⟨e2.b,0,none⟩) e2.n e2.c] 344)).alloc (.cells #[.slice (some ⟨e1.b,0,none⟩) e1.n e1.c,.slice (some ⟨e2.b,0,none⟩) e2.n e2.c] 22)) λk hk=>AO _ _ k hk);have d5:F1<w2.heap.size:=lt_of_heap aA;have aW:=(AO w2 (.cells #[.int .i64 e2.wt,.int .i64 e2.tn,.slice (some ⟨e2.b,0,none⟩) e2.n e2.c] 344) F1 d5).trans aA
      have aP:(w2.alloc (.cells #[.int .i64 e2.wt,.int .i64 e2.tn,.slice (some ⟨e2.b,0,none⟩) e2.n e2.c] 344)).heap[F2]? = some (.cells #[.int .i64 e2.wt,.int .i64 e2.tn,.slice (some ⟨e2.b,0,none⟩) e2.n e2.c] 344 (0,0)):=by rw[aM];exact AQ _ _
      have f1:=Dv 2 aW;have f2:=Dv 2 aP;have cL:=Jy ((AO _ (.cells #[.slice (some ⟨e1.b,0,none⟩) e1.n e1.c,.slice (some ⟨e2.b,0,none⟩) e2.n e2.c] 22) F1 (by simp;omega)).trans aW);have cq:=Jy ((AO _ (.cells #[.slice (some ⟨e1.b,0,none⟩) e1.n e1.c,.slice (some ⟨e2.b,0,none⟩) e2.n e2.c] 22) F2 (by simp;omega)).trans aP);have HS:Hid (((w2.alloc (.cells #[.int .i64 e2.wt,.int .i64 e2.tn,.slice (some ⟨e2.b,0,none⟩) e2.n e2.c] 344)).alloc (.cells #[.slice (some ⟨e1.b,0,none⟩) e1.n e1.c,.slice (some ⟨e2.b,0,none⟩) e2.n e2.c] 22)).heap[w2.heap.size+1]? = some (.cells #[.slice (some ⟨e1.b,0,none⟩) e1.n e1.c,.slice (some ⟨e2.b,0,none⟩) e2.n e2.c] 22 (0,0))):=by
       have:=AQ (w2.alloc (.cells #[.int .i64 e2.wt,.int .i64 e2.tn,.slice (some ⟨e2.b,0,none⟩) e2.n e2.c] 344)) (.cells #[.slice (some ⟨e1.b,0,none⟩) e1.n e1.c,.slice (some ⟨e2.b,0,none⟩) e2.n e2.c] 22)
       simp only[BF]at this;exact this
      have dp:lb+1<=((w2.alloc (.cells #[.int .i64 e2.wt,.int .i64 e2.tn,.slice (some ⟨e2.b,0,none⟩) e2.n e2.c] 344)).alloc (.cells #[.slice (some ⟨e1.b,0,none⟩) e1.n e1.c,.slice (some ⟨e2.b,0,none⟩) e2.n e2.c] 22)).heap.size:=by simp;omega
      have aO:=Jy aM;have d3:lb+1<=F2:=by omega
      have cz:=Jy cR;have dm:=Jy cM;clear aE b6 bi aI HF b8 aA br bC aj a6 bf cI cM cR aW aP aM;go_wp2_with fail;rw[<-aO.o];rw[<-aO.o]at HS
      generalize ((w2.alloc (.cells #[.int .i64 e2.wt,.int .i64 e2.tn,.slice (some ⟨e2.b,0,none⟩) e2.n e2.c] 344)).alloc (.cells #[.slice (some ⟨e1.b,0,none⟩) e1.n e1.c,.slice (some ⟨e2.b,0,none⟩) e2.n e2.c] 22))=V3 at *
      have aX:e2∈e1 :: t:=CF _ (aZ.o.mem_iff.1 List.mem_cons_self);have bW:=aC.o e1 List.mem_cons_self;have bJ:=aC.o e2 aX;have d4:=Sn bW;have dd:=Sn bJ;have a4:Hid (JI 288 (e1 :: e2 :: r) G D ln S W):=aB.o.perm (List.Perm.cons e1 aZ.o);have ac:=a4.o.sym;simp only[Bb,CU]at ac;have aU:=ac.length_eq;simp only[AN]at aU;have bN:=ac.symm.nodup HN.o;rw[<-Ap]at bN;have aG:=Jy ((CG.1 bN).1);have bx:Hid (∀i,i∈G e1.b++G e2.b->i<288):=λi hi=>((aR.o i).1 (ac.mem_iff.1 (by rw[<-Ap];exact An.2 (.inl hi)))).1
      have cX:=HL.o;have bP:∀e∈e1 :: e2 :: r,0<(G e.b).length:=λe he=>by
       have hk:=a4.o.kr e he;cases hg:G e.b with
       | nil=>rw[hg]at hk;simp only[EG]at hk;have:=DA (n:=288) (show 0<2 by omega);omega
       | cons x l=>simp
      have cV:=bP e1 (by simp);have d7:=bP e2 (by simp);have bT:=Jy (rA V3 (F2+1) e1.b e1.n e1.c e2.b e2.n e2.c (G e1.b) (G e2.b) (by omega) (by omega) (by omega) HS.o (YI bW) (YI bJ));have bS:Hid (∀i,ln i<=300):=λi=>by
       by_cases hi:i∈S
       ·have:=a4.o.sym.mem_iff.2 hi
        rw[List.mem_flatten]at this;obtain⟨l0,h1,h2⟩:=this;obtain⟨e0,h3,rfl⟩:=Am.1 h1;have h4:=a4.o.len e0 h3 i h2;have h5:=N4 a4.o h3;omega
       rw[a4.o.zero i hi];omega
      have d9:e1.wt<=e2.wt:=X4 cU.o aX;have da:Hid (∀e∈r,e2.wt<=e.wt):=λe he=>X4 cb.o (CF _ he)
      have dt:e1.wt+e2.wt<=1000000:=by
       have:=a4.o.sum
       simp only[EG]at this;omega
      obtain⟨l,hl⟩:=Jq (G e1.b++G e2.b);have bp:Hid (l.length=e1.n+e2.n):=by
       show _=_;rw[hl,AN];omega
      rw[<-hl]at aG bx bT;have aY:=Jy hl;have dr:e1.n+e2.n<=300:=by omega
      clear hl bW bJ d4 dd ac aU bN bP cV d7 aX HS f1 f2;refine bT.o.mono ?_;rintro e w4 ⟨g,a9,rfl,ao,a0⟩;have bR:=a0.size;have aQ:∀k o,V3.heap[k]? = some o->w4.heap[k]? = some o:=λk o ho=>(a0.block k (lt_of_heap ho)).trans ho
      have bl:=Jy (aQ _ _ cL.o);have bs:=Jy (aQ _ _ cq.o);have co:=Jy (Mc aK.o a0 aK.o.lt);have ce:=Jy (bz.o.trans (a0.zM));have cJ:=Jy (aC.o.fr ((Dm.refl 3 V3).below a0));have cx:=Jy (cy.o.of λk hk=>a0.block k hk);have dk:=(ao.lt g rfl).1;have ad:Hid (∀e∈r,e.b≠g):=λe he=>by
       have h1:e∈e1 :: t:=CF _ (aZ.o.mem_iff.1 (CF _ he))
       have:=aC.o.lt h1
       omega
      have aF:Hid (w4.ownsRow (lb+1) 3 1 (.slice (some ⟨g,0,none⟩) (e1.n+e2.n) a9) (e1.n+e2.n) (ES l)):=M3 ao (by omega);have b9:lb+1<=w4.heap.size:=by omega
      clear ao a0 aQ bT cL cq aK bz aC cy dk bR;go_wp2
      try rw[<-aO.o]
      go_loopw [68] (λi wq=>∃k:Nat,i=.int .i64 k/\k<=e1.n+e2.n/\lb+1<=wq.heap.size/\Hid (wq.rowIs lb 3 288 (λj=>.int .i64 ((if j∈l.take k then ln j+1 else ln j:Nat):Int)))/\Hid (wq.ownsRow (lb+1) 3 1 (.slice (some ⟨g,0,none⟩) (e1.n+e2.n) a9) (e1.n+e2.n) (ES l))/\Hid (QM wq (lb+1) (lb+1) aD pu)/\Hid (GM wq (lb+1) (e1 :: t) G)/\Hid (wq.heap[F1]? = some (.cells #[.int .i64 e1.wt,.int .i64 e1.tn,.slice (some ⟨e1.b,0,none⟩) e1.n e1.c] 344 (0,0)))/\Hid (wq.heap[F2]? = some (.cells #[.int .i64 e2.wt,.int .i64 e2.tn,.slice (some ⟨e2.b,0,none⟩) e2.n e2.c] 344 (0,0)))/\Hid (Below lb w wq)) (λi _=>e1.n+e2.n - (intOf i).toNat)
      case atStart=>exact⟨0,rfl,by omega,b9,by simpa using co,aF,cx,cJ,bl,bs,ce⟩
      case round =>
       clear co aF cx cJ bl bs ce b9;obtain⟨k,rfl,hk,aL,ah,a3,bE,bF,ax,az,aH⟩:=hrel;by_cases bM:k<e1.n+e2.n
       ·have y0:=Ro a3.o bM;have b0:k<l.length:=by have:=bp.o;omega
        have bc:l.getD k 0∈l:=Xq l k b0;have am:=bx.o _ bc;have aU:=bS.o (l.getD k 0);have c8:=nL l k aG.o b0;obtain⟨sy,ac⟩:=Jq (l.getD k 0);rw[<-ac]at y0 am aU c8;have y1:=ah.o.cell (i:=sy) am;have yf:=ah.o.frozen sy;rw[AC c8]at y1;obtain⟨x,hx⟩:∃x:Nat,x=ln sy:=⟨_,rfl⟩;rw[<-hx]at y1 aU;have an:=ah.o.set sy (.int .i64 ((x+1:Nat):Int));have a8:(wr.setCell ⟨lb,sy,none⟩ (.int .i64 ((x+1:Nat):Int))).rowIs lb 3 288 (λj=>.int .i64 ((if j∈l.take (k+1)then ln j+1 else ln j:Nat):Int)):=an.congr λj _=>by
         have aw:=XW l k j b0;rw[<-ac]at aw;by_cases e:j=sy
         ·subst e;rw[AE rfl,AE (aw.2 (.inr rfl)),hx]
         rw[AC e];by_cases h2:j∈l.take k
         ·rw[AE h2,AE (aw.2 (.inl h2))]
         rw[AC h2,AC (λh3=>(aw.1 h3).elim h2 e)]
        have af:=Xg wr lb sy (.int .i64 ((x+1:Nat):Int));have a7:=Jy a8;have a5:=Jy (TG a3.o af);have cA:=Jy (bE.o.high af);have aI:=Jy (bF.o.high af);have bu:=Jy ((af F1 (by omega)).trans ax.o);have bb:=Jy ((af F2 (by omega)).trans az.o);have ai:=Jy (aH.o.setCell (p:=⟨lb,sy,none⟩) (AB _) (.int .i64 ((x+1:Nat):Int)));clear an a8 ac hx bc c8 af ah a3 bE bF ax az aH;have b5:((x+1:Nat):Int)=(x:Int)+1:=by omega
        rw[b5]at a7 a5 cA aI bu bb ai;clear b5;go_wp2;go_roundw
        case rel=>exact⟨k+1,by go_num,by omega,by simpa using aL,a7,a5,cA,aI,bu,bb,ai⟩
        case measure=>simp[intOf];omega
       have bH:k=e1.n+e2.n:=by omega
       subst bH;have a1:=Dv 0 ax.o;have a2:=Dv 0 az.o;have bh:aD.length=r.length:=cz.o.length_eq;have aS:=Z8 wr (lb+1) (lb+1) aD pu (e1.wt+e2.wt) g (e1.n+e2.n) a9 aL (by omega) (by omega) dm.o bE.o;rw[show((e1.wt+e2.wt:Nat):Int)=(e1.wt:Int)+(e2.wt:Int) by omega]at aS;have au:=Jy aS;have d0:=Jy bh;have cY:pu+r.length+2<=576:=by simp at bq;omega
       clear aS bh;go_wp2_with fail;refine au.o.mono ?_;rintro e w5 ⟨rfl,bD,cH,cw,bO,b4⟩;have bA:l.take (e1.n+e2.n)=l:=AT (by have:=bp.o;omega);have ag:=ah.o;rw[bA]at ag;have be:=Jy (Mc ag b4.Gr (by omega));have dj:=Jy (aH.o.trans (b4.Gr.zM));have bK:lb+1<=w5.heap.size:=b4.size aL;have bG:List.Perm bD (⟨e1.wt+e2.wt,pu,g,e1.n+e2.n,a9⟩ :: r):=cH.trans (List.Perm.cons _ cz.o);have cW:Hid (JS 288 w5 (lb+1) (lb+1) bD (pu+1) (λb=>if b=g then G e1.b++G e2.b else G b) (λb=>if b=g then max (D e1.b) (D e2.b)+1 else D b) (λj=>if j∈l then ln j+1 else ln j) S W):=by
        refine⟨bO,cw,?_,?_⟩
        ·refine GM.perm (GM.cons (c:=⟨e1.wt+e2.wt,pu,g,e1.n+e2.n,a9⟩) (es:=r) (G:=G) (l:=G e1.b++G e2.b) ?_ ?_ ad.o) bG
         ·intro e he;exact b4.ints.own (bF.o e (CF _ (aZ.o.mem_iff.1 (CF _ he))))
         rw[<-aY.o];exact b4.ints.own a3.o
        exact(JI.join a4.o HN.o cX d9 da.o ⟨e1.wt+e2.wt,pu,g,e1.n+e2.n,a9⟩ rfl ad.o (λj=>if j∈l then ln j+1 else ln j) (λi hi=>by rw[<-aY.o]at hi;exact AE hi) (λi hi=>by rw[<-aY.o]at hi;exact AC hi)).perm bG
       have bQ:bD.length=r.length+1:=by rw[bG.length_eq];rfl
       have bZ:Hid (LR w5 (lb+1)=r.length+1):=by
        show _=_;rw[bO.LR,bQ]
       clear au cH cw bO b4 bA ag bG ah a3 bE bF ax az aH a1 a2;have aK:=Jy bQ;clear bQ;go_wp2;go_roundw
       case rel=>exact⟨pu+1,bD,_,_,_,by have:=aK.o;omega,bK,cW,be,dj⟩
       have h1:=bZ.o;have h2:=d6.o;rw[h1,h2];omega
theorem gU(f g:Nat->Nat)(k:Nat)(h:∀i,i<k->2*g i<=f i+1):2*E6 g k<=E6 f k+k:=by
 induction k with
 | zero=>simp[E6]
 | succ k ih=>have:=ih (λi hi=>h i (by omega));have:=h k (by omega);simp only[E6];omega
theorem iL(f g:Nat->Nat)(k:Nat)(h:∀i,i<k->(0<g i↔0<f i)):0<E6 f k->0<E6 g k:=by
 induction k with
 | zero=>simp[E6]
 | succ k ih =>
   intro h1;simp only[E6]at h1 ⊢;by_cases e:0<f k
   ·have:=(h k (by omega)).2 e;omega
   have:=ih (λi hi=>h i (by omega)) (by omega);omega
theorem S7(f g:Nat->Nat)(k:Nat)(h:∀i,i<k->f i=g i):E6 f k=E6 g k:=by
 induction k with
 | zero=>rfl
 | succ k ih=>simp only[E6];rw[ih (λi hi=>h i (by omega)),h k (by omega)]
theorem Zl(f g:Nat->Nat)(k:Nat)(h:∀i,i<k->(0<f i↔0<g i)):EI f k=EI g k:=by
 unfold EI;refine List.filter_congr λi hi => ?_
 have:=h i (by simpa using hi)
 simp[this]
theorem gY(f:Nat->Nat)(k i:Nat)(h:i<k):f i<=E6 f k:=by
 induction k with
 | zero=>omega
 | succ k ih =>
   simp only[E6];by_cases e:i=k
   ·subst e;omega
   have:=ih (by omega);omega
def PQ(w:D7)(g:Nat):Nat:=E6 (λi=>match w.cell? ⟨g,i,none⟩with | some (.int _ x)=>x.toNat | _=>0) 288
theorem X7{w:D7}{B g c:Nat}{l:List Nat}(h:w.ownsRow B 3 1 (.slice (some ⟨g,0,none⟩) 288 c) 288 (ES l)):PQ w g=E6 (λi=>l.getD i 0) 288:=by
 unfold PQ;refine S7 _ _ _ λi hi => ?_
 rw[Ro h hi];rfl
theorem nC(w:D7)(cb c:Nat)(l:List Nat)(hown:w.ownsRow 0 3 1 (.slice (some ⟨cb,0,none⟩) 288 c) 288 (ES l))(h0:0<E6 (λi=>l.getD i 0) 288)(h1:E6 (λi=>l.getD i 0) 288<=1000000) :
 Calls prog 246 #[.slice (some ⟨cb,0,none⟩) 288 c] w λe w'=>∃ln:Nat->Nat,∃L,e=.returned (.slice (some ⟨L,0,none⟩) 288 288)/\w.heap.size<=L/\w'.rowIs L 3 288 (λj=>.int .i64 (ln j:Nat))/\Below w.heap.size w w'/\(∀i,i<288->(0<ln i↔0<l.getD i 0))/\(∀i,288<=i->ln i=0)/\(∀i,ln i<=12)/\(∀i,ln i<=1\/ln i+1<=(EI (λi=>l.getD i 0) 288).length)/\EG (λi=>2^(288 - ln i)) (EI (λi=>l.getD i 0) 288)<=2^288:=by
 have ay:=Jy (Lx w cb 288 c l (by omega) (by omega) hown);have H0:=Jy h0;have H1:=Jy h1;clear hown h0 h1;go_enter func246,ntmps246
 go_wp2_with fail;refine ay.o.mono ?_;rintro e w1 ⟨g,au,rfl,a4,a6⟩;have aK:=(a4.lt g rfl).1;have ac:=Jy a4;have a8:=Jy a6;clear a4 a6 ay;go_wp2
 go_loopw [] (λwr=>∃m:List Nat,Hid (wr.ownsRow w.heap.size 3 1 (.slice (some ⟨g,0,none⟩) 288 au) 288 (ES m))/\Hid (Below w.heap.size w wr)/\Hid (∀i,i<288->(0<m.getD i 0↔0<l.getD i 0))/\Hid (0<E6 (λi=>m.getD i 0) 288/\E6 (λi=>m.getD i 0) 288<=1000000)) (λwr=>PQ wr g)
 case atStart=>exact⟨l,ac,a8,λi _=>Iff.rfl,⟨H0.o,H1.o⟩⟩
 case round =>
  clear ac a8 H0 H1;obtain⟨m,a0,a2,af,a5⟩:=hrel;have aL:=Jy (X7 a0.o);have ag:=a2.o.size;have aH:=Jy (fj wr g au (λi=>m.getD i 0) _ rfl a5.o.2 a5.o.1 (λi hi=>Ro a0.o hi));go_wp2_with fail;refine aH.o.mono ?_;rintro e w2 ⟨ln,rfl,ae,a9,j1,j2,j3,j4⟩;have aD:=Jy (gV w2 wr.heap.size 288 288 (λi=>(ln i:Int)) (by omega) (by omega) (λi hi=>ae.cell hi));have ar:=Jy ae;have a1:=Jy a9;have J1:=Jy j1;have J2:=Jy j2;have J3:=Jy j3;have J4:=Jy j4;clear aH ae a9 j1 j2 j3 j4;go_wp2_with fail;refine aD.o.mono ?_;rintro e w3 ⟨rfl,mx,rfl,aA,⟨im,aM,aB⟩⟩;have aF:=Jy aA;have aG:=Jy aB;clear aA aB aD;have az:Hid (EI (λi=>m.getD i 0) 288=EI (λi=>l.getD i 0) 288):=Zl _ _ 288 af.o;by_cases aN:mx<=12
  ·go_wp2;go_ret
   refine⟨ln,wr.heap.size,rfl,ag,ar.o,a2.o.trans (a1.o.mono ag),λi hi=>(J1.o i hi).trans (af.o i hi),J2.o,λi => ?_,λi => ?_,?_⟩
   ·by_cases hi:i<288
    ·have:=aF.o i hi;omega
    rw[J2.o i (by omega)];omega
   ·rw[<-az.o];exact(J3.o i).imp id And.right
   rw[<-az.o];exact J4.o
  have aj:610<=E6 (λi=>m.getD i 0) 288:=by
   have h:=aG.o;rcases J3.o im with h2 | ⟨h2,_⟩
   ·omega
   refine AF ?_ h2;rw[<-rW];exact Y9 (by omega)
  have ah:=Jy aj;have a7:=Jy (VD a0.o a1.o (AB _));have ad:=Jy (a2.o.trans (a1.o.mono ag));clear aj a0 a2 ar a1 J1 J2 J3 J4 aF aG;go_wp2
  go_loopw [17] (λi wq=>∃k:Nat,∃n:List Nat,i=.int .i64 k/\k<=288/\Hid (wq.ownsRow w.heap.size 3 1 (.slice (some ⟨g,0,none⟩) 288 au) 288 (ES n))/\Hid (Below w.heap.size w wq)/\Hid (∀i,i<288->n.getD i 0=if i<k then(m.getD i 0+1)/2 else m.getD i 0)) (λi _=>288 - (intOf i).toNat)
  case atStart=>exact⟨0,m,rfl,by omega,a7,ad,λi _=>by rw[AC (by omega)]⟩
  clear a7 ad;obtain⟨k,n,rfl,hk,a0,a2,Hn⟩:=hrel;by_cases av:k<288
  ·have y0:=Ro a0.o av;have I0:=Hn.o k av;rw[AC (by omega)]at I0;obtain⟨x,hx⟩:=Jq (m.getD k 0);have aO:x<=1000000:=by
    have:=gY (λi=>m.getD i 0) 288 k av
    have:=a5.o.2
    omega
   rw[I0,<-hx]at y0;have aC:=a0.o.stored k (.int .i64 (((x+1)/2:Nat):Int));have ai:(ES n).set k (.int .i64 (((x+1)/2:Nat):Int))=ES (n.set k ((x+1)/2)):=by unfold ES;rw[List.map_set]
   have yf:=a0.o.frozenAt k;have aw:=Sn a0.o;have a3:=aC.1;rw[ai]at a3;have a3:=Jy a3;have a1:=Jy (a2.o.setCell (p:=⟨g,k,none⟩) aK (.int .i64 (((x+1)/2:Nat):Int)));have aJ:Hid (∀i,i<288->(n.set k ((x+1)/2)).getD i 0=if i<k+1 then(m.getD i 0+1)/2 else m.getD i 0):=λi hi=>by
    rw[AI,List.getElem?_set];by_cases e:k=i
    ·subst e;rw[AE rfl,AE (by omega),AE (by omega),<-hx];rfl
    rw[AC e,<-AI,Hn.o i hi];by_cases h2:i<k
    ·rw[AE h2,AE (by omega)]
    rw[AC h2,AC (by omega)]
   have aE:(((x+1)/2:Nat):Int)=((x:Int)+1)/2:=by omega
   rw[aE]at a3 a1;clear aC ai I0 hx aE aw a0 a2 Hn;go_wp2;go_roundw
   case rel=>exact⟨k+1,_,by go_num,by omega,a3,a1,aJ⟩
   case measure=>simp[intOf];omega
  have aI:k=288:=by omega
  subst aI;have Hg:Hid (∀i,i<288->n.getD i 0=(m.getD i 0+1)/2):=λi hi=>by rw[Hn.o i hi,AE hi]
  have aa:2*E6 (λi=>n.getD i 0) 288<=E6 (λi=>m.getD i 0) 288+288:=gU _ _ _ λi hi=>by
   have:=Hg.o i hi
   simp only[this];omega
  have am:Hid (∀i,i<288->(0<n.getD i 0↔0<l.getD i 0)):=λi hi=>by
   rw[Hg.o i hi,<-af.o i hi];omega
  have an:Hid (0<E6 (λi=>n.getD i 0) 288/\E6 (λi=>n.getD i 0) 288<=1000000):=by
   refine⟨iL (λi=>m.getD i 0) _ 288 (λi hi => ?_) a5.o.1,?_⟩
   ·simp only[Hg.o i hi];omega
   have:=a5.o.2;have:=ah.o;omega
  have ax:=Jy (X7 a0.o);have ao:=Jy aa;clear aa Hn Hg;go_wp2;go_roundw
  case rel=>exact⟨n,a0,a2,am,an⟩
  rw[ax.o,aL.o]
  have:=ao.o;have:=ah.o
  omega
def F8(l:List (Nat × Nat))(i:Nat):Nat:=EG (λs=>if s.1=i then 1 else 0) l
theorem jo(l:List (Nat × Nat))(i:Nat):F8 l i<=l.length:=by
 unfold F8
 induction l with
 | nil=>exact AB _
 | cons x l ih=>simp only[EG,AY];split<;>omega
theorem nH(l:List (Nat × Nat))(k i:Nat)(h:k<l.length):F8 (l.take (k+1)) i=F8 (l.take k) i+if(l.getD k (0,0)).1=i then 1 else 0:=by
 unfold F8;rw[Ah,AD h,PC,AI,AD h];simp[EG]
theorem Xp(l:List (Nat × Nat))(i:Nat):0<F8 l i↔∃s∈l,s.1=i:=by
 unfold F8
 induction l with
 | nil=>simp[EG]
 | cons x l ih =>
   simp only[EG,As,exists_eq_or_imp];by_cases e:x.1=i
   ·simp[e];omega
   simp only[AC e,Ao,ih]
   constructor
   ·intro h;exact .inr h
   rintro(h | h)
   ·exact absurd h e
   exact h
theorem nG(f g:Nat->Nat)(k:Nat):E6 (λi=>f i+g i) k=E6 f k+E6 g k:=by
 induction k with
 | zero=>rfl
 | succ k ih=>simp only[E6];rw[ih];omega
theorem iA(x k:Nat):E6 (λi=>if x=i then 1 else 0) k=if x<k then 1 else 0:=by
 induction k with
 | zero=>simp[E6]
 | succ k ih =>
   simp only[E6];rw[ih];by_cases e:x=k
   ·subst e;simp
   by_cases h:x<k
   ·rw[AE h,AC e,AE (by omega)]
   rw[AC h,AC e,AC (by omega)]
theorem nW(l:List (Nat × Nat))(h:∀s∈l,s.1<288):E6 (F8 l) 288=l.length:=by
 induction l with
 | nil =>
   have:E6 (F8 []) 288=E6 (λ_=>0) 288:=S7 _ _ _ λi _=>rfl
   rw[this]
   have:∀k,E6 (λ_=>0) k=0:=λk=>by induction k with
    | zero=>rfl
    | succ k ih=>simp only[E6];omega
   rw[this];rfl
 | cons x l ih =>
   have e:E6 (F8 (x :: l)) 288=E6 (λi=>(if x.1=i then 1 else 0)+F8 l i) 288:=S7 _ _ _ λi _=>rfl
   rw[e,nG,iA,AE (h x (by simp)),ih (λs hs=>h s (by simp[hs]))];simp;omega
theorem oS{w:D7}{b n:Nat}{f:Nat->Nat}(h:w.rowIs b 3 n (λj=>.int .i64 (f j:Nat)))(hn:n<=maxLen):w.ownsRow 0 3 1 (.slice (some ⟨b,0,none⟩) n n) n (ES ((List.range n).map f)):=by
 obtain⟨c,hb,hs,hc⟩:=h;refine⟨by simp[ES],.inr ⟨b,n,c,rfl,AU _,hb,AB _,hn,by omega,?_⟩⟩;rw[AT (by simp;omega)];unfold ES;rw[Ch]
 apply Cy
 intro i;by_cases hi:i<n
 ·rw[BQ,DE hi]
  have:=hc i hi
  simpa using this
 rw[Aw (by simp;omega),Aw (by simp;omega)]
theorem WK(f:Nat->Nat)(n i:Nat)(h:i<n):((List.range n).map f).getD i 0=f i:=by
 rw[AI,BQ,DE h];rfl
theorem jd(w:D7)(sb cnt cap:Nat)(l:List (Nat × Nat))(hl:l.length=cnt)(hc:cnt<=4000)(hsy:∀s∈l,s.1<288)(hown:w.ownsRow 0 282 2 (.slice (some ⟨sb,0,none⟩) cnt cap) cnt (Kr l)) :
 Calls prog 247 #[.slice (some ⟨sb,0,none⟩) cnt cap] w λe w'=>e=.returned (.slice (some ⟨w.heap.size,0,none⟩) 288 288)/\w'.rowIs w.heap.size 3 288 (λj=>.int .i64 (F8 l j:Nat))/\Below w.heap.size w w':=by
 obtain⟨M,hM⟩:=Jq (madeCells #[Value.int .i64 0] 288);have ai:∀W:D7,(Instr.makeSlice 22 (.int .i64 288) (.int .i64 288)).run prog W=.ok (.slice (some ⟨W.heap.size,0,none⟩) 288 288) (W.alloc (.cells M 3)):=λW=>by
  rw[hM];exact Cz (P:=prog) 22 3 (.int .i64 0) 8 underlying22 JQ rfl .i64 .i64 288 (by omega) (by omega) W
 have a3:Hid ((w.alloc (.cells M 3)).rowIs w.heap.size 3 288 (λj=>.int .i64 (F8 (l.take 0) j:Nat))):=by rw[hM];exact Co w (.int .i64 0) 288 3
 clear hM;have ad:=(hown.lt sb rfl).2;have a6:Hid (∀i,i<cnt->w.cell? ⟨sb,i*2,none⟩=some (.int .i64 ((l.getD i (0,0)).1:Nat))/\w.cell? ⟨sb,i*2+1,none⟩=some (.int .i64 ((l.getD i (0,0)).2:Nat))):=λi hi=>by
  rw[hown.cellAt (i*2) (by omega),hown.cellAt (i*2+1) (by omega),BG i 2];exact fY l i (by omega)
 have ag:=Jy hsy;have Hl:=Jy hl;clear hown hsy hl;go_enter func247,ntmps247
 go_wp2;clear ai
 go_loopw [9] (λi wr=>∃k:Nat,i=.int .i64 k/\k<=cnt/\Hid (wr.rowIs w.heap.size 3 288 (λj=>.int .i64 (F8 (l.take k) j:Nat)))/\Hid (Below w.heap.size w wr)) (λi _=>cnt - (intOf i).toNat)
 case atStart=>exact⟨0,rfl,by omega,a3,(AM _ w).alloc (AB _) _⟩
 case round =>
  clear a3;obtain⟨k,rfl,hk,a2,a0⟩:=hrel;by_cases af:k<cnt
  ·obtain⟨c1,c2⟩:=a6.o k af;have aa:k<l.length:=by have:=Hl.o;omega
   have a7:l.getD k (0,0)∈l:=by
    rw[AI,AD aa];exact Bp aa
   have a4:=ag.o _ a7;obtain⟨s,hs⟩:=Jq ((l.getD k (0,0)).1);obtain⟨b,hb⟩:=Jq ((l.getD k (0,0)).2);rw[<-hs]at c1 a4;rw[<-hb]at c2;have x1:wr.cell? ⟨sb,k*2,none⟩=some (.int .i64 s):=by rw[a0.o.cell (p:=⟨sb,k*2,none⟩) ad];exact c1
   have x2:wr.cell? ⟨sb,k*2+1,none⟩=some (.int .i64 b):=by rw[a0.o.cell (p:=⟨sb,k*2+1,none⟩) ad];exact c2
   have ac:=a0.o.size;have a1:=a2.o.alloc (.cells #[.int .i64 s,.int .i64 b] 282);have y1:=a1.cell (i:=s) a4;have yf:=a1.frozen s;obtain⟨x,hx⟩:=Jq (F8 (l.take k) s);have aj:x<=4000:=by
    rw[hx];have:=jo (l.take k) s;rw[Ae]at this;omega
   rw[<-hx]at y1;have a5:=a1.set s (.int .i64 ((x:Int)+1));have a8:Hid (((wr.alloc (.cells #[.int .i64 s,.int .i64 b] 282)).setCell ⟨w.heap.size,s,none⟩ (.int .i64 ((x:Int)+1))).rowIs w.heap.size 3 288 (λj=>.int .i64 (F8 (l.take (k+1)) j:Nat))):=a5.congr λj _=>by
    rw[nH l k j aa,<-hs];by_cases e:j=s
    ·subst e;rw[AE rfl,AE rfl,hx];rfl
    rw[AC e,AC (λh=>e h.symm)];rfl
   have a9:Hid (Below w.heap.size w ((wr.alloc (.cells #[.int .i64 s,.int .i64 b] 282)).setCell ⟨w.heap.size,s,none⟩ (.int .i64 ((x:Int)+1)))):=(a0.o.alloc ac _).setCell (p:=⟨w.heap.size,s,none⟩) (AB _) _;clear a5 a1 hs hb hx a7 c1 c2 a2 a0;go_wp2;go_roundw
   case rel=>exact⟨k+1,by go_num,by omega,a8,a9⟩
   case measure=>simp[intOf];omega
  have ah:k=cnt:=by omega
  subst ah;have ae:l.take k=l:=AT (by have:=Hl.o;omega);rw[ae]at a2;clear ae;go_wp2;go_ret
  exact⟨rfl,a2.o,a0.o⟩
theorem mL(M K:Nat)(hK:K=M+12)(S:List Nat)(ln:Nat->Nat)(h:∀i∈S,ln i<=12)(hk:EG (λi=>2^(K - ln i)) S<=2^K):EG (λi=>2^(12 - ln i)) S<=4096:=by
 have e:EG (λi=>2^(K - ln i)) S=2^M*EG (λi=>2^(12 - ln i)) S:=by
  rw[<-Wc];refine SP λi hi => ?_
  rw[<-Nat.pow_add]
  congr 1
  have:=h i hi;omega
 have e2:2^K=2^M*4096:=by rw[hK,Nat.pow_add]
 rw[e,e2]at hk;exact Nat.le_of_mul_le_mul_left hk (DA (by omega))
theorem rJ(S:List Nat)(ln:Nat->Nat)(h:∀i∈S,ln i<=12)(hk:EG (λi=>2^(288 - ln i)) S<=2^288):EG (λi=>2^(12 - ln i)) S<=4096:=
 mL 276 288 rfl S ln h hk
theorem nE(ln c:Nat->Nat)(k:Nat)(h:∀i,i<k->(0<ln i↔0<c i)):sumTo (λi=>(ln i:Int)) k=(EG (λi=>2^(12 - ln i)) (EI c k):Nat):=by
 induction k with
 | zero=>rfl
 | succ k ih =>
   have h1:=ih (λi hi=>h i (by omega));have h2:=h k (by omega);rw[sumTo,h1];unfold wt;by_cases e:0<c k
   ·rw[VV c k e,PC,AE (by have:=h2.2 e;omega)];simp only[EG,Br]
    have:((12:Int) - (ln k:Int)).toNat=12 - ln k:=by omega
    rw[this];simp
   rw[Vu c k (by omega),AC (by have:¬0<ln k:=λhh=>e (h2.1 hh);omega)];omega
theorem kK(ln c:Nat->Nat)(h1:∀i,i<288->(0<ln i↔0<c i))(h2:∀i,ln i<=12)(hk:EG (λi=>2^(288 - ln i)) (EI c 288)<=2^288):Fits (λi=>(ln i:Int)) 288:=by
 refine⟨λk _=>⟨by omega,by have:=h2 k;omega⟩,?_⟩;rw[nE ln c 288 h1]
 have:=rJ (EI c 288) ln (λi _=>h2 i) hk
 omega
theorem kX(ln c:Nat->Nat)(k:Nat)(h:∀i,i<k->(0<ln i↔0<c i)):nz (λi=>(ln i:Int)) k=(EI c k).length:=by
 induction k with
 | zero=>rfl
 | succ k ih =>
   have h2:=h k (by omega);rw[nz,ih (λi hi=>h i (by omega))];by_cases e:0<c k
   ·rw[VV c k e,AC (by have:=h2.2 e;omega)];simp
   rw[Vu c k (by omega),AE (by have:¬0<ln k:=λhh=>e (h2.1 hh);omega)];rfl
theorem lx(l:List Nat)(hn:l.Nodup)(a b c:Nat)(h:∀x∈l,x=a\/x=b\/x=c):l.length<=3:=by
 match l,hn,h with
 | [],_,_=>simp
 | [_],_,_=>simp
 | [_,_],_,_=>simp
 | [_,_,_],_,_=>simp
 | p :: q :: r :: s :: t,hn,h =>
   exfalso
   simp only[List.nodup_cons,As,not_or]at hn;have h1:=h p (by simp);have h2:=h q (by simp);have h3:=h r (by simp);have h4:=h s (by simp);omega
def K8(ln:Nat->Nat)(s:Nat × Nat):Nat:=ln s.1+if s.1<256 then 0 else 12
theorem mW(ln:Nat->Nat)(l:List (Nat × Nat))(h:∀s∈l,ln s.1<=2):EG (K8 ln) l<=2*L8 l+14*Ot l:=by
 unfold L8 Ot
 induction l with
 | nil=>simp[EG]
 | cons x l ih =>
   have h1:=h x (by simp);have h2:=ih (λs hs=>h s (by simp[hs]));simp only[EG,K8]at h2 ⊢
   split<;>omega
theorem oZ{n c pos len:Nat}{l:List (Nat × Nat)}{ln:Nat->Nat}(hn:0<n)(has:AS n c n l)(h1:∀i,i<288->(0<ln i↔0<F8 l i))(h2:∀i,ln i<=1\/ln i+1<=(EI (F8 l) 288).length)
 (hpos:pos<=24+13*nz (λi=>(ln i:Int)) 288+90+EG (K8 ln) l) (hlen:8*len<pos+8):len<=40+n/16:=by
 have key:∀x,(∀s∈l,s.1=c\/s.1=287\/s.1=x)->L8 l<=3->34*Ot l<=n+33->len<=40+n/16:=λx hx a0 a1=>by
  have h3:(EI (F8 l) 288).length<=3:=lx _ (fU _ _) c 287 x λy hy=>by
   have:=((YE _ _ _).1 hy).2
   obtain⟨s,hs,rfl⟩:=(Xp l y).1 this;exact hx s hs
  have h4:=mW ln l λs _=>by have:=h2 s.1;omega
  rw[kX ln (F8 l) 288 h1]at hpos;omega
 cases has with
 | start h _=>omega
 | run a b e f=>exact key c (λs hs=>(f s hs).elim .inl (λh=>.inr (.inl h))) (by omega) (by omega)
 | rest x a b e f=>exact key x f (by omega) (by omega)
theorem Yn(s:D8)(k:Nat):val s (8*k) 8=(s.getD k 0).toNat:=by
 have hb:∀j,j<8->bt s (8*k+j)=(s.getD k 0).toNat/2^(7 - j)%2:=λj hj=>by
  unfold bt;rw[show(8*k+j)/8=k by omega,show(8*k+j)%8=j by omega]
 have hx:=(s.getD k 0).toNat_lt;simp only[Me,pR];rw[hb 7 (by omega),hb 6 (by omega),hb 5 (by omega),hb 4 (by omega),hb 3 (by omega),hb 2 (by omega),hb 1 (by omega),hb 0 (by omega)];simp only[D5,Cq]
 generalize (s.getD k 0).toNat=x at *
 simp only[show(2:Nat)^0=1 from rfl,show(2:Nat)^(7 - 6)=2 from rfl,show(2:Nat)^(7 - 5)=4 from rfl,show(2:Nat)^(7 - 4)=8 from rfl,show(2:Nat)^(7 - 3)=16 from rfl,show(2:Nat)^(7 - 2)=32 from rfl,show(2:Nat)^(7 - 1)=64 from rfl,show(2:Nat)^7=128 from rfl];omega
theorem Ud{b T:D8}{pos k:Nat}(h:Ag b T pos)(hk:8*k+8<=pos):T.getD k 0=b.getD k 0:=by
 apply BL.1
 rw[<-Yn,<-Yn];exact h.val _ _ hk
theorem oW{d T:D8}{z:Nat->Int}{p1 p2:Nat}{b:D8}(h0:0<d.length)(hd:d.length<=4000)(hb:b=[1,UInt8.ofNat (d.length/256),UInt8.ofNat (d.length%256)])(hag:Ag b T 24)(h24:24<=p2)(hf:Fits z 288)(hw:Wr T p2)(hl:EZ (T.drop 3) 288 0 0 (λ_=>0)=some (z,p1 - 24))(hdt:EX (T.drop 3) z 288 d.length d.length [] (p1 - 24)=some (d,p2 - 24)) :
 Gq 288 T=some d:=by
 have a1:=hag.len;have e0:=Ud (k:=0) hag (by omega);have e1:=Ud (k:=1) hag (by omega);have e2:=Ud (k:=2) hag (by omega);have a0:=ru h24 hf hw hl hdt;subst hb;simp only[AY,B7]at a1
 match T,a1,e0,e1,e2,a0 with
 | t0 :: t1 :: t2 :: r,_,e0,e1,e2,a0 =>
   simp at e0 e1 e2;subst e0;have hh:256*t1.toNat+t2.toNat=d.length:=by
    rw[e1,e2,Bw,Bw];omega
   rw[YT 288 (t1 :: t2 :: r) (by simp) (by show ¬(256*t1.toNat+t2.toNat<1\/4000<256*t1.toNat+t2.toNat);omega)];simp only[List.getD_cons_zero,List.getD_cons_succ,List.drop_succ_cons,List.drop_zero]at a0 ⊢;rw[hh];exact a0
end Go.Proofs.YtodmdkhdbfbfgaaGreatDoor.S1
