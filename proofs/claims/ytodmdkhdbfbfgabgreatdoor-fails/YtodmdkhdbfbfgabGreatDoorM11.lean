/- Lemmas. -/
import Derived.Maps.RangeWalk
import Derived.Test.YtodmdkhdbfbfgabGreatDoorM10
set_option linter.unusedVariables false
set_option linter.unusedSimpArgs false
set_option maxRecDepth 100000
set_option maxHeartbeats 8000000
namespace Go.Proofs.YtodmdkhdbfbfgabGreatDoor.S1
open Go.RowKit Pk
open Go.Nt (Fp Pg readP lookF qek isAt isAt_iff scanF rowF oneF FpOk scanF_ok)
theorem qkk (l:List Fp) (f:Fp) (b n a:Nat):lookF (l++[f]) b n a=if (lookF l f.bad f.num f.at_).isSome then lookF l b n a else putF (lookF l) f.bad f.num f.at_ f b n a:=by
 rw [qek];unfold putF;by_cases e:b=f.bad∧n=f.num∧a=f.at_
 ·obtain ⟨rfl,rfl,rfl⟩:=e;have h1:isAt f.bad f.num f.at_ f=true:=isAt_iff.2 ⟨rfl,rfl,rfl⟩;rw [h1];simp
 have h1:isAt b n a f=false:=by
  cases h:isAt b n a f with
  | false=>rfl
  | true=>have:=isAt_iff.1 h;exact absurd ⟨this.1.symm,this.2.1.symm,this.2.2.symm⟩ e
 rw [h1,if_neg e]
 have:(if (lookF l b n a).isSome=true then lookF l b n a else if false=true then some f else none)=lookF l b n a:=by
  cases lookF l b n a<;>simp
 rw [this];simp
theorem qls (w:World) (g n:Nat) (l:List Fp) (f:Fp) (hP:FAt w g n (lookF l)) (hn:n≤100000) (h0:f.bad≤1000000) (h1:f.num≤4294967295) (h2:f.at_≤1000000) :
 Calls Tryz.prog 85 #[.map (some g),fv f] w fun e w'=>e=.returned (.tuple #[])∧FAt w' g (n+1) (lookF (l++[f]))∧Fm (fun k=>k=g) w w':=by
 have hml:=hP.lt;have HL:=hidI (qkk l f);obtain ⟨b,hb⟩:∃ x,x=f.bad:=⟨_,rfl⟩;obtain ⟨r,hr⟩:∃ x,x=f.num:=⟨_,rfl⟩;obtain ⟨a,ha⟩:∃ x,x=f.at_:=⟨_,rfl⟩;have Hfv:Hid (fv f=.agg #[.int .i64 (b:Nat),.int .u32 (r:Nat),.int .i64 (a:Nat),.int .i64 (f.of_:Nat),.string (txt f.text),.int .i64 (f.blk:Nat)]):=hidI (by rw [hb,hr,ha];rfl);rw [Hfv.out];rw [←hb,←hr,←ha] at HL;rw [←hb] at h0;rw [←hr] at h1;rw [←ha] at h2;obtain ⟨o,ho⟩:∃ x,x=f.of_:=⟨_,rfl⟩;obtain ⟨X,hX⟩:∃ x,x=txt f.text:=⟨_,rfl⟩;obtain ⟨bk,hbk⟩:∃ x,x=f.blk:=⟨_,rfl⟩;rw [←ho,←hX,←hbk] at Hfv ⊢;clear hb hr ha ho hX hbk;obtain ⟨W1,hW1⟩:∃ W1,W1=w.alloc (.cells #[.int .i64 (b:Nat),.int .u32 (r:Nat),.int .i64 (a:Nat),.int .i64 (o:Nat),.string X,.int .i64 (bk:Nat)] 146):=⟨_,rfl⟩;obtain ⟨W2,hW2⟩:∃ W2,W2=W1.alloc (.cells #[.int .i64 (b:Nat),.int .u32 (r:Nat),.int .i64 (a:Nat)] 148):=⟨_,rfl⟩;have hs1:W1.heap.size=w.heap.size+1:=by rw [hW1];simp
 obtain ⟨g3,hg3⟩:∃ g,g=w.heap.size:=⟨_,rfl⟩;have hb3:W1.heap[g3]? = some (.cells #[.int .i64 (b:Nat),.int .u32 (r:Nat),.int .i64 (a:Nat),.int .i64 (o:Nat),.string X,.int .i64 (bk:Nat)] 146 (0,0)):=by rw [hW1,hg3];exact heap_alloc_new w _
 have hb3':W2.heap[g3]? = some (.cells #[.int .i64 (b:Nat),.int .u32 (r:Nat),.int .i64 (a:Nat),.int .i64 (o:Nat),.string X,.int .i64 (bk:Nat)] 146 (0,0)):=by rw [hW2,Below.heap_alloc W1 _ _ (by omega)];exact hb3
 have hb4:W2.heap[g3+1]? = some (.cells #[.int .i64 (b:Nat),.int .u32 (r:Nat),.int .i64 (a:Nat)] 148 (0,0)):=by rw [hW2,hg3,←hs1];exact heap_alloc_new W1 _
 have hP2:FAt W2 g n (lookF l):=hP.of_block (by rw [hW2,Below.heap_alloc W1 _ _ (by omega),hW1,Below.heap_alloc w _ _ hml]);have hFm2:Fm (fun k=>k=g) w W2:=by rw [hW2,hW1];exact ((Fm.refl _ w).alloc _).alloc _
 have d0:W1.cell? ⟨g3,0,none⟩=some (.int .i64 (b:Nat)):=by rw [cell_of_row W1 g3 0 _ 146 (0,0) hb3];rfl
 have d1:W1.cell? ⟨g3,1,none⟩=some (.int .u32 (r:Nat)):=by rw [cell_of_row W1 g3 1 _ 146 (0,0) hb3];rfl
 have d2:W1.cell? ⟨g3,2,none⟩=some (.int .i64 (a:Nat)):=by rw [cell_of_row W1 g3 2 _ 146 (0,0) hb3];rfl
 have k0:W2.cell? ⟨g3+1,0,none⟩=some (.int .i64 (b:Nat)):=by rw [cell_of_row W2 (g3+1) 0 _ 148 (0,0) hb4];rfl
 have k1:W2.cell? ⟨g3+1,1,none⟩=some (.int .u32 (r:Nat)):=by rw [cell_of_row W2 (g3+1) 1 _ 148 (0,0) hb4];rfl
 have k2:W2.cell? ⟨g3+1,2,none⟩=some (.int .i64 (a:Nat)):=by rw [cell_of_row W2 (g3+1) 2 _ 148 (0,0) hb4];rfl
 have hlk:=(hP2.look h0 h1 h2).1;obtain ⟨q,hq⟩:∃ q,q=(lookF l b r a).getD fp0:=⟨_,rfl⟩;obtain ⟨z,hz⟩:∃ z,z=(lookF l b r a).isSome:=⟨_,rfl⟩;rw [←hq,←hz] at hlk;rw [←hz] at HL;unfold fv pv at hlk;have HW1:=hidI hW1;have HW2:=hidI hW2;have HP2:=hidI hP2;have HFm2:=hidI hFm2;have Hb3:=hidI hb3';have Hb4:=hidI hb4;have Hs1:=hidI hs1;rw [←hg3] at Hs1;have Hg3:=hidI hg3;have Hml:=hidI hml;clear hW1 hW2 hs1 hb3 hb3' hb4 hP2 hFm2 hq hz hP hg3 hml;obtain ⟨W3,hW3⟩:∃ W3,W3=W2.alloc (.cells #[.int .i64 (q.bad:Nat),.int .u32 (q.num:Nat),.int .i64 (q.at_:Nat),.int .i64 (q.of_:Nat),.string (txt q.text),.int .i64 (q.blk:Nat)] 146):=⟨_,rfl⟩;have hk3:∀ k,k<W2.heap.size→W3.heap[k]? = W2.heap[k]? := fun k hk=>by rw [hW3];exact Below.heap_alloc W2 _ k hk
 have HFm3:Hid (Fm (fun k=>k=g) w W3):=hidI (by rw [hW3];exact HFm2.out.alloc _);have HP3:Hid (FAt W3 g n (lookF l)):=hidI (HP2.out.of_block (hk3 g HP2.out.lt));have hr3:=(hk3 g3 (lt_of_heap Hb3.out)).trans Hb3.out;have hr4:=(hk3 (g3+1) (lt_of_heap Hb4.out)).trans Hb4.out;have HW3:=hidI hW3;obtain ⟨V,hupd,hPV,hmV⟩:=HP3.out.store h0 h1 h2 (by omega) f;rw [Hfv.out] at hupd;unfold pv at hupd;have HPV:=hidI hPV;have HFV:=hidI (HFm3.out.map (fun _=>rfl) hmV);have c0:W3.cell? ⟨g3+1,0,none⟩=some (.int .i64 (b:Nat)):=by rw [cell_of_row W3 (g3+1) 0 _ 148 (0,0) hr4];rfl
 have c1:W3.cell? ⟨g3+1,1,none⟩=some (.int .u32 (r:Nat)):=by rw [cell_of_row W3 (g3+1) 1 _ 148 (0,0) hr4];rfl
 have c2:W3.cell? ⟨g3+1,2,none⟩=some (.int .i64 (a:Nat)):=by rw [cell_of_row W3 (g3+1) 2 _ 148 (0,0) hr4];rfl
 have e0:W3.cell? ⟨g3,0,none⟩=some (.int .i64 (b:Nat)):=by rw [cell_of_row W3 g3 0 _ 146 (0,0) hr3];rfl
 have e1:W3.cell? ⟨g3,1,none⟩=some (.int .u32 (r:Nat)):=by rw [cell_of_row W3 g3 1 _ 146 (0,0) hr3];rfl
 have e2:W3.cell? ⟨g3,2,none⟩=some (.int .i64 (a:Nat)):=by rw [cell_of_row W3 g3 2 _ 146 (0,0) hr3];rfl
 have e3:W3.cell? ⟨g3,3,none⟩=some (.int .i64 (o:Nat)):=by rw [cell_of_row W3 g3 3 _ 146 (0,0) hr3];rfl
 have e4:W3.cell? ⟨g3,4,none⟩=some (.string X):=by rw [cell_of_row W3 g3 4 _ 146 (0,0) hr3];rfl
 have e5:W3.cell? ⟨g3,5,none⟩=some (.int .i64 (bk:Nat)):=by rw [cell_of_row W3 g3 5 _ 146 (0,0) hr3];rfl
 clear hk3 hW3 hPV hmV hr3 hr4;cases z with
 | true =>
   have HR:Hid (∀ x y z,lookF l x y z=lookF (l++[f]) x y z):=hidI (fun x y z=>by rw [HL.out];rfl);go_enter Tryz.func85,Tryz.ntmps85
   go_wp2_with (first | (rw [←HW1.out,←Hg3.out]) | (rw [←HW2.out,Hs1.out]) | (rw [←HW3.out]) | fail);go_end0
   exact ⟨rfl,(HP3.out.congr HR.out).mono (by omega),HFm3.out⟩
 | false =>
   have HR:Hid (∀ x y z,putF (lookF l) b r a f x y z=lookF (l++[f]) x y z):=hidI (fun x y z=>by rw [HL.out];rfl);go_enter Tryz.func85,Tryz.ntmps85
   go_wp2_with (first | (rw [←HW1.out,←Hg3.out]) | (rw [←HW2.out,Hs1.out]) | (rw [←HW3.out]) | fail);go_end0
   exact ⟨rfl,HPV.out.congr HR.out,HFV.out⟩
theorem qno (w:World):(Instr.makeMap 103 none).run Tryz.prog w=.ok (.map (some w.heap.size)) (w.alloc (.map #[] 0)):=by
 simp [Instr.makeMap,Result.andThen]
def pgs (m:M) (i p:Nat):List UInt8:=pad (m.pg i p)
theorem qiw {m:M} (hw:WF m) {i p:Nat} (hi:i<m.nb) (hp:p<m.np):(pgs m i p).length=64:=by
 have:=hw.pg i p hi hp
 unfold pgs pad;simp;omega
def FindP (m:M) (w:World) (e:Ending) (w':World):Prop:=
 e=.returned (.map (some w.heap.size))∧FAt w' w.heap.size (m.nb*m.np) (lookF (scanF (pgs m) m.np m.nb))∧Below w.heap.size w w'
theorem qhD (w:World) (lo hi cb:Nat) (L:Loc) (m:M) (hw:WF m) (h:CP w lo hi cb L m) (hsz:hi≤w.heap.size) (hl:m.life≠0) :
 Calls Tryz.prog 58 #[.pointer (some ⟨cb,0,none⟩)] w fun e w'=>FindP m w e w':=by
 have h32:=hw.nb2;have h16:=hw.np2;obtain ⟨W0,hW0⟩:∃ W0,W0=w.alloc (.map #[] 0):=⟨_,rfl⟩;have hbW:Below w.heap.size w W0:=by rw [hW0];exact (Below.refl _ w).alloc (Nat.le_refl _) _
 have hS0:FAt W0 w.heap.size 0 (fun _ _ _=>none):=by rw [hW0];exact qoh w
 have HC:=hidI (fun (V:World) (hV:Below w.heap.size w V)=>(MemX.below h hsz hV:CP V lo hi cb L m));have hmk:=qno w;rw [←hW0] at hmk;obtain ⟨g,hg⟩:∃ g,g=w.heap.size:=⟨_,rfl⟩;unfold FindP;rw [←hg] at hS0 hsz hmk hbW HC ⊢;have HBk:=hidI (fun V hV=>qaU V lo hi cb L m (HC.out V hV));have HPg:=hidI (fun V hV=>pages_any V lo hi cb L m (HC.out V hV));have HRd:Hid (∀ (V:World),Below g w V→∀ (i p:Nat),i<m.nb→p<m.np→Calls Tryz.prog 83 #[.pointer (some ⟨cb,0,none⟩),.int .i64 (i:Nat),.int .i64 (p:Nat)] V fun e w'=>e=.returned (.tuple #[.string (txt (pgs m i p)),.bool true])∧Below V.heap.size V w'):=hidI (fun V hV i p hi' hp'=>by
  have:=qmd V lo hi cb L m (i:Nat) (p:Nat) hw (HC.out V hV)
  have e:readF m (i:Nat) (p:Nat)=some (pgs m i p):=by
   unfold readF;rw [if_pos ⟨hl,by simp [hasB,hi'],by omega,by omega⟩];rfl
  rw [e] at this;exact this)
 have HRp:Hid (∀ (V:World) (i p:Nat),i<m.nb→p<m.np→Calls Tryz.prog 84 #[.string (txt (pgs m i p))] V fun e w'=>ReadP (pgs m i p) V e w'):=hidI (fun V i p hi' hp'=>qfi (pgs m i p) V (qiw hw hi' hp'));obtain ⟨nb,hnb⟩:∃ nb,nb=m.nb:=⟨_,rfl⟩;obtain ⟨np,hnp⟩:∃ np,np=m.np:=⟨_,rfl⟩;rw [←hnb] at HBk HRd HRp h32 ⊢;rw [←hnp] at HPg HRd HRp h16 ⊢;have HS0:=hidI hS0;have HB0:=hidI hbW;have Hg:=hidI hg;obtain ⟨G,hG⟩:∃ G,G=pgs m:=⟨_,rfl⟩;rw [←hG] at HRd HRp ⊢;clear h hw hbW hS0 hW0 hnb hnp hg hl hG HC;go_enter Tryz.func58,Tryz.ntmps58
 go_wp2_with fail;refine (HBk.out _ HB0.out).mono ?_;rintro e w' ⟨rfl,hw⟩;have hw':=hw.symm;subst hw';clear hw;go_wp2_with fail
 go_loopw [13] (fun i wr=>∃ k n:Nat,k≤nb∧n≤k*np∧i=.int .i64 k∧Hid (FAt wr g n (lookF (scanF G np k)))∧Hid (Below g w wr)) (fun i _=>nb - (intOf i).toNat)
 case atStart=>exact ⟨0,0,Nat.zero_le _,Nat.zero_le _,rfl,hidI (HS0.out.congr fun b r a=>rfl),HB0⟩
 case round =>
  clear HS0 HB0 hmk;obtain ⟨k,n,hk,hn,rfl,HS,HB⟩:=hrel;by_cases hlt:k<nb
  ·go_wp2_with fail;refine (HPg.out _ HB.out).mono ?_;rintro e w' ⟨rfl,hw⟩;have hw':=hw.symm;subst hw';clear hw;go_wp2_with fail
   go_loopw [18] (fun i wr=>∃ p n':Nat,p≤np∧n'≤n+p∧i=.int .i64 p∧Hid (FAt wr g n' (lookF (scanF G np k++rowF G k p)))∧Hid (Below g w wr)) (fun i _=>np - (intOf i).toNat)
   case atStart=>exact ⟨0,n,Nat.zero_le _,Nat.le_refl _,rfl,hidI (HS.out.congr fun b r a=>by rw [rowF,List.append_nil]),HB⟩
   clear HS HB;obtain ⟨p,n',hp,hn',rfl,HS,HB⟩:=hrel;by_cases hlp:p<np
   ·have hgs:=HS.out.lt;have A1:=hidI (HRd.out wr HB.out k p hlt hlp);go_wp2_with fail;refine A1.out.mono ?_;rintro e V1 ⟨rfl,hV1⟩;have A2:=hidI (HRp.out V1 k p hlt hlp);have HB1:=hidI (HB.out.trans (hV1.mono (by omega)));have HS1:=hidI (HS.out.of_block (hV1.block g hgs));have hgs1:=HS1.out.lt;obtain ⟨Y,hY⟩:∃ Y,Y=txt (G k p):=⟨_,rfl⟩;rw [←hY] at A2;rw [←hY];clear A1 hV1 HS HB hY;go_wp2_with fail;refine A2.out.mono ?_;rintro e V2 ⟨q,rfl,hq,hV2⟩;have HB2:=hidI (HB1.out.trans (hV2.mono (by omega)));have HS2:=hidI (HS1.out.of_block (hV2.block g hgs1));have hgs2:=HS2.out.lt;unfold pgv;rw [show Go.Proofs.YtodmdkhdbfbfgabGreatDoor.txt q.text=txt q.text from rfl];obtain ⟨W3,hW3⟩:∃ W3,W3=V2.alloc (.cells #[.int .i64 (q.bad:Nat),.int .u32 (q.num:Nat),.int .i64 (q.at_:Nat),.int .i64 (q.of_:Nat),.string (txt q.text)] 141):=⟨_,rfl⟩;have HW3:=hidI hW3;obtain ⟨pb,hpb⟩:∃ pb,pb=V2.heap.size:=⟨_,rfl⟩
    have Hpb:=hidI hpb;have hr3:W3.heap[pb]? = some (.cells #[.int .i64 (q.bad:Nat),.int .u32 (q.num:Nat),.int .i64 (q.at_:Nat),.int .i64 (q.of_:Nat),.string (txt q.text)] 141 (0,0)):=by rw [hW3,hpb];exact heap_alloc_new _ _
    have hb3:Below V2.heap.size V2 W3:=by rw [hW3];exact (Below.refl _ V2).alloc (Nat.le_refl _) _
    have HB3:=hidI (HB2.out.trans (hb3.mono (by omega)));have HS3:=hidI (HS2.out.of_block (hb3.block g hgs2));have hgs3:=HS3.out.lt;have c0:W3.cell? ⟨pb,0,none⟩=some (.int .i64 (q.bad:Nat)):=by rw [cell_of_row W3 pb 0 _ 141 (0,0) hr3];rfl
    have c1:W3.cell? ⟨pb,1,none⟩=some (.int .u32 (q.num:Nat)):=by rw [cell_of_row W3 pb 1 _ 141 (0,0) hr3];rfl
    have c2:W3.cell? ⟨pb,2,none⟩=some (.int .i64 (q.at_:Nat)):=by rw [cell_of_row W3 pb 2 _ 141 (0,0) hr3];rfl
    have c3:W3.cell? ⟨pb,3,none⟩=some (.int .i64 (q.of_:Nat)):=by rw [cell_of_row W3 pb 3 _ 141 (0,0) hr3];rfl
    have c4:W3.cell? ⟨pb,4,none⟩=some (.string (txt q.text)):=by rw [cell_of_row W3 pb 4 _ 141 (0,0) hr3];rfl
    have hpn:n'≤600:=by have:k*np≤32*16:=Nat.mul_le_mul (by omega) h16;omega
    cases hr:readP (G k p) with
    | none =>
      have hrow:Hid (rowF G k (p+1)=rowF G k p):=hidI (by rw [rowF,oneF,hr];simp);clear hW3 hpb hr3 hb3 hq HS1 HB1 A2 HS2 HB2 hV2;simp only [Option.isSome_none];go_wp2_with (first | (rw [←HW3.out,←Hpb.out]) | fail);go_roundw
      case rel=>exact ⟨p+1,n',by omega,by omega,by go_num,hidI (by rw [hrow.out];exact HS3.out),HB3⟩
      case measure=>simp [intOf];omega
    | some q' =>
      have hqq:q=q':=hq q' hr;subst hqq;have hfit:=Go.Nt.sayP_fit (G k p);have hsay:=(Go.Nt.readP_some hr).2.1;have hrow:Hid (scanF G np k++rowF G k (p+1)=(scanF G np k++rowF G k p)++[Fp.mk' q k]):=hidI (by rw [rowF,oneF,hr];simp);rw [←hsay] at hfit;have A3:=hidI (qls W3 g n' (scanF G np k++rowF G k p) (Fp.mk' q k) HS3.out (by omega) (by show q.bad≤_;omega) (by show q.num≤_;omega) (by show q.at_≤_;omega));unfold fv Fp.mk' at A3;clear hW3 hpb hr3 hb3 hq HS1 HB1 A2 HS2 HB2 hV2 hr hsay hfit;simp only [Option.isSome_some];go_wp2_with (first | (rw [←HW3.out,←Hpb.out]) | fail);refine A3.out.mono ?_;rintro e V4 ⟨rfl,hF4,hm4⟩;have HF4:Hid (FAt V4 g (n'+1) (lookF (scanF G np k++rowF G k (p+1)))):=hidI (by rw [hrow.out];exact hF4);have HB4:=hidI (HB3.out.trans (hm4.below (B:=g) (fun k hk=>Nat.le_of_eq hk.symm) (by omega)));clear hF4 hm4 A3 HS3 HB3;go_wp2_with fail;go_roundw
      case rel=>exact ⟨p+1,n'+1,by omega,by omega,by go_num,HF4,HB4⟩
      case measure=>simp [intOf];omega
   have hpn:p=np:=by omega
   subst hpn;go_wp2_with fail;go_roundw
   case rel=>exact ⟨k+1,n',by omega,by rw [Nat.succ_mul];omega,by go_num,HS,HB⟩
   case measure=>simp [intOf];omega
  have hkn:k=nb:=by omega
  subst hkn;go_wp2;go_ret
  exact ⟨rfl,HS.out.mono hn,HB.out⟩
end Go.Proofs.YtodmdkhdbfbfgabGreatDoor.S1
namespace Go.Proofs.YtodmdkhdbfbfgabGreatDoor.S1
open Go.RowKit Pk
open Go.Nt (Fp lookF hasL hasL_iff FpOk qar)
theorem qkB (g n b r:Nat) (S:Nat→Nat→Bool) (w:World) (h:LbAt w g n S) (hb:b≤1000000) (hr:r≤4294967295) (hn:n≤1000000) :
 Calls Tryz.prog 86 #[.map (some g),lv b r] w fun e w'=>e=.returned (.tuple #[])∧LbAt w' g (n+1) (fun x y=>(x==b&&y==r)||S x y)∧Fm (fun k=>k=g) w w':=by
 obtain ⟨W1,hW1⟩:∃ W1,W1=w.alloc (.cells #[.int .i64 (b:Nat),.int .u32 (r:Nat)] 74):=⟨_,rfl⟩;obtain ⟨g3,hg3⟩:∃ g3,g3=w.heap.size:=⟨_,rfl⟩;have hb1:W1.heap[g3]? = some (.cells #[.int .i64 (b:Nat),.int .u32 (r:Nat)] 74 (0,0)):=by rw [hW1,hg3];exact heap_alloc_new _ _
 have h1:LbAt W1 g n S:=h.of_block (by rw [hW1];exact Below.heap_alloc w _ _ h.lt);have hF1:Fm (fun k=>k=g) w W1:=by rw [hW1];exact (Fm.refl _ w).alloc _
 have c0:W1.cell? ⟨g3,0,none⟩=some (.int .i64 (b:Nat)):=by rw [cell_of_row W1 g3 0 _ 74 (0,0) hb1];rfl
 have c1:W1.cell? ⟨g3,1,none⟩=some (.int .u32 (r:Nat)):=by rw [cell_of_row W1 g3 1 _ 74 (0,0) hb1];rfl
 obtain ⟨V,hu,hS,hm⟩:=h1.store hb hr hn;unfold lv at hu ⊢;have HS:=hidI hS;have HF:=hidI (hF1.map (fun _=>rfl) hm);have HW1:=hidI hW1;have Hg3:=hidI hg3;clear h h1 hb1 hW1 hS hm hF1 hg3;go_enter Tryz.func86,Tryz.ntmps86
 go_wp2_with (first | (rw [←HW1.out,←Hg3.out]) | fail);go_end0
 exact ⟨rfl,HS.out,HF.out⟩
theorem qjn (g n b r:Nat) (S:Nat→Nat→Bool) (w:World) (h:LbAt w g n S) (hb:b≤1000000) (hr:r≤4294967295) :
 Calls Tryz.prog 111 #[.map (some g),lv b r] w fun e w'=>e=.returned (.bool (S b r))∧Below w.heap.size w w':=by
 obtain ⟨W1,hW1⟩:∃ W1,W1=w.alloc (.cells #[.int .i64 (b:Nat),.int .u32 (r:Nat)] 74):=⟨_,rfl⟩;obtain ⟨g3,hg3⟩:∃ g3,g3=w.heap.size:=⟨_,rfl⟩;have hb1:W1.heap[g3]? = some (.cells #[.int .i64 (b:Nat),.int .u32 (r:Nat)] 74 (0,0)):=by rw [hW1,hg3];exact heap_alloc_new _ _
 have h1:LbAt W1 g n S:=h.of_block (by rw [hW1];exact Below.heap_alloc w _ _ h.lt);have c0:W1.cell? ⟨g3,0,none⟩=some (.int .i64 (b:Nat)):=by rw [cell_of_row W1 g3 0 _ 74 (0,0) hb1];rfl
 have c1:W1.cell? ⟨g3,1,none⟩=some (.int .u32 (r:Nat)):=by rw [cell_of_row W1 g3 1 _ 74 (0,0) hb1];rfl
 have hbl:Below w.heap.size w W1:=by rw [hW1];exact (Below.refl _ w).alloc (Nat.le_refl _) _
 have hl:=h1.look hb hr;obtain ⟨z,hz⟩:∃ z,z=S b r:=⟨_,rfl⟩;rw [←hz] at hl ⊢;unfold lv at hl ⊢;have HB:=hidI hbl;have HW1:=hidI hW1;have Hg3:=hidI hg3;clear h h1 hb1 hW1 hbl hg3 hz;go_enter Tryz.func111,Tryz.ntmps111
 go_wp2_with (first | (rw [←HW1.out,←Hg3.out]) | fail);go_ret
 exact ⟨rfl,HB.out.alloc HB.out.size _⟩
theorem qn1 (w:World):(Instr.makeMap 107 none).run Tryz.prog w=.ok (.map (some w.heap.size)) (w.alloc (.map #[] 0)):=by
 simp [Instr.makeMap,Result.andThen]
def qjY (l:List Fp) (w:World) (e:Ending) (w':World):Prop:=
 e=.returned (.map (some w.heap.size))∧LbAt w' w.heap.size 100000 (hasL l)∧Below w.heap.size w w'
theorem qea (w:World) (g n:Nat) (l:List Fp) (hF:FAt w g n (lookF l)) (hn:n≤100000) (hok:∀ f∈l,FpOk f) :
 Calls Tryz.prog 59 #[.map (some g)] w fun e w'=>qjY l w e w':=by
 obtain ⟨D,ho,hh,hk⟩:=hF;have hgl:=ho.lt;have hsz:Maps.size D≤100000:=Nat.le_trans ho.size_le hn;obtain ⟨W0,hW0⟩:∃ W0,W0=w.alloc (.map #[] 0):=⟨_,rfl⟩;have hbW:Below w.heap.size w W0:=by rw [hW0];exact (Below.refl _ w).alloc (Nat.le_refl _) _
 have hL0:LbAt W0 w.heap.size 0 (fun _ _=>false):=by rw [hW0];exact qn0 w
 have hmk:=qn1 w;rw [←hW0] at hmk;have ho0:W0.ownsMap Tryz.prog 148 fpOf g n D:=by
  obtain ⟨es,clock,h1,h2⟩:=ho;exact ⟨es,clock,(hbW.block g hgl).trans h1,h2⟩
 obtain ⟨lb,hlb⟩:∃ lb,lb=w.heap.size:=⟨_,rfl⟩;unfold qjY;rw [←hlb] at hL0 hmk hbW hgl ⊢;have Ho0:=hidI ho0;have HL0:=hidI hL0;have HB0:=hidI hbW;have Hh:=hidI hh;have Hk:=hidI hk;have Hok:=hidI hok;have hs0:lb<W0.heap.size:=hL0.lt;clear ho hh hk hW0 hbW hL0 ho0 hlb hok;go_enter Tryz.func59,Tryz.ntmps59
 go_wp2_with (first | (at_range;refine wpList_range_own _ rfl _ 103 rfl 148 146 law189 Tryz.underlying103 _ g _ D rfl Ho0.out ?_;intro w0 hrg0 hg0 hs0') | go_in)
 go_frame
 have Hb0:Hid (Below lb w w0):=hidI (HB0.out.grown hg0 (by omega) (fun q hq=>by cases hq));have HL1:Hid (LbAt w0 lb 0 (fun _ _=>false)):=hidI (HL0.out.of_block (hg0.block lb hs0 (fun e=>by cases e)));have Hrg0:=hidI hrg0;have hsz0:=hs0';obtain ⟨r,hr⟩:∃ r,r=W0.heap.size:=⟨_,rfl⟩;rw [←hr] at Hrg0 hs0 hsz0 ⊢;clear hrg0 hg0 Ho0 HL0 HB0 hmk hs0' hr
 go_loopw [4] (fun _ wx=>∃ (left:Lit→Bool) (cnt k:Nat) (S:Nat→Nat→Bool),wx.ranges Tryz.prog 148 fpOf g r n D left cnt∧k+cnt≤Maps.size D∧Hid (∀ b n,S b n=true→hasL l b n=true)∧Hid (∀ b n a,b≤1000000→n≤4294967295→a≤1000000→(lookF l b n a).isSome=true→left (pk b n a)=false→S b n=true)∧Hid (LbAt wx lb k S)∧Hid (Below lb w wx))
  (fun _ wx=>wx.rangeLeft g r)
 case atStart=>exact ⟨_,_,0,_,Hrg0.out,by omega,hidI (fun b n h=>by cases h),hidI (fun b n a h1 h2 h3 h4 h5=>by rw [(Hh.out b n a h1 h2 h3).1,h4] at h5;cases h5),HL1,Hb0⟩
 case round =>
  clear Hrg0 Hb0 HL1;obtain ⟨left,cnt,k,S,hrg,hkc,H1,H2,HL,HB⟩:=hrel;go_wp2_with (first | (at_next;refine wpList_next_ranges _ rfl _ rfl 148 law189 fpOf id id (fun key kl hk=>⟨key,rfl⟩) (fun v _ _=>⟨v,rfl⟩) g r _ _ _ _ rfl hrg ?_ ?_) | go_in)
  ·intro _ hl0;have HS:Hid (∀ b n,S b n=hasL l b n):=hidI (fun b n=>by
    cases hs:S b n with
    | true=>exact (H1.out b n hs).symm
    | false =>
      cases hh:hasL l b n with
      | false=>rfl
      | true =>
        obtain ⟨f,hf,rfl,rfl⟩:=hasL_iff.1 hh;have ok:=Hok.out f hf;have hx:(lookF l f.bad f.num f.at_).isSome=true:=by
         cases hl:lookF l f.bad f.num f.at_ with
         | some _=>rfl
         | none=>exact absurd ⟨rfl,rfl,rfl⟩ (Go.Nt.lookF_none.1 hl f hf)
        have:=H2.out f.bad f.num f.at_ (by have:=ok.b;omega) (by have:=ok.n;omega) (by have:=ok.a;have:=ok.o;omega) hx (hl0 _)
        rw [hs] at this;cases this)
   clear hrg H1 H2;go_wp2;go_ret
   exact ⟨rfl,(HL.out.congr HS.out).mono (by omega),HB.out⟩
  intro x cv kl yd yp w2 cnt2 hkey hlk hv hat hrg2 hlt2 hg2 hs2 hen;have hhas:Maps.has D kl=true:=Maps.has_true_of_atKey hat;obtain ⟨b,rr,a,hb,hrr,ha,rfl⟩:=Hk.out kl hhas;have hx:x=pv b rr a:=law189.inj (hkey.trans rfl) (key189 hb hrr ha);subst hx;have his:(lookF l b rr a).isSome=true:=by rw [←(Hh.out b rr a hb hrr ha).1];exact hhas
  have hlab:hasL l b rr=true:=by
   obtain ⟨f,hf⟩:=Option.isSome_iff_exists.1 his
   have:=qar hf
   exact hasL_iff.2 ⟨f,this.1,this.2.1,this.2.2.1⟩
  have HB2:Hid (Below lb w w2):=hidI (HB.out.grown hg2 (Nat.le_of_lt HL.out.lt) (fun q hq=>by cases hq;omega));have HL2:Hid (LbAt w2 lb k S):=hidI (HL.out.of_block (hg2.block lb HL.out.lt (fun e=>by cases e;omega)));have Hrg2:=hidI hrg2;have Hrg:=hidI hrg;have Hlab:=hidI hlab;have hrsz:r<w2.heap.size:=by rw [hs2];exact hrg.lt
  clear hat hv hkey hlk hg2 hs2 hrg2 hrg hhas his hlab HB HL
  try simp only [id] at hen
  unfold pv at hen
  try simp only [id]
  unfold pv;obtain ⟨W3,hW3⟩:∃ W3,W3=w2.alloc (.cells #[.int .i64 (b:Nat),.int .u32 (rr:Nat),.int .i64 (a:Nat)] 148):=⟨_,rfl⟩;obtain ⟨kb,hkb⟩:∃ kb,kb=w2.heap.size:=⟨_,rfl⟩;have hr3:W3.heap[kb]? = some (.cells #[.int .i64 (b:Nat),.int .u32 (rr:Nat),.int .i64 (a:Nat)] 148 (0,0)):=by rw [hW3,hkb];exact heap_alloc_new _ _
  have hb3:Below w2.heap.size w2 W3:=by rw [hW3];exact (Below.refl _ w2).alloc (Nat.le_refl _) _
  have c0:W3.cell? ⟨kb,0,none⟩=some (.int .i64 (b:Nat)):=by rw [cell_of_row W3 kb 0 _ 148 (0,0) hr3];rfl
  have c1:W3.cell? ⟨kb,1,none⟩=some (.int .u32 (rr:Nat)):=by rw [cell_of_row W3 kb 1 _ 148 (0,0) hr3];rfl
  have HL3:=hidI (HL2.out.of_block (hb3.block lb HL2.out.lt));have HB3:=hidI (HB2.out.trans (hb3.mono (by have:=HB2.out.size;have h9:=HL2.out.lt;omega)));have Hrg3:Hid (W3.ranges Tryz.prog 148 fpOf g r n D (fun z=>left z && !z.sameKey (pk b rr a)) cnt2):=hidI (by rw [hW3];exact Hrg2.out.alloc _);have A:=hidI (qkB lb k b rr S W3 HL3.out hb hrr (by omega));unfold lv at A;have HW3:=hidI hW3;have Hkb:=hidI hkb;clear hW3 hkb hr3 hb3 HL2 HB2 Hrg2;go_wp2_with (first | (rw [←HW3.out,←Hkb.out]) | fail);refine A.out.mono ?_;rintro e W4 ⟨rfl,hL4,hF4⟩;have hr4:W4.ranges Tryz.prog 148 fpOf g r n D (fun z=>left z && !z.sameKey (pk b rr a)) cnt2:=Hrg3.out.kept (row:=some lb) ⟨hF4.os,hF4.tape,hF4.output,hF4.size,fun j hj hne=>hF4.block j hj (fun e=>hne (by rw [e]))⟩ (by intro e;cases e;omega) (by intro e;cases e;omega)
  have HB4:=hidI (HB3.out.trans (hF4.below (B:=lb) (fun k hk=>Nat.le_of_eq hk.symm) (Nat.le_of_lt HL3.out.lt)));have HL4:=hidI hL4;have Hr4:=hidI hr4;clear hL4 hF4 hr4 A HL3 HB3 Hrg3;go_wp2_with fail;go_roundw
  case rel =>
   refine ⟨_,cnt2,k+1,_,Hr4.out,by omega,hidI (fun x y h => ?_),hidI (fun x y z h1 h2 h3 h4 h5 => ?_),HL4,HB4⟩
   ·simp only [Bool.or_eq_true,Bool.and_eq_true,beq_iff_eq] at h;rcases h with ⟨rfl,rfl⟩ | h
    ·exact Hlab.out
    exact H1.out x y h
   by_cases e:x=b∧y=rr
   ·obtain ⟨rfl,rfl⟩:=e;simp
   have hs:Lit.sameKey (pk x y z) (pk b rr a)=false:=Maps.sameKey_ne (fun h=>e (by have:=qna h1 h2 h3 hb hrr ha h;exact ⟨this.1,this.2.1⟩));rw [hs] at h5
   have:=H2.out x y z h1 h2 h3 h4 (by simpa using h5)
   simp [this]
  rw [Hr4.out.left_eq,Hrg.out.left_eq];exact hlt2
end Go.Proofs.YtodmdkhdbfbfgabGreatDoor.S1
namespace Go.Nt
def dist (S:Nat→Bool):Nat→Nat→Nat
 | 0,_=>0
 | f+1,k=>if S k then dist S f ((k+1)%4294967296)+1 else 0
def nxt (S:Nat→Bool) (k:Nat):Nat:=(k+dist S 700 k)%4294967296
theorem qdw (S:Nat→Bool):∀ (f k j:Nat),k<4294967296→j<f→S ((k+j)%4294967296)=false→S ((k+dist S f k)%4294967296)=false∧dist S f k≤j∧dist S (f+1) k=dist S f k
 | 0,k,j,hk,hj,_=>by omega
 | f+1,k,j,hk,hj,h=>by
   rw [dist,dist];cases hs:S k with
   | false =>
     simp only [Bool.false_eq_true,if_false,Nat.add_zero];rw [Nat.mod_eq_of_lt hk];refine ⟨hs,Nat.zero_le _,?_⟩
     first | rfl | trivial
   | true =>
     simp only [if_true];cases j with
     | zero=>rw [Nat.add_zero,Nat.mod_eq_of_lt hk,hs] at h;cases h
     | succ j =>
       have e:((k+1)%4294967296+j)%4294967296=(k+(j+1))%4294967296:=by rw [Nat.mod_add_mod,show k+1+j=k+(j+1) by omega]
       obtain ⟨h1,h2,h3⟩:=qdw S f ((k+1)%4294967296) j (Nat.mod_lt _ (by decide)) (by omega) (by rw [e];exact h);refine ⟨?_,by omega,by rw [h3]⟩;rw [Nat.mod_add_mod] at h1;rw [show k+(dist S f ((k+1)%4294967296)+1)=k+1+dist S f ((k+1)%4294967296) by omega];exact h1
def Free (S:Nat→Bool):Prop:=∀ k,k<4294967296→∃ j,j≤600∧S ((k+j)%4294967296)=false
theorem nxt_free {S:Nat→Bool} (h:Free S) {k:Nat} (hk:k<4294967296):S (nxt S k)=false∧nxt S k<4294967296:=by
 obtain ⟨j,hj,hs⟩:=h k hk;exact ⟨(qdw S 700 k j hk (by omega) hs).1,Nat.mod_lt _ (by decide)⟩
theorem nxt_here {S:Nat→Bool} {k:Nat} (hk:k<4294967296) (h:S k=false):nxt S k=k:=by
 unfold nxt;rw [show dist S 700 k=0 by rw [dist,h];rfl,Nat.add_zero,Nat.mod_eq_of_lt hk]
theorem qeF {S:Nat→Bool} (h:Free S) {k:Nat} (hk:k<4294967296) (hs:S k=true):nxt S k=nxt S ((k+1)%4294967296)∧dist S 700 ((k+1)%4294967296)<dist S 700 k:=by
 obtain ⟨j,hj,hf⟩:=h ((k+1)%4294967296) (Nat.mod_lt _ (by decide));have h1:=(qdw S 699 ((k+1)%4294967296) j (Nat.mod_lt _ (by decide)) (by omega) hf).2.2;have h2:dist S 700 k=dist S 699 ((k+1)%4294967296)+1:=by
  show (if S k then dist S 699 ((k+1)%4294967296)+1 else 0)=_;rw [hs,if_pos rfl]
 have h3:dist S 700 ((k+1)%4294967296)=dist S 699 ((k+1)%4294967296):=h1;refine ⟨?_,by omega⟩;unfold nxt;rw [h2,h3,Nat.mod_add_mod]
 congr 1
 omega
theorem filter_one {f:Nat→Nat} (x:Nat):∀ (js:List Nat),js.Nodup→(∀ a∈js,∀ b∈js,f a=f b→a=b)→js.length≤(js.filter fun j=>f j != x).length+1
 | [],_,_=>by simp
 | j :: js,hn,hi=>by
   rw [List.nodup_cons] at hn;have ih:=filter_one x js hn.2 (fun a ha b hb=>hi a (by simp [ha]) b (by simp [hb]));by_cases e:f j=x
   ·have hall:js.filter (fun j=>f j != x)=js:=by
     rw [List.filter_eq_self];intro a ha;simp only [bne_iff_ne,ne_eq];intro e2
     have:=hi a (by simp [ha]) j (by simp) (by rw [e,e2])
     subst this;exact hn.1 ha
    rw [List.filter_cons_of_neg (by simp [e]),hall];simp
   rw [List.filter_cons_of_pos (by simp [e])];simp only [List.length_cons];omega
theorem pigeon {f:Nat→Nat}:∀ (l js:List Nat),js.Nodup→(∀ a∈js,∀ b∈js,f a=f b→a=b)→l.length<js.length→∃ j∈js,f j∉l
 | [],js,_,_,h=>by
   cases js with
   | nil=>simp at h
   | cons j js=>exact ⟨j,by simp,by simp⟩
 | x :: l,js,hn,hi,h=>by
   have h1:=filter_one x js hn hi;obtain ⟨j,hj,hf⟩:=pigeon l (js.filter fun j=>f j != x) (hn.filter _) (fun a ha b hb=>hi a (List.mem_filter.1 ha).1 b (List.mem_filter.1 hb).1) (by simp only [List.length_cons] at h;omega);obtain ⟨h2,h3⟩:=List.mem_filter.1 hj;refine ⟨j,h2,?_⟩;simp only [List.mem_cons,not_or];exact ⟨by simpa using h3,hf⟩
theorem qdx {l:List Fp} (hl:l.length≤512) (b:Nat):Free (hasL l b):=by
 intro k hk;obtain ⟨j,hj,hf⟩:=pigeon (f:=fun j=>(k+j)%4294967296) (l.map Fp.num) (List.range 601) List.nodup_range (fun a ha c hc h=>by
  simp only [List.mem_range] at ha hc;have h':(k+a)%4294967296=(k+c)%4294967296:=h;omega) (by simp;omega)
 refine ⟨j,by simp at hj;omega,?_⟩;cases hh:hasL l b ((k+j)%4294967296) with
 | false=>rfl
 | true =>
   obtain ⟨f,hfl,_,hn⟩:=hasL_iff.1 hh;exact absurd (List.mem_map.2 ⟨f,hfl,hn⟩) hf
end Go.Nt
