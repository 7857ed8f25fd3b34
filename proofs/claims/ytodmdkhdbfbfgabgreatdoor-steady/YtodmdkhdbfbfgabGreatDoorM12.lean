/- Lemmas. -/
import Derived.Maps.RangeWalk
import Derived.Ground.Names2Prog
import Derived.Ground.SlgnProg
import Derived.Ground.SlsfProg
import Derived.Shelf.Strings.BuilderK
import Derived.Test.YtodmdkhdbfbfgabGreatDoorM11
set_option linter.unusedVariables false
set_option linter.unusedSimpArgs false
set_option maxRecDepth 100000
set_option maxHeartbeats 8000000
namespace Go.Proofs.YtodmdkhdbfbfgabGreatDoor.S1
open Go.RowKit Pk
open Go.Nt (Fp Pg readP lookF qee isAt isAt_iff scanF rowF oneF FpOk scanF_ok)
theorem qjR (l:List Fp) (f:Fp) (b n a:Nat):lookF (l++[f]) b n a=if (lookF l f.bad f.num f.at_).isSome then lookF l b n a else putF (lookF l) f.bad f.num f.at_ f b n a:=by
 rw [qee];unfold putF;by_cases e:b=f.bad∧n=f.num∧a=f.at_
 ·obtain ⟨rfl,rfl,rfl⟩:=e;have h1:isAt f.bad f.num f.at_ f=true:=isAt_iff.2 ⟨rfl,rfl,rfl⟩;rw [h1];simp
 ·have h1:isAt b n a f=false:=by
   cases h:isAt b n a f with
   | false=>rfl
   | true=>have:=isAt_iff.1 h;exact absurd ⟨this.1.symm,this.2.1.symm,this.2.2.symm⟩ e
  rw [h1,if_neg e]
  have:(if (lookF l b n a).isSome=true then lookF l b n a else if false=true then some f else none)=lookF l b n a:=by
   cases lookF l b n a<;>simp
  rw [this];simp
theorem qmN (w:World) (g n:Nat) (l:List Fp) (f:Fp) (hP:FAt w g n (lookF l)) (hn:n≤100000) (h0:f.bad≤1000000) (h1:f.num≤4294967295) (h2:f.at_≤1000000) :
 Calls Tryz.prog 85 #[.map (some g),fv f] w fun e w'=>e=.returned (.tuple #[])∧FAt w' g (n+1) (lookF (l++[f]))∧Fm (fun k=>k=g) w w':=by
 have hml:=hP.lt;have HL:=hidI (qjR l f);obtain ⟨b,hb⟩:∃ x,x=f.bad:=⟨_,rfl⟩;obtain ⟨r,hr⟩:∃ x,x=f.num:=⟨_,rfl⟩;obtain ⟨a,ha⟩:∃ x,x=f.at_:=⟨_,rfl⟩;have Hfv:Hid (fv f=.agg #[.int .i64 (b:Nat),.int .u32 (r:Nat),.int .i64 (a:Nat),.int .i64 (f.of_:Nat),.string (txt f.text),.int .i64 (f.blk:Nat)]):=hidI (by rw [hb,hr,ha];rfl);rw [Hfv.out];rw [←hb,←hr,←ha] at HL;rw [←hb] at h0;rw [←hr] at h1;rw [←ha] at h2;obtain ⟨o,ho⟩:∃ x,x=f.of_:=⟨_,rfl⟩;obtain ⟨X,hX⟩:∃ x,x=txt f.text:=⟨_,rfl⟩;obtain ⟨bk,hbk⟩:∃ x,x=f.blk:=⟨_,rfl⟩;rw [←ho,←hX,←hbk] at Hfv ⊢;clear hb hr ha ho hX hbk;obtain ⟨W1,hW1⟩:∃ W1,W1=w.alloc (.cells #[.int .i64 (b:Nat),.int .u32 (r:Nat),.int .i64 (a:Nat),.int .i64 (o:Nat),.string X,.int .i64 (bk:Nat)] 146):=⟨_,rfl⟩;obtain ⟨W2,hW2⟩:∃ W2,W2=W1.alloc (.cells #[.int .i64 (b:Nat),.int .u32 (r:Nat),.int .i64 (a:Nat)] 148):=⟨_,rfl⟩;have hs1:W1.heap.size=w.heap.size+1:=by rw [hW1];simp
 obtain ⟨g3,hg3⟩:∃ g,g=w.heap.size:=⟨_,rfl⟩;have hb3:W1.heap[g3]? = some (.cells #[.int .i64 (b:Nat),.int .u32 (r:Nat),.int .i64 (a:Nat),.int .i64 (o:Nat),.string X,.int .i64 (bk:Nat)] 146 (0,0)):=by rw [hW1,hg3];exact heap_alloc_new w _
 have hb3':W2.heap[g3]? = some (.cells #[.int .i64 (b:Nat),.int .u32 (r:Nat),.int .i64 (a:Nat),.int .i64 (o:Nat),.string X,.int .i64 (bk:Nat)] 146 (0,0)):=by rw [hW2,Below.heap_alloc W1 _ _ (by omega)];exact hb3
 have hb4:W2.heap[g3+1]? = some (.cells #[.int .i64 (b:Nat),.int .u32 (r:Nat),.int .i64 (a:Nat)] 148 (0,0)):=by rw [hW2,hg3,←hs1];exact heap_alloc_new W1 _
 have hP2:FAt W2 g n (lookF l):=hP.of_block (by rw [hW2,Below.heap_alloc W1 _ _ (by omega),hW1,Below.heap_alloc w _ _ hml]);have hFm2:Fm (fun k=>k=g) w W2:=by rw [hW2,hW1];exact ((Fm.refl _ w).alloc _).alloc _
 have d0:W1.cell? ⟨g3,0,none⟩=some (.int .i64 (b:Nat)):=by rw [cell_of_row W1 g3 0 _ 146 (0,0) hb3];rfl
 have d1:W1.cell? ⟨g3,1,none⟩=some (.int .u32 (r:Nat)):=by rw [cell_of_row W1 g3 1 _ 146 (0,0) hb3];rfl
 have d2:W1.cell? ⟨g3,2,none⟩=some (.int .i64 (a:Nat)):=by rw [cell_of_row W1 g3 2 _ 146 (0,0) hb3];rfl
 have k0:W2.cell? ⟨g3+1,0,none⟩=some (.int .i64 (b:Nat)):=by rw [cell_of_row W2 (g3+1) 0 _ 148 (0,0) hb4];rfl
 have k1:W2.cell? ⟨g3+1,1,none⟩=some (.int .u32 (r:Nat)):=by rw [cell_of_row W2 (g3+1) 1 _ 148 (0,0) hb4];rfl
 have k2:W2.cell? ⟨g3+1,2,none⟩=some (.int .i64 (a:Nat)):=by rw [cell_of_row W2 (g3+1) 2 _ 148 (0,0) hb4];rfl
 have hlk:=(hP2.look h0 h1 h2).1;obtain ⟨q,hq⟩:∃ q,q=(lookF l b r a).getD fp0:=⟨_,rfl⟩;obtain ⟨z,hz⟩:∃ z,z=(lookF l b r a).isSome:=⟨_,rfl⟩;rw [←hq,←hz] at hlk;rw [←hz] at HL;unfold fv pv at hlk;have HW1:=hidI hW1;have HW2:=hidI hW2;have HP2:=hidI hP2;have HFm2:=hidI hFm2;have Hb3:=hidI hb3';have Hb4:=hidI hb4;have Hs1:=hidI hs1;rw [←hg3] at Hs1;have Hg3:=hidI hg3;have Hml:=hidI hml;clear hW1 hW2 hs1 hb3 hb3' hb4 hP2 hFm2 hq hz hP hg3 hml;obtain ⟨W3,hW3⟩:∃ W3,W3=W2.alloc (.cells #[.int .i64 (q.bad:Nat),.int .u32 (q.num:Nat),.int .i64 (q.at_:Nat),.int .i64 (q.of_:Nat),.string (txt q.text),.int .i64 (q.blk:Nat)] 146):=⟨_,rfl⟩;have hk3:∀ k,k<W2.heap.size→W3.heap[k]? = W2.heap[k]? := fun k hk=>by rw [hW3];exact Below.heap_alloc W2 _ k hk
 have HFm3:Hid (Fm (fun k=>k=g) w W3):=hidI (by rw [hW3];exact HFm2.out.alloc _);have HP3:Hid (FAt W3 g n (lookF l)):=hidI (HP2.out.of_block (hk3 g HP2.out.lt));have hr3:=(hk3 g3 (qaa Hb3.out)).trans Hb3.out;have hr4:=(hk3 (g3+1) (qaa Hb4.out)).trans Hb4.out;have HW3:=hidI hW3;obtain ⟨V,hupd,hPV,hmV⟩:=HP3.out.store h0 h1 h2 (by omega) f;rw [Hfv.out] at hupd;unfold pv at hupd;have HPV:=hidI hPV;have HFV:=hidI (HFm3.out.map (fun _=>rfl) hmV);have c0:W3.cell? ⟨g3+1,0,none⟩=some (.int .i64 (b:Nat)):=by rw [cell_of_row W3 (g3+1) 0 _ 148 (0,0) hr4];rfl
 have c1:W3.cell? ⟨g3+1,1,none⟩=some (.int .u32 (r:Nat)):=by rw [cell_of_row W3 (g3+1) 1 _ 148 (0,0) hr4];rfl
 have c2:W3.cell? ⟨g3+1,2,none⟩=some (.int .i64 (a:Nat)):=by rw [cell_of_row W3 (g3+1) 2 _ 148 (0,0) hr4];rfl
 have e0:W3.cell? ⟨g3,0,none⟩=some (.int .i64 (b:Nat)):=by rw [cell_of_row W3 g3 0 _ 146 (0,0) hr3];rfl
 have e1:W3.cell? ⟨g3,1,none⟩=some (.int .u32 (r:Nat)):=by rw [cell_of_row W3 g3 1 _ 146 (0,0) hr3];rfl
 have e2:W3.cell? ⟨g3,2,none⟩=some (.int .i64 (a:Nat)):=by rw [cell_of_row W3 g3 2 _ 146 (0,0) hr3];rfl
 have e3:W3.cell? ⟨g3,3,none⟩=some (.int .i64 (o:Nat)):=by rw [cell_of_row W3 g3 3 _ 146 (0,0) hr3];rfl
 have e4:W3.cell? ⟨g3,4,none⟩=some (.string X):=by rw [cell_of_row W3 g3 4 _ 146 (0,0) hr3];rfl
 have e5:W3.cell? ⟨g3,5,none⟩=some (.int .i64 (bk:Nat)):=by rw [cell_of_row W3 g3 5 _ 146 (0,0) hr3];rfl
 clear hk3 hW3 hPV hmV hr3 hr4;cases z with
 | true =>
   have HR:Hid (∀ x y z,lookF l x y z=lookF (l++[f]) x y z):=hidI (fun x y z=>by rw [HL.out];rfl);go_enter Tryz.func85,Tryz.ntmps85
   go_wp2_with (first | (rw [←HW1.out,←Hg3.out]) | (rw [←HW2.out,Hs1.out]) | (rw [←HW3.out]) | fail);go_end0
   exact ⟨rfl,(HP3.out.congr HR.out).mono (by omega),HFm3.out⟩
 | false =>
   have HR:Hid (∀ x y z,putF (lookF l) b r a f x y z=lookF (l++[f]) x y z):=hidI (fun x y z=>by rw [HL.out];rfl);go_enter Tryz.func85,Tryz.ntmps85
   go_wp2_with (first | (rw [←HW1.out,←Hg3.out]) | (rw [←HW2.out,Hs1.out]) | (rw [←HW3.out]) | fail);go_end0
   exact ⟨rfl,HPV.out.congr HR.out,HFV.out⟩
theorem qnt (w:World):(Instr.makeMap 103 none).run Tryz.prog w=.ok (.map (some w.heap.size)) (w.alloc (.map #[] 0)):=by
 simp [Instr.makeMap,Result.andThen]
def pgs (m:M) (i p:Nat):List UInt8:=pad (m.pg i p)
theorem qjd {m:M} (hw:WF m) {i p:Nat} (hi:i<m.nb) (hp:p<m.np):(pgs m i p).length=64:=by
 have:=hw.pg i p hi hp
 unfold pgs pad;simp;omega
def FindP (m:M) (w:World) (e:Ending) (w':World):Prop:=
 e=.returned (.map (some w.heap.size))∧FAt w' w.heap.size (m.nb*m.np) (lookF (scanF (pgs m) m.np m.nb))∧Below w.heap.size w w'
theorem qhz (w:World) (lo hi cb:Nat) (L:Loc) (m:M) (hw:WF m) (h:CP w lo hi cb L m) (hsz:hi≤w.heap.size) (hl:m.life≠0) :
 Calls Tryz.prog 58 #[.pointer (some ⟨cb,0,none⟩)] w fun e w'=>FindP m w e w':=by
 have h32:=hw.nb2;have h16:=hw.np2;obtain ⟨W0,hW0⟩:∃ W0,W0=w.alloc (.map #[] 0):=⟨_,rfl⟩;have hbW:Below w.heap.size w W0:=by rw [hW0];exact (Below.refl _ w).alloc (Nat.le_refl _) _
 have hS0:FAt W0 w.heap.size 0 (fun _ _ _=>none):=by rw [hW0];exact qnZ w
 have HC:=hidI (fun (V:World) (hV:Below w.heap.size w V)=>(MemX.below h hsz hV:CP V lo hi cb L m));have hmk:=qnt w;rw [←hW0] at hmk;obtain ⟨g,hg⟩:∃ g,g=w.heap.size:=⟨_,rfl⟩;unfold FindP;rw [←hg] at hS0 hsz hmk hbW HC ⊢;have HBk:=hidI (fun V hV=>blocks_any V lo hi cb L m (HC.out V hV));have HPg:=hidI (fun V hV=>pages_any V lo hi cb L m (HC.out V hV));have HRd:Hid (∀ (V:World),Below g w V→∀ (i p:Nat),i<m.nb→p<m.np→Calls Tryz.prog 83 #[.pointer (some ⟨cb,0,none⟩),.int .i64 (i:Nat),.int .i64 (p:Nat)] V fun e w'=>e=.returned (.tuple #[.string (txt (pgs m i p)),.bool true])∧Below V.heap.size V w'):=hidI (fun V hV i p hi' hp'=>by
  have:=qmr V lo hi cb L m (i:Nat) (p:Nat) hw (HC.out V hV)
  have e:readF m (i:Nat) (p:Nat)=some (pgs m i p):=by
   unfold readF;rw [if_pos ⟨hl,by simp [hasB,hi'],by omega,by omega⟩];rfl
  rw [e] at this;exact this)
 have HRp:Hid (∀ (V:World) (i p:Nat),i<m.nb→p<m.np→Calls Tryz.prog 84 #[.string (txt (pgs m i p))] V fun e w'=>ReadP (pgs m i p) V e w'):=hidI (fun V i p hi' hp'=>qfW (pgs m i p) V (qjd hw hi' hp'));obtain ⟨nb,hnb⟩:∃ nb,nb=m.nb:=⟨_,rfl⟩;obtain ⟨np,hnp⟩:∃ np,np=m.np:=⟨_,rfl⟩;rw [←hnb] at HBk HRd HRp h32 ⊢;rw [←hnp] at HPg HRd HRp h16 ⊢;have HS0:=hidI hS0;have HB0:=hidI hbW;have Hg:=hidI hg;obtain ⟨G,hG⟩:∃ G,G=pgs m:=⟨_,rfl⟩;rw [←hG] at HRd HRp ⊢;clear h hw hbW hS0 hW0 hnb hnp hg hl hG HC;go_enter Tryz.func58,Tryz.ntmps58
 go_wp2_with fail;refine (HBk.out _ HB0.out).mono ?_;rintro e w' ⟨rfl,hw⟩;have hw':=hw.symm;subst hw';clear hw;go_wp2_with fail
 go_loopw [13] (fun i wr=>∃ k n:Nat,k≤nb∧n≤k*np∧i=.int .i64 k∧Hid (FAt wr g n (lookF (scanF G np k)))∧Hid (Below g w wr)) (fun i _=>nb - (intOf i).toNat)
 case atStart=>exact ⟨0,0,Nat.zero_le _,Nat.zero_le _,rfl,hidI (HS0.out.congr fun b r a=>rfl),HB0⟩
 case round =>
  clear HS0 HB0 hmk;obtain ⟨k,n,hk,hn,rfl,HS,HB⟩:=hrel;by_cases hlt:k<nb
  ·go_wp2_with fail;refine (HPg.out _ HB.out).mono ?_;rintro e w' ⟨rfl,hw⟩;have hw':=hw.symm;subst hw';clear hw;go_wp2_with fail
   go_loopw [18] (fun i wr=>∃ p n':Nat,p≤np∧n'≤n+p∧i=.int .i64 p∧Hid (FAt wr g n' (lookF (scanF G np k++rowF G k p)))∧Hid (Below g w wr)) (fun i _=>np - (intOf i).toNat)
   case atStart=>exact ⟨0,n,Nat.zero_le _,Nat.le_refl _,rfl,hidI (HS.out.congr fun b r a=>by rw [rowF,List.append_nil]),HB⟩
   case round =>
    clear HS HB;obtain ⟨p,n',hp,hn',rfl,HS,HB⟩:=hrel;by_cases hlp:p<np
    ·have hgs:=HS.out.lt;have A1:=hidI (HRd.out wr HB.out k p hlt hlp);go_wp2_with fail;refine A1.out.mono ?_;rintro e V1 ⟨rfl,hV1⟩;have A2:=hidI (HRp.out V1 k p hlt hlp);have HB1:=hidI (HB.out.trans (hV1.mono (by omega)));have HS1:=hidI (HS.out.of_block (hV1.block g hgs));have hgs1:=HS1.out.lt;obtain ⟨Y,hY⟩:∃ Y,Y=txt (G k p):=⟨_,rfl⟩;rw [←hY] at A2;rw [←hY];clear A1 hV1 HS HB hY;go_wp2_with fail;refine A2.out.mono ?_;rintro e V2 ⟨q,rfl,hq,hV2⟩;have HB2:=hidI (HB1.out.trans (hV2.mono (by omega)));have HS2:=hidI (HS1.out.of_block (hV2.block g hgs1));have hgs2:=HS2.out.lt;unfold pgv;rw [show Go.Proofs.YtodmdkhdbfbfgabGreatDoor.txt q.text=txt q.text from rfl];obtain ⟨W3,hW3⟩:∃ W3,W3=V2.alloc (.cells #[.int .i64 (q.bad:Nat),.int .u32 (q.num:Nat),.int .i64 (q.at_:Nat),.int .i64 (q.of_:Nat),.string (txt q.text)] 141):=⟨_,rfl⟩;have HW3:=hidI hW3
     obtain ⟨pb,hpb⟩:∃ pb,pb=V2.heap.size:=⟨_,rfl⟩;have Hpb:=hidI hpb;have hr3:W3.heap[pb]? = some (.cells #[.int .i64 (q.bad:Nat),.int .u32 (q.num:Nat),.int .i64 (q.at_:Nat),.int .i64 (q.of_:Nat),.string (txt q.text)] 141 (0,0)):=by rw [hW3,hpb];exact heap_alloc_new _ _
     have hb3:Below V2.heap.size V2 W3:=by rw [hW3];exact (Below.refl _ V2).alloc (Nat.le_refl _) _
     have HB3:=hidI (HB2.out.trans (hb3.mono (by omega)));have HS3:=hidI (HS2.out.of_block (hb3.block g hgs2));have hgs3:=HS3.out.lt;have c0:W3.cell? ⟨pb,0,none⟩=some (.int .i64 (q.bad:Nat)):=by rw [cell_of_row W3 pb 0 _ 141 (0,0) hr3];rfl
     have c1:W3.cell? ⟨pb,1,none⟩=some (.int .u32 (q.num:Nat)):=by rw [cell_of_row W3 pb 1 _ 141 (0,0) hr3];rfl
     have c2:W3.cell? ⟨pb,2,none⟩=some (.int .i64 (q.at_:Nat)):=by rw [cell_of_row W3 pb 2 _ 141 (0,0) hr3];rfl
     have c3:W3.cell? ⟨pb,3,none⟩=some (.int .i64 (q.of_:Nat)):=by rw [cell_of_row W3 pb 3 _ 141 (0,0) hr3];rfl
     have c4:W3.cell? ⟨pb,4,none⟩=some (.string (txt q.text)):=by rw [cell_of_row W3 pb 4 _ 141 (0,0) hr3];rfl
     have hpn:n'≤600:=by have:k*np≤32*16:=Nat.mul_le_mul (by omega) h16;omega
     cases hr:readP (G k p) with
     | none =>
       have hrow:Hid (rowF G k (p+1)=rowF G k p):=hidI (by rw [rowF,oneF,hr];simp);clear hW3 hpb hr3 hb3 hq HS1 HB1 A2 HS2 HB2 hV2;simp only [Option.isSome_none];go_wp2_with (first | (rw [←HW3.out,←Hpb.out]) | fail);go_roundw
       case rel=>exact ⟨p+1,n',by omega,by omega,by go_num,hidI (by rw [hrow.out];exact HS3.out),HB3⟩
       case measure=>simp [intOf];omega
     | some q' =>
       have hqq:q=q':=hq q' hr;subst hqq;have hfit:=Go.Nt.sayP_fit (G k p);have hsay:=(Go.Nt.readP_some hr).2.1;have hrow:Hid (scanF G np k++rowF G k (p+1)=(scanF G np k++rowF G k p)++[Fp.mk' q k]):=hidI (by rw [rowF,oneF,hr];simp);rw [←hsay] at hfit;have A3:=hidI (qmN W3 g n' (scanF G np k++rowF G k p) (Fp.mk' q k) HS3.out (by omega) (by show q.bad≤_;omega) (by show q.num≤_;omega) (by show q.at_≤_;omega));unfold fv Fp.mk' at A3;clear hW3 hpb hr3 hb3 hq HS1 HB1 A2 HS2 HB2 hV2 hr hsay hfit;simp only [Option.isSome_some];go_wp2_with (first | (rw [←HW3.out,←Hpb.out]) | fail);refine A3.out.mono ?_;rintro e V4 ⟨rfl,hF4,hm4⟩;have HF4:Hid (FAt V4 g (n'+1) (lookF (scanF G np k++rowF G k (p+1)))):=hidI (by rw [hrow.out];exact hF4);have HB4:=hidI (HB3.out.trans (hm4.below (B:=g) (fun k hk=>Nat.le_of_eq hk.symm) (by omega)));clear hF4 hm4 A3 HS3 HB3;go_wp2_with fail;go_roundw
       case rel=>exact ⟨p+1,n'+1,by omega,by omega,by go_num,HF4,HB4⟩
       case measure=>simp [intOf];omega
    ·have hpn:p=np:=by omega
     subst hpn;go_wp2_with fail;go_roundw
     case rel=>exact ⟨k+1,n',by omega,by rw [Nat.succ_mul];omega,by go_num,HS,HB⟩
     case measure=>simp [intOf];omega
  ·have hkn:k=nb:=by omega
   subst hkn;go_wp2;go_ret
   exact ⟨rfl,HS.out.mono hn,HB.out⟩
end Go.Proofs.YtodmdkhdbfbfgabGreatDoor.S1
namespace Go.Proofs.YtodmdkhdbfbfgabGreatDoor.S1
open Go.RowKit Pk
open Go.Nt (Fp lookF hasL hasL_iff FpOk qaw)
theorem qkk (g n b r:Nat) (S:Nat→Nat→Bool) (w:World) (h:LbAt w g n S) (hb:b≤1000000) (hr:r≤4294967295) (hn:n≤1000000) :
 Calls Tryz.prog 86 #[.map (some g),lv b r] w fun e w'=>e=.returned (.tuple #[])∧LbAt w' g (n+1) (fun x y=>(x==b&&y==r)||S x y)∧Fm (fun k=>k=g) w w':=by
 obtain ⟨W1,hW1⟩:∃ W1,W1=w.alloc (.cells #[.int .i64 (b:Nat),.int .u32 (r:Nat)] 74):=⟨_,rfl⟩;obtain ⟨g3,hg3⟩:∃ g3,g3=w.heap.size:=⟨_,rfl⟩;have hb1:W1.heap[g3]? = some (.cells #[.int .i64 (b:Nat),.int .u32 (r:Nat)] 74 (0,0)):=by rw [hW1,hg3];exact heap_alloc_new _ _
 have h1:LbAt W1 g n S:=h.of_block (by rw [hW1];exact Below.heap_alloc w _ _ h.lt);have hF1:Fm (fun k=>k=g) w W1:=by rw [hW1];exact (Fm.refl _ w).alloc _
 have c0:W1.cell? ⟨g3,0,none⟩=some (.int .i64 (b:Nat)):=by rw [cell_of_row W1 g3 0 _ 74 (0,0) hb1];rfl
 have c1:W1.cell? ⟨g3,1,none⟩=some (.int .u32 (r:Nat)):=by rw [cell_of_row W1 g3 1 _ 74 (0,0) hb1];rfl
 obtain ⟨V,hu,hS,hm⟩:=h1.store hb hr hn;unfold lv at hu ⊢;have HS:=hidI hS;have HF:=hidI (hF1.map (fun _=>rfl) hm);have HW1:=hidI hW1;have Hg3:=hidI hg3;clear h h1 hb1 hW1 hS hm hF1 hg3;go_enter Tryz.func86,Tryz.ntmps86
 go_wp2_with (first | (rw [←HW1.out,←Hg3.out]) | fail);go_end0
 exact ⟨rfl,HS.out,HF.out⟩
theorem qbW (g n b r:Nat) (S:Nat→Nat→Bool) (w:World) (h:LbAt w g n S) (hb:b≤1000000) (hr:r≤4294967295) :
 Calls Tryz.prog 111 #[.map (some g),lv b r] w fun e w'=>e=.returned (.bool (S b r))∧Below w.heap.size w w':=by
 obtain ⟨W1,hW1⟩:∃ W1,W1=w.alloc (.cells #[.int .i64 (b:Nat),.int .u32 (r:Nat)] 74):=⟨_,rfl⟩;obtain ⟨g3,hg3⟩:∃ g3,g3=w.heap.size:=⟨_,rfl⟩;have hb1:W1.heap[g3]? = some (.cells #[.int .i64 (b:Nat),.int .u32 (r:Nat)] 74 (0,0)):=by rw [hW1,hg3];exact heap_alloc_new _ _
 have h1:LbAt W1 g n S:=h.of_block (by rw [hW1];exact Below.heap_alloc w _ _ h.lt);have c0:W1.cell? ⟨g3,0,none⟩=some (.int .i64 (b:Nat)):=by rw [cell_of_row W1 g3 0 _ 74 (0,0) hb1];rfl
 have c1:W1.cell? ⟨g3,1,none⟩=some (.int .u32 (r:Nat)):=by rw [cell_of_row W1 g3 1 _ 74 (0,0) hb1];rfl
 have hbl:Below w.heap.size w W1:=by rw [hW1];exact (Below.refl _ w).alloc (Nat.le_refl _) _
 have hl:=h1.look hb hr;obtain ⟨z,hz⟩:∃ z,z=S b r:=⟨_,rfl⟩;rw [←hz] at hl ⊢;unfold lv at hl ⊢;have HB:=hidI hbl;have HW1:=hidI hW1;have Hg3:=hidI hg3;clear h h1 hb1 hW1 hbl hg3 hz;go_enter Tryz.func111,Tryz.ntmps111
 go_wp2_with (first | (rw [←HW1.out,←Hg3.out]) | fail);go_ret
 exact ⟨rfl,HB.out.alloc HB.out.size _⟩
theorem qnH (w:World):(Instr.makeMap 107 none).run Tryz.prog w=.ok (.map (some w.heap.size)) (w.alloc (.map #[] 0)):=by
 simp [Instr.makeMap,Result.andThen]
def qkm (l:List Fp) (w:World) (e:Ending) (w':World):Prop:=
 e=.returned (.map (some w.heap.size))∧LbAt w' w.heap.size 100000 (hasL l)∧Below w.heap.size w w'
theorem qdZ (w:World) (g n:Nat) (l:List Fp) (hF:FAt w g n (lookF l)) (hn:n≤100000) (hok:∀ f∈l,FpOk f) :
 Calls Tryz.prog 59 #[.map (some g)] w fun e w'=>qkm l w e w':=by
 obtain ⟨D,ho,hh,hk⟩:=hF;have hgl:=ho.lt;have hsz:Maps.size D≤100000:=Nat.le_trans ho.size_le hn;obtain ⟨W0,hW0⟩:∃ W0,W0=w.alloc (.map #[] 0):=⟨_,rfl⟩;have hbW:Below w.heap.size w W0:=by rw [hW0];exact (Below.refl _ w).alloc (Nat.le_refl _) _
 have hL0:LbAt W0 w.heap.size 0 (fun _ _=>false):=by rw [hW0];exact qm7 w
 have hmk:=qnH w;rw [←hW0] at hmk;have ho0:W0.ownsMap Tryz.prog 148 fpOf g n D:=by
  obtain ⟨es,clock,h1,h2⟩:=ho;exact ⟨es,clock,(hbW.block g hgl).trans h1,h2⟩
 obtain ⟨lb,hlb⟩:∃ lb,lb=w.heap.size:=⟨_,rfl⟩;unfold qkm;rw [←hlb] at hL0 hmk hbW hgl ⊢;have Ho0:=hidI ho0;have HL0:=hidI hL0;have HB0:=hidI hbW;have Hh:=hidI hh;have Hk:=hidI hk;have Hok:=hidI hok;have hs0:lb<W0.heap.size:=hL0.lt;clear ho hh hk hW0 hbW hL0 ho0 hlb hok;go_enter Tryz.func59,Tryz.ntmps59
 go_wp2_with (first | (at_range;refine wpList_range_own _ rfl _ 103 rfl 148 146 law189 Tryz.underlying103 _ g _ D rfl Ho0.out ?_;intro w0 hrg0 hg0 hs0') | go_in)
 go_frame
 have Hb0:Hid (Below lb w w0):=hidI (HB0.out.grown hg0 (by omega) (fun q hq=>by cases hq));have HL1:Hid (LbAt w0 lb 0 (fun _ _=>false)):=hidI (HL0.out.of_block (hg0.block lb hs0 (fun e=>by cases e)));have Hrg0:=hidI hrg0;have hsz0:=hs0';obtain ⟨r,hr⟩:∃ r,r=W0.heap.size:=⟨_,rfl⟩;rw [←hr] at Hrg0 hs0 hsz0 ⊢;clear hrg0 hg0 Ho0 HL0 HB0 hmk hs0' hr
 go_loopw [4] (fun _ wx=>∃ (left:Lit→Bool) (cnt k:Nat) (S:Nat→Nat→Bool),wx.ranges Tryz.prog 148 fpOf g r n D left cnt∧k+cnt≤Maps.size D∧Hid (∀ b n,S b n=true→hasL l b n=true)∧Hid (∀ b n a,b≤1000000→n≤4294967295→a≤1000000→(lookF l b n a).isSome=true→left (pk b n a)=false→S b n=true)∧Hid (LbAt wx lb k S)∧Hid (Below lb w wx))
  (fun _ wx=>wx.rangeLeft g r)
 case atStart=>exact ⟨_,_,0,_,Hrg0.out,by omega,hidI (fun b n h=>by cases h),hidI (fun b n a h1 h2 h3 h4 h5=>by rw [(Hh.out b n a h1 h2 h3).1,h4] at h5;cases h5),HL1,Hb0⟩
 case round =>
  clear Hrg0 Hb0 HL1;obtain ⟨left,cnt,k,S,hrg,hkc,H1,H2,HL,HB⟩:=hrel;go_wp2_with (first | (at_next;refine wpList_next_ranges _ rfl _ rfl 148 law189 fpOf id id (fun key kl hk=>⟨key,rfl⟩) (fun v _ _=>⟨v,rfl⟩) g r _ _ _ _ rfl hrg ?_ ?_) | go_in)
  ·intro _ hl0;have HS:Hid (∀ b n,S b n=hasL l b n):=hidI (fun b n=>by
    cases hs:S b n with
    | true=>exact (H1.out b n hs).symm
    | false =>
      cases hh:hasL l b n with
      | false=>rfl
      | true =>
        obtain ⟨f,hf,rfl,rfl⟩:=hasL_iff.1 hh;have ok:=Hok.out f hf;have hx:(lookF l f.bad f.num f.at_).isSome=true:=by
         cases hl:lookF l f.bad f.num f.at_ with
         | some _=>rfl
         | none=>exact absurd ⟨rfl,rfl,rfl⟩ (Go.Nt.lookF_none.1 hl f hf)
        have:=H2.out f.bad f.num f.at_ (by have:=ok.b;omega) (by have:=ok.n;omega) (by have:=ok.a;have:=ok.o;omega) hx (hl0 _)
        rw [hs] at this;cases this)
   clear hrg H1 H2;go_wp2;go_ret
   exact ⟨rfl,(HL.out.congr HS.out).mono (by omega),HB.out⟩
  ·intro x cv kl yd yp w2 cnt2 hkey hlk hv hat hrg2 hlt2 hg2 hs2 hen;have hhas:Maps.has D kl=true:=Maps.has_true_of_atKey hat;obtain ⟨b,rr,a,hb,hrr,ha,rfl⟩:=Hk.out kl hhas;have hx:x=pv b rr a:=law189.inj (hkey.trans rfl) (key189 hb hrr ha);subst hx;have his:(lookF l b rr a).isSome=true:=by rw [←(Hh.out b rr a hb hrr ha).1];exact hhas
   have hlab:hasL l b rr=true:=by
    obtain ⟨f,hf⟩:=Option.isSome_iff_exists.1 his
    have:=qaw hf
    exact hasL_iff.2 ⟨f,this.1,this.2.1,this.2.2.1⟩
   have HB2:Hid (Below lb w w2):=hidI (HB.out.grown hg2 (Nat.le_of_lt HL.out.lt) (fun q hq=>by cases hq;omega));have HL2:Hid (LbAt w2 lb k S):=hidI (HL.out.of_block (hg2.block lb HL.out.lt (fun e=>by cases e;omega)));have Hrg2:=hidI hrg2;have Hrg:=hidI hrg;have Hlab:=hidI hlab;have hrsz:r<w2.heap.size:=by rw [hs2];exact hrg.lt
   clear hat hv hkey hlk hg2 hs2 hrg2 hrg hhas his hlab HB HL
   try simp only [id] at hen
   unfold pv at hen
   try simp only [id]
   unfold pv;obtain ⟨W3,hW3⟩:∃ W3,W3=w2.alloc (.cells #[.int .i64 (b:Nat),.int .u32 (rr:Nat),.int .i64 (a:Nat)] 148):=⟨_,rfl⟩;obtain ⟨kb,hkb⟩:∃ kb,kb=w2.heap.size:=⟨_,rfl⟩;have hr3:W3.heap[kb]? = some (.cells #[.int .i64 (b:Nat),.int .u32 (rr:Nat),.int .i64 (a:Nat)] 148 (0,0)):=by rw [hW3,hkb];exact heap_alloc_new _ _
   have hb3:Below w2.heap.size w2 W3:=by rw [hW3];exact (Below.refl _ w2).alloc (Nat.le_refl _) _
   have c0:W3.cell? ⟨kb,0,none⟩=some (.int .i64 (b:Nat)):=by rw [cell_of_row W3 kb 0 _ 148 (0,0) hr3];rfl
   have c1:W3.cell? ⟨kb,1,none⟩=some (.int .u32 (rr:Nat)):=by rw [cell_of_row W3 kb 1 _ 148 (0,0) hr3];rfl
   have HL3:=hidI (HL2.out.of_block (hb3.block lb HL2.out.lt));have HB3:=hidI (HB2.out.trans (hb3.mono (by have:=HB2.out.size;have h9:=HL2.out.lt;omega)));have Hrg3:Hid (W3.ranges Tryz.prog 148 fpOf g r n D (fun z=>left z && !z.sameKey (pk b rr a)) cnt2):=hidI (by rw [hW3];exact Hrg2.out.alloc _);have A:=hidI (qkk lb k b rr S W3 HL3.out hb hrr (by omega));unfold lv at A;have HW3:=hidI hW3;have Hkb:=hidI hkb;clear hW3 hkb hr3 hb3 HL2 HB2 Hrg2;go_wp2_with (first | (rw [←HW3.out,←Hkb.out]) | fail);refine A.out.mono ?_;rintro e W4 ⟨rfl,hL4,hF4⟩;have hr4:W4.ranges Tryz.prog 148 fpOf g r n D (fun z=>left z && !z.sameKey (pk b rr a)) cnt2:=Hrg3.out.kept (row:=some lb) ⟨hF4.os,hF4.tape,hF4.output,hF4.size,fun j hj hne=>hF4.block j hj (fun e=>hne (by rw [e]))⟩ (by intro e;cases e;omega) (by intro e;cases e;omega)
   have HB4:=hidI (HB3.out.trans (hF4.below (B:=lb) (fun k hk=>Nat.le_of_eq hk.symm) (Nat.le_of_lt HL3.out.lt)));have HL4:=hidI hL4;have Hr4:=hidI hr4;clear hL4 hF4 hr4 A HL3 HB3 Hrg3;go_wp2_with fail;go_roundw
   case rel =>
    refine ⟨_,cnt2,k+1,_,Hr4.out,by omega,hidI (fun x y h => ?_),hidI (fun x y z h1 h2 h3 h4 h5 => ?_),HL4,HB4⟩
    ·simp only [Bool.or_eq_true,Bool.and_eq_true,beq_iff_eq] at h;rcases h with ⟨rfl,rfl⟩ | h
     ·exact Hlab.out
     ·exact H1.out x y h
    ·by_cases e:x=b∧y=rr
     ·obtain ⟨rfl,rfl⟩:=e;simp
     ·have hs:Lit.sameKey (pk x y z) (pk b rr a)=false:=Maps.sameKey_ne (fun h=>e (by have:=qmQ h1 h2 h3 hb hrr ha h;exact ⟨this.1,this.2.1⟩));rw [hs] at h5
      have:=H2.out x y z h1 h2 h3 h4 (by simpa using h5)
      simp [this]
   case measure =>
    rw [Hr4.out.left_eq,Hrg.out.left_eq];exact hlt2
end Go.Proofs.YtodmdkhdbfbfgabGreatDoor.S1
namespace Go.Proofs
open Go.Shelf
def Tryz.lays169_ren:Go.Shelf.Ren:=⟨fun | 169=>89 | n=>n,fun | 70=>150 | 9=>9 | 0=>0 | 72=>152 | 37=>50 | 127=>181 | 3=>3 | 5=>5 | n=>n,fun | n=>n⟩
theorem Tryz.lays169:Go.Proofs.Lays.n169 Tryz.prog Tryz.lays169_ren:={
 mixed:=by kernel_rfl
 f169:=Tryz.func89.trans (congrArg some (by kernel_rfl))
 t0:=Tryz.underlying0
 a0:=Tryz.isAgg0
 z0:=Tryz.sizeOf0
 v0:=Tryz.zeroValue0
 t3:=Tryz.underlying3
 a3:=Tryz.isAgg3
 z3:=Tryz.sizeOf3
 v3:=Tryz.zeroValue3
 t9:=Tryz.underlying9
 a9:=Tryz.isAgg9
 z9:=Tryz.sizeOf9
 v9:=Tryz.zeroValue9
 t37:=Tryz.underlying50
 a37:=Tryz.isAgg50
 z37:=Tryz.sizeOf50
 v37:=Tryz.zeroValue50
 t70:=Tryz.underlying150
 a70:=Tryz.isAgg150
 z70:=Tryz.sizeOf150
 v70:=Tryz.zeroValue150
 t72:=Tryz.underlying152
 a72:=Tryz.isAgg152
 z72:=Tryz.sizeOf152
 v72:=Tryz.zeroValue152
 t127:=Tryz.underlying181
 a127:=Tryz.isAgg181
 z127:=Tryz.sizeOf181
 v127:=Tryz.zeroValue181 }
theorem Tryz.Builder_Extra_169:Builder.Extra Tryz.prog Tryz.lays169_ren:={
 sizeBuilder:=by kernel_rfl
 liesBuilder:=by kernel_rfl
 t5:=Tryz.underlying5
 a5:=Tryz.isAgg5
 z5:=Tryz.sizeOf5
 v5:=Tryz.zeroValue5
 infoByte:=by kernel_rfl
 cellsByte:=by kernel_rfl
 sizeByte:=by kernel_rfl
 neB5:=by decide }
open Go.RowKit in
theorem Tryz.Builder_String_any_k (B b:Nat) (l:List UInt8) (w:World) (h:Lib.IsBuilderF 152 5 B b (Lib.byteCells l) w) (hBw:B≤w.heap.size) :
 Calls Tryz.prog 89 #[.pointer (some ⟨b,0,none⟩)] w fun e w'=>e=.returned (.string ⟨l.toArray⟩)∧(Lib.IsBuilderF 152 5 B b (Lib.byteCells l) w'∧Below B w w'∧Lib.OthersKept 5 (some b) w w'):=Any.Builder_String_any_k Tryz.lays169 Tryz.Builder_Extra_169 B b l w h hBw
end Go.Proofs
namespace Go.Proofs.YtodmdkhdbfbfgabGreatDoor
open Go.RowKit Go.Nt
theorem sizeB:(Tryz.prog.info? 152).map (·.size)=some 2:=by kernel_rfl
theorem liesB:liesAt Tryz.prog Tryz.prog.depth 152 (2/Tryz.prog.cellsOf 152) 0 152 1=true:=by kernel_rfl
theorem qdA (b:Nat) (w:World) (h0:w.cell? ⟨b,0,none⟩=some (.pointer none)) (hf:w.frozen? ⟨b,0,none⟩=false) (hsh:w.shape? b=some (152,2)) :
 Calls Tryz.prog 123 #[.pointer (some ⟨b,0,none⟩)] w fun e w'=>e=.returned (.tuple #[])∧w'=w.setCell ⟨b,0,none⟩ (.pointer (some ⟨b,0,none⟩)):=by
 obtain ⟨j,hj,hjs⟩:=Option.map_eq_some_iff.1 sizeB;have k1:=Lib.run_to_unsafe (P:=Tryz.prog) w ⟨b,0,none⟩ Tryz.underlying150 Tryz.underlying199 hj (by rw [hjs];decide) hsh (Nat.zero_lt_succ 1);have k2:=Lib.run_from_unsafe (P:=Tryz.prog) w ⟨b,0,none⟩ Tryz.underlying199 Tryz.underlying150 hj hsh liesB;clear hj hjs;go_enter Tryz.func123,Tryz.ntmps123
 go_wp2;rw [run_callFunc_extern Tryz.func146 (by kernel_rfl) (by kernel_rfl) (by kernel_rfl) (e:=Extern.AbiNoEscape.same) (by kernel_rfl)];rw [Lib.run_noEscape];simp only [Result.andThen];rw [Oper.upon_value];go_wp2;go_end0
 exact ⟨rfl,rfl⟩
theorem qdJ (b:Nat) (w:World) (h0:w.cell? ⟨b,0,none⟩=some (.pointer (some ⟨b,0,none⟩))) :
 Calls Tryz.prog 123 #[.pointer (some ⟨b,0,none⟩)] w fun e w'=>e=.returned (.tuple #[])∧w'=w:=by
 obtain ⟨j,hj,hjs⟩:=Option.map_eq_some_iff.1 sizeB;have k1:=Lib.run_neq_ptr_same (P:=Tryz.prog) w ⟨b,0,none⟩ Tryz.underlying150 hj;clear hj hjs;go_enter Tryz.func123,Tryz.ntmps123
 go_wp2;go_end0
 exact ⟨rfl,rfl⟩
def BdAt (w:World) (b:Nat) (l:Bs):Prop:=∃ p v,w.heap[b]? = some (.cells #[p,v] 152 (0,0))∧(p=.pointer none∨p=.pointer (some ⟨b,0,none⟩))∧Bytes w (b+1) v l
theorem BdAt.lib {w:World} {b:Nat} {l:Bs} (h:BdAt w b l):Lib.IsBuilderF 152 5 b b (Lib.byteCells l) w:=by
 obtain ⟨p,v,hb,hp,hv⟩:=h;have hown:w.ownsRow b 5 1 v (bv l).length (bv l):=by
  have h1:=hv;unfold Bytes at h1;rw [qaW];refine ⟨h1.1,?_⟩;rcases h1.2 with h2 | ⟨g,cap,cur,e,hg,h3⟩
  ·exact .inl h2
  ·exact .inr ⟨g,cap,cur,e,by omega,h3⟩
 have hne:v.ownBlock≠some b:=by
  intro e
  have:=(World.ownsRow.lt hv b e).1
  omega
 have hB:Lib.byteCells l=bv l:=rfl;rw [hB];rcases hp with rfl | rfl
 ·exact .inl ⟨Nat.le_refl _,v,hb,World.ownsRowF_of hown,hne⟩
 ·exact .inr ⟨Nat.le_refl _,v,hb,World.ownsRowF_of hown,hne⟩
theorem BdAt.of_blocks {w w':World} {b:Nat} {l:Bs} (h:BdAt w b l) (hk:But 74 w w'∨∀ k,k<w.heap.size→w'.heap[k]? = w.heap[k]?):BdAt w' b l:=by
 obtain ⟨p,v,hb,hp,hv⟩:=h;rcases hk with hk | hk
 ·refine ⟨p,v,hk.cells hb (by decide),hp,hv.1,?_⟩;rcases hv.2 with h2 | ⟨g,cap,cur,e,hg,h3,h4⟩
  ·exact .inl h2
  ·exact .inr ⟨g,cap,cur,e,hg,hk.cells h3 (by decide),h4⟩
 ·refine ⟨p,v,(hk b (qaa hb)).trans hb,hp,hv.1,?_⟩;rcases hv.2 with h2 | ⟨g,cap,cur,e,hg,h3,h4⟩
  ·exact .inl h2
  ·exact .inr ⟨g,cap,cur,e,hg,(hk g (qaa h3)).trans h3,h4⟩
def BdKept (b:Nat) (w w':World):Prop:=w'.os=w.os∧w'.tape=w.tape∧w'.output=w.output∧w.heap.size≤w'.heap.size∧∀ (k:Nat) (o:Obj),w.heap[k]? = some o→k≠b→isOf 5 o=false→w'.heap[k]? = some o
theorem qdr (b:Nat) (l:Bs) (s:Bs) (w:World) (h:BdAt w b l) (hl:l.length≤100000000) (hs:s.length≤100000000) :
 Calls Tryz.prog 87 #[.pointer (some ⟨b,0,none⟩),.string (txt s)] w fun e w'=>(∃ v,e=.returned v)∧BdAt w' b (l++s)∧BdKept b w w'∧Below b w w':=by
 obtain ⟨i0,hi,hz0,hz1,hz2⟩:=info_parts Tryz.info5;obtain ⟨p,v,hb,hp,hv⟩:=h;have hbl:=qaa hb;obtain ⟨X,hX⟩:∃ X,X=txt s:=⟨_,rfl⟩;have Sx:X.size=s.length:=by rw [hX,qab]
 rw [←hX];have HX:=hidI hX;have HS:=hidI Sx;have hX9:X.size≤100000000:=by omega
 have A:Hid (Calls Tryz.prog 123 #[.pointer (some ⟨b,0,none⟩)] w fun e w'=>e=.returned (.tuple #[])∧w'.heap[b]? = some (.cells #[.pointer (some ⟨b,0,none⟩),v] 152 (0,0))∧(∀ k,k≠b→w'.heap[k]? = w.heap[k]?)∧w'.heap.size=w.heap.size∧w'.os=w.os∧w'.tape=w.tape∧w'.output=w.output):=by
  refine hidI ?_;rcases hp with rfl | rfl
  ·refine (qdA b w (by rw [cell_of_row w b 0 _ 152 (0,0) hb];rfl) (frozen_of_row w b 0 _ 152 hb) (by simp [World.shape?,hb])).mono ?_;rintro e w' ⟨rfl,rfl⟩;exact ⟨rfl,heap_setCell_same w b 0 _ 152 _ hb,fun k hk=>Below.heap_setCell w ⟨b,0,none⟩ _ k hk,by simp,rfl,rfl,rfl⟩
  ·refine (qdJ b w (by rw [cell_of_row w b 0 _ 152 (0,0) hb];rfl)).mono ?_;rintro e w' ⟨rfl,rfl⟩;exact ⟨rfl,hb,fun _ _=>rfl,rfl,rfl,rfl,rfl⟩
 obtain ⟨n,hn⟩:∃ n,n=l.length:=⟨_,rfl⟩;have Hn:=hidI hn;have Hv:=hidI hv;have hn9:n≤100000000:=by omega
 clear hb hp hv hX Sx hn;go_enter Tryz.func87,Tryz.ntmps87
 go_wp2_with fail;refine A.out.mono ?_;rintro e W1 ⟨rfl,hb1,hk1,hs1,ho1,ht1,hu1⟩;have hv1:W1.ownsRow (b+1) 5 1 v n (bv l):=by
  have h1:=Hv.out;unfold Bytes at h1;rw [←Hn.out] at h1;refine ⟨h1.1,?_⟩;rcases h1.2 with h2 | ⟨g,cap,cur,e,hg,h3,h4⟩
  ·exact .inl h2
  ·exact .inr ⟨g,cap,cur,e,hg,(hk1 g (by omega)).trans h3,h4⟩
 have c1:W1.cell? ⟨b,1,none⟩=some v:=by rw [cell_of_row W1 b 1 _ 152 (0,0) hb1];rfl
 have Ho:=hidI hv1;have Hb1:=hidI hb1;obtain ⟨a9,c9,rfl⟩:=Bytes.slice (w:=W1) (B:=b+1) (v:=v) (l:=l) (by unfold Bytes;rw [←Hn.out];exact hv1);rw [←Hn.out] at Ho c1 Hb1;have hK1:=hidI (And.intro hk1 (And.intro hs1 (And.intro ho1 (And.intro ht1 hu1))));clear A hk1 hb1 hv1 hs1 ho1 ht1 hu1;go_wp2_with (at_builtin;refine Lib.wpList_append_own_string _ rfl (.tmp 12) (.tmp 13) 50 9 rfl (b+1) 5 i0 Tryz.underlying50 Tryz.underlying9 hi hz0 hz1 hz2 _ _ _ rfl Ho.out X rfl ?c3 ?c4 ?c5 ?_)
 case c3=>unfold maxLen;omega
 case c4=>omega
 case c5=>have:=hK1.out.2.1;omega
 intro v2 W2 hown2 hgrow2 _;have hbl1:b<W1.heap.size:=qaa Hb1.out;have hne:b≠b+1:=by omega
 have hb2:W2.heap[b]? = some (.cells #[.pointer (some ⟨b,0,none⟩),.slice a9 n c9] 152 (0,0)):=(hgrow2.block b hbl1 (fun e=>by have:=(World.ownsRow.lt Ho.out b e.symm).1;omega)).trans Hb1.out;have hY2:Bytes W2 (b+1) v2 (l++s):=by
  unfold Bytes;have h1:=HX.out;have h2:=Hn.out;have h3:=HS.out;rw [qaL,List.length_append,←h2,←h3,←qfe s,←h1];exact hown2
 obtain ⟨a2,c2,rfl⟩:=hY2.slice;have d1:W2.cell? ⟨b,1,none⟩=some (.slice a9 n c9):=by rw [cell_of_row W2 b 1 _ 152 (0,0) hb2];rfl
 have f1:=frozen_of_row W2 b 1 _ 152 hb2;obtain ⟨ns,hns⟩:∃ ns,ns=(l++s).length:=⟨_,rfl⟩;rw [←hns] at hY2;rw [show (l++s).length=ns from hns.symm] at hown2 ⊢;obtain ⟨W3,hW3⟩:∃ W3,W3=W2.setCell ⟨b,1,none⟩ (.slice a2 ns c2):=⟨_,rfl⟩;have hb3:W3.heap[b]? = some (.cells #[.pointer (some ⟨b,0,none⟩),.slice a2 ns c2] 152 (0,0)):=by rw [hW3];exact heap_setCell_same _ b 1 _ 152 _ hb2
 have eo:∀ k,k≠b→W3.heap[k]? = W2.heap[k]? := fun k hk=>by rw [hW3];exact Below.heap_setCell W2 ⟨b,1,none⟩ _ k hk
 have HB3:Hid (BdAt W3 b (l++s)):=hidI ⟨_,_,hb3,.inr rfl,hY2.1,by
  rcases hY2.2 with h2 | ⟨g,cap,cur,e,hg,h3,h4⟩
  ·exact .inl h2
  ·exact .inr ⟨g,cap,cur,e,hg,(eo g (by omega)).trans h3,h4⟩⟩
 obtain ⟨q1,q2,q3,q4,q5⟩:=hK1.out;have hsz3:w.heap.size≤W3.heap.size:=by rw [hW3];have:=hgrow2.size;simp;omega
 have HK3:Hid (BdKept b w W3):=hidI ⟨by rw [hW3];exact hgrow2.os.trans q3,by rw [hW3];exact hgrow2.tape.trans q4,by rw [hW3];exact hgrow2.output.trans q5,hsz3,fun k o hk hkb ho=>by
  rw [eo k hkb];have hk1:=(q1 k hkb).trans hk;refine (hgrow2.block k (qaa hk1) (fun e => ?_)).trans hk1;rcases Ho.out.2 with ⟨hv,_⟩ | ⟨g,cap,cur,hv,_,hh,_⟩
  ·cases hv;cases e
  ·cases hv
   cases e
   rw [hh] at hk1;cases hk1
   simp [isOf] at ho⟩
 have HL3:Hid (Below b w W3):=hidI ⟨HK3.out.1,HK3.out.2.1,HK3.out.2.2.1,hsz3,fun k hk=>by
  rw [eo k (by omega)];refine (hgrow2.block k (by omega) (fun e => ?_)).trans (q1 k (by omega))
  have:=(World.ownsRow.lt Ho.out k e.symm).1
  omega⟩
 have HW3:=hidI hW3;clear hown2 hgrow2 hY2 hb2 hb3 eo q1 q2 q3 q4 q5 hW3 hsz3 hns;go_wp2_with (first | (rw [←HW3.out]) | fail);go_ret2
 exact ⟨⟨_,rfl⟩,HB3.out,HK3.out,HL3.out⟩
end Go.Proofs.YtodmdkhdbfbfgabGreatDoor
